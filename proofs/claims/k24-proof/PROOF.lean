import PyProof.Rows.All
import Wide.All
import OpenK.AllK
import Wide.FinOn
import PyProof.EqAt
import PyProof.EqKinds
import PyProof.TupleKey
import PyProof.P3Eq
import PyProof.FactsAll.tuple_2
import KE.KSortTup
import KE.KDictList
import Lean
import PyProof.TupleCall
import PyProof.AttrMiss
import PyProof.IsiH_tuple
import KE.KDictOf
import PyProof.ZipIter
import PyProof.Draws
import PyProof.Rows.FactsT2
import KE.KRevIter
import PyProof.EnumStmt
import PyProof.TupleOps
import PyProof.ListRange
import PyProof.EnumFor
import PyProof.EnumMake
import PyProof.Rows.SumAny
import PyProof.AutoListH
import PyProof.FactsAll.list_3
import KE.KIntText
import PyProof.StrBlockG
import PyProof.StrLawsTight
import PyProof.StrLawsChain
import PyProof.Rows.StrItems
import KE.KSortKey
import KE.KLam
import PyProof.StrLawsRepr
import PySem.Challenge.RW_everyfork_k24_inputs_in_order
open PySem.W (Frag mg_of mg_none_of keepIn KeysLit)
noncomputable section
set_option Elab.async false
set_option linter.all false
set_option maxRecDepth 100000
set_option maxHeartbeats 4000000
namespace L2
open PySem PySem.Spec PyProof.Rows
mutual
def pk:PyData→Bool
 | .int _=>true
 | .str x=>PyData.strOk x
 | .tuple l=>pks l
 | _=>false
def pks:List PyData→Bool
 | []=>true
 | d::r=>pk d&&pks r
end
mutual
def hsh (w:World):PyData→Int
 | .int i=>hashInt i
 | .str x=>hashStr w x
 | .tuple l=>reduceHash (Builtin.Tuple.tupleHashOf (kn w l))
 | _=>0
def kn (w:World):List PyData→List Int
 | []=>[]
 | d::r=>hsh w d::kn w r
end
mutual
def drw:PyData→Nat
 | .tuple l=>uJ l+1
 | _=>1
def uJ:List PyData→Nat
 | []=>0
 | d::r=>drw d+uJ r
end
mutual
inductive RdT (h:Heap):Value→PyData→Prop
 | int (i:Int) (t:Tok):RdT h (.int i t) (.int i)
 | str (x:Str) (t:Tok):RdT h (.str x t) (.str x)
 | tup {a:Addr} {o:Obj} {vs:Array Value} {n:Nat} {ds:List PyData}:h.get? a=some o→o.cls=.type "tuple"→o.data=.seq vs n→cN h vs.toList ds→RdT h (.ref a) (.tuple ds)
inductive cN (h:Heap):List Value→List PyData→Prop
 | nil:cN h [] []
 | cons {v:Value} {vs:List Value} {d:PyData} {ds:List PyData}:RdT h v d→cN h vs ds→cN h (v::vs) (d::ds)
end
mutual
theorem RdT.reads {h:Heap}:∀ {v:Value} {d:PyData},RdT h v d→∃ as,Reads h v d as
 | _,_,.int i t=>⟨_,.int i t⟩
 | _,_,.str x t=>⟨_,.str x t⟩
 | _,_,.tup h1 h2 h3 r=>by
  obtain ⟨as,q⟩:=cN.reads r
  exact ⟨_,.tuple h1 h2 h3 q⟩
theorem cN.reads {h:Heap}:∀ {v:List Value} {d:List PyData},cN h v d→∃ as,ReadsAll h v d as
 | _,_,.nil=>⟨_,.nil⟩
 | _,_,.cons h r=>by
  obtain ⟨as,q⟩:=RdT.reads h
  obtain ⟨bs,p⟩:=cN.reads r
  exact ⟨_,.cons q p⟩
end
mutual
theorem RdT.inj {h:Heap}:∀ {v:Value} {d e:PyData},RdT h v d→RdT h v e→d=e
 | _,_,_,.int i t,q=>by cases q; rfl
 | _,_,_,.str x t,q=>by cases q; rfl
 | _,_,_,.tup h1 h2 h3 r,q=>by
  cases q with
  | tup k1 k2 k3 r2 =>
   rw [h1] at k1
   cases k1
   rw [h3] at k3
   cases k3
   rw [cN.inj r r2]
theorem cN.inj {h:Heap}:∀ {v:List Value} {d e:List PyData},cN h v d→cN h v e→d=e
 | _,_,_,.nil,q=>by cases q; rfl
 | _,_,_,.cons h r,q=>by
  cases q with
  | cons h' r'=>rw [RdT.inj h h',cN.inj r r']
end
mutual
theorem RdT.keeps {h h':Heap} (k:∀ a o vs n,h.get? a=some o→o.data=.seq vs n→h'.get? a=some o):∀ {v:Value} {d:PyData},RdT h v d→RdT h' v d
 | _,_,.int i t=>.int i t
 | _,_,.str x t=>.str x t
 | _,_,.tup h1 h2 h3 r=>.tup (k _ _ _ _ h1 h3) h2 h3 (cN.keeps k r)
theorem cN.keeps {h h':Heap} (k:∀ a o vs n,h.get? a=some o→o.data=.seq vs n→h'.get? a=some o):∀ {v:List Value} {d:List PyData},cN h v d→cN h' v d
 | _,_,.nil=>.nil
 | _,_,.cons h r=>.cons (RdT.keeps k h) (cN.keeps k r)
end
mutual
theorem fU:∀ {d:PyData},pk d=true→d.canLay0=true
 | .int i,_=>rfl
 | .str x,h=>h
 | .tuple l,h=>by
  simp only [PyData.canLay0]
  exact sM (by simpa only [pk] using h)
 | .none,h=>by cases h
 | .bool _,h=>by cases h
 | .list _,h=>by cases h
 | .dict _,h=>by cases h
theorem sM:∀ {l:List PyData},pks l=true→PyData.canLayAll0 l=true
 | [],_=>rfl
 | d::r,h=>by
  simp only [pks,Bool.and_eq_true] at h
  simp only [PyData.canLayAll0,Bool.and_eq_true]
  exact ⟨fU h.1,sM h.2⟩
end
mutual
theorem vx:∀ {d e:PyData},pk d=true→pk e=true→(PyData.eqv d e=true↔d=e)
 | .int i,e,_,h=>by
  cases e with
  | int j=>simp [PyData.eqv]
  | str y=>simp [PyData.eqv]
  | tuple l=>simp [PyData.eqv]
  | _=>cases h
 | .str x,e,_,h=>by
  cases e with
  | int j=>simp [PyData.eqv]
  | str y=>simp [PyData.eqv]
  | tuple l=>simp [PyData.eqv]
  | _=>cases h
 | .tuple l,e,h1,h=>by
  cases e with
  | int j=>simp [PyData.eqv]
  | str y=>simp [PyData.eqv]
  | tuple m =>
   simp only [PyData.eqv,PyData.tuple.injEq]
   exact sB (by simpa only [pk] using h1) (by simpa only [pk] using h)
  | _=>cases h
 | .none,_,h,_=>by cases h
 | .bool _,_,h,_=>by cases h
 | .list _,_,h,_=>by cases h
 | .dict _,_,h,_=>by cases h
theorem sB:∀ {l m:List PyData},pks l=true→pks m=true→(PyData.eqvAll l m=true↔l=m)
 | [],[],_,_=>by simp [PyData.eqvAll]
 | [],_::_,_,_=>by simp [PyData.eqvAll]
 | _::_,[],_,_=>by simp [PyData.eqvAll]
 | d::r,e::m,h1,h2=>by
  simp only [pks,Bool.and_eq_true] at h1 h2
  simp only [PyData.eqvAll,Bool.and_eq_true,List.cons.injEq]
  rw [vx h1.1 h2.1,sB h1.2 h2.2]
end
noncomputable instance decPD:DecidableEq PyData:=fun a b=>Classical.propDecidable (a=b)
theorem nX {d e:PyData} (h1:pk d=true) (h2:pk e=true):PyData.eqv d e=decide (d=e):=by
 rw [Bool.eq_iff_iff,decide_eq_true_eq]
 exact vx h1 h2
open PySem PySem.Spec PyProof.Rows
section
variable {prog:Program} {w:World}
theorem gS {s:Shared} {a:Addr} {d:PyData} (r:RdT s.heap (.ref a) d):s.TypeIs (.ref a) "tuple":=by
 cases r with
 | tup h1 h2 h3 r=>exact ⟨_,h1,h2⟩
mutual
theorem tG:∀ (d:PyData) {A:Around} {E:Value→Shared→Prop} {s:Shared} {v:Value} {Q:Int→Shared→Prop},RdT s.heap v d→A.units+d.depth<cLine→Q (hsh w d) { s with toks:=s.toks+drw d } →
  wpAny (model prog w) A (pyHash v) Q E s
 | .int i,A,E,s,v,Q,r,hu,h=>by
  cases r
  exact wpAny_pyHash_int (by simpa only [hsh,drw] using h)
 | .str x,A,E,s,v,Q,r,hu,h=>by
  cases r
  exact wpAny_pyHash_str (by simpa only [hsh,drw] using h)
 | .tuple ds,A,E,s,v,Q,r,hu,h=>by
  obtain ⟨a,rfl⟩:∃ a,v=.ref a:=by cases r; exact ⟨_,rfl⟩
  have hT:=gS r
  cases r with
  | @tup _ o items n _ ho _ hd hi =>
   have hu':A.units<cLine:=by omega
   unfold pyHash
   first | unfold pyHashByItsType | skip
   first | refine wpAny_bind (wpAny_cRoomFor_or (.inr hu') ?_) | skip
   refine wpAny_bind (wpAny_specialOf hT F.slot_tuple_hash.lookup ?_)
   show wpAny _ _ (if (some (Value.builtin "tuple.__hash__")==some Value.none)=true then _ else _) Q E s
   rw [if_neg (by rw [beq_builtin_none]; exact Bool.false_ne_true)]
   refine wpAny_bind (wpAny_specialOf hT F.slot_tuple_hash.lookup ?_)
   show wpAny _ _ (callSpecialIfBoundUnlessNone? (.ref a) "__hash__" _ >>= _) Q E s
   refine wpAny_bind (wpAny_callSpecialIfBoundUnlessNone?_slot hT F.slot_tuple_hash (wpAny_call_entry F.slot_tuple_hash hT F.entry_tuple_hash ?_ (F.args_tuple_hash_1 _)))
   show wpAny _ _ (Builtin.Tuple.tupleItemsOf (.ref a) >>= _) _ _ s
   refine wpAny_bind (wpAny_tupleItemsOf ho hd ?_)
   refine wpAny_bind ?_
   rw [← Array.forIn_toList]
   have hin:A.in1.units≤A.units+1:=by simp [Around.in1]
   refine pJ ds (b:=#[]) hi (by simp only [PyData.depth] at hu; omega) ?_
   show wpAny _ _ (retInt (Builtin.Tuple.tupleHashOf ((#[]:Array Int)++(kn w ds).toArray).toList)) _ _ _
   rw [show ((#[]:Array Int)++(kn w ds).toArray).toList=kn w ds from by simp]
   refine wpAny_ret_mkInt ?_
   show wpAny _ _ (if (decide (-(2:Int) ^ 63≤Builtin.Tuple.tupleHashOf (kn w ds))&&decide (Builtin.Tuple.tupleHashOf (kn w ds)<2 ^ 63))=true then _ else _) Q E _
   simp only [hsh,drw] at h
   unfold reduceHash at h
   by_cases hr:(decide (-(2:Int) ^ 63≤Builtin.Tuple.tupleHashOf (kn w ds))&&decide (Builtin.Tuple.tupleHashOf (kn w ds)<2 ^ 63))=true
   ·rw [if_pos hr]
    rw [if_pos hr] at h
    exact wpAny_pure (by simpa [Nat.add_assoc] using h)
   ·rw [if_neg hr]
    rw [if_neg hr] at h
    exact wpAny_bind (wpAny_rule (wpAny_pure (by simpa [Nat.add_assoc] using h)))
 | .none,A,E,s,v,Q,r,hu,h=>by cases r
 | .bool _,A,E,s,v,Q,r,hu,h=>by cases r
 | .list _,A,E,s,v,Q,r,hu,h=>by cases r
 | .dict _,A,E,s,v,Q,r,hu,h=>by cases r
theorem pJ:∀ (ds:List PyData) {A:Around} {E:Value→Shared→Prop} {s:Shared} {vs:List Value} {b:Array Int} {Q:Array Int→Shared→Prop},cN s.heap vs ds→A.units+PyData.depthAll ds<cLine→Q (b++(kn w ds).toArray) { s with toks:=s.toks+uJ ds } →
  wpAny (model prog w) A (forIn vs b fun x hs=>do
   let h ← pyHash x
   pure (ForInStep.yield (hs.push h))) Q E s
 | [],A,E,s,vs,b,Q,r,hu,h=>by
  cases r
  rw [List.forIn_nil]
  exact wpAny_pure (by simpa [kn,uJ] using h)
 | d::ds,A,E,s,vs,b,Q,r,hu,h=>by
  cases r with
  | @cons v vs _ _ r1 r2 =>
   rw [List.forIn_cons]
   simp only [PyData.depthAll] at hu
   refine wpAny_bind (wpAny_bind (tG d r1 (by omega) (wpAny_pure ?_)))
   refine pJ ds (s:={ s with toks:=s.toks+drw d }) r2 (by omega) ?_
   simpa [kn,uJ,Nat.add_assoc] using h
end
mutual
theorem ph:∀ (d:PyData) {A:Around} {E:Value→Shared→Prop} {s:Shared} {v:Value} {n:Nat} {Q:Bool→Shared→Prop},RdT s.heap v d→d.depth≤n→Q true s→wpAny (model prog w) A (eqIsQuiet n v) Q E s
 | .int i,A,E,s,v,n,Q,r,hu,h=>by
  cases r
  rw [eqIsQuiet_byValue _ (by rfl)]
  exact wpAny_pure h
 | .str x,A,E,s,v,n,Q,r,hu,h=>by
  cases r
  rw [eqIsQuiet_byValue _ (by rfl)]
  exact wpAny_pure h
 | .tuple ds,A,E,s,v,n,Q,r,hu,h=>by
  obtain ⟨a,rfl⟩:∃ a,v=.ref a:=by cases r; exact ⟨_,rfl⟩
  have hT:=gS r
  cases n with
  | zero=>simp [PyData.depth] at hu
  | succ m =>
   cases r with
   | @tup _ o items n _ ho _ hd hi =>
    unfold eqIsQuiet
    refine wpAny_bind (wpAny_specialOf hT F.slot_tuple_eq.lookup ?_)
    show wpAny _ _ (isInstance (.ref a) (.type "tuple") >>= _) _ _ s
    refine wpAny_bind (wpAny_isInstance hT isSubtype_tuple_tuple ?_)
    simp only [Bool.not_true,Bool.false_eq_true,if_false]
    refine wpAny_bind (wpAny_seqItems ho hd ?_)
    refine wpAny_bind ?_
    show wpAny _ _ (forIn items _ _) _ _ s
    rw [← Array.forIn_toList]
    refine mX ds (m:=m) hi (by simp only [PyData.depth] at hu; omega) ?_
    exact wpAny_pure h
 | .none,A,E,s,v,n,Q,r,hu,h=>by cases r
 | .bool _,A,E,s,v,n,Q,r,hu,h=>by cases r
 | .list _,A,E,s,v,n,Q,r,hu,h=>by cases r
 | .dict _,A,E,s,v,n,Q,r,hu,h=>by cases r
theorem mX:∀ (ds:List PyData) {A:Around} {E:Value→Shared→Prop} {s:Shared} {vs:List Value} {m:Nat} {Q:Option Bool×Unit→Shared→Prop},cN s.heap vs ds→PyData.depthAll ds≤m→Q (none,()) s →
  wpAny (model prog w) A (forIn vs (none,()) fun y __s=>do
   let __do_lift ← eqIsQuiet m y
   if (!__do_lift)=true then pure (ForInStep.done (some false,())) else pure (ForInStep.yield (none,()))) Q E s
 | [],A,E,s,vs,m,Q,r,hu,h=>by
  cases r
  rw [List.forIn_nil]
  exact wpAny_pure h
 | d::ds,A,E,s,vs,m,Q,r,hu,h=>by
  cases r with
  | @cons v vs _ _ r1 r2 =>
   rw [List.forIn_cons]
   simp only [PyData.depthAll] at hu
   refine wpAny_bind (wpAny_bind (ph d r1 (by omega) ?_))
   simp only [Bool.not_true,Bool.false_eq_true,if_false]
   exact wpAny_pure (mX ds r2 (by omega) h)
end
def Cd (h:Heap) (d:PyData) (a:Addr):Prop:=RdT h (.ref a) d∧pk d=true∧d.depth≤8
noncomputable def wz (prog:Program) (w:World):HeapKind prog w PyData where
 is:=Cd
 hash:=hsh w
 draws:=drw
 room:=fun A=>A.units+40<cLine
 inj:=fun hx hy=>hx.1.inj hy.1
 keeps:=fun {h h' k a d o es ep} x ho hd hs=>⟨x.1.keeps fun b o' vs n e1 e2=>(hs.2 b (by
  rintro rfl
  rw [ho] at e1
  cases e1
  rw [hd] at e2
  cases e2)).trans e1,x.2⟩
 pyHash:=fun hu hk h=>tG _ hk.1 (by have:=hk.2.2; omega) h
 eqBool:=fun {A E s x y a b Q} hu hx hy h=>by
  obtain ⟨as,r1⟩:=hx.1.reads
  obtain ⟨bs,r2⟩:=hy.1.reads
  have d1:=hx.2.2
  have d2:=hy.2.2
  refine SeqAt.eqAt_reads x y A s _ _ as bs r1 r2 (fU hx.2.1) (fU hy.2.1) (by omega) prog w E Q ?_
  rw [nX hx.2.1 hy.2.1]
  exact h
 quiet:=fun hk h=>ph _ hk.1 hk.2.2 h
end
open PySem PySem.Spec PyProof.Rows
mutual
noncomputable def dlt:PyData→PyData→Bool
 | .int a,.int b=>decide (a<b)
 | .str x,.str y=>decide (x.cps.toList<y.cps.toList)
 | .tuple l,.tuple m=>rj l m
 | _,_=>false
noncomputable def rj:List PyData→List PyData→Bool
 | [],[]=>false
 | [],_::_=>true
 | _::_,[]=>false
 | a::l,b::m=>if a=b then rj l m else dlt a b
end
mutual
inductive Cok:PyData→PyData→Prop
 | int (i j:Int):Cok (.int i) (.int j)
 | str (x y:Str):Cok (.str x) (.str y)
 | tup {l m:List PyData}:kw l m→Cok (.tuple l) (.tuple m)
inductive kw:List PyData→List PyData→Prop
 | nil (m:List PyData):kw [] m
 | nil2 (l:List PyData):kw l []
 | eq {a:PyData} {l m:List PyData}:kw l m→kw (a::l) (a::m)
 | ne {a b:PyData} {l m:List PyData}:a≠b→Cok a b→kw (a::l) (b::m)
end
noncomputable def dif:List PyData→List PyData→Option Bool
 | a::l,b::m=>if a=b then dif l m else some (dlt a b)
 | _,_=>none
theorem mh:∀ l m:List PyData,rj l m=(dif l m).getD (decide (l.length<m.length))
 | [],[]=>by simp [rj,dif]
 | [],_::_=>by simp [rj,dif]
 | _::_,[]=>by simp [rj,dif]
 | a::l,b::m=>by
  simp only [rj,dif]
  by_cases h:a=b
  ·rw [if_pos h,if_pos h,mh l m]
   simp only [List.length_cons,Nat.add_lt_add_iff_right]
  ·rw [if_neg h,if_neg h]
   rfl
theorem hV {h:Heap}:∀ {vs:List Value} {ds:List PyData},cN h vs ds→vs.length=ds.length
 | _,_,.nil=>rfl
 | _,_,.cons _ r=>by rw [List.length_cons,List.length_cons,hV r]
theorem lQ (A:Around):A.in1.units≤A.units+1:=by simp [Around.in1]
section
variable {prog:Program} {w:World}
mutual
theorem yo:∀ (d e:PyData) {A:Around} {E:Value→Shared→Prop} {s:Shared} {u v:Value} {Q:Value→Shared→Prop},RdT s.heap u d→RdT s.heap v e→pk d=true→pk e=true→Cok d e→A.units+d.depth+2<cLine→Q (.bool (dlt d e)) s →
  wpAny (model prog w) A (richCompare .Lt u v) Q E s
 | .int i,.int j,A,E,s,u,v,Q,r1,r2,p1,p2,c,hu,h=>by
  cases r1
  cases r2
  exact lt_int (by simpa only [dlt] using h)
 | .str x,.str y,A,E,s,u,v,Q,r1,r2,p1,p2,c,hu,h=>by
  cases r1
  cases r2
  exact lt_str (by simpa only [dlt] using h)
 | .tuple l,.tuple m,A,E,s,u,v,Q,r1,r2,p1,p2,c,hu,h=>by
  obtain ⟨a,rfl⟩:∃ a,u=.ref a:=by cases r1; exact ⟨_,rfl⟩
  obtain ⟨b,rfl⟩:∃ a,v=.ref a:=by cases r2; exact ⟨_,rfl⟩
  have hTa:=gS r1
  have hTb:=gS r2
  cases r1 with
  | @tup _ oa xs na _ hoa _ hda hia =>
   cases r2 with
   | @tup _ ob ys nb _ hob _ hdb hib =>
    have hin:=lQ A
    simp only [PyData.depth] at hu
    refine wpAny_richCompare_same_room (op:=.Lt) hTa hTb F.slot_tuple_lt (wpAny_call_entry F.slot_tuple_lt hTa F.entry_tuple_lt ?_ (F.args_tuple_lt_2 _ _)) (by omega)
    show wpAny _ _ (isInstance (.ref b) (.type "tuple") >>= _) _ _ s
    refine wpAny_bind (wpAny_isInstance hTb isSubtype_tuple_tuple ?_)
    simp only [Bool.not_true,Bool.false_eq_true,if_false]
    refine wpAny_bind (wpAny_tupleItemsOf hoa hda ?_)
    refine wpAny_bind (wpAny_tupleItemsOf hob hdb ?_)
    refine wpAny_bind ?_
    have hc:kw l m:=by cases c; assumption
    simp only [dlt,mh] at h
    have e1:=hV hia
    have e2:=hV hib
    refine vW l m hia hib (by simpa only [pk] using p1) (by simpa only [pk] using p2) hc (by omega) (fun z hz=>?_) (fun hz=>?_)
    ·rw [hz] at h
     exact wpAny_pure ⟨_,rfl,(fun e=>nomatch e),h⟩
    ·rw [hz] at h
     refine wpAny_pure ⟨_,rfl,(fun e=>nomatch e),?_⟩
     show Q (.bool (decide (xs.size<ys.size))) s
     rw [← Array.length_toList,← Array.length_toList,e1,e2]
     exact h
 | .none,_,A,E,s,u,v,Q,r1,r2,p1,p2,c,hu,h=>by cases r1
 | .bool _,_,A,E,s,u,v,Q,r1,r2,p1,p2,c,hu,h=>by cases r1
 | .list _,_,A,E,s,u,v,Q,r1,r2,p1,p2,c,hu,h=>by cases r1
 | .dict _,_,A,E,s,u,v,Q,r1,r2,p1,p2,c,hu,h=>by cases r1
 | .int _,.str _,A,E,s,u,v,Q,r1,r2,p1,p2,c,hu,h=>by cases c
 | .int _,.tuple _,A,E,s,u,v,Q,r1,r2,p1,p2,c,hu,h=>by cases c
 | .str _,.int _,A,E,s,u,v,Q,r1,r2,p1,p2,c,hu,h=>by cases c
 | .str _,.tuple _,A,E,s,u,v,Q,r1,r2,p1,p2,c,hu,h=>by cases c
 | .tuple _,.int _,A,E,s,u,v,Q,r1,r2,p1,p2,c,hu,h=>by cases c
 | .tuple _,.str _,A,E,s,u,v,Q,r1,r2,p1,p2,c,hu,h=>by cases c
 | _,.none,A,E,s,u,v,Q,r1,r2,p1,p2,c,hu,h=>by cases r2
 | _,.bool _,A,E,s,u,v,Q,r1,r2,p1,p2,c,hu,h=>by cases r2
 | _,.list _,A,E,s,u,v,Q,r1,r2,p1,p2,c,hu,h=>by cases r2
 | _,.dict _,A,E,s,u,v,Q,r1,r2,p1,p2,c,hu,h=>by cases r2
theorem vW:∀ (l m:List PyData) {A:Around} {E:Value→Shared→Prop} {s:Shared} {us vs:List Value} {R:Option PySem.Fin×Unit→Shared→Prop},cN s.heap us l→cN s.heap vs m→pks l=true→pks m=true→kw l m→A.units+PyData.depthAll l+2<cLine →
  (∀ b,dif l m=some b→R (some (.done (.ret (.bool b))),()) s)→(dif l m=none→R (none,()) s) →
  wpAny (model prog w) A (forIn (us.zip vs) (none,()) fun x __s=>do
   let __do_lift ← eqBool x.fst x.snd
   if (!__do_lift)=true then do
       rule "tuple.compare.by-the-first-pair-that-differs"
       let __do_lift ← richCompare CmpOp.Lt x.fst x.snd
       let __do_lift ← ret __do_lift
       pure (ForInStep.done (some __do_lift,()))
    else pure (ForInStep.yield (none,()))) R E s
 | [],m,A,E,s,us,vs,R,r1,r2,p1,p2,c,hu,h1,h2=>by
  cases r1
  rw [List.zip_nil_left,List.forIn_nil]
  exact wpAny_pure (h2 (by simp [dif]))
 | a::l,[],A,E,s,us,vs,R,r1,r2,p1,p2,c,hu,h1,h2=>by
  cases r2
  rw [List.zip_nil_right,List.forIn_nil]
  exact wpAny_pure (h2 (by simp [dif]))
 | a::l,b::m,A,E,s,us,vs,R,r1,r2,p1,p2,c,hu,h1,h2=>by
  cases r1 with
  | @cons u us _ _ q1 r1 =>
   cases r2 with
   | @cons v vs _ _ q2 r2 =>
    simp only [pks,Bool.and_eq_true] at p1 p2
    simp only [PyData.depthAll] at hu
    rw [List.zip_cons_cons,List.forIn_cons]
    obtain ⟨as,ra⟩:=q1.reads
    obtain ⟨bs,rb⟩:=q2.reads
    refine wpAny_bind (wpAny_bind (SeqAt.eqAt_reads a b A s _ _ as bs ra rb (fU p1.1) (fU p2.1) (by omega) prog w E _ ?_))
    rw [nX p1.1 p2.1]
    by_cases hab:a=b
    ·have hd:dif (a::l) (b::m)=dif l m:=by simp only [dif]; rw [if_pos hab]
     rw [decide_eq_true hab]
     simp only [Bool.not_true,Bool.false_eq_true,if_false]
     rw [hd] at h1 h2
     refine wpAny_pure (vW l m r1 r2 p1.2 p2.2 ?_ (by omega) h1 h2)
     cases c with
     | eq c=>exact c
     | ne n _=>exact absurd hab n
    ·have hd:dif (a::l) (b::m)=some (dlt a b):=by simp only [dif]; rw [if_neg hab]
     rw [decide_eq_false hab]
     simp only [Bool.not_false,if_true]
     refine wpAny_bind (wpAny_rule (wpAny_bind (yo a b q1 q2 p1.1 p2.1 ?_ (by omega) ?_)))
     ·cases c with
      | eq c=>exact absurd rfl hab
      | ne _ c=>exact c
     ·exact wpAny_bind (wpAny_pure (wpAny_pure (wpAny_pure (h1 _ hd))))
end
end
open PySem PySem.W PySem.Spec PyProof.Rows
def cI {α:Type} (n:Nat) (lt:Nat→Nat→Bool) (P:α→Prop):KasT α→Prop
 | .ret a=>P a
 | .ask i j k=>i<n∧j<n∧cI n lt P (k (lt i j))
theorem cI.bind {α β:Type} {n:Nat} {lt:Nat→Nat→Bool} {P:α→Prop} {R:β→Prop} {f:α→KasT β} (hf:∀ a,P a→cI n lt R (f a)):∀ {t:KasT α},cI n lt P t→cI n lt R (t.bind f)
 | .ret a,h=>hf a h
 | .ask i j k,h=>⟨h.1,h.2.1,cI.bind hf (t:=k (lt i j)) h.2.2⟩
theorem kW {α:Type} {n:Nat} {lt:Nat→Nat→Bool} {P R:α→Prop}:∀ {t:KasT α},cI n lt P t→cI n lt R t→cI n lt (fun a=>P a∧R a) t
 | .ret a,h,k=>⟨h,k⟩
 | .ask i j k,h,q=>⟨h.1,h.2.1,kW (t:=k (lt i j)) h.2.2 q.2.2⟩
theorem cI.wp {α:Type} {n:Nat} {lt:Nat→Nat→Bool} {P:α→Prop} {cmp:Nat→Nat→(Bool→Shared→Prop)→Shared→Prop} {Q:α→Shared→Prop} {J:Shared→Prop}
  (hc:∀ i j (C:Bool→Shared→Prop) s,i<n→j<n→J s→(∀ s',J s'→C (lt i j) s')→cmp i j C s) (hQ:∀ a s,P a→J s→Q a s):∀ {t:KasT α} {s:Shared},cI n lt P t→J s→t.kasWp cmp Q s
 | .ret a,s,h,j=>hQ a s h j
 | .ask i j k,s,h,jj=>hc i j _ s h.1 h.2.1 jj fun s' j'=>cI.wp hc hQ (t:=k (lt i j)) h.2.2 j'
def Gp (n:Nat) (p:Array Nat):Prop:=p.Perm (List.range n).toArray
theorem Gp.size {n:Nat} {p:Array Nat} (h:Gp n p):p.size=n:=by
 have:=h.size_eq
 simpa using this
theorem Gp.get {n:Nat} {p:Array Nat} (h:Gp n p) (hn:0<n) (i:Nat):p.getD i 0<n:=by
 unfold Array.getD
 split
 ·rename_i hi
  have:p[i]∈p:=Array.getElem_mem hi
  have:=h.mem_iff.mp this
  simpa using this
 ·exact hn
theorem Gp.mirror {n:Nat} {p:Array Nat} (h:Gp n p) (i j:Nat):Gp n (kas_rev p i j):=(mirror_perm p i j _).trans h
theorem Gp.bubble {n:Nat} {p:Array Nat} (h:Gp n p) (i j:Nat):Gp n (bubble p i j):=(bubble_perm p i j).trans h
section
variable {n:Nat} {lt:Nat→Nat→Bool} (hn:0<n)
include hn
theorem oh {p:Array Nat} (h:Gp n p):∀ f m:Nat,cI n lt (fun _=>True) (kas_asc p f m)
 | 0,m=>trivial
 | f+1,m=>by
  refine ⟨h.get hn _,h.get hn _,?_⟩
  dsimp only
  split
  ·trivial
  ·exact oh h f (m+1)
theorem jc:∀ (f:Nat) {p:Array Nat} (m q:Nat),Gp n p→cI n lt (fun r=>Gp n r.1) (kas_desc f p m q)
 | 0,p,m,q,h=>h
 | f+1,p,m,q,h=>by
  refine ⟨h.get hn _,h.get hn _,?_⟩
  dsimp only
  split
  ·split
   ·exact jc f _ _ (h.mirror _ _)
   ·exact jc f _ _ h
  ·refine ⟨h.get hn _,h.get hn _,?_⟩
   dsimp only
   split
   ·exact h
   ·exact jc f _ _ h
theorem ng {m nrem:Nat} {p:Array Nat} (h:Gp n p):cI n lt (fun r=>Gp n r.2) (kas_tail3 m nrem p):=by
 unfold kas_tail3
 refine cI.bind (P:=fun _=>True) (fun _ _=>?_) (oh hn (h.mirror 0 m) _ _)
 exact h.mirror 0 m
theorem iN {m nrem:Nat} {p:Array Nat} (h:Gp n p):cI n lt (fun r=>Gp n r.2) (kas_descPart m nrem p):=by
 unfold kas_descPart
 refine cI.bind (fun r hr=>?_) (jc hn _ _ _ h)
 split
 ·exact ng hn (hr.mirror _ _)
 ·exact ng hn hr
theorem tV {nrem:Nat} {p:Array Nat} (h:Gp n p):cI n lt (fun r=>Gp n r.2) (kas_count nrem p):=by
 unfold kas_count
 refine cI.bind (P:=fun _=>True) (fun m _=>?_) (oh hn h _ _)
 split
 ·exact h
 ·split
  ·refine ⟨h.get hn _,h.get hn _,?_⟩
   dsimp only
   split
   ·exact h
   ·exact iN hn (h.mirror _ _)
  ·exact iN hn h
theorem jI {p:Array Nat} (h:Gp n p) (k:Nat):∀ f l r:Nat,cI n lt (fun _=>True) (kas_place p k f l r)
 | 0,l,r=>trivial
 | f+1,l,r=>by
  unfold kas_place
  split
  ·trivial
  ·refine ⟨h.get hn _,h.get hn _,?_⟩
   dsimp only
   split
   ·exact jI h k f _ _
   ·exact jI h k f _ _
theorem sR:∀ (f:Nat) {p:Array Nat} (k:Nat),Gp n p→cI n lt (Gp n) (kas_bin f p k)
 | 0,p,k,h=>h
 | f+1,p,k,h=>cI.bind (fun l _=>sR f _ (h.bubble _ _)) (jI hn h k _ _ _)
theorem gl:cI n lt (Gp n) (kas_sort n):=by
 unfold kas_sort
 refine cI.bind (fun r hr=>?_) (tV hn (Array.Perm.refl _))
 split
 ·exact sR hn _ _ hr
 ·exact hr
end
open PySem PySem.W PySem.Calls PySem.Spec PyProof.Rows
section
variable {prog:Program} {w:World} {A:Around} {E:Value→Shared→Prop} {s:Shared} {a:Addr} {us:List Value} {κ:SortKind} {lt:Nat→Nat→Bool} {R:Array Nat→Prop}
def cF (us:List Value) (p:Array Nat):List Value:=p.toList.map fun i=>us.getD i Value.none
theorem kO (us:List Value):cF us (List.range us.length).toArray=us:=by
 unfold cF
 apply List.ext_getElem?
 intro i
 by_cases h:i<us.length
 ·simp [h,List.getElem?_range]
 ·simp [h,Nat.le_of_not_lt h]
theorem vz {n:Nat} {P:PySem.Fin→Shared→Prop} (ho:s.heap.get? a=some (seqObj "list" us.toArray n)) (h64:us.length<64)
  (hk:2≤us.length→∀ (h':Heap) (Qk:SortKind→Shared→Prop),(∀ b o,b≠a→s.heap.get? b=some o→h'.get? b=some o)→Qk κ { s with heap:=h' }→wpAny (model prog w) A (keyKind' us.toArray) Qk (fun _ _=>False) { s with heap:=h' })
  (hc:∀ (h':Heap) (t i j:Nat) (C:Bool→Shared→Prop),(∀ b o,b≠a→s.heap.get? b=some o→h'.get? b=some o)→i<us.length→j<us.length→(∀ t',C (lt i j) { s with heap:=h',toks:=t' })→kas_ask prog w A κ us i j C { s with heap:=h',toks:=t })
  (hR:2≤us.length→cI us.length lt R (kas_sort us.length))
  (fin:∀ (h':Heap) (t c:Nat) (p:Array Nat),Gp us.length p→(2≤us.length→R p)→(∀ b o,b≠a→s.heap.get? b=some o→h'.get? b=some o)→h'.get? a=some (seqObj "list" (cF us p).toArray c)→P (.done (.ret .none)) { s with heap:=h',toks:=t }) :
  wpAny (model prog w) A (Builtin.«list.sort» ⟨[.ref a],[]⟩) P E s:=by
 have la:a<s.heap.objs.size:=Heap.lt_size ho
 rw [list_sort_plain]
 refine wpAny_bind (listItems_at ho rfl ?_)
 obtain ⟨e1,g1⟩:∃ e1,(s.heap.update a (Obj.mapSeq fun _=>(#[]:Array Value))).get? a=some (seqObj "list" #[] e1):=⟨_,get?_update_seq ho fun _=>#[]⟩
 have k1:∀ b o,b≠a→s.heap.get? b=some o→(s.heap.update a (Obj.mapSeq fun _=>(#[]:Array Value))).get? b=some o:=fun b o ne q=>by rw [Heap.get?_update_ne _ _ _ _ ne]; exact q
 refine wpAny_bind (listUpdate_at ho rfl ?_ (by rw [List.size_toArray,sizeLine_eq]; omega) (Nat.zero_le _))
 generalize (s.heap.update a (Obj.mapSeq fun _=>(#[]:Array Value)))=h1 at g1 k1
 refine wpAny_bind (seqEpoch_at g1 rfl ?_)
 refine wpAny_bind (wpAny_newTuple ?_ (by show us.length≤_; rw [sizeLine_eq]; omega))
 refine wpAny_bind (wpAny_newList ?_ (Nat.zero_le _))
 refine wpAny_holding ?_
 dsimp only
 obtain ⟨h2,eh2⟩:∃ h2,h2=(h1.push (seqObj "tuple" us.toArray 0)).push (seqObj "list" #[] 0):=⟨_,rfl⟩
 have g2:h2.get? a=some (seqObj "list" #[] e1):=by rw [eh2]; exact Heap.get?_push_of_some _ (Heap.get?_push_of_some _ g1)
 have k2:∀ b o,b≠a→s.heap.get? b=some o→h2.get? b=some o:=fun b o ne q=>by rw [eh2]; exact Heap.get?_push_of_some _ (Heap.get?_push_of_some _ (k1 b o ne q))
 show wpAny (model prog w) A _ P E { s with heap:=(h1.push (seqObj "tuple" us.toArray 0)).push (seqObj "list" #[] 0) }
 rw [← eh2]
 have close:∀ (st:SortSt) (p:Array Nat) (t:Nat),Gp us.length p→(2≤us.length→R p)→(arrOf st).map (·.2)=(cF us p).toArray→failedOf st=none →
   wpAny (model prog w) A (do
    let touched:=(← seqEpoch a) != e1
    Builtin.List.listUpdate (.ref a) fun _=>(arrOf st).map (·.2)
    if let some e:=failedOf st then rule "list.sort.comparison-raised"; throw e
    if touched then rule "list.sort.modified"; raiseError "ValueError" "list modified during sort"
    ret .none) P E { s with heap:=h2,toks:=t }:=by
  intro st p t gp rp ha hf
  have hl:(cF us p).length=us.length:=by unfold cF; rw [List.length_map,Array.length_toList,gp.size]
  refine wpAny_bind (seqEpoch_at g2 rfl ?_)
  rw [ha]
  obtain ⟨e3,g3⟩:∃ e3,(h2.update a (Obj.mapSeq fun _=>(cF us p).toArray)).get? a=some (seqObj "list" (cF us p).toArray e3):=⟨_,get?_update_seq g2 fun _=>(cF us p).toArray⟩
  refine wpAny_bind (listUpdate_at g2 rfl ?_ (Nat.zero_le _) (by rw [List.size_toArray,hl,sizeLine_eq]; omega))
  rw [hf]
  simp only [bne_self_eq_false,Bool.false_eq_true,if_false]
  refine wpAny_pure (fin _ t e3 p gp rp (fun b o ne q=>?_) g3)
  rw [Heap.get?_update_ne _ _ _ _ ne]
  exact k2 b o ne q
 by_cases hn:us.length<2
 ·have hn2:us.toArray.size<2:=by rw [List.size_toArray]; exact hn
  rw [if_pos hn2,if_pos hn2]
  refine wpAny_bind (wpAny_pure (wpAny_bind ?_))
  show wpAny (model prog w) A (pure ((),SortSt.mk' general' (us.toArray.zip us.toArray) #[] 7 none)) _ E _
  refine wpAny_pure ?_
  refine close _ (List.range us.length).toArray s.toks (Array.Perm.refl _) (fun z=>by omega) ?_ rfl
  rw [kO]
  show (us.toArray.zip us.toArray).map (·.2)=us.toArray
  apply Array.toList_inj.mp
  simp only [Array.toList_map,Array.toList_zip]
  exact List.map_snd_zip (Nat.le_refl _)
 ·have hn2:¬ us.toArray.size<2:=by rw [List.size_toArray]; exact hn
  rw [if_neg hn2,if_neg hn2]
  refine wpAny_bind (wpAny_mono (hk (by omega) h2 (fun k s'=>k=κ∧s'={ s with heap:=h2 }) k2 ⟨rfl,rfl⟩) (fun k s' hks=>?_) fun _ _ x=>x.elim)
  obtain ⟨rfl,rfl⟩:=hks
  have run:=kat_run (prog:=prog) (w:=w) (A:=A) (E:=E) (s:={ s with heap:=h2 }) (κ:=k) (ks:=us) (vs:=us) (G:=fun p s'=>R p∧Gp us.length p∧∃ t,s'={ s with heap:=h2,toks:=t })
   (Q:=fun st' s'=>∃ p,R p∧Gp us.length p∧(arrOf st').map (·.2)=(cF us p).toArray∧failedOf st'=none∧∃ t,s'={ s with heap:=h2,toks:=t }) rfl (by omega) h64
   (fun p st' s' a1 a2 a3 a4=>⟨p,a4.1,a4.2.1,kat_snds rfl a2,a3,a4.2.2⟩)
   (cI.wp (J:=fun s'=>∃ t,s'={ s with heap:=h2,toks:=t }) (P:=fun p=>R p∧Gp us.length p) (n:=us.length) (lt:=lt) (fun i j C s' hi hj ⟨t,e⟩ hC=>by
    subst e
    exact hc h2 t i j C k2 hi hj fun t'=>hC _ ⟨t',rfl⟩) (fun p s' hp hs=>⟨hp.1,hp.2,hs⟩) (kW (hR (by omega)) (gl (by omega))) ⟨s.toks,rfl⟩)
  refine wpAny_bind (wpAny_mono run ?_ fun _ _ e=>e)
  rintro ⟨⟨⟩,st'⟩ s' ⟨p,rp,gp,ha,hf,t,rfl⟩
  exact close st' p t gp (fun _=>rp) ha hf
end
open PySem PySem.W PySem.Calls PySem.Spec PyProof.Rows
def HX (h h':Heap):Prop:=∀ b o,h.get? b=some o→h'.get? b=some o
section
variable {prog:Program} {w:World} {A:Around} {E:Value→Shared→Prop} {s:Shared}
theorem qR {v:Value} {U:List Value→Prop} {Q:Value→Shared→Prop}
  (hcol:∀ (E':Value→Shared→Prop) (Qc:List Value→Shared→Prop),(∀ (h':Heap) (tk:Nat) (us:List Value),HX s.heap h'→s.heap.objs.size≤h'.objs.size→U us→Qc us { s with heap:=h',toks:=tk })→wpAny (model prog w) A.in1 (collect v) Qc E' s)
  (hu:∀ us,U us→us.length<64∧∃ (κ:SortKind) (lt:Nat→Nat→Bool) (R:Array Nat→Prop),
   (2≤us.length→∀ (h':Heap) (t:Nat) (Qk:SortKind→Shared→Prop),HX s.heap h'→Qk κ { s with heap:=h',toks:=t }→wpAny (model prog w) A.in1.in1 (keyKind' us.toArray) Qk (fun _ _=>False) { s with heap:=h',toks:=t }) ∧
   (∀ (h':Heap) (t i j:Nat) (C:Bool→Shared→Prop),HX s.heap h'→i<us.length→j<us.length→(∀ t',C (lt i j) { s with heap:=h',toks:=t' })→kas_ask prog w A.in1.in1 κ us i j C { s with heap:=h',toks:=t }) ∧
   (2≤us.length→cI us.length lt R (kas_sort us.length)) ∧
   ∀ (h':Heap) (t c D:Nat) (p:Array Nat),Gp us.length p→(2≤us.length→R p)→HX s.heap h'→s.heap.objs.size≤D→h'.get? D=some (seqObj "list" (cF us p).toArray c)→Q (.ref D) { s with heap:=h',toks:=t }) :
  wpAny (model prog w) A (call (.builtin "sorted") [v]) Q E s:=by
 refine Calls.call_function_entry kind_sorted plain_sorted entry_sorted (args_sorted1 _) ?_
 unfold Builtin.«sorted»
 refine wpAny_bind (m:=checkCount "sorted" 1 1 _) (wpAny_pure ?_)
 refine wpAny_bind (hcol _ _ fun h1 t1 us x1 big u1=>?_)
 obtain ⟨l64,κ,lt,R,hk,hc,hR,fin⟩:=hu us u1
 refine wpAny_bind (wpAny_newList ?_ (by rw [sizeLine_eq]; omega))
 have gL:(h1.push (seqObj "list" us.toArray 0)).get? h1.objs.size=some (seqObj "list" us.toArray 0):=Heap.get?_push_size _ rfl
 have x2:HX s.heap (h1.push (seqObj "list" us.toArray 0)):=fun b o e=>Heap.get?_push_of_some _ (x1 b o e)
 have nb:∀ b o,s.heap.get? b=some o→b≠h1.objs.size:=fun b o e=>Nat.ne_of_lt (Heap.lt_size (x1 b o e))
 show wpAny _ _ _ _ _ { s with heap:=h1.push (seqObj "list" us.toArray 0),toks:=t1 }
 refine wpAny_bind (wpAny_holding (wpAny_call_entry slot_list_sort ⟨_,gL,rfl⟩ entry_list_sort ?body (args_list_sort _)))
 case body =>
  refine vz (s:={ s with heap:=h1.push (seqObj "list" us.toArray 0),toks:=t1 }) (κ:=κ) (lt:=lt) (R:=R) gL l64 (fun h2 h' Qk kp q=>hk h2 h' t1 Qk (fun b o e=>kp b o (nb b o e) (x2 b o e)) q) (fun h' t i j C kp hi hj hC=>hc h' t i j C (fun b o e=>kp b o (nb b o e) (x2 b o e)) hi hj hC) hR (fun h' t c p gp rp kp e=>?_)
  exact ⟨_,rfl,wpAny_pure ⟨_,rfl,fin h' t c h1.objs.size p gp rp (fun b o e=>kp b o (nb b o e) (x2 b o e)) big e⟩⟩
end
open PySem PySem.Spec PyProof.Rows
abbrev Key:=Sum Int Str
def sA:Key→Value→Bool
 | .inl k,v=>Value.isInt k v
 | .inr x,v=>Value.isStrOf x v
def Cf (w:World):Key→Int
 | .inl k=>hashInt k
 | .inr x=>hashStr w x
theorem bL:∀ {k:Key} {v:Value},sA k v=true→(∃ i t,k=Sum.inl i∧v=Value.int i t)∨(∃ x t,k=Sum.inr x∧v=Value.str x t)
 | .inl i,v,h=>by
  obtain ⟨t,e⟩:=Value.isInt_shape (k:=i) (v:=v) h
  exact .inl ⟨i,t,rfl,e⟩
 | .inr x,v,h=>by
  obtain ⟨t,e⟩:=Value.isStrOf_shape (x:=x) (v:=v) h
  exact .inr ⟨x,t,rfl,e⟩
theorem tR (x:Str) (t:Tok):sA (.inr x) (.str x t)=true:=by simp [sA,Value.isStrOf]
theorem zD (a b:Int):decide ((Sum.inl a:Key)=Sum.inl b)=(a==b):=by
 by_cases e:a=b
 ·subst e; simp
 ·have h:¬ (Sum.inl a:Key)=Sum.inl b:=fun q=>e (Sum.inl.inj q)
  rw [decide_eq_false h]
  exact (beq_eq_false_iff_ne.mpr e).symm
theorem zv (a b:Str):decide ((Sum.inr a:Key)=Sum.inr b)=decide (a=b):=by
 by_cases e:a=b
 ·subst e; simp
 ·have h:¬ (Sum.inr a:Key)=Sum.inr b:=fun q=>e (Sum.inr.inj q)
  rw [decide_eq_false h,decide_eq_false e]
theorem Al (a:Int) (b:Str):decide ((Sum.inl a:Key)=Sum.inr b)=false:=decide_eq_false (fun q=>nomatch q)
theorem yW (a:Str) (b:Int):decide ((Sum.inr a:Key)=Sum.inl b)=false:=decide_eq_false (fun q=>nomatch q)
def dM (prog:Program) (w:World):PySem.KeyKind prog w Key where
 is:=sA
 hash:=Cf w
 inj:=fun v a b ha hb=>by
  rcases bL ha with ⟨i,t,rfl,rfl⟩ | ⟨x,t,rfl,rfl⟩
  ·rcases bL hb with ⟨j,u,rfl,e⟩ | ⟨y,u,rfl,e⟩
   ·injection e with e1 _; rw [e1]
   ·exact nomatch e
  ·rcases bL hb with ⟨j,u,rfl,e⟩ | ⟨y,u,rfl,e⟩
   ·exact nomatch e
   ·injection e with e1 _; rw [e1]
 byValue:=fun k v h=>by
  rcases bL h with ⟨i,t,rfl,rfl⟩ | ⟨x,t,rfl,rfl⟩<;>rfl
 pyHash:=fun hv h=>by
  rcases bL hv with ⟨i,t,rfl,rfl⟩ | ⟨x,t,rfl,rfl⟩
  ·exact wpAny_pyHash_int h
  ·exact wpAny_pyHash_str h
 eqBool:=fun hu hv h=>by
  rcases bL hu with ⟨i,t,rfl,rfl⟩ | ⟨x,t,rfl,rfl⟩
  ·rcases bL hv with ⟨j,u,rfl,rfl⟩ | ⟨y,u,rfl,rfl⟩
   ·rw [zD] at h; exact wpAny_eqBool_int h
   ·rw [Al] at h; exact SeqAt.EqAt.int_str i t y u _ _ _ _ h
  ·rcases bL hv with ⟨j,u,rfl,rfl⟩ | ⟨y,u,rfl,rfl⟩
   ·rw [yW] at h; exact SeqAt.EqAt.str_int x t j u _ _ _ _ h
   ·rw [zv] at h; exact wpAny_eqBool_str h
 «strs»:=fun k x t v h=>by
  rcases bL h with ⟨i,u,rfl,e⟩ | ⟨y,u,rfl,e⟩
  ·exact nomatch e
  ·injection e with e1 _
   subst e1
   cases v<;>rfl
theorem jX (prog:Program) (w:World) (x:Str) (t:Tok):(dM prog w).is (.inr x) (.str x t)=true:=tR x t
inductive V where
 | non | bl (b:Bool) | int (i:Int) | str (x:Str) | byt (b:Array UInt8) | flt (b:UInt64) | ref (a:Addr) | ty (n:String)
 deriving DecidableEq
def br:V→Value→Prop
 | .non,u=>u=Value.none
 | .bl b,u=>u=Value.bool b
 | .int i,u=>∃ t,u=Value.int i t
 | .str x,u=>∃ t,u=Value.str x t
 | .byt b,u=>∃ t,u=Value.bytes b t
 | .flt b,u=>∃ t,u=Value.float b t
 | .ref a,u=>u=Value.ref a
 | .ty n,u=>u=Value.type n
abbrev aK:List V→List Value→Prop:=Paired br
theorem aK.length {xs:List V} {us:List Value} (r:aK xs us):xs.length=us.length:=Paired.length r
theorem aK.get:∀ {xs:List V} {us:List Value} {i:Nat} {x:V},aK xs us→xs[i]?=some x→∃ u,us[i]?=some u∧br x u
 | _,_,_,_,.nil,e=>by simp at e
 | _,_,0,_,.cons r _,e=>by simp at e; subst e; exact ⟨_,rfl,r⟩
 | _,_,i+1,x,.cons _ t,e=>by
  obtain ⟨u,h1,h2⟩:=aK.get (i:=i) (x:=x) t (by simpa using e)
  exact ⟨u,by simpa using h1,h2⟩
theorem aK.set {x:V} {u:Value} (r:br x u):∀ {xs:List V} {us:List Value} (i:Nat),aK xs us→aK (xs.set i x) (us.set i u)
 | _,_,_,.nil=>.nil
 | _,_,0,.cons _ t=>.cons r t
 | _,_,i+1,.cons q t=>.cons q (aK.set r i t)
theorem aK.append:∀ {xs ys:List V} {us ws:List Value},aK xs us→aK ys ws→aK (xs++ys) (us++ws)
 | _,_,_,_,.nil,s=>s
 | _,_,_,_,.cons r t,s=>.cons r (aK.append t s)
theorem aK.take:∀ {xs:List V} {us:List Value} (n:Nat),aK xs us→aK (xs.take n) (us.take n)
 | _,_,0,_=>.nil
 | _,_,_+1,.nil=>.nil
 | _,_,n+1,.cons r t=>.cons r (aK.take n t)
theorem aK.drop:∀ {xs:List V} {us:List Value} (n:Nat),aK xs us→aK (xs.drop n) (us.drop n)
 | _,_,0,r=>r
 | _,_,_+1,.nil=>.nil
 | _,_,n+1,.cons _ t=>aK.drop n t
def zy:Option V→Option Value→Prop
 | some v,some u=>br v u
 | none,none=>True
 | _,_=>False
def KV {κ:Type}:List (κ×V)→List (κ×Value)→Prop:=Paired fun (p:κ×V) (q:κ×Value)=>p.1=q.1∧br p.2 q.2
inductive HO where
 /-- a list -/
 | lst (xs:List V)
 /-- a tuple (never changes) -/
 | tup (xs:List V)
 /-- a dict whose keys are ints and texts; one whose keys are tuples of ints and texts (the empty one is both) -/
 | dK (kvs:List (Key×V)) | dT (kvs:List (PyData×V))
 /-- a set of ints: its members,its size -/
 | set (S:Int→Bool) (n:Nat)
 /-- an instance of the class at C,its dict at dx,its attributes -/
 | ins (C dx:Addr) (fs:List (Str×V))
 /-- the dict of the instance at x -/
 | own (x:Addr)
 /-- the dict of an exception -/
 | xd (fs:List (Str×V))
 /-- a bound method,f of x -/
 | met (f x:Addr)
 /-- a range object lo,lo+1,.. below hi -/
 | rng (lo hi:Int)
 /-- a thing that is known to the object (the script; a dict while a loop walks it): read,never written while it is so -/
 | frz (o:Obj) (u:HO)
 /-- a code object's table -/
 | tbl (ps:Array Value)
 /-- any other thing,by what is true of its one object (a def of one's own: SetO a S n:=HO.ext fun h=>..) -/
 | ext (φ:Heap→Prop)
abbrev Hp:=Addr→Option HO
mutual
inductive KAt (H:Hp):V→PyData→Prop
 | int (i:Int):KAt H (.int i) (.int i)
 | str (x:Str):KAt H (.str x) (.str x)
 | tup {a:Addr} {xs:List V} {ds:List PyData}:H a=some (.tup xs)→bd H xs ds→KAt H (.ref a) (.tuple ds)
inductive bd (H:Hp):List V→List PyData→Prop
 | nil:bd H [] []
 | cons {x:V} {xs:List V} {d:PyData} {ds:List PyData}:KAt H x d→bd H xs ds→bd H (x::xs) (d::ds)
end
mutual
theorem KAt.mono {H H':Hp} (e:∀ b xs,H b=some (.tup xs)→H' b=some (.tup xs)):∀ {v:V} {d:PyData},KAt H v d→KAt H' v d
 | _,_,.int i=>.int i
 | _,_,.str x=>.str x
 | _,_,.tup h r=>.tup (e _ _ h) (bd.mono e r)
theorem bd.mono {H H':Hp} (e:∀ b xs,H b=some (.tup xs)→H' b=some (.tup xs)):∀ {v:List V} {d:List PyData},bd H v d→bd H' v d
 | _,_,.nil=>.nil
 | _,_,.cons h r=>.cons (KAt.mono e h) (bd.mono e r)
end
structure NAt (H:Hp) (a:Addr) (d:PyData):Prop where
 k:KAt H (.ref a) d
 p:pk d=true
 d8:d.depth≤8
theorem NAt.mono {H H':Hp} {a:Addr} {d:PyData} (n:NAt H a d) (e:∀ b xs,H b=some (.tup xs)→H' b=some (.tup xs)):NAt H' a d:=⟨n.k.mono e,n.p,n.d8⟩
def upd (H:Hp) (a:Addr) (o:HO):Hp:=fun b=>if b=a then some o else H b
theorem ae {H:Hp} {a:Addr} {o:HO}:upd H a o a=some o:=by unfold upd; rw [if_pos rfl]
theorem aI {H:Hp} {a b:Addr} {o:HO} (h:b≠a):upd H a o b=H b:=by unfold upd; rw [if_neg h]
theorem vE {H:Hp} {a b:Addr} {o u:HO} (h:H a=some o) (h':H b=some u) (d:o≠u):a≠b:=by
 intro e; subst e; rw [h] at h'; exact d (Option.some.inj h')
theorem aq {H:Hp} {a b:Addr} {o:HO} (h:H a=some o) (h':H b=none):a≠b:=by
 intro e; subst e; rw [h] at h'; cases h'
section
variable (P:Program) (w:World)
def bR (H:Hp) (h:Heap) (a:Addr):HO→Prop
 | .lst xs=>xs.length≤sizeLine∧∃ (its:List Value) (n:Nat),aK xs its∧h.get? a=some { cls:=.type "list",data:=.seq its.toArray n }
 | .tup xs=>xs.length≤sizeLine∧∃ its:List Value,aK xs its∧IsTup h a its.toArray∧∃ o,h.get? a=some o∧o.dict=none
 | .dK kvs=>kvs.length≤sizeLine∧(a==sysModules)=false∧∃ vs,KV kvs vs∧h.DictOf (dM P w) a vs
 | .dT kvs=>kvs.length≤sizeLine∧(a==sysModules)=false∧∃ xs:List (PyData×Addr×Value),
   Paired (fun (p:PyData×V) (q:PyData×Addr×Value)=>p.1=q.1∧NAt H q.2.1 p.1∧br p.2 q.2.2) kvs xs ∧
   ∃ o es ep,h.get? a=some o∧o.ExactDict∧o.data=.dict es ep∧es.toList=xs.map (entryOfKey (wz P w))∧(xs.map (·.1)).Nodup
 | .set S n=>h.SetOf (intKind P w) a S n
 | .ins C dx fs=>H dx=some (.own a)∧fs.length≤1000∧dx≠a∧h.get? a=some (PySem.W.instObj C dx) ∧
   ∃ mA,h.Ns1 dx mA∧(∀ f,zy (fs.lookup f) (mA f))∧PySem.Within mA (fs.map (·.1))
 | .own _=>∃ o,h.get? a=some o
 | .xd fs=>∃ mA,h.Ns1 a mA∧∀ f,zy (fs.lookup f) (mA f)
 | .rng lo hi=>∃ t u v,h.get? a=some { cls:=.type "range",data:=.fields #[.int lo t,.int hi u,.int 1 v] }
 | .frz o u=>h.get? a=some o∧bR H h a u
 | .tbl ps=>h.get? a=some { cls:=.none,data:=.fields ps }
 | .met f x=>h.get? a=some (PySem.W.methodObj (.ref f) (.ref x))
 | .ext φ=>φ h∧(∃ o,h.get? a=some o)∧∀ h1 h2:Heap,φ h1→(∀ o,h1.get? a=some o→h2.get? a=some o)→φ h2
def HOk (H:Hp) (h:Heap):Prop:=∀ a o,H a=some o→bR P w H h a o
end
section
variable {P:Program} {w:World} {H H':Hp} {h h':Heap} {a:Addr} {o:HO}
theorem bR.lt (x:bR P w H h a o):a<h.objs.size:=by
 cases o with
 | lst xs=>obtain ⟨_,_,_,_,e⟩:=x; exact Heap.lt_size e
 | tup xs=>obtain ⟨_,_,_,p,_⟩:=x; exact p.lt
 | dK kvs=>obtain ⟨_,_,_,_,o,_,_,e,_⟩:=x; exact Heap.lt_size e
 | dT kvs=>obtain ⟨_,_,_,_,o,_,_,e,_⟩:=x; exact Heap.lt_size e
 | set S n=>obtain ⟨o,_,_,_,e,_⟩:=x; exact Heap.lt_size e
 | ins C dx fs=>obtain ⟨_,_,_,e,_⟩:=x; exact Heap.lt_size e
 | own y=>obtain ⟨_,e⟩:=x; exact Heap.lt_size e
 | xd fs=>obtain ⟨_,⟨_,_,_,e,_⟩,_⟩:=x; exact Heap.lt_size e
 | rng lo hi=>obtain ⟨_,_,_,e⟩:=x; exact Heap.lt_size e
 | frz ob u=>obtain ⟨e,_⟩:=x; exact Heap.lt_size e
 | tbl ps=>exact Heap.lt_size (show h.get? a=some _ from x)
 | met f y=>exact Heap.lt_size (show h.get? a=some _ from x)
 | ext φ=>obtain ⟨_,⟨_,e⟩,_⟩:=x; exact Heap.lt_size e
theorem Paired.mapP {α β:Type} {F G:α→β→Prop}:∀ {l₁:List α} {l₂:List β},Paired F l₁ l₂→(∀ a b,F a b→G a b)→Paired G l₁ l₂
 | _,_,.nil,_=>.nil
 | _,_,.cons r t,f=>.cons (f _ _ r) (Paired.mapP t f)
theorem bR.stay (x:bR P w H h a o) (k:∀ b u,(b=a∨H b=some (.own a))→h.get? b=some u→h'.get? b=some u)
  (ho:∀ b,H b=some (.own a)→H' b=some (.own a)) (ht:∀ b xs,H b=some (.tup xs)→H' b=some (.tup xs)):bR P w H' h' a o:=by
 induction o with
 | lst xs=>obtain ⟨z,its,n,r,e⟩:=x; exact ⟨z,its,n,r,k _ _ (.inl rfl) e⟩
 | tup xs=>obtain ⟨z,its,r,⟨ob,e,c⟩,o2,e2,d2⟩:=x; exact ⟨z,its,r,⟨ob,k _ _ (.inl rfl) e,c⟩,o2,k _ _ (.inl rfl) e2,d2⟩
 | dK kvs=>obtain ⟨z,y,vs,r,ob,es,ep,e,c⟩:=x; exact ⟨z,y,vs,r,ob,es,ep,k _ _ (.inl rfl) e,c⟩
 | dT kvs =>
  obtain ⟨z,y,xs,r,ob,es,ep,e,c⟩:=x
  exact ⟨z,y,xs,Paired.mapP r fun p q z=>⟨z.1,z.2.1.mono ht,z.2.2⟩,ob,es,ep,k _ _ (.inl rfl) e,c⟩
 | set S n=>obtain ⟨ob,es,ep,t,e,c⟩:=x; exact ⟨ob,es,ep,t,k _ _ (.inl rfl) e,c⟩
 | ins C dx fs =>
  obtain ⟨d,z,ne,e,mA,⟨od,es,ep,e2,c⟩,r⟩:=x
  exact ⟨ho _ d,z,ne,k _ _ (.inl rfl) e,mA,⟨od,es,ep,k _ _ (.inr d) e2,c⟩,r⟩
 | own y=>obtain ⟨ob,e⟩:=x; exact ⟨ob,k _ _ (.inl rfl) e⟩
 | xd fs=>obtain ⟨mA,⟨od,es,ep,e,c⟩,r⟩:=x; exact ⟨mA,⟨od,es,ep,k _ _ (.inl rfl) e,c⟩,r⟩
 | rng lo hi=>obtain ⟨t,u,v,e⟩:=x; exact ⟨t,u,v,k _ _ (.inl rfl) e⟩
 | frz ob u ih=>obtain ⟨e,q⟩:=x; exact ⟨k _ _ (.inl rfl) e,ih q⟩
 | tbl ps =>
  have e:h.get? a=some { cls:=.none,data:=.fields ps }:=x
  show h'.get? a=some { cls:=.none,data:=.fields ps }
  exact k a _ (.inl rfl) e
 | met f y =>
  have e:h.get? a=some (PySem.W.methodObj (.ref f) (.ref y)):=x
  show h'.get? a=some (PySem.W.methodObj (.ref f) (.ref y))
  exact k a _ (.inl rfl) e
 | ext φ=>obtain ⟨p,⟨o,e⟩,st⟩:=x; exact ⟨st _ _ p fun o q=>k _ _ (.inl rfl) q,⟨o,k _ _ (.inl rfl) e⟩,st⟩
theorem HOk.lt (x:HOk P w H h) (e:H a=some o):a<h.objs.size:=(x a o e).lt
theorem HOk.fresh (x:HOk P w H h) (e:h.objs.size≤a):H a=none:=by
 cases q:H a with
 | none=>rfl
 | some u=>exact absurd (Nat.lt_of_lt_of_le (x.lt q) e) (Nat.lt_irrefl _)
theorem HOk.kept (x:HOk P w H h) (k:∀ b u,h.get? b=some u→h'.get? b=some u):HOk P w H h':=fun a o e =>
 (x a o e).stay (fun b u _ q=>k b u q) (fun _ q=>q) fun _ _ q=>q
theorem HOk.laid (x:HOk P w H h) (k:∀ b u,h.get? b=some u→h'.get? b=some u) (hp:h.objs.size≤a) (new:bR P w (upd H a o) h' a o):HOk P w (upd H a o) h':=fun b u e=>by
 have hn:=x.fresh hp
 by_cases hb:b=a
 ·subst hb; rw [ae] at e; cases e; exact new
 ·rw [aI hb] at e
  exact (x b u e).stay (fun c v _ q=>k c v q) (fun c q=>by rw [aI (aq q hn)]; exact q) fun c xs q=>by rw [aI (aq q hn)]; exact q
end
def Rd (H:Hp) (a:Addr) (u:HO):Prop:=H a=some u∨∃ o,H a=some (.frz o u)
theorem Rd.ok {P:Program} {w:World} {H:Hp} {h:Heap} {a:Addr} {u:HO} (r:Rd H a u) (x:HOk P w H h):bR P w H h a u:=by
 rcases r with r | ⟨o,r⟩
 ·exact x a u r
 ·obtain ⟨_,q⟩:=x a _ r
  exact q
def Mut:Option HO→Prop
 | some (.lst _)=>True
 | some (.dK _)=>True
 | some (.dT _)=>True
 | some (.set _ _)=>True
 | some (.ins _ _ _)=>True
 | some (.ext _)=>True
 | _=>False
section
variable {P:Program} {w:World} {H:Hp} {h h':Heap} {x e:Addr} {o':HO}
theorem HOk.write (ok:HOk P w H h) (mu:Mut (H x)) (he:e=x∨H e=some (.own x)) (k:∀ b u,b≠e→h.get? b=some u→h'.get? b=some u) (heo:∃ u,h'.get? e=some u)
  (new:bR P w (upd H x o') h' x o'):HOk P w (upd H x o') h':=fun b u q=>by
 have nown:∀ c y,H c=some (.own y)→c≠x:=fun c y r z=>by subst z; rw [r] at mu; exact mu
 have ntup:∀ c xs,H c=some (.tup xs)→c≠x:=fun c xs r z=>by subst z; rw [r] at mu; exact mu
 by_cases hb:b=x
 ·subst hb; rw [ae] at q; cases q; exact new
 ·rw [aI hb] at q
  by_cases hbe:b=e
  ·have q':H b=some (.own x):=by
    rcases he with z | z
    ·exact absurd (hbe.trans z) hb
    ·rw [hbe]; exact z
   rw [q] at q'; cases q'
   obtain ⟨v,hv⟩:=heo
   exact ⟨v,by rw [hbe]; exact hv⟩
  ·refine (ok b u q).stay (fun c v hc r=>k c v ?_ r) (fun c r=>by rw [aI (nown c b r)]; exact r) fun c xs r=>by rw [aI (ntup c xs r)]; exact r
   rcases hc with rfl | hc
   ·exact hbe
   ·rintro rfl
    rcases he with z | z
    ·exact nown c b hc z
    ·rw [hc] at z; cases z; exact hb rfl
end
structure Un (fs ex:List Addr) (H H':Hp) (h h':Heap):Prop where
 keep:∀ b o,h.get? b=some o→H b=none→b∉fs→b∉ex→h'.get? b=some o
 slot:∀ b o,h.get? b=some o→H b=none→b∈fs→b∉ex→∃ sl,h'.get? b=some { o with slots:=sl }
 free:∀ b o,h.get? b=some o→H b=none→b∉ex→H' b=none
 there:∀ b o,h.get? b=some o→b∉ex→∃ o',h'.get? b=some o'
 tups:∀ b xs,H b=some (.tup xs)→H' b=some (.tup xs)
 frzs:∀ b o u,H b=some (.frz o u)→H' b=some (.frz o u)
 tbls:∀ b ps,H b=some (.tbl ps)→∃ more,H' b=some (.tbl (ps++more))
section
variable {fs fs' ex ex':List Addr} {H H1 H2:Hp} {h h1 h2 h':Heap} {a x e:Addr} {o:HO}
theorem Un.any (u:Un fs ex H H1 h h1) {b:Addr} {ob:Obj} (q:h.get? b=some ob) (n:H b=none) (hx:b∉ex):∃ sl,h1.get? b=some { ob with slots:=sl }:=by
 by_cases hb:b∈fs
 ·exact u.slot b ob q n hb hx
 ·exact ⟨ob.slots,u.keep b ob q n hb hx⟩
theorem Un.kept (k:∀ b u,h.get? b=some u→h'.get? b=some u):Un fs ex H H h h' :=
 ⟨fun b ob q _ _ _=>k b ob q,fun b ob q _ _ _=>⟨ob.slots,k b ob q⟩,fun _ _ _ n _=>n,fun b ob q _=>⟨ob,k b ob q⟩,fun _ _ q=>q,fun _ _ _ q=>q,fun _ ps q=>⟨#[],by rw [q]; simp⟩⟩
theorem Un.refl:Un fs ex H H h h:=Un.kept fun _ _ q=>q
theorem Un.laid (k:∀ b u,h.get? b=some u→h'.get? b=some u) (hp:h.objs.size≤a) (hn:H a=none):Un fs ex H (upd H a o) h h' where
 keep:=fun b u q _ _ _=>k b u q
 slot:=fun b u q _ _ _=>⟨u.slots,k b u q⟩
 free:=fun b u q n _=>by rw [aI (Nat.ne_of_lt (Nat.lt_of_lt_of_le (Heap.lt_size q) hp))]; exact n
 there:=fun b u q _=>⟨u,k b u q⟩
 tups:=fun b xs q=>by rw [aI (aq q hn)]; exact q
 frzs:=fun b u xs q=>by rw [aI (aq q hn)]; exact q
 tbls:=fun b ps q=>⟨#[],by rw [aI (aq q hn),q]; simp⟩
theorem Un.write (mu:Mut (H x)) (he:e=x∨H e=some (.own x)) (k:∀ b u,b≠e→h.get? b=some u→h'.get? b=some u) (heo:∃ u,h'.get? e=some u):Un fs ex H (upd H x o) h h':=by
 have hx:∀ b,H b=none→b≠x:=fun b n z=>by subst z; rw [n] at mu; exact mu
 have hb:∀ b,H b=none→b≠e:=fun b n z=>by
  subst z
  rcases he with r | r
  ·exact hx b n r
  ·rw [n] at r; cases r
 have hm:∀ b u,H b=some u→¬ Mut (some u)→b≠x:=fun b u q nm z=>by subst z; rw [q] at mu; exact nm mu
 refine ⟨fun b u q n _ _=>k b u (hb b n) q,fun b u q n _ _=>⟨u.slots,k b u (hb b n) q⟩,fun b u q n _=>by rw [aI (hx b n)]; exact n,fun b u q _=>?_,
  fun b xs q=>by rw [aI (hm b _ q fun z=>z)]; exact q,fun b u xs q=>by rw [aI (hm b _ q fun z=>z)]; exact q,fun b ps q=>⟨#[],by rw [aI (hm b _ q fun z=>z),q]; simp⟩⟩
 by_cases hbe:b=e
 ·subst hbe; exact heo
 ·exact ⟨u,k b u hbe q⟩
end
def trk (h:Heap) (H:Hp):List Addr:=(List.range h.objs.size).filter fun a=>(H a).isSome
def mB (h:Heap) (H:Hp):Heap:=PySem.W.hideAll h (trk h H)
theorem uq (h:Heap) (H:Hp):(mB h H).objs.size=h.objs.size:=PySem.W.hideAll_size _ _
theorem vT {h:Heap} {H:Hp} {b:Addr} {o:Obj} (e:h.get? b=some o) (n:H b=none):(mB h H).get? b=some o :=
 PySem.W.hideAll_get _ e fun hm=>by
  have q:(H b).isSome=true:=(List.mem_filter.mp hm).2
  rw [n] at q; simp at q
theorem xY {h:Heap} {H:Hp} {b:Addr} {o:Obj} (e:(mB h H).get? b=some o):h.get? b=some o∧H b=none:=by
 have e':h.get? b=some o:=PySem.W.of_hideAll (trk h H) e
 refine ⟨e',?_⟩
 cases q:H b with
 | none=>rfl
 | some x =>
  have hm:b∈trk h H:=List.mem_filter.mpr ⟨List.mem_range.mpr (Heap.lt_size e'),by simp [q]⟩
  have z:(mB h H).get? b=none:=PySem.W.hideAll_none (trk h H) hm
  rw [z] at e; cases e
open PySem PySem.Spec PyProof.Rows
structure Mod (K:Frag) (mg:Str→Option Value) (base:Heap):Prop where
 kin:K.In base
 glob:base.Ns mainGlobals mg
 blt:∃ mb,base.Ns builtinsNs mb∧∀ x:Str,x ≠ "__name__"→mb x=bootBuiltins x
 nolimit:base.NoLimit
structure Cx where
 prog:Program
 w:World
 K:Frag
 mg:Str→Option Value
 base:Heap
 A:Around
 N:List Str
 s₀:Shared
 H₀:Hp
 env:Env
 outer:List Env
 stack:List Env
 ex:List Addr
 fn:Str→Bool
 calm:Bool
 pn:List (Addr×Obj)
 xe:Value→Shared→Prop
def frs (l:List Env):List Addr:=l.filterMap (·.frame)
abbrev Cx.fs (X:Cx):List Addr:=frs X.outer
def Vis (sc:Scope) (x:Str):Prop:=sc.names.lookup x=some .local∨sc.names.lookup x=some .cell∨sc.names.lookup x=some .free
def Loc (sc:Scope) (x:Str):Prop:=sc.names.lookup x=some .local∨sc.names.lookup x=some .cell
def Ca (env:Env) (h:Heap) (m:Str→Option Value) (x:Str) (u:Value):Prop :=
 (env.kindOf x=some .local∧m x=some u)∨((env.kindOf x=some .cell∨env.kindOf x=some .free)∧∃ c,env.cells.lookup x=some c∧h.IsCell c (some u))
structure Cx.Ok (X:Cx):Prop where
 mod:Mod X.K X.mg X.base
 kind:X.env.scope.kind=.function
 glob:X.env.globals=mainGlobals
 blt:X.env.builtins=builtinsNs
 above:X.s₀.heap.objs.size≤X.env.locals
 inj:∀ x y c,X.env.cells.lookup x=some c→X.env.cells.lookup y=some c→x=y
 has:∀ x,(X.env.kindOf x=some .cell∨X.env.kindOf x=some .free)→∃ c,X.env.cells.lookup x=some c
 cab:∀ x c,X.fn x=true→X.env.cells.lookup x=some c→X.s₀.heap.objs.size≤c
 hd:X.calm=true→X.A.handled=none
 frames:X.A.frames=some X.stack
 stk:X.stack=X.outer∨(X.stack=X.env::X.outer∧X.env.frame=some X.env.locals)
 exf:∀ b∈X.ex,b≠X.env.locals∧∀ x c,X.env.cells.lookup x=some c→c≠b
 bs:∀ b o,X.base.get? b=some o→X.s₀.heap.get? b=some o∧X.H₀ b=none
 bsz:X.base.objs.size≤X.s₀.heap.objs.size
 noex:∀ b o,X.base.get? b=some o→b∉X.ex
 exfs:∀ b∈X.ex,b∉X.fs
 funs:X.s₀.heap.FunFrames X.base X.outer
 frf:∀ b∈X.fs,X.H₀ b=none
structure Inv (X:Cx) (pins:List (Addr×Obj)) (σ:List (Option V)) (H:Hp) (s:Shared):Prop where
 ok:X.Ok
 os:s.os=X.s₀.os
 bare:AllBare s.gens
 base:Un X.fs X.ex X.H₀ H X.s₀.heap s.heap
 loc:∃ m,s.heap.Ns X.env.locals m∧∀ (i:Nat) (x:Str) (v:V),X.N[i]?=some x→σ[i]?=some (some v)→Vis X.env.scope x→∃ u,br v u∧Ca X.env s.heap m x u
 cell:∀ x c,X.env.cells.lookup x=some c→∃ v,s.heap.IsCell c v
 free:H X.env.locals=none
 freeC:∀ x c,X.env.cells.lookup x=some c→H c=none
 pin:∀ p∈X.pn++pins,s.heap.get? p.1=some p.2∧H p.1=none∧p.1≠X.env.locals∧p.1∉X.fs∧∀ v,p.2.data≠.cell v
 hok:HOk X.prog X.w H s.heap
 len:σ.length=X.N.length
section
variable {X:Cx} {pins:List (Addr×Obj)} {σ:List (Option V)} {H H':Hp} {s:Shared} {h':Heap}
theorem Cx.Ok.nofr (ok:X.Ok) {b:Addr} {o:Obj} (e:X.base.get? b=some o):b∉X.fs:=fun hb=>by
 have:=(ok.funs.mem hb).1
 rw [e] at this; cases this
theorem Inv.bs (I:Inv X pins σ H s):∀ b o,X.base.get? b=some o→s.heap.get? b=some o∧H b=none:=fun b o e =>
 ⟨I.base.keep b o (I.ok.bs b o e).1 (I.ok.bs b o e).2 (I.ok.nofr e) (I.ok.noex b o e),I.base.free b o (I.ok.bs b o e).1 (I.ok.bs b o e).2 (I.ok.noex b o e)⟩
theorem Inv.bk (I:Inv X pins σ H s):∀ b o,X.base.get? b=some o→s.heap.get? b=some o:=fun b o e=>(I.bs b o e).1
theorem Inv.mod (I:Inv X pins σ H s):Mod X.K X.mg X.base:=I.ok.mod
theorem Inv.kIn (I:Inv X pins σ H s):X.K.In s.heap:=I.ok.mod.kin.keeps I.bk
theorem Inv.fr (I:Inv X pins σ H s):∃ m,Fr X.base X.env.locals s.heap m :=
 let ⟨m,hn,_⟩:=I.loc
 ⟨m,hn,I.bk,Nat.le_trans I.ok.bsz I.ok.above⟩
theorem Inv.lt (I:Inv X pins σ H s):X.env.locals<s.heap.objs.size:=let ⟨_,hn,_⟩:=I.loc; hn.lt
theorem Inv.sz (I:Inv X pins σ H s):X.s₀.heap.objs.size≤s.heap.objs.size:=Nat.le_trans I.ok.above (Nat.le_of_lt I.lt)
theorem Inv.nofs (I:Inv X pins σ H s) {a:Addr} (h:s.heap.objs.size≤a):a∉X.fs:=fun hb=>by
 obtain ⟨_,o,ho,_⟩:=I.ok.funs.mem hb
 exact absurd (Nat.lt_of_lt_of_le (Heap.lt_size ho) (Nat.le_trans I.sz h)) (Nat.lt_irrefl _)
theorem Inv.cne (I:Inv X pins σ H s):∀ x c,X.env.cells.lookup x=some c→c≠X.env.locals:=fun x c e z=>by
 obtain ⟨v,o,ho,hd⟩:=I.cell x c e
 obtain ⟨m,⟨o',es,ep,ho',hd',_⟩,_⟩:=I.loc
 rw [z,ho'] at ho; cases ho; rw [hd'] at hd; cases hd
theorem Inv.funs (I:Inv X pins σ H s):s.heap.FunFrames X.base X.outer:=by
 have all:∀ (l:List Env),(∀ b∈frs l,b∈X.fs)→X.s₀.heap.FunFrames X.base l→s.heap.FunFrames X.base l:=by
  intro l
  induction l with
  | nil=>intro _ _; trivial
  | cons env r ih =>
   intro hs hl
   obtain ⟨hk,⟨L,o,hf,hn,ho,hd⟩,hr⟩:=hl
   have hL:L∈X.fs:=hs L (by unfold frs; rw [List.filterMap_cons,hf]; exact List.mem_cons_self)
   obtain ⟨sl,e⟩:=I.base.slot L o ho (I.ok.frf L hL) hL fun z=>I.ok.exfs L z hL
   exact ⟨hk,⟨L,_,hf,hn,e,hd⟩,ih (fun b hb=>hs b (by unfold frs; rw [List.filterMap_cons,hf]; exact List.mem_cons_of_mem _ hb)) hr⟩
 exact all X.outer (fun _ hb=>hb) I.ok.funs
theorem Inv.stack (I:Inv X pins σ H s):s.heap.FunFrames X.base X.stack:=by
 rcases I.ok.stk with e | ⟨e,hf⟩
 ·rw [e]; exact I.funs
 ·rw [e]
  obtain ⟨m,hn,_⟩:=I.loc
  refine .cons (by rw [I.ok.kind]; decide) hf hn ?_ I.funs
  exact Heap.get?_none_of_le (Nat.le_trans I.ok.bsz I.ok.above)
theorem Inv.stkSub (I:Inv X pins σ H s):∀ b∈frs X.stack,b∈X.env.locals::X.fs:=fun b hb=>by
 rcases I.ok.stk with e | ⟨e,hf⟩
 ·rw [e] at hb; exact List.mem_cons_of_mem _ hb
 ·rw [e] at hb
  unfold frs at hb
  rw [List.filterMap_cons,hf] at hb
  exact hb
theorem Inv.stkFree (I:Inv X pins σ H s):∀ b∈frs X.stack,H b=none:=fun b hb=>by
 rcases List.mem_cons.mp (I.stkSub b hb) with e | hb
 ·rw [e]; exact I.free
 ·obtain ⟨_,o,ho,_⟩:=I.ok.funs.mem hb
  exact I.base.free b o ho (I.ok.frf b hb) fun z=>I.ok.exfs b z hb
theorem Inv.step {g':Array GenState} {t':Nat} {d':Drawn} {ch:List Addr} (I:Inv X pins σ H s)
  (hch:∀ b∈ch,(b∈X.ex∨X.s₀.heap.objs.size≤b)∧b≠X.env.locals∧(∀ x c,X.env.cells.lookup x=some c→c≠b)∧∀ p∈X.pn++pins,p.1≠b)
  (keep:∀ b o,b≠X.env.locals→b∉X.fs→b∉ch→s.heap.get? b=some o→H b=none→h'.get? b=some o)
  (slot:∀ b o,b≠X.env.locals→b∈X.fs→b∉ch→s.heap.get? b=some o→H b=none→∃ sl,h'.get? b=some { o with slots:=sl }) (free:∀ b o,b∉ch→s.heap.get? b=some o→H b=none→H' b=none)
  (there:∀ b o,b∉ch→s.heap.get? b=some o→∃ o',h'.get? b=some o')
  (tups:∀ b xs,H b=some (.tup xs)→H' b=some (.tup xs)) (frzs:∀ b o u,H b=some (.frz o u)→H' b=some (.frz o u)) (tbls:∀ b ps,H b=some (.tbl ps)→∃ more,H' b=some (.tbl (ps++more)))
  (ns:∀ m,s.heap.Ns X.env.locals m→h'.Ns X.env.locals m) (hok:HOk X.prog X.w H' h') (hg:AllBare g') :
  Inv X pins σ H' { s with heap:=h',gens:=g',drawn:=d',toks:=t' }:=by
 have neL:∀ b o,X.s₀.heap.get? b=some o→b≠X.env.locals:=fun b o e=>Nat.ne_of_lt (Nat.lt_of_lt_of_le (Heap.lt_size e) I.ok.above)
 have neC:∀ b o,X.s₀.heap.get? b=some o→b∉X.ex→b∉ch:=fun b o e hx hb=>by
  rcases (hch b hb).1 with z | z
  ·exact hx z
  ·exact absurd (Nat.lt_of_lt_of_le (Heap.lt_size e) z) (Nat.lt_irrefl _)
 have cellK:∀ x c,X.env.cells.lookup x=some c→∀ v,s.heap.IsCell c v→h'.IsCell c v:=fun x c e v ⟨o,ho,hd⟩=>by
  have nch:c∉ch:=fun z=>(hch c z).2.2.1 x c e rfl
  by_cases hc:c∈X.fs
  ·obtain ⟨sl,q⟩:=slot c o (I.cne x c e) hc nch ho (I.freeC x c e)
   exact ⟨_,q,hd⟩
  ·exact ⟨o,keep c o (I.cne x c e) hc nch ho (I.freeC x c e),hd⟩
 refine ⟨I.ok,I.os,hg,⟨fun b o e n hb hx=>?_,fun b o e n hb hx=>?_,fun b o e n hx=>?_,fun b o e hx=>?_,fun b xs e=>tups b xs (I.base.tups b xs e),fun b o xs e=>frzs b o xs (I.base.frzs b o xs e),fun b ps e=>?_⟩,?_,fun x c e=>?_,?_,fun x c e=>?_,fun p hp=>?_,hok,I.len⟩
 ·exact keep b o (neL b o e) hb (neC b o e hx) (I.base.keep b o e n hb hx) (I.base.free b o e n hx)
 ·obtain ⟨sl,e1⟩:=I.base.slot b o e n hb hx
  obtain ⟨sl',e2⟩:=slot b _ (neL b o e) hb (neC b o e hx) e1 (I.base.free b o e n hx)
  exact ⟨sl',e2⟩
 ·obtain ⟨o',e1⟩:=I.base.there b o e hx
  exact free b o' (neC b o e hx) e1 (I.base.free b o e n hx)
 ·obtain ⟨o',e1⟩:=I.base.there b o e hx
  exact there b o' (neC b o e hx) e1
 ·obtain ⟨m1,e1⟩:=I.base.tbls b ps e
  obtain ⟨m2,e2⟩:=tbls b _ e1
  exact ⟨m1++m2,by rw [e2,Array.append_assoc]⟩
 ·obtain ⟨m,hn,hl⟩:=I.loc
  refine ⟨m,ns m hn,fun i x v e1 e2 e3=>?_⟩
  obtain ⟨u,r,l⟩:=hl i x v e1 e2 e3
  refine ⟨u,r,?_⟩
  rcases l with l | ⟨k,c,e,z⟩
  ·exact .inl l
  ·exact .inr ⟨k,c,e,cellK x c e _ z⟩
 ·obtain ⟨v,z⟩:=I.cell x c e
  exact ⟨v,cellK x c e v z⟩
 ·obtain ⟨m,⟨o,_,_,ho,_⟩,_⟩:=I.loc
  exact free _ o (fun z=>(hch _ z).2.1 rfl) ho I.free
 ·obtain ⟨v,o,ho,hd⟩:=I.cell x c e
  exact free c o (fun z=>(hch c z).2.2.1 x c e rfl) ho (I.freeC x c e)
 ·obtain ⟨e,n,ne,nf,d⟩:=I.pin p hp
  have nch:p.1∉ch:=fun z=>(hch p.1 z).2.2.2 p hp rfl
  exact ⟨keep p.1 p.2 ne nf nch e n,free p.1 p.2 nch e n,ne,nf,d⟩
theorem Inv.un {t':Nat} (I:Inv X pins σ H s) (u:Un X.fs [] H H' s.heap h') (hok:HOk X.prog X.w H' h'):Inv X pins σ H' { s with heap:=h',toks:=t' }:=by
 obtain ⟨m,⟨o,es,ep,ho,r⟩,_⟩:=id I.loc
 obtain ⟨sl,hL⟩:=u.any ho I.free (by simp)
 exact I.step (g':=s.gens) (d':=s.drawn) (ch:=[]) (fun _ z=>nomatch z) (fun b o _ hb _ e n=>u.keep b o e n hb (by simp)) (fun b o _ hb _ e n=>u.slot b o e n hb (by simp)) (fun b o _ e n=>u.free b o e n (by simp)) (fun b o _ e=>u.there b o e (by simp)) u.tups u.frzs u.tbls (fun m' hm=>by
  obtain ⟨o',es',ep',ho',r'⟩:=hm
  rw [ho] at ho'; cases ho'
  exact ⟨_,es',ep',hL,r'⟩) hok I.bare
theorem Inv.call {g':Array GenState} {t':Nat} {d':Drawn} {ch:List Addr} (I:Inv X pins σ H s) (u:Un (frs X.stack) ch H H' s.heap h') (hok:HOk X.prog X.w H' h') (hg:AllBare g')
  (hch:∀ b∈ch,(b∈X.ex∨X.s₀.heap.objs.size≤b)∧b≠X.env.locals∧(∀ x c,X.env.cells.lookup x=some c→c≠b)∧∀ p∈X.pn++pins,p.1≠b) :
  Inv X pins σ H' { s with heap:=h',gens:=g',drawn:=d',toks:=t' }:=by
 obtain ⟨m,⟨o,es,ep,ho,r⟩,_⟩:=id I.loc
 obtain ⟨sl,hL⟩:=u.any ho I.free fun z=>(hch _ z).2.1 rfl
 exact I.step (ch:=ch) hch (fun b o hL hb hc e n=>u.keep b o e n (fun z=>(List.mem_cons.mp (I.stkSub b z)).elim hL hb) hc) (fun b o _ _ hc e n=>u.any e n hc) (fun b o hc e n=>u.free b o e n hc) (fun b o hc e=>u.there b o e hc) u.tups u.frzs u.tbls (fun m' hm=>by
  obtain ⟨o',es',ep',ho',r'⟩:=hm
  rw [ho] at ho'; cases ho'
  exact ⟨_,es',ep',hL,r'⟩) hok hg
theorem Inv.turned {t':Nat} {it:Addr} (I:Inv X pins σ H s) (k:∀ b o,b≠it→s.heap.get? b=some o→h'.get? b=some o) (hn:H it=none) (hL:it≠X.env.locals)
  (h1:it∈X.ex∨X.s₀.heap.objs.size≤it) (h2:∀ x c,X.env.cells.lookup x=some c→c≠it) (h3:∀ p∈X.pn++pins,p.1≠it):Inv X pins σ H { s with heap:=h',toks:=t' }:=by
 have nit:∀ b u,H b=some u→b≠it:=fun b u e z=>by rw [z,hn] at e; cases e
 refine I.step (g':=s.gens) (d':=s.drawn) (ch:=[it]) (fun b hb=>?_) (fun b o _ _ hc e _=>k b o (fun z=>hc (by simp [z])) e) (fun b o _ _ hc e _=>⟨o.slots,k b o (fun z=>hc (by simp [z])) e⟩) (fun _ _ _ _ n=>n)
  (fun b o hc e=>⟨o,k b o (fun z=>hc (by simp [z])) e⟩) (fun _ _ e=>e) (fun _ _ _ e=>e) (fun b ps e=>⟨#[],by rw [e]; simp⟩) (fun m hm=>?_) (fun b u e=>?_) I.bare
 ·have e:b=it:=by simpa using hb
  subst e
  exact ⟨h1,hL,h2,h3⟩
 ·obtain ⟨o,es,ep,ho,r⟩:=hm
  exact ⟨o,es,ep,k _ o (Ne.symm hL) ho,r⟩
 ·refine (I.hok b u e).stay (fun c v hc q=>k c v ?_ q) (fun _ q=>q) fun _ _ q=>q
  rcases hc with z | z
  ·rw [z]; exact nit b u e
  ·exact nit c _ z
theorem Inv.tok (I:Inv X pins σ H s) (t:Nat):Inv X pins σ H { s with toks:=t }:=I.un (h':=s.heap) (t':=t) Un.refl I.hok
theorem Inv.kept {t':Nat} (I:Inv X pins σ H s) (k:∀ b u,s.heap.get? b=some u→h'.get? b=some u):Inv X pins σ H { s with heap:=h',toks:=t' }:=I.un (Un.kept k) (I.hok.kept k)
theorem Inv.laid {a:Addr} {o:HO} {t':Nat} (I:Inv X pins σ H s) (k:∀ b u,s.heap.get? b=some u→h'.get? b=some u) (hp:s.heap.objs.size≤a) (new:bR X.prog X.w (upd H a o) h' a o) :
  Inv X pins σ (upd H a o) { s with heap:=h',toks:=t' }:=I.un (Un.laid k hp (I.hok.fresh hp)) (I.hok.laid k hp new)
theorem Inv.write {x e:Addr} {o:HO} {t':Nat} (I:Inv X pins σ H s) (mu:Mut (H x)) (he:e=x∨H e=some (.own x)) (k:∀ b u,b≠e→s.heap.get? b=some u→h'.get? b=some u) (heo:∃ u,h'.get? e=some u)
  (new:bR X.prog X.w (upd H x o) h' x o):Inv X pins σ (upd H x o) { s with heap:=h',toks:=t' }:=I.un (Un.write mu he k heo) (I.hok.write mu he k heo new)
theorem Inv.weak {σ':List (Option V)} (I:Inv X pins σ H s) (hl:σ'.length=σ.length) (w:∀ (i:Nat) v,σ'[i]?=some (some v)→σ[i]?=some (some v)):Inv X pins σ' H s :=
 ⟨I.ok,I.os,I.bare,I.base,let ⟨m,hn,hl'⟩:=I.loc; ⟨m,hn,fun i x v e1 e2 e3=>hl' i x v e1 (w i v e2) e3⟩,I.cell,I.free,I.freeC,I.pin,I.hok,hl.trans I.len⟩
theorem Inv.pins_of {pins':List (Addr×Obj)} (I:Inv X pins σ H s) (h:∀ p∈pins',s.heap.get? p.1=some p.2∧H p.1=none∧p.1≠X.env.locals∧p.1∉X.fs∧∀ v,p.2.data≠.cell v):Inv X pins' σ H s :=
 ⟨I.ok,I.os,I.bare,I.base,I.loc,I.cell,I.free,I.freeC,fun p hp=>(List.mem_append.mp hp).elim (fun z=>I.pin p (List.mem_append_left _ z)) (h p),I.hok,I.len⟩
theorem oO {N:List Str} (hN:N.Nodup) {i j:Nat} {x:Str} (a:N[i]?=some x) (b:N[j]?=some x):i=j:=by
 obtain ⟨h1,e1⟩:=List.getElem?_eq_some_iff.mp a
 obtain ⟨h2,e2⟩:=List.getElem?_eq_some_iff.mp b
 exact (List.getElem_inj hN).mp (e1.trans e2.symm)
theorem tT {M:Model} {A:Around} {E:Value→Shared→Prop} {i:Nat} {x:Str} {v:V} {u:Value} {Q:Unit→Shared→Prop} (I:Inv X pins σ H s) (hN:X.N.Nodup) (hi:X.N[i]?=some x) (hx:Loc X.env.scope x) (r:br v u)
  (h:∀ s',Inv X pins (σ.set i (some v)) H s'→(∃ a,Heap.SameBut a s.heap s'.heap∧(a=X.env.locals∨X.env.cells.lookup x=some a))→Q () s') (hf:X.fn x=true∨X.env.scope.names.lookup x=some .local:=by first | exact .inl rfl | exact .inr rfl | assumption):wpAny M A (storeName X.env x u) Q E s:=by
 obtain ⟨m,hn,hl⟩:=id I.loc
 have hcls:(X.env.scope.kind==.class||(X.env.scope.kind==.module&&X.env.locals != X.env.globals))=false:=by rw [I.ok.kind]; rfl
 have hiσ:i<σ.length:=by rw [I.len]; exact (List.getElem?_eq_some_iff.mp hi).1
 have cne:=I.cne
 have tracked:∀ {a:Addr} {h':Heap},(∃ o,s.heap.get? a=some o∧H a=none)→Heap.SameBut a s.heap h'→HOk X.prog X.w H h':=fun {a h'} ha hs b ob e=>by
  obtain ⟨_,_,hfree⟩:=ha
  refine (I.hok b ob e).stay (fun c w' hc q=>(hs.2 c ?_).trans q) (fun _ q=>q) fun _ _ q=>q
  rintro rfl
  rcases hc with rfl | hc
  ·rw [hfree] at e; cases e
  ·rw [hfree] at hc; cases hc
 rcases hx with hk | hk
 ·refine wpAny_storeName_local hk hn (fun h' hn' hs=>?_) hcls
  obtain ⟨oL,_,_,hoL,_⟩:=id hn
  refine h _ ⟨I.ok,I.os,I.bare,⟨fun b o e n hb hx=>?_,fun b o e n hb hx=>?_,I.base.free,fun b o e hx=>?_,I.base.tups,I.base.frzs,I.base.tbls⟩,⟨_,hn',fun j y v' e1 e2 e3=>?_⟩,fun y c e=>?_,I.free,I.freeC,fun p hp=>?_,tracked ⟨oL,hoL,I.free⟩ hs,by simpa using I.len⟩ ⟨_,hs,.inl rfl⟩
  ·exact (hs.2 b (Nat.ne_of_lt (Nat.lt_of_lt_of_le (Heap.lt_size e) I.ok.above))).trans (I.base.keep b o e n hb hx)
  ·obtain ⟨sl,e1⟩:=I.base.slot b o e n hb hx
   exact ⟨sl,(hs.2 b (Nat.ne_of_lt (Nat.lt_of_lt_of_le (Heap.lt_size e) I.ok.above))).trans e1⟩
  ·obtain ⟨o',e1⟩:=I.base.there b o e hx
   exact ⟨o',(hs.2 b (Nat.ne_of_lt (Nat.lt_of_lt_of_le (Heap.lt_size e) I.ok.above))).trans e1⟩
  ·by_cases hj:j=i
   ·subst hj
    rw [hi] at e1; cases e1
    rw [List.getElem?_set_self hiσ] at e2
    cases e2
    exact ⟨u,r,.inl ⟨hk,by simp⟩⟩
   ·rw [List.getElem?_set_ne (Ne.symm hj)] at e2
    obtain ⟨u',r',q⟩:=hl j y v' e1 e2 e3
    refine ⟨u',r',?_⟩
    rcases q with ⟨k,e⟩ | ⟨k,c,e,z⟩
    ·refine .inl ⟨k,?_⟩
     have:y≠x:=fun e=>hj (oO hN e1 (e ▸ hi))
     simp [this,e]
    ·exact .inr ⟨k,c,e,z.sameBut hs (cne y c e)⟩
  ·obtain ⟨w',z⟩:=I.cell y c e
   exact ⟨w',z.sameBut hs (cne y c e)⟩
  ·obtain ⟨e,n,ne,nf,d⟩:=I.pin p hp
   exact ⟨(hs.2 p.1 ne).trans e,n,ne,nf,d⟩
 ·have hfn:X.fn x=true:=by
   rcases hf with z | z
   ·exact z
   ·rw [z] at hk; cases hk
  obtain ⟨c,hc⟩:=I.ok.has x (.inl hk)
  obtain ⟨w',z⟩:=I.cell x c hc
  refine wpAny_storeName_cell I.ok.kind hk hc z (fun h' hc' hs=>?_)
  obtain ⟨oc,hoc,hocd⟩:=id z
  refine h { s with heap:=h' } ⟨I.ok,I.os,I.bare,⟨fun b o e n hb hx=>?_,fun b o e n hb hx=>?_,I.base.free,fun b o e hx=>?_,I.base.tups,I.base.frzs,I.base.tbls⟩,⟨m,hn.sameBut hs (Ne.symm (cne x c hc)),fun j y v' e1 e2 e3=>?_⟩,fun y c' e=>?_,I.free,I.freeC,fun p hp=>?_,tracked ⟨oc,hoc,I.freeC x c hc⟩ hs,by simpa using I.len⟩ ⟨c,hs,.inr hc⟩
  ·exact (hs.2 b (Nat.ne_of_lt (Nat.lt_of_lt_of_le (Heap.lt_size e) (I.ok.cab x c hfn hc)))).trans (I.base.keep b o e n hb hx)
  ·obtain ⟨sl,e1⟩:=I.base.slot b o e n hb hx
   exact ⟨sl,(hs.2 b (Nat.ne_of_lt (Nat.lt_of_lt_of_le (Heap.lt_size e) (I.ok.cab x c hfn hc)))).trans e1⟩
  ·obtain ⟨o',e1⟩:=I.base.there b o e hx
   exact ⟨o',(hs.2 b (Nat.ne_of_lt (Nat.lt_of_lt_of_le (Heap.lt_size e) (I.ok.cab x c hfn hc)))).trans e1⟩
  ·by_cases hj:j=i
   ·subst hj
    rw [hi] at e1; cases e1
    rw [List.getElem?_set_self hiσ] at e2
    cases e2
    exact ⟨u,r,.inr ⟨.inl hk,c,hc,hc'⟩⟩
   ·rw [List.getElem?_set_ne (Ne.symm hj)] at e2
    obtain ⟨u',r',q⟩:=hl j y v' e1 e2 e3
    refine ⟨u',r',?_⟩
    rcases q with q | ⟨k,c',e,z'⟩
    ·exact .inl q
    ·refine .inr ⟨k,c',e,z'.sameBut hs ?_⟩
     rintro rfl
     exact hj (oO hN e1 (I.ok.inj _ _ _ e hc ▸ hi))
  ·by_cases hcc:c'=c
   ·subst hcc; exact ⟨_,hc'⟩
   ·obtain ⟨w2,z2⟩:=I.cell y c' e
    exact ⟨w2,z2.sameBut hs hcc⟩
  ·obtain ⟨e,n,ne,nf,d⟩:=I.pin p hp
   refine ⟨(hs.2 p.1 ?_).trans e,n,ne,nf,d⟩
   intro q
   rw [q,hoc] at e
   have q':oc=p.2:=Option.some.inj e
   exact d w' (by rw [← q']; exact hocd)
theorem kU {M:Model} {A:Around} {E:Value→Shared→Prop} {i:Nat} {x:Str} {v:V} {u:Value} {Q:Unit→Shared→Prop} (I:Inv X pins σ H s) (hN:X.N.Nodup) (hi:X.N[i]?=some x) (hx:Loc X.env.scope x) (r:br v u)
  (h:∀ s',Inv X pins (σ.set i (some v)) H s'→Q () s') (hf:X.fn x=true∨X.env.scope.names.lookup x=some .local:=by first | exact .inl rfl | exact .inr rfl | assumption):wpAny M A (storeName X.env x u) Q E s :=
 tT I hN hi hx r (fun s' I' _=>h s' I') hf
theorem Inv.call' {s':Shared} {ch:List Addr} (I:Inv X pins σ H s) (ho:s'.os=s.os) (u:Un (frs X.stack) ch H H' s.heap s'.heap) (hok:HOk X.prog X.w H' s'.heap) (hg:AllBare s'.gens)
  (hch:∀ b∈ch,(b∈X.ex∨X.s₀.heap.objs.size≤b)∧b≠X.env.locals∧(∀ x c,X.env.cells.lookup x=some c→c≠b)∧∀ p∈X.pn++pins,p.1≠b):Inv X pins σ H' s':=by
 obtain ⟨h',g',d',t',o'⟩:=s'
 have e:o'=s.os:=ho
 subst e
 exact I.call (g':=g') (t':=t') (d':=d') u hok hg hch
end
abbrev XK:=Value→Option Addr→Hp→Prop
abbrev St:=List (Option V)
abbrev VK:=V→Hp→Prop
abbrev TE:=St→Hp→VK→Prop
abbrev TT:=St→Hp→(Bool→Hp→Prop)→Prop
abbrev TA:=St→Hp→(List V→Hp→Prop)→Prop
structure mr where
 nx:St→Hp→Prop
 rt:VK
 bk:St→Hp→Prop:=fun _ _=>False
 ct:St→Hp→Prop:=fun _ _=>False
abbrev TS:=mr→St→Hp→Prop
def EP (X:Cx) (pins:List (Addr×Obj)) (σ:St) (Q:VK) (u:Value) (s':Shared):Prop:=∃ v H',Inv X pins σ H' s'∧br v u∧Q v H'
def TP (X:Cx) (pins:List (Addr×Obj)) (σ:St) (Q:Bool→Hp→Prop) (b:Bool) (s':Shared):Prop:=∃ H',Inv X pins σ H' s'∧Q b H'
def AP (X:Cx) (pins:List (Addr×Obj)) (σ:St) (Q:List V→Hp→Prop) (us:List Value) (s':Shared):Prop:=∃ vs H',Inv X pins σ H' s'∧aK vs us∧Q vs H'
def SP (X:Cx) (pins:List (Addr×Obj)) (D:mr) (f:Flow) (s':Shared):Prop :=
 match f with
 | .next=>∃ σ' H',Inv X pins σ' H' s'∧D.nx σ' H'
 | .brk=>∃ σ' H',Inv X pins σ' H' s'∧D.bk σ' H'
 | .cont=>∃ σ' H',Inv X pins σ' H' s'∧D.ct σ' H'
 | .ret u=>∃ v σ' H',Inv X pins σ' H' s'∧br v u∧D.rt v H'
def PE (X:Cx) (e:Expr) (t:TE):Prop :=
 ∀ (pins:List (Addr×Obj)) (s:Shared) (σ:St) (H:Hp) (Q:VK),Inv X pins σ H s→t σ H Q→wpAny (model X.prog X.w) X.A (eval e X.env) (EP X pins σ Q) X.xe s
def PT (X:Cx) (e:Expr) (t:TT):Prop :=
 ∀ (pins:List (Addr×Obj)) (s:Shared) (σ:St) (H:Hp) (Q:Bool→Hp→Prop),Inv X pins σ H s→t σ H Q→wpAny (model X.prog X.w) X.A (isTrue e X.env (eval e X.env)) (TP X pins σ Q) X.xe s
def PW (X:Cx) (e:Expr) (t:TT):Prop :=
 ∀ (whole:Sem Value) (pins:List (Addr×Obj)) (s:Shared) (σ:St) (H:Hp) (Q:Bool→Hp→Prop),Inv X pins σ H s→t σ H Q→wpAny (model X.prog X.w) X.A (isTrue e X.env whole) (TP X pins σ Q) X.xe s
theorem PW.pt {X:Cx} {e:Expr} {t:TT} (h:PW X e t):PT X e t:=h _
def PA (X:Cx) (es:List Expr) (t:TA):Prop :=
 ∀ (pos:Pos) (pins:List (Addr×Obj)) (s:Shared) (σ:St) (H:Hp) (Q:List V→Hp→Prop),Inv X pins σ H s→t σ H Q→wpAny (model X.prog X.w) X.A (spliced (backTo pos (starEach es X.env))) (AP X pins σ Q) X.xe s
def PS (X:Cx) (st:Stmt) (t:TS):Prop :=
 ∀ (pins:List (Addr×Obj)) (s:Shared) (σ:St) (H:Hp) (D:mr),Inv X pins σ H s→t D σ H→wpAny (model X.prog X.w) X.A (exec st X.env) (SP X pins D) X.xe s
def PSs (X:Cx) (st:List Stmt) (t:TS):Prop :=
 ∀ (pins:List (Addr×Obj)) (s:Shared) (σ:St) (H:Hp) (D:mr),Inv X pins σ H s→t D σ H→wpAny (model X.prog X.w) X.A (execs st X.env) (SP X pins D) X.xe s
theorem thn {α:Type} {t:Sem α} {Q Q':α→Shared→Prop} {M:Model} {A:Around} {E:Value→Shared→Prop} {s:Shared} (h:wpAny M A t Q E s) (hQ:∀ a s,Q a s→Q' a s):wpAny M A t Q' E s:=wpAny_mono h hQ fun _ _ x=>x
open PySem PySem.Spec PyProof.Rows
section
variable {X:Cx}
def Bz (i:Nat):TE:=fun σ H Q=>∃ v,σ[i]?=some (some v)∧Q v H
def tC (v:V):TE:=fun _ H Q=>Q v H
theorem Ap {i:Nat} {x:Str} {pos:Pos} (hN:X.N[i]?=some x) (hv:Vis X.env.scope x) (hd:(x==("__debug__":Str))=false:=by decide) (hcd:(x==("__classdict__":Str))=false:=by decide):PE X (.Name x pos) (Bz i):=by
 intro pins s σ H Q I h
 obtain ⟨v,e,h⟩:=h
 obtain ⟨m,hn,hl⟩:=I.loc
 obtain ⟨u,r,l⟩:=hl i x v hN e hv
 have fin:EP X pins σ Q u s:=⟨v,H,I,r,h⟩
 rcases l with ⟨hk,hm⟩ | ⟨hk,c,hc,hcell⟩
 ·exact wpAny_Name (wpAny_loadName_local I.ok.kind hk hn hm fin) hd
 ·rcases hk with hk | hk
  ·exact wpAny_Name (wpAny_loadName_cell I.ok.kind hk hc hcell fin) hd
  ·exact wpAny_Name (wpAny_loadName_free I.ok.kind hk hc hcell fin hcd) hd
theorem ak {i j pos}:PE X (.Constant (.int i) j pos) (tC (.int i)):=fun _ _ _ H _ I h=>wpAny_Constant_int ⟨.int i,H,I.tok _,⟨_,rfl⟩,h⟩
theorem pT {b j pos}:PE X (.Constant (.bool b) j pos) (tC (.bl b)):=fun _ _ _ H _ I h=>Constant_bool ⟨.bl b,H,I,rfl,h⟩
theorem zL {j pos}:PE X (.Constant .none j pos) (tC .non):=fun _ _ _ H _ I h=>Constant_none ⟨.non,H,I,rfl,h⟩
theorem aN {x j pos}:PE X (.Constant (.str x) j pos) (tC (.str x)):=fun _ _ _ H _ I h=>Calls.Constant_str ⟨.str x,H,I.tok _,⟨_,rfl⟩,h⟩
def Gl (X:Cx) (x:Str):Prop:=X.env.kindOf x=some .globalImplicit
theorem sK {E:Value→Shared→Prop} {pins:List (Addr×Obj)} {s:Shared} {σ:St} {H:Hp} {x:Str} {u:Value} {pos:Pos} {Q:Value→Shared→Prop} (I:Inv X pins σ H s) (hg:Gl X x) (hm:X.mg x=some u) (h:Q u s)
  (hd:(x==("__debug__":Str))=false:=by decide):wpAny (model X.prog X.w) X.A (eval (.Name x pos) X.env) Q E s :=
 Calls.Name_function_global I.ok.kind hg (Calls.loadGlobal_global (by rw [I.ok.glob]; exact I.mod.glob.keeps I.bk) hm h) hd
theorem iB {E:Value→Shared→Prop} {pins:List (Addr×Obj)} {s:Shared} {σ:St} {H:Hp} {x:Str} {u:Value} {pos:Pos} {Q:Value→Shared→Prop} (I:Inv X pins σ H s) (hg:Gl X x) (hm:X.mg x=none) (hv:bootBuiltins x=some u) (h:Q u s)
  (hn:x ≠ "__name__":=by decide) (hd:(x==("__debug__":Str))=false:=by decide):wpAny (model X.prog X.w) X.A (eval (.Name x pos) X.env) Q E s:=by
 obtain ⟨mb,h1,h2⟩:=I.mod.blt
 exact Calls.Name_function_global I.ok.kind hg (Calls.loadGlobal_builtin (by rw [I.ok.glob]; exact I.mod.glob.keeps I.bk) hm (by rw [I.ok.blt]; exact h1.keeps I.bk) ((h2 x hn).trans hv) h) hd
theorem iY {x:Str} {v:V} {u:Value} {pos:Pos} (hg:Gl X x) (hm:X.mg x=some u) (r:br v u) (hd:(x==("__debug__":Str))=false:=by decide):PE X (.Name x pos) (tC v) :=
 fun _ _ _ H _ I h=>sK I hg hm ⟨v,H,I,r,h⟩ hd
theorem fQ {x:Str} {v:V} {u:Value} {pos:Pos} (hg:Gl X x) (hm:X.mg x=none) (hv:bootBuiltins x=some u) (r:br v u) (hn:x ≠ "__name__":=by decide) (hd:(x==("__debug__":Str))=false:=by decide):PE X (.Name x pos) (tC v) :=
 fun _ _ _ H _ I h=>iB I hg hm hv ⟨v,H,I,r,h⟩ hn hd
variable {a b:Expr} {ta tb:TE} {pos:Pos}
def tB (t:TE):TT:=fun σ H Q=>t σ H fun x H1=>∃ c,x=.bl c∧Q c H1
theorem fH {e:Expr} {t:TE} (h:PE X e t) (he:∀ whole,isTrue e X.env whole=(do let v ← whole; standAt e.pos; holding [v] (truthy v)):=by intro _; rfl):PT X e (tB t):=by
 intro pins s σ H Q I hw
 refine isTrue_plain (thn (h pins s σ H _ I hw) fun v s1 ⟨x,H1,I1,r1,q1⟩=>?_) (he _)
 obtain ⟨d,rfl,q⟩:=q1
 cases r1
 exact wpAny_truthy_bool ⟨H1,I1,q⟩
variable {tA tB':TT} {rest:List Expr}
def Cw (t u:TT):TT:=fun σ H Q=>t σ H fun c H1=>if c=true then u σ H1 Q else Q false H1
def tOr (t u:TT):TT:=fun σ H Q=>t σ H fun c H1=>if c=true then Q true H1 else u σ H1 Q
def Ct (t:TT):TT:=fun σ H Q=>t σ H fun c H1=>Q (!c) H1
theorem sN (ha:PT X a tA):PW X (.BoolOp .And [a] pos) tA:=by
 intro wh pins s σ H Q I h
 refine isTrue_and (thn (ha pins s σ H Q I h) fun c s1 e=>?_)
 cases c with
 | true=>exact isTrue_and_nil e
 | false=>exact e
theorem Az (ha:PT X a tA):PW X (.BoolOp .Or [a] pos) tA:=by
 intro wh pins s σ H Q I h
 refine isTrue_or (thn (ha pins s σ H Q I h) fun c s1 e=>?_)
 cases c with
 | false=>exact isTrue_or_nil e
 | true=>exact e
theorem wX (ha:PT X a tA) (hb:PW X (.BoolOp .And (b::rest) pos) tB'):PW X (.BoolOp .And (a::b::rest) pos) (Cw tA tB'):=by
 intro wh pins s σ H Q I h
 refine isTrue_and (thn (ha pins s σ H _ I h) fun c s1 ⟨H1,I1,q1⟩=>?_)
 cases c with
 | true=>exact hb wh pins s1 σ H1 Q I1 q1
 | false=>exact ⟨H1,I1,q1⟩
theorem Bw (ha:PT X a tA) (hb:PW X (.BoolOp .Or (b::rest) pos) tB'):PW X (.BoolOp .Or (a::b::rest) pos) (tOr tA tB'):=by
 intro wh pins s σ H Q I h
 refine isTrue_or (thn (ha pins s σ H _ I h) fun c s1 ⟨H1,I1,q1⟩=>?_)
 cases c with
 | true=>exact ⟨H1,I1,q1⟩
 | false=>exact hb wh pins s1 σ H1 Q I1 q1
theorem vJ (ha:PT X a tA):PT X (.UnaryOp .Not a pos) (Ct tA):=by
 intro pins s σ H Q I h
 exact isTrue_not (ha pins s σ H (fun c H1=>Q (!c) H1) I h)
def Bf (ta tb:TE):TE:=fun σ H Q=>ta σ H fun x H1=>∃ c,x=.bl c∧if c=true then tb σ H1 Q else Q (.bl false) H1
theorem AA {op} {t:TE} (h:PE X a t):PE X (.BoolOp op [a] pos) t:=fun pins s σ H Q I hw=>BoolOp_one (h pins s σ H Q I hw)
theorem zT (ha:PE X a ta) (hb:PE X (.BoolOp .And (b::rest) pos) tb):PE X (.BoolOp .And (a::b::rest) pos) (Bf ta tb):=by
 intro pins s σ H Q I h
 refine BoolOp_and (thn (ha pins s σ H _ I h) fun v s1 ⟨x,H1,I1,r1,q1⟩=>?_)
 obtain ⟨c,rfl,q1⟩:=q1
 cases r1
 refine wpAny_truthy_bool ?_
 cases c with
 | true=>exact hb pins s1 σ H1 Q I1 q1
 | false=>exact ⟨.bl false,H1,I1,rfl,q1⟩
def tIf (t:TT) (ta tb:TE):TE:=fun σ H Q=>t σ H fun c H1=>if c=true then ta σ H1 Q else tb σ H1 Q
theorem gb {c:Expr} (hc:PT X c tA) (ha:PE X a ta) (hb:PE X b tb):PE X (.IfExp c a b pos) (tIf tA ta tb):=by
 intro pins s σ H Q I h
 refine wpAny_IfExp (thn (hc pins s σ H _ I h) fun d s1 ⟨H1,I1,q1⟩=>?_)
 cases d with
 | true=>exact ha pins s1 σ H1 Q I1 q1
 | false=>exact hb pins s1 σ H1 Q I1 q1
end
open PySem PySem.Spec PyProof.Rows
def SqL (K:Frag) (H:Hp) (a:Addr) (xs:List V):Prop :=
 Rd H a (.lst xs) ∨
  ∃ (o:Obj) (its:Array Value) (n:Nat),K.lookup a=some o∧o.cls=.type "list"∧o.dict=none∧o.data=.seq its n∧its.size≤sizeLine∧aK xs its.toList
def SqT (K:Frag) (H:Hp) (a:Addr) (xs:List V):Prop :=
 Rd H a (.tup xs) ∨
  ∃ (o:Obj) (its:Array Value) (n:Nat),K.lookup a=some o∧o.cls=.type "tuple"∧o.data=.seq its n∧its.size≤sizeLine∧aK xs its.toList
def Ck:Value→Option V
 | .none=>some .non
 | .bool b=>some (.bl b)
 | .int i _=>some (.int i)
 | .str x _=>some (.str x)
 | .bytes b _=>some (.byt b)
 | .float b _=>some (.flt b)
 | .ref a=>some (.ref a)
 | .type n=>some (.ty n)
 | _=>none
theorem br.abs {x:V} {u:Value} (r:br x u):Ck u=some x:=by
 cases x with
 | non=>cases r; rfl
 | bl _=>cases r; rfl
 | int _=>obtain ⟨t,rfl⟩:=r; rfl
 | str _=>obtain ⟨t,rfl⟩:=r; rfl
 | byt _=>obtain ⟨t,rfl⟩:=r; rfl
 | flt _=>obtain ⟨t,rfl⟩:=r; rfl
 | ref _=>cases r; rfl
 | ty _=>cases r; rfl
theorem br.inj {x y:V} {u:Value} (r:br x u) (q:br y u):x=y:=Option.some.inj (r.abs.symm.trans q.abs)
theorem aK.inj:∀ {xs ys:List V} {us:List Value},aK xs us→aK ys us→xs=ys
 | _,_,_,.nil,.nil=>rfl
 | _,_,_,.cons r t,.cons r' t'=>by rw [r.inj r',aK.inj t t']
section
variable {X:Cx} {pins:List (Addr×Obj)} {σ:St} {H:Hp} {s:Shared} {a:Addr} {xs ys:List V}
theorem SqL.of {K:Frag} (h:H a=some (.lst xs)):SqL K H a xs:=.inl (.inl h)
theorem SqT.of {K:Frag} (h:H a=some (.tup xs)):SqT K H a xs:=.inl (.inl h)
theorem Inv.list (I:Inv X pins σ H s) (h:SqL X.K H a xs):∃ its:List Value,aK xs its∧PlainL s.heap a its.toArray∧xs.length≤sizeLine:=by
 rcases h with h | ⟨o,its,n,hk,hc,hd,hs,hz,r⟩
 ·obtain ⟨z,its,n,r,e⟩:=h.ok I.hok
  exact ⟨its,r,⟨_,n,e,rfl,rfl,rfl⟩,z⟩
 ·refine ⟨its.toList,r,⟨o,n,I.kIn a o hk,hc,hd,by simpa using hs⟩,?_⟩
  have e:=r.length
  simp only [Array.length_toList] at e
  omega
theorem Inv.tuple (I:Inv X pins σ H s) (h:SqT X.K H a xs):∃ its:List Value,aK xs its∧IsTup s.heap a its.toArray∧xs.length≤sizeLine:=by
 rcases h with h | ⟨o,its,n,hk,hc,hs,hz,r⟩
 ·obtain ⟨z,its,r,p,_⟩:=h.ok I.hok
  exact ⟨its,r,p,z⟩
 ·refine ⟨its.toList,r,⟨o,I.kIn a o hk,hc,n,by simpa using hs⟩,?_⟩
  have e:=r.length
  simp only [Array.length_toList] at e
  omega
theorem Inv.list_inj (I:Inv X pins σ H s) (h:SqL X.K H a xs) (h':SqL X.K H a ys):xs=ys:=by
 obtain ⟨its,r,⟨o,n,e,_,_,d⟩,_⟩:=I.list h
 obtain ⟨its',r',⟨o',n',e',_,_,d'⟩,_⟩:=I.list h'
 rw [e] at e'; cases e'
 rw [d] at d'
 injection d' with d1 _
 have:its=its':=by simpa using congrArg Array.toList d1
 subst this
 exact r.inj r'
theorem Inv.tuple_inj (I:Inv X pins σ H s) (h:SqT X.K H a xs) (h':SqT X.K H a ys):xs=ys:=by
 obtain ⟨its,r,⟨o,e,_,n,d⟩,_⟩:=I.tuple h
 obtain ⟨its',r',⟨o',e',_,n',d'⟩,_⟩:=I.tuple h'
 rw [e] at e'; cases e'
 rw [d] at d'
 injection d' with d1 _
 have:its=its':=by simpa using congrArg Array.toList d1
 subst this
 exact r.inj r'
end
abbrev Cx.wish (X:Cx) (E:Value→Shared→Prop):Cx:={ X with xe:=E }
abbrev Cx.nox (X:Cx):Cx:=X.wish fun _ _=>False
theorem Cx.Ok.wish {X:Cx} (ok:X.Ok) (E:Value→Shared→Prop):(X.wish E).Ok :=
 ⟨ok.mod,ok.kind,ok.glob,ok.blt,ok.above,ok.inj,ok.has,ok.cab,ok.hd,ok.frames,ok.stk,ok.exf,ok.bs,ok.bsz,ok.noex,ok.exfs,ok.funs,ok.frf⟩
theorem Cx.Ok.unwish {X:Cx} {E:Value→Shared→Prop} (ok:(X.wish E).Ok):X.Ok :=
 ⟨ok.mod,ok.kind,ok.glob,ok.blt,ok.above,ok.inj,ok.has,ok.cab,ok.hd,ok.frames,ok.stk,ok.exf,ok.bs,ok.bsz,ok.noex,ok.exfs,ok.funs,ok.frf⟩
section
variable {X:Cx} {pins:List (Addr×Obj)} {σ:St} {H:Hp} {s:Shared} {E:Value→Shared→Prop}
theorem Inv.wish (I:Inv X pins σ H s) (E:Value→Shared→Prop):Inv (X.wish E) pins σ H s:=⟨I.ok.wish E,I.os,I.bare,I.base,I.loc,I.cell,I.free,I.freeC,I.pin,I.hok,I.len⟩
theorem Inv.unwish (I:Inv (X.wish E) pins σ H s):Inv X pins σ H s:=⟨I.ok.unwish,I.os,I.bare,I.base,I.loc,I.cell,I.free,I.freeC,I.pin,I.hok,I.len⟩
theorem SP.unwish {D:mr} {f:Flow} {s':Shared} (h:SP (X.wish E) pins D f s'):SP X pins D f s':=by
 cases f with
 | next=>obtain ⟨σ',H',I,q⟩:=h; exact ⟨σ',H',I.unwish,q⟩
 | brk=>obtain ⟨σ',H',I,q⟩:=h; exact ⟨σ',H',I.unwish,q⟩
 | cont=>obtain ⟨σ',H',I,q⟩:=h; exact ⟨σ',H',I.unwish,q⟩
 | ret u=>obtain ⟨v,σ',H',I,r,q⟩:=h; exact ⟨v,σ',H',I.unwish,r,q⟩
theorem PSs.nox {st:List Stmt} {t:TS} (h:PSs X.nox st t):PSs X st t:=fun pins s σ H D I hw =>
 wpAny_mono (h pins s σ H D (I.wish _) hw) (fun _ _ q=>q.unwish) fun _ _ z=>False.elim z
end
def xU:Expr→Bool
 | .Starred _ _=>true
 | _=>false
theorem ac {e:Expr} {es:List Expr} {env:Env} (h:xU e=false):starEach (e::es) env=(false,eval e env)::starEach es env:=by
 cases e<;>first | rfl | cases h
theorem lu {env:Env}:∀ {es:List Expr},es.all (fun e=>!xU e)=true→starEach es env=es.map fun e=>(false,eval e env)
 | [],_=>rfl
 | e::es,h=>by
  rw [List.all_cons,Bool.and_eq_true] at h
  rw [ac (by simpa using h.1),lu h.2]
  rfl
theorem aj {es:List Expr} {env:Env} {pos:Pos} (h:es.all (fun e=>!xU e)=true):(backTo pos (starEach es env)).any (·.1)=false:=by
 rw [lu h]
 unfold backTo
 rw [List.map_map,List.any_map,List.any_eq_false]
 intro x _
 simp
theorem cH {e:Expr} {es:List Expr} {env:Env} {cpos:Pos} (h:(e::es).all (fun e=>!xU e)=true) (h2:decide ((e::es).length<29)=true):((backTo cpos (starEach (e::es) env)).all (fun x=>!x.1)&&(backToKw cpos (keywordEach [] env)).all (fun x=>x.1.isSome)
 &&decide ((e::es).length+([]:List Keyword).length+(if ([]:List Keyword).isEmpty then 0 else 1)<30))=true:=by
 rw [lu h]
 have e1:(backTo cpos ((e::es).map fun e=>(false,eval e env))).all (fun x=>!x.1)=true:=by
  unfold backTo
  rw [List.map_map,List.all_map,List.all_eq_true]
  intro x _
  simp
 have e2:(backToKw cpos (keywordEach [] env)).all (fun x=>x.1.isSome)=true:=rfl
 have e3:=of_decide_eq_true h2
 rw [e1,e2]
 simp at e3 ⊢
 omega
def zN:Expr→Bool
 | .ListComp _ _ _ _ | .SetComp _ _ _ _ | .DictComp _ _ _ _ _=>false
 | _=>true
theorem ao {e:Expr} {t:Option Expr} {l:Nat} {env:Env} (h:zN e=true):swapsWith e t l env=pure false:=by
 cases e<;>first | rfl | cases h
section
variable {X:Cx} {st:Stmt} {rest:List Stmt} {t u:TS} {e:Expr} {te:TE} {pos:Pos}
def wV:TS:=fun D σ H=>D.nx σ H
def xE (t u:TS):TS:=fun D σ H=>t { D with nx:=u D } σ H
theorem bh:PSs X [] wV:=fun _ _ σ H _ I h=>wpAny_execs_nil ⟨σ,H,I,h⟩
theorem al (h1:PS X st t) (h2:PSs X rest u):PSs X (st::rest) (xE t u):=by
 intro pins s σ H D I h
 refine wpAny_execs_cons (thn (h1 pins s σ H { D with nx:=u D } I h) fun f s1 q=>?_)
 cases f with
 | next =>
  obtain ⟨σ',H',I',q⟩:=q
  exact h2 pins s1 σ' H' D I' q
 | ret v=>exact q
 | brk=>exact q
 | cont=>exact q
theorem ap (h1:PS X st t):PSs X [st] t:=by
 intro pins s σ H D I h
 refine wpAny_execs_cons (thn (h1 pins s σ H D I h) fun f s1 q=>?_)
 cases f with
 | next=>exact wpAny_execs_nil q
 | ret v=>exact q
 | brk=>exact q
 | cont=>exact q
theorem Inv.quiet {pins:List (Addr×Obj)} {σ:St} {H:Hp} {s:Shared} (I:Inv X pins σ H s):interactive X.env=false:=by simp [interactive,I.ok.kind]
def BY (te:TE):TS:=fun D σ H=>te σ H fun _ H1=>D.nx σ H1
theorem bY (he:PE X e te) (hs:swapsWith e none pos.line X.env=pure false:=by first | exact ao rfl | rfl):PS X (.Expr e pos) (BY te):=by
 intro pins s σ H D I h
 exact wpAny_Expr_any (thn (he pins s σ H _ I h) fun v s1 ⟨x,H1,I1,r1,q1⟩=>⟨σ,H1,I1,q1⟩) I.quiet hs
def Cs (te:TE):TS:=fun D σ H=>te σ H D.rt
theorem aD (he:PE X e te):PS X (.Return (some e) pos) (Cs te):=by
 intro pins s σ H D I h
 exact wpAny_Return_some (thn (he pins s σ H _ I h) fun v s1 ⟨x,H1,I1,r1,q1⟩=>⟨x,σ,H1,I1,r1,q1⟩)
def Cq (c:TT) (t u:TS):TS:=fun D σ H=>c σ H fun b H1=>if b=true then t D σ H1 else u D σ H1
theorem bU {c:Expr} {a b:List Stmt} {tc:TT} (hc:PT X c tc) (ha:PSs X a t) (hb:PSs X b u):PS X (.If c a b pos) (Cq tc t u):=by
 intro pins s σ H D I h
 refine wpAny_If (thn (hc pins s σ H _ I h) fun d s1 ⟨H1,I1,q1⟩=>?_)
 cases d with
 | true=>exact ha pins s1 σ H1 D I1 q1
 | false=>exact hb pins s1 σ H1 D I1 q1
end
abbrev TG:=V→St→Hp→(St→Hp→Prop)→Prop
abbrev TGs:=List V→St→Hp→(St→Hp→Prop)→Prop
def PG (X:Cx) (target:Expr) (t:TG):Prop :=
 ∀ (pins:List (Addr×Obj)) (s:Shared) (σ:St) (H:Hp) (v:V) (u:Value) (Q:St→Hp→Prop),Inv X pins σ H s→br v u→t v σ H Q →
  wpAny (model X.prog X.w) X.A (assign target X.env u) (fun _ s'=>∃ σ' H',Inv X pins σ' H' s'∧Q σ' H') X.xe s
def PGs (X:Cx) (ts:List Expr) (t:TGs):Prop :=
 ∀ (pins:List (Addr×Obj)) (s:Shared) (σ:St) (H:Hp) (vs:List V) (us:List Value) (Q:St→Hp→Prop),Inv X pins σ H s→aK vs us→t vs σ H Q →
  wpAny (model X.prog X.w) X.A (assignInOrder ((assignEach ts X.env).map (·.2)) us) (fun _ s'=>∃ σ' H',Inv X pins σ' H' s'∧Q σ' H') X.xe s
abbrev Aq:=V→V→V→Hp→(Hp→Prop)→Prop
def BS (X:Cx) (t:Aq):Prop :=
 ∀ (pins:List (Addr×Obj)) (s:Shared) (σ:St) (H:Hp) (o i v:V) (ov iv u:Value) (Q:Hp→Prop),Inv X pins σ H s→br o ov→br i iv→br v u→t o i v H Q →
  wpAny (model X.prog X.w) X.A (setItem ov iv u) (fun _ s'=>∃ H',Inv X pins σ H' s'∧Q H') X.xe s
section
variable {X:Cx} {pos:Pos}
def jU (i:Nat):TG:=fun v σ H Q=>Q (σ.set i (some v)) H
theorem au {i:Nat} {x:Str} (hN:X.N.Nodup) (hi:X.N[i]?=some x) (hx:Loc X.env.scope x) (hf:X.fn x=true∨X.env.scope.names.lookup x=some .local:=by first | exact .inl rfl | exact .inr rfl | assumption):PG X (.Name x pos) (jU i):=by
 intro pins s σ H v u Q I r h
 exact wpAny_assign_Name (kU I hN hi hx r (fun s' I'=>⟨_,H,I',h⟩) hf)
def Cz:TGs:=fun vs σ H Q=>vs=[]∧Q σ H
def AF (t:TG) (u:TGs):TGs:=fun vs σ H Q=>∃ v r,vs=v::r∧t v σ H fun σ' H'=>u r σ' H' Q
theorem bP:PGs X [] Cz:=by
 intro pins s σ H vs us Q I r h
 obtain ⟨e,h⟩:=h
 subst e
 cases r
 exact assignInOrder_nil ⟨σ,H,I,h⟩
theorem aJ {e:Expr} {es:List Expr} {t:TG} {u:TGs} (h1:PG X e t) (h2:PGs X es u)
  (hs:(assignEach (e::es) X.env).map (·.2)=assign e X.env::(assignEach es X.env).map (·.2):=by rfl):PGs X (e::es) (AF t u):=by
 intro pins s σ H vs us Q I r h
 obtain ⟨v,vr,e1,h⟩:=h
 subst e1
 cases r with
 | cons r rr =>
  rw [hs]
  refine assignInOrder_cons (thn (h1 pins s σ H _ _ _ I r h) fun _ s1 ⟨σ1,H1,I1,q1⟩=>?_)
  exact h2 pins s1 σ1 H1 _ _ Q I1 rr q1
def AD (K:Frag) (n:Nat) (t:TGs):TG:=fun v σ H Q=>∃ a xs,v=.ref a∧SqT K H a xs∧xs.length=n∧t xs σ H Q
theorem cQ {es:List Expr} {k:Nat} {t:TGs} {n:Nat} (hc:X.calm=true) (h:PGs X es t)
  (hn:(assignEach es X.env).length=n:=by rfl) (hst:(assignEach es X.env).findIdx? (·.1)=none:=by rfl):PG X (.Tuple es k pos) (AD X.K n t):=by
 intro pins s σ H v u Q I r hw
 obtain ⟨a,xs,e1,hq,hl,hw⟩:=hw
 subst e1
 cases r
 obtain ⟨its,rv,ht,hz⟩:=I.tuple hq
 refine assign_Tuple_tuple (I.ok.hd hc) ht (by simp [hn,← hl,rv.length]) hst fun h' hx=>?_
 have I1:Inv X pins σ H { s with heap:=h' }:=I.kept (t':=s.toks) fun b o e=>hx b o (Nat.ne_of_lt (Heap.lt_size e)) e
 exact h pins _ σ H xs _ Q I1 (by simpa using rv) hw
def Cm (to ti:TE) (t:Aq):TG:=fun v σ H Q=>to σ H fun o H1=>ti σ H1 fun i H2=>t o i v H2 fun H3=>Q σ H3
theorem eM {o i:Expr} {to ti:TE} {t:Aq} (ho:PE X o to) (hi:PE X i ti) (hs:BS X t)
  (ha:∀ v,assign (.Subscript o i pos) X.env v=(do
   let ov ← holding [v] (eval o X.env)
   let iv ← holding [v,ov] (eval i X.env)
   standAt pos
   holding [v,ov,iv] (setItem ov iv v)
   release [v,ov,iv] []):=by intro _; rfl):PG X (.Subscript o i pos) (Cm to ti t):=by
 intro pins s σ H v u Q I r h
 rw [ha]
 refine wpAny_bind (wpAny_holding (thn (ho pins s σ H _ I h) fun ov s1 ⟨x,H1,I1,r1,q1⟩=>?_))
 refine wpAny_bind (wpAny_holding (thn (hi pins s1 σ H1 _ I1 q1) fun iv s2 ⟨y,H2,I2,r2,q2⟩=>?_))
 refine wpAny_bind (wpAny_standAt (wpAny_bind (wpAny_holding (thn (hs pins s2 σ H2 x y v ov iv u _ I2 r1 r2 r q2) fun _ s3 ⟨H3,I3,q3⟩=>?_))))
 exact wpAny_release ⟨σ,H3,I3,q3⟩
def zt (te:TE) (g:TG):TS:=fun D σ H=>te σ H fun x H1=>g x σ H1 D.nx
theorem fR {tg e:Expr} {te:TE} {g:TG} (he:PE X e te) (hg:PG X tg g) (hs:swapsWithSole [tg] e pos.line X.env=pure false:=by rfl) (hw:swappedStores [tg] e X.env=pure none:=by rfl)
  (h1:(assignEach [tg] X.env).map (·.2)=[assign tg X.env]:=by rfl):PS X (.Assign [tg] e pos) (zt te g):=by
 intro pins s σ H D I h
 refine wpAny_Assign_stores (thn (he pins s σ H _ I h) fun v s1 ⟨x,H1,I1,r1,q1⟩=>?_) hs hw
 rw [h1]
 exact thn (hg pins s1 σ H1 x v _ I1 r1 q1) fun _ s2 q=>q
theorem aB {i:Nat} {x:Str} {e:Expr} {te:TE} {pos':Pos} (hN:X.N.Nodup) (hi:X.N[i]?=some x) (hx:Loc X.env.scope x) (he:PE X e te) (hs:swapsWith e (some (.Name x pos')) pos.line X.env=pure false:=by first | exact ao rfl | rfl) (hf:X.fn x=true∨X.env.scope.names.lookup x=some .local:=by first | exact .inl rfl | exact .inr rfl | assumption) :
  PS X (.Assign [.Name x pos'] e pos) (zt te (jU i)):=by
 intro pins s σ H D I h
 refine wpAny_Assign_Name (thn (he pins s σ H _ I h) fun v s1 ⟨y,H1,I1,r1,q1⟩=>?_) hs
 exact kU I1 hN hi hx r1 (fun s2 I2=>⟨_,H1,I2,q1⟩) hf
def zK (c:TT) (tb:TS):TS:=fun D σ H=>∃ W:Nat→St→Hp→Prop,(∃ m,W m σ H)∧∀ m σ H,W m σ H →
 c σ H fun b H1=>if b=true then ∃ N:St→Hp→Prop,(∀ σ' H',N σ' H'→∃ m',m'<m∧W m' σ' H')∧tb { D with nx:=N,ct:=N,bk:=D.nx } σ H1 else D.nx σ H1
theorem xh {c:Expr} {body:List Stmt} {tc:TT} {tb:TS} (hp:PassesOwn (model X.prog X.w) X.A X.env X.xe) (hc:PT X c tc) (hb:PSs X body tb):PS X (.While c body [] pos) (zK tc tb):=by
 intro pins s σ H D I h
 obtain ⟨W,⟨m0,w0⟩,turn⟩:=h
 refine wpAny_While (codeAny_whileLoop (fun n s'=>∃ σ' H',Inv X pins σ' H' s'∧W n σ' H') ?_ m0 ⟨σ,H,I,w0⟩)
 rintro n s1 ⟨σ1,H1,I1,w1⟩
 refine wpAny_passesOwn hp (thn (hc pins s1 σ1 H1 _ I1 (turn n σ1 H1 w1)) fun b s2 ⟨H2,I2,q2⟩=>?_)
 cases b with
 | true =>
  obtain ⟨N,hN,q2⟩:=q2
  rw [if_pos rfl]
  refine wpAny_passesOwn hp (thn (hb pins s2 σ1 H2 _ I2 q2) fun f s3 q3=>?_)
  cases f with
  | next =>
   obtain ⟨σ3,H3,I3,n3⟩:=q3
   obtain ⟨m',hm,w3⟩:=hN σ3 H3 n3
   exact ⟨m',hm,σ3,H3,I3,w3⟩
  | cont =>
   obtain ⟨σ3,H3,I3,n3⟩:=q3
   obtain ⟨m',hm,w3⟩:=hN σ3 H3 n3
   exact ⟨m',hm,σ3,H3,I3,w3⟩
  | brk=>exact q3
  | ret v=>exact q3
 | false =>
  rw [if_neg Bool.false_ne_true]
  exact wpAny_execs_nil ⟨σ1,H2,I2,q2⟩
end
structure It where
 go:Nat→Hp→Prop
 yld:Nat→Hp→V→Hp→Prop
 stop:Nat→Hp→Prop
def iE (X:Cx) (pins:List (Addr×Obj)) (H:Hp) (b:Addr):Prop :=
 H b=none∧b≠X.env.locals∧b∉X.fs∧(b∈X.ex∨X.s₀.heap.objs.size≤b)∧(∀ x c,X.env.cells.lookup x=some c→c≠b)∧∀ p∈X.pn++pins,p.1≠b
theorem Inv.fpOk {X:Cx} {pins:List (Addr×Obj)} {σ:St} {H H':Hp} {s:Shared} {b:Addr} (I:Inv X pins σ H s) (hb:s.heap.objs.size≤b) (hn:H' b=none):iE X pins H' b:=by
 refine ⟨hn,Nat.ne_of_gt (Nat.lt_of_lt_of_le I.lt hb),I.nofs hb,.inr (Nat.le_trans I.sz hb),fun x c e z=>?_,fun p hp z=>?_⟩
 ·obtain ⟨v,q⟩:=I.cell x c e
  exact absurd (Nat.lt_of_lt_of_le q.lt (by rw [z]; exact hb)) (Nat.lt_irrefl _)
 ·exact absurd (Nat.lt_of_lt_of_le (Heap.lt_size (I.pin p hp).1) (by rw [z]; exact hb)) (Nat.lt_irrefl _)
structure pc (P:Program) (w:World) (K:Frag) (tg:Expr) (J:It) (fp:List Addr) (it:Addr) (tn:Nat→Heap→Prop):Prop where
 mem:it∈fp
 obj:∀ i h,tn i h→∀ b∈fp,∃ o,h.get? b=some o∧∀ v,o.data≠.cell v
 keep:∀ i h h',tn i h→(∀ b∈fp,∀ o,h.get? b=some o→h'.get? b=some o)→tn i h'
 item:∀ (X:Cx),X.prog=P→X.w=w→X.K=K→X.calm=true→∀ (i:Nat) (pins:List (Addr×Obj)) (s:Shared) (σ:St) (H:Hp) (E:Value→Shared→Prop),Inv X pins σ H s→(∀ b∈fp,iE X pins H b)→tn i s.heap→J.go i H →
  wpAny (model P w) X.A (pyNext (.ref it)) (fun r s1=>∃ u,r=some u ∧
   wpAny (model P w) X.A (letOwnedTupleGo tg (.ref it) u) (fun _ s2=>∃ x H',Inv X pins σ H' s2∧br x u∧J.yld i H x H'∧tn (i+1) s2.heap∧∀ b∈fp,H' b=none) E s1) E s
 done:∀ (X:Cx),X.prog=P→X.w=w→X.K=K→X.calm=true→∀ (i:Nat) (pins:List (Addr×Obj)) (s:Shared) (σ:St) (H:Hp) (E:Value→Shared→Prop),Inv X pins σ H s→(∀ b∈fp,iE X pins H b)→tn i s.heap→J.stop i H →
  wpAny (model P w) X.A (pyNext (.ref it)) (fun r s1=>r=none∧Inv X pins σ H s1) E s
 self:∀ (A:Around) (i:Nat) (s:Shared) (Q:Value→Shared→Prop) (E:Value→Shared→Prop),tn i s.heap→Q (.ref it) s→wpAny (model P w) A (pyIter (.ref it)) Q E s
abbrev TI:=St→Hp→(It→Hp→Prop)→Prop
def PIE (X:Cx) (pins:List (Addr×Obj)) (σ:St) (tg:Expr) (R:It→Hp→Prop) (itv:Value) (s2:Shared):Prop :=
 ∃ (it:Addr) (fp:List Addr) (tn:Nat→Heap→Prop) (J:It) (H':Hp),itv=.ref it∧Inv X pins σ H' s2∧pc X.prog X.w X.K tg J fp it tn∧tn 0 s2.heap∧(∀ b∈fp,iE X pins H' b)∧R J H'
def PI (X:Cx) (tg iter:Expr) (wi:TI):Prop :=
 ∀ (pins:List (Addr×Obj)) (s:Shared) (σ:St) (H:Hp) (R:It→Hp→Prop),Inv X pins σ H s→wi σ H R →
  wpAny (model X.prog X.w) X.A (eval iter X.env) (fun v s1=>wpAny (model X.prog X.w) X.A (pyIter v) (PIE X pins σ tg R) X.xe s1) X.xe s
theorem pP {M:Model} {A:Around} {E:Value→Shared→Prop} {s:Shared} {tg:Expr} {it:Addr} {u:Value} {o:Obj} {n:String} {vs:Array Value} {Q:Unit→Shared→Prop} (ho:s.heap.get? it=some o) (hc:o.cls=.type n) (hd:o.data=.fields vs)
  (hn:["enumerate", "zip", "dict_itemiterator", "dict_reverseitemiterator", "odict_iterator", "itertools.zip_longest", "itertools.pairwise"].contains n=false) (hQ:Q () s):wpAny M A (letOwnedTupleGo tg (.ref it) u) Q E s:=by
 unfold letOwnedTupleGo
 cases tg<;>first
  | exact wpAny_pure hQ
  | (cases u<;>first
    | exact wpAny_pure hQ
    | (refine wpAny_bind (wpAny_load ho ?_)
       rw [hc,hd]
       show wpAny M A (if (["enumerate", "zip", "dict_itemiterator", "dict_reverseitemiterator", "odict_iterator", "itertools.zip_longest", "itertools.pairwise"].contains n&&vs[0]?==some (rawInt _))=true then _ else _) Q E s
       rw [if_neg (by intro h; rw [hn,Bool.false_and] at h; cases h)]
       exact wpAny_pure hQ))
def Itl (K:Frag) (a:Addr):It :=
 ⟨fun i H=>∃ xs x,SqL K H a xs∧xs[i]?=some x,fun i H x H'=>H'=H∧∀ xs,SqL K H a xs→xs[i]?=some x,fun i H=>∃ xs,SqL K H a xs∧xs.length≤i⟩
def Itt (K:Frag) (a:Addr):It :=
 ⟨fun i H=>∃ xs x,SqT K H a xs∧xs[i]?=some x,fun i H x H'=>H'=H∧∀ xs,SqT K H a xs→xs[i]?=some x,fun i H=>∃ xs,SqT K H a xs∧xs.length≤i⟩
def Itr (lo:Int) (n:Nat):It:=⟨fun i _=>i<n,fun i H x H'=>H'=H∧x=.int (lo+i),fun i _=>n≤i⟩
theorem ug {P:Program} {w:World} {K:Frag} {tg:Expr} (a it:Addr):pc P w K tg (Itl K a) [it] it (fun i h=>h.IsListIter it a i) where
 mem:=by simp
 obj:=fun i h st b hb=>by
  have e:b=it:=by simpa using hb
  subst e
  obtain ⟨o,e,c,d⟩:=st
  exact ⟨o,e,fun v z=>by rw [d] at z; cases z⟩
 keep:=fun i h h' st k=>st.at fun o e=>k it (by simp) o e
 item:=by
  intro X hP hw hK hc i pins s σ H E I hf st hg
  subst hP hw hK
  obtain ⟨xs,x,hq,hx⟩:=hg
  obtain ⟨its,rv,p,hz⟩:=I.list hq
  obtain ⟨u,hu,ru⟩:=rv.get hx
  obtain ⟨f0,f1,f2,f3,f4,f5⟩:=hf it (by simp)
  refine wpAny_pyNext_list_item st p.isList (x:=u) (by simpa using hu) fun h' st' sb=>?_
  have I1:Inv X pins σ H { s with heap:=h' }:=I.turned (t':=s.toks) (fun b o hb e=>(sb.2 b hb).trans e) f0 f1 f3 f4 f5
  obtain ⟨o,e,c,d⟩:=id st'
  exact ⟨u,rfl,pP (s:={ s with heap:=h' }) e c d (by decide) ⟨x,H,I1,ru,⟨rfl,fun ys hy=>by rw [I.list_inj hy hq]; exact hx⟩,st',fun b hb=>(hf b hb).1⟩⟩
 done:=by
  intro X hP hw hK hc i pins s σ H E I hf st hg
  subst hP hw hK
  obtain ⟨xs,hq,hx⟩:=hg
  obtain ⟨its,rv,p,hz⟩:=I.list hq
  obtain ⟨f0,f1,f2,f3,f4,f5⟩:=hf it (by simp)
  have hl:=rv.length
  exact wpAny_pyNext_list_end (I.ok.hd hc) st p.isList (by simp; omega) fun h' eb=>⟨rfl,I.turned (t':=s.toks) (fun b o hb e=>eb b o hb e) f0 f1 f3 f4 f5⟩
 self:=fun _ _ _ _ _ st h=>wpAny_pyIter_listiter st h
theorem rK {P:Program} {w:World} {K:Frag} {tg:Expr} (a it:Addr):pc P w K tg (Itt K a) [it] it (fun i h=>h.IsTupleIter it a i) where
 mem:=by simp
 obj:=fun i h st b hb=>by
  have e:b=it:=by simpa using hb
  subst e
  obtain ⟨o,e,c,d⟩:=st
  exact ⟨o,e,fun v z=>by rw [d] at z; cases z⟩
 keep:=fun i h h' st k=>st.at fun o e=>k it (by simp) o e
 item:=by
  intro X hP hw hK hc i pins s σ H E I hf st hg
  subst hP hw hK
  obtain ⟨xs,x,hq,hx⟩:=hg
  obtain ⟨its,rv,p,hz⟩:=I.tuple hq
  obtain ⟨u,hu,ru⟩:=rv.get hx
  obtain ⟨f0,f1,f2,f3,f4,f5⟩:=hf it (by simp)
  refine wpAny_pyNext_tuple_item st (show s.heap.IsTuple a its.toArray from p) (x:=u) (by simpa using hu) fun h' st' sb=>?_
  have I1:Inv X pins σ H { s with heap:=h' }:=I.turned (t':=s.toks) (fun b o hb e=>(sb.2 b hb).trans e) f0 f1 f3 f4 f5
  obtain ⟨o,e,c,d⟩:=id st'
  exact ⟨u,rfl,pP (s:={ s with heap:=h' }) e c d (by decide) ⟨x,H,I1,ru,⟨rfl,fun ys hy=>by rw [I.tuple_inj hy hq]; exact hx⟩,st',fun b hb=>(hf b hb).1⟩⟩
 done:=by
  intro X hP hw hK hc i pins s σ H E I hf st hg
  subst hP hw hK
  obtain ⟨xs,hq,hx⟩:=hg
  obtain ⟨its,rv,p,hz⟩:=I.tuple hq
  obtain ⟨f0,f1,f2,f3,f4,f5⟩:=hf it (by simp)
  have hl:=rv.length
  exact wpAny_pyNext_tuple_end (I.ok.hd hc) st (show s.heap.IsTuple a its.toArray from p) (by simp; omega) fun h' eb=>⟨rfl,I.turned (t':=s.toks) (fun b o hb e=>eb b o hb e) f0 f1 f3 f4 f5⟩
 self:=fun _ _ _ _ _ st h=>wpAny_pyIter_tupleiter st h
theorem pZ {P:Program} {w:World} {K:Frag} {tg:Expr} (it:Addr) (lo:Int) (n:Nat):pc P w K tg (Itr lo n) [it] it (fun i h=>IsRangeIter h it (lo+(i:Nat)*1) ((n:Int) - (i:Nat)) 1) where
 mem:=by simp
 obj:=fun i h st b hb=>by
  have e:b=it:=by simpa using hb
  subst e
  exact ⟨_,st,fun v z=>by
   have z':Data.fields _=Data.cell v:=z
   cases z'⟩
 keep:=fun i h h' st k=>k it (by simp) _ st
 item:=by
  intro X hP hw hK hc i pins s σ H E I hf st hg
  subst hP hw hK
  obtain ⟨f0,f1,f2,f3,f4,f5⟩:=hf it (by simp)
  have W:=Walks.range (prog:=X.prog) (w:=X.w) (I.ok.hd hc) it lo 1 n
  refine W.item i s _ _ hg st fun v h' tk hv st' kk=>?_
  obtain ⟨t,rfl⟩:=hv
  have I1:Inv X pins σ H { s with heap:=h',toks:=tk }:=I.turned (fun b o hb e=>kk b o (by simpa using hb) e) f0 f1 f3 f4 f5
  refine ⟨_,rfl,pP (s:={ s with heap:=h',toks:=tk }) (n := "range_iterator") st' rfl rfl (by decide) ⟨.int (lo+i),H,I1,⟨t,?_⟩,⟨rfl,rfl⟩,st',fun b hb=>(hf b hb).1⟩⟩
  rw [Int.mul_one]
 done:=by
  intro X hP hw hK hc i pins s σ H E I hf st hg
  subst hP hw hK
  obtain ⟨f0,f1,f2,f3,f4,f5⟩:=hf it (by simp)
  exact wpAny_pyNext_range_end (I.ok.hd hc) st (by have:n≤i:=hg; omega) fun h' eb=>⟨rfl,I.turned (t':=s.toks) (fun b o hb e=>eb b o hb e) f0 f1 f3 f4 f5⟩
 self:=fun _ _ _ _ _ st h=>wpAny_pyIter_rangeiter st h
open PySem PySem.Spec PyProof.Rows
section
variable {X:Cx} {tg:Expr}
def BV (K:Frag) (tl:TE):TI:=fun σ H R=>tl σ H fun x H1=>∃ a,x=.ref a∧(∃ xs,SqL K H1 a xs)∧R (Itl K a) H1
def BR (K:Frag) (tl:TE):TI:=fun σ H R=>tl σ H fun x H1=>∃ a,x=.ref a∧(∃ xs,SqT K H1 a xs)∧R (Itt K a) H1
theorem aZ {l:Expr} {tl:TE} (hl:PE X l tl):PI X tg l (BV X.K tl):=by
 intro pins s σ H R I h
 refine thn (hl pins s σ H _ I h) fun v s1 ⟨x,H1,I1,r1,q1⟩=>?_
 obtain ⟨a,e,⟨xs,hq⟩,q⟩:=q1
 subst e
 cases r1
 obtain ⟨its,rv,p,hz⟩:=I1.list hq
 refine wpAny_pyIter_list p.isList ?_
 refine ⟨s1.heap.objs.size,[s1.heap.objs.size],_,_,H1,rfl,I1.kept (t':=s1.toks) fun b o e=>Heap.get?_push_of_some _ e,ug a _,⟨_,Heap.get?_push_size _ rfl,rfl,rfl⟩,fun b hb=>?_,q⟩
 have e:b=s1.heap.objs.size:=by simpa using hb
 subst e
 exact I1.fpOk (Nat.le_refl _) (I1.hok.fresh (Nat.le_refl _))
theorem cG {l:Expr} {tl:TE} (hl:PE X l tl):PI X tg l (BR X.K tl):=by
 intro pins s σ H R I h
 refine thn (hl pins s σ H _ I h) fun v s1 ⟨x,H1,I1,r1,q1⟩=>?_
 obtain ⟨a,e,⟨xs,hq⟩,q⟩:=q1
 subst e
 cases r1
 obtain ⟨its,rv,p,hz⟩:=I1.tuple hq
 refine wpAny_pyIter_tuple (show s1.heap.IsTuple a its.toArray from p) ?_
 refine ⟨s1.heap.objs.size,[s1.heap.objs.size],_,_,H1,rfl,I1.kept (t':=s1.toks) fun b o e=>Heap.get?_push_of_some _ e,rK a _,⟨_,Heap.get?_push_size _ rfl,rfl,rfl⟩,fun b hb=>?_,q⟩
 have e:b=s1.heap.objs.size:=by simpa using hb
 subst e
 exact I1.fpOk (Nat.le_refl _) (I1.hok.fresh (Nat.le_refl _))
theorem pD {pins:List (Addr×Obj)} {σ:St} {H:Hp} {s:Shared} {R:It→Hp→Prop} {E:Value→Shared→Prop} {lo hi:Int} {t u v:Tok} {tk:Nat} (I:Inv X pins σ H s) (h1:-(2 ^ 62)≤lo) (h2:lo<2 ^ 62) (h3:-(2 ^ 62)≤hi) (h4:hi<2 ^ 62)
  (q:R (Itr lo (hi - lo).toNat) H):wpAny (model X.prog X.w) X.A (pyIter (.ref s.heap.objs.size)) (PIE X pins σ tg R) E { s with heap:=s.heap.push { cls:=.type "range",data:=.fields #[.int lo t,.int hi u,.int 1 v] },toks:=tk }:=by
 refine wpAny_pyIter_range (IsRange.new ..) (small_one h1 h2 h3 h4) ?_
 have I1:Inv X pins σ H { s with heap:=s.heap.push { cls:=.type "range",data:=.fields #[.int lo t,.int hi u,.int 1 v] },toks:=tk }:=I.kept fun b o e=>Heap.get?_push_of_some _ e
 refine ⟨(s.heap.push { cls:=.type "range",data:=.fields #[.int lo t,.int hi u,.int 1 v] }).objs.size,[(s.heap.push { cls:=.type "range",data:=.fields #[.int lo t,.int hi u,.int 1 v] }).objs.size],_,_,H,rfl,
  I1.kept (t':=tk) fun b o e=>Heap.get?_push_of_some _ e,pZ _ lo (hi - lo).toNat,?_,fun b hb=>?_,q⟩
 ·have e1:lo+((0:Nat):Int)*1=lo:=by simp
  have e2:(((hi - lo).toNat:Nat):Int) - ((0:Nat):Int)=Builtin.Range.rangeSize lo hi 1:=by rw [rangeSize_one]; split<;>omega
  show IsRangeIter _ _ (lo+((0:Nat):Int)*1) ((((hi - lo).toNat:Nat):Int) - ((0:Nat):Int)) 1
  rw [e1,e2]
  exact Heap.get?_push_size _ rfl
 ·have e:b=(s.heap.push { cls:=.type "range",data:=.fields #[.int lo t,.int hi u,.int 1 v] }).objs.size:=by simpa using hb
  subst e
  exact I1.fpOk (Nat.le_refl _) (I1.hok.fresh (Nat.le_refl _))
def AC (ta:TA):TI:=fun σ H R=>ta σ H fun vs H1=>∃ j:Int,vs=[.int j]∧-(2 ^ 62)≤j∧j<2 ^ 62∧R (Itr 0 j.toNat) H1
def BW (ta:TA):TI:=fun σ H R=>ta σ H fun vs H1=>∃ i j:Int,vs=[.int i,.int j]∧(-(2 ^ 62)≤i∧i<2 ^ 62∧-(2 ^ 62)≤j∧j<2 ^ 62)∧R (Itr i (j - i).toNat) H1
theorem cD {a:Expr} {ta:TA} {p pos:Pos} (hg:Gl X "range") (hm:X.mg "range"=none) (ha:PA X [a] ta) (hs:starEach [a] X.env=[(false,eval a X.env)]:=by rfl):PI X tg (.Call (.Name "range" p) [a] [] pos) (AC ta):=by
 intro pins s σ H R I h
 refine Call_ (iB I hg hm boot_range (PyProof.Rows.callWith_type1 (thn (ha pos pins s σ H _ I h) fun us s1 ⟨vs,H1,I1,r1,q1⟩=>?_) hs rfl))
 obtain ⟨j,e,q1,q2,q⟩:=q1
 subst e
 cases r1 with
 | cons r rr =>
  cases rr
  obtain ⟨t,rfl⟩:=r
  exact call_range_1 (pD I1 (by omega) (by omega) q1 q2 (by simpa using q))
theorem nI {a b:Expr} {ta:TA} {p pos:Pos} (hg:Gl X "range") (hm:X.mg "range"=none) (ha:PA X [a,b] ta) (hs:starEach [a,b] X.env=[(false,eval a X.env),(false,eval b X.env)]:=by rfl) (hs2:starEach [b] X.env=[(false,eval b X.env)]:=by rfl) :
  PI X tg (.Call (.Name "range" p) [a,b] [] pos) (BW ta):=by
 intro pins s σ H R I h
 refine Call_ (iB I hg hm boot_range (PyProof.Rows.callWith_type1 (thn (ha pos pins s σ H _ I h) fun us s1 ⟨vs,H1,I1,r1,q1⟩=>?_) (by rw [hs,hs2]) (by rw [hs2]; rfl)))
 obtain ⟨i,j,e,⟨q1,q2,q3,q4⟩,q⟩:=q1
 subst e
 cases r1 with
 | cons r rr =>
  cases rr with
  | cons r' rr =>
   cases rr
   obtain ⟨t,rfl⟩:=r
   obtain ⟨t',rfl⟩:=r'
   exact call_range_2 (pD I1 q1 q2 q3 q4 q)
def Cv (wi:TI) (g:TG) (tb:TS):TS:=fun D σ H=>wi σ H fun J H1=>∃ W:Nat→Nat→St→Hp→Prop,(∃ m,W 0 m σ H1)∧∀ i m σ H,W i m σ H →
 (J.stop i H∧D.nx σ H)∨(J.go i H∧∃ N:St→Hp→Prop,(∀ σ' H',N σ' H'→∃ m',m'<m∧W (i+1) m' σ' H')∧∀ x H',J.yld i H x H'→g x σ H' fun σ2 H2=>tb { D with nx:=N,ct:=N,bk:=D.nx } σ2 H2)
def jg (fp:List Addr) (h:Heap):List (Addr×Obj):=fp.filterMap fun b=>(h.get? b).map fun o=>(b,o)
theorem er {fp:List Addr} {h:Heap} {b:Addr} {o:Obj} (hb:b∈fp) (e:h.get? b=some o):(b,o)∈jg fp h:=List.mem_filterMap.mpr ⟨b,hb,by rw [e]; rfl⟩
theorem tY {fp:List Addr} {h:Heap} {p:Addr×Obj} (hp:p∈jg fp h):p.1∈fp∧h.get? p.1=some p.2:=by
 obtain ⟨b,hb,e⟩:=List.mem_filterMap.mp hp
 cases q:h.get? b with
 | none=>rw [q] at e; cases e
 | some o =>
  rw [q] at e
  have e':(b,o)=p:=Option.some.inj e
  subst e'
  exact ⟨hb,q⟩
theorem Inv.pinned {pins:List (Addr×Obj)} {σ:St} {H:Hp} {s:Shared} {fp:List Addr} (I:Inv X pins σ H s) (hf:∀ b∈fp,iE X pins H b) (ho:∀ b∈fp,∃ o,s.heap.get? b=some o∧∀ v,o.data≠.cell v):Inv X (pins++jg fp s.heap) σ H s :=
 I.pins_of fun p hp=>(List.mem_append.mp hp).elim (fun z=>I.pin p (List.mem_append_right _ z)) fun z=>by
  obtain ⟨hb,e⟩:=tY z
  obtain ⟨f0,f1,f2,_⟩:=hf p.1 hb
  obtain ⟨o,e',d⟩:=ho p.1 hb
  rw [e] at e'; cases e'
  exact ⟨e,f0,f1,f2,d⟩
theorem Inv.unpinned {pins pl:List (Addr×Obj)} {σ:St} {H:Hp} {s:Shared} (I:Inv X (pins++pl) σ H s):Inv X pins σ H s:=I.pins_of fun p hp=>I.pin p (List.mem_append_right _ (List.mem_append_left _ hp))
theorem bn {iter:Expr} {body:List Stmt} {wi:TI} {g:TG} {tb:TS} {pos:Pos} (hp:PassesOwn (model X.prog X.w) X.A X.env X.xe) (hc:X.calm=true) (hi:PI X tg iter wi) (hg:PG X tg g) (hb:PSs X body tb)
  (hs:∀ x,foldedSetIterable iter X.env x=pure x:=by intro _; rfl):PS X (.For tg iter body [] pos) (Cv wi g tb):=by
 intro pins s σ H D I h
 refine wpAny_For (thn (hi pins s σ H _ I h) fun v s1 h1=>thn h1 fun itv s2 h2=>?_) hs
 obtain ⟨it,fp,tn,J,H2,e,I2,T,st2,f2,W,⟨m0,w0⟩,turn⟩:=h2
 subst e
 -- what stays true of the iterator's objects through the loop
 have stat:∀ {H':Hp},(∀ b∈fp,H' b=none)→∀ b∈fp,iE X pins H' b:=fun hn b hb=>⟨hn b hb,(f2 b hb).2⟩
 refine codeAny_forLoop_any (fun n s'=>∃ i σ' H',Inv X pins σ' H' s'∧tn i s'.heap∧(∀ b∈fp,H' b=none)∧W i n σ' H') ?_ m0 ⟨0,σ,H2,I2,st2,fun b hb=>(f2 b hb).1,w0⟩
 rintro n s3 ⟨i,σ3,H3,I3,st3,fr3,w3⟩
 rcases turn i n σ3 H3 w3 with ⟨stop,qn⟩ | ⟨go,N,hN,step⟩
 ·refine wpAny_passesOwn hp (thn (T.done X rfl rfl rfl hc i pins s3 σ3 H3 X.xe I3 (stat fr3) st3 stop) fun r s4 ⟨hr,I4⟩=>?_)
  subst hr
  exact wpAny_execs_nil ⟨σ3,H3,I4,qn⟩
 ·refine wpAny_passesOwn hp (thn (T.item X rfl rfl rfl hc i pins s3 σ3 H3 X.xe I3 (stat fr3) st3 go) fun r s4 ⟨u,hr,h4⟩=>?_)
  subst hr
  refine wpAny_passesOwn hp (thn h4 fun _ s5 ⟨x,H5,I5,r5,y5,st5,fr5⟩=>?_)
  have I5':=I5.pinned (stat fr5) (T.obj _ _ st5)
  refine wpAny_passesOwn hp (thn (hg _ s5 σ3 H5 x u _ I5' r5 (step x H5 y5)) fun _ s6 ⟨σ6,H6,I6,q6⟩=>?_)
  refine wpAny_passesOwn hp (thn (hb _ s6 σ6 H6 _ I6 q6) fun f s7 q7=>?_)
  have again:∀ {σ7:St} {H7:Hp},Inv X (pins++jg fp s5.heap) σ7 H7 s7→N σ7 H7→∃ m,m<n∧∃ i σ' H',Inv X pins σ' H' s7∧tn i s7.heap∧(∀ b∈fp,H' b=none)∧W i m σ' H':=fun {σ7 H7} I7 n7=>by
   obtain ⟨m',hm,w7⟩:=hN σ7 H7 n7
   refine ⟨m',hm,i+1,σ7,H7,I7.unpinned,T.keep _ _ _ st5 fun b hb o e=>(I7.pin (b,o) (List.mem_append_right _ (List.mem_append_right _ (er hb e)))).1,fun b hb=>?_,w7⟩
   obtain ⟨o,e,d⟩:=T.obj _ _ st5 b hb
   exact (I7.pin (b,o) (List.mem_append_right _ (List.mem_append_right _ (er hb e)))).2.1
  cases f with
  | next=>obtain ⟨σ7,H7,I7,n7⟩:=q7; exact again I7 n7
  | cont=>obtain ⟨σ7,H7,I7,n7⟩:=q7; exact again I7 n7
  | brk=>obtain ⟨σ7,H7,I7,q7⟩:=q7; exact ⟨σ7,H7,I7.unpinned,q7⟩
  | ret v=>obtain ⟨x7,σ7,H7,I7,r7,q7⟩:=q7; exact ⟨x7,σ7,H7,I7.unpinned,r7,q7⟩
end
theorem bK {K:Frag} {a:Addr} {xs:List V} {g:TG} {tb:TS} {D:mr} {σ:St} {H:Hp} (Pv:Nat→St→Hp→Prop) (h0:Pv 0 σ H) (hl:∀ i σ H,i≤xs.length→Pv i σ H→SqL K H a xs)
  (hs:∀ i x σ H,xs[i]?=some x→Pv i σ H→g x σ H fun σ2 H2=>tb { D with nx:=Pv (i+1),ct:=Pv (i+1),bk:=D.nx } σ2 H2) (hd:∀ σ H,Pv xs.length σ H→D.nx σ H) :
  ∃ W:Nat→Nat→St→Hp→Prop,(∃ m,W 0 m σ H)∧∀ i m σ H,W i m σ H →
   ((Itl K a).stop i H∧D.nx σ H)∨((Itl K a).go i H∧∃ N:St→Hp→Prop,(∀ σ' H',N σ' H'→∃ m',m'<m∧W (i+1) m' σ' H')∧∀ x H',(Itl K a).yld i H x H'→g x σ H' fun σ2 H2=>tb { D with nx:=N,ct:=N,bk:=D.nx } σ2 H2):=by
 refine ⟨fun i m σ H=>m=xs.length - i∧i≤xs.length∧Pv i σ H,⟨xs.length,by simp,Nat.zero_le _,h0⟩,?_⟩
 rintro i m σ H ⟨rfl,hi,p⟩
 have q:=hl i σ H hi p
 by_cases hlt:i<xs.length
 ·refine .inr ⟨⟨xs,xs[i],q,by simp [hlt]⟩,Pv (i+1),fun σ' H' p'=>⟨xs.length - (i+1),by omega,rfl,hlt,p'⟩,fun x H' y=>?_⟩
  obtain ⟨e,y⟩:=y
  subst e
  exact hs i x σ _ (y xs q) p
 ·have e:i=xs.length:=by omega
  subst e
  exact .inl ⟨⟨xs,q,Nat.le_refl _⟩,hd σ H p⟩
theorem fo {K:Frag} {a:Addr} {xs:List V} {g:TG} {tb:TS} {D:mr} {σ:St} {H:Hp} (Pv:Nat→St→Hp→Prop) (h0:Pv 0 σ H) (hl:∀ i σ H,i≤xs.length→Pv i σ H→SqT K H a xs)
  (hs:∀ i x σ H,xs[i]?=some x→Pv i σ H→g x σ H fun σ2 H2=>tb { D with nx:=Pv (i+1),ct:=Pv (i+1),bk:=D.nx } σ2 H2) (hd:∀ σ H,Pv xs.length σ H→D.nx σ H) :
  ∃ W:Nat→Nat→St→Hp→Prop,(∃ m,W 0 m σ H)∧∀ i m σ H,W i m σ H →
   ((Itt K a).stop i H∧D.nx σ H)∨((Itt K a).go i H∧∃ N:St→Hp→Prop,(∀ σ' H',N σ' H'→∃ m',m'<m∧W (i+1) m' σ' H')∧∀ x H',(Itt K a).yld i H x H'→g x σ H' fun σ2 H2=>tb { D with nx:=N,ct:=N,bk:=D.nx } σ2 H2):=by
 refine ⟨fun i m σ H=>m=xs.length - i∧i≤xs.length∧Pv i σ H,⟨xs.length,by simp,Nat.zero_le _,h0⟩,?_⟩
 rintro i m σ H ⟨rfl,hi,p⟩
 have q:=hl i σ H hi p
 by_cases hlt:i<xs.length
 ·refine .inr ⟨⟨xs,xs[i],q,by simp [hlt]⟩,Pv (i+1),fun σ' H' p'=>⟨xs.length - (i+1),by omega,rfl,hlt,p'⟩,fun x H' y=>?_⟩
  obtain ⟨e,y⟩:=y
  subst e
  exact hs i x σ _ (y xs q) p
 ·have e:i=xs.length:=by omega
  subst e
  exact .inl ⟨⟨xs,q,Nat.le_refl _⟩,hd σ H p⟩
theorem cV {lo:Int} {n:Nat} {g:TG} {tb:TS} {D:mr} {σ:St} {H:Hp} (Pv:Nat→St→Hp→Prop) (h0:Pv 0 σ H)
  (hs:∀ i σ H,i<n→Pv i σ H→g (.int (lo+i)) σ H fun σ2 H2=>tb { D with nx:=Pv (i+1),ct:=Pv (i+1),bk:=D.nx } σ2 H2) (hd:∀ σ H,Pv n σ H→D.nx σ H) :
  ∃ W:Nat→Nat→St→Hp→Prop,(∃ m,W 0 m σ H)∧∀ i m σ H,W i m σ H →
   ((Itr lo n).stop i H∧D.nx σ H)∨((Itr lo n).go i H∧∃ N:St→Hp→Prop,(∀ σ' H',N σ' H'→∃ m',m'<m∧W (i+1) m' σ' H')∧∀ x H',(Itr lo n).yld i H x H'→g x σ H' fun σ2 H2=>tb { D with nx:=N,ct:=N,bk:=D.nx } σ2 H2):=by
 refine ⟨fun i m σ H=>m=n - i∧i≤n∧Pv i σ H,⟨n,by simp,Nat.zero_le _,h0⟩,?_⟩
 rintro i m σ H ⟨rfl,hi,p⟩
 by_cases hlt:i<n
 ·refine .inr ⟨hlt,Pv (i+1),fun σ' H' p'=>⟨n - (i+1),by omega,rfl,hlt,p'⟩,fun x H' y=>?_⟩
  obtain ⟨e,y⟩:=y
  subst e y
  exact hs i σ _ hlt p
 ·have e:i=n:=by omega
  subst e
  exact .inl ⟨Nat.le_refl _,hd σ H p⟩
open PySem PySem.Spec PyProof.Rows
abbrev R2:=V→V→Hp→VK→Prop
def OpR (X:Cx) (f:Value→Value→Sem Value) (r:R2):Prop :=
 ∀ (pins:List (Addr×Obj)) (s:Shared) (σ:St) (H:Hp) (x y:V) (v u:Value) (Q:VK),Inv X pins σ H s→br x v→br y u→r x y H Q →
  wpAny (model X.prog X.w) X.A (f v u) (EP X pins σ Q) X.xe s
def UnR (X:Cx) (f:Value→Sem Value) (r:V→Hp→VK→Prop):Prop :=
 ∀ (pins:List (Addr×Obj)) (s:Shared) (σ:St) (H:Hp) (x:V) (v:Value) (Q:VK),Inv X pins σ H s→br x v→r x H Q →
  wpAny (model X.prog X.w) X.A (f v) (EP X pins σ Q) X.xe s
def bJ (X:Cx) (f:Value) (r:List V→Hp→VK→Prop):Prop :=
 ∀ (pins:List (Addr×Obj)) (s:Shared) (σ:St) (H:Hp) (xs:List V) (us:List Value) (Q:VK),Inv X pins σ H s→aK xs us→r xs H Q →
  wpAny (model X.prog X.w) X.A (call f us) (EP X pins σ Q) X.xe s
def tOp (r:R2) (ta tb:TE):TE:=fun σ H Q=>ta σ H fun x H1=>tb σ H1 fun y H2=>r x y H2 Q
def tUn (r:V→Hp→VK→Prop) (ta:TE):TE:=fun σ H Q=>ta σ H fun x H1=>r x H1 Q
def rI (C:Int→Int→Prop) (g:Int→Int→V):R2:=fun x y H Q=>∃ i j,x=.int i∧y=.int j∧C i j∧Q (g i j) H
def rI0 (g:Int→Int→V):R2:=fun x y H Q=>∃ i j,x=.int i∧y=.int j∧Q (g i j) H
def rU (g:Int→V):V→Hp→VK→Prop:=fun x H Q=>∃ i,x=.int i∧Q (g i) H
section
variable {X:Cx} {a b c:Expr} {ta tb tc:TE} {pos:Pos}
theorem zj (ha:PE X a ta) (hb:PE X b tb) {pins:List (Addr×Obj)} {s:Shared} {σ:St} {H:Hp} {R:V→V→Hp→Prop} (I:Inv X pins σ H s)
  (h:ta σ H fun x H1=>tb σ H1 fun y H2=>R x y H2) {Q:Value→Shared→Prop} {f:Value→Value→Sem Value}
  (hf:∀ v u s2 x y H2,Inv X pins σ H2 s2→br x v→br y u→R x y H2→wpAny (model X.prog X.w) X.A (f v u) Q X.xe s2) :
  wpAny (model X.prog X.w) X.A (eval a X.env) (fun v s₁=>wpAny (model X.prog X.w) X.A (eval b X.env) (fun u s₂=>wpAny (model X.prog X.w) X.A (f v u) Q X.xe s₂) X.xe s₁) X.xe s:=by
 refine thn (ha pins s σ H _ I h) fun v s1 ⟨x,H1,I1,r1,q1⟩=>?_
 refine thn (hb pins s1 σ H1 _ I1 q1) fun u s2 ⟨y,H2,I2,r2,q2⟩=>?_
 exact hf v u s2 x y H2 I2 r1 r2 q2
theorem aG {op:Operator} {r:R2} (ho:OpR X (binaryOp op) r) (ha:PE X a ta) (hb:PE X b tb):PE X (.BinOp a op b pos) (tOp r ta tb):=by
 intro pins s σ H Q I h
 exact wpAny_BinOp (zj ha hb I h fun v u s2 x y H2 I2 rx ry q=>ho pins s2 σ H2 x y v u Q I2 rx ry q)
theorem sQ {op:UnaryOp} {r:V→Hp→VK→Prop} (ho:UnR X (unaryOp op) r) (ha:PE X a ta):PE X (.UnaryOp op a pos) (tUn r ta):=by
 intro pins s σ H Q I h
 exact UnaryOp_ (thn (ha pins s σ H _ I h) fun v s1 ⟨x,H1,I1,r1,q1⟩=>ho pins s1 σ H1 x v Q I1 r1 q1)
theorem opI {f:Value→Value→Sem Value} {C:Int→Int→Prop} {g:Int→Int→Int}
  (rule:∀ (i j:Int) (t u:Tok) (s:Shared) (Q:Value→Shared→Prop) (E:Value→Shared→Prop),C i j→Q (.int (g i j) s.toks) { s with toks:=s.toks+1 }→wpAny (model X.prog X.w) X.A (f (.int i t) (.int j u)) Q E s) :
  OpR X f (rI C fun i j=>.int (g i j)):=by
 intro pins s σ H x y v u Q I rx ry h
 obtain ⟨i,j,rfl,rfl,hc,q⟩:=h
 obtain ⟨t,rfl⟩:=rx
 obtain ⟨t',rfl⟩:=ry
 exact rule i j t t' s _ _ hc ⟨.int (g i j),H,I.tok _,⟨_,rfl⟩,q⟩
theorem Bn {f:Value→Value→Sem Value} {g:Int→Int→Int}
  (rule:∀ (i j:Int) (t u:Tok) (s:Shared) (Q:Value→Shared→Prop) (E:Value→Shared→Prop),Q (.int (g i j) s.toks) { s with toks:=s.toks+1 }→wpAny (model X.prog X.w) X.A (f (.int i t) (.int j u)) Q E s) :
  OpR X f (rI0 fun i j=>.int (g i j)):=by
 intro pins s σ H x y v u Q I rx ry h
 obtain ⟨i,j,rfl,rfl,q⟩:=h
 obtain ⟨t,rfl⟩:=rx
 obtain ⟨t',rfl⟩:=ry
 exact rule i j t t' s _ _ ⟨.int (g i j),H,I.tok _,⟨_,rfl⟩,q⟩
theorem yc {f:Value→Value→Sem Value} {g:Int→Int→Bool}
  (rule:∀ (i j:Int) (t u:Tok) (s:Shared) (Q:Value→Shared→Prop) (E:Value→Shared→Prop),Q (.bool (g i j)) s→wpAny (model X.prog X.w) X.A (f (.int i t) (.int j u)) Q E s) :
  OpR X f (rI0 fun i j=>.bl (g i j)):=by
 intro pins s σ H x y v u Q I rx ry h
 obtain ⟨i,j,rfl,rfl,q⟩:=h
 obtain ⟨t,rfl⟩:=rx
 obtain ⟨t',rfl⟩:=ry
 exact rule i j t t' s _ _ ⟨.bl (g i j),H,I,rfl,q⟩
def Cb (i j:Int):Prop:=0<j∧j<1073741824
def BH (i j:Int):Prop:=0≤j∧j≤1000000∧i.natAbs<2 ^ 64
def vB (i j:Int):Prop:=(-(2 ^ 64)<i∧i<2 ^ 64)∨(-(2 ^ 64)<j∧j<2 ^ 64)
theorem vB.ok {i j:Int} (h:vB i j):IntMulOk i j:=by
 rcases h with ⟨h1,h2⟩ | ⟨h1,h2⟩
 ·exact .of_left (intBits_le_64 h1 h2)
 ·exact .of_right (intBits_le_64 h1 h2)
theorem bB:OpR X (binaryOp .Add) (rI0 fun i j=>.int (i+j)):=Bn fun _ _ _ _ _ _ _ q=>add_int q
theorem gC:OpR X (binaryOp .Sub) (rI0 fun i j=>.int (i - j)):=Bn fun _ _ _ _ _ _ _ q=>sub_int q
theorem fN:OpR X (binaryOp .Mult) (rI vB fun i j=>.int (i*j)):=opI fun _ _ _ _ _ _ _ hc q=>mul_int q hc.ok
theorem ow:OpR X (binaryOp .FloorDiv) (rI Cb fun i j=>.int (i / j)):=opI fun i j _ _ _ _ _ hc q=>by
 have h1:(0:Int)<j:=hc.1
 have h2:j<1073741824:=hc.2
 exact floordiv_int (by omega) (by rw [Int.fdiv_eq_ediv_of_nonneg i (by omega)]; exact q) (.inl (PyProof.noPylong_small (by omega)))
theorem dW:OpR X (binaryOp .Mod) (rI (fun _ j=>0<j) fun i j=>.int (i % j)):=opI fun i j _ _ _ _ _ hc q=>by
 have h1:(0:Int)<j:=hc
 exact mod_int' (by omega) (by rw [Int.fmod_eq_emod_of_nonneg i (by omega)]; exact q)
theorem zZ:OpR X (binaryOp .Pow) (rI BH fun i j=>.int (i ^ j.toNat)):=opI fun _ _ _ _ _ _ _ hc q=>pow_int_small hc.1 hc.2.1 hc.2.2 q
theorem unI {f:Value→Sem Value} {g:Int→Int}
  (rule:∀ (i:Int) (t:Tok) (s:Shared) (Q:Value→Shared→Prop) (E:Value→Shared→Prop),Q (.int (g i) s.toks) { s with toks:=s.toks+1 }→wpAny (model X.prog X.w) X.A (f (.int i t)) Q E s) :
  UnR X f (rU fun i=>.int (g i)):=by
 intro pins s σ H x v Q I rx h
 obtain ⟨i,rfl,q⟩:=h
 obtain ⟨t,rfl⟩:=rx
 exact rule i t s _ _ ⟨.int (g i),H,I.tok _,⟨_,rfl⟩,q⟩
theorem oo:UnR X (unaryOp .USub) (rU fun i=>.int (-i)):=unI fun _ _ _ _ _ q=>neg_int q
end
def AM:V→V→Bool
 | .non,.non=>true | .non,.int _=>true | .int _,.non=>true | .non,.bl _=>true | .bl _,.non=>true | .non,.str _=>true | .str _,.non=>true
 | .int _,.int _=>true | .bl _,.bl _=>true | .str _,.str _=>true | .byt _,.byt _=>true
 | .int _,.str _=>true | .str _,.int _=>true | .bl _,.str _=>true | .str _,.bl _=>true
 | _,_=>false
def rEq:R2:=fun x y H Q=>AM x y=true∧Q (.bl (decide (x=y))) H
def rNe:R2:=fun x y H Q=>AM x y=true∧Q (.bl (!decide (x=y))) H
theorem tF {i j:Int}:decide (V.int i=V.int j)=(i==j):=by
 rw [Bool.eq_iff_iff]
 simp
theorem wS {i j:Bool}:decide (V.bl i=V.bl j)=(i==j):=by
 rw [Bool.eq_iff_iff]
 simp
theorem sF {i j:Str}:decide (V.str i=V.str j)=(i==j):=by
 rw [Bool.eq_iff_iff]
 simp
theorem sI {i j:Array UInt8}:decide (V.byt i=V.byt j)=(i.toList==j.toList):=by
 rw [Bool.eq_iff_iff]
 cases i
 cases j
 simp
section
variable {X:Cx} {a b c:Expr} {ta tb tc:TE} {pos:Pos}
theorem bj {pins:List (Addr×Obj)} {σ:St} {H:Hp} {s:Shared} {Q:VK} {k k':Bool} (I:Inv X pins σ H s) (q:Q (.bl k) H) (e:k=k'):EP X pins σ Q (.bool k') s:=by
 subst e
 exact ⟨.bl k,H,I,rfl,q⟩
theorem dC:OpR X (compareOp .Eq) rEq:=by
 intro pins s σ H x y v u Q I rx ry h
 obtain ⟨hs,q⟩:=h
 cases x with
 | non =>
  cases rx
  cases y with
  | non=>cases ry; exact PySem.EqNone.eq_none_none (bj I q (by simp))
  | bl j=>cases ry; exact PySem.EqNone.eq_none_bool (bj I q (by simp))
  | int j=>obtain ⟨t',rfl⟩:=ry; exact PySem.EqNone.eq_none_int (bj I q (by simp))
  | str j=>obtain ⟨t',rfl⟩:=ry; exact PySem.EqNone.eq_none_str (bj I q (by simp))
  | _=>exact absurd (show false=true from hs) Bool.false_ne_true
 | bl i =>
  cases rx
  cases y with
  | non=>cases ry; exact PySem.EqNone.eq_bool_none (bj I q (by simp))
  | bl j=>cases ry; exact eq_bool (bj I q wS)
  | str j=>obtain ⟨t',rfl⟩:=ry; exact PySem.EqMixed.eq_bool_str (bj I q (by simp))
  | _=>exact absurd (show false=true from hs) Bool.false_ne_true
 | int i =>
  obtain ⟨t,rfl⟩:=rx
  cases y with
  | non=>cases ry; exact PySem.EqNone.eq_int_none (bj I q (by simp))
  | int j=>obtain ⟨t',rfl⟩:=ry; exact eq_int (bj I q tF)
  | str j=>obtain ⟨t',rfl⟩:=ry; exact PySem.EqMixed.eq_int_str (bj I q (by simp))
  | _=>exact absurd (show false=true from hs) Bool.false_ne_true
 | str i =>
  obtain ⟨t,rfl⟩:=rx
  cases y with
  | non=>cases ry; exact PySem.EqNone.eq_str_none (bj I q (by simp))
  | bl j=>cases ry; exact PySem.EqMixed.eq_str_bool (bj I q (by simp))
  | int j=>obtain ⟨t',rfl⟩:=ry; exact PySem.EqMixed.eq_str_int (bj I q (by simp))
  | str j=>obtain ⟨t',rfl⟩:=ry; exact eq_str (bj I q sF)
  | _=>exact absurd (show false=true from hs) Bool.false_ne_true
 | byt i =>
  obtain ⟨t,rfl⟩:=rx
  cases y with
  | byt j=>obtain ⟨t',rfl⟩:=ry; exact PySem.W.eq_bytes (bj I q sI)
  | _=>exact absurd (show false=true from hs) Bool.false_ne_true
 | _=>cases y<;>exact absurd (show false=true from hs) Bool.false_ne_true
theorem oS:OpR X (compareOp .NotEq) rNe:=by
 intro pins s σ H x y v u Q I rx ry h
 obtain ⟨hs,q⟩:=h
 cases x with
 | non =>
  cases rx
  cases y with
  | non=>cases ry; exact PySem.EqNone.ne_none_none (bj I q (by simp))
  | bl j=>cases ry; exact PySem.EqNone.ne_none_bool (bj I q (by simp))
  | int j=>obtain ⟨t',rfl⟩:=ry; exact PySem.EqNone.ne_none_int (bj I q (by simp))
  | str j=>obtain ⟨t',rfl⟩:=ry; exact PySem.EqNone.ne_none_str (bj I q (by simp))
  | _=>exact absurd (show false=true from hs) Bool.false_ne_true
 | bl i =>
  cases rx
  cases y with
  | non=>cases ry; exact PySem.EqNone.ne_bool_none (bj I q (by simp))
  | bl j=>cases ry; exact ne_bool (bj I q (congrArg not wS))
  | str j=>obtain ⟨t',rfl⟩:=ry; exact PySem.EqMixed.ne_bool_str (bj I q (by simp))
  | _=>exact absurd (show false=true from hs) Bool.false_ne_true
 | int i =>
  obtain ⟨t,rfl⟩:=rx
  cases y with
  | non=>cases ry; exact PySem.EqNone.ne_int_none (bj I q (by simp))
  | int j=>obtain ⟨t',rfl⟩:=ry; exact ne_int (bj I q (congrArg not tF))
  | str j=>obtain ⟨t',rfl⟩:=ry; exact PySem.EqMixed.ne_int_str (bj I q (by simp))
  | _=>exact absurd (show false=true from hs) Bool.false_ne_true
 | str i =>
  obtain ⟨t,rfl⟩:=rx
  cases y with
  | non=>cases ry; exact PySem.EqNone.ne_str_none (bj I q (by simp))
  | bl j=>cases ry; exact PySem.EqMixed.ne_str_bool (bj I q (by simp))
  | int j=>obtain ⟨t',rfl⟩:=ry; exact PySem.EqMixed.ne_str_int (bj I q (by simp))
  | str j=>obtain ⟨t',rfl⟩:=ry; exact ne_str (bj I q (congrArg not sF))
  | _=>exact absurd (show false=true from hs) Bool.false_ne_true
 | byt i =>
  obtain ⟨t,rfl⟩:=rx
  cases y with
  | byt j=>obtain ⟨t',rfl⟩:=ry; exact PySem.W.ne_bytes (bj I q (congrArg not sI))
  | _=>exact absurd (show false=true from hs) Bool.false_ne_true
 | _=>cases y<;>exact absurd (show false=true from hs) Bool.false_ne_true
theorem BF:OpR X (compareOp .Lt) (rI0 fun i j=>.bl (decide (i<j))):=yc fun _ _ _ _ _ _ _ q=>lt_int q
theorem sf:OpR X (compareOp .LtE) (rI0 fun i j=>.bl (decide (i≤j))):=yc fun _ _ _ _ _ _ _ q=>le_int q
theorem pG:OpR X (compareOp .Gt) (rI0 fun i j=>.bl (decide (j<i))):=yc fun _ _ _ _ _ _ _ q=>gt_int q
theorem Bg:OpR X (compareOp .GtE) (rI0 fun i j=>.bl (decide (j≤i))):=yc fun _ _ _ _ _ _ _ q=>ge_int q
theorem OpR.or {f:Value→Value→Sem Value} {r r':R2} (h:OpR X f r) (h':OpR X f r'):OpR X f (fun x y H Q=>r x y H Q∨r' x y H Q):=by
 intro pins s σ H x y v u Q I rx ry q
 rcases q with q | q
 ·exact h pins s σ H x y v u Q I rx ry q
 ·exact h' pins s σ H x y v u Q I rx ry q
theorem bo (b:Expr) {op:CmpOp} (h:op≠.In:=by decide) (h2:op≠.NotIn:=by decide):behindInMarks op b=false:=by
 have e1:(op==CmpOp.In)=false:=by cases op<;>first | rfl | exact absurd rfl h
 have e2:(op==CmpOp.NotIn)=false:=by cases op<;>first | rfl | exact absurd rfl h2
 cases b<;>simp [behindInMarks,e1,e2]
theorem kz {op:CmpOp} {r:R2} (ho:OpR X (compareOp op) r) (ha:PE X a ta) (hb:PE X b tb) (hm:behindInMarks op b=false):PE X (.Compare a [op] [b] pos) (tOp r ta tb):=by
 intro pins s σ H Q I h
 exact wpAny_Compare1 (zj ha hb I h fun v u s2 x y H2 I2 rx ry q=>ho pins s2 σ H2 x y v u Q I2 rx ry q) hm
def yI (t:TE):TT:=fun σ H Q=>t σ H fun x H'=>∃ k,x=.bl k∧Q k H'
theorem aQ {op:CmpOp} {r:R2} (ho:OpR X (compareOp op) r) (ha:PE X a ta) (hb:PE X b tb) (hm:behindInMarks op b=false):PT X (.Compare a [op] [b] pos) (yI (tOp r ta tb)):=by
 intro pins s σ H Q I h
 refine wpAny_isTrue_Compare1 (thn (ha pins s σ H _ I h) fun v s1 ⟨x,H1,I1,r1,q1⟩=>thn (hb pins s1 σ H1 _ I1 q1) fun u s2 ⟨y,H2,I2,r2,q2⟩ =>
  thn (ho pins s2 σ H2 x y v u _ I2 r1 r2 q2) fun c s3 ⟨z,H3,I3,r3,k,e,q3⟩=>?_) hm
 subst e
 cases r3
 exact wpAny_truthy_bool ⟨H3,I3,q3⟩
def uN (r r':R2) (ta tb tc:TE):TE:=fun σ H Q=>ta σ H fun x H1=>tb σ H1 fun y H2=>r x y H2 fun z H3=>∃ k,z=.bl k ∧
 (if k=true then tc σ H3 fun w' H4=>r' y w' H4 Q else Q (.bl false) H3)
theorem uX {op op':CmpOp} {r r':R2} (ho:OpR X (compareOp op) r) (ho':OpR X (compareOp op') r') (ha:PE X a ta) (hb:PE X b tb) (hc:PE X c tc)
  (hm:lastMarks [op,op'] [b,c]=false:=by with_unfolding_all rfl):PE X (.Compare a [op,op'] [b,c] pos) (uN r r' ta tb tc):=by
 intro pins s σ H Q I h
 refine Compare_chain (thn (ha pins s σ H _ I h) fun v s1 ⟨x,H1,I1,r1,q1⟩=>chain_link (thn (hb pins s1 σ H1 _ I1 q1) fun u s2 ⟨y,H2,I2,r2,q2⟩ =>
  thn (ho pins s2 σ H2 x y v u _ I2 r1 r2 q2) fun d s3 ⟨z,H3,I3,r3,k,e,q3⟩=>?_)) hm
 subst e
 cases r3
 refine wpAny_truthy_bool ?_
 cases k with
 | false=>exact ite_ff ⟨.bl false,H3,I3,rfl,q3⟩
 | true=>exact ite_tt (chain_last (thn (hc pins s3 σ H3 _ I3 q3) fun w' s4 ⟨z',H4,I4,r4,q4⟩=>ho' pins s4 σ H4 y z' u w' Q I4 r2 r4 q4))
theorem wg {op op':CmpOp} {r r':R2} (ho:OpR X (compareOp op) r) (ho':OpR X (compareOp op') r') (ha:PE X a ta) (hb:PE X b tb) (hc:PE X c tc)
  (hm:lastMarks [op,op'] [b,c]=false:=by with_unfolding_all rfl):PT X (.Compare a [op,op'] [b,c] pos) (yI (uN r r' ta tb tc)):=by
 intro pins s σ H Q I h
 refine isTrue_chain (thn (ha pins s σ H _ I h) fun v s1 ⟨x,H1,I1,r1,q1⟩=>test_link (thn (hb pins s1 σ H1 _ I1 q1) fun u s2 ⟨y,H2,I2,r2,q2⟩ =>
  thn (ho pins s2 σ H2 x y v u _ I2 r1 r2 q2) fun d s3 ⟨z,H3,I3,r3,k,e,q3⟩=>?_)) hm
 subst e
 cases r3
 refine wpAny_truthy_bool ?_
 cases k with
 | false =>
  obtain ⟨k',e',q'⟩:=q3
  cases e'
  exact ite_ff ⟨H3,I3,q'⟩
 | true =>
  refine ite_tt (test_last (thn (hc pins s3 σ H3 _ I3 q3) fun w' s4 ⟨z',H4,I4,r4,q4⟩=>thn (ho' pins s4 σ H4 y z' u w' _ I4 r2 r4 q4) fun d' s5 ⟨z2,H5,I5,r5,k2,e2,q5⟩=>?_))
  subst e2
  cases r5
  exact wpAny_truthy_bool ⟨H5,I5,q5⟩
theorem jD:(sizeLine:Nat)<2 ^ 63:=by rw [sizeLine_eq]; decide
theorem qJ:OpR X (binaryOp .Add) (fun x y H Q=>∃ i j,x=.str i∧y=.str j∧i.length+j.length≤sizeLine∧Q (.str (i++j)) H):=by
 intro pins s σ H x y v u Q I rx ry h
 obtain ⟨i,j,rfl,rfl,hz,q⟩:=h
 obtain ⟨t,rfl⟩:=rx
 obtain ⟨t',rfl⟩:=ry
 exact add_str (fun t' tk=>⟨.str (i++j),H,I.tok _,⟨_,rfl⟩,q⟩) hz
theorem cU {x:V} {us:List Value} (r:aK [x] us):∃ u,us=[u]∧br x u:=by
 cases r with
 | cons r1 r2=>cases r2; exact ⟨_,rfl,r1⟩
theorem ss {x y:V} {us:List Value} (r:aK [x,y] us):∃ u w',us=[u,w']∧br x u∧br y w':=by
 cases r with
 | cons r1 r2 =>
  cases r2 with
  | cons r3 r4=>cases r4; exact ⟨_,_,rfl,r1,r3⟩
theorem eZ:bJ X (.builtin "abs") (fun xs H Q=>∃ i,xs=[.int i]∧Q (.int (if i<0 then -i else i)) H):=by
 intro pins s σ H xs us Q I r h
 obtain ⟨i,rfl,q⟩:=h
 obtain ⟨u,rfl,t,rfl⟩:=cU r
 exact call_abs_int fun u tk=>⟨.int (if i<0 then -i else i),H,I.tok _,⟨_,rfl⟩,q⟩
theorem tX (hc:X.calm=true):bJ X (.builtin "min") (fun xs H Q=>∃ i j,xs=[.int i,.int j]∧Q (.int (if j<i then j else i)) H):=by
 intro pins s σ H xs us Q I r h
 obtain ⟨i,j,rfl,q⟩:=h
 obtain ⟨u,w',rfl,⟨t,rfl⟩,⟨t',rfl⟩⟩:=ss r
 refine min_two_ints (I.ok.hd hc) fun h' tk k=>⟨_,H,I.kept k,?_,q⟩
 by_cases hj:j<i
 ·rw [if_pos hj,if_pos hj]; exact ⟨_,rfl⟩
 ·rw [if_neg hj,if_neg hj]; exact ⟨_,rfl⟩
theorem mO:bJ X (.type "int") (fun xs H Q=>(∃ i,xs=[.int i]∧Q (.int i) H)∨∃ k,xs=[.bl k]∧Q (.int (if k then 1 else 0)) H):=by
 intro pins s σ H xs us Q I r h
 rcases h with ⟨i,rfl,q⟩ | ⟨k,rfl,q⟩
 ·obtain ⟨u,rfl,t,rfl⟩:=cU r
  exact call_int_int ⟨.int i,H,I,⟨_,rfl⟩,q⟩
 ·obtain ⟨u,rfl,r1⟩:=cU r
  cases r1
  exact call_int_bool ⟨.int (if k then 1 else 0),H,I.tok _,⟨_,rfl⟩,q⟩
theorem uK:bJ X (.builtin "ord") (fun xs H Q=>∃ x,xs=[.str x]∧x.length=1∧Q (.int (x.cps.getD 0 0:Nat)) H):=by
 intro pins s σ H xs us Q I r h
 obtain ⟨x,rfl,hz,q⟩:=h
 obtain ⟨u,rfl,t,rfl⟩:=cU r
 exact ord_of_one hz ⟨.int _,H,I.tok _,⟨_,rfl⟩,q⟩
end
open PySem PySem.Spec PyProof.Rows
structure Ah (h:Heap) (x dx C:Addr) (mA:Str→Option Value):Prop where
 obj:h.get? x=some (PySem.W.instObj C dx)
 ns:h.Ns1 dx mA
 ne:dx≠x
theorem tK {h:Heap} {dx:Addr} {mA:Str→Option Value} (n:h.Ns1 dx mA):∃ od,h.get? dx=some od∧∀ name,PySem.W.lookIn name od=some (mA name):=by
 obtain ⟨o,es,ep,ho,hd,hk,_,hm⟩:=n
 refine ⟨o,ho,fun name=>?_⟩
 have e:=hm name
 unfold nsFind findBy at e
 rw [← Array.find?_toList] at e
 unfold PySem.W.lookIn
 rw [hd]
 dsimp only
 split
 ·rename_i y q
  rw [q] at e
  exact congrArg some e
 ·rename_i q
  rw [q] at e
  have a:es.toList.any (·.refKey)=false:=by
   rw [List.any_eq_false]
   intro y hy
   obtain ⟨z,t,hkey⟩:=hk y (Array.mem_toList_iff.mp hy)
   simp [DictEntry.refKey,hkey]
  have a':¬ es.toList.any (·.refKey)=true:=by rw [a]; exact Bool.false_ne_true
  rw [if_neg a']
  exact congrArg some e
theorem Ah.look {h:Heap} {x dx C:Addr} {mA:Str→Option Value} (I:Ah h x dx C mA):∃ od,PySem.W.InstAt h x (PySem.W.instObj C dx) C (some od)∧∀ name,PySem.W.lookIn name od=some (mA name) :=
 let ⟨od,ho,hl⟩:=tK I.ns
 ⟨od,⟨I.obj,rfl,rfl,ho⟩,hl⟩
section
variable {prog:Program} {w:World} {A:Around} {E:Value→Shared→Prop} {s:Shared} {K:Frag} {x dx C f:Addr} {mA:Str→Option Value} {name:Str} {v:Value}
end
section
variable {P:Program} {w:World} {H H':Hp} {h h':Heap} {a C dx:Addr} {fs fs':List (Str×V)}
theorem xQ (hok:HOk P w H h) (e:H a=some (.ins C dx fs)):∃ mA,Ah h a dx C mA∧(∀ f,zy (fs.lookup f) (mA f))∧PySem.Within mA (fs.map (·.1))∧fs.length≤1000∧H dx=some (.own a):=by
 obtain ⟨d,z,ne,ob,mA,n,r,q⟩:=(show bR P w H h a (.ins C dx fs) from hok a _ e)
 exact ⟨mA,⟨ob,n,ne⟩,r,q,z,d⟩
end
structure Cls (K:Frag) (C:Addr):Prop where
 pg:PySem.W.plainGet K C Str.empty=true
 hd:PySem.W.hasDictIn K C=true
 po:PySem.W.plainOver K C=true
 sa:PySem.W.findIn K (.ref C) "__setattr__"=some (some (.builtin "object.__setattr__"))
theorem Cls.get {K:Frag} {C:Addr} (c:Cls K C) (f:Str):PySem.W.plainGet K C f=true:=c.pg
section
variable {X:Cx} {pins:List (Addr×Obj)} {σ:St} {H:Hp} {s:Shared} {a C dx:Addr} {fs:List (Str×V)} {f:Str} {v:V} {A:Around} {E:Value→Shared→Prop}
end
section
variable {X:Cx} {o e value:Expr} {f:Str} {pos pos' tpos:Pos} {ta tv:TE}
end
section
variable {X:Cx} {pins:List (Addr×Obj)} {σ:St} {H:Hp} {s:Shared} {A:Around} {E:Value→Shared→Prop} {Q:Value→Shared→Prop} {c:Value} {b:Bool}
inductive jt (K:Frag) (H:Hp):V→Value→Prop where
 | non:jt K H .non (.type "NoneType")
 | bl (x:Bool):jt K H (.bl x) (.type "bool")
 | int (i:Int):jt K H (.int i) (.type "int")
 | str (x:Str):jt K H (.str x) (.type "str")
 | flt (x:UInt64):jt K H (.flt x) (.type "float")
 | lst {a:Addr} {xs:List V} (e:H a=some (.lst xs)):jt K H (.ref a) (.type "list")
 | frz {a:Addr} {o:Obj} {xs:List V} (e:H a=some (.frz o (.lst xs))):jt K H (.ref a) (.type "list")
 | tup {a:Addr} {xs:List V} (e:H a=some (.tup xs)):jt K H (.ref a) (.type "tuple")
 | dK {a:Addr} {kvs:List (Key×V)} (e:H a=some (.dK kvs)):jt K H (.ref a) (.type "dict")
 | dT {a:Addr} {kvs:List (PyData×V)} (e:H a=some (.dT kvs)):jt K H (.ref a) (.type "dict")
 | ins {a C dx:Addr} {fs:List (Str×V)} (e:H a=some (.ins C dx fs)) (cl:Cls K C) (ha:PySem.W.findIn K (.ref C) "__class__"=some (some (.builtin "object.__class__")))
   (hn:PySem.W.specialIn K (.builtin "object.__class__") "__get__"=some (some (.builtin "getset_descriptor.__get__"))) (htk:PySem.W.takesIn K (.builtin "object.__class__")=some true)
   (hm:PySem.W.mroIn K C (.type "object")=some true):jt K H (.ref a) (.ref C)
theorem uh {x:V} {u t:Value} (I:Inv X pins σ H s) (rx:br x u) (ty:jt X.K H x t) (e:PySem.W.kitOne X.K t c=some b) (h:∀ tk,Q (.bool b) { s with toks:=tk }) :
  wpAny (model X.prog X.w) A (call (.builtin "isinstance") [u,c]) Q E s:=by
 cases ty with
 | non=>cases (show u=Value.none from rx); exact PySem.W.kia_one PySem.W.kitx_none I.kIn True.intro e (fun z=>nomatch z) h
 | bl y=>cases (show u=Value.bool y from rx); exact PySem.W.kia_one PySem.W.kitx_bool I.kIn True.intro e (fun z=>nomatch z) h
 | int i=>obtain ⟨t,q⟩:=(show ∃ t,u=Value.int i t from rx); cases q; exact PySem.W.kia_one PySem.W.kitx_int I.kIn True.intro e (fun z=>nomatch z) h
 | str y=>obtain ⟨t,q⟩:=(show ∃ t,u=Value.str y t from rx); cases q; exact PySem.W.kia_one PySem.W.kitx_str I.kIn True.intro e (fun z=>nomatch z) h
 | flt y=>obtain ⟨t,q⟩:=(show ∃ t,u=Value.float y t from rx); cases q; exact PySem.W.kia_one PySem.W.kitx_float I.kIn True.intro e (fun z=>nomatch z) h
 | @lst a xs ea =>
  cases (show u=Value.ref a from rx)
  obtain ⟨_,_,n,_,h1⟩:=(show bR X.prog X.w H s.heap a (.lst xs) from I.hok a _ ea)
  exact PySem.W.kia_one PySem.W.kitx_list I.kIn ⟨_,h1,rfl⟩ e (fun z=>nomatch z) h
 | @frz a ob xs ea =>
  cases (show u=Value.ref a from rx)
  obtain ⟨_,_,_,n,_,h1⟩:=(show bR X.prog X.w H s.heap a (.frz ob (.lst xs)) from I.hok a _ ea)
  exact PySem.W.kia_one PySem.W.kitx_list I.kIn ⟨_,h1,rfl⟩ e (fun z=>nomatch z) h
 | @tup a xs ea =>
  cases (show u=Value.ref a from rx)
  obtain ⟨_,_,_,p,_⟩:=(show bR X.prog X.w H s.heap a (.tup xs) from I.hok a _ ea)
  obtain ⟨o,h1,h2,_⟩:=p
  exact PySem.W.kia_one PySem.W.kitx_tuple I.kIn ⟨o,h1,h2⟩ e (fun z=>nomatch z) h
 | @dK a kvs ea =>
  cases (show u=Value.ref a from rx)
  obtain ⟨_,_,vs,_,p⟩:=(show bR X.prog X.w H s.heap a (.dK kvs) from I.hok a _ ea)
  obtain ⟨o,es,ep,h1,h2,_⟩:=p
  exact PySem.W.kia_one PySem.W.kitx_dict I.kIn ⟨o,h1,h2.1⟩ e (fun z=>nomatch z) h
 | @dT a kvs ea =>
  cases (show u=Value.ref a from rx)
  obtain ⟨_,_,xs,_,o,es,ep,h1,h2,_⟩:=(show bR X.prog X.w H s.heap a (.dT kvs) from I.hok a _ ea)
  exact PySem.W.kia_one PySem.W.kitx_dict I.kIn ⟨o,h1,h2.1⟩ e (fun z=>nomatch z) h
 | @ins a C dx fs ea cl ha hn htk hm =>
  cases (show u=Value.ref a from rx)
  obtain ⟨mA,O,_⟩:=xQ I.hok ea
  obtain ⟨od,J,_⟩:=O.look
  exact PySem.W.kia_one (PySem.W.kitx_own (cl.get _) cl.hd ha hn htk hm) I.kIn J e (fun z=>nomatch z) h
end
open PySem PySem.Spec PyProof.Rows
structure cS (k:Nat) (A:Around):Prop where
 hd:A.handled=none
 dp:A.depth+3*k+5<recursionLimit
 un:A.units+16*k+200<cLine
 gd:A.guards=some []
theorem cS.mono {j k:Nat} {A:Around} (r:cS k A) (h:j≤k):cS j A:=⟨r.hd,by have:=r.dp; omega,by have:=r.un; omega,r.gd⟩
theorem cS.deeper {k:Nat} {A:Around} (r:cS (k+1) A) (env:Env):cS k (A.deeper env) :=
 ⟨r.hd,by have:=r.dp; show A.depth+1+3*k+5<_; omega,by have:=r.un; show A.units+3+16*k+200<_; omega,r.gd⟩
theorem cS.in1 {k:Nat} {A:Around} (r:cS (k+1) A):cS k A.in1 :=
 ⟨r.hd,by have:=r.dp; show A.depth+3*k+5<_; omega,by have:=r.un; show A.units+1+16*k+200<_; omega,r.gd⟩
theorem cS.depth {k:Nat} {A:Around} (r:cS k A):A.depth<recursionLimit:=by have:=r.dp; omega
theorem cS.units {k:Nat} {A:Around} (r:cS k A):A.units+64<cLine:=by have:=r.un; omega
def Bu:TA:=fun _ H Q=>Q [] H
def yT (ta:TE) (tr:TA):TA:=fun σ H Q=>ta σ H fun x H1=>tr σ H1 fun xs H2=>Q (x::xs) H2
section
variable {X:Cx} {e:Expr} {es:List Expr} {te:TE} {t:TA} {pos:Pos}
theorem ag:PA X [] Bu:=fun _ _ _ _ H Q I h=>Calls.spliced_nil ⟨[],H,I,.nil,h⟩
theorem ad (ha:PE X e te) (hr:PA X es t) (hs:starEach (e::es) X.env=(false,eval e X.env)::starEach es X.env:=by exact ac rfl):PA X (e::es) (yT te t):=by
 intro pos pins s σ H Q I h
 rw [hs]
 show wpAny _ _ (spliced ((false,eval e X.env)::backTo pos (starEach es X.env))) _ _ s
 refine Calls.spliced_cons (thn (ha pins s σ H _ I h) fun u s1 ⟨x,H1,I1,r1,q1⟩=>?_)
 exact thn (hr pos pins s1 σ H1 _ I1 q1) fun us s2 ⟨xs,H2,I2,r2,q2⟩=>⟨x::xs,H2,I2,.cons r1 r2,q2⟩
def Cr (t:TA):TE:=fun σ H Q=>t σ H fun xs H1=>xs.length≤sizeLine∧∀ p,H1 p=none→Q (.ref p) (upd H1 p (.tup xs))
def Co (t:TA):TE:=fun σ H Q=>t σ H fun xs H1=>xs.length≤sizeLine∧∀ p,H1 p=none→Q (.ref p) (upd H1 p (.lst xs))
theorem aW {x1} (h:PA X es t):PE X (.Tuple es x1 pos) (Cr t):=by
 intro pins s σ H Q I hq
 refine wpAny_Tuple_spliced (thn (h pos pins s σ H _ I hq) fun us s1 ⟨xs,H1,I1,r,z,q⟩=>⟨by rw [← r.length]; exact z,?_⟩)
 have hf:H1 s1.heap.objs.size=none:=I1.hok.fresh (Nat.le_refl _)
 refine ⟨.ref s1.heap.objs.size,upd H1 s1.heap.objs.size (.tup xs),I1.laid (t':=s1.toks) (fun b u e=>Heap.get?_push_of_some _ e) (Nat.le_refl _) ?_,rfl,q _ hf⟩
 exact ⟨z,us,r,⟨_,Heap.get?_push_size _ rfl,rfl,_,rfl⟩,_,Heap.get?_push_size _ rfl,rfl⟩
theorem aR (h:PA X es t):PE X (.List es pos) (Co t):=by
 intro pins s σ H Q I hq
 refine wpAny_List_spliced (thn (h pos pins s σ H _ I hq) fun us s1 ⟨xs,H1,I1,r,z,q⟩=>⟨by rw [← r.length]; exact z,?_⟩)
 have hf:H1 s1.heap.objs.size=none:=I1.hok.fresh (Nat.le_refl _)
 refine ⟨.ref s1.heap.objs.size,upd H1 s1.heap.objs.size (.lst xs),I1.laid (t':=s1.toks) (fun b u e=>Heap.get?_push_of_some _ e) (Nat.le_refl _) ?_,rfl,q _ hf⟩
 exact ⟨z,us,0,r,Heap.get?_push_size _ rfl⟩
end
abbrev Sp:=List V→Hp→VK→XK→Prop
abbrev CXT:=List Env→Hp→Shared→XK→Value→Shared→Prop
structure pR (P:Program) (w:World) (K:Frag) (mg:Str→Option Value) (base:Heap) (A:Around) (outer:List Env) (s:Shared) (H:Hp):Prop where
 frames:A.frames=some outer
 mod:Mod K mg base
 bs:∀ b o,base.get? b=some o→s.heap.get? b=some o∧H b=none
 bsz:base.objs.size≤s.heap.objs.size
 funs:s.heap.FunFrames base outer
 frf:∀ b∈frs outer,H b=none
 hok:HOk P w H s.heap
 bare:AllBare s.gens
def CE (outer:List Env) (P:Program) (w:World) (H:Hp) (s:Shared) (Q:VK) (u:Value) (s':Shared):Prop :=
 ∃ v H',s'.os=s.os∧AllBare s'.gens∧Un (frs outer) [] H H' s.heap s'.heap∧HOk P w H' s'.heap∧br v u∧Q v H'
def CR (CX:CXT) (outer:List Env) (P:Program) (w:World) (H:Hp) (s:Shared) (Q:VK) (E:XK) (r:Result) (s':Shared):Prop :=
 match r with
 | .ok (.ret u)=>CE outer P w H s Q u s'
 | .ok _=>False
 | .error e=>CX outer H s E e s'
structure bg (P:Program) (w:World) (K:Frag) (mg:Str→Option Value) (base:Heap) (CX:CXT) (k:Nat) (f:Addr) (fd:FuncData) (ps:List Str) (sp:Sp):Prop where
 len:∀ vs H Q E,sp vs H Q E→vs.length=ps.length
 run:∀ (A:Around) (outer:List Env) (s:Shared) (H:Hp) (args:Args) (us:List Value) (vs:List V) (Q:VK) (E:XK),cS k A→pR P w K mg base A outer s H→BindsTo s fd args (ps.zip us)→aK vs us→sp vs H Q E →
  codeAny (model P w) A (.call (.ref f) args) (CR CX outer P w H s Q E) s
theorem bg.imp {P:Program} {w:World} {K:Frag} {mg:Str→Option Value} {base:Heap} {CX:CXT} {k:Nat} {f:Addr} {fd:FuncData} {ps:List Str} {sp sp':Sp} (F:bg P w K mg base CX k f fd ps sp)
  (h:∀ vs H Q E,sp' vs H Q E→sp vs H Q E):bg P w K mg base CX k f fd ps sp' :=
 ⟨fun vs H Q E q=>F.len vs H Q E (h _ _ _ _ q),fun A outer s H args us vs Q E hr he hb hv hs=>F.run A outer s H args us vs Q E hr he hb hv (h _ _ _ _ hs)⟩
theorem pR.in1 {P:Program} {w:World} {K:Frag} {mg:Str→Option Value} {base:Heap} {A:Around} {outer:List Env} {s:Shared} {H:Hp} (e:pR P w K mg base A outer s H) :
  pR P w K mg base A.in1 outer s H:=⟨e.frames,e.mod,e.bs,e.bsz,e.funs,e.frf,e.hok,e.bare⟩
section
variable {X:Cx} {pins:List (Addr×Obj)} {σ:St} {H:Hp} {s s':Shared}
theorem Inv.env0 (I:Inv X pins σ H s):pR X.prog X.w X.K X.mg X.base X.A X.stack s H :=
 ⟨I.ok.frames,I.ok.mod,I.bs,Nat.le_trans I.ok.bsz I.sz,I.stack,I.stkFree,I.hok,I.bare⟩
theorem Inv.after {Q:VK} {u:Value} (I:Inv X pins σ H s) (h:CE X.stack X.prog X.w H s Q u s'):EP X pins σ Q u s':=by
 obtain ⟨v,H',os,bare,un,hok,r,q⟩:=h
 obtain ⟨hh,g,d,t,os'⟩:=s'
 obtain rfl:os'=s.os:=os
 exact ⟨v,H',I.call (h':=hh) (g':=g) (d':=d) (t':=t) (ch:=[]) un hok bare (fun b z=>absurd z (by simp)),r,q⟩
end
def yV (sp:Sp) (dvs:List V) (E:XK) (t:TA):TE:=fun σ H Q=>t σ H fun vs H1=>sp (vs++dvs) H1 Q E
def dA (K:Frag) (fd:FuncData) (ps:List Str) (ds:List Value):Prop :=
 ∀ (s:Shared) (us:List Value),K.In s.heap→(us++ds).length=ps.length→BindsTo s fd ⟨us,[]⟩ (ps.zip (us++ds))
theorem dA.all {K:Frag} {fd:FuncData} {ps:List Str} (h:∀ us:List Value,us.length=ps.length→bindArgs fd ⟨us,[]⟩=pure (ps.zip us)):dA K fd ps []:=fun s us _ hl=>by
 rw [List.append_nil] at hl ⊢
 exact .of_eq (h us hl)
def qm (CX:CXT) (X:Cx) (E:XK):Prop:=∀ (pins:List (Addr×Obj)) (σ:St) (H:Hp) (s:Shared) (e:Value) (s':Shared),Inv X pins σ H s→CX X.stack H s E e s'→X.xe e s'
section
variable {X:Cx} {CX:CXT} {k:Nat} {f C:Addr} {fd:FuncData} {ps:List Str} {sp:Sp} {dvs:List V} {ds:List Value} {E:XK} {x m:Str} {p pos apos:Pos} {e o:Expr} {es:List Expr} {ta:TE} {t:TA}
theorem zq {pins:List (Addr×Obj)} {σ:St} {H:Hp} {s:Shared} {Q:VK} {us:List Value} {vs:List V} (F:bg X.prog X.w X.K X.mg X.base CX k f fd ps sp) (hr:cS k X.A) (hb:dA X.K fd ps ds) (hd:aK dvs ds) (hx:qm CX X E)
  (I:Inv X pins σ H s) (r:aK vs us) (h:sp (vs++dvs) H Q E):wpAny (model X.prog X.w) X.A (call (.ref f) us) (EP X pins σ Q) X.xe s:=by
 have r2:aK (vs++dvs) (us++ds):=r.append hd
 have hl:(us++ds).length=ps.length:=by rw [← r2.length]; exact F.len _ _ _ _ h
 refine wpAny_call (codeAny_mono (F.run X.A X.stack s H ⟨us,[]⟩ (us++ds) (vs++dvs) Q E hr I.env0 (hb s us I.kIn hl) r2 h) fun r s' hq=>?_)
 cases r with
 | error e=>exact hx pins σ H s e s' I hq
 | ok fl =>
  cases fl with
  | ret u=>exact I.after hq
  | next=>exact False.elim hq
  | brk=>exact False.elim hq
  | cont=>exact False.elim hq
theorem ar (F:bg X.prog X.w X.K X.mg X.base CX k f fd ps sp) (hr:cS k X.A) (hg:Gl X x) (hm:X.mg x=some (.ref f)) (hk:keepIn X.K (.ref f)=true) (hb:dA X.K fd ps ds) (hd:aK dvs ds) (hx:qm CX X E)
  (ha:PA X (e::es) t) (hdb:(x==("__debug__":Str))=false:=by decide) (he:starEach (e::es) X.env=(false,eval e X.env)::starEach es X.env:=by exact ac rfl) (hpl:(backTo pos (starEach es X.env)).any (·.1)=false:=by exact aj rfl) :
  PE X (.Call (.Name x p) (e::es) [] pos) (yV sp dvs E t):=by
 intro pins s σ H Q I h
 refine wpAny_Call_Name_kw (sK I hg hm ?_ hdb)
 refine PySem.W.callWith_K (h₀:=X.base) I.ok.mod.kin hk (thn (ha pos pins s σ H _ I h) fun us s1 ⟨vs,H1,I1,r,q⟩=>⟨I1.kIn,?_⟩) he hpl
 exact zq F hr hb hd hx I1 r q
end
section
variable {X:Cx} {CX:CXT} {k:Nat} {f C:Addr} {fd:FuncData} {ps ks:List Str} {sp:Sp} {E:XK} {x m:Str} {p pos apos kpos:Pos} {e o:Expr} {es:List Expr} {kws:List Keyword} {te ta:TE} {t tk:TA} {nm:Option Str}
variable {g:List Value→List Value→List Value} {gV:List V→List V→List V}
end
structure aF (N P:List Str) (sc:Scope):Prop where
 kind:sc.kind=.function
 co:sc.isCoroutine=false
 gen:sc.isGenerator=false
 nd:N.Nodup
 pre:N.take P.length=P
 par:∀ x∈P,sc.names.lookup x=some .local∨sc.names.lookup x=some .cell
 nofree:∀ y∈sc.names,y.2≠.free
theorem mW {kindOf:Str→Option NameKind} {x:Str}:∀ {binds:List (Str×Value)} {m:Str→Option Value},(∀ v,(x,v)∉binds)→bindL kindOf binds m x=m x
 | [],_,_=>rfl
 | (n,v)::r,m,h=>by
  unfold bindL
  rw [mW fun w hw=>h w (List.mem_cons_of_mem _ hw)]
  split
  ·have:x≠n:=by rintro rfl; exact h v List.mem_cons_self
   simp [this]
  ·rfl
theorem nu {kindOf:Str→Option NameKind} {x:Str}:∀ {binds:List (Str×Value)} {m:Str→Option Value},(∀ v,(x,v)∉binds)→bindC kindOf binds m x=m x
 | [],_,_=>rfl
 | (n,v)::r,m,h=>by
  unfold bindC
  rw [nu fun w hw=>h w (List.mem_cons_of_mem _ hw)]
  split
  ·rfl
  ·have:x≠n:=by rintro rfl; exact h v List.mem_cons_self
   simp [this]
theorem ny {kindOf:Str→Option NameKind} {x:Str} {v:Value}:∀ {P:List Str} {vs:List Value} {i:Nat} {m:Str→Option Value},P.Nodup→P[i]?=some x→vs[i]?=some v→kindOf x=some .local →
  bindL kindOf (P.zip vs) m x=some v
 | [],_,_,_,_,h,_,_=>by simp at h
 | _::_,[],_,_,_,_,h,_=>by simp at h
 | p::P,w::vs,0,m,nd,h1,h2,hk=>by
  simp at h1 h2; subst h1; subst h2
  show bindL kindOf ((p,w)::P.zip vs) m p=_
  unfold bindL
  rw [mW fun v hv=>(List.nodup_cons.mp nd).1 (List.of_mem_zip hv).1,if_pos hk]
  simp
 | p::P,w::vs,i+1,m,nd,h1,h2,hk=>by
  show bindL kindOf ((p,w)::P.zip vs) m x=_
  unfold bindL
  exact ny (i:=i) (List.nodup_cons.mp nd).2 (by simpa using h1) (by simpa using h2) hk
theorem nz {kindOf:Str→Option NameKind} {x:Str} {v:Value}:∀ {P:List Str} {vs:List Value} {i:Nat} {m:Str→Option Value},P.Nodup→P[i]?=some x→vs[i]?=some v→kindOf x≠some .local →
  bindC kindOf (P.zip vs) m x=some v
 | [],_,_,_,_,h,_,_=>by simp at h
 | _::_,[],_,_,_,_,h,_=>by simp at h
 | p::P,w::vs,0,m,nd,h1,h2,hk=>by
  simp at h1 h2; subst h1; subst h2
  show bindC kindOf ((p,w)::P.zip vs) m p=_
  unfold bindC
  rw [nu fun v hv=>(List.nodup_cons.mp nd).1 (List.of_mem_zip hv).1,if_neg hk]
  simp
 | p::P,w::vs,i+1,m,nd,h1,h2,hk=>by
  show bindC kindOf ((p,w)::P.zip vs) m x=_
  unfold bindC
  exact nz (i:=i) (List.nodup_cons.mp nd).2 (by simpa using h1) (by simpa using h2) hk
def fe (N:List Str) (vs:List V):St:=vs.map some++List.replicate (N.length - vs.length) none
def ms (CX:CXT) (P:Program) (w:World) (K:Frag) (mg:Str→Option Value) (base:Heap) (N:List Str) (qual:Str) (scope:Scope) (f:Addr) (cd:Value) (A:Around) (outer:List Env) (s:Shared) (H:Hp) (E:XK):Cx where
 prog:=P
 w:=w
 K:=K
 mg:=mg
 base:=base
 A:=A.deeper (envOfC qual scope s.heap.objs.size f cd)
 N:=N
 s₀:=s
 H₀:=H
 env:=envOfC qual scope s.heap.objs.size f cd
 outer:=outer
 stack:=envOfC qual scope s.heap.objs.size f cd::outer
 ex:=[]
 calm:=true
 fn:=fun _=>true
 pn:=[]
 xe:=fun e s'=>wpAny (model P w) (A.deeper (envOfC qual scope s.heap.objs.size f cd)) (leaving (envOfC qual scope s.heap.objs.size f cd) e) (fun _ s''=>CX outer H s E e s'') (fun e' s''=>CX outer H s E e' s'') s'
theorem oH {sc:Scope} {n:Nat} {x:Str} (h:sc.names.lookup x=some .cell):∃ c,(cellsFrom n sc.names []).lookup x=some c:=by
 have q:=PySem.W.cellsFrom_some sc.names n [] (.inl h)
 exact Option.isSome_iff_exists.mp q
theorem mR {CX:CXT} {P:Program} {w:World} {K:Frag} {mg:Str→Option Value} {base:Heap} {N ps:List Str} {qual:Str} {scope:Scope} {f:Addr} {cd:Value} {A:Around} {outer:List Env} {s s1:Shared} {H:Hp} {E:XK} {us:List Value} {vs:List V}
  (S:aF N ps scope) (hd:A.handled=none) (e0:pR P w K mg base A outer s H) (hl:vs.length=ps.length) (r:aK vs us)
  (x:InCallC s s.heap.objs.size (bindL (envOfC qual scope s.heap.objs.size f cd).kindOf (ps.zip us) fun _=>none) (cellsFrom (s.heap.objs.size+1) scope.names []) (bindC (envOfC qual scope s.heap.objs.size f cd).kindOf (ps.zip us) fun _=>none) s1) :
  Inv (ms CX P w K mg base N qual scope f cd A outer s H E) [] (fe N vs) H s1:=by
 have hpl:ps.length≤N.length:=by have:=congrArg List.length S.pre; rw [List.length_take] at this; omega
 obtain ⟨h1,tk,rfl,hk⟩:=x.done
 have noA:∀ b:Addr,b∉(ms CX P w K mg base N qual scope f cd A outer s H E).ex:=fun b z=>absurd (show b∈([]:List Addr) from z) (by simp)
 refine ⟨⟨e0.mod,S.kind,rfl,rfl,Nat.le_refl _,fun y z c h1 h2=>?_,fun y hy=>?_,fun y c _ h=>?_,fun _=>hd,Around.frames_deeper e0.frames,.inr ⟨rfl,rfl⟩,fun b z=>absurd z (noA b),e0.bs,e0.bsz,fun b _ _=>noA b,fun b z=>absurd z (noA b),e0.funs,e0.frf⟩,
  rfl,e0.bare,Un.kept hk,⟨_,x.toInCall.ns,fun i y v h1 h2 h3=>?_⟩,fun y c h=>⟨_,x.cell y c h⟩,e0.hok.fresh (Nat.le_refl _),fun y c h=>?_,fun p hp=>absurd (show p∈([]:List (Addr×Obj)) from hp) (by simp),e0.hok.kept hk,?_⟩
 ·exact name_of_addr x.apart (PySem.mem_of_lookup h1) (PySem.mem_of_lookup h2)
 ·have hy:scope.names.lookup y=some .cell∨scope.names.lookup y=some .free:=hy
  rcases hy with hy | hy
  ·exact oH hy
  ·exact absurd rfl (S.nofree _ (PySem.mem_of_lookup hy))
 ·exact Nat.le_of_lt (x.above y c (PySem.mem_of_lookup h))
 ·have hi:i<vs.length:=by
   unfold fe at h2
   by_cases hi:i<vs.length
   ·exact hi
   ·rw [List.getElem?_append_right (by simpa using hi)] at h2
    rw [List.getElem?_replicate] at h2
    split at h2<;>cases h2
  have ha:vs[i]?=some v:=by
   unfold fe at h2
   rw [List.getElem?_append_left (by simpa using hi),List.getElem?_map] at h2
   cases e:vs[i]? with
   | none=>rw [e] at h2; cases h2
   | some a=>rw [e] at h2; cases h2; rfl
  obtain ⟨u,hu,rv⟩:=r.get ha
  have hp:ps[i]?=some y:=by
   rw [← S.pre,List.getElem?_take_of_lt (by omega)]; exact h1
  have ndP:ps.Nodup:=by rw [← S.pre]; exact S.nd.sublist (List.take_sublist _ _)
  refine ⟨u,rv,?_⟩
  rcases S.par y (List.mem_of_getElem? hp) with k | k
  ·exact .inl ⟨k,ny ndP hp hu k⟩
  ·obtain ⟨c,e⟩:=oH (n:=s.heap.objs.size+1) k
   refine .inr ⟨.inl k,c,e,?_⟩
   have q:=x.cell y c e
   rw [nz ndP hp hu (by show scope.names.lookup y≠_; rw [k]; decide)] at q
   exact q
 ·exact e0.hok.fresh (Nat.le_of_lt (x.above y c (PySem.mem_of_lookup h)))
 ·unfold fe
  show _=N.length
  rw [List.length_append,List.length_map,List.length_replicate]
  omega
theorem yw {CX:CXT} {P:Program} {w:World} {K:Frag} {mg:Str→Option Value} {base:Heap} {k:Nat} {f:Addr} {name qual:Str} {params:Arguments} {body:List Stmt} {scope:Scope} {dV kV doc pm cdv ct oc:Value} {an od:Option Addr}
  {osl:Array (Option Value)} {N ps:List Str} {sp:Sp} (lk:K.lookup f=some ⟨oc,od,.func (PySem.W.fnOf name qual params body scope dV kV doc pm an cdv ct),osl⟩) (hcd:PySem.W.codeIn K cdv qual=true) (S:aF N ps scope)
  (len:∀ vs H Q E,sp vs H Q E→vs.length=ps.length)
  (hbody:∀ (A:Around) (outer:List Env) (s:Shared) (H:Hp) (vs:List V) (Q:VK) (E:XK),cS k (A.deeper (envOfC qual scope s.heap.objs.size f cdv))→sp vs H Q E →
   ∃ t,PSs (ms CX P w K mg base N qual scope f cdv A outer s H E) body t∧t { nx:=fun _ H'=>Q .non H',rt:=Q } (fe N vs) H) :
  bg P w K mg base CX (k+1) f (PySem.W.fnOf name qual params body scope dV kV doc pm an cdv ct) ps sp:=by
 refine ⟨len,fun A outer s H args us vs Q E hr e0 hb r hsp=>?_⟩
 have hl:=len _ _ _ _ hsp
 have KX:K.In s.heap:=e0.mod.kin.keeps fun b o e=>(e0.bs b o e).1
 have lim:s.heap.NoLimit:=e0.mod.nolimit.keeps fun b o e=>(e0.bs b o e).1
 have hkind:∀ y∈ps.zip us,scope.names.lookup y.1=some .local∨(scope.names.lookup y.1=some .cell∧((cellsFrom (s.heap.objs.size+1) scope.names []).lookup y.1).isSome=true):=fun ⟨n,v⟩ hy=>by
  rcases S.par n (List.of_mem_zip hy).1 with q | q
  ·exact .inl q
  ·exact .inr ⟨q,PySem.W.cellsFrom_some _ _ _ (.inl q)⟩
 refine codeAny_call_function hr.depth (KX _ _ lk) rfl S.co S.gen rfl (PySem.W.codeRec_of KX hcd) (hb _ _ _ _ ?_)
 refine wpAny_newFunctionEnv_cells S.kind hkind fun env he s1 x=>?_
 subst he
 refine ⟨lim.keeps x.toInCall.keep,codeAny_func ?_⟩
 obtain ⟨t,ht,hq⟩:=hbody A outer s H vs Q E (hr.deeper _) hsp
 have I:Inv (ms CX P w K mg base N qual scope f cdv A outer s H E) [] (fe N vs) H s1:=mR S hr.hd e0 hl r x
 refine wpAny_mono (ht [] s1 (fe N vs) H _ I hq) (fun fl s' hs=>?_) fun e s' hs=>hs
 have fin:∀ {σ':St} {H':Hp} {v:V} {u:Value},Inv (ms CX P w K mg base N qual scope f cdv A outer s H E) [] σ' H' s'→br v u→Q v H'→CE outer P w H s Q u s' :=
  fun {σ' H' v u} J rv q=>⟨v,H',J.os,J.bare,J.base,J.hok,rv,q⟩
 cases fl with
 | ret u =>
  obtain ⟨v,σ',H',J,rv,q⟩:=hs
  exact fin J rv q
 | next =>
  obtain ⟨σ',H',J,q⟩:=hs
  exact fin (v:=V.non) (u:=Value.none) J rfl q
 | brk =>
  obtain ⟨_,_,_,q⟩:=hs
  exact False.elim q
 | cont =>
  obtain ⟨_,_,_,q⟩:=hs
  exact False.elim q
open PySem PySem.Spec PyProof.Rows
section
variable {X:Cx} {x:Str} {p pos:Pos} {e:Expr} {es:List Expr} {t:TA} {id T:String} {r:List V→Hp→VK→Prop}
def tCB (r:List V→Hp→VK→Prop) (t:TA):TE:=fun σ H Q=>t σ H fun vs H1=>r vs H1 Q
theorem aA (hc:bJ X (.builtin id) r) (hg:Gl X x) (hm:X.mg x=none) (hv:bootBuiltins x=some (.builtin id)) (ha:PA X (e::es) t) (hn:x ≠ "__name__":=by decide) (hdb:(x==("__debug__":Str))=false:=by decide)
  (he:starEach (e::es) X.env=(false,eval e X.env)::starEach es X.env:=by exact ac rfl) (hpl:(backTo pos (starEach es X.env)).any (·.1)=false:=by exact aj rfl):PE X (.Call (.Name x p) (e::es) [] pos) (tCB r t):=by
 intro pins s σ H Q I h
 refine wpAny_Call_Name_kw (iB I hg hm hv ?_ hn hdb)
 exact PyProof.Rows.callWith_builtin1 (thn (ha pos pins s σ H _ I h) fun us s1 ⟨vs,H1,I1,r1,q1⟩=>hc pins s1 σ H1 vs us Q I1 r1 q1) he hpl
theorem aX (hc:bJ X (.type T) r) (hg:Gl X x) (hm:X.mg x=none) (hv:bootBuiltins x=some (.type T)) (ha:PA X (e::es) t) (hn:x ≠ "__name__":=by decide) (hdb:(x==("__debug__":Str))=false:=by decide)
  (he:starEach (e::es) X.env=(false,eval e X.env)::starEach es X.env:=by exact ac rfl) (hpl:(backTo pos (starEach es X.env)).any (·.1)=false:=by exact aj rfl):PE X (.Call (.Name x p) (e::es) [] pos) (tCB r t):=by
 intro pins s σ H Q I h
 refine wpAny_Call_Name_kw (iB I hg hm hv ?_ hn hdb)
 exact PyProof.Rows.callWith_type1 (thn (ha pos pins s σ H _ I h) fun us s1 ⟨vs,H1,I1,r1,q1⟩=>hc pins s1 σ H1 vs us Q I1 r1 q1) he hpl
end
end L2
namespace HT
open PySem PyProof.Rows
section
open PySem.SeqAt
open PySem.AutoSeq1 (wpAny_loadPart')
open PySem.MeetsSeq PySem.MeetsSeq2 PySem.MeetsSeq3
end
section
variable {prog:Program} {w:World} {A:Around} {E:Value→Shared→Prop} {s:Shared}
theorem cat_tup {t b:Addr} {vs ws:List Value} {Q:Value→Shared→Prop} (ht:IsTup s.heap t vs.toArray) (hb:IsTup s.heap b ws.toArray) (hv:vs≠[])
  (h1:ws=[]→Q (.ref t) s) (h2:ws≠[]→Q (.ref s.heap.objs.size) { s with heap:=s.heap.push { cls:=.type "tuple",data:=.seq (vs++ws).toArray } })
  (hsz:vs.length+ws.length≤sizeLine):wpAny (model prog w) A (binaryOp .Add (.ref t) (.ref b)) Q E s:=by
 obtain ⟨⟨cls,dd,data,sl⟩,ho,hc,n,hd⟩:=id ht
 obtain ⟨⟨cls2,dd2,data2,sl2⟩,ho2,hc2,n2,hd2⟩:=id hb
 simp only at hc hd hc2 hd2
 subst hc hd hc2 hd2
 have e:vs.toArray++ws.toArray=(vs++ws).toArray:=by simp
 by_cases hw:ws=[]
 ·exact concat_meets ⟨_,ho,rfl⟩ ⟨_,ho2,rfl⟩ noFill_tuple_add seq_tuple_add PySem.F.slot_tuple_add PySem.F.entry_tuple_add (PySem.F.args_tuple_add_2 _ _)
   (tuple_addW1 t b vs.toArray ws.toArray n n2 dd dd2 sl sl2 (by simpa using hv) (by simp [hw])) ⟨ho,ho2,h1 hw⟩
 ·refine concat_meets ⟨_,ho,rfl⟩ ⟨_,ho2,rfl⟩ noFill_tuple_add seq_tuple_add PySem.F.slot_tuple_add PySem.F.entry_tuple_add (PySem.F.args_tuple_add_2 _ _)
   (tuple_addW2 t b vs.toArray ws.toArray n n2 dd dd2 sl sl2 (by simpa using hv) (by simpa using hw) (by rw [List.size_toArray,List.size_toArray]; exact hsz)) ⟨ho,ho2,?_⟩
  rw [e]
  exact h2 hw
def sIx (n d:Nat):Option Int→Nat
 | none=>d
 | some v=>if v<0 then (v+(n:Int)).toNat else min v.toNat n
theorem sIx_none (n d:Nat):sIx n d none=d:=rfl
theorem sIx_nat (n d k:Nat):sIx n d (some (k:Int))=min k n:=by
 show (if (k:Int)<0 then ((k:Int)+(n:Int)).toNat else min (k:Int).toNat n)=min k n
 rw [if_neg (by omega),Int.toNat_natCast]
theorem Am (n d:Nat) (hd:d≤n) (o:Option Int):sIx n d o≤n:=by
 cases o with
 | none=>exact hd
 | some v =>
  show (if v<0 then (v+(n:Int)).toNat else min v.toNat n)≤n
  by_cases hv:v<0
  ·rw [if_pos hv]; omega
  ·rw [if_neg hv]; exact Nat.min_le_right _ _
theorem sv (v:Int) (n d:Nat):(if v<0 then max (v+(n:Int)) 0 else min v (n:Int))=((sIx n d (some v):Nat):Int):=by
 show (if v<0 then max (v+(n:Int)) 0 else min v (n:Int))=(((if v<0 then (v+(n:Int)).toNat else min v.toNat n):Nat):Int)
 by_cases hv:v<0
 ·simp only [if_pos hv]; omega
 ·simp only [if_neg hv]; omega
theorem qD (lo hi:Option Int) (n:Nat):Builtin.Slice.sliceAdjust lo hi 1 (n:Int)=(((sIx n 0 lo:Nat):Int),((sIx n n hi:Nat):Int)):=by
 have h1:¬ ((1:Int)<0):=by omega
 unfold Builtin.Slice.sliceAdjust
 simp only [h1,if_false]
 refine Prod.ext ?_ ?_
 ·cases lo with
  | none=>rfl
  | some v=>exact sv v n 0
 ·cases hi with
  | none=>rfl
  | some v=>exact sv v n n
theorem rS (i j:Nat):Builtin.Slice.slicePlaces (i:Int) (j:Int) 1=j - i:=by
 unfold Builtin.Slice.slicePlaces
 have h1:(1:Int) > 0:=by omega
 simp only [h1,if_true,Int.ediv_one]
 split<;>omega
theorem lU {v:Value} {o:Option Int} {Q:Option Int→Shared→Prop} (p:IsPart v o) (h:Q o s):wpAny (model prog w) A (Builtin.Slice.slicePartIndex v) Q E s:=by
 cases p with
 | none=>exact slicePart_none h
 | int i t=>exact slicePart_int h
theorem eR {sl:Addr} {vl vu:Value} {lo hi:Option Int} {n:Nat} {Q:Int×Int×Nat→Shared→Prop} (hs:s.heap.IsSliceOf sl vl vu .none) (pl:IsPart vl lo) (pu:IsPart vu hi)
  (h:Q (((sIx n 0 lo:Nat):Int),1,sIx n n hi - sIx n 0 lo) s):wpAny (model prog w) A (Builtin.Slice.sliceApplied (.ref sl) (pure (n:Int))) Q E s:=by
 obtain ⟨os,hos,hcs,hds⟩:=id hs
 unfold Builtin.Slice.sliceApplied Builtin.Slice.sliceFields
 refine wpAny_bind (wpAny_bind (wpAny_field hos hds (x:=vl) rfl (wpAny_bind (wpAny_field hos hds (x:=vu) rfl (wpAny_bind (wpAny_field hos hds (x:=.none) rfl (wpAny_pure ?_)))))))
 refine wpAny_bind (slicePart_none ?_)
 show wpAny _ _ (if ((1:Int)==0)=true then _ else _) _ _ s
 rw [if_neg (by decide)]
 refine wpAny_bind (lU pl (wpAny_bind (lU pu (wpAny_bind (wpAny_pure ?_)))))
 show wpAny _ _ (match Builtin.Slice.sliceAdjust lo hi 1 (n:Int) with | (lo,hi)=>pure (lo,(1:Int),Builtin.Slice.slicePlaces lo hi 1)) _ _ s
 rw [qD lo hi n]
 show wpAny _ _ (pure (((sIx n 0 lo:Nat):Int),(1:Int),Builtin.Slice.slicePlaces ((sIx n 0 lo:Nat):Int) ((sIx n n hi:Nat):Int) 1)) _ _ s
 rw [rS]
 exact wpAny_pure h
theorem vY (xs:Array Value) (i k:Nat):((List.range k).filterMap fun (m:Nat)=>xs[((i:Int)+(m:Int)*1).toNat]?).toArray=((xs.toList.drop i).take k).toArray:=by
 have e:(fun (m:Nat)=>xs[((i:Int)+(m:Int)*1).toNat]?)=fun m=>xs[i+m]?:=by
  funext m
  have:((i:Int)+(m:Int)*1).toNat=i+m:=by omega
  rw [this]
 rw [e]
 have:=pick_run xs i k
 rw [List.filterMap_map] at this
 have e2:((fun x=>xs[x]?) ∘ fun x=>i+x)=fun m=>xs[i+m]?:=rfl
 rw [e2] at this
 rw [this]
theorem getItem_tuple_cut {t sl:Addr} {items:Array Value} {vl vu:Value} {lo hi:Option Int} {Q:Value→Shared→Prop} (ht:IsTup s.heap t items) (hs:s.heap.IsSliceOf sl vl vu .none) (pl:IsPart vl lo) (pu:IsPart vu hi)
  (hw:¬ (sIx items.size 0 lo=0∧sIx items.size items.size hi=items.size))
  (h:Q (.ref s.heap.objs.size) { s with heap:=s.heap.push { cls:=.type "tuple",data:=.seq ((items.toList.drop (sIx items.size 0 lo)).take (sIx items.size items.size hi - sIx items.size 0 lo)).toArray } })
  (hsz:items.size≤sizeLine):wpAny (model prog w) A (getItem (.ref t) (.ref sl)) Q E s:=by
 have htake:sizeOk (.seq ((items.toList.drop (sIx items.size 0 lo)).take (sIx items.size items.size hi - sIx items.size 0 lo)).toArray):=by
  show ((items.toList.drop (sIx items.size 0 lo)).take (sIx items.size items.size hi - sIx items.size 0 lo)).toArray.size≤sizeLine
  rw [List.size_toArray,List.length_take,List.length_drop,Array.length_toList]
  omega
 have hj:sIx items.size items.size hi≤items.size:=Am _ _ (Nat.le_refl _) hi
 obtain ⟨os,hos,hcs,hds⟩:=id hs
 have hTs:s.TypeIs (.ref sl) "slice":=⟨os,hos,hcs⟩
 unfold getItem
 try with_reducible refine wpAny_holding ?_
 first | refine wpAny_bind (wpAny_pure ?_) | skip
 refine wpAny_bind (wpAny_sequenceKey ht.typeIs (by decide) ?_)
 refine wpAny_bind (wpAny_callSpecial?_slot (name:=Str.ofString "__getitem__") ht.typeIs PyProof.Rows.slot_tuple_getitem
  (wpAny_call_entry PyProof.Rows.slot_tuple_getitem ht.typeIs entry_tuple_getitem ?_ (args_tuple_getitem _ _)))
 show wpAny _ _ (Builtin.Tuple.tupleItemsOf (.ref t) >>= _) _ _ s
 refine wpAny_bind (tupleItemsOf_ ht ?_)
 refine wpAny_bind (wpAny_typeOf hTs ?_)
 rw [if_pos (by decide)]
 refine wpAny_bind (eR hs pl pu ?_)
 have hno:¬ ((((sIx items.size 0 lo:Nat):Int)==0&&(1:Int)==1&&(sIx items.size items.size hi - sIx items.size 0 lo)==items.size)=true):=by
  intro q
  rw [Bool.and_eq_true,Bool.and_eq_true] at q
  have q1:((sIx items.size 0 lo:Nat):Int)=0:=eq_of_beq q.1.1
  have q2:sIx items.size items.size hi - sIx items.size 0 lo=items.size:=eq_of_beq q.2
  exact hw ⟨by omega,by omega⟩
 show wpAny _ _ (if (((sIx items.size 0 lo:Nat):Int)==0&&(1:Int)==1&&(sIx items.size items.size hi - sIx items.size 0 lo)==items.size)=true then _ else _) _ _ s
 rw [if_neg hno,vY]
 first
  | exact wpAny_bind (m:=Builtin.Tuple.tupleExact _) (wpAny_newObj_type (wpAny_pure ⟨_,rfl,wpAny_pure h⟩) htake)
  | exact wpAny_bind (m:=Builtin.Tuple.tupleExact _) (wpAny_newObj_type (wpAny_bind (wpAny_pure (wpAny_pure ⟨_,rfl,wpAny_pure h⟩))) htake)
  | exact wpAny_bind (wpAny_bind (m:=Builtin.Tuple.tupleExact _) (wpAny_newObj_type (wpAny_pure (wpAny_pure ⟨_,rfl,wpAny_pure h⟩)) htake))
  | exact wpAny_bind (wpAny_bind (m:=Builtin.Tuple.tupleExact _) (wpAny_newObj_type (wpAny_pure ⟨_,rfl,wpAny_pure h⟩) htake))
end
end HT
namespace L2
open PySem PySem.Spec PyProof.Rows
abbrev TO:=St→Hp→(Option Int→Hp→Prop)→Prop
def PO (X:Cx) (e:Option Expr) (t:TO):Prop :=
 ∀ (pins:List (Addr×Obj)) (s:Shared) (σ:St) (H:Hp) (Q:Option Int→Hp→Prop),Inv X pins σ H s→t σ H Q →
  wpAny (model X.prog X.w) X.A (evalPart e X.env) (fun u s'=>∃ o H',Inv X pins σ H' s'∧IsPart u o∧Q o H') X.xe s
def xx:TO:=fun _ H Q=>Q none H
def AX (t:TE):TO:=fun σ H Q=>t σ H fun x H1=>∃ i,x=.int i∧Q (some i) H1
section
variable {X:Cx} {e:Expr} {te:TE} {lo hi:Option Expr} {tl th:TO} {pos p2:Pos}
theorem gW:PO X none xx:=by
 intro pins s σ H Q I h
 rw [evalPart_none]
 exact wpAny_pure ⟨none,H,I,.none,h⟩
theorem eF (h:PE X e te):PO X (some e) (AX te):=by
 intro pins s σ H Q I hw
 rw [evalPart_some]
 refine thn (h pins s σ H _ I hw) fun u s1 ⟨x,H1,I1,r1,q1⟩=>?_
 obtain ⟨i,rfl,q⟩:=q1
 obtain ⟨t,rfl⟩:=r1
 exact ⟨some i,H1,I1,.int i t,q⟩
def SlR (X:Cx) (r:V→Option Int→Option Int→Hp→VK→Prop):Prop :=
 ∀ (pins:List (Addr×Obj)) (s:Shared) (σ:St) (H:Hp) (x:V) (v vl vu:Value) (lo hi:Option Int) (sl:Addr) (Q:VK),Inv X pins σ H s→br x v→s.heap.IsSliceOf sl vl vu .none→IsPart vl lo→IsPart vu hi→r x lo hi H Q →
  ∃ T id,typeLookup (.type T) "__getitem__"=pure (some (.builtin id))∧s.TypeIs v T∧wpAny (model X.prog X.w) X.A (getItem v (.ref sl)) (EP X pins σ Q) X.xe s
theorem SlR.or {r r':V→Option Int→Option Int→Hp→VK→Prop} (h:SlR X r) (h':SlR X r'):SlR X (fun x lo hi H Q=>r x lo hi H Q∨r' x lo hi H Q):=by
 intro pins s σ H x v vl vu lo hi sl Q I rx hs pl pu q
 rcases q with q | q
 ·exact h pins s σ H x v vl vu lo hi sl Q I rx hs pl pu q
 ·exact h' pins s σ H x v vl vu lo hi sl Q I rx hs pl pu q
def tSl (r:V→Option Int→Option Int→Hp→VK→Prop) (te:TE) (tl th:TO):TE:=fun σ H Q=>te σ H fun x H1=>tl σ H1 fun l H2=>th σ H2 fun u H3=>r x l u H3 Q
theorem dS {r:V→Option Int→Option Int→Hp→VK→Prop} (hr:SlR X r) (he:PE X e te) (hl:PO X lo tl) (hu:PO X hi th):PE X (.Subscript e (.Slice lo hi none p2) pos) (tSl r te tl th):=by
 intro pins s σ H Q I h
 refine Subscript_ (thn (he pins s σ H _ I h) fun v s1 ⟨x,H1,I1,r1,q1⟩=>?_)
 refine wpAny_Slice (thn (hl pins s1 σ H1 _ I1 q1) fun vl s2 ⟨l,H2,I2,pl,q2⟩=>thn (hu pins s2 σ H2 _ I2 q2) fun vu s3 ⟨u,H3,I3,pu,q3⟩=>?_)
 rw [evalPart_none]
 refine wpAny_pure ?_
 have I4:Inv X pins σ H3 { s3 with heap:=s3.heap.push { cls:=.type "slice",data:=.fields #[vl,vu,.none] } }:=I3.kept (t':=s3.toks) fun b ob q=>Heap.get?_push_of_some _ q
 obtain ⟨T,id,hT,ht,hg⟩:=hr pins { s3 with heap:=s3.heap.push { cls:=.type "slice",data:=.fields #[vl,vu,.none] } } σ H3 x v vl vu l u s3.heap.objs.size Q I4 r1 (Heap.IsSliceOf.new ..) pl pu q3
 show wpAny (model X.prog X.w) X.A (subscriptTail e (.Slice lo hi none p2) v (.ref s3.heap.objs.size)) (EP X pins σ Q) X.xe { s3 with heap:=s3.heap.push { cls:=.type "slice",data:=.fields #[vl,vu,.none] } }
 exact tail_any (ops:=[.ref s3.heap.objs.size,v]) ht hT hg (by with_unfolding_all rfl)
def bV (xs:List V) (lo hi:Option Int):List V:=(xs.drop (HT.sIx xs.length 0 lo)).take (HT.sIx xs.length xs.length hi - HT.sIx xs.length 0 lo)
theorem eL (xs:List V) (lo hi:Option Int):(bV xs lo hi).length≤xs.length:=by
 unfold bV
 rw [List.length_take,List.length_drop]
 omega
def zS (K:Frag):V→Option Int→Option Int→Hp→VK→Prop:=fun x lo hi H Q=>∃ a xs,x=.ref a∧SqT K H a xs ∧
 ¬ (HT.sIx xs.length 0 lo=0∧HT.sIx xs.length xs.length hi=xs.length)∧∀ p,H p=none→Q (.ref p) (upd H p (.tup (bV xs lo hi)))
theorem Ak:SlR X (zS X.K):=by
 intro pins s σ H x v vl vu lo hi sl Q I rx hs pl pu h
 obtain ⟨a,xs,rfl,hx,hw,q⟩:=h
 cases rx
 obtain ⟨its,r,ht,hz⟩:=I.tuple hx
 have hlen:its.toArray.size=xs.length:=by rw [List.size_toArray]; exact r.length.symm
 refine ⟨"tuple",_,PyProof.Rows.slot_tuple_getitem.lookup,ht.typeIs,?_⟩
 refine HT.getItem_tuple_cut ht hs pl pu (by rw [hlen]; exact hw) ?_ (by rw [hlen]; exact hz)
 rw [hlen]
 refine ⟨.ref s.heap.objs.size,_,I.laid (t':=s.toks) (o:=.tup (bV xs lo hi)) (fun b ob q=>Heap.get?_push_of_some _ q) (Nat.le_refl _) ?_,rfl,q _ (I.hok.fresh (Nat.le_refl _))⟩
 exact ⟨Nat.le_trans (eL xs lo hi) hz,_,(r.drop (HT.sIx xs.length 0 lo)).take (HT.sIx xs.length xs.length hi - HT.sIx xs.length 0 lo),IsTup.new _ _,_,Heap.get?_push_size _ rfl,rfl⟩
def wa (K:Frag):R2:=fun x y H Q=>∃ a b xs ys,x=.ref a∧y=.ref b∧SqT K H a xs∧SqT K H b ys∧xs≠[]∧xs.length+ys.length≤sizeLine ∧
 (ys=[]→Q (.ref a) H)∧(ys≠[]→∀ p,H p=none→Q (.ref p) (upd H p (.tup (xs++ys))))
theorem aK.nil_iff {xs:List V} {us:List Value} (r:aK xs us):us=[]↔xs=[]:=by
 cases r with
 | nil=>simp
 | cons _ _=>simp
theorem nN:OpR X (binaryOp .Add) (wa X.K):=by
 intro pins s σ H x y v u Q I rx ry h
 obtain ⟨a,b,xs,ys,rfl,rfl,ha,hb,hx,hz,q1,q2⟩:=h
 cases rx
 cases ry
 obtain ⟨its,r1,p1,_⟩:=I.tuple ha
 obtain ⟨its2,r2,p2,_⟩:=I.tuple hb
 refine HT.cat_tup p1 p2 (fun z=>hx (r1.nil_iff.mp z)) (fun z=>⟨.ref a,H,I,rfl,q1 (r2.nil_iff.mp z)⟩) (fun z=>?_) (by rw [← r1.length,← r2.length]; exact hz)
 refine ⟨.ref s.heap.objs.size,_,I.laid (t':=s.toks) (o:=.tup (xs++ys)) (fun b ob q=>Heap.get?_push_of_some _ q) (Nat.le_refl _) ?_,rfl,q2 (fun w=>z (r2.nil_iff.mpr w)) _ (I.hok.fresh (Nat.le_refl _))⟩
 exact ⟨by rw [List.length_append]; exact hz,_,r1.append r2,IsTup.new _ _,_,Heap.get?_push_size _ rfl,rfl⟩
end
open PySem PySem.Spec PyProof.Rows
def ixN (n:Nat) (i:Int):Option Nat:=if 0≤i then (if i<n then some i.toNat else none) else if -(n:Int)≤i then some (i+n).toNat else none
def atI {α:Type} (xs:List α) (i:Int):Option α:=(ixN xs.length i).bind fun j=>xs[j]?
theorem sn {n:Nat} {i:Int} {j:Nat} (h:ixN n i=some j):seqIndex? i n=some j∧j<n∧-(n:Int)≤i∧i<n:=by
 unfold ixN at h
 by_cases h0:0≤i
 ·rw [if_pos h0] at h
  by_cases h1:i<n
  ·rw [if_pos h1] at h
   have e:i.toNat=j:=Option.some.inj h
   exact ⟨by rw [seqIndex_of h0 h1,e],by omega,by omega,h1⟩
  ·rw [if_neg h1] at h; cases h
 ·rw [if_neg h0] at h
  by_cases h1:-(n:Int)≤i
  ·rw [if_pos h1] at h
   have e:(i+n).toNat=j:=Option.some.inj h
   exact ⟨by rw [seqIndex_neg (by omega) h1,e],by omega,h1,by omega⟩
  ·rw [if_neg h1] at h; cases h
theorem nR {α:Type} {xs:List α} {i:Int} {v:α} (h:atI xs i=some v):∃ j,seqIndex? i xs.length=some j∧xs[j]?=some v∧j<xs.length∧-(xs.length:Int)≤i∧i<xs.length:=by
 unfold atI at h
 cases e:ixN xs.length i with
 | none=>rw [e] at h; cases h
 | some j =>
  rw [e] at h
  obtain ⟨h1,h2,h3,h4⟩:=sn e
  exact ⟨j,h1,h,h2,h3,h4⟩
theorem sm {α:Type} {xs:List α} {j:Nat} {v:α} (h:xs[j]?=some v):atI xs (j:Int)=some v:=by
 have hj:j<xs.length:=(List.getElem?_eq_some_iff.mp h).1
 have e:ixN xs.length (j:Int)=some j:=by
  unfold ixN
  rw [if_pos (by omega),if_pos (by omega)]; simp
 unfold atI; rw [e]; exact h
def yi (b:Expr):Prop:=∀ o i,subscripted b false o i=operate [o,i] (getItem o i)
def IxR (X:Cx) (r:R2):Prop :=
 ∀ (value slice:Expr) (pins:List (Addr×Obj)) (s:Shared) (σ:St) (H:Hp) (x y:V) (v u:Value) (Q:VK),Inv X pins σ H s→br x v→br y u→r x y H Q →
  subscripted slice false v u=operate [v,u] (getItem v u)→wpAny (model X.prog X.w) X.A (subscriptTail value slice v u) (EP X pins σ Q) X.xe s
def MtR (X:Cx) (id:String) (r:V→List V→Hp→VK→Prop):Prop :=
 ∀ (pins:List (Addr×Obj)) (s:Shared) (σ:St) (H:Hp) (x:V) (xs:List V) (v:Value) (us:List Value) (Q:VK),Inv X pins σ H s→br x v→aK xs us→r x xs H Q →
  wpAny (model X.prog X.w) X.A (call (.builtin id) (v::us)) (EP X pins σ Q) X.xe s
section
variable {X:Cx} {a b:Expr} {ta tb:TE} {pos:Pos}
theorem ay {r:R2} (hr:IxR X r) (ha:PE X a ta) (hb:PE X b tb) (hs:yi b):PE X (.Subscript a b pos) (tOp r ta tb):=by
 intro pins s σ H Q I h
 exact Subscript_ (zj ha hb I h fun v u s2 x y H2 I2 rx ry q=>hr a b pins s2 σ H2 x y v u Q I2 rx ry q (hs _ _))
def AJ (K:Frag):R2:=fun x y H Q=>∃ p xs i v,x=.ref p∧y=.int i∧SqL K H p xs∧atI xs i=some v∧Q v H
def AS (K:Frag):R2:=fun x y H Q=>∃ p xs i v,x=.ref p∧y=.int i∧SqT K H p xs∧atI xs i=some v∧Q v H
def Cj:R2:=fun x y H Q=>∃ z i c,x=.str z∧y=.int i∧z.length≤sizeLine∧atI z.cps.toList i=some c∧Q (.str ⟨#[c]⟩) H
theorem aM:IxR X (AJ X.K):=by
 intro value slice pins s σ H x y v u Q I rx ry h hs
 obtain ⟨p,xs,i,z,rfl,rfl,hq,he,q⟩:=h
 cases rx
 obtain ⟨t,rfl⟩:=ry
 obtain ⟨its,r,pl,hz⟩:=I.list hq
 obtain ⟨j,h1,h2,h3,h4,h5⟩:=nR he
 obtain ⟨w,ew,rw'⟩:=r.get h2
 have hl:=r.length
 have hn:=jD
 have fin:EP X pins σ Q w s:=⟨z,H,I,rw',q⟩
 by_cases h0:0≤i
 ·have hj:i.toNat=j:=by
   rw [seqIndex_of h0 h5] at h1
   exact Option.some.inj h1
  exact item_listR pl.isList h0 (by omega) (by rw [hj]; simpa using ew) fin hs
 ·have hj:(i+(its.toArray.size:Int)).toNat=j:=by
   rw [seqIndex_neg (by omega) h4] at h1
   rw [List.size_toArray,← hl]
   exact Option.some.inj h1
  exact subscriptTail_builtinR (x:=w) pl.isList.typeIs slot_list_getitem.lookup
   (wpAny_getItem_list_neg (Q:=fun r s'=>r=w∧EP X pins σ Q r s') pl.isList (by omega) (by rw [List.size_toArray]<;>omega) (by omega) (by rw [hj]; simpa using ew) ⟨rfl,fin⟩) hs
theorem aL:IxR X (AS X.K):=by
 intro value slice pins s σ H x y v u Q I rx ry h hs
 obtain ⟨p,xs,i,z,rfl,rfl,hq,he,q⟩:=h
 cases rx
 obtain ⟨t,rfl⟩:=ry
 obtain ⟨its,r,pl,hz⟩:=I.tuple hq
 obtain ⟨j,h1,h2,h3,h4,h5⟩:=nR he
 obtain ⟨w,ew,rw'⟩:=r.get h2
 have hl:=r.length
 have hn:=jD
 have fin:EP X pins σ Q w s:=⟨z,H,I,rw',q⟩
 exact subscriptTail_builtinR (x:=w) pl.typeIs slot_tuple_getitem.lookup
  (getItem_tuple (j:=j) (Q:=fun r s'=>r=w∧EP X pins σ Q r s') pl (by omega) (by omega) (by rw [List.size_toArray,← hl]; exact h1) (by simpa using ew) ⟨rfl,fin⟩) hs
theorem uG:IxR X Cj:=by
 intro value slice pins s σ H x y v u Q I rx ry h hs
 obtain ⟨z,i,c,rfl,rfl,hz,he,q⟩:=h
 obtain ⟨t,rfl⟩:=rx
 obtain ⟨t',rfl⟩:=ry
 obtain ⟨j,h1,h2,h3,h4,h5⟩:=nR he
 have hl:z.cps.toList.length=z.length:=by simp [Str.length]
 rw [hl] at h1 h4 h5
 have hn:=jD
 exact tail_any (typeIs_str s z t) slot_str_getitem.lookup (getItem_str (c:=c) (by
  have e1:decide (i< -(2 ^ 63:Int))=false:=decide_eq_false (by omega)
  have e2:decide (i ≥ 2 ^ 63)=false:=decide_eq_false (by omega)
  rw [e1,e2,Bool.or_false]) (by rw [h1]; simpa using h2) ⟨.str ⟨#[c]⟩,H,I.tok _,⟨_,rfl⟩,q⟩) hs
theorem qW (its:List Value) (n j:Nat) (u:Value):Obj.mapSeq (·.setIfInBounds j u) { cls:=.type "list",data:=.seq its.toArray n }={ cls:=.type "list",data:=.seq (its.set j u).toArray n }:=by
 simp [Obj.mapSeq]
theorem Inv.lst {pins:List (Addr×Obj)} {σ:St} {H:Hp} {s:Shared} {p:Addr} {xs:List V} (I:Inv X pins σ H s) (h:H p=some (.lst xs)) :
  ∃ (its:List Value) (n:Nat),aK xs its∧s.heap.get? p=some { cls:=.type "list",data:=.seq its.toArray n }∧xs.length≤sizeLine:=by
 obtain ⟨z,its,n,r,e⟩:=I.hok p _ h
 exact ⟨its,n,r,e,z⟩
theorem Inv.lstUpd {pins:List (Addr×Obj)} {σ:St} {H:Hp} {s:Shared} {p:Addr} {xs ys:List V} {its its':List Value} {n n':Nat} {f:Obj→Obj} (I:Inv X pins σ H s) (h:H p=some (.lst xs))
  (ho:s.heap.get? p=some { cls:=.type "list",data:=.seq its.toArray n }) (hf:f { cls:=.type "list",data:=.seq its.toArray n }={ cls:=.type "list",data:=.seq its'.toArray n' }) (r:aK ys its') (hz:ys.length≤sizeLine) (t:Nat) :
  Inv X pins σ (upd H p (.lst ys)) { s with heap:=s.heap.update p f,toks:=t }:=by
 have e:(s.heap.update p f).get? p=some { cls:=.type "list",data:=.seq its'.toArray n' }:=by
  rw [Heap.get?_update_self f ho (by rw [hf]<;>rfl),hf]
 refine I.write (x:=p) (e:=p) (by rw [h]; trivial) (.inl rfl) (fun b u hb q=>(Heap.get?_update_other _ _ (Ne.symm hb)).trans q) ⟨_,e⟩ ?_
 exact ⟨hz,its',n',r,e⟩
def Bk:V→V→V→Hp→(Hp→Prop)→Prop:=fun o i v H Q=>∃ p xs k j,o=.ref p∧i=.int k∧H p=some (.lst xs)∧ixN xs.length k=some j∧Q (upd H p (.lst (xs.set j v)))
theorem cJ:BS X Bk:=by
 intro pins s σ H o i v ov iv u Q I ro ri rv h
 obtain ⟨p,xs,k,j,rfl,rfl,hp,hj,q⟩:=h
 cases ro
 obtain ⟨t,rfl⟩:=ri
 obtain ⟨its,n,r,ho,hz⟩:=I.lst hp
 obtain ⟨h1,h2,h3,h4⟩:=sn hj
 have hl:=r.length
 have hn:=jD
 have I':Inv X pins σ (upd H p (.lst (xs.set j v))) { s with heap:=s.heap.update p (Obj.mapSeq (·.setIfInBounds j u)) } :=
  I.lstUpd hp ho (qW its n j u) (r.set rv j) (by rw [List.length_set]; exact hz) s.toks
 by_cases h0:0≤k
 ·have hk:k.toNat=j:=by
   rw [seqIndex_of h0 h4] at h1
   exact Option.some.inj h1
  exact PySem.W.ki_setAt ho h0 (by omega) (by rw [List.size_toArray,← hl]; exact h4) (by rw [hk]; exact ⟨_,I',q⟩)
 ·have hk:(k+(its.toArray.size:Int)).toNat=j:=by
   rw [seqIndex_neg (by omega) h3] at h1
   rw [List.size_toArray,← hl]
   exact Option.some.inj h1
  exact PySem.W.ki_setBack ho (by omega) (by rw [List.size_toArray,← hl]; exact h3) (by omega) (by rw [hk]; exact ⟨_,I',q⟩)
theorem nM (lo hi:Option Int) (n:Nat):(sliceBounds lo hi none n).1=((HT.sIx n 0 lo:Nat):Int)∧(sliceBounds lo hi none n).2.1=((HT.sIx n n hi:Nat):Int)∧(sliceBounds lo hi none n).2.2=1:=by
 refine ⟨?_,?_,rfl⟩
 ·cases lo with
  | none=>simp [sliceBounds,HT.sIx]
  | some i =>
   simp only [sliceBounds,HT.sIx,Option.getD_none,show (1:Int) > 0 by decide,if_true]
   by_cases h:i<0
   ·simp only [h,if_true]<;>omega
   ·simp only [h,if_false]<;>omega
 ·cases hi with
  | none=>simp [sliceBounds,HT.sIx]
  | some i =>
   simp only [sliceBounds,HT.sIx,Option.getD_none,show (1:Int) > 0 by decide,if_true]
   by_cases h:i<0
   ·simp only [h,if_true]<;>omega
   ·simp only [h,if_false]<;>omega
theorem mF (its:List Value) (lo hi:Option Int):slicePick its.toArray lo hi none=((its.drop (HT.sIx its.length 0 lo)).take (HT.sIx its.length its.length hi - HT.sIx its.length 0 lo)).toArray:=by
 obtain ⟨h1,h2,h3⟩:=nM lo hi its.toArray.size
 unfold slicePick
 rw [h1,h2,h3]
 simp only [sliceRange_one,pick_run,List.size_toArray]<;>rfl
def Cy (K:Frag):V→Option Int→Option Int→Hp→VK→Prop:=fun x lo hi H Q=>∃ a xs,x=.ref a∧SqL K H a xs∧∀ p,H p=none→Q (.ref p) (upd H p (.lst (bV xs lo hi)))
theorem gZ:SlR X (Cy X.K):=by
 intro pins s σ H x v vl vu lo hi sl Q I rx hs pl pu h
 obtain ⟨a,xs,rfl,hx,q⟩:=h
 cases rx
 obtain ⟨its,r,ht,hz⟩:=I.list hx
 have hlen:=r.length
 refine ⟨"list",_,slot_list_getitem.lookup,ht.isList.typeIs,?_⟩
 refine wpAny_getItem_list_slice ht.isList hs pl pu .none (by simp) ?_ (by rw [List.size_toArray]<;>omega)
 rw [mF,← hlen]
 refine ⟨.ref s.heap.objs.size,_,I.laid (t':=s.toks) (o:=.lst (bV xs lo hi)) (fun b ob q=>Heap.get?_push_of_some _ q) (Nat.le_refl _) ?_,rfl,q _ (I.hok.fresh (Nat.le_refl _))⟩
 exact ⟨Nat.le_trans (eL xs lo hi) hz,_,0,(r.drop (HT.sIx xs.length 0 lo)).take (HT.sIx xs.length xs.length hi - HT.sIx xs.length 0 lo),Heap.get?_push_size _ rfl⟩
def iP:V→Bool
 | .non=>true
 | .bl _=>true
 | .int _=>true
 | .str _=>true
 | _=>false
def eqV:V→V→Bool
 | .non,.non=>true
 | .bl a,.bl b=>a==b
 | .bl a,.int b=>(if a then 1 else 0)==b
 | .int a,.bl b=>a==(if b then 1 else 0)
 | .int a,.int b=>a==b
 | .str a,.str b=>a==b
 | _,_=>false
theorem zJ {A:Around} {s:Shared} {y x:V} {u v:Value} (ry:br y u) (rx:br x v) (fy:iP y=true) (fx:iP x=true):SeqAt.EqAt A s u v (eqV y x):=by
 cases y with
 | non =>
  cases ry
  cases x with
  | non=>cases rx; exact SeqAt.EqAt.same _
  | bl b=>cases rx; exact SeqAt.EqAt.none_bool b
  | int b=>obtain ⟨t,rfl⟩:=rx; exact SeqAt.EqAt.none_int b t
  | str b=>obtain ⟨t,rfl⟩:=rx; exact SeqAt.EqAt.none_str b t
  | _=>exact absurd (show false=true from fx) Bool.false_ne_true
 | bl a =>
  cases ry
  cases x with
  | non=>cases rx; exact SeqAt.EqAt.bool_none a
  | bl b=>cases rx; exact SeqAt.EqAt.bool_bool a b
  | int b=>obtain ⟨t,rfl⟩:=rx; exact SeqAt.EqAt.bool_int a b t
  | str b=>obtain ⟨t,rfl⟩:=rx; exact SeqAt.EqAt.bool_str a b t
  | _=>exact absurd (show false=true from fx) Bool.false_ne_true
 | int a =>
  obtain ⟨t',rfl⟩:=ry
  cases x with
  | non=>cases rx; exact SeqAt.EqAt.int_none a t'
  | bl b=>cases rx; exact SeqAt.EqAt.int_bool a t' b
  | int b=>obtain ⟨t,rfl⟩:=rx; exact SeqAt.EqAt.int_int a t' b t
  | str b=>obtain ⟨t,rfl⟩:=rx; exact SeqAt.EqAt.int_str a t' b t
  | _=>exact absurd (show false=true from fx) Bool.false_ne_true
 | str a =>
  obtain ⟨t',rfl⟩:=ry
  cases x with
  | non=>cases rx; exact SeqAt.EqAt.str_none a t'
  | bl b=>cases rx; exact SeqAt.EqAt.str_bool a t' b
  | int b=>obtain ⟨t,rfl⟩:=rx; exact SeqAt.EqAt.str_int a t' b t
  | str b=>obtain ⟨t,rfl⟩:=rx; exact SeqAt.EqAt.str_str a t' b t
  | _=>exact absurd (show false=true from fx) Bool.false_ne_true
 | _=>exact absurd (show false=true from fy) Bool.false_ne_true
def eqU (x:V) (u:Value):Bool:=match u with
 | .none=>eqV .non x
 | .bool b=>eqV (.bl b) x
 | .int i _=>eqV (.int i) x
 | .str z _=>eqV (.str z) x
 | _=>false
theorem vN {x y:V} {u:Value} (r:br y u) (f:iP y=true):eqU x u=eqV y x:=by
 cases y with
 | non=>cases r; rfl
 | bl b=>cases r; rfl
 | int i=>obtain ⟨t,rfl⟩:=r; rfl
 | str z=>obtain ⟨t,rfl⟩:=r; rfl
 | _=>exact absurd (show false=true from f) Bool.false_ne_true
theorem oj {x:V}:∀ {xs:List V} {us:List Value},aK xs us→xs.all iP=true→us.any (eqU x)=xs.any fun y=>eqV y x
 | _,_,.nil,_=>rfl
 | y::xs,u::us,.cons r t,f=>by
  rw [List.all_cons,Bool.and_eq_true] at f
  rw [List.any_cons,List.any_cons,vN r f.1,oj t f.2]
theorem lD {A:Around} {s:Shared} {x:V} {v:Value} (rx:br x v) (fx:iP x=true):∀ {xs:List V} {us:List Value},aK xs us→xs.all iP=true→∀ u∈us,SeqAt.EqAt A s u v (eqU x u)
 | _,_,.nil,_=>fun u hu=>by cases hu
 | y::xs,u::us,.cons r t,f=>fun u' hu=>by
  rw [List.all_cons,Bool.and_eq_true] at f
  rcases List.mem_cons.mp hu with rfl | hu
  ·rw [vN r f.1]; exact zJ r rx f.1 fx
  ·exact lD rx fx t f.2 u' hu
def inV (x:V) (xs:List V):Bool:=xs.any fun y=>eqV y x
def rIn (K:Frag) (neg:Bool):R2:=fun x y H Q=>∃ p xs,y=.ref p∧(SqL K H p xs∨SqT K H p xs)∧iP x=true∧xs.all iP=true∧Q (.bl (if neg then !inV x xs else inV x xs)) H
theorem dP:OpR X (compareOp .In) (rIn X.K false):=by
 intro pins s σ H x y v u Q I rx ry h
 obtain ⟨p,xs,rfl,hq,fx,fs,q⟩:=h
 cases ry
 rcases hq with hq | hq
 ·obtain ⟨its,r,pl,hz⟩:=I.list hq
  refine SeqAt.in_listAt (eqU x) pl.isList (fun w hw=>lD rx fx r fs w (by simpa using hw)) ⟨.bl _,H,I,rfl,?_⟩
  rw [show its.toArray.any (eqU x)=its.any (eqU x) by simp,oj r fs]
  exact q
 ·obtain ⟨its,r,pl,hz⟩:=I.tuple hq
  refine SeqAt.in_tupleAt (eqU x) pl (fun w hw=>lD rx fx r fs w (by simpa using hw)) ⟨.bl _,H,I,rfl,?_⟩
  rw [show its.toArray.any (eqU x)=its.any (eqU x) by simp,oj r fs]
  exact q
theorem aU:bJ X (.builtin "len") (fun xs H Q=>∃ p ys,xs=[.ref p]∧(SqL X.K H p ys∨SqT X.K H p ys)∧Q (.int ys.length) H):=by
 intro pins s σ H xs us Q I r h
 obtain ⟨p,ys,rfl,hq,q⟩:=h
 obtain ⟨u,rfl,rx⟩:=cU r
 cases rx
 have hn:=jD
 rcases hq with hq | hq
 ·obtain ⟨its,r',pl,hz⟩:=I.list hq
  have hlen:=r'.length
  exact Calls.call_len_list pl.isList (by simp only [List.size_toArray]<;>omega) ⟨.int ys.length,H,I.tok _,⟨s.toks+1,by rw [List.size_toArray,hlen]⟩,q⟩
 ·obtain ⟨its,r',pl,hz⟩:=I.tuple hq
  have hlen:=r'.length
  exact len_tuple pl (by simp only [List.size_toArray]<;>omega) ⟨.int ys.length,H,I.tok _,⟨s.toks+1,by rw [List.size_toArray,hlen]⟩,q⟩
theorem dN:bJ X (.builtin "len") (fun xs H Q=>∃ z,xs=[.str z]∧z.length≤sizeLine∧Q (.int z.length) H):=by
 intro pins s σ H xs us Q I r h
 obtain ⟨z,rfl,hz,q⟩:=h
 obtain ⟨u,rfl,t,rfl⟩:=cU r
 have hn:=jD
 exact len_str (by omega) ⟨.int z.length,H,I.tok _,⟨_,rfl⟩,q⟩
theorem bJ.or {f:Value} {r r':List V→Hp→VK→Prop} (h:bJ X f r) (h':bJ X f r'):bJ X f (fun xs H Q=>r xs H Q∨r' xs H Q):=by
 intro pins s σ H xs us Q I rs q
 rcases q with q | q
 ·exact h pins s σ H xs us Q I rs q
 ·exact h' pins s σ H xs us Q I rs q
theorem nO:bJ X (.type "list") (fun xs H Q=>∃ p ys,xs=[.ref p]∧(SqL X.K H p ys∨SqT X.K H p ys)∧∀ l,H l=none→Q (.ref l) (upd H l (.lst ys))):=by
 intro pins s σ H xs us Q I r h
 obtain ⟨p,ys,rfl,hq,q⟩:=h
 obtain ⟨u,rfl,rx⟩:=cU r
 cases rx
 have fin:∀ (its:List Value),aK ys its→ys.length≤sizeLine→∀ (h':Heap) (c':Nat),(∀ b o',s.heap.get? b=some o'→h'.get? b=some o') →
   h'.get? s.heap.objs.size=some { cls:=.type "list",dict:=none,data:=.seq its.toArray c',slots:=#[] }→EP X pins σ Q (.ref s.heap.objs.size) { s with heap:=h' }:=fun its r' hz h' c' kp e =>
  ⟨.ref s.heap.objs.size,_,I.laid (t':=s.toks) kp (Nat.le_refl _) (show bR X.prog X.w _ h' _ (.lst ys) from ⟨hz,its,c',r',e⟩),rfl,q _ (I.hok.fresh (Nat.le_refl _))⟩
 rcases hq with hq | hq
 ·obtain ⟨its,r',pl,hz⟩:=I.list hq
  have hlen:=r'.length
  obtain ⟨o,ho,hc,n,hd⟩:=pl.isList
  exact call_list_seq p (.inl rfl) ho hc hd (fun h' c' kp e=>fin its r' hz h' c' kp e) (by simp only [List.size_toArray]<;>omega)
 ·obtain ⟨its,r',pl,hz⟩:=I.tuple hq
  have hlen:=r'.length
  obtain ⟨o,ho,hc,n,hd⟩:=pl
  exact call_list_seq p (.inr rfl) ho hc hd (fun h' c' kp e=>fin its r' hz h' c' kp e) (by simp only [List.size_toArray]<;>omega)
theorem bv:bJ X (.type "tuple") (fun xs H Q=>∃ p ys,xs=[.ref p]∧((SqL X.K H p ys∧∀ l,H l=none→Q (.ref l) (upd H l (.tup ys)))∨(SqT X.K H p ys∧Q (.ref p) H))):=by
 intro pins s σ H xs us Q I r h
 obtain ⟨p,ys,rfl,h⟩:=h
 obtain ⟨u,rfl,rx⟩:=cU r
 cases rx
 rcases h with ⟨hq,q⟩ | ⟨hq,q⟩
 ·obtain ⟨its,r',pl,hz⟩:=I.list hq
  have hlen:=r'.length
  refine call_tuple_list pl.isList (fun h' kp=>?_) (by simp only [List.size_toArray]<;>omega)
  have I1:Inv X pins σ H { s with heap:=h' }:=I.kept (t':=s.toks) kp
  have I2:Inv X pins σ (upd H h'.objs.size (.tup ys)) { s with heap:=h'.push { cls:=.type "tuple",data:=.seq its.toArray } } :=
   I1.laid (t':=s.toks) (fun b o e=>Heap.get?_push_of_some _ e) (Nat.le_refl _) (show bR X.prog X.w _ _ _ (.tup ys) from ⟨hz,its,r',IsTup.new _ _,_,Heap.get?_push_size _ rfl,rfl⟩)
  exact ⟨.ref h'.objs.size,_,I2,rfl,q _ (I1.hok.fresh (Nat.le_refl _))⟩
 ·obtain ⟨its,r',pl,hz⟩:=I.tuple hq
  exact call_tuple_same pl ⟨.ref p,H,I,rfl,q⟩
def tyV (K:Frag) (T:String) (x:V) (H:Hp):Prop:=match x with
 | .str _=>T = "str"
 | .int _=>T = "int"
 | .ref p=>(T = "list"∧∃ xs,SqL K H p xs)∨(T = "tuple"∧∃ o,K.lookup p=some o∧o.cls=.type "tuple"∧o.dict=none) ∨
   (T = "dict"∧((∃ kvs,H p=some (.dK kvs))∨∃ kvs,H p=some (.dT kvs)))∨(T = "set"∧∃ S n,H p=some (.set S n))
 | _=>False
theorem uZ {pins:List (Addr×Obj)} {σ:St} {H:Hp} {s:Shared} {T:String} {x:V} {v:Value} (I:Inv X pins σ H s) (r:br x v) (ty:tyV X.K T x H) :
  s.TypeIs v T∧∀ a,v=.ref a→∃ ob,s.heap.get? a=some ob∧ob.dict=none:=by
 cases x with
 | str z =>
  obtain ⟨t,rfl⟩:=r
  cases (show T = "str" from ty)
  exact ⟨typeIs_str s z t,fun _ e=>nomatch e⟩
 | int i =>
  obtain ⟨t,rfl⟩:=r
  cases (show T = "int" from ty)
  exact ⟨typeIs_int s i t,fun _ e=>nomatch e⟩
 | ref p =>
  cases r
  rcases ty with ⟨rfl,xs,hq⟩ | ⟨rfl,o,hk,hc,hd⟩ | ⟨rfl,hk⟩ | ⟨rfl,S,n,hk⟩
  ·obtain ⟨its,_,pl,_⟩:=I.list hq
   refine ⟨pl.isList.typeIs,fun a e=>?_⟩
   cases e
   obtain ⟨o,n,e,c,hd,_⟩:=pl
   exact ⟨o,e,hd⟩
  ·refine ⟨⟨o,I.kIn p o hk,hc⟩,fun a e=>?_⟩
   cases e
   exact ⟨o,I.kIn _ o hk,hd⟩
  ·have z:∃ o,s.heap.get? p=some o∧o.ExactDict:=by
    rcases hk with ⟨kvs,hk⟩ | ⟨kvs,hk⟩
    ·obtain ⟨_,_,_,_,o,_,_,e,ex,_⟩:=I.hok p _ hk
     exact ⟨o,e,ex⟩
    ·obtain ⟨_,_,_,_,o,_,_,e,ex,_⟩:=I.hok p _ hk
     exact ⟨o,e,ex⟩
   obtain ⟨o,e,ex⟩:=z
   refine ⟨⟨o,e,ex.1⟩,fun a e2=>?_⟩
   cases e2
   exact ⟨o,e,ex.2.1⟩
  ·obtain ⟨o,_,_,_,e,ex,_⟩:=I.hok p _ hk
   refine ⟨⟨o,e,ex.1⟩,fun a e2=>?_⟩
   cases e2
   exact ⟨o,e,ex.2.1⟩
 | _=>exact False.elim ty
def Ch (K:Frag) (T:String) (r:V→List V→Hp→VK→Prop) (to:TE):TE:=fun σ H Q=>to σ H fun x H1=>tyV K T x H1∧r x [] H1 Q
def tBM (K:Frag) (T:String) (r:V→List V→Hp→VK→Prop) (to:TE) (t:TA):TE:=fun σ H Q=>to σ H fun x H1=>tyV K T x H1∧t σ H1 fun xs H2=>r x xs H2 Q
variable {o e:Expr} {es:List Expr} {to:TE} {t:TA} {name:Str} {apos cpos:Pos} {T id:String} {r:V→List V→Hp→VK→Prop}
theorem Ay (pa:PlainAttrs T) (slot:Slot T name id) (hty:typeOf (.builtin id)=pure (.type "method_descriptor")) (hm:MtR X id r) (ho:PE X o to)
  (hbase:attributeBase o name X.env (eval o X.env)=eval o X.env:=by rfl) (hline:(apos.endLine==cpos.line)=true:=by rfl):PE X (.Call (.Attribute o name apos) [] [] cpos) (Ch X.K T r to):=by
 intro pins s σ H Q I h
 refine wpAny_Call_method0_late hbase hline (thn (ho pins s σ H _ I h) fun v s1 ⟨x,H1,I1,r1,ty,q1⟩=>?_)
 obtain ⟨h1,h2⟩:=uZ I1 r1 ty
 exact ⟨T,id,pa,slot,hty,h1,h2,Calls.callWith_builtin rfl (PySem.evalArgs_none (hm pins s1 σ H1 x [] v [] Q I1 r1 .nil q1))⟩
theorem dB (pa:PlainAttrs T) (slot:Slot T name id) (hty:typeOf (.builtin id)=pure (.type "method_descriptor")) (hm:MtR X id r) (ho:PE X o to) (ha:PA X (e::es) t)
  (hbase:attributeBase o name X.env (eval o X.env)=eval o X.env:=by rfl)
  (hfew:((backTo cpos (starEach (e::es) X.env)).all (fun x=>!x.1)&&(backToKw cpos (keywordEach [] X.env)).all (fun x=>x.1.isSome)
  &&decide ((e::es).length+([]:List Keyword).length+(if ([]:List Keyword).isEmpty then 0 else 1)<30))=true:=by exact cH rfl rfl)
  (hline:(apos.endLine==cpos.line)=true:=by rfl) (hs:starEach (e::es) X.env=(false,eval e X.env)::starEach es X.env:=by exact ac rfl) (hplain:(backTo cpos (starEach es X.env)).any (·.1)=false:=by exact aj rfl) :
  PE X (.Call (.Attribute o name apos) (e::es) [] cpos) (tBM X.K T r to t):=by
 intro pins s σ H Q I h
 refine wpAny_Call_method_late hbase hfew hline rfl (thn (ho pins s σ H _ I h) fun v s1 ⟨x,H1,I1,r1,ty,q1⟩=>?_)
 obtain ⟨h1,h2⟩:=uZ I1 r1 ty
 refine ⟨T,id,pa,slot,hty,h1,h2,?_⟩
 have hA:=ha cpos pins s1 σ H1 _ I1 q1
 rw [hs] at hA ⊢
 refine Calls.callWith_builtin (by show (false||(backTo cpos (starEach es X.env)).any (·.1))=false; rw [hplain]<;>rfl) (Calls.evalArgs_plain ?_)
 exact thn hA fun us s2 ⟨vs,H2,I2,r2,q2⟩=>hm pins s2 σ H2 x vs v us Q I2 r1 r2 q2
end
open PySem PySem.Spec PyProof.Rows
def MtM (X:Cx) (id:String) (r:V→List V→Hp→VK→Prop):Prop :=
 ∀ (pins:List (Addr×Obj)) (s:Shared) (σ:St) (H:Hp) (x:V) (xs:List V) (v:Value) (us:List Value) (Q:VK),Inv X pins σ H s→br x v→aK xs us→r x xs H Q →
  wpAny (model X.prog X.w) X.A (call (.builtin id) (v::us)) (EP X pins σ Q) X.xe s
theorem aK.one:∀ {x:V} {us:List Value},aK [x] us→∃ u,us=[u]∧br x u
 | _,_,.cons r .nil=>⟨_,rfl,r⟩
theorem aK.zero:∀ {us:List Value},aK [] us→us=[]
 | _,.nil=>rfl
theorem aK.eraseIdx:∀ {xs:List V} {us:List Value} (i:Nat),aK xs us→aK (xs.eraseIdx i) (us.eraseIdx i)
 | _,_,_,.nil=>.nil
 | _,_,0,.cons _ t=>t
 | _,_,i+1,.cons r t=>.cons r (aK.eraseIdx i t)
theorem aK.reverse {xs:List V} {us:List Value} (h:aK xs us):aK xs.reverse us.reverse:=by
 induction h with
 | nil=>exact .nil
 | cons r t ih=>rw [List.reverse_cons,List.reverse_cons]; exact aK.append ih (.cons r .nil)
theorem aK.rep {xs:List V} {us:List Value} (h:aK xs us):∀ k:Nat,aK (List.replicate k xs).flatten (List.replicate k us).flatten
 | 0=>.nil
 | k+1=>by
  rw [List.replicate_succ,List.replicate_succ,List.flatten_cons,List.flatten_cons]
  exact aK.append h (aK.rep h k)
theorem mL {α:Type}:∀ (l:List α) (i:Nat),(l.eraseIdx i).length≤l.length
 | [],_=>Nat.le_refl _
 | _::_,0=>Nat.le_succ _
 | _::r,i+1=>Nat.succ_le_succ (mL r i)
theorem mU (its:List Value):∀ (k:Nat) (acc:List Value),
  List.foldl (fun x1 x2=>x1++x2) acc.toArray (List.replicate k its.toArray)=(acc++(List.replicate k its).flatten).toArray
 | 0,acc=>by simp
 | k+1,acc=>by
  have e:acc.toArray++its.toArray=(acc++its).toArray:=by simp
  have e2:(acc++its)++(List.replicate k its).flatten=acc++(List.replicate (k+1) its).flatten:=by
   rw [List.replicate_succ,List.flatten_cons,List.append_assoc]
  rw [← e2,← mU its k (acc++its),← e,List.replicate_succ,List.foldl_cons]
section
variable {X:Cx} {pins:List (Addr×Obj)} {σ:St} {H:Hp} {s:Shared} {l b:Addr} {xs ys zs:List V}
theorem Inv.lset {its its':List Value} {n:Nat} {f:Array Value→Array Value} {t':Nat} (I:Inv X pins σ H s) (hH:H l=some (.lst xs))
  (e:s.heap.get? l=some { cls:=.type "list",data:=.seq its.toArray n }) (hf:f its.toArray=its'.toArray) (hv:aK ys its') (hz:ys.length≤sizeLine) :
  Inv X pins σ (upd H l (.lst ys)) { s with heap:=s.heap.update l (Obj.mapSeq f),toks:=t' }:=by
 have q:=PySem.IsL.update e f
 rw [hf] at q
 refine I.write (x:=l) (e:=l) (by rw [hH]; exact trivial) (.inl rfl) (fun b' u hb hu=>(Heap.get?_update_other s.heap (Obj.mapSeq f) (Ne.symm hb)).trans hu) ⟨_,q⟩ ?_
 exact ⟨hz,its',_,hv,q⟩
theorem Inv.lnew {its:List Value} {t':Nat} (I:Inv X pins σ H s) (hv:aK ys its) (hz:ys.length≤sizeLine) :
  Inv X pins σ (upd H s.heap.objs.size (.lst ys)) { s with heap:=s.heap.push { cls:=.type "list",data:=.seq its.toArray },toks:=t' } :=
 I.laid (fun _ _ q=>Heap.get?_push_of_some _ q) (Nat.le_refl _) ⟨hz,its,0,hv,Heap.get?_push_size _ rfl⟩
theorem Inv.fresh (I:Inv X pins σ H s):H s.heap.objs.size=none:=I.hok.fresh (Nat.le_refl _)
theorem Inv.lstM (I:Inv X pins σ H s) (hH:H l=some (.lst xs)):xs.length≤sizeLine∧∃ (its:List Value) (n:Nat),aK xs its∧xs.length=its.length∧s.heap.get? l=some { cls:=.type "list",data:=.seq its.toArray n }:=by
 obtain ⟨z,its,n,r,e⟩:=I.hok l _ hH
 exact ⟨z,its,n,r,r.length,e⟩
theorem lS {n:Nat} (h:n≤sizeLine):Builtin.List.listTooLong n=false:=by
 unfold Builtin.List.listTooLong
 exact decide_eq_false (by omega)
end
section
variable {X:Cx}
def xM:V→List V→Hp→VK→Prop:=fun x vs H Q=>∃ l xs y,x=.ref l∧vs=[y]∧H l=some (.lst xs)∧xs.length<sizeLine∧Q .non (upd H l (.lst (xs++[y])))
theorem cZ:MtM X "list.append" xM:=by
 intro pins s σ H x vs v us Q I rx rv h
 obtain ⟨l,xs,y,rfl,rfl,hH,hz,q⟩:=h
 cases rx
 obtain ⟨u,rfl,ru⟩:=rv.one
 obtain ⟨z,its,n,r,hl,e⟩:=I.lstM hH
 refine call_meets F.slot_list_append ⟨_,e,rfl⟩ F.entry_list_append (F.args_list_append_2 _ _) (PySem.list_append l its.toArray n u (by rw [List.size_toArray]; omega)) ⟨e,?_⟩
 refine ⟨.non,_,I.lset (its':=its++[u]) hH e (by simp) (r.append (.cons ru .nil)) ?_,rfl,q⟩
 rw [List.length_append,List.length_singleton]
 omega
def xN:V→List V→Hp→VK→Prop:=fun x vs H Q=>∃ l b xs zs,x=.ref l∧vs=[.ref b]∧H l=some (.lst xs)∧H b=some (.lst zs)∧xs.length+zs.length≤sizeLine∧Q .non (upd H l (.lst (xs++zs)))
theorem dO:MtM X "list.extend" xN:=by
 intro pins s σ H x vs v us Q I rx rv h
 obtain ⟨l,b,xs,zs,rfl,rfl,hH,hB,hz,q⟩:=h
 cases rx
 obtain ⟨u,rfl,ru⟩:=rv.one
 cases ru
 obtain ⟨z,its,n,r,hl,e⟩:=I.lstM hH
 obtain ⟨z2,its2,n2,r2,hl2,e2⟩:=I.lstM hB
 have hsz:its.toArray.size+its2.toArray.size≤sizeLine:=by rw [List.size_toArray,List.size_toArray]; omega
 have hlong:¬ (!its.toArray.isEmpty&&Builtin.List.listTooLong (its.toArray.size+its2.toArray.size))=true:=by
  rw [lS hsz,Bool.and_false]
  exact Bool.false_ne_true
 refine call_meets F.slot_list_extend ⟨_,e,rfl⟩ F.entry_list_extend (F.args_list_extend_2 _ _)
  (AutoSeq1.list_extend_list_list_0 l its.toArray n b its2.toArray n2 hlong (by rw [List.size_toArray]; omega) (by omega)) ⟨e,e2,?_⟩
 refine ⟨.non,_,I.lset (its':=its++its2) hH e (by simp) (r.append r2) ?_,rfl,q⟩
 rw [List.length_append]
 omega
def Af:V→List V→Hp→VK→Prop:=fun x vs H Q=>∃ l xs i k y,x=.ref l∧vs=[.int i]∧H l=some (.lst xs)∧-(2 ^ 63)≤i∧i<2 ^ 63∧seqIndex? i xs.length=some k∧xs[k]?=some y∧Q y (upd H l (.lst (xs.eraseIdx k)))
theorem wP:MtM X "list.pop" Af:=by
 intro pins s σ H x vs v us Q I rx rv h
 obtain ⟨l,xs,i,k,y,rfl,rfl,hH,h1,h2,hk,hy,q⟩:=h
 cases rx
 obtain ⟨u,rfl,ru⟩:=rv.one
 obtain ⟨t,rfl⟩:=ru
 obtain ⟨z,its,n,r,hl,e⟩:=I.lstM hH
 obtain ⟨w,hw,rw'⟩:=r.get hy
 refine call_meets F.slot_list_pop ⟨_,e,rfl⟩ F.entry_list_pop (F.args_list_pop_2 _ _)
  (MeetsSeq.list_pop_at l its.toArray n i t k w (fitsIndex_both h1 h2) (by rw [List.size_toArray,← hl]; exact hk) (by rw [← Array.getElem?_toList]; exact hw) (by rw [List.size_toArray]; omega)) ⟨e,?_⟩
 refine ⟨y,_,I.lset (its':=its.eraseIdx k) hH e ?_ (r.eraseIdx k) ?_,rw',q⟩
 ·show its.toArray.eraseIdxIfInBounds k=(its.eraseIdx k).toArray
  rw [List.eraseIdxIfInBounds_toArray]
 ·have:=mL xs k
  omega
def uH:V→List V→Hp→VK→Prop:=fun x vs H Q=>∃ l xs,x=.ref l∧vs=[]∧H l=some (.lst xs)∧Q .non (upd H l (.lst xs.reverse))
theorem qv:MtM X "list.reverse" uH:=by
 intro pins s σ H x vs v us Q I rx rv h
 obtain ⟨l,xs,rfl,rfl,hH,q⟩:=h
 cases rx
 have hus:=rv.zero
 subst hus
 obtain ⟨z,its,n,r,hl,e⟩:=I.lstM hH
 refine call_meets F.slot_list_reverse ⟨_,e,rfl⟩ F.entry_list_reverse (F.args_list_reverse_1 _) (AutoSeq1.list_reverse_list_0 l its.toArray n (by rw [List.size_toArray]; omega)) ⟨e,?_⟩
 refine ⟨.non,_,I.lset (its':=its.reverse) hH e (by simp) r.reverse ?_,rfl,q⟩
 rw [List.length_reverse]
 omega
def Cp:R2:=fun x y H Q=>∃ l b xs zs,x=.ref l∧y=.ref b∧H l=some (.lst xs)∧H b=some (.lst zs)∧xs.length+zs.length≤sizeLine∧∀ p,H p=none→Q (.ref p) (upd H p (.lst (xs++zs)))
theorem ml:OpR X (binaryOp .Add) Cp:=by
 intro pins s σ H x y v u Q I rx ry h
 obtain ⟨l,b,xs,zs,rfl,rfl,hH,hB,hz,q⟩:=h
 cases rx
 cases ry
 obtain ⟨z,its,n,r,hl,e⟩:=I.lstM hH
 obtain ⟨z2,its2,n2,r2,hl2,e2⟩:=I.lstM hB
 refine PySem.P.add_list e e2 ?_ (by rw [List.size_toArray,List.size_toArray]; omega)
 have ea:its.toArray++its2.toArray=(its++its2).toArray:=by simp
 rw [ea]
 exact ⟨.ref _,_,I.lnew (t':=s.toks) (r.append r2) (by rw [List.length_append]; omega),rfl,q _ I.fresh⟩
def Ci:R2:=fun x y H Q=>∃ l k xs,x=.ref l∧y=.int k∧H l=some (.lst xs)∧-(2 ^ 63)≤k∧k<2 ^ 63∧xs.length*k.toNat≤sizeLine ∧
 ∀ p,H p=none→Q (.ref p) (upd H p (.lst (List.replicate k.toNat xs).flatten))
theorem xO {α:Type} (xs:List α) (k:Nat):(List.replicate k xs).flatten.length=k*xs.length:=by
 induction k with
 | zero=>simp
 | succ k ih=>rw [List.replicate_succ,List.flatten_cons,List.length_append,ih,Nat.succ_mul,Nat.add_comm]
theorem zW:OpR X (binaryOp .Mult) Ci:=by
 intro pins s σ H x y v u Q I rx ry h
 obtain ⟨l,k,xs,rfl,rfl,hH,h1,h2,hz,q⟩:=h
 cases rx
 obtain ⟨t,rfl⟩:=ry
 obtain ⟨z,its,n,r,hl,e⟩:=I.lstM hH
 have hlen:its.toArray.size*k.toNat≤sizeLine:=by rw [List.size_toArray,← hl]; exact hz
 have hcap:¬ its.toArray.size*k.toNat > (2 ^ 63 - 1) / 8:=by
  have:(sizeLine:Nat)≤(2 ^ 63 - 1) / 8:=by decide
  omega
 have hfit:¬ (!Builtin.List.listFitsIndex k)=true:=by
  rw [fitsIndex_both h1 h2]
  exact Bool.false_ne_true
 have hlong:¬ Builtin.List.listTooLong (its.toArray.size*k.toNat)=true:=by
  rw [lS hlen]
  exact Bool.false_ne_true
 have hnew:List.foldl (fun x1 x2=>x1++x2) #[] (List.replicate (if its.toArray.isEmpty=true then 0 else k.toNat) its.toArray)=(List.replicate k.toNat its).flatten.toArray:=by
  have f0:∀ m:Nat,List.foldl (fun x1 x2=>x1++x2) #[] (List.replicate m its.toArray)=(List.replicate m its).flatten.toArray:=fun m=>by
   have:=mU its m []
   rw [List.nil_append] at this
   exact this
  rw [f0]
  cases its with
  | nil=>simp
  | cons a r'=>rw [if_neg (by simp)]
 refine wpAny_binaryOp_repeat_ref (T := "list") (U := "int") (by decide) ⟨_,e,rfl⟩ (fun s'=>typeIs_int s' k t) noFill_list_mul F.fills_int_mul F.slot_int_rmul repeat_list F.slot_int_index.lookup
  (call_meets F.slot_int_rmul (typeIs_int s k t) F.entry_int_rmul (F.args_int_rmul_2 _ _) (int___rmul___int_list k t l its.toArray n)
   ⟨e,rfl,⟨_,e,rfl⟩,call_meets F.slot_list_mul ⟨_,e,rfl⟩ F.entry_list_mul (F.args_list_mul_2 _ _) (AutoListH.list___mul___list_int_3 l its.toArray n k t hfit hcap hlong) ⟨e,?_⟩⟩)
 rw [hnew]
 exact ⟨.ref _,_,I.lnew (t':=s.toks) (r.rep k.toNat) (by rw [xO,Nat.mul_comm]; exact hz),rfl,q _ I.fresh⟩
end
section
variable {prog:Program} {w:World} {A:Around} {E:Value→Shared→Prop} {s:Shared}
end
section
variable {X:Cx}
end
end L2
namespace Att
open PySem PySem.W PySem.Calls PyProof.Rows
theorem kg {P:Params} {h:Heap}:∀ (ns:List Int) (vs:List Value),WellAll P h vs (ns.map WData.int)→IntsAre vs ns:=by
 intro ns
 induction ns with
 | nil =>
  intro vs w
  rw [List.map_nil] at w
  cases w
  exact .nil
 | cons n ns ih =>
  intro vs w
  rw [List.map_cons] at w
  cases w with
  | cons a b =>
   cases a
   exact .cons _ _ (ih _ b)
theorem uc {l:OpenLaw} {n:Nat} (hn:l.most=some n) {P:Params} {h:Heap} {args:List WData} {vals:List Value}
  (hpre:l.row.toRowW.claim.pre args=true) (hwl:WellAll P h vals args) :
  ∃ a vs ns,vals=[Value.ref a]∧args=[WData.list (ns.map WData.int)]∧h.get? a=some { cls:=.type "list",data:=.seq vs.toArray }∧IntsAre vs ns∧ns.length≤n:=by
 have hsh:WShape.hasAll [] args [.list .int]=true:=(pre_splitW hpre).1
 have hc:l.pre.holds [] { args:=args }=true:=(pre_splitW hpre).2
 obtain ⟨d,r,rfl,h1,h2⟩:=hasAllW_cons hsh
 obtain rfl:=hasAllW_nil h2
 obtain ⟨xs,rfl,h3⟩:=hasW_list h1
 obtain ⟨ns,rfl⟩:=items_int h3
 have hlen:ns.length≤n:=by
  unfold OpenLaw.pre at hc
  have h4:(WTm.not (.lt (.lit (.int (n:Int))) (.len (.arg 0)))).holds [] { args:=[.list (ns.map .int)] }=true:=by
   have h4:=(holds_andW hc).1
   rw [hn] at h4
   exact h4
  have h5:=condW_of h4 (w_not (w_lt w_lit (w_len_list (w_arg rfl))))
  rw [List.length_map] at h5
  refine Nat.le_of_not_lt fun q=>?_
  have q':(n:Int)<((ns.length:Nat):Int):=by omega
  first
   | (rw [decide_eq_true q'] at h5; exact absurd h5 (by decide))
   | (simp at h5; omega)
 cases hwl with
 | cons w1 w2 =>
  cases w2
  cases w1 with
  | list ho hall=>exact ⟨_,_,ns,rfl,rfl,ho,kg ns _ hall,hlen⟩
theorem tL (l:OpenLaw) (args:List WData):l.row.toRowW.claim.post args (.bool true) args=true :=
 postW_of (r:=l.row.toRowW) (X:=(true==true))
  (show WShape.has [] (.bool true) .bool=true by first | rfl | decide | simp [WShape.has,WShape.arms,WShape.armsAll])
  (show (WTm.eq .res (.lit (.bool true))).value [] { args:=args,res:=some (.bool true),after:=args }=some (.bool (true==true)) from w_eq_bool (w_res rfl) w_lit) rfl
theorem attach_call {l:OpenLaw} {n:Nat} {q:Program} {loose:List Str} {XP:(Str→Option Value)→Heap→Prop} {YP:World→Heap→Prop} {d:DefRec}
  (hn:l.most=some n) (hdf:d.params.defaults=[])
  (call:∀ (w:World) (s₀ s₁:Shared) (mg mb:Str→Option Value) (fa:Addr) (o:Obj) (pm cd doc:Value) (a:Addr) (vs:List Value) (ns:List Int),
   Ground q loose [] XP w s₀ mg mb s₁.heap→YP w s₁.heap →
   s₁.heap.get? fa=some o→o.data=.func (docDef d.name d.params d.body d.scope pm cd doc)→s₁.heap.CodeRec cd d.name→mg d.name=some (.ref fa) →
   s₁.heap.get? a=some { cls:=.type "list",data:=.seq vs.toArray }→IntsAre vs ns→ns.length≤n→s₁.gens=#[] →
   codeAny (model l.prog w) callerA (.call (.ref fa) ⟨[.ref a],[]⟩) (fun r s'=>r=.ok (.ret (.bool true))∧OldK s₁.heap s'.heap∧s'.os=s₁.os∧AllBare s'.gens) s₁) :
  WalkO q loose XP YP l.row.toRowW d [] (fun f vs=>PySem.call f vs):=by
 intro w s₀ s₁ mg mb G Y fa o pm cd doc dV kV ho hd hcd hD hmg hg args vals as hpre hlay hrd hwl hlo
 obtain rfl:dV=.none:=Dflts.none hD hdf
 obtain rfl:kV=.none:=Dflts.noKw hD
 obtain ⟨a,vs,ns,rfl,rfl,hobj,hints,hlen⟩:=uc hn hpre hwl
 refine enter_call (codeAny_mono (call w s₀ s₁ mg mb fa o pm cd doc a vs ns G Y ho (fd_plain hd) hcd hmg hobj hints hlen hg) fun r s' hq=>?_)
 obtain ⟨rfl,h2,h3,h4⟩:=hq
 exact ⟨.inl ⟨.bool true,.bool true,[],rfl,fun _=>rfl,.bool true,tL l _,fun _=>⟨List.Pairwise.nil,fun _ hm=>(nomatch hm)⟩⟩,h2,h3,h4⟩
section
variable {prog:Program} {w:World} {A:Around} {E:Value→Shared→Prop} {s:Shared} {K:Frag}
end
end Att
namespace L2
open PySem PySem.Spec PyProof.Rows
theorem mM:∀ {vs:List Value} {ns:List Int},IntsAre vs ns→aK (ns.map V.int) vs
 | _,_,.nil=>.nil
 | _,_,.cons n t h=>.cons ⟨t,rfl⟩ (mM h)
end L2
/- THE LAST THEOREM (shape; LID,My.* are yours):
  My.Adr: a structure of the addresses that your layer names (classes,functions); My.Txt K t: a structure (Prop) of the equations over K;
  My.txt_mk:{K} {implicit addresses ..} (e1:nsIn K mainGlobals "law"=some (some (.ref f))) (e2:K.lookup f=some ⟨oc,od,.func (fnOf "law" "law" params body scope dV kV doc pm an cdv ct),sl⟩) (e3:codeIn K cdv "law"=true) ..:∃ t,My.Txt K t
(the tactic k_is has no namespace: write k_is) -/
namespace L2
open PySem PySem.Spec PyProof.Rows
def defArgs (s:Stmt):Arguments:=match s with
 | .FunctionDef _ a _ _ _ _ _ _ _ _=>a
 | _=>{ posonlyargs:=[],args:=[],vararg:=none,kwonlyargs:=[],kw_defaults:=[],kwarg:=none,defaults:=[] }
def defBody (s:Stmt):List Stmt:=match s with
 | .FunctionDef _ _ b _ _ _ _ _ _ _=>b
 | _=>[]
def defScope (s:Stmt):Scope:=match s with
 | .FunctionDef _ _ _ _ _ _ sc _ _ _=>sc
 | _=>{ kind:=.function,names:=[],isGenerator:=false,isCoroutine:=false }
abbrev CX0:CXT:=fun _ _ _ _ _ _=>False
abbrev E0:XK:=fun _ _ _=>False
theorem aE {X:Cx}:qm CX0 X E0:=fun _ _ _ _ _ _ _ h=>h.elim
structure Fun (K:Frag) (x qual:Str) (st:Stmt) (f:Addr) (fd:FuncData):Prop where
 ex:∃ (oc:Value) (od:Option Addr) (kV doc pm:Value) (an:Option Addr) (cdv ct:Value) (osl:Array (Option Value)),
  fd=PySem.W.fnOf x qual (defArgs st) (defBody st) (defScope st) .none kV doc pm an cdv ct∧K.lookup f=some ⟨oc,od,.func fd,osl⟩∧PySem.W.codeIn K cdv qual=true
 kp:keepIn K (.ref f)=true
section
variable {P:Program} {w:World} {K:Frag} {mg:Str→Option Value} {base:Heap}
theorem Fun.ok {x qual:Str} {st:Stmt} {f:Addr} {fd:FuncData} {N ps:List Str} {k:Nat} {sp:Sp} (F:Fun K x qual st f fd) (S:aF N ps (defScope st)) (len:∀ vs H Q E,sp vs H Q E→vs.length=ps.length)
  (hbody:∀ (cdv:Value) (A:Around) (outer:List Env) (s:Shared) (H:Hp) (vs:List V) (Q:VK) (E:XK),cS k (A.deeper (envOfC qual (defScope st) s.heap.objs.size f cdv))→sp vs H Q E →
   ∃ t,PSs (ms CX0 P w K mg base N qual (defScope st) f cdv A outer s H E).nox (defBody st) t∧t { nx:=fun _ H'=>Q .non H',rt:=Q } (fe N vs) H):bg P w K mg base CX0 (k+1) f fd ps sp:=by
 obtain ⟨oc,od,kV,doc,pm,an,cdv,ct,osl,rfl,lk,hcd⟩:=F.ex
 refine yw lk hcd S len fun A outer s H vs Q E hr hsp=>?_
 obtain ⟨t,h,q⟩:=hbody cdv A outer s H vs Q E hr hsp
 exact ⟨t,h.nox,q⟩
theorem Fun.binds {x qual:Str} {st:Stmt} {f:Addr} {fd:FuncData} {ps:List Str} (F:Fun K x qual st f fd)
  (h:∀ (kV doc pm:Value) (an:Option Addr) (cdv ct:Value) (us:List Value),us.length=ps.length→bindArgs (PySem.W.fnOf x qual (defArgs st) (defBody st) (defScope st) .none kV doc pm an cdv ct) ⟨us,[]⟩=pure (ps.zip us)):dA K fd ps []:=by
 obtain ⟨oc,od,kV,doc,pm,an,cdv,ct,osl,rfl,lk,hcd⟩:=F.ex
 exact .all (h kV doc pm an cdv ct)
theorem zO {x qual:Str} {st:Stmt} {f:Addr} {oc:Value} {od an:Option Addr} {osl:Array (Option Value)} {kV doc pm cdv ct:Value} (l:K.lookup f=some ⟨oc,od,.func (PySem.W.fnOf x qual (defArgs st) (defBody st) (defScope st) .none kV doc pm an cdv ct),osl⟩)
  (c:PySem.W.codeIn K cdv qual=true) (k:keepIn K (.ref f)=true):Fun K x qual st f (PySem.W.fnOf x qual (defArgs st) (defBody st) (defScope st) .none kV doc pm an cdv ct):=⟨⟨oc,od,kV,doc,pm,an,cdv,ct,osl,rfl,l,c⟩,k⟩
end
theorem aC {n:Nat} (h:n≤1000):n<sizeLine:=Nat.lt_of_le_of_lt h (by decide)
section
variable {X:Cx}
theorem pv (i:Nat) {x:Str} {pos:Pos} (hN:X.N[i]?=some x:=by rfl) (hv:Vis X.env.scope x:=by first | exact Or.inl rfl | exact Or.inr (Or.inl rfl) | exact Or.inr (Or.inr rfl)) (hd:(x==("__debug__":Str))=false:=by decide)
  (hcd:(x==("__classdict__":Str))=false:=by decide):PE X (.Name x pos) (Bz i):=Ap hN hv hd hcd
end
theorem om {A B:Prop} (h:B):if false=true then A else B:=by
 rw [if_neg Bool.false_ne_true]
 exact h
theorem ww {A B:Prop} (h:A):if true=true then A else B:=by
 rw [if_pos rfl]
 exact h
theorem bO {c A B:Prop} [Decidable c] (h1:c→A) (h2:¬ c→B):if c then A else B:=by
 by_cases h:c
 ·rw [if_pos h]
  exact h1 h
 ·rw [if_neg h]
  exact h2 h
def av (H H':Hp):Prop:=∀ b o,H b=some o→H' b=some o
theorem av.refl (H:Hp):av H H:=fun _ _ h=>h
theorem av.trans {H H1 H2:Hp} (a:av H H1) (b:av H1 H2):av H H2:=fun c o h=>b c o (a c o h)
theorem av.free {H H':Hp} (e:av H H') {l:Addr} (h:H' l=Option.none):H l=Option.none:=by
 cases q:H l with
 | none=>rfl
 | some o =>
  rw [e l o q] at h
  cases h
open PySem PySem.Spec PyProof.Rows
section
variable {prog:Program} {w:World} {A:Around} {R:Result→Shared→Prop} {s:Shared}
theorem oY {elt target iter:Expr} {ifs:List Expr} {scope:Scope} {pos:Pos} {it acc:Value} {env:Env} (I:Nat→Shared→Prop)
  (turn:∀ n s,I n s→wpAny (model prog w) A (pyNext it) (fun r s₁=>match r with
   | none=>R (.ok .next) s₁
   | some v=>wpAny (model prog w) A (letOwnedTupleGo target it v) (fun _ s₁'=>wpAny (model prog w) A (assign target env v) (fun _ s₂ =>
     wpAny (model prog w) A (forIn ifs true fun c r=>if r=true then do let ok ← isTrue c env (eval c env); pure (ForInStep.yield ok) else pure (ForInStep.yield r)) (fun ok s₃ =>
      if ok=true then wpAny (model prog w) A (eval elt env) (fun x s₄ =>
       wpAny (model prog w) A (call (.builtin "list.append") [acc,x]) (fun _ s₅=>∃ m,m<n∧I m s₅) (fun _ _=>False) s₄) (fun _ _=>False) s₃
      else ∃ m,m<n∧I m s₃) (fun _ _=>False) s₂) (fun _ _=>False) s₁') (fun _ _=>False) s₁) (fun _ _=>False) s)
  (n:Nat) (h:I n s) :
  codeAny (model prog w) A (.compLoop (.ListComp elt [⟨target,iter,ifs,0⟩] scope pos) 0 it acc env) R s:=by
 refine codeAny_loop rfl I (fun n s hI=>?_) n h
 show wpAny _ A ((compTurn (.ListComp elt [⟨target,iter,ifs,0⟩] scope pos) 0 it acc env).onRaise (fun x=>do noteFrame x env; theTreesLotGoes x)) _ _ s
 refine wpAny_noted ?_
 rw [compTurn_list]
 refine wpAny_bind (wpAny_standAt (wpAny_bind (wpAny_mono (turn n s hI) (fun r s₁ h₁=>?_) fun _ _ h'=>h'.elim)))
 cases r with
 | none=>exact wpAny_pure h₁
 | some v =>
  refine wpAny_bind (wpAny_mono h₁ (fun _ s₁' h₁'=>?_) fun _ _ h'=>h'.elim)
  refine wpAny_bind (wpAny_mono h₁' (fun _ s₂ h₂=>wpAny_bind (wpAny_mono h₂ (fun ok s₃ h₃=>?_) fun _ _ h'=>h'.elim)) fun _ _ h'=>h'.elim)
  cases ok with
  | false=>exact wpAny_pure ⟨rfl,h₃⟩
  | true =>
   exact wpAny_bind (wpAny_bind (wpAny_mono h₃ (fun x s₄ h₄=>wpAny_bind (wpAny_mono h₄ (fun _ s₅ h₅=>wpAny_pure (wpAny_pure ⟨rfl,h₅⟩)) fun _ _ h'=>h'.elim)) fun _ _ h'=>h'.elim))
end
def clo (env:Env):List (Str×NameKind)→List (Str×Addr)→List (Str×Addr)
 | [],cs=>cs
 | (n,k)::r,cs=>if k==.free then (match env.cells.lookup n with
  | some c=>clo env r ((n,c)::cs)
  | none=>clo env r cs) else clo env r cs
theorem gq {scope:Scope} {env:Env} (h:∀ x∈scope.names,x.2=.free→∃ c,env.cells.lookup x.1=some c):closureFor scope env=pure (clo env scope.names []):=by
 have go:∀ (l:List (Str×NameKind)) (cs:List (Str×Addr)),(∀ x∈l,x.2=.free→∃ c,env.cells.lookup x.1=some c) →
   (forIn (m:=Sem) l cs fun x r=>if (x.2==NameKind.free)=true then do let c ← cellOf env x.1; pure (ForInStep.yield ((x.1,c)::r)) else pure (ForInStep.yield r))=pure (clo env l cs):=by
  intro l
  induction l with
  | nil=>intro cs _; rfl
  | cons x r ih =>
   intro cs hx
   obtain ⟨n,k⟩:=x
   rw [List.forIn_cons]
   unfold clo
   cases hk:k==NameKind.free with
   | true =>
    obtain ⟨c,hc⟩:=hx (n,k) List.mem_cons_self (by simpa using hk)
    simp only [hk,if_true,cellOf,hc]
    exact ih _ fun y hy=>hx y (List.mem_cons_of_mem _ hy)
   | false =>
    simp only [hk,Bool.false_eq_true,if_false]
    exact ih _ fun y hy=>hx y (List.mem_cons_of_mem _ hy)
 have e:=go scope.names [] h
 unfold closureFor
 exact congrArg (fun t:Sem (List (Str×Addr))=>t >>= fun r=>pure r) e
theorem fI {env:Env}:∀ (l:List (Str×NameKind)) (cs:List (Str×Addr)),(∀ p∈cs,env.cells.lookup p.1=some p.2)→∀ p∈clo env l cs,env.cells.lookup p.1=some p.2
 | [],cs,h,p,hp=>h p hp
 | (n,k)::r,cs,h,p,hp=>by
  unfold clo at hp
  split at hp
  ·split at hp
   ·next c hc =>
    refine fI r _ (fun q hq=>?_) p hp
    rcases List.mem_cons.mp hq with e | hq
    ·subst e; exact hc
    ·exact h q hq
   ·exact fI r cs h p hp
  ·exact fI r cs h p hp
theorem iS {env:Env}:∀ (l:List (Str×NameKind)) (cs:List (Str×Addr)),∀ p∈cs,p∈clo env l cs
 | [],_,_,hp=>hp
 | (n,k)::r,cs,p,hp=>by
  unfold clo
  split
  ·split
   ·exact iS r _ p (List.mem_cons_of_mem _ hp)
   ·exact iS r _ p hp
  ·exact iS r _ p hp
theorem kI {env:Env} {x:Str} {c:Addr} (hc:env.cells.lookup x=some c):∀ (l:List (Str×NameKind)) (cs:List (Str×Addr)),(x,NameKind.free)∈l→(x,c)∈clo env l cs
 | [],_,h=>nomatch h
 | (n,k)::r,cs,h=>by
  unfold clo
  rcases List.mem_cons.mp h with e | h
  ·cases e
   simp only [beq_self_eq_true,if_true,hc]
   exact iS r _ _ List.mem_cons_self
  ·split
   ·split
    ·exact kI hc r _ h
    ·exact kI hc r _ h
   ·exact kI hc r _ h
theorem eO {cs:List (Str×Addr)} {f:Str→Option Addr} (h:∀ p∈cs,f p.1=some p.2) {x:Str} {c:Addr} (e:cs.lookup x=some c):f x=some c:=h _ (PySem.mem_of_lookup e)
theorem lq {x:Str} {c:Addr}:∀ {cs:List (Str×Addr)},(∀ p∈cs,p.1=x→p.2=c)→(x,c)∈cs→cs.lookup x=some c
 | [],_,h=>nomatch h
 | (n,d)::r,ha,h=>by
  rw [List.lookup_cons]
  cases e:x==n with
  | true =>
   have e':x=n:=by simpa using e
   have:=ha (n,d) List.mem_cons_self e'.symm
   simp at this ⊢
   exact this
  | false =>
   rcases List.mem_cons.mp h with z | h
   ·cases z; simp at e
   ·exact lq (fun p hp=>ha p (List.mem_cons_of_mem _ hp)) h
theorem kP {env:Env} {names:List (Str×NameKind)} {x:Str} {c:Addr} (hc:env.cells.lookup x=some c) (h:(x,NameKind.free)∈names):(clo env names []).lookup x=some c :=
 lq (fun p hp e=>by have:=fI names [] (fun _ z=>nomatch z) p hp; rw [e,hc] at this; exact (Option.some.inj this).symm) (kI hc names [] h)
def slots (ρ:List (Option Nat)) (σ:St):St:=ρ.map fun o=>o.bind fun j=>(σ[j]?).join
def blk (X:Cx) (scope:Scope) (N':List Str) (C:Addr) (s₀:Shared) (H₀:Hp) (ex:List Addr):Cx :=
 { X with N:=N',s₀:=s₀,H₀:=H₀,env:=compEnvC scope (clo X.env scope.names []) C X.env,outer:=X.stack,stack:=X.stack,ex:=ex,fn:=fun _=>false,pn:=[],xe:=fun _ _=>False }
structure bt (X:Cx) (scope:Scope) (N':List Str) (ρ:List (Option Nat)) (m:Nat):Prop where
 kind:scope.kind=.function
 nocell:∀ x∈scope.names,x.2≠.cell
 names:∀ x∈scope.names,x.2=.local→scope.names.lookup x.1=some .local
 frees:∀ x∈scope.names,x.2=.free→X.env.kindOf x.1=some .cell∨X.env.kindOf x.1=some .free
 len:ρ.length=N'.length
 own:∀ (i j:Nat),ρ[i]?=some (some j)→m≤i
 slot:∀ (i j:Nat) (x:Str),ρ[i]?=some (some j)→N'[i]?=some x→X.N[j]?=some x∧(x,NameKind.free)∈scope.names
 slotNoLocal:∀ (i j:Nat) (x:Str),ρ[i]?=some (some j)→N'[i]?=some x→(relabel scope X.env).names.lookup x≠some .local
theorem dG {env:Env}:∀ {names:List (Str×NameKind)} {x:Str} {k:NameKind},(names.map fun (n,k)=>if (k==NameKind.free&&env.scope.kind==.function&&env.kindOf n==some .cell) then (n,NameKind.cell) else (n,k)).lookup x=some k→(k=.cell∨k=.free)→(∀ y∈names,y.2≠.cell)→(x,NameKind.free)∈names
 | [],_,_,h,_,_=>by simp at h
 | (n,k0)::r,x,k,h,hk,hn=>by
  rw [List.map_cons] at h
  by_cases hc:(k0==NameKind.free&&env.scope.kind==.function&&env.kindOf n==some .cell)=true
  ·simp only [hc,if_true,List.lookup_cons] at h
   cases e:x==n with
   | true =>
    have e':x=n:=by simpa using e
    have hk0:k0=.free:=by simp [Bool.and_eq_true] at hc; exact hc.1.1
    subst e'; subst hk0
    exact List.mem_cons_self
   | false =>
    rw [e] at h
    exact List.mem_cons_of_mem _ (dG h hk fun y hy=>hn y (List.mem_cons_of_mem _ hy))
  ·simp only [hc,Bool.false_eq_true,if_false,List.lookup_cons] at h
   cases e:x==n with
   | true =>
    rw [e] at h
    have e':x=n:=by simpa using e
    subst e'
    have h':k0=k:=by simpa using h
    subst h'
    rcases hk with z | z
    ·exact absurd z (hn (x,k0) List.mem_cons_self)
    ·subst z; exact List.mem_cons_self
   | false =>
    rw [e] at h
    exact List.mem_cons_of_mem _ (dG h hk fun y hy=>hn y (List.mem_cons_of_mem _ hy))
theorem nH {ρ:List (Option Nat)} {σ:St} {i:Nat} {v:V} (h:(slots ρ σ)[i]?=some (some v)):∃ j,ρ[i]?=some (some j)∧σ[j]?=some (some v):=by
 unfold slots at h
 rw [List.getElem?_map] at h
 cases e:ρ[i]? with
 | none=>rw [e] at h; cases h
 | some o =>
  rw [e] at h
  cases o with
  | none=>simp at h
  | some j =>
   refine ⟨j,rfl,?_⟩
   simp at h
   cases q:σ[j]? with
   | none=>rw [q] at h; simp at h
   | some z=>rw [q] at h; simp at h; rw [h]
section
variable {X:Cx} {pins:List (Addr×Obj)} {σ:St} {H:Hp} {s:Shared} {scope:Scope} {N':List Str} {ρ:List (Option Nat)} {m:Nat}
theorem tS (I:Inv X pins σ H s) (B:bt X scope N' ρ m) {fp:List Addr} (hfp:∀ b∈fp,iE X pins H b) {C D:Addr} {h1:Heap} {tk:Nat} {oD:Obj} {mC:Str→Option Value} (hC:s.heap.objs.size≤C) (hD:s.heap.objs.size≤D) (hDC:D≠C)
  (hfs:∀ b∈fp,b<s.heap.objs.size) (old:∀ b o,s.heap.get? b=some o→h1.get? b=some o) (hns:h1.Ns C mC) (hoD:h1.get? D=some oD) (hdD:∀ v,oD.data≠.cell v) :
  Inv (blk X scope N' C s H fp) [(D,oD)] (slots ρ σ) H { s with heap:=h1,toks:=tk }:=by
 have hcl:∀ x c,(clo X.env scope.names []).lookup x=some c→X.env.cells.lookup x=some c:=fun x c e=>eO (f:=fun y=>X.env.cells.lookup y) (fI scope.names [] fun _ z=>nomatch z) e
 have nofs:∀ b,s.heap.objs.size≤b→b∉frs X.stack:=fun b hb z=>by
  rcases List.mem_cons.mp (I.stkSub b z) with e | z
  ·exact absurd (Nat.lt_of_lt_of_le I.lt hb) (by rw [e]; exact Nat.lt_irrefl _)
  ·exact I.nofs hb z
 have lk:∀ x,((relabel scope X.env).names.lookup x=some .cell∨(relabel scope X.env).names.lookup x=some .free)→(x,NameKind.free)∈scope.names:=fun x hx=>by
  rcases hx with hx | hx
  ·exact dG hx (.inl rfl) B.nocell
  ·exact dG hx (.inr rfl) B.nocell
 refine ⟨⟨I.ok.mod,B.kind,I.ok.glob,I.ok.blt,hC,fun x y c h1 h2=>I.ok.inj x y c (hcl x c h1) (hcl y c h2),fun x hx=>?_,fun x c hf _=>absurd hf Bool.false_ne_true,I.ok.hd,I.ok.frames,.inl rfl,fun b hb=>⟨Nat.ne_of_lt (Nat.lt_of_lt_of_le (hfs b hb) hC),fun x c e=>(hfp b hb).2.2.2.2.1 x c (hcl x c e)⟩,I.bs,Nat.le_trans I.ok.bsz I.sz,fun b o e hb=>?_,fun b hb z=>?_,I.stack,I.stkFree⟩,
  rfl,I.bare,Un.kept old,⟨mC,hns,fun i x v h1 h2 h3=>?_⟩,fun x c e=>?_,I.hok.fresh hC,fun x c e=>I.freeC x c (hcl x c e),fun p hp=>?_,I.hok.kept old,?_⟩
 ·have hm:=lk x hx
  obtain ⟨c,hc⟩:=I.ok.has x (B.frees _ hm rfl)
  exact ⟨c,kP hc hm⟩
 ·rcases (hfp b hb).2.2.2.1 with z | z
  ·exact I.ok.noex b o e z
  ·exact absurd (Nat.lt_of_lt_of_le (Heap.lt_size (I.ok.bs b o e).1) z) (Nat.lt_irrefl _)
 ·rcases List.mem_cons.mp (I.stkSub b z) with e | z
  ·exact (hfp b hb).2.1 e
  ·exact (hfp b hb).2.2.1 z
 ·obtain ⟨j,hj,hσ⟩:=nH h2
  obtain ⟨hN,hm⟩:=B.slot i j x hj h1
  have hk:=B.frees _ hm rfl
  obtain ⟨m0,hn0,hl⟩:=I.loc
  obtain ⟨u,r,l⟩:=hl j x v hN hσ (hk.elim (fun z=>.inr (.inl z)) fun z=>.inr (.inr z))
  rcases l with ⟨z,_⟩ | ⟨_,c,hc,hcell⟩
  ·rcases hk with q | q
   ·rw [q] at z; cases z
   ·rw [q] at z; cases z
  ·refine ⟨u,r,.inr ⟨?_,c,kP hc hm,?_⟩⟩
   ·rcases h3 with z | z | z
    ·-- a free name is no local of the block
     exfalso
     have q:(relabel scope X.env).names.lookup x=some .local:=z
     exact (B.slotNoLocal i j x hj h1 q)
    ·exact .inl z
    ·exact .inr z
   ·obtain ⟨o,ho,hd⟩:=hcell
    exact ⟨o,old _ _ ho,hd⟩
 ·obtain ⟨v,o,ho,hd⟩:=I.cell x c (hcl x c e)
  exact ⟨v,o,old _ _ ho,hd⟩
 ·have e:p=(D,oD):=by
   have hp':p∈([]:List (Addr×Obj))++[(D,oD)]:=hp
   simpa using hp'
  subst e
  exact ⟨hoD,I.hok.fresh hD,hDC,nofs D hD,hdD⟩
 ·show (slots ρ σ).length=N'.length
  unfold slots
  rw [List.length_map]
  exact B.len
end
def PTs (Y:Cx) (ifs:List Expr) (t:TT):Prop :=
 ∀ (pins:List (Addr×Obj)) (s:Shared) (σ:St) (H:Hp) (Q:Bool→Hp→Prop),Inv Y pins σ H s→t σ H Q →
  wpAny (model Y.prog Y.w) Y.A (forIn ifs true fun c r=>if r=true then do let ok ← isTrue c Y.env (eval c Y.env); pure (ForInStep.yield ok) else pure (ForInStep.yield r)) (TP Y pins σ Q) Y.xe s
def yS:TT:=fun _ H Q=>Q true H
theorem bq {Y:Cx}:PTs Y [] yS:=fun _ _ _ H _ I h=>wpAny_tests_nil ⟨H,I,h⟩
theorem iF {Y:Cx} {c:Expr} {t:TT} (h:PT Y c t):PTs Y [c] t:=fun pins s σ H Q I q=>wpAny_tests_one (h pins s σ H Q I q)
def lw (J:It) (m:Nat) (g:TG) (tt:TT) (te:TE) (σ':St) (Z:List V→Hp→Prop) (H1:Hp):Prop :=
 ∃ W:Nat→Nat→List V→Hp→Prop,(∃ k,W 0 k [] H1)∧∀ i k acc H,W i k acc H→acc.length≤sizeLine ∧
  ((J.stop i H∧Z acc H)∨(J.go i H∧∀ x H',J.yld i H x H'→g x σ' H' fun σ2 H2=>(σ2.drop m=σ'.drop m∧σ2.length=σ'.length) ∧
    tt σ2 H2 fun b H3=>if b=true then te σ2 H3 fun v H4=>acc.length<sizeLine∧∃ k',k'<k∧W (i+1) k' (acc++[v]) H4 else ∃ k',k'<k∧W (i+1) k' acc H3))
def yD (wi:TI) (ρ:List (Option Nat)) (m:Nat) (g:TG) (tt:TT) (te:TE):TE:=fun σ H Q=>wi σ H fun J H1 =>
 lw J m g tt te (slots ρ σ) (fun acc H=>∀ D,H D=none→Q (.ref D) (upd H D (.lst acc))) H1
theorem vM {σ σ':St} {m:Nat} (h:σ.drop m=σ'.drop m) {i:Nat} (hi:m≤i):σ[i]?=σ'[i]?:=by
 have e:(σ.drop m)[i - m]?=(σ'.drop m)[i - m]?:=by rw [h]
 rw [List.getElem?_drop,List.getElem?_drop] at e
 rwa [show m+(i - m)=i by omega] at e
section
variable {X:Cx} {pins:List (Addr×Obj)} {σ:St} {H2:Hp} {s2:Shared} {scope:Scope} {N':List Str} {ρ:List (Option Nat)} {m:Nat} {elt tg iter:Expr} {ifs:List Expr} {g:TG} {tt:TT} {te:TE} {pos:Pos}
theorem sJ (hc:X.calm=true) (B:bt X scope N' ρ m) (hg:∀ C s₀ H₀ ex,PG (blk X scope N' C s₀ H₀ ex) tg g) (ht:∀ C s₀ H₀ ex,PTs (blk X scope N' C s₀ H₀ ex) ifs tt) (he:∀ C s₀ H₀ ex,PE (blk X scope N' C s₀ H₀ ex) elt te)
  {J:It} {fp:List Addr} {it:Addr} {tn:Nat→Heap→Prop} {Z:List V→Hp→Prop} (I:Inv X pins σ H2 s2) (T:pc X.prog X.w X.K tg J fp it tn) (st:tn 0 s2.heap) (hfp:∀ b∈fp,iE X pins H2 b) (hL:lw J m g tt te (slots ρ σ) Z H2)
  {RR:Value→Addr→Result→Shared→Prop} {E:Value→Shared→Prop}
  (fin:∀ (D C:Addr) (H':Hp) (acc:List V) (s':Shared) (mC:Str→Option Value),s'.heap.Ns C mC→Inv X pins σ (upd H' D (.lst acc)) s'→iE X pins (upd H' D (.lst acc)) C→H' D=none→Z acc H'→RR (.ref D) C (.ok .next) s') :
  wpAny (model X.prog X.w) X.A (newList []) (fun acc s₃=>wpAny (model X.prog X.w) X.A (newFunctionEnv scope X.env.globals (clo X.env scope.names []) [] X.env.qual none .none (some X.env)) (fun cenv s₄ =>
   codeAny (model X.prog X.w) X.A (.compStart (.ListComp elt [⟨tg,iter,ifs,0⟩] scope pos) 0 (.ref it) acc { cenv with scope:=relabel scope X.env }) (RR acc cenv.locals) s₄) E s₃) E s2:=by
 refine wpAny_newObj_type (wpAny_newFunctionEnv B.nocell (by intro y hy; simp at hy) (fun h₁ hns₁ hsb₁=>?_) B.kind)
 dsimp only at hns₁ hsb₁ ⊢
 generalize hHp:s2.heap.push { cls:=.type "list",dict:=none,data:=.seq ([]:List Value).toArray }=Hp2 at hns₁ hsb₁ ⊢
 have hCe:Hp2.objs.size=s2.heap.objs.size+1:=by rw [← hHp,Heap.size_push]
 have hDC:s2.heap.objs.size≠Hp2.objs.size:=by rw [hCe]; exact Nat.ne_of_lt (Nat.lt_succ_self _)
 have hCle:s2.heap.objs.size≤Hp2.objs.size:=by rw [hCe]; exact Nat.le_succ _
 have below:∀ b,b<s2.heap.objs.size→b≠Hp2.objs.size∧b≠s2.heap.objs.size:=fun b hb=>⟨by rw [hCe]; exact Nat.ne_of_lt (Nat.lt_succ_of_lt hb),Nat.ne_of_lt hb⟩
 have old:∀ b o,s2.heap.get? b=some o→h₁.get? b=some o:=fun b o e=>hsb₁.extBut b o (below b (Heap.lt_size e)).1 (Heap.get?_push_of_some _ (hHp ▸ Heap.get?_push_of_some _ e))
 have hfs:∀ b∈fp,b<s2.heap.objs.size:=fun b hb=>let ⟨o,e,_⟩:=T.obj 0 _ st b hb; Heap.lt_size e
 generalize hDn:s2.heap.objs.size=D at *
 generalize hCn:Hp2.objs.size=C at *
 have hacc:h₁.get? D=some { cls:=.type "list",data:=.seq ([]:List Value).toArray }:=hsb₁.extBut _ _ hDC (Heap.get?_push_of_some _ (by rw [← hHp,← hDn]; exact Heap.get?_push_size _ rfl))
 have st₁:tn 0 h₁:=T.keep _ _ _ st fun b _ o e=>old b o e
 obtain ⟨W,⟨k0,w0⟩,turn⟩:=hL
 have cellLt:∀ x c,(clo X.env scope.names []).lookup x=some c→c<s2.heap.objs.size:=fun x c e=>by
  have e':X.env.cells.lookup x=some c:=eO (f:=fun y=>X.env.cells.lookup y) (fI scope.names [] fun _ z=>nomatch z) e
  obtain ⟨v,o,ho,_⟩:=I.cell x c e'
  exact Heap.lt_size ho
 have stat:∀ {H':Hp} {o:Obj},(∀ b∈fp,H' b=none)→∀ b∈fp,iE (blk X scope N' C s2 H2 fp) [(D,o)] H' b:=fun {H' o} hn b hb=>by
  obtain ⟨_,f1,f2,_,f4,_⟩:=hfp b hb
  refine ⟨hn b hb,(below b (hfs b hb)).1,fun z=>?_,.inl hb,fun x c e=>f4 x c (eO (f:=fun y=>X.env.cells.lookup y) (fI scope.names [] fun _ z=>nomatch z) e),fun p hp=>?_⟩
  ·rcases List.mem_cons.mp (I.stkSub b z) with e | z
   ·exact f1 e
   ·exact f2 z
  ·have e:p=(D,o):=by
    have hp':p∈([]:List (Addr×Obj))++[(D,o)]:=hp
    simpa using hp'
   subst e
   exact Ne.symm (below b (hfs b hb)).2
 have loop:∀ s₃:Shared,s₃={ s2 with heap:=h₁,toks:=s2.toks+([]:List (Str×Value)).length } →
   codeAny (model X.prog X.w) X.A (.compLoop (.ListComp elt [⟨tg,iter,ifs,0⟩] scope pos) 0 (.ref it) (.ref D) (compEnvC scope (clo X.env scope.names []) C X.env)) (RR (.ref D) C) s₃:=by
  rintro s₃ rfl
  have I₁:Inv (blk X scope N' C s2 H2 fp) [(D,{ cls:=.type "list",data:=.seq ([]:List Value).toArray })] (slots ρ σ) H2 { s2 with heap:=h₁,toks:=s2.toks+([]:List (Str×Value)).length } :=
   tS I B hfp (by rw [hDn]; exact hCle) (by rw [hDn]; exact Nat.le_refl _) hDC (fun b hb=>by rw [hDn]; exact hfs b hb) old hns₁ hacc (fun v z=>by cases z)
  refine oY (fun n s'=>∃ (i:Nat) (acc:List V) (H':Hp) (its:List Value) (kk:Nat),Inv (blk X scope N' C s2 H2 fp) [(D,{ cls:=.type "list",data:=.seq its.toArray kk })] (slots ρ σ) H' s'∧aK acc its∧tn i s'.heap∧(∀ b∈fp,H' b=none)∧W i n acc H') ?_ k0
   ⟨0,[],H2,[],_,I₁,.nil,st₁,fun b hb=>(hfp b hb).1,w0⟩
  rintro n s3 ⟨i,acc,H3,its,kk,I3,rv,st3,fr3,w3⟩
  obtain ⟨hlen,cs⟩:=turn i n acc H3 w3
  rcases cs with ⟨stop,z⟩ | ⟨go,step⟩
  ·refine thn (T.done (blk X scope N' C s2 H2 fp) rfl rfl rfl hc i _ s3 (slots ρ σ) H3 (fun _ _=>False) I3 (stat fr3) st3 stop) fun r s4 ⟨hr,I4⟩=>?_
   subst hr
   obtain ⟨eD,nD,_,_,_⟩:=I4.pin (D,_) (List.mem_append_right _ (List.mem_singleton.mpr rfl))
   obtain ⟨mC,hnsC,_⟩:=I4.loc
   have hD2:H2 D=none:=I.hok.fresh (by rw [hDn]; exact Nat.le_refl _)
   have u:Un (frs X.stack) fp H2 (upd H3 D (.lst acc)) s2.heap s4.heap :=
    ⟨I4.base.keep,I4.base.slot,fun b o e n hx=>by rw [aI (below b (by rw [← hDn]; exact Heap.lt_size e)).2]; exact I4.base.free b o e n hx,I4.base.there,
     fun b xs e=>by rw [aI (aq e hD2)]; exact I4.base.tups b xs e,fun b o u e=>by rw [aI (aq e hD2)]; exact I4.base.frzs b o u e,
     fun b ps e=>by rw [aI (aq e hD2)]; exact I4.base.tbls b ps e⟩
   have hok:HOk X.prog X.w (upd H3 D (.lst acc)) s4.heap:=fun b o e=>by
    by_cases hb:b=D
    ·subst hb
     rw [ae] at e; cases e
     exact ⟨hlen,its,kk,rv,eD⟩
    ·rw [aI hb] at e
     exact (I4.hok b o e).stay (fun c v _ q=>q) (fun c q=>by rw [aI (aq q nD)]; exact q) fun c xs q=>by rw [aI (aq q nD)]; exact q
   have IX:Inv X pins σ (upd H3 D (.lst acc)) s4:=Inv.call' (ch:=fp) I I4.os u hok I4.bare fun b hb=>⟨(hfp b hb).2.2.2.1,(hfp b hb).2.1,(hfp b hb).2.2.2.2.1,(hfp b hb).2.2.2.2.2⟩
   have nC:(upd H3 D (.lst acc)) C=none:=by rw [aI (Ne.symm hDC)]; exact I4.free
   exact fin D C H3 acc s4 mC hnsC IX (I.fpOk (by rw [hDn]; exact hCle) nC) nD z
  ·refine thn (T.item (blk X scope N' C s2 H2 fp) rfl rfl rfl hc i _ s3 (slots ρ σ) H3 (fun _ _=>False) I3 (stat fr3) st3 go) fun r s4 ⟨u,hr,h4⟩=>?_
   subst hr
   refine thn h4 fun _ s5 ⟨x,H5,I5,r5,y5,st5,fr5⟩=>?_
   have I5':=I5.pinned (stat fr5) (T.obj _ _ st5)
   refine thn (hg C s2 H2 fp _ s5 (slots ρ σ) H5 x u _ I5' r5 (step x H5 y5)) fun _ s6 ⟨σ6,H6,I6,⟨d6,l6⟩,q6⟩=>?_
   refine thn (ht C s2 H2 fp _ s6 σ6 H6 _ I6 q6) fun b s7 ⟨H7,I7,q7⟩=>?_
   have le6:∀ (j:Nat) v,(slots ρ σ)[j]?=some (some v)→σ6[j]?=some (some v):=fun j v e=>by
    obtain ⟨k,hk,_⟩:=nH e
    rw [vM d6 (B.own j k hk)]
    exact e
   have kept:∀ {H8:Hp} {s8:Shared},Inv (blk X scope N' C s2 H2 fp) ([(D,{ cls:=.type "list",data:=.seq its.toArray kk })]++jg fp s5.heap) σ6 H8 s8 →
     (∀ b∈fp,∀ o,s5.heap.get? b=some o→s8.heap.get? b=some o)∧∀ b∈fp,H8 b=none:=fun {H8 s8} I8 =>
    ⟨fun b hb o e=>(I8.pin (b,o) (List.mem_append_right _ (List.mem_append_right _ (er hb e)))).1,fun b hb=>by
     obtain ⟨o,e,d⟩:=T.obj _ _ st5 b hb
     exact (I8.pin (b,o) (List.mem_append_right _ (List.mem_append_right _ (er hb e)))).2.1⟩
   cases b with
   | false =>
    rw [if_neg Bool.false_ne_true] at q7 ⊢
    obtain ⟨k',hk,w7⟩:=q7
    exact ⟨k',hk,i+1,acc,H7,its,kk,I7.unpinned.weak l6.symm le6,rv,T.keep _ _ _ st5 (kept I7).1,(kept I7).2,w7⟩
   | true =>
    rw [if_pos rfl] at q7 ⊢
    refine thn (he C s2 H2 fp _ s7 σ6 H7 _ I7 q7) fun xv s8 ⟨v,H8,I8,r8,q8⟩=>?_
    obtain ⟨hlt,k',hk,w8⟩:=q8
    obtain ⟨eD,nD,neD,nfD,_⟩:=I8.pin (D,_) (List.mem_append_right _ (List.mem_append_left _ (List.mem_singleton.mpr rfl)))
    have hsz:its.toArray.size≤sizeLine:=by rw [List.size_toArray,← rv.length]; exact hlen
    refine wpAny_list_append_plain (hsz:=hsz) ⟨kk,eD⟩ fun h₉ hl₉ hs₉=>?_
    obtain ⟨kk',e9⟩:=hl₉
    have I8':Inv (blk X scope N' C s2 H2 fp) [] σ6 H8 s8:=I8.pins_of fun p hp=>nomatch hp
    have I9:Inv (blk X scope N' C s2 H2 fp) [] σ6 H8 { s8 with heap:=h₉,toks:=s8.toks }:=I8'.turned (it:=D) (fun b o hb e=>hs₉.extBut b o hb e) nD hDC (.inr (Nat.le_of_eq hDn))
     (fun x c e z=>by have q:=cellLt x c e; rw [hDn,z] at q; exact Nat.lt_irrefl _ q) fun p hp=>nomatch (show p∈([]:List (Addr×Obj)) from hp)
    have e9':h₉.get? D=some { cls:=.type "list",data:=.seq (its++[xv]).toArray kk' }:=by rw [e9,List.push_toArray]
    have I9':Inv (blk X scope N' C s2 H2 fp) [(D,{ cls:=.type "list",data:=.seq (its++[xv]).toArray kk' })] (slots ρ σ) H8 { s8 with heap:=h₉,toks:=s8.toks } :=
     (I9.weak l6.symm le6).pins_of fun p hp=>by
      have e:p=(D,_):=List.mem_singleton.mp hp
      subst e
      exact ⟨e9',nD,hDC,nfD,fun v z=>by cases z⟩
    refine ⟨k',hk,i+1,acc++[v],H8,its++[xv],kk',I9',rv.append (.cons r8 .nil),T.keep _ _ _ st5 fun b hb o e=>?_,(kept I8).2,w8⟩
    exact hs₉.extBut b o (below b (hfs b hb)).2 ((kept I8).1 b hb o e)
 exact codeAny_compStart_list (loop _ rfl) (T.self _ 0 _ _ _ st₁ (loop _ rfl))
theorem be {wi:TI} (B:bt X scope N' ρ m) (hc:X.calm=true) (hi:PI X tg iter wi) (hg:∀ C s₀ H₀ ex,PG (blk X scope N' C s₀ H₀ ex) tg g) (ht:∀ C s₀ H₀ ex,PTs (blk X scope N' C s₀ H₀ ex) ifs tt) (he:∀ C s₀ H₀ ex,PE (blk X scope N' C s₀ H₀ ex) elt te)
  (hs:∀ x,foldedSetIterable iter X.env x=pure x:=by intro _; rfl):PE X (.ListComp elt [⟨tg,iter,ifs,0⟩] scope pos) (yD wi ρ m g tt te):=by
 intro pins s σ H Q I h
 rw [eval_ListComp]
 refine wpAny_comprehension_free (use:=none) rfl hs (gq fun x hx hf=>I.ok.has x.1 (B.frees x hx hf)) B.kind B.names (thn (hi pins s σ H _ I h) fun v s1 h1=>thn h1 fun itv s2 h2=>?_)
 obtain ⟨it,fp,tn,J,H2,e,I2,T,st2,f2,hL⟩:=h2
 subst e
 refine sJ (RR:=fun acc C=>compPost (model X.prog X.w) X.A X.xe none (EP X pins σ Q) acc C) hc B hg ht he I2 T st2 f2 hL fun D C H' acc s' mC hns IX fC nD z=>?_
 refine ⟨mC,hns,fun h' hs'=>⟨.ref D,_,IX.turned (t':=s'.toks) (it:=C) (fun b o hb e=>hs'.extBut b o hb e) fC.1 fC.2.1 fC.2.2.2.1 fC.2.2.2.2.1 fC.2.2.2.2.2,rfl,z D nD⟩⟩
theorem sT {wi:TI} {i:Nat} {y:Str} {py spos:Pos} (B:bt X scope N' ρ m) (hN:X.N.Nodup) (hi':X.N[i]?=some y) (hy:Loc X.env.scope y) (hc:X.calm=true) (hi:PI X tg iter wi) (hg:∀ C s₀ H₀ ex,PG (blk X scope N' C s₀ H₀ ex) tg g) (ht:∀ C s₀ H₀ ex,PTs (blk X scope N' C s₀ H₀ ex) ifs tt) (he:∀ C s₀ H₀ ex,PE (blk X scope N' C s₀ H₀ ex) elt te)
  (hsw:swapsWith (.ListComp elt [⟨tg,iter,ifs,0⟩] scope pos) (some (.Name y py)) spos.line X.env=pure true:=by rfl)
  (hs:∀ x,foldedSetIterable iter X.env x=pure x:=by intro _; rfl) (hf:X.fn y=true∨X.env.scope.names.lookup y=some .local:=by first | exact .inl rfl | exact .inr rfl | assumption) :
  PS X (.Assign [.Name y py] (.ListComp elt [⟨tg,iter,ifs,0⟩] scope pos) spos) (zt (yD wi ρ m g tt te) (jU i)):=by
 intro pins s σ H D I h
 rw [exec_Assign_Name_used _ _ _ _ hsw]
 refine wpAny_bind (wpAny_standAt (wpAny_bind ?_))
 show wpAny _ X.A (do let _ ← comprehension (.ListComp elt [⟨tg,iter,ifs,0⟩] scope pos) scope X.env _ (newList []) false (eval iter X.env) (some (assign (.Name y py) X.env))) _ _ s
 refine wpAny_bind (wpAny_mono (wpAny_comprehension_free (use:=some (assign (.Name y py) X.env)) (Q:=fun _ s'=>SP X pins D .next s') rfl hs (gq fun x hx hf=>I.ok.has x.1 (B.frees x hx hf)) B.kind B.names
  (thn (hi pins s σ H _ I h) fun v s1 h1=>thn h1 fun itv s2 h2=>?_)) (fun _ s' hq=>wpAny_pure (wpAny_pure hq)) fun _ _ e=>e)
 obtain ⟨it,fp,tn,J,H2,e,I2,T,st2,f2,hL⟩:=h2
 subst e
 refine sJ (RR:=fun acc C=>compPost (model X.prog X.w) X.A X.xe (some (assign (.Name y py) X.env)) (fun _ s'=>SP X pins D .next s') acc C) hc B hg ht he I2 T st2 f2 hL fun Dl C H' acc s' mC hns IX fC nD z=>?_
 show wpAny _ X.A (assign (.Name y py) X.env (.ref Dl)) _ _ _
 obtain ⟨oC,es,ep,hoC,hdC,hrC⟩:=id hns
 have IX':Inv X (pins++jg [C] s'.heap) σ (upd H' Dl (.lst acc)) s':=IX.pinned (fp:=[C]) (fun b hb=>by rw [List.mem_singleton.mp hb]; exact fC) fun b hb=>by
  rw [List.mem_singleton.mp hb]
  exact ⟨oC,hoC,fun v q=>by rw [hdC] at q; cases q⟩
 refine wpAny_assign_Name (kU IX' hN hi' hy (v:=.ref Dl) rfl (fun s'' I''=>?_) hf)
 have pC:=I''.pin (C,oC) (List.mem_append_right _ (List.mem_append_right _ (er (List.mem_singleton.mpr rfl) hoC)))
 refine ⟨mC,⟨oC,es,ep,pC.1,hdC,hrC⟩,fun h' hs'=>?_⟩
 exact ⟨_,_,I''.unpinned.turned (t':=s''.toks) (it:=C) (fun b o hb e=>hs'.extBut b o hb e) fC.1 fC.2.1 fC.2.2.2.1 fC.2.2.2.2.1 fC.2.2.2.2.2,z Dl nD⟩
end
open PySem PySem.Spec PyProof.Rows
mutual
inductive RdD (K:Frag) (H:Hp):V→PyData→Prop
 | non:RdD K H .non .none
 | bl (b:Bool):RdD K H (.bl b) (.bool b)
 | int (i:Int):RdD K H (.int i) (.int i)
 | str (x:Str):RdD K H (.str x) (.str x)
 | lst {a:Addr} {xs:List V} {ds:List PyData}:SqL K H a xs→fk K H xs ds→RdD K H (.ref a) (.list ds)
 | tup {a:Addr} {xs:List V} {ds:List PyData}:SqT K H a xs→fk K H xs ds→RdD K H (.ref a) (.tuple ds)
inductive fk (K:Frag) (H:Hp):List V→List PyData→Prop
 | nil:fk K H [] []
 | cons {x:V} {xs:List V} {d:PyData} {ds:List PyData}:RdD K H x d→fk K H xs ds→fk K H (x::xs) (d::ds)
end
section
variable {X:Cx} {pins:List (Addr×Obj)} {σ:St} {H:Hp} {s:Shared}
mutual
theorem RdD.reads (I:Inv X pins σ H s):∀ {x:V} {d:PyData} {u:Value},RdD X.K H x d→br x u→∃ as,Reads s.heap u d as
 | _,_,_,.non,r=>by cases r; exact ⟨_,.none⟩
 | _,_,_,.bl b,r=>by cases r; exact ⟨_,.bool b⟩
 | _,_,_,.int i,r=>by obtain ⟨t,rfl⟩:=r; exact ⟨_,.int i t⟩
 | _,_,_,.str x,r=>by obtain ⟨t,rfl⟩:=r; exact ⟨_,.str x t⟩
 | _,_,_,.lst h q,r=>by
  cases r
  obtain ⟨its,rv,p,_⟩:=I.list h
  obtain ⟨as,ra⟩:=fk.reads I q rv
  obtain ⟨o,ho,hc,n,hd⟩:=p.isList
  exact ⟨_,.list ho hc hd (by simpa using ra)⟩
 | _,_,_,.tup h q,r=>by
  cases r
  obtain ⟨its,rv,p,_⟩:=I.tuple h
  obtain ⟨as,ra⟩:=fk.reads I q rv
  obtain ⟨o,ho,hc,n,hd⟩:=p
  exact ⟨_,.tuple ho hc hd (by simpa using ra)⟩
theorem fk.reads (I:Inv X pins σ H s):∀ {xs:List V} {ds:List PyData} {us:List Value},fk X.K H xs ds→aK xs us→∃ as,ReadsAll s.heap us ds as
 | _,_,_,.nil,.nil=>⟨_,.nil⟩
 | _,_,_,.cons q r,.cons q' r'=>by
  obtain ⟨as,ra⟩:=RdD.reads I q q'
  obtain ⟨bs,rb⟩:=fk.reads I r r'
  exact ⟨_,.cons ra rb⟩
end
end
section
variable {X:Cx}
def Cg (K:Frag) (neg:Bool):R2:=fun x y H Q=>∃ d e,RdD K H x d∧RdD K H y e∧SeqAt.shaped d=true∧SeqAt.shaped e=true∧Q (.bl (if neg then !PyData.eqv d e else PyData.eqv d e)) H
theorem zX (hu:X.A.units+64<cLine):OpR X (compareOp .Eq) (Cg X.K false):=by
 intro pins s σ H x y v u Q I rx ry h
 obtain ⟨d,e,hd,he,sd,se,q⟩:=h
 obtain ⟨as,ra⟩:=hd.reads I rx
 obtain ⟨bs,rb⟩:=he.reads I ry
 exact eq_dataH ra rb sd se hu (bj I q rfl)
def Ba (K:Frag):List V→Hp→VK→Prop:=fun xs H Q=>∃ a d,xs=[.ref a]∧RdD K H (.ref a) d∧d.showable=true∧d.hasDict=false∧d.depth≤60∧d.shown.length≤sizeLine∧Q (.str d.shown) H
theorem mV (hu:X.A.units+64<cLine) (hg:X.A.guards=some []):bJ X (.builtin "repr") (Ba X.K):=by
 intro pins s σ H xs us Q I r h
 obtain ⟨a,d,rfl,hd,hs,hn,hp,hz,q⟩:=h
 obtain ⟨u,rfl,ru⟩:=cU r
 cases ru
 obtain ⟨as,ra⟩:=hd.reads I rfl
 exact repr_of_reads' ra hs (PyData.noDict_hsm hn) hg (by omega) (fun b o e=>e) (fun h' u tk k=>⟨.str d.shown,H,I.kept k,⟨u,rfl⟩,q⟩) hz
def qo (K:Frag):R2:=fun x y H Q=>∃ a b ys,x=.ref a∧y=.ref b∧SqT K H a []∧SqT K H b ys∧Q (.ref b) H
theorem wJ:OpR X (binaryOp .Add) (qo X.K):=by
 intro pins s σ H x y v u Q I rx ry h
 obtain ⟨a,b,ys,rfl,rfl,ha,hb,q⟩:=h
 cases rx
 cases ry
 obtain ⟨its,r1,p1,_⟩:=I.tuple ha
 obtain ⟨its2,r2,p2,_⟩:=I.tuple hb
 cases r1
 obtain ⟨⟨cls,dd,data,sl⟩,ho,hc,n,hd⟩:=id p1
 obtain ⟨⟨cls2,dd2,data2,sl2⟩,ho2,hc2,n2,hd2⟩:=id p2
 simp only at hc hd hc2 hd2
 subst hc hd hc2 hd2
 exact concat_meets ⟨_,ho,rfl⟩ ⟨_,ho2,rfl⟩ noFill_tuple_add seq_tuple_add PySem.F.slot_tuple_add PySem.F.entry_tuple_add (PySem.F.args_tuple_add_2 _ _)
  (tuple_addW0 a b _ its2.toArray n n2 dd dd2 sl sl2 rfl) ⟨ho,ho2,⟨.ref b,H,I,rfl,q⟩⟩
def AG (K:Frag):List V→Hp→VK→Prop:=fun xs H Q=>∃ x T t b,xs=[x,.ty T]∧jt K H x t∧PySem.W.kitOne K t (.type T)=some b∧Q (.bl b) H
theorem eY:bJ X (.builtin "isinstance") (AG X.K):=by
 intro pins s σ H xs us Q I r h
 obtain ⟨x,T,t,b,rfl,ht,hk,q⟩:=h
 obtain ⟨u,c,rfl,ru,rc⟩:=ss r
 cases (show c=Value.type T from rc)
 exact uh I ru ht hk fun tk=>⟨.bl b,H,I.tok tk,rfl,q⟩
end
def Its (z:Str):It:=⟨fun i _=>i<z.cps.size,fun i H x H'=>H'=H∧∃ c,z.cps[i]?=some c∧x=.str ⟨#[c]⟩,fun i _=>z.cps.size≤i⟩
theorem qQ {P:Program} {w:World} {K:Frag} {tg:Expr} (it:Addr) (z:Str) (t:Tok):pc P w K tg (Its z) [it] it (fun i h=>h.IsStrIter it "str_ascii_iterator" z t i) where
 mem:=by simp
 obj:=fun i h st b hb=>by
  have e:b=it:=by simpa using hb
  subst e
  obtain ⟨o,e,c,d⟩:=st
  exact ⟨o,e,fun v z=>by rw [d] at z; cases z⟩
 keep:=fun i h h' st k=>let ⟨o,e,r⟩:=st; ⟨o,k it (by simp) o e,r⟩
 item:=by
  intro X hP hw hK hc i pins s σ H E I hf st hg
  subst hP hw hK
  have hi:i<z.cps.size:=hg
  obtain ⟨f0,f1,f2,f3,f4,f5⟩:=hf it (by simp)
  refine wpAny_pyNext_ascii_item st (c:=z.cps[i]) (by simp [hi]) fun h' st' sb=>?_
  have I1:Inv X pins σ H { s with heap:=h',toks:=s.toks+1 }:=I.turned (t':=s.toks+1) (fun b o hb e=>(sb.2 b hb).trans e) f0 f1 f3 f4 f5
  obtain ⟨o,e,c,d⟩:=id st'
  exact ⟨_,rfl,pP (s:={ s with heap:=h',toks:=s.toks+1 }) e c d (by decide) ⟨.str ⟨#[z.cps[i]]⟩,H,I1,⟨_,rfl⟩,⟨rfl,z.cps[i],by simp [hi],rfl⟩,st',fun b hb=>(hf b hb).1⟩⟩
 done:=by
  intro X hP hw hK hc i pins s σ H E I hf st hg
  subst hP hw hK
  have hi:z.cps.size≤i:=hg
  obtain ⟨f0,f1,f2,f3,f4,f5⟩:=hf it (by simp)
  exact wpAny_pyNext_ascii_end (I.ok.hd hc) st (by simp [hi]) fun h' eb=>⟨rfl,I.turned (t':=s.toks) (fun b o hb e=>eb b o hb e) f0 f1 f3 f4 f5⟩
 self:=fun _ _ _ _ _ st h=>wpAny_pyIter_striter_ascii st h
theorem uf {P:Program} {w:World} {K:Frag} {tg:Expr} (it:Addr) (z:Str) (t:Tok):pc P w K tg (Its z) [it] it (fun i h=>h.IsStrIter it "str_iterator" z t i) where
 mem:=by simp
 obj:=fun i h st b hb=>by
  have e:b=it:=by simpa using hb
  subst e
  obtain ⟨o,e,c,d⟩:=st
  exact ⟨o,e,fun v z=>by rw [d] at z; cases z⟩
 keep:=fun i h h' st k=>let ⟨o,e,r⟩:=st; ⟨o,k it (by simp) o e,r⟩
 item:=by
  intro X hP hw hK hc i pins s σ H E I hf st hg
  subst hP hw hK
  have hi:i<z.cps.size:=hg
  obtain ⟨f0,f1,f2,f3,f4,f5⟩:=hf it (by simp)
  refine wpAny_pyNext_wide_item st (c:=z.cps[i]) (by simp [hi]) fun h' st' sb=>?_
  have I1:Inv X pins σ H { s with heap:=h',toks:=s.toks+1 }:=I.turned (t':=s.toks+1) (fun b o hb e=>(sb.2 b hb).trans e) f0 f1 f3 f4 f5
  obtain ⟨o,e,c,d⟩:=id st'
  exact ⟨_,rfl,pP (s:={ s with heap:=h',toks:=s.toks+1 }) e c d (by decide) ⟨.str ⟨#[z.cps[i]]⟩,H,I1,⟨_,rfl⟩,⟨rfl,z.cps[i],by simp [hi],rfl⟩,st',fun b hb=>(hf b hb).1⟩⟩
 done:=by
  intro X hP hw hK hc i pins s σ H E I hf st hg
  subst hP hw hK
  have hi:z.cps.size≤i:=hg
  obtain ⟨f0,f1,f2,f3,f4,f5⟩:=hf it (by simp)
  exact wpAny_pyNext_wide_end (I.ok.hd hc) st (by simp [hi]) fun h' eb=>⟨rfl,I.turned (t':=s.toks) (fun b o hb e=>eb b o hb e) f0 f1 f3 f4 f5⟩
 self:=fun _ _ _ _ _ st h=>wpAny_pyIter_striter_wide st h
section
variable {X:Cx} {tg:Expr}
def Cc (tl:TE):TI:=fun σ H R=>tl σ H fun x H1=>∃ z,x=.str z∧R (Its z) H1
theorem uw {l:Expr} {tl:TE} (hl:PE X l tl):PI X tg l (Cc tl):=by
 intro pins s σ H R I h
 refine thn (hl pins s σ H _ I h) fun v s1 ⟨x,H1,I1,r1,q1⟩=>?_
 obtain ⟨z,e,q⟩:=q1
 subst e
 obtain ⟨t,rfl⟩:=r1
 have fp:∀ b∈[s1.heap.objs.size],iE X pins H1 b:=fun b hb=>by
  have e:b=s1.heap.objs.size:=by simpa using hb
  subst e
  exact I1.fpOk (Nat.le_refl _) (I1.hok.fresh (Nat.le_refl _))
 cases ha:z.cps.all (·<128)
 ·exact wpAny_pyIter_wide ha ⟨s1.heap.objs.size,[s1.heap.objs.size],_,_,H1,rfl,I1.kept (t':=s1.toks) fun b o e=>Heap.get?_push_of_some _ e,uf _ z t,⟨_,Heap.get?_push_size _ rfl,rfl,rfl⟩,fp,q⟩
 ·exact wpAny_pyIter_ascii ha ⟨s1.heap.objs.size,[s1.heap.objs.size],_,_,H1,rfl,I1.kept (t':=s1.toks) fun b o e=>Heap.get?_push_of_some _ e,qQ _ z t,⟨_,Heap.get?_push_size _ rfl,rfl,rfl⟩,fp,q⟩
end
open PySem PySem.Spec PyProof.Rows
def je (fs scope:Scope):List (Str×NameKind):=scope.names.map fun (n,k)=>if (k==NameKind.free&&fs.kind==.function&&fs.names.lookup n==some .cell) then (n,NameKind.cell) else (n,k)
def BB (fs:Scope) (N:List Str) (scope:Scope) (N':List Str) (ρ:List (Option Nat)) (m:Nat):Bool :=
 (scope.kind==.function)&&scope.names.all (fun x=>x.2 != .cell)&&scope.names.all (fun x=>x.2 != .local||scope.names.lookup x.1==some .local)
 &&scope.names.all (fun x=>x.2 != .free||fs.names.lookup x.1==some .cell||fs.names.lookup x.1==some .free)&&(ρ.length==N'.length)
 &&(List.range ρ.length).all fun i=>match ρ[i]?,N'[i]? with
   | some (some j),some x=>decide (m≤i)&&N[j]?==some x&&scope.names.any (fun y=>y.1==x&&y.2==.free)&&(je fs scope).lookup x != some .local
   | some (some _),none=>false
   | _,_=>true
theorem bt.of {X:Cx} {fs scope:Scope} {N N':List Str} {ρ:List (Option Nat)} {m:Nat} (hs:X.env.scope=fs) (hN:X.N=N) (h:BB fs N scope N' ρ m=true):bt X scope N' ρ m:=by
 unfold BB at h
 simp only [Bool.and_eq_true] at h
 obtain ⟨⟨⟨⟨⟨h1,h2⟩,h3⟩,h4⟩,h5⟩,h6⟩:=h
 have at6:∀ (i j:Nat),ρ[i]?=some (some j)→∃ x,N'[i]?=some x∧m≤i∧N[j]?=some x∧(x,NameKind.free)∈scope.names∧(je fs scope).lookup x≠some .local:=fun i j e=>by
  have hi:i<ρ.length:=(List.getElem?_eq_some_iff.mp e).1
  have q:=List.all_eq_true.mp h6 i (List.mem_range.mpr hi)
  rw [e] at q
  cases e2:N'[i]? with
  | none=>rw [e2] at q; cases q
  | some x =>
   rw [e2] at q
   simp only [Bool.and_eq_true,decide_eq_true_eq,beq_iff_eq,bne_iff_ne,List.any_eq_true] at q
   obtain ⟨⟨⟨q1,q2⟩,⟨y,hy,q3,q4⟩⟩,q5⟩:=q
   refine ⟨x,rfl,q1,q2,?_,q5⟩
   obtain ⟨a,b⟩:=y
   simp only at q3 q4
   subst q3 q4
   exact hy
 refine ⟨by simpa using h1,fun x hx=>by simpa using List.all_eq_true.mp h2 x hx,fun x hx hl=>?_,fun x hx hf=>?_,by simpa using h5,fun i j e=>?_,fun i j x e e2=>?_,fun i j x e e2=>?_⟩
 ·have q:=List.all_eq_true.mp h3 x hx
  simpa [hl] using q
 ·have q:=List.all_eq_true.mp h4 x hx
  show X.env.scope.names.lookup x.1=_∨X.env.scope.names.lookup x.1=_
  rw [hs]
  simpa [hf] using q
 ·obtain ⟨_,_,q,_⟩:=at6 i j e; exact q
 ·obtain ⟨y,q1,_,q2,q3,_⟩:=at6 i j e
  rw [e2] at q1; cases q1
  exact ⟨by rw [hN]; exact q2,q3⟩
 ·obtain ⟨y,q1,_,_,_,q4⟩:=at6 i j e
  rw [e2] at q1; cases q1
  have e3:(relabel scope X.env).names=je fs scope:=by
   unfold relabel je Env.kindOf
   rw [hs]
  rw [e3]
  exact q4
section
variable {X:Cx} {K:Frag}
theorem lh (h:X.K=K):IxR X (AJ K):=h ▸ aM
theorem cK (h:X.K=K):IxR X (AS K):=h ▸ aL
theorem gJ (h:X.K=K):OpR X (binaryOp .Add) (fun x y H Q=>wa K x y H Q∨qo K x y H Q):=h ▸ nN.or wJ
theorem ou {pos:Pos} {es:List Expr} {k:Nat} {t:TGs} {n:Nat} (hK:X.K=K) (hc:X.calm=true) (h:PGs X es t)
  (hn:(assignEach es X.env).length=n:=by rfl) (hst:(assignEach es X.env).findIdx? (·.1)=none:=by rfl):PG X (.Tuple es k pos) (AD K n t):=hK ▸ cQ hc h hn hst
end
section
variable {m:Nat} {g:TG} {tt:TT} {te:TE} {σ':St} {Z:List V→Hp→Prop} {H1:Hp} {K:Frag}
def NxT (n:Nat) (Pv:Nat→List V→Hp→Prop) (i:Nat) (acc:List V) (v:V) (H:Hp):Prop:=acc.length<sizeLine∧∃ k',k'<n - i∧(k'=n - (i+1)∧i+1≤n∧(acc++[v]).length≤i+1∧Pv (i+1) (acc++[v]) H)
def NxF (n:Nat) (Pv:Nat→List V→Hp→Prop) (i:Nat) (acc:List V) (H:Hp):Prop:=∃ k',k'<n - i∧(k'=n - (i+1)∧i+1≤n∧acc.length≤i+1∧Pv (i+1) acc H)
theorem nxT {n:Nat} {Pv:Nat→List V→Hp→Prop} {i:Nat} {acc:List V} {v:V} {H:Hp} (hn:n≤1000) (hi:i<n) (hl:acc.length≤i) (p:Pv (i+1) (acc++[v]) H):NxT n Pv i acc v H :=
 ⟨aC (by omega),n - (i+1),by omega,rfl,hi,by rw [List.length_append,List.length_singleton]; omega,p⟩
theorem nxF {n:Nat} {Pv:Nat→List V→Hp→Prop} {i:Nat} {acc:List V} {H:Hp} (hi:i<n) (hl:acc.length≤i) (p:Pv (i+1) acc H):NxF n Pv i acc H :=
 ⟨n - (i+1),by omega,rfl,hi,by omega,p⟩
theorem kC {J:It} (n:Nat) (hn:n≤1000) (Pv:Nat→List V→Hp→Prop) (h0:Pv 0 [] H1)
  (hs:∀ i acc H,i<n→acc.length≤i→Pv i acc H→J.go i H∧∀ x H',J.yld i H x H'→g x σ' H' fun σ2 H2=>(σ2.drop m=σ'.drop m∧σ2.length=σ'.length)∧tt σ2 H2 fun b H3=>if b=true then te σ2 H3 fun v H4=>NxT n Pv i acc v H4 else NxF n Pv i acc H3)
  (hd:∀ acc H,Pv n acc H→acc.length≤n→J.stop n H∧Z acc H):lw J m g tt te σ' Z H1:=by
 refine ⟨fun i k acc H=>k=n - i∧i≤n∧acc.length≤i∧Pv i acc H,⟨n,by simp,Nat.zero_le _,Nat.le_refl _,h0⟩,?_⟩
 rintro i k acc H ⟨rfl,hi,la,p⟩
 refine ⟨Nat.le_of_lt (aC (by omega)),?_⟩
 by_cases hlt:i<n
 ·exact .inr (hs i acc H hlt la p)
 ·have e:i=n:=by omega
  subst e
  exact .inl (hd acc H p la)
theorem fV {lo:Int} (n:Nat) (hn:n≤1000) (Pv:Nat→List V→Hp→Prop) (h0:Pv 0 [] H1)
  (hs:∀ i acc H,i<n→acc.length≤i→Pv i acc H→g (.int (lo+i)) σ' H fun σ2 H2=>(σ2.drop m=σ'.drop m∧σ2.length=σ'.length)∧tt σ2 H2 fun b H3=>if b=true then te σ2 H3 fun v H4=>NxT n Pv i acc v H4 else NxF n Pv i acc H3)
  (hd:∀ acc H,Pv n acc H→acc.length≤n→Z acc H):lw (Itr lo n) m g tt te σ' Z H1 :=
 kC n hn Pv h0 (fun i acc H hi la p=>⟨hi,fun x H' y=>by obtain ⟨e,y⟩:=y; subst e y; exact hs i acc _ hi la p⟩) fun acc H p la=>⟨Nat.le_refl _,hd acc H p la⟩
theorem oW {z:Str} (n:Nat) (hz:n=z.cps.size) (hn:n≤1000) (Pv:Nat→List V→Hp→Prop) (h0:Pv 0 [] H1)
  (hs:∀ i acc H c,i<n→acc.length≤i→z.cps[i]?=some c→Pv i acc H→g (.str ⟨#[c]⟩) σ' H fun σ2 H2=>(σ2.drop m=σ'.drop m∧σ2.length=σ'.length)∧tt σ2 H2 fun b H3=>if b=true then te σ2 H3 fun v H4=>NxT n Pv i acc v H4 else NxF n Pv i acc H3)
  (hd:∀ acc H,Pv n acc H→acc.length≤n→Z acc H):lw (Its z) m g tt te σ' Z H1 :=
 kC n hn Pv h0 (fun i acc H hi la p=>⟨show i<z.cps.size by omega,fun x H' y=>by obtain ⟨e,c,hc,y⟩:=y; subst e y; exact hs i acc _ c hi la hc p⟩) fun acc H p la=>⟨show z.cps.size≤n by omega,hd acc H p la⟩
theorem cO {a:Addr} {xs:List V} (n:Nat) (hz:n=xs.length) (hn:n≤1000) (Pv:Nat→List V→Hp→Prop) (h0:Pv 0 [] H1) (hq:∀ i acc H,Pv i acc H→SqT K H a xs)
  (hs:∀ i acc H x,i<n→acc.length≤i→xs[i]?=some x→Pv i acc H→g x σ' H fun σ2 H2=>(σ2.drop m=σ'.drop m∧σ2.length=σ'.length)∧tt σ2 H2 fun b H3=>if b=true then te σ2 H3 fun v H4=>NxT n Pv i acc v H4 else NxF n Pv i acc H3)
  (hd:∀ acc H,Pv n acc H→acc.length≤n→Z acc H):lw (Itt K a) m g tt te σ' Z H1 :=
 kC n hn Pv h0 (fun i acc H hi la p=>by
  have hx:xs[i]?=some (xs[i]'(by omega)):=List.getElem?_eq_getElem (by omega)
  exact ⟨⟨xs,_,hq i acc H p,hx⟩,fun x H' y=>by obtain ⟨e,y⟩:=y; subst e; exact hs i acc _ x hi la (y xs (hq i acc _ p)) p⟩) fun acc H p la=>⟨⟨xs,hq n acc H p,by omega⟩,hd acc H p la⟩
end
theorem bp {σ:St} {H:Hp} {A B:Hp→Prop} (h:A H):yS σ H (fun b H3=>if b=true then A H3 else B H3):=by
 show if true=true then A H else B H
 exact ww h
end L2
namespace PySem
section
variable {prog:Program} {w:World} {A:Around} {E:Value→Shared→Prop} {h:Heap} {g:Array GenState} {d:Drawn} {t:Nat} {os:OsState} {a:Addr} {items:Array Value} {n:Nat} {sl:Array (Option Value)}
theorem mt:typeLookup (.type "tuple") "keys"=pure none:=am_miss_of_fast (by decide +kernel)
theorem jL:typeLookup (.type "tuple") "__getattr__"=pure none:=by rw [typeLookup_type,builtinLookup_eq_fast]; kernel_rfl
theorem jp {tk:Tok} {Q:Fin→Shared→Prop} (hx:h.get? a=some ⟨.type "tuple",none,.seq items n,sl⟩) (hA:A.handled=none)
  (hQ:∀ h' tk' e,Heap.NewAttrErr h h' e (.ref a) "keys"→E (.ref e) ⟨h',g,d,tk',os⟩) :
  wpAny (model prog w) A (Builtin.«object.__getattribute__» ⟨[.ref a,.str "keys" tk],[]⟩) Q E ⟨h,g,d,t,os⟩:=by
 have hT:(⟨h,g,d,t,os⟩:Shared).TypeIs (.ref a) "tuple":=⟨_,hx,rfl⟩
 have f4:=mt
 unfold Builtin.«object.__getattribute__»
 repeat (any_goals (first | assumption | wp_step))
 exact wpAny_raiseAttrError (s:=⟨h,g,d,t,os⟩) hA hQ (attrMsg_fits (by decide +kernel) (by decide))
theorem ki {tk:Tok} {R:Result→Shared→Prop} (hx:h.get? a=some ⟨.type "tuple",none,.seq items n,sl⟩) (hA:A.handled=none)
  (hQ:∀ h' tk' e,Heap.NewAttrErr h h' e (.ref a) "keys"→R (.error (.ref e)) ⟨h',g,d,tk',os⟩) :
  codeAny (model prog w) A (.call (.builtin "tuple.__getattribute__") ⟨[.ref a,.str "keys" tk],[]⟩) R ⟨h,g,d,t,os⟩ :=
 codeAny_call_builtin F.slot_tuple_getattribute.plain F.entry_tuple_ga (F.slot_tuple_getattribute.check _ _ _ _ _ _ _ _ (show (⟨h,g,d,t,os⟩:Shared).TypeIs (.ref a) "tuple" from ⟨_,hx,rfl⟩) (F.args_tuple_getattribute_2 _ _) (jp hx hA hQ))
theorem mD {tk:Tok} {Q:Value→Shared→Prop} (hx:h.get? a=some ⟨.type "tuple",none,.seq items n,sl⟩) (hA:A.handled=none)
  (hQ:∀ h' tk' e,Heap.NewAttrErr h h' e (.ref a) "keys"→E (.ref e) ⟨h',g,d,tk',os⟩):wpAny (model prog w) A (getAttrBy (.ref a) (.str "keys" tk) false) Q E ⟨h,g,d,t,os⟩:=by
 have hT:(⟨h,g,d,t,os⟩:Shared).TypeIs (.ref a) "tuple":=⟨_,hx,rfl⟩
 have f1:=sub_AttributeError
 have f2:=F.slot_tuple_getattribute.lookup
 have f3:=F.slot_tuple_getattribute.bind (.ref a)
 have f5:=jL
 unfold getAttrBy
 repeat (any_goals (first | assumption | wp_step))
 refine ki hx hA fun h' tk' e hx'=>?_
 obtain ⟨t',u',he⟩:=hx'.there
 show wpAny _ _ (getattributeRaised _ _ _ _ _ _ _) _ _ _
 unfold getattributeRaised
 repeat (any_goals (first | assumption | wp_step))
 exact hQ _ _ _ hx'
theorem ka {Q:Option Value→Shared→Prop} (hx:h.get? a=some ⟨.type "tuple",none,.seq items n,sl⟩) (hA:A.handled=none)
  (hQ:∀ h' tk',(∀ b o,h.get? b=some o→h'.get? b=some o)→Q none ⟨h',g,d,tk',os⟩):wpAny (model prog w) A (getAttr? (.ref a) "keys") Q E ⟨h,g,d,t,os⟩:=by
 have f1:=sub_AttributeError
 unfold getAttr? getAttrBy?
 refine wpAny_bind (wpAny_mkText (wpAny_bind (wpAny_attempt (mD hx hA fun h' tk' e hx'=>?_))))
 obtain ⟨t',u',he⟩:=hx'.there
 have hT:(⟨h',g,d,tk',os⟩:Shared).TypeIs (.ref e) "AttributeError":=⟨_,he,rfl⟩
 refine wpAny_bind (wpAny_isInstance hT f1 ?_)
 exact wpAny_pure (hQ h' tk' hx'.keeps)
end
end PySem
namespace L2
open PySem PySem.Spec PyProof.Rows
theorem nr:entryFor table "dict.update.loop"=some Builtin.«dict.update.loop»:=entryFor_of_tree (by kernel_rfl)
theorem gX:plainId "dict.update.loop"=true:=by decide +kernel
theorem rA {κ:Type} [DecidableEq κ] {kvs:List (κ×Value)} {k:κ} {v:Value} (h:k∉kvs.map (·.1)):stored kvs k v=kvs++[(k,v)]:=by
 unfold stored
 rw [if_neg]
 intro q
 obtain ⟨x,hx,e⟩:=List.any_eq_true.mp q
 exact h (List.mem_map.mpr ⟨x,hx,of_decide_eq_true e⟩)
section
variable {prog:Program} {w:World} {A:Around} {R:Result→Shared→Prop} {dd it tp:Addr} {items:List Value} {ps:List (Str×Value)}
def Au (h:Heap) (it dd:Addr) (v:Value) (p:Str×Value):Prop:=∃ q t,v=.ref q∧q≠it∧q≠dd∧IsTup h q #[.str p.1 t,p.2]
theorem tP (hh:A.handled=none) (hid:it≠dd) (hti:tp≠it) (htd:tp≠dd) (hlen:items.length=ps.length) (hsz:items.length≤1000) (hnd:(ps.map (·.1)).Nodup) :
  ∀ (k i:Nat) (s:Shared),items.length - i=k→i≤items.length→s.heap.IsTupleIter it tp i→s.heap.IsTuple tp items.toArray→s.heap.DictOf (dM prog w) dd ((ps.take i).map fun p=>(Sum.inr p.1,p.2)) →
  (∀ (j:Nat) v p,items[j]?=some v→ps[j]?=some p→Au s.heap it dd v p) →
  (∀ h' tk,h'.DictOf (dM prog w) dd (ps.map fun p=>(Sum.inr p.1,p.2))→(∀ b o,b≠it→b≠dd→s.heap.get? b=some o→h'.get? b=some o)→R (.ok (.ret .none)) { s with heap:=h',toks:=tk }) →
  codeAny (model prog w) A (.builtin "dict.update.loop" ⟨[.ref dd,.ref it,rawInt i,.none],[]⟩) R s:=by
 intro k
 induction k with
 | zero =>
  intro i s hk hi st tpl hd hp hR
  have hin:i=items.length:=by omega
  subst hin
  refine codeAny_builtin nr ?_
  rw [Around.under_plainId gX _]
  show wpAny _ A.in1 (pyNext (.ref it) >>= _) _ _ s
  refine wpAny_bind (wpAny_pyNext_tuple_end hh st tpl (by simp) fun h' eb=>?_)
  refine wpAny_bind (wpAny_pure (wpAny_pure ?_))
  refine hR h' s.toks ?_ fun b o hb _ e=>eb b o hb e
  rw [hlen,List.take_length] at hd
  exact hd.extBut (fun b o hb e=>eb b o hb e) (Ne.symm hid)
 | succ k ih =>
  intro i s hk hi st tpl hd hp hR
  have hlt:i<items.length:=by omega
  have hv:items[i]?=some items[i]:=List.getElem?_eq_getElem hlt
  have hq:ps[i]?=some (ps[i]'(by omega)):=List.getElem?_eq_getElem (by omega)
  obtain ⟨q,t,ev,hqi,hqd,tq⟩:=hp i _ _ hv hq
  refine codeAny_builtin nr ?_
  rw [Around.under_plainId gX _]
  show wpAny _ A.in1 (pyNext (.ref it) >>= _) _ _ s
  refine wpAny_bind (wpAny_pyNext_tuple_item st tpl (x:=items[i]) (by simpa using hv) fun h1 st1 sb1=>?_)
  rw [ev]
  have tq1:IsTup h1 q #[.str (ps[i]'(by omega)).1 t,(ps[i]'(by omega)).2]:=let ⟨o,e,r⟩:=tq; ⟨o,(sb1.2 q hqi).trans e,r⟩
  obtain ⟨oq,eq,cq,nq,dq⟩:=id tq1
  refine wpAny_bind (wpAny_holding (wpAny_bind (wpAny_tryCatch ?_)))
  unfold Builtin.Dict.pairItems
  refine wpAny_bind (wpAny_typeOf (T := "tuple") ⟨oq,eq,cq⟩ ?_)
  rw [if_pos (by decide)]
  refine wpAny_bind (wpAny_seqItems eq dq (wpAny_pure ?_))
  show wpAny _ _ (holding [_,_] (dictSet dd (.str (ps[i]'(by omega)).1 t) (ps[i]'(by omega)).2)) _ _ _
  have hd1:h1.DictOf (dM prog w) dd ((ps.take i).map fun p=>(Sum.inr p.1,p.2)):=hd.extBut sb1.extBut (Ne.symm hid)
  refine wpAny_holding (wpAny_dictSet_pairs (knd:=dM prog w) (k:=Sum.inr (ps[i]'(by omega)).1) (jX _ _ _ _) hd1 (fun h2 hd2 sb2=>?_) (Nat.le_of_lt (aC (by rw [List.length_map,List.length_take]; omega))))
  have nw:stored ((ps.take i).map fun p=>((Sum.inr p.1:Key),p.2)) (Sum.inr (ps[i]'(by omega)).1) (ps[i]'(by omega)).2=(ps.take (i+1)).map fun p=>(Sum.inr p.1,p.2):=by
   rw [rA,List.take_add_one,hq,List.map_append]
   ·rfl
   ·intro z
    rw [List.map_map] at z
    obtain ⟨p,hp',e⟩:=List.mem_map.mp z
    have e':p.1=(ps[i]'(by omega)).1:=Sum.inr.inj e
    obtain ⟨j,hj,ej⟩:=List.mem_take_iff_getElem.mp hp'
    have hj':j<ps.length:=by omega
    have:(ps.map (·.1))[j]'(by simpa using hj')=(ps.map (·.1))[i]'(by rw [List.length_map]; omega):=by simp only [List.getElem_map]; rw [ej]; exact e'
    have:=(List.getElem_inj hnd).mp this
    omega
  rw [nw] at hd2
  have up:∀ b o,b≠it→b≠dd→s.heap.get? b=some o→h2.get? b=some o:=fun b o hb hb2 e=>(sb2.2 b hb2).trans ((sb1.2 b hb).trans e)
  refine wpAny_pure ⟨plainId_quiet gX _,?_⟩
  have nx:=ih (i+1) { s with heap:=h2,toks:=s.toks+1 } (by omega) hlt (by obtain ⟨o,e,r⟩:=st1; exact ⟨o,(sb2.2 it hid).trans e,r⟩) (by obtain ⟨o,e,r⟩:=tpl; exact ⟨o,up _ _ hti htd e,r⟩) hd2
   (fun j v p ej ep=>by obtain ⟨q,t,e,n1,n2,o,e2,r⟩:=hp j v p ej ep; exact ⟨q,t,e,n1,n2,o,up _ _ n1 n2 e2,r⟩)
   fun h' tk hd' up'=>hR h' tk hd' fun b o hb hb2 e=>up' b o hb hb2 (up b o hb hb2 e)
  exact nx
end
open PySem PySem.Spec PyProof.Rows
section
variable {X:Cx}
def tf (K:Frag) (H:Hp) (y:V) (p:Str×V):Prop:=∃ q,y=.ref q∧SqT K H q [.str p.1,p.2]
theorem mq {α β:Type} {F:α→β→Prop}:∀ {l:List α} {m:List β},Paired F l m→∀ (j:Nat) a b,l[j]?=some a→m[j]?=some b→F a b
 | _,_,.nil,_,_,_,h,_=>by simp at h
 | _,_,.cons h t,0,_,_,h1,h2=>by simp at h1 h2; subst h1 h2; exact h
 | _,_,.cons h t,j+1,_,_,h1,h2=>mq t j _ _ (by simpa using h1) (by simpa using h2)
theorem aK.vals_pairs {I:Unit} {X:Cx} {pins:List (Addr×Obj)} {σ:St} {H:Hp} {s:Shared} (J:Inv X pins σ H s):∀ {ys:List V} {ps:List (Str×V)} {its:List Value},Paired (tf X.K H) ys ps→aK ys its →
  ∃ qs:List (Str×Value),Paired (fun (p:Str×V) (q:Str×Value)=>p.1=q.1∧br p.2 q.2) ps qs∧Paired (fun v (p:Str×Value)=>∃ q t,v=.ref q∧q<s.heap.objs.size∧IsTup s.heap q #[.str p.1 t,p.2]) its qs
 | _,_,_,.nil,.nil=>⟨[],.nil,.nil⟩
 | _,_,_,.cons h t,.cons r rr=>by
  obtain ⟨qs,h1,h2⟩:=aK.vals_pairs (I:=I) J t rr
  obtain ⟨q,e,hq⟩:=h
  subst e
  cases r
  obtain ⟨it2,rv,p,_⟩:=J.tuple hq
  obtain ⟨u1,u2,e2,r1,r2⟩:=ss rv
  subst e2
  obtain ⟨t,e3⟩:=(show ∃ t,u1=Value.str _ t from r1)
  subst e3
  exact ⟨(_,u2)::qs,.cons ⟨rfl,r2⟩ h1,.cons ⟨q,t,rfl,p.lt,p⟩ h2⟩
theorem uF:∀ {ps:List (Str×V)} {qs:List (Str×Value)},Paired (fun (p:Str×V) (q:Str×Value)=>p.1=q.1∧br p.2 q.2) ps qs→KV (ps.map fun p=>((Sum.inr p.1:Key),p.2)) (qs.map fun p=>(Sum.inr p.1,p.2))
 | _,_,.nil=>.nil
 | _,_,.cons h t=>.cons ⟨by show Sum.inr _=Sum.inr _; rw [h.1],h.2⟩ (uF t)
theorem sL:∀ {ps:List (Str×V)} {qs:List (Str×Value)},Paired (fun (p:Str×V) (q:Str×Value)=>p.1=q.1∧br p.2 q.2) ps qs→ps.map (·.1)=qs.map (·.1)
 | _,_,.nil=>rfl
 | _,_,.cons h t=>by rw [List.map_cons,List.map_cons,h.1,sL t]
def Ab (K:Frag):List V→Hp→VK→Prop:=fun xs H Q=>∃ p ys ps,xs=[.ref p]∧H p=some (.tup ys)∧ys.length≤1000∧(List.map (fun q:Str×V=>q.1) ps).Nodup∧Paired (tf K H) ys ps ∧
 ∀ l,H l=none→Q (.ref l) (upd H l (.dK (ps.map fun p=>(Sum.inr p.1,p.2))))
theorem iu (hc:X.calm=true):bJ X (.type "dict") (Ab X.K):=by
 intro pins s σ H xs us Q I r h
 obtain ⟨p,ys,ps,rfl,hp,hl,hnd,hpr,q⟩:=h
 obtain ⟨u,rfl,ru⟩:=cU r
 cases ru
 obtain ⟨hz,its,rv,tp,o2,e2,d2⟩:=(show bR X.prog X.w H s.heap p (.tup ys) from I.hok p _ hp)
 obtain ⟨qs,k1,k2⟩:=aK.vals_pairs (I:=()) I hpr rv
 obtain ⟨⟨cls,dct,data,sl⟩,ho,hcl,n,hdt⟩:=id tp
 rw [ho] at e2
 cases e2
 simp only at hcl hdt d2
 subst hcl hdt d2
 have hlt:p<s.heap.objs.size:=Heap.lt_size ho
 refine callType_codes (Q₁:=fun obj s₁=>obj=.ref s.heap.objs.size∧s₁={ s with heap:=s.heap.push { cls:=.type "dict",data:=.dict #[] } }) F.kt_called_dict (F.kt_typeCall_dict_1 _) F.entry_dict_init (kt_code_dict_new _ ⟨rfl,rfl⟩) ?_
 rintro obj s₁ ⟨rfl,rfl⟩
 have hnew:(s.heap.push { cls:=.type "dict",data:=.dict #[] }).DictOf (dM X.prog X.w) s.heap.objs.size []:=Heap.DictOf.new s.heap
 refine ⟨hnew.typeIs,F.args_dict_init_2 _ _,?_⟩
 unfold Builtin.«dict.__init__»
 refine wpAny_bind ?_
 unfold Builtin.Dict.selfAndRest
 refine wpAny_bind (wpAny_notOrdered_dict hnew.typeIs ?_)
 show wpAny _ _ (pure (s.heap.objs.size,[Value.ref p])) _ _ _
 refine wpAny_pure ?_
 show wpAny _ _ (Builtin.Dict.updateFrom "dict.__init__" s.heap.objs.size (.ref p) [] .none) _ _ _
 unfold Builtin.Dict.updateFrom
 have ho1:(s.heap.push { cls:=.type "dict",data:=.dict #[] }).get? p=some ⟨.type "tuple",none,.seq its.toArray n,sl⟩:=Heap.get?_push_of_some _ ho
 refine wpAny_bind (wpAny_typeOf (T := "tuple") ⟨_,ho1,rfl⟩ ?_)
 rw [if_pos (by decide)]
 refine wpAny_bind (ka (h:=s.heap.push { cls:=.type "dict",data:=.dict #[] }) (g:=s.gens) (d:=s.drawn) (t:=s.toks) (os:=s.os) ho1 (I.ok.hd hc) fun h1 tk1 kp1=>?_)
 rw [if_pos (show (none:Option Value).isNone=true from rfl)]
 refine wpAny_bind (wpAny_rule (wpAny_bind (wpAny_pyIter_tuple (show h1.IsTuple p its.toArray from ⟨_,kp1 _ _ ho1,rfl,n,rfl⟩) ?_)))
 have old:∀ b o,s.heap.get? b=some o→(h1.push { cls:=.type "tuple_iterator",data:=.fields #[.ref p,.int 0 0] }).get? b=some o:=fun b o e=>Heap.get?_push_of_some _ (kp1 b o (Heap.get?_push_of_some _ e))
 have hnew1:h1.DictOf (dM X.prog X.w) s.heap.objs.size []:=by obtain ⟨o,es,ep,e,rr⟩:=hnew; exact ⟨o,es,ep,kp1 _ _ e,rr⟩
 have hdl:s.heap.objs.size<h1.objs.size:=by obtain ⟨o,es,ep,e,rr⟩:=hnew1; exact Heap.lt_size e
 refine wpAny_pure ⟨plainId_quiet gX _,?_⟩
 refine tP (A:=X.A.in1) (prog:=X.prog) (w:=X.w) (dd:=s.heap.objs.size) (it:=h1.objs.size) (tp:=p) (items:=its) (ps:=qs) (I.ok.hd hc) (Nat.ne_of_gt hdl) (Nat.ne_of_lt (Nat.lt_trans hlt hdl)) (Nat.ne_of_lt hlt) (Paired.length k2) (by rw [← rv.length]; exact hl) (by rw [← sL k1]; exact hnd)
  its.length 0 ⟨h1.push { cls:=.type "tuple_iterator",data:=.fields #[.ref p,.int 0 0] },s.gens,s.drawn,tk1,s.os⟩ rfl (Nat.zero_le _) ⟨_,Heap.get?_push_size _ rfl,rfl,rfl⟩ ⟨_,old _ _ ho,rfl,n,rfl⟩ (by exact hnew1.push _) (fun j v pr ej ep=>?_) fun h' tk hd' up=>?_
 ·obtain ⟨q',t,e,hlq,o,e3,r3⟩:=mq k2 j v pr ej ep
  exact ⟨q',t,e,Nat.ne_of_lt (Nat.lt_trans hlq hdl),Nat.ne_of_lt hlq,o,old _ _ e3,r3⟩
 ·refine ⟨rfl,.ref s.heap.objs.size,upd H s.heap.objs.size (.dK (ps.map fun p=>(Sum.inr p.1,p.2))),?_,rfl,q _ (I.hok.fresh (Nat.le_refl _))⟩
  refine I.laid (h':=h') (t':=tk) (fun b o e=>up b o (Nat.ne_of_lt (Nat.lt_trans (Heap.lt_size e) hdl)) (Nat.ne_of_lt (Heap.lt_size e)) (old b o e)) (Nat.le_refl _) ?_
  refine ⟨?_,?_,_,uF k1,hd'⟩
  ·rw [List.length_map,Paired.length k1,← Paired.length k2,← rv.length]; exact Nat.le_of_lt (aC hl)
  ·have hbig:mainGlobals<s.heap.objs.size:=(I.mod.glob.keeps I.bk).lt
   exact beq_eq_false_iff_ne.mpr (Nat.ne_of_gt (Nat.lt_trans (by decide) hbig))
def Cu:R2:=fun x y H Q=>∃ p kvs z v,x=.ref p∧y=.str z∧H p=some (.dK kvs)∧(kvs.find? fun kv=>decide (kv.1=Sum.inr z)).map (·.2)=some v∧Q v H
theorem sC {k:Key} {v:V}:∀ {kvs:List (Key×V)} {vs:List (Key×Value)},KV kvs vs→(kvs.find? fun kv=>decide (kv.1=k)).map (·.2)=some v→∃ u,valueAt vs k=some u∧br v u
 | _,_,.nil,h=>by simp at h
 | _,_,.cons (a:=a) (b:=b) r t,h=>by
  unfold valueAt
  rw [List.find?_cons] at h ⊢
  by_cases e:a.1=k
  ·have e':b.1=k:=r.1.symm.trans e
   rw [decide_eq_true e] at h
   rw [decide_eq_true e']
   have h':a.2=v:=by simpa using h
   exact ⟨b.2,rfl,h' ▸ r.2⟩
  ·have e':¬ b.1=k:=fun z=>e (r.1.trans z)
   rw [decide_eq_false e] at h
   rw [decide_eq_false e']
   exact sC t h
theorem nS:IxR X Cu:=by
 intro value slice pins s σ H x y v u Q I rx ry h hs
 obtain ⟨p,kvs,z,w',rfl,rfl,hp,hv,q⟩:=h
 cases rx
 obtain ⟨t,rfl⟩:=ry
 obtain ⟨_,_,vs,rel,dd⟩:=(show bR X.prog X.w H s.heap p (.dK kvs) from I.hok p _ hp)
 obtain ⟨u',e,ru⟩:=sC rel hv
 have fin:EP X pins σ Q u' { s with toks:=s.toks+1 }:=⟨w',H,I.tok _,ru,q⟩
 exact subscriptTail_builtinR (x:=u') dd.typeIs PySem.F.slot_dict_getitem.lookup (wpAny_getItem_of (Q:=fun r s'=>r=u'∧EP X pins σ Q r s') (knd:=dM X.prog X.w) (k:=Sum.inr z) (jX _ _ _ _) dd.mapOf e ⟨rfl,fin⟩) hs
end
end L2
namespace PySem
section
variable {prog:Program} {w:World} {A:Around} {E:Value→Shared→Prop} {s:Shared}
theorem me {it t:Addr} {i:Nat} {items:Array Value} {Q:Value→Shared→Prop} (hh:A.handled=none) (hit:s.heap.IsTupleIter it t i) (ht:s.heap.IsTuple t items)
  (hQ:∀ x,items[i]?=some x→∀ h',h'.IsTupleIter it t (i+1)→Heap.SameBut it s.heap h'→Q x { s with heap:=h' })
  (hE:items[i]?=none→∀ h' e,Heap.ExtBut it s.heap h'→(∃ o,h'.get? e=some o∧o.cls=.type "StopIteration")→E (.ref e) { s with heap:=h' }) :
  wpAny (model prog w) A (Builtin.SmallTypes.nextOf (.ref it)) Q E s:=by
 obtain ⟨oi,gi,ci,di⟩:=id hit
 obtain ⟨ot,gt,_,m,dt⟩:=ht
 have sl:=F.slot_tuple_iterator_next
 unfold Builtin.SmallTypes.nextOf
 refine wpAny_bind (wpAny_callSpecial?_slot (name:=Str.ofString "__next__") hit.typeIs sl (wpAny_call_entry sl hit.typeIs F.entry_tuple_iterator_next ?_ (F.args_tuple_iterator_next_1 _)))
 refine wpAny_bind (m:=field (.ref it) 0) (wpAny_field gi di (x:=.ref t) rfl ?_)
 have nn:¬ ((Value.ref t==Value.none)=true):=Bool.false_ne_true
 show wpAny _ _ (if (Value.ref t==Value.none)=true then _ else _) _ _ _
 rw [if_neg nn]
 refine wpAny_bind (m:=field (.ref it) 1) (wpAny_field gi di (x:=.int i 0) rfl (wpAny_bind (m:=seqItems? (.ref t)) (wpAny_seqItems gt dt ?_)))
 cases q:items[i]? with
 | some x =>
  simp only [Int.toNat_natCast,q]
  refine wpAny_bind (wpAny_setField gi di (by simp) (wpAny_pure ⟨x,rfl,wpAny_pure (hQ x q _ ⟨_,Heap.get?_update_self _ gi ?_,?_,?_⟩ (Heap.SameBut.update ..))⟩))
  ·exact Obj.isFreed_of_fields (Obj.data_mapFields di _)
  ·exact (Obj.cls_mapFields ..).trans ci
  ·rw [Obj.data_mapFields di]
   simp [rawInt]
 | none =>
  simp only [Int.toNat_natCast,q]
  refine wpAny_bind (wpAny_rule (wpAny_bind (wpAny_setField gi di (by simp) (wpAny_bind (m:=newExc (.type "StopIteration") []) ?_))))
  simp only [newExc,newTuple]
  refine wpAny_bind (wpAny_newObj_type (wpAny_bind (m:=firstArgMember _ _) (wpAny_of_eq (a:=Value.none) (by first | rfl | (simp only [firstArgMember]; rfl)) (wpAny_newObj_type ?_ (by size_fits)))) (by size_fits))
  simp only [raiseNew]
  refine wpAny_bind (wpAny_handled ?_)
  rw [show A.in1.handled=none from hh]
  exact wpAny_bind (wpAny_pure (wpAny_throw (hE q _ _ (((Heap.SameBut.update ..).extBut.push _).push _) ⟨_,Heap.get?_push_size _ rfl,rfl⟩)))
end
theorem Draws.tup {prog:Program} {w:World} {A:Around} (hh:A.handled=none) (it l:Addr) (hne:l≠it) (items:Array Value) :
  Draws prog w A it [it,l] items.size (fun i v=>items[i]?=some v) (fun i h=>h.IsTupleIter it l i∧h.IsTuple l items) where
 live:=fun _ _ st=>let ⟨o,ho,_⟩:=st.1; ⟨o,ho⟩
 frame:=fun _ _ _ st hk=>⟨st.1.at fun o e=>hk it (by simp) o e,let ⟨o,e,r⟩:=st.2; ⟨o,hk l (by simp) o e,r⟩⟩
 item:=fun i s Q E hi st hQ=>me hh st.1 st.2 (fun x ex h' st' sb=>hQ x h' s.toks ex ⟨st',st.2.extBut sb.extBut hne⟩ sb) fun e=>by simp at e; omega
 done:=fun s Q E st hE=>me hh st.1 st.2 (fun x ex=>by simp at ex) fun _=>hE
def ItS (k:Bool) (h:Heap) (it l:Addr) (i:Nat):Prop:=match k with | true=>h.IsTupleIter it l i | false=>h.IsListIter it l i
def SqS (k:Bool) (h:Heap) (l:Addr) (items:Array Value):Prop:=match k with | true=>h.IsTuple l items | false=>h.IsList l items
def kK (k:Bool) (l:Addr):Obj:={ cls:=.type (match k with | true => "tuple_iterator" | false => "list_iterator"),data:=.fields #[.ref l,.int 0 0] }
theorem ItS.new {k:Bool} {h:Heap} {l a:Addr} (e:h.get? a=some (kK k l)):ItS k h a l 0:=by
 cases k with
 | true=>exact ⟨_,e,rfl,rfl⟩
 | false=>exact ⟨_,e,rfl,rfl⟩
theorem ItS.at {k:Bool} {h h':Heap} {a l:Addr} {i:Nat} (x:ItS k h a l i) (e:∀ o,h.get? a=some o→h'.get? a=some o):ItS k h' a l i:=by
 cases k with
 | true=>obtain ⟨o,ho,r⟩:=x; exact ⟨o,e _ ho,r⟩
 | false=>obtain ⟨o,ho,r⟩:=x; exact ⟨o,e _ ho,r⟩
theorem SqS.at {k:Bool} {h h':Heap} {a:Addr} {xs:Array Value} (x:SqS k h a xs) (e:∀ o,h.get? a=some o→h'.get? a=some o):SqS k h' a xs:=by
 cases k with
 | true=>obtain ⟨o,ho,r⟩:=x; exact ⟨o,e _ ho,r⟩
 | false=>obtain ⟨o,ho,r⟩:=x; exact ⟨o,e _ ho,r⟩
theorem ItS.live {k:Bool} {h:Heap} {a l:Addr} {i:Nat} (x:ItS k h a l i):∃ o,h.get? a=some o∧∀ v,o.data≠.cell v:=by
 cases k with
 | true=>obtain ⟨o,ho,c,d⟩:=x; exact ⟨o,ho,fun v z=>by rw [d] at z; cases z⟩
 | false=>obtain ⟨o,ho,c,d⟩:=x; exact ⟨o,ho,fun v z=>by rw [d] at z; cases z⟩
theorem Draws.sq {prog:Program} {w:World} {A:Around} (hh:A.handled=none) (it l:Addr) (hne:l≠it) (items:Array Value) (k:Bool) :
  Draws prog w A it [it,l] items.size (fun i v=>items[i]?=some v) (fun i h=>ItS k h it l i∧SqS k h l items):=by
 cases k with
 | true=>exact Draws.tup hh it l hne items
 | false=>exact Draws.list hh it l hne items
theorem nF {prog:Program} {w:World} {A:Around} {E:Value→Shared→Prop} {s:Shared} {k:Bool} {l:Addr} {items} {Q:Value→Shared→Prop} (ht:SqS k s.heap l items)
  (hQ:Q (.ref s.heap.objs.size) { s with heap:=s.heap.push (kK k l) }):wpAny (model prog w) A (pyIter (.ref l)) Q E s:=by
 cases k with
 | true=>exact wpAny_pyIter_tuple ht hQ
 | false=>exact wpAny_pyIter_list ht hQ
structure ZA (z TI TO i1 i2:Addr) (f1 f2:List Addr):Prop where
 TIz:TI≠z
 TOz:TO≠z
 i1z:i1≠z
 i2z:i2≠z
 TITO:TI≠TO
 TIi1:TI≠i1
 TIi2:TI≠i2
 TOi1:TO≠i1
 TOi2:TO≠i2
 i12:i1≠i2
 z1:z∉f1
 z2:z∉f2
 t1:TO∉f1
 t2:TO∉f2
 m1:i1∉f2
 m2:i2∉f1
section
variable {prog:Program} {w:World} {A:Around} {E:Value→Shared→Prop} {s:Shared} {z TI TO i1 i2:Addr} {f1 f2:List Addr} {n1 n2 k1 k2:Nat} {P1 P2:Nat→Value→Prop} {S1 S2:Nat→Heap→Prop} {a b:Value}
theorem ndI {c d:Addr} {f:List Addr} (h:d∉f) (hc:c∈f):c≠d:=fun q=>h (q ▸ hc)
theorem tN {Q:Value→Shared→Prop} (D1:Draws prog w A i1 f1 n1 P1 S1) (D2:Draws prog w A i2 f2 n2 P2 S2) (D:ZA z TI TO i1 i2 f1 f2)
  (hz:IsZip s.heap z TI TO .none) (hTI:IsPair s.heap TI (.ref i1) (.ref i2)) (hTO:IsPair s.heap TO a b) (h1:S1 k1 s.heap) (h2:S2 k2 s.heap) (b1:k1≤n1) (b2:k2≤n2)
  (hQ:k1<n1→k2<n2→∀ x y h' tk,P1 k1 x→P2 k2 y→IsZip h' z TI TO (rawInt s.heap.objs.size)→IsPair h' TO x y→S1 (k1+1) h'→S2 (k2+1) h'→IsPair h' s.heap.objs.size x y →
   (∀ c o,c≠z→c≠TO→c≠i1→c≠i2→s.heap.get? c=some o→h'.get? c=some o)→Q (.ref s.heap.objs.size) { s with heap:=h',toks:=tk })
  (hE:k1=n1∨k2=n2→∀ h' tk e,(∀ c o,c≠z→c≠TO→c≠i1→c≠i2→s.heap.get? c=some o→h'.get? c=some o)→(∃ o,h'.get? e=some o∧o.cls=.type "StopIteration")→E (.ref e) { s with heap:=h',toks:=tk }) :
  wpAny (model prog w) A (Builtin.«zip.__next__» ⟨[.ref z],[]⟩) (fun fin s'=>∃ v,fin=.done (.ret v)∧Q v s') E s:=by
 refine wpAny_bind (m:=field (.ref z) 2) (wpAny_field hz rfl (x:=.bool false) rfl (wpAny_bind (m:=field (.ref z) 3) (wpAny_field hz rfl (x:=.ref TI) rfl (wpAny_bind (wpAny_seqItems hTI rfl (wpAny_bind (m:=Builtin.SmallTypes.ownedTupleIsFree (.ref z)) ?_))))))
 unfold Builtin.SmallTypes.ownedTupleIsFree
 refine wpAny_bind (wpAny_field hz rfl (x:=.none) rfl (wpAny_pure ?_))
 simp only [if_true]
 refine wpAny_bind (wpAny_rule (wpAny_bind (wpAny_field hz rfl (x:=.ref TO) rfl (wpAny_bind (wpAny_setField_rec hz (by simp) fun ha (za:IsZip ha z TI TO .ellipsis) ea=>wpAny_bind ?_)))))
 simp only [List.zipIdx_cons,List.zipIdx_nil,List.forIn_cons,List.forIn_nil]
 refine wpAny_bind (wpAny_bind (wpAny_onRaise (wpAny_bind (m:=Builtin.SmallTypes.nextOf (.ref i1)) ?_)))
 have fa:S1 k1 ha:=D1.frame _ _ _ h1 fun c hc o e=>ea.extBut _ _ (ndI D.z1 hc) e
 rcases Nat.lt_or_eq_of_le b1 with l1 | e1
 ·refine D1.item k1 _ _ _ l1 fa fun x hb tk hx s1b eb=>wpAny_pure ?_
  have tb:IsPair hb TO a b:=eb.extBut _ _ D.TOi1 (ea.extBut _ _ D.TOz hTO)
  refine wpAny_bind (wpAny_seqItems tb rfl (wpAny_bind (wpAny_updateSeq_pair tb fun hc (tc:IsPair hc TO x b) ec=>wpAny_bind (wpAny_letGo (wpAny_pure ?_)))))
  refine wpAny_bind (wpAny_bind (wpAny_onRaise (wpAny_bind (m:=Builtin.SmallTypes.nextOf (.ref i2)) ?_)))
  have fc:S2 k2 hc:=D2.frame _ _ _ h2 fun c hc o e=>ec.extBut _ _ (ndI D.t2 hc) (eb.extBut _ _ (ndI D.m1 hc) (ea.extBut _ _ (ndI D.z2 hc) e))
  have zc:IsZip hc z TI TO .ellipsis:=ec.extBut _ _ D.TOz.symm (eb.extBut _ _ D.i1z.symm za)
  have kc:∀ c o,c≠z→c≠TO→c≠i1→s.heap.get? c=some o→hc.get? c=some o:=fun c o c1 c2 c3 e=>ec.extBut _ _ c2 (eb.extBut _ _ c3 (ea.extBut _ _ c1 e))
  rcases Nat.lt_or_eq_of_le b2 with l2 | e2
  ·refine D2.item k2 _ _ _ l2 fc fun y hd tk' hy s2d ed=>wpAny_pure ?_
   have td:IsPair hd TO x b:=ed.extBut _ _ D.TOi2 tc
   refine wpAny_bind (wpAny_seqItems td rfl (wpAny_bind (wpAny_updateSeq_pair td fun he (te:IsPair he TO x y) ee=>wpAny_bind (wpAny_letGo (wpAny_pure (wpAny_pure ?_))))))
   refine wpAny_bind (wpAny_seqItems te rfl (wpAny_bind (wpAny_newTuple ?_)))
   have sz:he.objs.size=s.heap.objs.size:=by rw [ee.1,ed.1,ec.1,eb.1,ea.1]
   have ze:IsZip he z TI TO .ellipsis:=ee.extBut _ _ D.TOz.symm (ed.extBut _ _ D.i2z.symm zc)
   have s1e:S1 (k1+1) he:=D1.frame _ _ _ s1b fun c hc o e=>ee.extBut _ _ (ndI D.t1 hc) (ed.extBut _ _ (ndI D.m2 hc) (ec.extBut _ _ (ndI D.t1 hc) e))
   have s2e:S2 (k2+1) he:=D2.frame _ _ _ s2d fun c hc o e=>ee.extBut _ _ (ndI D.t2 hc) e
   refine wpAny_bind (m:=Builtin.SmallTypes.ownedTupleHandOut (.ref z) (.ref he.objs.size)) ?_
   unfold Builtin.SmallTypes.ownedTupleHandOut
   have zf:IsZip (he.push { cls:=.type "tuple",data:=.seq #[x,y] }) z TI TO .ellipsis:=Heap.get?_push_of_some _ ze
   refine wpAny_bind (wpAny_setField_rec zf (by simp) fun hg (zg:IsZip hg z TI TO (rawInt he.objs.size)) eg=>wpAny_setField_rec zg (by simp) fun hi (zi:IsZip hi z TI TO (rawInt he.objs.size)) ei=>wpAny_pure ⟨_,rfl,?_⟩)
   have up:∀ c o,c≠z→(he.push { cls:=.type "tuple",data:=.seq #[x,y] }).get? c=some o→hi.get? c=some o:=fun c o c1 e=>ei.extBut _ _ c1 (eg.extBut _ _ c1 e)
   have up':∀ c o,c≠z→he.get? c=some o→hi.get? c=some o:=fun c o c1 e=>up c o c1 (Heap.get?_push_of_some _ e)
   have pi:IsPair hi he.objs.size x y:=up _ _ (Nat.ne_of_gt (Heap.lt_size ze)) (Heap.get?_push_size _ rfl)
   show Q (.ref he.objs.size) _
   rw [sz] at zi pi ⊢
   exact hQ l1 l2 x y hi tk' hx hy zi (up' _ _ D.TOz te) (D1.frame _ _ _ s1e fun c hc o e=>up' _ o (ndI D.z1 hc) e) (D2.frame _ _ _ s2e fun c hc o e=>up' _ o (ndI D.z2 hc) e) pi
    fun c o c1 c2 c3 c4 e=>up' c o c1 (ee.extBut _ _ c2 (ed.extBut _ _ c4 (kc c o c1 c2 c3 e)))
  ·subst e2
   refine D2.done _ _ _ fc fun hd x ed ⟨oe,ge,ce⟩=>?_
   have zd:IsZip hd z TI TO .ellipsis:=ed _ _ D.i2z.symm zc
   have ne:x≠z:=fun q=>by subst q; rw [zd] at ge; cases ge; simp at ce
   exact wpAny_setField_rec zd (by simp) fun he _ ee=>hE (.inr rfl) he _ x (fun c o c1 c2 c3 c4 q=>ee.extBut _ _ c1 (ed _ _ c4 (kc c o c1 c2 c3 q))) ⟨oe,ee.extBut _ _ ne ge,ce⟩
 ·subst e1
  refine D1.done _ _ _ fa fun hb x eb ⟨oe,ge,ce⟩=>?_
  have zb:IsZip hb z TI TO .ellipsis:=eb _ _ D.i1z.symm za
  have ne:x≠z:=fun q=>by subst q; rw [zb] at ge; cases ge; simp at ce
  exact wpAny_setField_rec zb (by simp) fun he _ ee=>hE (.inl rfl) he _ x (fun c o c1 _ c3 _ q=>ee.extBut _ _ c1 (eb _ _ c3 (ea.extBut _ _ c1 q))) ⟨oe,ee.extBut _ _ ne ge,ce⟩
theorem jV {Q:Option Value→Shared→Prop} (D1:Draws prog w A.in1 i1 f1 n1 P1 S1) (D2:Draws prog w A.in1 i2 f2 n2 P2 S2) (D:ZA z TI TO i1 i2 f1 f2)
  (hz:IsZip s.heap z TI TO .none) (hTI:IsPair s.heap TI (.ref i1) (.ref i2)) (hTO:IsPair s.heap TO a b) (h1:S1 k1 s.heap) (h2:S2 k2 s.heap) (b1:k1≤n1) (b2:k2≤n2)
  (hQ:k1<n1→k2<n2→∀ x y h' tk,P1 k1 x→P2 k2 y→IsZip h' z TI TO (rawInt s.heap.objs.size)→IsPair h' TO x y→S1 (k1+1) h'→S2 (k2+1) h'→IsPair h' s.heap.objs.size x y →
   (∀ c o,c≠z→c≠TO→c≠i1→c≠i2→s.heap.get? c=some o→h'.get? c=some o)→Q (some (.ref s.heap.objs.size)) { s with heap:=h',toks:=tk })
  (hN:k1=n1∨k2=n2→∀ h' tk,(∀ c o,c≠z→c≠TO→c≠i1→c≠i2→s.heap.get? c=some o→h'.get? c=some o)→Q none { s with heap:=h',toks:=tk }) :
  wpAny (model prog w) A (pyNext (.ref z)) Q E s:=by
 have ty:s.TypeIs (.ref z) "zip":=⟨_,hz,rfl⟩
 have sl:=F.slot_zip_next
 unfold pyNext
 refine wpAny_bind (wpAny_attempt (wpAny_callSpecial?_slot (name:=Str.ofString "__next__") ty sl (wpAny_call_entry sl ty F.entry_zip_next ?_ (F.args_zip_next_1 _))))
 refine tN D1 D2 D hz hTI hTO h1 h2 b1 b2 (fun l1 l2 x y h' tk p1 p2 a1 a2 a3 a4 a5 a6=>wpAny_pure (hQ l1 l2 x y h' tk p1 p2 a1 a2 a3 a4 a5 a6)) fun en h' tk e hk ⟨o,ho,hc⟩=>?_
 exact wpAny_bind (wpAny_isInstance (T := "StopIteration") (b:=true) ⟨o,ho,hc⟩ isSubtype_stop (wpAny_pure (hN en _ _ hk)))
end
end PySem
namespace PySem
theorem oy (k1 k2:Bool) (l1 l2:Addr) (xs ys:Array Value) :
  Meets (Builtin.«zip.__new__» ⟨[.type "zip",.ref l1,.ref l2],[]⟩) (fun _ R s=>SqS k1 s.heap l1 xs∧SqS k2 s.heap l2 ys ∧
   R (.ok (.ret (.ref (s.heap.objs.size+4)))) { s with heap:=((((s.heap.push (kK k1 l1)).push (kK k2 l2)).push { cls:=.type "tuple",data:=.seq #[.ref s.heap.objs.size,.ref (s.heap.objs.size+1)] }).push { cls:=.type "tuple",data:=.seq #[.none,.none] }).push { cls:=.type "zip",data:=.fields #[.none,.bool false,.bool false,.ref (s.heap.objs.size+2),.ref (s.heap.objs.size+3)] } }) :=
 .of_wp fun prog w A R s h=>by
  obtain ⟨hp,g,d,tk,os⟩:=s
  obtain ⟨a1,a2,h⟩:=h
  have sub:=sub_zip
  have b1:SqS k1 (Shared.heap ⟨hp,g,d,tk,os⟩) l1 xs:=a1
  have b2:SqS k2 (Shared.heap ⟨hp.push (kK k1 l1),g,d,tk,os⟩) l2 ys:=SqS.at (show SqS k2 hp l2 ys from a2) fun o e=>Heap.get?_push_of_some _ e
  wp_walk using nF b1,nF b2
  refine ⟨_,rfl,?_⟩
  simp only [Heap.size_push] at *
  exact h
end PySem
namespace L2
open PySem PySem.Spec PyProof.Rows
def SqX (k:Bool) (K:Frag) (H:Hp) (a:Addr) (xs:List V):Prop:=match k with | true=>SqT K H a xs | false=>SqL K H a xs
section
variable {X:Cx} {pins:List (Addr×Obj)} {σ:St} {H:Hp} {s:Shared} {a:Addr} {xs ys:List V} {h':Heap}
theorem Inv.sq {k:Bool} (I:Inv X pins σ H s) (h:SqX k X.K H a xs):∃ its:List Value,aK xs its∧SqS k s.heap a its.toArray∧xs.length≤sizeLine:=by
 cases k with
 | true=>obtain ⟨its,r,p,z⟩:=I.tuple h; exact ⟨its,r,p,z⟩
 | false=>obtain ⟨its,r,p,z⟩:=I.list h; exact ⟨its,r,p.isList,z⟩
theorem Inv.sq_inj {k:Bool} (I:Inv X pins σ H s) (h:SqX k X.K H a xs) (h':SqX k X.K H a ys):xs=ys:=by
 cases k with
 | true=>exact I.tuple_inj h h'
 | false=>exact I.list_inj h h'
theorem Rd.ne {u:HO} {c:Addr} (r:Rd H a u) (h:H c=none):a≠c:=fun e=>by
 subst e
 rcases r with r | ⟨o,r⟩<;>(rw [h] at r; cases r)
theorem AO {o:Obj} {c:Addr} (I:Inv X pins σ H s) (e:X.K.lookup a=some o) (f:iE X pins H c):a≠c:=fun q=>by
 subst q
 have hb:=I.ok.mod.kin a o e
 rcases f.2.2.2.1 with m | m
 ·exact I.ok.noex a o hb m
 ·exact absurd (Nat.lt_of_lt_of_le (Heap.lt_size hb) (Nat.le_trans I.ok.bsz m)) (Nat.lt_irrefl _)
theorem Inv.sq_ne {k:Bool} {c:Addr} (I:Inv X pins σ H s) (h:SqX k X.K H a xs) (f:iE X pins H c):a≠c:=by
 cases k with
 | true=>rcases h with r | ⟨o,_,_,e,_⟩; exact r.ne f.1; exact AO I e f
 | false=>rcases h with r | ⟨o,_,_,e,_⟩; exact r.ne f.1; exact AO I e f
theorem Inv.turnedL {t':Nat} {its:List Addr} (I:Inv X pins σ H s) (k:∀ b o,b∉its→s.heap.get? b=some o→h'.get? b=some o) (hf:∀ b∈its,iE X pins H b) :
  Inv X pins σ H { s with heap:=h',toks:=t' }:=by
 have nit:∀ b u,H b=some u→b∉its:=fun b u e z=>by rw [(hf b z).1] at e; cases e
 refine I.step (g':=s.gens) (d':=s.drawn) (ch:=its) (fun b hb=>⟨(hf b hb).2.2.2.1,(hf b hb).2.1,(hf b hb).2.2.2.2.1,(hf b hb).2.2.2.2.2⟩) (fun b o _ _ hc e _=>k b o hc e) (fun b o _ _ hc e _=>⟨o.slots,k b o hc e⟩) (fun _ _ _ _ n=>n)
  (fun b o hc e=>⟨o,k b o hc e⟩) (fun _ _ e=>e) (fun _ _ _ e=>e) (fun b ps e=>⟨#[],by rw [e]; simp⟩) (fun m hm=>?_) (fun b u e=>?_) I.bare
 ·obtain ⟨o,es,ep,ho,r⟩:=hm
  exact ⟨o,es,ep,k _ o (fun z=>(hf _ z).2.1 rfl) ho,r⟩
 ·refine (I.hok b u e).stay (fun c v hc q=>k c v ?_ q) (fun _ q=>q) fun _ _ q=>q
  rcases hc with z | z
  ·rw [z]; exact nit b u e
  ·exact nit c _ z
end
def Itz (K:Frag) (k1 k2:Bool) (a b:Addr):It :=
 ⟨fun i H=>∃ xs ys x y,SqX k1 K H a xs∧SqX k2 K H b ys∧xs[i]?=some x∧ys[i]?=some y,
  fun i H v H'=>∃ p x y,H p=none∧v=.ref p∧H'=upd H p (.tup [x,y])∧(∀ xs,SqX k1 K H a xs→xs[i]?=some x)∧(∀ ys,SqX k2 K H b ys→ys[i]?=some y),
  fun i H=>∃ xs ys,SqX k1 K H a xs∧SqX k2 K H b ys∧i≤xs.length∧i≤ys.length∧(xs.length=i∨ys.length=i)⟩
structure ZN (z TI TO i1 i2:Addr):Prop where
 TIz:TI≠z
 TOz:TO≠z
 i1z:i1≠z
 i2z:i2≠z
 TITO:TI≠TO
 TIi1:TI≠i1
 TIi2:TI≠i2
 TOi1:TO≠i1
 TOi2:TO≠i2
 i12:i1≠i2
theorem ZN.new (n:Nat):ZN (n+4:Nat) (n+2:Nat) (n+3:Nat) n (n+1:Nat) :=
 ⟨show (n+2:Nat)≠(n+4:Nat) by omega,show (n+3:Nat)≠(n+4:Nat) by omega,show (n:Nat)≠(n+4:Nat) by omega,show (n+1:Nat)≠(n+4:Nat) by omega,show (n+2:Nat)≠(n+3:Nat) by omega,show (n+2:Nat)≠n by omega,show (n+2:Nat)≠(n+1:Nat) by omega,show (n+3:Nat)≠n by omega,show (n+3:Nat)≠(n+1:Nat) by omega,show (n:Nat)≠(n+1:Nat) by omega⟩
theorem ZN.za {z TI TO i1 i2 a b:Addr} (D:ZN z TI TO i1 i2) (az:a≠z) (bz:b≠z) (aT:a≠TO) (bT:b≠TO) (ai:a≠i2) (bi:b≠i1):ZA z TI TO i1 i2 [i1,a] [i2,b] :=
 ⟨D.TIz,D.TOz,D.i1z,D.i2z,D.TITO,D.TIi1,D.TIi2,D.TOi1,D.TOi2,D.i12,by simp [D.i1z.symm,az.symm],by simp [D.i2z.symm,bz.symm],by simp [D.TOi1,aT.symm],by simp [D.TOi2,bT.symm],by simp [D.i12,bi.symm],by simp [D.i12.symm,ai.symm]⟩
theorem wW {P:Program} {w:World} {K:Frag} {elts:List Expr} {x1} {pos:Pos} {z TI TO i1 i2:Addr} (D:ZN z TI TO i1 i2) (k1 k2:Bool) (a b:Addr) :
  pc P w K (.Tuple elts x1 pos) (Itz K k1 k2 a b) [z,TI,TO,i1,i2] z (fun i h=>IsZip h z TI TO .none∧IsPair h TI (.ref i1) (.ref i2)∧(∃ u v,IsPair h TO u v)∧ItS k1 h i1 a i∧ItS k2 h i2 b i) where
 mem:=by simp
 obj:=fun i h st c hc=>by
  obtain ⟨hz,hI,⟨u,v,hO⟩,s1,s2⟩:=st
  simp at hc
  rcases hc with rfl | rfl | rfl | rfl | rfl
  ·exact ⟨_,hz,fun v z=>by have z':Data.fields _=Data.cell v:=z; cases z'⟩
  ·exact ⟨_,hI,fun v z=>by have z':Data.seq _ _=Data.cell v:=z; cases z'⟩
  ·exact ⟨_,hO,fun v z=>by have z':Data.seq _ _=Data.cell v:=z; cases z'⟩
  ·exact s1.live
  ·exact s2.live
 keep:=fun i h h' st k=>by
  obtain ⟨hz,hI,⟨u,v,hO⟩,s1,s2⟩:=st
  exact ⟨k z (by simp) _ hz,k TI (by simp) _ hI,⟨u,v,k TO (by simp) _ hO⟩,s1.at fun o e=>k i1 (by simp) o e,s2.at fun o e=>k i2 (by simp) o e⟩
 item:=by
  intro X hP hw hK hc i pins s σ H E I hf st hg
  subst hP hw hK
  obtain ⟨xs,ys,x,y,q1,q2,ex,ey⟩:=hg
  obtain ⟨hz,hI,⟨u0,v0,hO⟩,s1,s2⟩:=st
  obtain ⟨its1,r1,p1,_⟩:=I.sq q1
  obtain ⟨its2,r2,p2,_⟩:=I.sq q2
  obtain ⟨ux,hux,rx⟩:=r1.get ex
  obtain ⟨uy,huy,ry⟩:=r2.get ey
  have fz:=hf z (by simp); have fO:=hf TO (by simp); have f1:=hf i1 (by simp); have f2:=hf i2 (by simp)
  have hh:X.A.in1.handled=none:=I.ok.hd hc
  have l1:i<its1.toArray.size:=by simpa using (List.getElem?_eq_some_iff.mp hux).1
  have l2:i<its2.toArray.size:=by simpa using (List.getElem?_eq_some_iff.mp huy).1
  refine jV (Draws.sq hh i1 a (I.sq_ne q1 f1) its1.toArray k1) (Draws.sq hh i2 b (I.sq_ne q2 f2) its2.toArray k2) (D.za (I.sq_ne q1 fz) (I.sq_ne q2 fz) (I.sq_ne q1 fO) (I.sq_ne q2 fO) (I.sq_ne q1 f2) (I.sq_ne q2 f1)) hz hI hO ⟨s1,p1⟩ ⟨s2,p2⟩ (Nat.le_of_lt l1) (Nat.le_of_lt l2) (fun _ _ gx gy h' tk px py a1 a2 a3 a4 a5 a6=>?_) (fun en=>by omega)
  have egx:gx=ux:=by
   have px':its1[i]?=some gx:=by simpa using px
   rw [hux] at px'
   exact (Option.some.inj px').symm
  have egy:gy=uy:=by
   have py':its2[i]?=some gy:=by simpa using py
   rw [huy] at py'
   exact (Option.some.inj py').symm
  subst egx egy
  refine ⟨_,rfl,wpAny_letOwnedTupleGo_zip (s:={ s with heap:=h',toks:=tk }) a1 fun h2 b1 b2=>?_⟩
  have lt:∀ {c:Addr} {o:Obj},s.heap.get? c=some o→c≠s.heap.objs.size:=fun e=>Nat.ne_of_lt (Heap.lt_size e)
  have fr:H s.heap.objs.size=none:=I.hok.fresh (Nat.le_refl _)
  have I1:Inv X pins σ (upd H s.heap.objs.size (.tup [x,y])) { s with heap:=s.heap.push { cls:=.type "tuple",data:=.seq #[gx,gy] },toks:=tk }:=by
   refine I.laid (t':=tk) (fun b u e=>Heap.get?_push_of_some _ e) (Nat.le_refl _) ⟨by simp [sizeLine],[gx,gy],.cons rx (.cons ry .nil),⟨_,Heap.get?_push_size _ rfl,rfl,_,rfl⟩,_,Heap.get?_push_size _ rfl,rfl⟩
  have nl:∀ c∈[z,TI,TO,i1,i2],c≠s.heap.objs.size:=fun c hc=>by
   simp at hc
   rcases hc with rfl | rfl | rfl | rfl | rfl
   ·exact lt hz
   ·exact lt hI
   ·exact lt hO
   ·obtain ⟨o,e,_⟩:=s1.live; exact lt e
   ·obtain ⟨o,e,_⟩:=s2.live; exact lt e
  have hf':∀ c∈[z,TI,TO,i1,i2],iE X pins (upd H s.heap.objs.size (.tup [x,y])) c:=fun c hc=>⟨by rw [aI (nl c hc)]; exact (hf c hc).1,(hf c hc).2⟩
  have I2:Inv X pins σ (upd H s.heap.objs.size (.tup [x,y])) { s with heap:=h2,toks:=tk }:=by
   refine Inv.turnedL (s:={ s with heap:=s.heap.push { cls:=.type "tuple",data:=.seq #[gx,gy] },toks:=tk }) (t':=tk) (its:=[z,TI,TO,i1,i2]) I1 (fun c o hc e=>?_) hf'
   simp at hc
   refine b2.extBut _ _ hc.1 ?_
   rcases Heap.get?_push_cases e with ⟨q,q'⟩ | q
   ·rw [q,q']
    exact a5
   ·exact a6 c o hc.1 hc.2.2.1 hc.2.2.2.1 hc.2.2.2.2 q
  refine ⟨.ref s.heap.objs.size,_,I2,rfl,⟨_,x,y,fr,rfl,rfl,fun zs hz'=>by rw [I.sq_inj hz' q1]; exact ex,fun zs hz'=>by rw [I.sq_inj hz' q2]; exact ey⟩,⟨b1,?_,⟨_,_,b2.extBut _ _ D.TOz a2⟩,a3.1.at fun o e=>b2.extBut _ _ D.i1z e,a4.1.at fun o e=>b2.extBut _ _ D.i2z e⟩,fun c hc=>(hf' c hc).1⟩
  exact b2.extBut _ _ D.TIz (a6 _ _ D.TIz D.TITO D.TIi1 D.TIi2 hI)
 done:=by
  intro X hP hw hK hc i pins s σ H E I hf st hg
  subst hP hw hK
  obtain ⟨xs,ys,q1,q2,m1,m2,en⟩:=hg
  obtain ⟨hz,hI,⟨u0,v0,hO⟩,s1,s2⟩:=st
  obtain ⟨its1,r1,p1,_⟩:=I.sq q1
  obtain ⟨its2,r2,p2,_⟩:=I.sq q2
  have e1:=r1.length
  have e2:=r2.length
  have fz:=hf z (by simp); have fO:=hf TO (by simp); have f1:=hf i1 (by simp); have f2:=hf i2 (by simp)
  have hh:X.A.in1.handled=none:=I.ok.hd hc
  refine jV (Draws.sq hh i1 a (I.sq_ne q1 f1) its1.toArray k1) (Draws.sq hh i2 b (I.sq_ne q2 f2) its2.toArray k2) (D.za (I.sq_ne q1 fz) (I.sq_ne q2 fz) (I.sq_ne q1 fO) (I.sq_ne q2 fO) (I.sq_ne q1 f2) (I.sq_ne q2 f1)) hz hI hO ⟨s1,p1⟩ ⟨s2,p2⟩ (by simp; omega) (by simp; omega) (fun l1 l2=>?_) (fun _ h' tk k=>⟨rfl,?_⟩)
  ·simp at l1 l2
   omega
  ·exact I.turnedL (its:=[z,TI,TO,i1,i2]) (fun c o hc e=>by simp at hc; exact k c o hc.1 hc.2.2.1 hc.2.2.2.1 hc.2.2.2.2 e) hf
 self:=fun _ _ _ _ _ st h=>wpAny_pyIter_zip st.1 h
section
variable {X:Cx}
def BZ (K:Frag) (k1 k2:Bool) (ta:TA):TI:=fun σ H R=>ta σ H fun vs H1=>∃ a b,vs=[.ref a,.ref b]∧(∃ xs,SqX k1 K H1 a xs)∧(∃ ys,SqX k2 K H1 b ys)∧R (Itz K k1 k2 a b) H1
theorem zH {elts:List Expr} {x1} {tp:Pos} {a b:Expr} {ta:TA} {p pos:Pos} (k1 k2:Bool) (hg:Gl X "zip") (hm:X.mg "zip"=none) (ha:PA X [a,b] ta) (hs:starEach [a,b] X.env=[(false,eval a X.env),(false,eval b X.env)]:=by rfl) (hs2:starEach [b] X.env=[(false,eval b X.env)]:=by rfl) :
  PI X (.Tuple elts x1 tp) (.Call (.Name "zip" p) [a,b] [] pos) (BZ X.K k1 k2 ta):=by
 intro pins s σ H R I h
 refine Call_ (iB I hg hm boot_zip (PyProof.Rows.callWith_type1 (thn (ha pos pins s σ H _ I h) fun us s1 ⟨vs,H1,I1,r1,q1⟩=>?_) (by rw [hs,hs2]) (by rw [hs2]; rfl)))
 obtain ⟨l1,l2,e,⟨xs,h1⟩,⟨ys,h2⟩,q⟩:=q1
 subst e
 cases r1 with
 | cons r rr =>
  cases rr with
  | cons r' rr =>
   cases rr
   cases r
   cases r'
   obtain ⟨its1,v1,p1,_⟩:=I1.sq h1
   obtain ⟨its2,v2,p2,_⟩:=I1.sq h2
   refine callType_new F.called_zip (by decide) (F.typeCall_zip_2 _ _) (F.newCall_zip_2 _ _) (fun obj=>F.args_object_init_3 obj _ _) F.entry_zip_new (oy k1 k2 l1 l2 its1.toArray its2.toArray) ⟨p1,p2,?_⟩
   have key:∀ (n:Nat) (o1 o2 o3 o4 o5:Obj) (hp:Heap),o1.isFreed=false→o2.isFreed=false→o3.isFreed=false→o4.isFreed=false→o5.isFreed=false→n=hp.objs.size →
     (((((hp.push o1).push o2).push o3).push o4).push o5).get? n=some o1∧(((((hp.push o1).push o2).push o3).push o4).push o5).get? (n+1)=some o2∧(((((hp.push o1).push o2).push o3).push o4).push o5).get? (n+2)=some o3 ∧
     (((((hp.push o1).push o2).push o3).push o4).push o5).get? (n+3)=some o4∧(((((hp.push o1).push o2).push o3).push o4).push o5).get? (n+4)=some o5:=by
    intro n o1 o2 o3 o4 o5 hp f1 f2 f3 f4 f5 e
    subst e
    have z1:(hp.push o1).objs.size=hp.objs.size+1:=Heap.size_push ..
    have z2:((hp.push o1).push o2).objs.size=hp.objs.size+2:=by rw [Heap.size_push,z1]
    have z3:(((hp.push o1).push o2).push o3).objs.size=hp.objs.size+3:=by rw [Heap.size_push,z2]
    have z4:((((hp.push o1).push o2).push o3).push o4).objs.size=hp.objs.size+4:=by rw [Heap.size_push,z3]
    refine ⟨?_,?_,?_,?_,?_⟩
    ·exact Heap.get?_push_of_some _ (Heap.get?_push_of_some _ (Heap.get?_push_of_some _ (Heap.get?_push_of_some _ (Heap.get?_push_size _ f1))))
    ·rw [← z1]
     exact Heap.get?_push_of_some _ (Heap.get?_push_of_some _ (Heap.get?_push_of_some _ (Heap.get?_push_size _ f2)))
    ·rw [← z2]
     exact Heap.get?_push_of_some _ (Heap.get?_push_of_some _ (Heap.get?_push_size _ f3))
    ·rw [← z3]
     exact Heap.get?_push_of_some _ (Heap.get?_push_size _ f4)
    ·rw [← z4]
     exact Heap.get?_push_size _ f5
   obtain ⟨g1,g2,g3,g4,g5⟩:=key s1.heap.objs.size (kK k1 l1) (kK k2 l2) { cls:=.type "tuple",data:=.seq #[.ref s1.heap.objs.size,.ref (s1.heap.objs.size+1)] } { cls:=.type "tuple",data:=.seq #[.none,.none] } { cls:=.type "zip",data:=.fields #[.none,.bool false,.bool false,.ref (s1.heap.objs.size+2),.ref (s1.heap.objs.size+3)] } s1.heap rfl rfl rfl rfl rfl rfl
   refine ⟨⟨_,g5,rfl⟩,wpAny_pyIter_zip (f0:=.none) g5 ?_⟩
   refine ⟨s1.heap.objs.size+4,[s1.heap.objs.size+4,s1.heap.objs.size+2,s1.heap.objs.size+3,s1.heap.objs.size,s1.heap.objs.size+1],_,_,H1,rfl,I1.kept (t':=s1.toks) fun b o e=>?_,wW (TI:=s1.heap.objs.size+2) (TO:=s1.heap.objs.size+3) (i1:=s1.heap.objs.size) (i2:=s1.heap.objs.size+1) (ZN.new _) k1 k2 l1 l2,⟨g5,g3,⟨_,_,g4⟩,ItS.new g1,ItS.new g2⟩,fun b hb=>?_,q⟩
   ·exact Heap.get?_push_of_some _ (Heap.get?_push_of_some _ (Heap.get?_push_of_some _ (Heap.get?_push_of_some _ (Heap.get?_push_of_some _ e))))
   ·have le:s1.heap.objs.size≤b:=by
     simp only [List.mem_cons,List.not_mem_nil,or_false] at hb
     rcases hb with rfl | rfl | rfl | rfl | rfl
     ·exact Nat.le_add_right _ _
     ·exact Nat.le_add_right _ _
     ·exact Nat.le_add_right _ _
     ·exact Nat.le_refl _
     ·exact Nat.le_add_right _ _
    exact I1.fpOk le (I1.hok.fresh le)
end
open PySem PySem.Spec PyProof.Rows
section
variable {κ:Type} [DecidableEq κ]
end
section
variable {P:Program} {w:World} {H:Hp} {h:Heap} {a:Addr}
mutual
theorem zF (ok:HOk P w H h):∀ {v:V} {u:Value} {d:PyData},KAt H v d→br v u→RdT h u d
 | _,_,_,.int i,r=>by obtain ⟨t,rfl⟩:=r; exact .int i t
 | _,_,_,.str x,r=>by obtain ⟨t,rfl⟩:=r; exact .str x t
 | _,_,_,.tup e q,r=>by
  cases r
  obtain ⟨_,its,r,⟨o,h1,h2,n,h3⟩,_⟩:=(show bR P w H h _ (.tup _) from ok _ _ e)
  exact .tup h1 h2 h3 (by simpa using kE ok q r)
theorem kE (ok:HOk P w H h):∀ {v:List V} {u:List Value} {d:List PyData},bd H v d→aK v u→cN h u d
 | _,_,_,.nil,r=>by cases r; exact .nil
 | _,_,_,.cons k q,r=>by
  cases r with
  | cons r1 r2=>exact .cons (zF ok k r1) (kE ok q r2)
end
end
section
variable {X:Cx} {pins:List (Addr×Obj)} {σ:St} {H:Hp} {s:Shared} {a:Addr} {y v:V} {u r:Value} {o:Option V} {A:Around} {E:Value→Shared→Prop}
end
section
variable {X:Cx} {pins:List (Addr×Obj)} {σ:St} {H:Hp} {s:Shared} {a:Addr} {kvs:List (Key×V)} {k:Key} {u:Value} {A:Around} {E:Value→Shared→Prop}
end
section
variable {X:Cx} {o i e value:Expr} {pos pos' tpos:Pos} {td ty tv:TE}
end
section
variable {X:Cx} {pos:Pos}
end
section
variable {X:Cx} {pins:List (Addr×Obj)} {σ:St} {H:Hp} {s:Shared} {a:Addr} {y d:V} {u r:Value} {o:Option V} {A:Around} {E:Value→Shared→Prop}
end
section
variable {X:Cx} {o e f:Expr} {apos cpos:Pos} {td ty tx:TE}
end
section
variable {X:Cx} {pins:List (Addr×Obj)} {σ:St} {H:Hp} {s:Shared} {a:Addr} {kvs:List (Key×V)} {A:Around} {E:Value→Shared→Prop}
end
section
variable {X:Cx} {pins:List (Addr×Obj)} {σ:St} {H:Hp} {s:Shared} {a:Addr} {y:V} {u:Value} {A:Around} {E:Value→Shared→Prop}
end
section
variable {X:Cx}
end
section
variable {κ:Type} [DecidableEq κ]
end
open PySem PySem.Spec PyProof.Rows
section
variable {m:Nat} {g:TG} {tt:TT} {te:TE} {σ':St} {Z:List V→Hp→Prop} {H1:Hp} {K:Frag}
theorem bF {a:Addr} {xs:List V} (n:Nat) (hz:n=xs.length) (hn:n≤1000) (Pv:Nat→List V→Hp→Prop) (h0:Pv 0 [] H1) (hq:∀ i acc H,Pv i acc H→SqL K H a xs)
  (hs:∀ i acc H x,i<n→acc.length≤i→xs[i]?=some x→Pv i acc H→g x σ' H fun σ2 H2=>(σ2.drop m=σ'.drop m∧σ2.length=σ'.length)∧tt σ2 H2 fun b H3=>if b=true then te σ2 H3 fun v H4=>NxT n Pv i acc v H4 else NxF n Pv i acc H3)
  (hd:∀ acc H,Pv n acc H→acc.length≤n→Z acc H):lw (Itl K a) m g tt te σ' Z H1 :=
 kC n hn Pv h0 (fun i acc H hi la p=>by
  have hx:xs[i]?=some (xs[i]'(by omega)):=List.getElem?_eq_getElem (by omega)
  exact ⟨⟨xs,_,hq i acc H p,hx⟩,fun x H' y=>by obtain ⟨e,y⟩:=y; subst e; exact hs i acc _ x hi la (y xs (hq i acc _ p)) p⟩) fun acc H p la=>⟨⟨xs,hq n acc H p,by omega⟩,hd acc H p la⟩
end
section
variable {X:Cx}
end
theorem eW {t u:L2.TS} {D:mr} {σ:St} {H:Hp} (J:St→Hp→Prop) (h1:∀ NX:St→Hp→Prop,(∀ σ H,J σ H→NX σ H)→t { D with nx:=NX } σ H) (h2:∀ σ H,J σ H→u D σ H):xE t u D σ H:=h1 _ h2
open PySem PySem.Spec PyProof.Rows
section
variable {X:Cx}
end
end L2
namespace PySem
namespace F
end F
section
variable {prog:Program} {w:World} {A:Around} {E:Value→Shared→Prop} {s:Shared}
end
end PySem
namespace PySem
namespace F
end F
section
variable {prog:Program} {w:World} {A:Around} {E:Value→Shared→Prop} {s:Shared}
end
section
variable {prog:Program} {w:World} {A:Around} {s:Shared} {R:Result→Shared→Prop}
variable {I:Addr} {fp wr:List Addr} {n:Nat} {P:Nat→Value→Prop} {St:Nat→Heap→Prop}
end
section
variable {prog:Program} {w:World} {A:Around} {E:Value→Shared→Prop} {s:Shared}
variable {I:Addr} {fp wr:List Addr} {n:Nat} {P:Nat→Value→Prop} {St:Nat→Heap→Prop}
end
end PySem
namespace L2
open PySem PySem.Spec PyProof.Rows
section
variable {X:Cx}
end
open PySem PySem.Spec PyProof.Rows
section
variable {X:Cx} {tg:Expr}
end
end L2
namespace PySem
open AutoSeq1 (wpAny_loadPart')
end PySem
namespace L2
open PySem PySem.Spec PyProof.Rows
section
variable {X:Cx}
end
open PySem PySem.Spec PyProof.Rows
section
variable {X:Cx} {tg:Expr}
end
section
variable {m:Nat} {g:TG} {tt:TT} {te:TE} {σ':St} {Z:List V→Hp→Prop} {H1:Hp} {K:Frag}
end
open PySem PySem.W PySem.Calls PySem.Spec PyProof.Rows
section
variable {prog:Program} {w:World}
theorem si:∀ (l m:List PyData) {A:Around} {s:Shared} {us vs:List Value} {fin:Bool} {i:Nat} {Q:Bool→Shared→Prop},cN s.heap us l→cN s.heap vs m→pks l=true→pks m=true→kw l m→A.units+PyData.depthAll l+2<cLine →
  (∀ b,dif l m=some b→Q b s)→(dif l m=none→Q fin s)→KatLex prog w A false fin Q (us.zip vs) i s
 | [],m,A,s,us,vs,fin,i,Q,r1,r2,p1,p2,c,hu,h1,h2=>by
  cases r1
  rw [List.zip_nil_left]
  exact kat_nil (h2 (by simp [dif]))
 | a::l,[],A,s,us,vs,fin,i,Q,r1,r2,p1,p2,c,hu,h1,h2=>by
  cases r2
  rw [List.zip_nil_right]
  exact kat_nil (h2 (by simp [dif]))
 | a::l,b::m,A,s,us,vs,fin,i,Q,r1,r2,p1,p2,c,hu,h1,h2=>by
  cases r1 with
  | @cons u us _ _ q1 r1 =>
   cases r2 with
   | @cons v vs _ _ q2 r2 =>
    simp only [pks,Bool.and_eq_true] at p1 p2
    simp only [PyData.depthAll] at hu
    rw [List.zip_cons_cons]
    obtain ⟨as,ra⟩:=q1.reads
    obtain ⟨bs,rb⟩:=q2.reads
    refine kat_cons (SeqAt.eqAt_reads a b A s _ _ as bs ra rb (fU p1.1) (fU p2.1) (by omega) prog w _ _ ?_)
    rw [nX p1.1 p2.1]
    by_cases hab:a=b
    ·have hd:dif (a::l) (b::m)=dif l m:=by simp only [dif]; rw [if_pos hab]
     rw [decide_eq_true hab]
     rw [hd] at h1 h2
     refine kat_yes (si l m r1 r2 p1.2 p2.2 ?_ (by omega) h1 h2)
     cases c with
     | eq c=>exact c
     | ne n _=>exact absurd hab n
    ·have hd:dif (a::l) (b::m)=some (dlt a b):=by simp only [dif]; rw [if_neg hab]
     rw [decide_eq_false hab]
     refine kat_no ?_
     rw [Bool.false_and]
     refine kat_one _ _ (yo a b q1 q2 p1.1 p2.1 ?_ (by omega) (h1 _ hd))
     cases c with
     | eq c=>exact absurd rfl hab
     | ne _ c=>exact c
end
theorem gc {h:Heap}:∀ {us:List Value} {ds:List PyData},cN h us ds→∀ (i:Nat),i<ds.length→RdT h (us.getD i Value.none) (ds.getD i .none)
 | _,_,.nil,i,hi=>by simp at hi
 | _,_,.cons q r,0,hi=>q
 | _,_,.cons q r,i+1,hi=>by
  simp only [List.length_cons] at hi
  simpa using gc r i (by omega)
section
variable {X:Cx}
theorem nc {vs:List V} {us:List Value} (r:aK vs us) (p:Array Nat):aK (p.toList.map fun i=>vs.getD i .non) (cF us p):=by
 unfold cF
 induction p.toList with
 | nil=>exact .nil
 | cons i l ih =>
  refine .cons ?_ ih
  show br (vs.getD i .non) (us.getD i Value.none)
  by_cases hi:i<vs.length
  ·obtain ⟨u,h1,h2⟩:=aK.get r (List.getElem?_eq_getElem hi)
   have e1:vs.getD i .non=vs[i]:=by simp [hi]
   have e2:us.getD i Value.none=u:=by simp [h1]
   rw [e1,e2]
   exact h2
  ·have l:=aK.length r
   have e1:vs.getD i .non=.non:=by simp [Nat.le_of_not_lt hi]
   have e2:us.getD i Value.none=Value.none:=by simp [Nat.le_of_not_lt (l ▸ hi)]
   rw [e1,e2]
   rfl
end
end L2
namespace K6
open PySem L2
def Tk (H H':Hp):Prop:=∀ b xs,H b=some (.tup xs)→H' b=some (.tup xs)
theorem Tk.trans {H H1 H2:Hp} (a:Tk H H1) (b:Tk H1 H2):Tk H H2:=fun c xs h=>b c xs (a c xs h)
theorem ah {H H':Hp} (g:av H H'):Tk H H':=fun b xs h=>g b _ h
theorem af {H:Hp} {p:Addr} (h:H p=none) (o:HO):av H (upd H p o):=fun b u q=>by rw [aI (aq q h)]; exact q
theorem fA {H:Hp} {p:Addr} (h:H p=none) (o:HO):Tk H (upd H p o):=ah (af h o)
theorem cj {H:Hp} {p:Addr} {xs:List V} (h:H p=some (.lst xs)) (o:HO):Tk H (upd H p o):=fun b ys e=>by rw [aI (vE e h (fun z=>by cases z))]; exact e
def Ext (tp:Addr) (H H':Hp):Prop:=∀ b o,b≠tp→H b=some o→H' b=some o
theorem Ext.refl (tp:Addr) (H:Hp):Ext tp H H:=fun _ _ _ h=>h
theorem Ext.trans {tp:Addr} {H H1 H2:Hp} (a:Ext tp H H1) (b:Ext tp H1 H2):Ext tp H H2:=fun c o n h=>b c o n (a c o n h)
theorem av.ext {tp:Addr} {H H':Hp} (a:av H H'):Ext tp H H':=fun c o _ h=>a c o h
theorem Ext.upd {tp:Addr} {H:Hp} {o:HO}:Ext tp H (L2.upd H tp o):=fun b u n h=>by rw [aI n]; exact h
theorem aY {H H':Hp} {t:Addr} {ys:List V} (g:Ext t H H') (h:H t=some (.lst ys)):Tk H H':=fun b xs e=>g b _ (vE e h (fun z=>by cases z)) e
theorem sZ {H:Hp} {t p:Addr} (h:H p=none) (o:HO):Ext t H (upd H p o):=av.ext (af h o)
def TT (K:Frag) (H:Hp) (a:Addr) (xs:List V):Prop:=H a=some (.tup xs)∨False
theorem TT.mono {K:Frag} {H H':Hp} (t:Tk H H') {a:Addr} {xs:List V} (h:TT K H a xs):TT K H' a xs:=h.imp (t _ _) id
theorem TT.sq {K:Frag} {H:Hp} {a:Addr} {xs:List V} (h:TT K H a xs):SqT K H a xs:=h.elim SqT.of False.elim
theorem TT.hp {K:Frag} {H:Hp} {a:Addr} {xs:List V} (h:TT K H a xs):H a=some (.tup xs):=h.elim id False.elim
mutual
inductive DT (K:Frag) (H:Hp):V→PyData→Prop
 | int (i:Int):DT K H (.int i) (.int i)
 | str (x:Str):DT K H (.str x) (.str x)
 | tup {a:Addr} {xs:List V} {ds:List PyData}:TT K H a xs→DTs K H xs ds→DT K H (.ref a) (.tuple ds)
inductive DTs (K:Frag) (H:Hp):List V→List PyData→Prop
 | nil:DTs K H [] []
 | cons {x:V} {xs:List V} {d:PyData} {ds:List PyData}:DT K H x d→DTs K H xs ds→DTs K H (x::xs) (d::ds)
end
mutual
theorem DT.mono {K:Frag} {H H':Hp} (e:Tk H H'):∀ {v:V} {d:PyData},DT K H v d→DT K H' v d
 | _,_,.int i=>.int i
 | _,_,.str x=>.str x
 | _,_,.tup h r=>.tup (h.mono e) (DTs.mono e r)
theorem DTs.mono {K:Frag} {H H':Hp} (e:Tk H H'):∀ {v:List V} {d:List PyData},DTs K H v d→DTs K H' v d
 | _,_,.nil=>.nil
 | _,_,.cons h r=>.cons (DT.mono e h) (DTs.mono e r)
end
mutual
theorem DT.rd {K:Frag} {H:Hp}:∀ {v:V} {d:PyData},DT K H v d→RdD K H v d
 | _,_,.int i=>.int i
 | _,_,.str x=>.str x
 | _,_,.tup h r=>.tup h.sq (DTs.rd r)
theorem DTs.rd {K:Frag} {H:Hp}:∀ {v:List V} {d:List PyData},DTs K H v d→fk K H v d
 | _,_,.nil=>.nil
 | _,_,.cons h r=>.cons (DT.rd h) (DTs.rd r)
end
theorem DTs.len {K:Frag} {H:Hp}:∀ {v:List V} {d:List PyData},DTs K H v d→v.length=d.length
 | _,_,.nil=>rfl
 | _,_,.cons h r=>by rw [List.length_cons,List.length_cons,DTs.len r]
theorem DTs.append {K:Frag} {H:Hp}:∀ {v v':List V} {ds ds':List PyData},DTs K H v ds→DTs K H v' ds'→DTs K H (v++v') (ds++ds')
 | _,_,_,_,.nil,q=>q
 | _,_,_,_,.cons h r,q=>.cons h (DTs.append r q)
theorem DTs.get {K:Frag} {H:Hp}:∀ {v:List V} {d:List PyData},DTs K H v d→∀ (i:Nat) (x:V),v[i]?=some x→∃ e,d[i]?=some e∧DT K H x e
 | _,_,.nil,i,x,h=>by simp at h
 | _,_,.cons h r,0,x,q=>by simp at q; subst q; exact ⟨_,rfl,h⟩
 | _,_,.cons h r,i+1,x,q=>by
  obtain ⟨e,e1,e2⟩:=DTs.get r i x (by simpa using q)
  exact ⟨e,by simpa using e1,e2⟩
def top (i:Nat):Stmt:=PySem.Challenge.pw_everyfork_k24_inputs_in_order.main.body.getD i (.Pass ⟨0,0,0,0⟩)
abbrev da:Stmt:=top 3
abbrev jz:Stmt:=top 4
abbrev gr:Stmt:=top 5
abbrev dg:Stmt:=top 6
abbrev iV:Stmt:=top 7
abbrev eQ:Stmt:=top 9
abbrev fB:Stmt:=top 11
abbrev nW:Stmt:=top 12
abbrev dF:Stmt:=top 13
abbrev ja:Stmt:=top 14
abbrev df:Stmt:=top 16
abbrev eP:Stmt:=top 17
abbrev fM:Stmt:=top 18
abbrev ft:Stmt:=top 19
abbrev dL:Stmt:=top 20
abbrev dH:Stmt:=top 21
abbrev eN:Stmt:=top 22
abbrev iC:Stmt:=top 23
abbrev dw:Stmt:=top 24
abbrev eG:Stmt:=top 25
abbrev ji:Stmt:=top 26
abbrev gz:Stmt:=top 27
abbrev kR:Stmt:=top 29
abbrev lr:Stmt:=top 30
abbrev cM:Stmt:=top 31
abbrev fh:Stmt:=top 32
abbrev bS:Stmt:=top 33
abbrev hU:Stmt:=top 34
abbrev dX:Stmt:=top 35
abbrev dc:Stmt:=top 36
abbrev jd:Stmt:=top 37
abbrev kJ:Stmt:=top 38
abbrev du:Stmt:=top 39
abbrev eS:Stmt:=top 40
abbrev sX:Stmt:=top 41
theorem lL:bootBuiltins "isinstance"=some (.builtin "isinstance"):=by decide +kernel
theorem mo:bootBuiltins "int"=some (.type "int"):=by decide +kernel
theorem Bx:bootBuiltins "str"=some (.type "str"):=by decide +kernel
theorem dI:bootBuiltins "tuple"=some (.type "tuple"):=by decide +kernel
theorem nT:bootBuiltins "list"=some (.type "list"):=by decide +kernel
theorem rh:bootBuiltins "dict"=some (.type "dict"):=by decide +kernel
theorem AL:bootBuiltins "ord"=some (.builtin "ord"):=by decide +kernel
theorem eC:bootBuiltins "len"=some (.builtin "len"):=by decide +kernel
theorem gB:bootBuiltins "repr"=some (.builtin "repr"):=by decide +kernel
def PL:List Str:=["num", "text", "row"]
structure G0 (mg:Str→Option Value):Prop where
 isi:mg "isinstance"=none
 int:mg "int"=none
 bool:mg "bool"=none
 str:mg "str"=none
 tuple:mg "tuple"=none
 list:mg "list"=none
 dict:mg "dict"=none
 all:mg "all"=none
 ord:mg "ord"=none
 len:mg "len"=none
 repr:mg "repr"=none
 range:mg "range"=none
structure Cal (P:Program) (w:World) (K:Frag) (mg:Str→Option Value) (base:Heap) (k:Nat) (x:Str) (ps:List Str) (sp:Sp):Prop where
 ex:∃ g gd,bg P w K mg base CX0 k g gd ps sp∧dA K gd ps []∧keepIn K (.ref g)=true∧mg x=some (.ref g)
theorem wv {X:Cx} {k:Nat} {x:Str} {ps:List Str} {sp:Sp} {e:Expr} {es:List Expr} {t:TA} {p pos:Pos} (D:Cal X.prog X.w X.K X.mg X.base k x ps sp) (hr:cS k X.A) (hg:Gl X x) (ha:PA X (e::es) t) (hdb:(x==("__debug__":Str))=false:=by decide)
  (he:starEach (e::es) X.env=(false,eval e X.env)::starEach es X.env:=by exact ac rfl) (hpl:(backTo pos (starEach es X.env)).any (·.1)=false:=by exact aj rfl):PE X (.Call (.Name x p) (e::es) [] pos) (yV sp [] E0 t):=by
 obtain ⟨g,gd,G,b,kp,m⟩:=D.ex
 exact ar G hr hg m kp b .nil aE ha hdb he hpl
theorem vj {t:Addr} {H H1:Hp} {o:HO} (h:H t=none) (g:av H H1):av H (upd H1 t o):=fun b u q=>by rw [aI (aq q h)]; exact g b u q
theorem jN {H:Hp} {a b:Addr} {o u:HO} (h:b≠a) (e:H b=some u):upd H a o b=some u:=by rw [aI h]; exact e
theorem yE {α β:Type} {R:α→β→Prop} {a:α} {b:β} (q:R a b):∀ {l:List α} {m:List β},Paired R l m→Paired R (l++[a]) (m++[b])
 | _,_,.nil=>.cons q .nil
 | _,_,.cons h t=>.cons h (yE q t)
theorem eqS {k x:Str} (c:decide (V.str k=V.str x)=true):k=x:=V.str.inj (of_decide_eq_true c)
theorem neS {k x:Str} (c:¬ decide (V.str k=V.str x)=true):¬ k=x:=fun e=>c (decide_eq_true (congrArg V.str e))
open PySem L2
theorem iw {α:Type} {xs:List α} {i:Int} (h0:0≤i) (h1:i<xs.length):∃ v,v∈xs∧xs[i.toNat]?=some v∧atI xs i=some v:=by
 have hi:i.toNat<xs.length:=by omega
 have e:xs[i.toNat]?=some xs[i.toNat]:=List.getElem?_eq_getElem hi
 refine ⟨_,List.getElem_mem hi,e,?_⟩
 have q:=sm e
 rwa [show ((i.toNat:Nat):Int)=i by omega] at q
theorem zQ:BH 10 18:=⟨by decide,by decide,by decide⟩
theorem yH {i j:Int} (h1:-(2 ^ 64)<j) (h2:j<2 ^ 64):vB i j:=.inr ⟨h1,h2⟩
theorem wM {i j:Int} (h1:-(2 ^ 64)<i) (h2:i<2 ^ 64):vB i j:=.inl ⟨h1,h2⟩
theorem jG (a:Int) {b:Int} (h0:0<b) (h1:b<2 ^ 32):-(2 ^ 64)<a % b+1∧a % b+1<2 ^ 64:=by
 have:=Int.emod_nonneg a (show b≠0 by omega)
 have:=Int.emod_lt_of_pos a h0
 omega
def Fd (H:Hp) (fp sc:Addr) (m:Nat):Prop:=∃ ns a b c,H fp=some (.lst [.ref sc,.int a,.int b,.int c])∧H sc=some (.lst (List.map V.int ns))∧0<ns.length∧0≤c∧c≤(m:Int)
section
variable {P:Program} {w:World} {K:Frag} {mg:Str→Option Value} {base:Heap} {f g:Addr} {fd gd:FuncData}
abbrev xw:List Str:=["_law_feed_here", "_law_many_here", "_law_found", "_law_cell", "_law_turn", "_law_mixed"]
theorem dR:aF xw ["_law_feed_here", "_law_many_here"] (defScope lr):=⟨rfl,rfl,rfl,by decide +kernel,rfl,by decide +kernel,by decide +kernel⟩
def yh:Sp:=fun vs H Q _=>∃ fp many sc m,vs=[.ref fp,.int many]∧Fd H fp sc m∧m≤100000∧0<many∧many≤1000∧∀ (v:Int) (H':Hp),0≤v→v<many→Ext fp H H'→Fd H' fp sc (m+1)→Q (.int v) H'
theorem Bt (T:G0 mg) (F:Fun K "_law_draw" "_law_draw" lr f fd):bg P w K mg base CX0 1 f fd ["_law_feed_here", "_law_many_here"] yh:=by
 refine F.ok dR (fun vs H Q E h=>?_) (fun cdv A outer s H vs Q E hr h=>?_)
 ·obtain ⟨fp,many,sc,m,rfl,_⟩:=h
  rfl
 obtain ⟨fp,many,sc,m,rfl,⟨ns,a,b,c,h1,h2,hn,hc0,hc1⟩,hm,hm0,hm1,q⟩:=h
 have hne:sc≠fp:=vE h2 h1 (fun z=>by injection z with z; cases ns<;>cases z)
 refine ⟨_,(@al _ _ _ _ _ (@fR _ _ _ _ _ _ (@aG _ _ _ _ _ _ _ _ bB (@ay _ _ _ _ _ _ _ aM (pv 0) ak (fun _ _=>rfl)) ak) (eM (pv 0) ak cJ) rfl rfl rfl) (@al _ _ _ _ _ (@bU _ _ _ _ _ _ _ _ (@aQ _ _ _ _ _ _ _ _ pG (@ay _ _ _ _ _ _ _ aM (pv 0) ak (fun _ _=>rfl)) ak (bo _)) (@al _ _ _ _ _ (@aB _ _ 2 _ _ _ _ dR.nd rfl (Or.inl rfl) (@aG _ _ _ _ _ _ _ _ dW (@ay _ _ _ _ _ _ _ aM (pv 0) ak (fun _ _=>rfl)) (pv 1)) (ao rfl) (.inr rfl)) (@al _ _ _ _ _ (@fR _ _ _ _ _ _ (@aG _ _ _ _ _ _ _ _ ow (@ay _ _ _ _ _ _ _ aM (pv 0) ak (fun _ _=>rfl)) (pv 1)) (eM (pv 0) ak cJ) rfl rfl rfl) (@ap _ _ _ (@aD _ _ _ _ (pv 2))))) bh) (@al _ _ _ _ _ (@aB _ _ 3 _ _ _ _ dR.nd rfl (Or.inl rfl) (@ay _ _ _ _ _ _ _ aM (@ay _ _ _ _ _ _ _ aM (pv 0) ak (fun _ _=>rfl)) (@aG _ _ _ _ _ _ _ _ dW (@ay _ _ _ _ _ _ _ aM (pv 0) ak (fun _ _=>rfl)) (@aA _ _ _ _ _ _ _ _ _ aU rfl T.len eC (@ad _ _ _ _ _ (@ay _ _ _ _ _ _ _ aM (pv 0) ak (fun _ _=>rfl)) ag (ac rfl)) (by decide) (by decide) (ac rfl) (aj rfl))) (fun _ _=>rfl)) (ao rfl) (.inr rfl)) (@al _ _ _ _ _ (@fR _ _ _ _ _ _ (@aG _ _ _ _ _ _ _ _ bB (@ay _ _ _ _ _ _ _ aM (pv 0) ak (fun _ _=>rfl)) ak) (eM (pv 0) ak cJ) rfl rfl rfl) (@al _ _ _ _ _ (@bU _ _ _ _ _ _ _ _ (@aQ _ _ _ _ _ _ _ _ Bg (pv 3) (@aG _ _ _ _ _ _ _ _ zZ ak ak) (bo _)) (@al _ _ _ _ _ (@fR _ _ _ _ _ _ (@aG _ _ _ _ _ _ _ _ ow (pv 3) (pv 1)) (eM (pv 0) ak cJ) rfl rfl rfl) (@ap _ _ _ (@aD _ _ _ _ (@aG _ _ _ _ _ _ _ _ dW (pv 3) (pv 1))))) bh) (@al _ _ _ _ _ (@aB _ _ 4 _ _ _ _ dR.nd rfl (Or.inl rfl) (@aG _ _ _ _ _ _ _ _ bB (@aG _ _ _ _ _ _ _ _ bB (@aG _ _ _ _ _ _ _ _ fN (@aG _ _ _ _ _ _ _ _ fN ak (@ay _ _ _ _ _ _ _ aM (pv 0) ak (fun _ _=>rfl))) (@ay _ _ _ _ _ _ _ aM (pv 0) ak (fun _ _=>rfl))) (@aG _ _ _ _ _ _ _ _ fN ak (@ay _ _ _ _ _ _ _ aM (pv 0) ak (fun _ _=>rfl)))) ak) (ao rfl) (.inr rfl)) (@al _ _ _ _ _ (@aB _ _ 5 _ _ _ _ dR.nd rfl (Or.inl rfl) (@aG _ _ _ _ _ _ _ _ dW (@aG _ _ _ _ _ _ _ _ fN (@aG _ _ _ _ _ _ _ _ bB (@aG _ _ _ _ _ _ _ _ dW (pv 3) ak) ak) (pv 4)) ak) (ao rfl) (.inr rfl)) (@al _ _ _ _ _ (@aB _ _ 5 _ _ _ _ dR.nd rfl (Or.inl rfl) (@aG _ _ _ _ _ _ _ _ bB (@aG _ _ _ _ _ _ _ _ fN (pv 5) (@aG _ _ _ _ _ _ _ _ bB (@aG _ _ _ _ _ _ _ _ dW (pv 5) ak) ak)) (@ay _ _ _ _ _ _ _ aM (pv 0) ak (fun _ _=>rfl))) (ao rfl) (.inr rfl)) (@ap _ _ _ (@aD _ _ _ _ (@aG _ _ _ _ _ _ _ _ dW (@aG _ _ _ _ _ _ _ _ ow (@aG _ _ _ _ _ _ _ _ dW (pv 5) ak) ak) (pv 1)))))))))))),?_⟩
 have X1:Ext fp H (upd H fp (.lst [.ref sc,.int a,.int b,.int (c+1)])):=Ext.upd
 have e1:(upd H fp (.lst [.ref sc,.int a,.int b,.int (c+1)])) fp=some (.lst [.ref sc,.int a,.int b,.int (c+1)]):=ae
 have e2:(upd H fp (.lst [.ref sc,.int a,.int b,.int (c+1)])) sc=some (.lst (List.map V.int ns)):=X1 _ _ hne h2
 refine ⟨_,rfl,fp,_,_,_,rfl,rfl,SqL.of h1,rfl,_,_,rfl,rfl,_,rfl,fp,_,_,_,rfl,rfl,h1,rfl,?_⟩
 change xE _ _ _ _ (upd H fp (.lst [.ref sc,.int a,.int b,.int (c+1)]))
 generalize (upd H fp (.lst [.ref sc,.int a,.int b,.int (c+1)]))=H1 at X1 e1 e2
 have fin:∀ {a' b' v:Int} {H':Hp},H' fp=some (.lst [.ref sc,.int a',.int b',.int (c+1)])→Ext fp H H'→0≤v→v<many→Q (.int v) H':=fun {a' b' v H'} ha hb hc hd=>q v H' hc hd hb ⟨ns,a',b',c+1,ha,hb _ _ hne h2,hn,by omega,by omega⟩
 refine ⟨_,rfl,fp,_,_,_,rfl,rfl,SqL.of e1,rfl,_,_,rfl,rfl,_,rfl,?_⟩
 refine bO (fun cc=>?_) (fun cc=>?_)
 ·refine ⟨_,rfl,fp,_,_,_,rfl,rfl,SqL.of e1,rfl,_,rfl,_,_,rfl,rfl,hm0,?_⟩
  refine ⟨_,rfl,fp,_,_,_,rfl,rfl,SqL.of e1,rfl,_,rfl,_,_,rfl,rfl,⟨hm0,by omega⟩,_,rfl,fp,_,_,_,rfl,rfl,e1,rfl,_,rfl,?_⟩
  exact fin ae (X1.trans Ext.upd) (Int.emod_nonneg _ (by omega)) (Int.emod_lt_of_pos _ hm0)
 ·have hb:=Int.emod_lt_of_pos a (show (0:Int)<ns.length by omega)
  have ha:=Int.emod_nonneg a (show (ns.length:Int)≠0 by omega)
  obtain ⟨v,hv,_,hat⟩:=iw (xs:=List.map V.int ns) (i:=a % ((List.map V.int ns).length:Nat)) (by rw [List.length_map]; exact ha) (by rw [List.length_map]; exact hb)
  obtain ⟨cell,_,rfl⟩:=List.mem_map.mp hv
  refine ⟨_,rfl,fp,_,_,_,rfl,rfl,SqL.of e1,rfl,_,rfl,fp,_,_,_,rfl,rfl,SqL.of e1,rfl,_,rfl,fp,_,_,_,rfl,rfl,SqL.of e1,rfl,sc,_,rfl,.inl (SqL.of e2),_,_,rfl,rfl,?_,?_⟩
  ·show (0:Int)<((List.map V.int ns).length:Nat)
   rw [List.length_map]; omega
  refine ⟨sc,_,_,_,rfl,rfl,SqL.of e2,hat,?_⟩
  refine ⟨_,rfl,fp,_,_,_,rfl,rfl,SqL.of e1,rfl,_,_,rfl,rfl,_,rfl,fp,_,_,_,rfl,rfl,e1,rfl,?_⟩
  have X3:Ext fp H (upd H1 fp (.lst [.ref sc,.int (a+1),.int b,.int (c+1)])):=X1.trans Ext.upd
  have e3:(upd H1 fp (.lst [.ref sc,.int (a+1),.int b,.int (c+1)])) fp=some (.lst [.ref sc,.int (a+1),.int b,.int (c+1)]):=ae
  change xE _ _ _ _ (upd H1 fp (.lst [.ref sc,.int (a+1),.int b,.int (c+1)]))
  generalize (upd H1 fp (.lst [.ref sc,.int (a+1),.int b,.int (c+1)]))=H3 at X3 e3
  refine ⟨_,rfl,_,_,rfl,rfl,zQ,_,_,rfl,rfl,_,rfl,?_⟩
  refine bO (fun c3=>?_) (fun c3=>?_)
  ·refine ⟨_,rfl,_,rfl,_,_,rfl,rfl,⟨hm0,by omega⟩,_,rfl,fp,_,_,_,rfl,rfl,e3,rfl,_,rfl,_,rfl,_,_,rfl,rfl,hm0,?_⟩
   exact fin ae (X3.trans Ext.upd) (Int.emod_nonneg _ (by omega)) (Int.emod_lt_of_pos _ hm0)
  ·refine ⟨_,rfl,fp,_,_,_,rfl,rfl,SqL.of e3,rfl,_,_,rfl,rfl,wM (by decide) (by decide),_,rfl,fp,_,_,_,rfl,rfl,SqL.of e3,rfl,_,_,rfl,rfl,yH (by show -(2 ^ 64)<c+1; omega) (by show c+1<2 ^ 64; omega),_,rfl,fp,_,_,_,rfl,rfl,SqL.of e3,rfl,_,_,rfl,rfl,wM (by decide) (by decide),_,_,rfl,rfl,_,_,rfl,rfl,?_⟩
   refine ⟨_,rfl,_,_,rfl,rfl,(by show (0:Int)<2147483629; decide),_,_,rfl,rfl,_,rfl,_,_,rfl,rfl,wM (jG cell (by decide) (by decide)).1 (jG cell (by decide) (by decide)).2,_,_,rfl,rfl,(by show (0:Int)<2147483647; decide),?_⟩
   refine ⟨_,rfl,_,rfl,_,_,rfl,rfl,(by show (0:Int)<65521; decide),_,_,rfl,rfl,_,_,rfl,rfl,yH ?_ ?_,_,rfl,fp,_,_,_,rfl,rfl,SqL.of e3,rfl,_,_,rfl,rfl,?_⟩
   ·have:=(jG ((cell % 2147483629+1)*(31*(c+1)*(c+1)+7919*(c+1)+1) % 2147483647) (b:=65521) (by decide) (by decide)).1
    have:=Int.emod_nonneg ((cell % 2147483629+1)*(31*(c+1)*(c+1)+7919*(c+1)+1) % 2147483647) (show (65521:Int)≠0 by decide)
    exact Int.lt_of_lt_of_le (by decide:(-(2 ^ 64):Int)<0+48271) (Int.add_le_add_right this _)
   ·have:=Int.emod_lt_of_pos ((cell % 2147483629+1)*(31*(c+1)*(c+1)+7919*(c+1)+1) % 2147483647) (show (0:Int)<65521 by decide)
    exact Int.lt_trans (Int.add_lt_add_right this 48271) (by decide)
   refine ⟨_,rfl,_,_,rfl,rfl,(by show (0:Int)<2147483629; decide),_,_,rfl,rfl,⟨by decide,by decide⟩,_,rfl,_,_,rfl,rfl,hm0,?_⟩
   exact fin e3 X3 (Int.emod_nonneg _ (by omega)) (Int.emod_lt_of_pos _ hm0)
end
open PySem L2
theorem Fd.same {H H':Hp} {fp sc:Addr} {m:Nat} (g:av H H') (h:Fd H fp sc m):Fd H' fp sc m:=by
 obtain ⟨ns,a,b,c,h1,h2,h3⟩:=h
 exact ⟨ns,a,b,c,g _ _ h1,g _ _ h2,h3⟩
theorem Fd.lst {H:Hp} {fp sc:Addr} {m:Nat} (h:Fd H fp sc m):∃ xs,H fp=some (.lst xs):=by
 obtain ⟨ns,a,b,c,h1,_⟩:=h
 exact ⟨_,h1⟩
theorem Fd.tk {H H':Hp} {fp sc:Addr} {m:Nat} (x:Ext fp H H') (h:Fd H fp sc m):Tk H H':=by
 obtain ⟨xs,e⟩:=h.lst
 exact aY x e
theorem Fd.ne {H:Hp} {fp sc p:Addr} {m:Nat} (h:Fd H fp sc m) (hp:H p=none):p≠fp∧p≠sc:=by
 obtain ⟨ns,a,b,c,h1,h2,h3⟩:=h
 exact ⟨(aq h1 hp).symm,(aq h2 hp).symm⟩
theorem Fd.upd {H:Hp} {fp sc p:Addr} {m:Nat} {o:HO} (h:Fd H fp sc m) (n:p≠fp∧p≠sc):Fd (L2.upd H p o) fp sc m:=by
 obtain ⟨ns,a,b,c,h1,h2,h3⟩:=h
 exact ⟨ns,a,b,c,by rw [aI n.1.symm]; exact h1,by rw [aI n.2.symm]; exact h2,h3⟩
theorem Fd.le {H:Hp} {fp sc:Addr} {m m':Nat} (h:Fd H fp sc m) (l:m≤m'):Fd H fp sc m':=by
 obtain ⟨ns,a,b,c,h1,h2,h3,h4,h5⟩:=h
 exact ⟨ns,a,b,c,h1,h2,h3,h4,by omega⟩
theorem Ext.put {fp p:Addr} {H H1:Hp} {o:HO} (x:Ext fp H H1) (h:H p=none):Ext fp H (L2.upd H1 p o):=fun b u n e=>by rw [aI (aq e h)]; exact x b u n e
theorem Ext.free {fp p:Addr} {H H1:Hp} (x:Ext fp H H1) (n:p≠fp) (h:H1 p=none):H p=none:=by
 cases e:H p with
 | none=>rfl
 | some o=>rw [x p o n e] at h; cases h
theorem SqL.same {K:Frag} {H H':Hp} (g:av H H') {a:Addr} {xs:List V} (h:SqL K H a xs):SqL K H' a xs:=by
 rcases h with (h | ⟨o,h⟩) | h
 ·exact .inl (.inl (g _ _ h))
 ·exact .inl (.inr ⟨o,g _ _ h⟩)
 ·exact .inr h
theorem oM:∀ ns:List Int,PyData.canLayAll0 (ns.map PyData.int)=true∧PyData.depthAll (ns.map PyData.int)≤1
 | []=>⟨rfl,by simp [PyData.depthAll]⟩
 | i::r=>by
  have:=oM r
  simp only [List.map_cons,PyData.canLayAll0,PyData.canLay0,PyData.depthAll,PyData.depth,this.1,Bool.and_self,true_and]
  omega
theorem oX (ns:List Int):SeqAt.shaped (.list (ns.map PyData.int))=true:=by
 have:=oM ns
 unfold SeqAt.shaped
 rw [Bool.and_eq_true,decide_eq_true_eq]
 refine ⟨by simp only [PyData.canLay0]; exact this.1,by simp only [PyData.depth]; omega⟩
theorem sS {K:Frag} {H:Hp}:∀ ns:List Int,fk K H (ns.map V.int) (ns.map PyData.int)
 | []=>.nil
 | i::r=>.cons (.int i) (sS r)
section
variable {P:Program} {w:World} {K:Frag} {mg:Str→Option Value} {base:Heap} {f g:Addr} {fd gd:FuncData}
abbrev ut:List Str:=["_law_script"]
theorem uj:aF ut ["_law_script"] (defScope kR):=⟨rfl,rfl,rfl,by decide +kernel,rfl,by decide +kernel,by decide +kernel⟩
def Bd (K:Frag):Sp:=fun vs H Q _=>∃ a ns,vs=[.ref a]∧SqL K H a (List.map V.int ns)∧∀ t sc H',av H H'→H t=none→Fd H' t sc 0→Q (.ref t) H'
theorem BI (T:G0 mg) (F:Fun K "_law_feed" "_law_feed" kR f fd):bg P w K mg base CX0 1 f fd ["_law_script"] (Bd K):=by
 refine F.ok uj (fun vs H Q E h=>?_) (fun cdv A outer s H vs Q E hr h=>?_)
 ·obtain ⟨a,ns,rfl,_⟩:=h
  rfl
 obtain ⟨a,ns,rfl,hS,q⟩:=h
 refine ⟨_,(@ap _ _ _ (@aD _ _ _ _ (@aR _ _ _ _ (@ad _ _ _ _ _ (@aG _ _ _ _ _ _ _ _ ml (@dS _ _ _ _ _ _ _ _ _ _ gZ (pv 0) gW (eF ak)) (@aG _ _ _ _ _ _ _ _ zW (@aR _ _ _ _ (@ad _ _ _ _ _ ak ag (ac rfl))) (@aX _ _ _ _ _ _ _ _ _ mO rfl T.int mo (@ad _ _ _ _ _ (@kz _ _ _ _ _ _ _ _ (zX hr.units) (pv 0) (@aR _ _ _ _ ag) (bo _)) ag (ac rfl)) (by decide) (by decide) (ac rfl) (aj rfl)))) (@ad _ _ _ _ _ ak (@ad _ _ _ _ _ ak (@ad _ _ _ _ _ ak ag (ac rfl)) (ac rfl)) (ac rfl)) (ac rfl))))),?_⟩
 have em:bV (ns.map V.int) none (some 63)=(ns.take 63).map V.int:=by
  unfold bV
  rw [HT.sIx_none,show (63:Int)=((63:Nat):Int) from rfl,HT.sIx_nat,List.drop_zero,Nat.sub_zero,List.length_map,← List.map_take]
  by_cases h:63≤ns.length
  ·rw [Nat.min_eq_left h]
  ·rw [Nat.min_eq_right (by omega),List.take_length,List.take_of_length_le (by omega)]
 refine ⟨_,rfl,_,rfl,a,_,rfl,hS,fun p hp=>?_⟩
 have gp:=af hp (.lst (bV (ns.map V.int) none (some 63)))
 refine ⟨(by show 1≤sizeLine; decide),fun l0 hl0=>?_⟩
 have g0:=gp.trans (af hl0 (.lst [.int 0]))
 refine ⟨_,rfl,(by show 0≤sizeLine; decide),fun l1 hl1=>?_⟩
 have g1:=g0.trans (af hl1 (.lst []))
 refine ⟨.list (ns.map PyData.int),.list [],.lst (SqL.same g1 hS) (sS ns),.lst (SqL.of ae) .nil,oX ns,rfl,.inr ⟨_,rfl,?_⟩⟩
 rw [em] at hl0 hl1 gp g0 g1 ⊢
 have hp1:(upd (upd (upd H p (.lst ((ns.take 63).map V.int))) l0 (.lst [.int 0])) l1 (.lst [])) p=some (.lst ((ns.take 63).map V.int)):=jN (aq (jN (aq ae hl0) ae) hl1) (jN (aq ae hl0) ae)
 have hl01:(upd (upd (upd H p (.lst ((ns.take 63).map V.int))) l0 (.lst [.int 0])) l1 (.lst [])) l0=some (.lst [.int 0]):=jN (aq ae hl1) ae
 generalize (upd (upd (upd H p (.lst ((ns.take 63).map V.int))) l0 (.lst [.int 0])) l1 (.lst []))=H1 at g1 hp1 hl01
 have lt:(ns.take 63).length≤63:=by rw [List.length_take]; omega
 cases ns with
 | nil =>
  refine ⟨l0,1,[.int 0],rfl,rfl,hl01,by decide,by decide,by decide,fun p2 hp2=>?_⟩
  refine ⟨p,p2,_,_,rfl,rfl,jN (aq hp1 hp2) hp1,ae,by decide,fun p3 hp3=>?_⟩
  refine ⟨(by show 4≤sizeLine; decide),fun fp hfp=>?_⟩
  refine q fp _ _ (((g1.trans (af hp2 _)).trans (af hp3 _)).trans (af hfp _)) (((g1.trans (af hp2 _)).trans (af hp3 _)).free hfp) ⟨[0],0,0,0,ae,jN (aq ae hfp) ae,by decide,by decide,by decide⟩
 | cons n r =>
  refine ⟨l0,0,[.int 0],rfl,rfl,hl01,by decide,by decide,by decide,fun p2 hp2=>?_⟩
  refine ⟨p,p2,_,_,rfl,rfl,jN (aq hp1 hp2) hp1,ae,by rw [List.length_map,sizeLine_eq]; simp only [Int.toNat_zero,List.replicate_zero,List.flatten_nil,List.length_nil]; omega,fun p3 hp3=>?_⟩
  refine ⟨(by show 4≤sizeLine; decide),fun fp hfp=>?_⟩
  refine q fp _ _ (((g1.trans (af hp2 _)).trans (af hp3 _)).trans (af hfp _)) (((g1.trans (af hp2 _)).trans (af hp3 _)).free hfp) ⟨(n::r).take 63,0,0,0,ae,?_,by simp,by decide,by decide⟩
  refine jN (aq ae hfp) ?_
  rw [ae]
  simp
end
open PySem L2
def GPk (K:Frag) (mg:Str→Option Value):Prop:=∃ a,mg "PLAIN_KINDS"=some (.ref a)∧∀ H,SqT K H a (PL.map V.str)
abbrev Fld:=Str×Str
abbrev Rec:=Str×List Fld
def nK (H:Hp) (v:V) (p:Fld):Prop:=∃ a,v=.ref a∧H a=some (.tup [.str p.1,.str p.2])
def eA (H:Hp) (v:V) (fs:List Fld):Prop:=∃ a xs,v=.ref a∧H a=some (.tup xs)∧Paired (nK H) xs fs
def jM (H:Hp) (v:V) (r:Rec):Prop:=∃ a y,v=.ref a∧H a=some (.tup [.str r.1,y])∧eA H y r.2
def fm (H:Hp) (v:V) (R:List Rec):Prop:=∃ a xs,v=.ref a∧H a=some (.tup xs)∧Paired (jM H) xs R
def dZ (H:Hp) (v:V) (R:List Rec):Prop:=∃ a y z,v=.ref a∧H a=some (.tup [y,z])∧fm H y R
theorem nK.mono {H H':Hp} (t:Tk H H') {v:V} {p:Fld} (h:nK H v p):nK H' v p:=let ⟨a,e,q⟩:=h; ⟨a,e,t _ _ q⟩
theorem eA.mono {H H':Hp} (t:Tk H H') {v:V} {p:List Fld} (h:eA H v p):eA H' v p:=let ⟨a,xs,e,q,r⟩:=h; ⟨a,xs,e,t _ _ q,Paired.mapP r fun _ _ z=>z.mono t⟩
theorem jM.mono {H H':Hp} (t:Tk H H') {v:V} {p:Rec} (h:jM H v p):jM H' v p:=let ⟨a,y,e,q,r⟩:=h; ⟨a,y,e,t _ _ q,r.mono t⟩
theorem fm.mono {H H':Hp} (t:Tk H H') {v:V} {p:List Rec} (h:fm H v p):fm H' v p:=let ⟨a,xs,e,q,r⟩:=h; ⟨a,xs,e,t _ _ q,Paired.mapP r fun _ _ z=>z.mono t⟩
theorem dZ.mono {H H':Hp} (t:Tk H H') {v:V} {p:List Rec} (h:dZ H v p):dZ H' v p:=let ⟨a,y,z,e,q,r⟩:=h; ⟨a,y,z,e,t _ _ q,r.mono t⟩
theorem aH {α β:Type} {F:α→β→Prop}:∀ {l:List α} {m:List β},Paired F l m→∀ (j:Nat) a,l[j]?=some a→∃ b,m[j]?=some b∧F a b
 | _,_,.nil,_,_,h=>by simp at h
 | _,_,.cons h t,0,_,h1=>by simp at h1; subst h1; exact ⟨_,rfl,h⟩
 | _,_,.cons h t,j+1,_,h1=>by
  obtain ⟨b,e,q⟩:=aH t j _ (by simpa using h1)
  exact ⟨b,by simpa using e,q⟩
def look (R:List Rec) (k:Str):List Fld:=((R.find? fun r=>decide (r.1=k)).map (·.2)).getD []
theorem uo {R:List Rec} {i:Nat} {r:Rec} {k:Str} (h:R[i]?=some r):look (R.drop i) k=if r.1=k then r.2 else look (R.drop (i+1)) k:=by
 obtain ⟨hi,e⟩:=List.getElem?_eq_some_iff.mp h
 rw [List.drop_eq_getElem_cons hi,e]
 unfold look
 rw [List.find?_cons]
 by_cases q:r.1=k
 ·rw [if_pos q,decide_eq_true q]; rfl
 ·rw [if_neg q,decide_eq_false q]
def iq (H:Hp) (v:V) (p:List Str):Prop:=∃ a,v=.ref a∧H a=some (.tup (p.map V.str))
theorem iq.mono {H H':Hp} (t:Tk H H') {v:V} {p:List Str} (h:iq H v p):iq H' v p:=let ⟨a,e,q⟩:=h; ⟨a,e,t _ _ q⟩
abbrev bH:=List Str×Str
def lP (R:List Rec) (h:Str→List bH) (k:Str):List bH:=(look R k).flatMap fun p=>(h p.2).map fun q=>(p.1::q.1,q.2)
def am (R:List Rec):Nat→Str→List bH
 | 0,_=>[]
 | n+1,k=>if k∈PL then [([],k)] else lP R (am R n) k
def bW (R:List Rec):Nat→Str→Prop
 | 0,_=>False
 | n+1,k=>(k∈PL)∨(k∉PL∧k∈R.map (·.1)∧(1≤(look R k).length∧(look R k).length≤3)∧∀ p∈look R k,bW R n p.2)
theorem bX {α β:Type} {g:α→List β} {b:Nat}:∀ {l:List α},(∀ x∈l,(g x).length≤b)→(l.flatMap g).length≤l.length*b
 | [],_=>by simp
 | x::r,h=>by
  rw [List.flatMap_cons,List.length_append,List.length_cons,Nat.succ_mul]
  have h1:=h x List.mem_cons_self
  have h2:=bX (l:=r) fun y hy=>h y (List.mem_cons_of_mem _ hy)
  omega
theorem bM {R:List Rec}:∀ (n:Nat) {k:Str},bW R n k→(am R n k).length≤3 ^ n
 | 0,_,h=>h.elim
 | n+1,k,h=>by
  unfold am
  rcases h with h | ⟨h,_,⟨_,hl⟩,hd⟩
  ·rw [if_pos h]
   show 1≤3 ^ (n+1)
   exact Nat.pos_of_ne_zero (by simp)
  ·rw [if_neg h]
   unfold lP
   have q:=bX (l:=look R k) (g:=fun p=>(am R n p.2).map fun q=>(p.1::q.1,q.2)) (b:=3 ^ n) fun p hp=>by
    rw [List.length_map]
    exact bM n (hd p hp)
   have q2:(look R k).length*3 ^ n≤3*3 ^ n:=Nat.mul_le_mul_right _ hl
   rw [Nat.pow_succ]
   omega
theorem eK {R:List Rec}:∀ (n:Nat) {k:Str} {q:bH},q∈am R n k→q.1.length≤n
 | 0,_,_,h=>nomatch h
 | n+1,k,q,h=>by
  unfold am at h
  split at h
  ·rw [List.mem_singleton.mp h]; simp
  ·unfold lP at h
   obtain ⟨p,_,hq⟩:=List.mem_flatMap.mp h
   obtain ⟨q',hq',rfl⟩:=List.mem_map.mp hq
   have:=eK n hq'
   simp
   omega
theorem cB (k:Str):∀ l:List Str,inV (.str k) (l.map V.str)=decide (k∈l)
 | []=>rfl
 | a::r=>by
  have ih:=cB k r
  unfold inV at ih ⊢
  rw [List.map_cons,List.any_cons,ih]
  show ((a==k)||_)=_
  by_cases h:a=k
  ·subst h; simp
  ·have h':¬ k=a:=fun z=>h z.symm
   simp [h,h']
def cw (H:Hp) (v:V) (q:bH):Prop:=∃ a y,v=.ref a∧H a=some (.tup [y,.str q.2])∧iq H y q.1
theorem cw.mono {H H':Hp} (t:Tk H H') {v:V} {q:bH} (h:cw H v q):cw H' v q:=let ⟨a,y,e,r,s⟩:=h; ⟨a,y,e,t _ _ r,s.mono t⟩
theorem cL {H H':Hp} (t:Tk H H') {xs:List V} {ps:List bH} (h:Paired (cw H) xs ps):Paired (cw H') xs ps:=Paired.mapP h fun _ _ z=>z.mono t
theorem qK:(PL.map V.str).all iP=true:=by decide
section
variable {P:Program} {w:World} {K:Frag} {mg:Str→Option Value} {base:Heap} {f g:Addr} {fd gd:FuncData}
def gN:Sp:=fun vs H Q _=>∃ v k R,vs=[v,.str k]∧dZ H v R∧∀ y H',av H H'→eA H' y (look R k)→Q y H'
theorem pN:aF ["program", "kind", "record"] ["program", "kind"] (defScope gr):=⟨rfl,rfl,rfl,by decide +kernel,rfl,by decide +kernel,by decide +kernel⟩
theorem tQ (F:Fun K "fields_of" "fields_of" gr f fd):bg P w K mg base CX0 1 f fd ["program", "kind"] gN:=by
 refine F.ok pN (fun vs H Q E h=>?_) (fun cdv A outer s H vs Q E hr h=>?_)
 ·obtain ⟨v,k,R,rfl,_⟩:=h
  rfl
 obtain ⟨v,k,R,rfl,hp,q⟩:=h
 obtain ⟨a,y,z,rfl,ha,b,xs,rfl,hb,rs⟩:=hp
 refine ⟨_,al (bn PassesOwn.never rfl (cG (ay aL (pv 0) ak (fun _ _=>rfl))) (au (i:=2) pN.nd rfl (Or.inl rfl))
   (ap (bU (aQ dC (ay aL (pv 2) ak (fun _ _=>rfl)) (pv 1) (bo _)) (ap (aD (ay aL (pv 2) ak (fun _ _=>rfl)))) bh)))
  (ap (aD (aW ag))),?_⟩
 refine ⟨_,rfl,a,_,_,_,rfl,rfl,SqT.of ha,rfl,b,rfl,⟨xs,SqT.of hb⟩,fo (xs:=xs) (fun i σ H'=>∃ m,σ=[some (.ref a),some (.str k),m]∧H'=H∧look R k=look (R.drop i) k) ⟨none,rfl,rfl,rfl⟩ (fun i σ H' _ p=>?_) (fun i x σ H' hx p=>?_) (fun σ H' p=>?_)⟩
 ·obtain ⟨_,_,rfl,_⟩:=p
  exact SqT.of hb
 ·obtain ⟨m,rfl,rfl,e⟩:=p
  obtain ⟨r,hr',c,y',rfl,hc,hf⟩:=aH rs i x hx
  refine ⟨_,rfl,c,_,_,_,rfl,rfl,SqT.of hc,rfl,_,rfl,rfl,_,rfl,?_⟩
  rw [uo hr'] at e
  refine bO (fun cc=>?_) (fun cc=>?_)
  ·have ck:r.1=k:=V.str.inj (of_decide_eq_true cc)
   rw [if_pos ck] at e
   exact ⟨_,rfl,c,_,_,_,rfl,rfl,SqT.of hc,rfl,q _ _ (av.refl _) (e ▸ hf)⟩
  ·have ck:¬ r.1=k:=fun z=>cc (decide_eq_true (congrArg V.str z))
   rw [if_neg ck] at e
   exact ⟨_,rfl,rfl,e⟩
 ·obtain ⟨m,rfl,rfl,e⟩:=p
  refine ⟨(by show 0≤sizeLine; decide),fun t ht=>q _ _ (af ht _) ⟨t,[],rfl,ae,?_⟩⟩
  rw [e,Paired.length rs,List.drop_length]
  exact .nil
def iK:Sp:=fun vs H Q _=>∃ v k R,vs=[v,.str k]∧dZ H v R∧(look R k).length≤3∧∀ r H',av H H'→H r=none→H' r=some (.lst ((look R k).map fun p=>V.str p.2))→Q (.ref r) H'
theorem xR:aF ["program", "kind"] ["program", "kind"] (defScope dg):=⟨rfl,rfl,rfl,by decide +kernel,rfl,by decide +kernel,by decide +kernel⟩
theorem wd (F:Fun K "field_kinds" "field_kinds" dg f fd) (D:Cal P w K mg base 1 "fields_of" ["program", "kind"] gN):bg P w K mg base CX0 2 f fd ["program", "kind"] iK:=by
 obtain ⟨g,gd,Gd,bG,kG,mG⟩:=D.ex
 refine F.ok xR (fun vs H Q E h=>?_) (fun cdv A outer s H vs Q E hr h=>?_)
 ·obtain ⟨v,k,R,rfl,_⟩:=h
  rfl
 obtain ⟨v,k,R,rfl,hp,hl,q⟩:=h
 refine ⟨_,ap (aD (be (N':=["field"]) (ρ:=[none]) (m:=1) (bt.of (fs:=defScope dg) (N:=["program", "kind"]) rfl rfl (by decide +kernel)) rfl (cG (ar Gd hr rfl mG kG bG .nil aE (ad (pv 0) (ad (pv 1) ag))))
    (fun _ _ _ _=>au (i:=0) (show List.Nodup (["field"]:List Str) by decide +kernel) rfl (Or.inl rfl)) (fun _ _ _ _=>bq) (fun _ _ _ _=>ay (cK (K:=K) rfl) (pv 0) ak (fun _ _=>rfl)))),?_⟩
 refine ⟨_,rfl,_,rfl,v,k,R,rfl,hp,fun y H1 g1 hy=>?_⟩
 obtain ⟨b,xs,rfl,hb,rs⟩:=hy
 have lx:xs.length≤1000:=by rw [Paired.length rs]; omega
 refine ⟨b,rfl,⟨xs,SqT.of hb⟩,cO (xs:=xs) xs.length rfl lx (fun i acc H'=>H'=H1∧acc=((look R k).take i).map fun p=>V.str p.2) ⟨rfl,rfl⟩ (fun i acc H' p=>by rw [p.1]; exact SqT.of hb) (fun i acc H' x hi la hx p=>?_) (fun acc H' p la D hD=>?_)⟩
 ·obtain ⟨rfl,rfl⟩:=p
  obtain ⟨fl,hfl,c,rfl,hc⟩:=aH rs i x hx
  refine ⟨⟨rfl,rfl⟩,bp ?_⟩
  refine ⟨_,rfl,c,_,_,_,rfl,rfl,SqT.of hc,rfl,nxT lx hi la ⟨rfl,?_⟩⟩
  rw [List.take_add_one,hfl,List.map_append]
  rfl
 ·obtain ⟨rfl,rfl⟩:=p
  refine q D _ (g1.trans (af hD _)) (g1.free hD) ?_
  rw [ae,Paired.length rs,List.take_length]
def fD (n:Nat):Sp:=fun vs H Q _=>∃ v k R,vs=[v,.str k]∧dZ H v R∧n≤4∧bW R n k∧∀ r ys H',av H H'→H r=none→H' r=some (.lst ys)→Paired (cw H') ys (am R n k)→Q (.ref r) H'
theorem hJ:aF ["program", "kind", "told", "field", "inner", "path", "sort"] ["program", "kind"] (defScope iV):=⟨rfl,rfl,rfl,by decide +kernel,rfl,by decide +kernel,by decide +kernel⟩
theorem uv {n:Nat} (TP:GPk K mg) (F:Fun K "parts" "parts" iV f fd) (D:Cal P w K mg base 1 "fields_of" ["program", "kind"] gN) (D2:Cal P w K mg base (n+1) "parts" ["program", "kind"] (fD n)) :
  bg P w K mg base CX0 (n+2) f fd ["program", "kind"] (fD (n+1)):=by
 obtain ⟨g,gd,Gd,bG,kG,mG⟩:=D.ex
 obtain ⟨g2,gd2,Gd2,bG2,kG2,mG2⟩:=D2.ex
 obtain ⟨aP,mP,sP⟩:=TP
 refine F.ok hJ (fun vs H Q E h=>?_) (fun cdv A outer s H vs Q E hr h=>?_)
 ·obtain ⟨v,k,R,rfl,_⟩:=h
  rfl
 obtain ⟨v,k,R,rfl,hp,hn,hd,q⟩:=h
 refine ⟨_,al (bU (aQ dP (pv 1) (iY (v:=.ref aP) rfl mP rfl) rfl) (ap (aD (aR (ad (aW (ad (aW ag) (ad (pv 1) ag))) ag)))) bh)
  (al (aB (i:=2) hJ.nd rfl (Or.inl rfl) (aR ag))
  (al (bn PassesOwn.never rfl (cG (ar Gd (hr.mono (by omega)) rfl mG kG bG .nil aE (ad (pv 0) (ad (pv 1) ag)))) (cQ rfl (aJ (au (i:=3) hJ.nd rfl (Or.inl rfl)) (aJ (au (i:=4) hJ.nd rfl (Or.inl rfl)) bP)))
   (ap (bn PassesOwn.never rfl (aZ (ar Gd2 hr rfl mG2 kG2 bG2 .nil aE (ad (pv 0) (ad (pv 4) ag)))) (cQ rfl (aJ (au (i:=5) hJ.nd rfl (Or.inl rfl)) (aJ (au (i:=6) hJ.nd rfl (Or.inl rfl)) bP)))
    (ap (bY (dB PySem.F.plainAttrs_list PySem.F.slot_list_append PySem.F.type_list_append cZ (pv 2) (ad (aW (ad (aG nN (aW (ad (pv 3) ag)) (pv 5)) (ad (pv 6) ag))) ag)))))))
  (ap (aD (pv 2))))),?_⟩
 refine ⟨_,rfl,aP,_,rfl,.inr (sP _),rfl,qK,_,rfl,?_⟩
 refine bO (fun c=>?_) (fun c=>?_)
 ·have ck:k∈PL:=of_decide_eq_true ((cB k PL).symm.trans c)
  refine ⟨(by show 0≤sizeLine; decide),fun p1 h1=>⟨_,rfl,(by show 2≤sizeLine; decide),fun p2 h2=>⟨(by show 1≤sizeLine; decide),fun r h3=>?_⟩⟩⟩
  have t1:=fA h2 (.tup [.ref p1,.str k])
  have t2:=fA h3 (.lst [.ref p2])
  refine q r _ _ (((af h1 _).trans (af h2 _)).trans (af h3 _)) ?_ ae ?_
  ·exact (af h1 _).free ((af h2 _).free h3)
  ·unfold am
   rw [if_pos ck]
   exact .cons ⟨p2,.ref p1,rfl,t2 _ _ ae,p1,rfl,t2 _ _ (t1 _ _ ae)⟩ .nil
 ·have ck:k∉PL:=fun z=>c (((cB k PL).trans (decide_eq_true z)))
  rcases hd with z | ⟨_,_,⟨_,hl⟩,hd⟩
  ·exact absurd z ck
  refine ⟨(by show 0≤sizeLine; decide),fun t ht=>?_⟩
  have g0:=af ht (.lst [])
  refine ⟨_,rfl,_,rfl,v,k,R,rfl,hp.mono (ah g0),fun y H1 g1 hy=>?_⟩
  obtain ⟨b,xs,rfl,hb,rs⟩:=hy
  have ht1:H1 t=some (.lst []):=g1 _ _ ae
  have hlen:∀ i,((look R k).take i).length≤3:=fun i=>by rw [List.length_take]; omega
  refine ⟨b,rfl,⟨xs,SqT.of hb⟩,fo (xs:=xs) (fun i σ H'=>∃ m3 m4 m5 m6 ys,σ=[some v,some (.str k),some (.ref t),m3,m4,m5,m6]∧Ext t H1 H'∧H' t=some (.lst ys) ∧
    Paired (cw H') ys (((look R k).take i).flatMap fun p=>(am R n p.2).map fun q=>(p.1::q.1,q.2))) ⟨none,none,none,none,[],rfl,Ext.refl _ _,ht1,.nil⟩ (fun i σ H' _ p=>?_) (fun i u σ H' hx p=>?_) (fun σ H' p=>?_)⟩
  ·obtain ⟨_,_,_,_,_,_,x1,_⟩:=p
   exact SqT.of (aY x1 ht1 _ _ hb)
  ·obtain ⟨m3,m4,m5,m6,ys,rfl,x1,hty,py⟩:=p
   obtain ⟨fl,hfl,a,rfl,ha⟩:=aH rs i u hx
   have k1:=aY x1 ht1
   have dp:=hd fl (List.mem_of_getElem? hfl)
   refine ⟨a,_,rfl,SqT.of (k1 _ _ ha),rfl,_,_,rfl,_,_,rfl,rfl,?_⟩
   refine ⟨_,rfl,_,rfl,v,fl.2,R,rfl,(hp.mono ((ah g0).trans (ah g1))).mono k1,by omega,dp,fun r zs H2 g2 hr0 hrz pz=>?_⟩
   have hty2:=g2 _ _ hty
   have hrt:r≠t:=(aq hty hr0).symm
   have el:=bM n dp
   have e3:(3:Nat) ^ n≤81:=by
    have:n≤4:=by omega
    calc 3 ^ n≤3 ^ 4:=Nat.pow_le_pow_right (by decide) this
     _=81:=by decide
   have len1:ys.length≤243:=by
    rw [Paired.length py]
    have:=bX (l:=(look R k).take i) (g:=fun p=>(am R n p.2).map fun q=>(p.1::q.1,q.2)) (b:=81) fun p hp'=>by
     rw [List.length_map]
     have:=bM n (hd p (List.mem_of_mem_take hp'))
     omega
    have h3:=hlen i
    have:((look R k).take i).length*81≤3*81:=Nat.mul_le_mul_right _ h3
    omega
   refine ⟨r,rfl,⟨zs,SqL.of hrz⟩,bK (xs:=zs) (fun j σ H'=>∃ n5 n6 ws,σ=[some v,some (.str k),some (.ref t),some (.str fl.1),some (.str fl.2),n5,n6]∧Ext t H2 H'∧H' t=some (.lst ws) ∧
    Paired (cw H') ws ((((look R k).take i).flatMap fun p=>(am R n p.2).map fun q=>(p.1::q.1,q.2))++((am R n fl.2).take j).map fun q=>(fl.1::q.1,q.2))) ⟨_,_,ys,rfl,Ext.refl _ _,hty2,by simpa using cL (ah g2) py⟩ (fun j σ H' _ p=>?_) (fun j u σ H' hx2 p=>?_) (fun σ H' p=>?_)⟩
   ·obtain ⟨_,_,_,_,x2,_⟩:=p
    exact SqL.of (x2 _ _ hrt hrz)
   ·obtain ⟨n5,n6,ws,rfl,x2,htw,pw⟩:=p
    have k2:=aY x2 hty2
    obtain ⟨qq,hqq,hpa⟩:=aH pz j u hx2
    obtain ⟨a2,y2,rfl,ha2,a3,rfl,ha3⟩:=hpa.mono k2
    have hm:qq∈am R n fl.2:=List.mem_of_getElem? hqq
    have pl:=eK n hm
    have wl:ws.length≤900:=by
     rw [Paired.length pw,List.length_append,← Paired.length py,List.length_map,List.length_take]
     omega
    have fin:∀ (u:V) (H5:Hp),av H' H5→iq H5 u (fl.1::qq.1)→∀ p2,H5 p2=none→(upd H5 p2 (.tup [u,.str qq.2])) t=some (.lst ws)∧∃ n5 n6 ws',([some v,some (.str k),some (.ref t),some (.str fl.1),some (.str fl.2),some (.ref a3),some (.str qq.2)]:St)=[some v,some (.str k),some (.ref t),some (.str fl.1),some (.str fl.2),n5,n6] ∧
      Ext t H2 (upd (upd H5 p2 (.tup [u,.str qq.2])) t (.lst (ws++[.ref p2])))∧(upd (upd H5 p2 (.tup [u,.str qq.2])) t (.lst (ws++[.ref p2]))) t=some (.lst ws') ∧
      Paired (cw (upd (upd H5 p2 (.tup [u,.str qq.2])) t (.lst (ws++[.ref p2])))) ws' ((((look R k).take i).flatMap fun p=>(am R n p.2).map fun q=>(p.1::q.1,q.2))++((am R n fl.2).take (j+1)).map fun q=>(fl.1::q.1,q.2)):=by
     intro u H5 g5 hu p2 hp2
     have e5:(upd H5 p2 (.tup [u,.str qq.2])) t=some (.lst ws):=af hp2 _ _ _ (g5 _ _ htw)
     have k5:Tk H' (upd (upd H5 p2 (.tup [u,.str qq.2])) t (.lst (ws++[.ref p2]))):=((ah g5).trans (fA hp2 _)).trans (cj e5 _)
     refine ⟨e5,_,_,_,rfl,((x2.trans (av.ext g5)).trans (sZ hp2 _)).trans Ext.upd,ae,?_⟩
     rw [List.take_add_one,hqq,List.map_append,← List.append_assoc]
     exact Paired.snoc (cL k5 pw) ⟨p2,u,rfl,cj e5 _ _ _ ae,hu.mono ((fA hp2 _).trans (cj e5 _))⟩
    refine ⟨a2,_,rfl,SqT.of ha2,rfl,_,_,rfl,_,_,rfl,rfl,?_⟩
    refine ⟨_,rfl,.inl ⟨rfl,_,SqL.of htw⟩,_,rfl,(by show 1≤sizeLine; decide),fun p1 hp1=>?_⟩
    have g5:=af hp1 (.tup [.str fl.1])
    refine ⟨_,rfl,p1,a3,_,_,rfl,rfl,SqT.of ae,SqT.of (g5 _ _ ha3),(by simp),?_,fun z=>?_,fun z p3 hp3=>?_⟩
    ·rw [List.length_map]
     exact Nat.le_of_lt (aC (by simp; omega))
    ·have ep:qq.1=[]:=by simpa using z
     refine ⟨_,rfl,(by show 2≤sizeLine; decide),fun p2 hp2=>?_⟩
     obtain ⟨e5,fn⟩:=fin (.ref p1) _ g5 ⟨p1,rfl,by rw [ep]; exact ae⟩ p2 hp2
     exact ⟨t,ws,_,rfl,rfl,e5,aC (by omega),fn⟩
    ·refine ⟨_,rfl,(by show 2≤sizeLine; decide),fun p2 hp2=>?_⟩
     obtain ⟨e5,fn⟩:=fin (.ref p3) _ (g5.trans (af hp3 _)) ⟨p3,rfl,ae⟩ p2 hp2
     exact ⟨t,ws,_,rfl,rfl,e5,aC (by omega),fn⟩
   ·obtain ⟨n5,n6,ws,rfl,x2,htw,pw⟩:=p
    refine ⟨_,_,_,_,ws,rfl,(x1.trans (av.ext g2)).trans x2,htw,?_⟩
    rw [Paired.length pz,List.take_length] at pw
    rw [List.take_add_one,hfl,List.flatMap_append]
    simpa using pw
  ·obtain ⟨m3,m4,m5,m6,ys,rfl,x1,hty,py⟩:=p
   refine ⟨_,rfl,q t ys H' (fun b o e=>?_) ht hty ?_⟩
   ·exact x1 _ _ (aq e ht) (g1 _ _ (g0 _ _ e))
   ·unfold am
    rw [if_neg ck]
    rw [Paired.length rs,List.take_length] at py
    exact py
theorem wj:bg P w K mg base CX0 1 f fd ["program", "kind"] (fD 0):=by
 have no:∀ vs H Q E,¬ fD 0 vs H Q E:=fun vs H Q E h=>by
  obtain ⟨v,k,R,_,_,_,h1,_⟩:=h
  exact h1
 exact ⟨fun vs H Q E h=>absurd h (no vs H Q E),fun A outer s H args us vs Q E _ _ _ _ h=>absurd h (no vs H Q E)⟩
theorem jh (TP:GPk K mg) (F:Fun K "parts" "parts" iV f fd) (b:dA K fd ["program", "kind"] []) (m:mg "parts"=some (.ref f)) (D:Cal P w K mg base 1 "fields_of" ["program", "kind"] gN) :
  ∀ n:Nat,bg P w K mg base CX0 (n+1) f fd ["program", "kind"] (fD n)
 | 0=>wj
 | n+1=>uv TP F D ⟨f,fd,jh TP F b m D n,b,F.kp,m⟩
end
end K6
namespace L2
open PySem PySem.Spec PyProof.Rows
theorem Cl (l:Addr) (xs:Array Value) (n:Nat) (b:Addr) (ys:Array Value) (n2:Nat) (dd:Option Addr) (sl:Array (Option Value)) (h0:¬ (!xs.isEmpty&&Builtin.List.listTooLong (xs.size+ys.size))=true) (h1:xs.size≤sizeLine) (h2:xs.size+ys.size≤sizeLine+1) :
  Meets (Builtin.«list.extend» ⟨[.ref l,.ref b],[]⟩) (fun _ R s=>s.heap.get? l=some { cls:=.type "list",dict:=none,data:=.seq xs n,slots:=#[] } ∧
   s.heap.get? b=some ⟨.type "tuple",dd,.seq ys n2,sl⟩∧R (.ok (.ret Value.none)) { s with heap:=s.heap.update l (Obj.mapSeq fun x=>x++ys),toks:=s.toks }) :=
 .of_wp fun prog w A R s h=>by
  obtain ⟨hp,g,d,tk,os⟩:=s
  obtain ⟨hl,hb,h⟩:=h
  have f1:=AutoSeq1.idx_int
  have f2:=AutoSeq1.sub_tuple_tuple
  have f3:=AutoSeq1.sub_list_list
  have f4:=AutoSeq1.sub_tuple_list
  have f5:=AutoSeq1.sub_list_tuple
  have hz:(xs++ys).size≤sizeLine+1:=by rw [Array.size_append]; exact h2
  wp_walk using (wpAny_updateSeq hl rfl (hz:=h1) (_hz':=hz)),AutoSeq1.wpAny_loadPart' hl,AutoSeq1.wpAny_loadPart' hb
  exact ⟨_,rfl,h⟩
section
variable {X:Cx}
def xo:V→List V→Hp→VK→Prop:=fun x vs H Q=>∃ l b xs zs,x=.ref l∧vs=[.ref b]∧H l=some (.lst xs)∧H b=some (.tup zs)∧xs.length+zs.length≤sizeLine∧Q .non (upd H l (.lst (xs++zs)))
theorem qw:MtM X "list.extend" xo:=by
 intro pins s σ H x vs v us Q I rx rv h
 obtain ⟨l,b,xs,zs,rfl,rfl,hH,hB,hz,q⟩:=h
 cases rx
 obtain ⟨u,rfl,ru⟩:=rv.one
 cases ru
 obtain ⟨z,its,n,r,hl,e⟩:=I.lstM hH
 obtain ⟨z2,its2,r2,⟨o2,e2,ec,n2,ed⟩,_⟩:=(show bR X.prog X.w H s.heap b (.tup zs) from I.hok b _ hB)
 have hl2:=r2.length
 have e2':s.heap.get? b=some ⟨.type "tuple",o2.dict,.seq its2.toArray n2,o2.slots⟩:=by
  rw [e2,← ec,← ed]
 have hsz:its.toArray.size+its2.toArray.size≤sizeLine:=by rw [List.size_toArray,List.size_toArray]; omega
 have hlong:¬ (!its.toArray.isEmpty&&Builtin.List.listTooLong (its.toArray.size+its2.toArray.size))=true:=by
  rw [lS hsz,Bool.and_false]
  exact Bool.false_ne_true
 refine call_meets F.slot_list_extend ⟨_,e,rfl⟩ F.entry_list_extend (F.args_list_extend_2 _ _)
  (Cl l its.toArray n b its2.toArray n2 _ _ hlong (by rw [List.size_toArray]; omega) (by omega)) ⟨e,e2',?_⟩
 refine ⟨.non,_,I.lset (its':=its++its2) hH e (by simp) (r.append r2) ?_,rfl,q⟩
 rw [List.length_append]
 omega
end
theorem xS {K:Frag} {a b:Addr} {xs ys:List V} {k1 k2:Bool} {g:TG} {tb:TS} {D:mr} {σ:St} {H:Hp} (n:Nat) (e1:n=xs.length) (e2:n=ys.length) (Pv:Nat→St→Hp→Prop) (h0:Pv 0 σ H)
  (hl:∀ i σ H,i≤n→Pv i σ H→SqX k1 K H a xs∧SqX k2 K H b ys)
  (hs:∀ i x y p σ H,xs[i]?=some x→ys[i]?=some y→Pv i σ H→H p=none→g (.ref p) σ (upd H p (.tup [x,y])) fun σ2 H2=>tb { D with nx:=Pv (i+1),ct:=Pv (i+1),bk:=D.nx } σ2 H2) (hd:∀ σ H,Pv n σ H→D.nx σ H) :
  ∃ W:Nat→Nat→St→Hp→Prop,(∃ m,W 0 m σ H)∧∀ i m σ H,W i m σ H →
   ((Itz K k1 k2 a b).stop i H∧D.nx σ H)∨((Itz K k1 k2 a b).go i H∧∃ N:St→Hp→Prop,(∀ σ' H',N σ' H'→∃ m',m'<m∧W (i+1) m' σ' H')∧∀ x H',(Itz K k1 k2 a b).yld i H x H'→g x σ H' fun σ2 H2=>tb { D with nx:=N,ct:=N,bk:=D.nx } σ2 H2):=by
 refine ⟨fun i m σ H=>m=n - i∧i≤n∧Pv i σ H,⟨n,by simp,Nat.zero_le _,h0⟩,?_⟩
 rintro i m σ H ⟨rfl,hi,p⟩
 obtain ⟨q1,q2⟩:=hl i σ H hi p
 by_cases hlt:i<n
 ·have hx:xs[i]?=some (xs[i]'(by omega)):=List.getElem?_eq_getElem (by omega)
  have hy:ys[i]?=some (ys[i]'(by omega)):=List.getElem?_eq_getElem (by omega)
  refine .inr ⟨⟨xs,ys,_,_,q1,q2,hx,hy⟩,Pv (i+1),fun σ' H' p'=>⟨n - (i+1),by omega,rfl,hlt,p'⟩,fun x H' yy=>?_⟩
  obtain ⟨pp,x',y',f1,f2,f3,f4,f5⟩:=yy
  subst f2 f3
  exact hs i x' y' pp σ H (f4 xs q1) (f5 ys q2) p f1
 ·have e:i=n:=by omega
  subst e
  exact .inl ⟨⟨xs,ys,q1,q2,by omega,by omega,by omega⟩,hd σ H p⟩
end L2
namespace K6
open PySem L2
def Val (R:List Rec):Nat→Str→PyData→Prop
 | 0,_,_=>False
 | n+1,k,d=>k∈PL∨(k∉PL∧∃ ds,d=.tuple ds∧Paired (fun (p:Fld) e=>Val R n p.2 e) (look R k) ds)
def nB (f:Str→PyData→List PyData) (ks:List Str) (ds:List PyData):List PyData:=(ks.zip ds).flatMap fun p=>f p.1 p.2
def dY (R:List Rec):Nat→Str→PyData→List PyData
 | 0,_,_=>[]
 | n+1,k,d=>if k∈PL then [d] else match d with
  | .tuple ds=>nB (dY R n) ((look R k).map (·.2)) ds
  | _=>[]
def iD (R:List Rec):Nat→Str→List Str
 | 0,_=>[]
 | n+1,k=>if k∈PL then [k] else (look R k).flatMap fun p=>iD R n p.2
theorem kN {R:List Rec} {n:Nat} {k:Str} {d:PyData} (h:k∈PL):dY R (n+1) k d=[d]:=by unfold dY; rw [if_pos h]
theorem jE {R:List Rec} {n:Nat} {k:Str} {ds:List PyData} (h:k∉PL):dY R (n+1) k (.tuple ds)=nB (dY R n) ((look R k).map (·.2)) ds:=by
 conv=>lhs; unfold dY
 rw [if_neg h]
theorem lJ (f:Str→PyData→List PyData) (k:Str) (ks:List Str) (d:PyData) (ds:List PyData):nB f (k::ks) (d::ds)=f k d++nB f ks ds:=rfl
theorem jZ {R:List Rec}:∀ (n:Nat) (k:Str),(am R n k).length=(iD R n k).length
 | 0,_=>rfl
 | n+1,k=>by
  unfold am iD
  split
  ·rfl
  ·unfold lP
   induction look R k with
   | nil=>rfl
   | cons p r ih=>rw [List.flatMap_cons,List.flatMap_cons,List.length_append,List.length_append,ih,List.length_map,jZ n p.2]
theorem kM {R:List Rec}:∀ (n:Nat) {k:Str} {d:PyData},Val R n k d→(dY R n k d).length=(iD R n k).length
 | 0,_,_,h=>h.elim
 | n+1,k,d,h=>by
  rcases h with h | ⟨h,ds,rfl,pr⟩
  ·rw [kN h]; unfold iD; rw [if_pos h]; rfl
  ·rw [jE h]
   unfold iD
   rw [if_neg h]
   generalize look R k=fs at pr
   induction pr with
   | nil=>rfl
   | cons p r ih=>rw [List.map_cons,lJ,List.flatMap_cons,List.length_append,List.length_append,ih,kM n p]
theorem ur {R:List Rec} {n:Nat} {k:Str} (h:bW R n k):(iD R n k).length≤3 ^ n:=by rw [← jZ]; exact bM n h
theorem Ai {n:Nat} (h:n≤4):3 ^ n≤81:=by
 calc 3 ^ n≤3 ^ 4:=Nat.pow_le_pow_right (by decide) h
  _=81:=by decide
theorem iA {α β:Type} {F:α→β→Prop}:∀ {l:List α} {m:List β},Paired F l m→∀ p∈l.zip m,F p.1 p.2
 | _,_,.nil,p,h=>nomatch h
 | _,_,.cons q t,p,h=>by
  rw [List.zip_cons_cons] at h
  rcases List.mem_cons.mp h with rfl | h
  ·exact q
  ·exact iA t p h
theorem mf {α β γ:Type} {F:α→β→Prop} {g:γ→α}:∀ {l:List γ} {m:List β},Paired (fun c b=>F (g c) b) l m→Paired F (l.map g) m
 | _,_,.nil=>.nil
 | _,_,.cons q t=>.cons q (mf t)
theorem sU {R:List Rec} {n:Nat} {k:Str} {d:PyData} (hn:n≤4) (hd:bW R n k) (hv:Val R n k d):(dY R n k d).length≤81:=by
 rw [kM n hv]
 have:=ur hd
 have:=Ai hn
 omega
section
variable {P:Program} {w:World} {K:Frag} {mg:Str→Option Value} {base:Heap} {f g:Addr} {fd gd:FuncData}
def rZ (K:Frag) (n:Nat):Sp:=fun vs H Q _=>∃ v k u d R,vs=[v,.str k,u]∧dZ H v R∧n≤4∧bW R n k∧DT K H u d∧Val R n k d∧∀ t xs H',av H H'→H' t=some (.tup xs)→DTs K H' xs (dY R n k d)→Q (.ref t) H'
def jF (K:Frag) (n:Nat):Sp:=fun vs H Q _=>∃ v r ks u ds R,vs=[v,.ref r,u]∧dZ H v R∧n≤4∧H r=some (.lst (ks.map V.str))∧ks.length≤3∧(∀ k∈ks,bW R n k)∧DT K H u (.tuple ds)∧Paired (fun k e=>Val R n k e) ks ds ∧
 ∀ t xs H',av H H'→H' t=some (.tup xs)→DTs K H' xs (nB (dY R n) ks ds)→Q (.ref t) H'
abbrev qP:List Str:=["program", "kinds", "values", "told", "kind", "value"]
theorem eJ:aF qP ["program", "kinds", "values"] (defScope fB):=⟨rfl,rfl,rfl,by decide +kernel,rfl,by decide +kernel,by decide +kernel⟩
theorem jO {n:Nat} (T:G0 mg) (TZ:mg "zip"=none) (TP:GPk K mg) (F:Fun K "flat_all" "flat_all" fB f fd) (D_flat:Cal P w K mg base (2*n+1) "flat" ["program", "kind", "value"] (rZ K n)) :
  bg P w K mg base CX0 (2*n+2) f fd ["program", "kinds", "values"] (jF K n):=by
 obtain ⟨g_flat,gd_flat,G_flat,b_flat,k_flat,m_flat⟩:=D_flat.ex
 refine F.ok eJ (fun vs H Q E h=>?_) (fun cdv A outer s H vs Q E hr h=>?_)
 ·obtain ⟨v,r,ks,u,ds,R,rfl,_⟩:=h
  rfl
 obtain ⟨v,r,ks,u,ds,R,rfl,hp,hn,hr',hl,hk,hd,pr,q⟩:=h
 refine ⟨_,(@al _ _ _ _ _ (@aB _ _ 3 _ _ _ _ eJ.nd rfl (Or.inl rfl) (@aR _ _ _ _ ag) (ao rfl) (.inr rfl)) (@al _ _ _ _ _ (@bn _ _ _ _ _ _ _ _ PassesOwn.never rfl (zH false true rfl TZ (@ad _ _ _ _ _ (pv 1) (@ad _ _ _ _ _ (pv 2) ag (ac rfl)) (ac rfl))) (cQ rfl (aJ (au (i:=4) eJ.nd rfl (Or.inl rfl)) (aJ (au (i:=5) eJ.nd rfl (Or.inl rfl)) bP))) (@ap _ _ _ (@bY _ _ _ _ (@dB _ _ _ _ _ _ _ _ _ _ _ _ PySem.F.plainAttrs_list PySem.F.slot_list_extend PySem.F.type_list_extend qw (pv 3) (@ad _ _ _ _ _ (@ar _ _ _ _ _ _ _ _ _ _ _ _ _ _ _ _ G_flat (hr.mono (by omega)) rfl m_flat k_flat b_flat .nil aE (@ad _ _ _ _ _ (pv 0) (@ad _ _ _ _ _ (pv 4) (@ad _ _ _ _ _ (pv 5) ag (ac rfl)) (ac rfl)) (ac rfl)) (by decide) (ac rfl) (aj rfl)) ag (ac rfl)) rfl (cH rfl rfl) rfl (ac rfl) (aj rfl)) (ao rfl))) (fun _=>rfl)) (@ap _ _ _ (@aD _ _ _ _ (@aX _ _ _ _ _ _ _ _ _ bv rfl T.tuple dI (@ad _ _ _ _ _ (pv 3) ag (ac rfl)) (by decide) (by decide) (ac rfl) (aj rfl)))))),?_⟩
 cases hd with
 | @tup a xs _ ha dx =>
 have lds:ks.length=ds.length:=Paired.length pr
 have lxs:ks.length=xs.length:=by rw [lds,dx.len]
 have lz:(ks.zip ds).length=ks.length:=by rw [List.length_zip]; omega
 refine ⟨(by show 0≤sizeLine; decide),fun t ht=>?_⟩
 have g0:=af ht (.lst [])
 have hrt:r≠t:=aq hr' ht
 have ht0:(upd H t (.lst [])) t=some (.lst []):=ae
 have hr0:=g0 _ _ hr'
 refine ⟨_,rfl,_,rfl,r,a,rfl,⟨_,SqL.of hr0⟩,⟨_,(ha.mono (ah g0)).sq⟩,xS (xs:=ks.map V.str) (ys:=xs) ks.length (by rw [List.length_map]) lxs (fun i σ H'=>∃ m4 m5 ys,σ=[some v,some (.ref r),some (.ref a),some (.ref t),m4,m5]∧Ext t (upd H t (.lst [])) H'∧H' t=some (.lst ys)∧DTs K H' ys (((ks.zip ds).take i).flatMap fun p=>dY R n p.1 p.2))
  ⟨none,none,[],rfl,Ext.refl _ _,ht0,.nil⟩ (fun i σ H' _ p=>?_) (fun i x y p0 σ H' hx hy p hp0=>?_) (fun σ H' p=>?_)⟩
 ·obtain ⟨_,_,_,_,x1,_⟩:=p
  exact ⟨SqL.of (x1 _ _ hrt hr0),((ha.mono (ah g0)).mono (aY x1 ht0)).sq⟩
 ·obtain ⟨m4,m5,ys,rfl,x1,hty,dy⟩:=p
  have k1:=(ah g0).trans (aY x1 ht0)
  rw [List.getElem?_map] at hx
  obtain ⟨k,hk',rfl⟩:=Option.map_eq_some_iff.mp hx
  obtain ⟨e,he,hde⟩:=dx.get i y hy
  have ez:(ks.zip ds)[i]?=some (k,e):=by
   rw [List.getElem?_zip_eq_some]
   exact ⟨hk',he⟩
  have hve:Val R n k e:=iA pr _ (List.mem_of_getElem? ez)
  have hdk:=hk k (List.mem_of_getElem? hk')
  have g1:=af hp0 (.tup [.str k,y])
  have hty1:=g1 _ _ hty
  have k2:=k1.trans (ah g1)
  refine ⟨p0,_,rfl,SqT.of ae,rfl,_,_,rfl,_,_,rfl,rfl,?_⟩
  refine ⟨_,rfl,.inl ⟨rfl,_,SqL.of hty1⟩,_,rfl,_,rfl,_,rfl,v,k,y,e,R,rfl,hp.mono k2,hn,hdk,hde.mono k2,hve,fun b zs H3 g3 hb dz=>?_⟩
  have hty3:=g3 _ _ hty1
  have zl:zs.length≤81:=by rw [dz.len]; exact sU hn hdk hve
  have yl:ys.length≤243:=by
   rw [dy.len]
   have:=bX (l:=(ks.zip ds).take i) (g:=fun p=>dY R n p.1 p.2) (b:=81) fun p hp'=>sU hn (hk p.1 (List.of_mem_zip (List.mem_of_mem_take hp')).1) (iA pr p (List.mem_of_mem_take hp'))
   have h3:((ks.zip ds).take i).length≤3:=by rw [List.length_take]; omega
   have:((ks.zip ds).take i).length*81≤3*81:=Nat.mul_le_mul_right _ h3
   omega
  have kL:=cj hty3 (.lst (ys++zs))
  refine ⟨t,b,ys,zs,rfl,rfl,hty3,hb,Nat.le_of_lt (aC (by omega)),_,_,_,rfl,((x1.trans (av.ext g1)).trans (av.ext g3)).trans Ext.upd,ae,?_⟩
  rw [List.take_add_one,ez,List.flatMap_append]
  refine DTs.append (dy.mono ((ah (g1.trans g3)).trans kL)) ?_
  show DTs K _ zs ([(k,e)].flatMap _)
  rw [List.flatMap_cons,List.flatMap_nil,List.append_nil]
  exact dz.mono kL
 ·obtain ⟨m4,m5,ys,rfl,x1,hty,dy⟩:=p
  refine ⟨_,rfl,t,ys,rfl,.inl ⟨SqL.of hty,fun l hl2=>?_⟩⟩
  have g3:=af hl2 (.tup ys)
  refine q l ys _ (fun b o e=>g3 _ _ (x1 _ _ (aq e ht) (g0 _ _ e))) ae ?_
  rw [← lz,List.take_length] at dy
  exact dy.mono (ah g3)
abbrev Ar:List Str:=["program", "kind", "value"]
theorem ye:aF Ar ["program", "kind", "value"] (defScope nW):=⟨rfl,rfl,rfl,by decide +kernel,rfl,by decide +kernel,by decide +kernel⟩
theorem yb {n:Nat} (T:G0 mg) (TZ:mg "zip"=none) (TP:GPk K mg) (F:Fun K "flat" "flat" nW f fd) (D_field_kinds:Cal P w K mg base 2 "field_kinds" ["program", "kind"] iK) (D_flat_all:Cal P w K mg base (2*n+2) "flat_all" ["program", "kinds", "values"] (jF K n)) :
  bg P w K mg base CX0 (2*(n+1)+1) f fd ["program", "kind", "value"] (rZ K (n+1)):=by
 obtain ⟨g_field_kinds,gd_field_kinds,G_field_kinds,b_field_kinds,k_field_kinds,m_field_kinds⟩:=D_field_kinds.ex
 obtain ⟨g_flat_all,gd_flat_all,G_flat_all,b_flat_all,k_flat_all,m_flat_all⟩:=D_flat_all.ex
 obtain ⟨aP,mP,sP⟩:=TP
 refine F.ok ye (fun vs H Q E h=>?_) (fun cdv A outer s H vs Q E hr h=>?_)
 ·obtain ⟨v,k,u,d,R,rfl,_⟩:=h
  rfl
 obtain ⟨v,k,u,d,R,rfl,hp,hn,hd,hu,hv,q⟩:=h
 refine ⟨_,(@al _ _ _ _ _ (@bU _ _ _ _ _ _ _ _ (@aQ _ _ _ _ _ _ _ _ dP (pv 1) (iY (v:=.ref aP) rfl mP rfl) rfl) (@ap _ _ _ (@aD _ _ _ _ (@aW _ _ _ _ _ (@ad _ _ _ _ _ (pv 2) ag (ac rfl))))) bh) (@ap _ _ _ (@aD _ _ _ _ (@ar _ _ _ _ _ _ _ _ _ _ _ _ _ _ _ _ G_flat_all (hr.mono (by omega)) rfl m_flat_all k_flat_all b_flat_all .nil aE (@ad _ _ _ _ _ (pv 0) (@ad _ _ _ _ _ (@ar _ _ _ _ _ _ _ _ _ _ _ _ _ _ _ _ G_field_kinds (hr.mono (by omega)) rfl m_field_kinds k_field_kinds b_field_kinds .nil aE (@ad _ _ _ _ _ (pv 0) (@ad _ _ _ _ _ (pv 1) ag (ac rfl)) (ac rfl)) (by decide) (ac rfl) (aj rfl)) (@ad _ _ _ _ _ (pv 2) ag (ac rfl)) (ac rfl)) (ac rfl)) (by decide) (ac rfl) (aj rfl))))),?_⟩
 refine ⟨_,rfl,aP,_,rfl,.inr (sP _),rfl,qK,_,rfl,?_⟩
 refine bO (fun c=>?_) (fun c=>?_)
 ·have ck:k∈PL:=of_decide_eq_true ((cB k PL).symm.trans c)
  refine ⟨_,rfl,(by show 1≤sizeLine; decide),fun p1 h1=>q p1 _ _ (af h1 _) ae ?_⟩
  rw [kN ck]
  exact .cons (hu.mono (fA h1 _)) .nil
 ·have ck:k∉PL:=fun z=>c (((cB k PL).trans (decide_eq_true z)))
  rcases hd with z | ⟨_,_,⟨_,hl⟩,hd⟩
  ·exact absurd z ck
  rcases hv with z | ⟨_,ds,rfl,pr⟩
  ·exact absurd z ck
  refine ⟨_,rfl,_,rfl,_,rfl,v,k,R,rfl,hp,hl,fun r H1 g1 hr0 hr1=>?_⟩
  refine ⟨_,rfl,v,r,(look R k).map (·.2),u,ds,R,rfl,hp.mono (ah g1),by omega,by rw [hr1,List.map_map]; rfl,by rw [List.length_map]; exact hl,fun k' hk'=>?_,hu.mono (ah g1),mf pr,fun t xs H2 g2 ht dt=>?_⟩
  ·obtain ⟨p,hp',rfl⟩:=List.mem_map.mp hk'
   exact hd p hp'
  ·refine q t xs _ (g1.trans g2) ht ?_
   rw [jE ck]
   exact dt
end
open PySem L2
def cR (i:Int):Bool:=decide (32≤i)&&decide (i≤126)&&decide (i≠37)
def su:PyData→Bool
 | .str z=>z.cps.toList.all fun c=>cR (c:Nat)
 | _=>false
section
variable {P:Program} {w:World} {K:Frag} {mg:Str→Option Value} {base:Heap} {f g:Addr} {fd gd:FuncData}
def vq:Sp:=fun vs H Q _=>∃ i,vs=[.int i]∧Q (.bl (cR i)) H
theorem Ax:aF ["number"] ["number"] (defScope da):=⟨rfl,rfl,rfl,by decide +kernel,rfl,by decide +kernel,by decide +kernel⟩
theorem xJ (F:Fun K "is_sign_number" "is_sign_number" da f fd):bg P w K mg base CX0 1 f fd ["number"] vq:=by
 refine F.ok Ax (fun vs H Q E h=>?_) (fun cdv A outer s H vs Q E hr h=>?_)
 ·obtain ⟨i,rfl,_⟩:=h
  rfl
 obtain ⟨i,rfl,q⟩:=h
 refine ⟨_,ap (aD (zT (uX sf sf ak (pv 0) ak) (AA (kz oS (pv 0) ak (bo _))))),?_⟩
 refine ⟨_,rfl,_,_,rfl,rfl,_,rfl,?_⟩
 refine bO (fun c1=>?_) (fun c1=>?_)
 ·refine ⟨_,_,rfl,rfl,_,rfl,?_⟩
  refine bO (fun c2=>?_) (fun c2=>?_)
  ·refine ⟨_,rfl,rfl,?_⟩
   have e:cR i=(!decide (V.int i=V.int 37)):=by
    unfold cR
    rw [c1,c2]
    simp
   rw [e] at q
   exact q
  ·have e:cR i=false:=by
    unfold cR
    rw [Bool.eq_false_iff.mpr c2]
    simp
   rw [e] at q
   exact q
 ·refine ⟨_,rfl,om ?_⟩
  have e:cR i=false:=by
   unfold cR
   rw [Bool.eq_false_iff.mpr c1]
   simp
  rw [e] at q
  exact q
end
end K6
namespace L2
open PySem PySem.Spec PyProof.Rows
section
variable {X:Cx} {a b c d:Expr} {ta tb tc td:TE} {pos:Pos}
end
end L2
namespace K6
open PySem L2
section
variable {P:Program} {w:World} {K:Frag} {mg:Str→Option Value} {base:Heap} {f g:Addr} {fd gd:FuncData}
end
open PySem L2
abbrev lK:=Str×List Fld
def io (H:Hp) (v:V) (F:lK):Prop:=∃ a y l b,v=.ref a∧H a=some (.tup [.str F.1,y,l,.str "num",b])∧eA H y F.2
def hW (H:Hp) (v:V) (R:List Rec) (FS:List lK):Prop:=∃ a y b xs,v=.ref a∧H a=some (.tup [y,.ref b])∧fm H y R∧H b=some (.tup xs)∧Paired (io H) xs FS
theorem io.mono {H H':Hp} (t:Tk H H') {v:V} {p:lK} (h:io H v p):io H' v p:=let ⟨a,y,l,b,e,q,r⟩:=h; ⟨a,y,l,b,e,t _ _ q,r.mono t⟩
theorem hW.mono {H H':Hp} (t:Tk H H') {v:V} {R:List Rec} {FS:List lK} (h:hW H v R FS):hW H' v R FS:=let ⟨a,y,b,xs,e,q,r,s,u⟩:=h; ⟨a,y,b,xs,e,t _ _ q,r.mono t,t _ _ s,Paired.mapP u fun _ _ z=>z.mono t⟩
theorem hW.prog {H:Hp} {v:V} {R:List Rec} {FS:List lK} (h:hW H v R FS):dZ H v R:=let ⟨a,y,b,xs,e,q,r,s,u⟩:=h; ⟨a,y,.ref b,e,q,r⟩
section
variable {P:Program} {w:World} {K:Frag} {mg:Str→Option Value} {base:Heap} {f g:Addr} {fd gd:FuncData}
abbrev mw:List Str:=["program", "f", "function"]
theorem fZ:aF mw ["program", "f"] (defScope eQ):=⟨rfl,rfl,rfl,by decide +kernel,rfl,by decide +kernel,by decide +kernel⟩
def gI (FS:List lK) (z:Str):Option lK:=FS.find? fun F=>decide (F.1=z)
def zx:Sp:=fun vs H Q _=>∃ v z R FS F,vs=[v,.str z]∧hW H v R FS∧gI FS z=some F∧∀ u,io H u F→Q u H
theorem AH (F:Fun K "function_of" "function_of" eQ f fd):bg P w K mg base CX0 1 f fd ["program", "f"] zx:=by
 refine F.ok fZ (fun vs H Q E h=>?_) (fun cdv A outer s H vs Q E hr h=>?_)
 ·obtain ⟨v,z,R,FS,F,rfl,_⟩:=h
  rfl
 obtain ⟨v,z,R,FS,FF,rfl,hp,hF,q⟩:=h
 obtain ⟨a,y,b,xs,rfl,ha,_,hb,rs⟩:=hp
 refine ⟨_,(@al _ _ _ _ _ (@bn _ _ _ _ _ _ _ _ PassesOwn.never rfl (cG (@ay _ _ _ _ _ _ _ aL (pv 0) ak (fun _ _=>rfl))) (au (i:=2) fZ.nd rfl (Or.inl rfl)) (@ap _ _ _ (@bU _ _ _ _ _ _ _ _ (@aQ _ _ _ _ _ _ _ _ dC (@ay _ _ _ _ _ _ _ aL (pv 2) ak (fun _ _=>rfl)) (pv 1) (bo _)) (@ap _ _ _ (@aD _ _ _ _ (pv 2))) bh)) (fun _=>rfl)) (@ap _ _ _ (@aD _ _ _ _ zL))),?_⟩
 refine ⟨_,rfl,a,_,_,_,rfl,rfl,SqT.of ha,rfl,b,rfl,⟨xs,SqT.of hb⟩,fo (xs:=xs) (fun i σ H'=>∃ m,σ=[some (.ref a),some (.str z),m]∧H'=H∧gI (FS.drop i) z=some FF) ⟨none,rfl,rfl,hF⟩ (fun i σ H' _ p=>?_) (fun i x σ H' hx p=>?_) (fun σ H' p=>?_)⟩
 ·obtain ⟨_,_,rfl,_⟩:=p
  exact SqT.of hb
 ·obtain ⟨m,rfl,rfl,e⟩:=p
  obtain ⟨r,hr',hf⟩:=aH rs i x hx
  obtain ⟨c,y',l,b',rfl,hc,hfl⟩:=id hf
  obtain ⟨hi,ei⟩:=List.getElem?_eq_some_iff.mp hr'
  rw [List.drop_eq_getElem_cons hi,ei] at e
  unfold gI at e
  rw [List.find?_cons] at e
  refine ⟨_,rfl,c,_,_,_,rfl,rfl,SqT.of hc,rfl,_,rfl,rfl,_,rfl,?_⟩
  refine bO (fun cc=>?_) (fun cc=>?_)
  ·rw [decide_eq_true (eqS cc)] at e
   cases e
   exact ⟨_,rfl,q _ hf⟩
  ·rw [decide_eq_false (neS cc)] at e
   exact ⟨_,rfl,rfl,e⟩
 ·obtain ⟨m,rfl,rfl,e⟩:=p
  rw [Paired.length rs,List.drop_length] at e
  cases e
def Aa:Sp:=fun vs H Q _=>∃ v z R FS F,vs=[v,.str z]∧hW H v R FS∧gI FS z=some F∧F.2.length≤3∧∀ r H',av H H'→H r=none→H' r=some (.lst (F.2.map fun p=>V.str p.2))→Q (.ref r) H'
abbrev mx:List Str:=["program", "f", "told", "param", "path", "sort"]
theorem cm:aF mx ["program", "f"] (defScope eP):=⟨rfl,rfl,rfl,by decide +kernel,rfl,by decide +kernel,by decide +kernel⟩
def ppM (R:List Rec) (n:Nat) (l:List Fld):List bH:=l.flatMap fun p=>(am R n p.2).map fun q=>(p.1::q.1,q.2)
def zn (n:Nat):Sp:=fun vs H Q _=>∃ v z R FS F,vs=[v,.str z]∧hW H v R FS∧gI FS z=some F∧F.2.length≤3∧n≤4∧(∀ p∈F.2,bW R n p.2)∧∀ r ys H',av H H'→H r=none→H' r=some (.lst ys)→Paired (cw H') ys (ppM R n F.2)→Q (.ref r) H'
theorem wf (R:List Rec) (n:Nat) (l:List Fld) (p:Fld):ppM R n (l++[p])=ppM R n l++(am R n p.2).map fun q=>(p.1::q.1,q.2):=by
 unfold ppM
 rw [List.flatMap_append]
 simp
theorem sO {R:List Rec} {n:Nat} (hn:n≤4) {l:List Fld} (hl:l.length≤3) (hd:∀ p∈l,bW R n p.2):(ppM R n l).length≤243:=by
 have:=bX (l:=l) (g:=fun p=>(am R n p.2).map fun q=>(p.1::q.1,q.2)) (b:=81) fun p hp'=>by
  rw [List.length_map]
  have:=bM n (hd p hp')
  have:=Ai hn
  omega
 have:l.length*81≤3*81:=Nat.mul_le_mul_right _ hl
 unfold ppM
 omega
theorem BQ {n:Nat} (F:Fun K "param_parts" "param_parts" eP f fd) (D_function_of:Cal P w K mg base 1 "function_of" ["program", "f"] zx) (D_parts:Cal P w K mg base (n+1) "parts" ["program", "kind"] (fD n)):bg P w K mg base CX0 (n+2) f fd ["program", "f"] (zn n):=by
 obtain ⟨g_function_of,gd_function_of,G_function_of,b_function_of,k_function_of,m_function_of⟩:=D_function_of.ex
 obtain ⟨g_parts,gd_parts,G_parts,b_parts,k_parts,m_parts⟩:=D_parts.ex
 refine F.ok cm (fun vs H Q E h=>?_) (fun cdv A outer s H vs Q E hr h=>?_)
 ·obtain ⟨v,z,R,FS,F,rfl,_⟩:=h
  rfl
 obtain ⟨v,z,R,FS,FF,rfl,hp,hF,hl,hn,hd,q⟩:=h
 refine ⟨_,(@al _ _ _ _ _ (@aB _ _ 2 _ _ _ _ cm.nd rfl (Or.inl rfl) (@aR _ _ _ _ ag) (ao rfl) (.inr rfl)) (@al _ _ _ _ _ (@bn _ _ _ _ _ _ _ _ PassesOwn.never rfl (cG (@ay _ _ _ _ _ _ _ aL (@ar _ _ _ _ _ _ _ _ _ _ _ _ _ _ _ _ G_function_of (hr.mono (by omega)) rfl m_function_of k_function_of b_function_of .nil aE (@ad _ _ _ _ _ (pv 0) (@ad _ _ _ _ _ (pv 1) ag (ac rfl)) (ac rfl)) (by decide) (ac rfl) (aj rfl)) ak (fun _ _=>rfl))) (au (i:=3) cm.nd rfl (Or.inl rfl)) (@ap _ _ _ (@bn _ _ _ _ _ _ _ _ PassesOwn.never rfl (aZ (@ar _ _ _ _ _ _ _ _ _ _ _ _ _ _ _ _ G_parts (hr.mono (by omega)) rfl m_parts k_parts b_parts .nil aE (@ad _ _ _ _ _ (pv 0) (@ad _ _ _ _ _ (@ay _ _ _ _ _ _ _ aL (pv 3) ak (fun _ _=>rfl)) ag (ac rfl)) (ac rfl)) (by decide) (ac rfl) (aj rfl))) (cQ rfl (aJ (au (i:=4) cm.nd rfl (Or.inl rfl)) (aJ (au (i:=5) cm.nd rfl (Or.inl rfl)) bP))) (@ap _ _ _ (@bY _ _ _ _ (@dB _ _ _ _ _ _ _ _ _ _ _ _ PySem.F.plainAttrs_list PySem.F.slot_list_append PySem.F.type_list_append cZ (pv 2) (@ad _ _ _ _ _ (@aW _ _ _ _ _ (@ad _ _ _ _ _ (@aG _ _ _ _ _ _ _ _ nN (@aW _ _ _ _ _ (@ad _ _ _ _ _ (@ay _ _ _ _ _ _ _ aL (pv 3) ak (fun _ _=>rfl)) ag (ac rfl))) (pv 4)) (@ad _ _ _ _ _ (pv 5) ag (ac rfl)) (ac rfl))) ag (ac rfl)) rfl (cH rfl rfl) rfl (ac rfl) (aj rfl)) (ao rfl))) (fun _=>rfl))) (fun _=>rfl)) (@ap _ _ _ (@aD _ _ _ _ (pv 2))))),?_⟩
 refine ⟨(by show 0≤sizeLine; decide),fun t ht=>?_⟩
 have g0:=af ht (.lst [])
 have hp0:=hp.mono (ah g0)
 refine ⟨_,rfl,_,rfl,v,z,R,FS,FF,rfl,hp0,hF,fun u hu=>?_⟩
 obtain ⟨c,y,l,b',rfl,hc,b,xs,rfl,hb,rs⟩:=hu
 have ht1:(upd H t (.lst [])) t=some (.lst []):=ae
 refine ⟨c,_,_,_,rfl,rfl,SqT.of hc,rfl,?_⟩
 generalize (upd H t (.lst []))=H1 at g0 hp0 hc hb rs ht1
 refine ⟨b,rfl,⟨xs,SqT.of hb⟩,fo (xs:=xs) (fun i σ H'=>∃ m3 m4 m5 ys,σ=[some v,some (.str z),some (.ref t),m3,m4,m5]∧Ext t H1 H'∧H' t=some (.lst ys)∧Paired (cw H') ys (ppM R n (FF.2.take i))) ⟨none,none,none,[],rfl,Ext.refl _ _,ht1,.nil⟩ (fun i σ H' _ p=>?_) (fun i u σ H' hx p=>?_) (fun σ H' p=>?_)⟩
 ·obtain ⟨_,_,_,_,_,x1,_⟩:=p
  exact SqT.of (aY x1 ht1 _ _ hb)
 ·obtain ⟨m3,m4,m5,ys,rfl,x1,hty,py⟩:=p
  obtain ⟨fl,hfl,a,rfl,ha⟩:=aH rs i u hx
  have k1:=aY x1 ht1
  have ha1:=k1 _ _ ha
  have dp:=hd fl (List.mem_of_getElem? hfl)
  refine ⟨_,rfl,_,rfl,a,_,_,_,rfl,rfl,SqT.of ha1,rfl,v,fl.2,R,rfl,(hp0.mono k1).prog,by omega,dp,fun r zs H2 g2 hr0 hrz pz=>?_⟩
  have hty2:=g2 _ _ hty
  have hrt:r≠t:=(aq hty hr0).symm
  have el:=bM n dp
  have p3:=Ai hn
  have yl:ys.length≤243:=by
   rw [Paired.length py]
   exact sO hn (by rw [List.length_take]; omega) fun p hp'=>hd p (List.mem_of_mem_take hp')
  refine ⟨r,rfl,⟨zs,SqL.of hrz⟩,bK (xs:=zs) (fun j σ H'=>∃ n5 n6 ws,σ=[some v,some (.str z),some (.ref t),some (.ref a),n5,n6]∧Ext t H2 H'∧H' t=some (.lst ws) ∧
   Paired (cw H') ws (ppM R n (FF.2.take i)++((am R n fl.2).take j).map fun q=>(fl.1::q.1,q.2))) ⟨_,_,ys,rfl,Ext.refl _ _,hty2,by simpa using cL (ah g2) py⟩ (fun j σ H' _ p=>?_) (fun j u σ H' hx2 p=>?_) (fun σ H' p=>?_)⟩
  ·obtain ⟨_,_,_,_,x2,_⟩:=p
   exact SqL.of (x2 _ _ hrt hrz)
  ·obtain ⟨n5,n6,ws,rfl,x2,htw,pw⟩:=p
   have k2:=aY x2 hty2
   have haH:=k2 _ _ (g2 _ _ ha1)
   obtain ⟨qq,hqq,hpa⟩:=aH pz j u hx2
   obtain ⟨a2,y2,rfl,ha2,a3,rfl,ha3⟩:=hpa.mono k2
   have hm:qq∈am R n fl.2:=List.mem_of_getElem? hqq
   have pl:=eK n hm
   have wl:ws.length≤900:=by
    rw [Paired.length pw,List.length_append,← Paired.length py,List.length_map,List.length_take]
    omega
   have fin:∀ (u:V) (H5:Hp),av H' H5→iq H5 u (fl.1::qq.1)→∀ p2,H5 p2=none→(upd H5 p2 (.tup [u,.str qq.2])) t=some (.lst ws)∧∃ n5 n6 ws',([some v,some (.str z),some (.ref t),some (.ref a),some (.ref a3),some (.str qq.2)]:St)=[some v,some (.str z),some (.ref t),some (.ref a),n5,n6] ∧
     Ext t H2 (upd (upd H5 p2 (.tup [u,.str qq.2])) t (.lst (ws++[.ref p2])))∧(upd (upd H5 p2 (.tup [u,.str qq.2])) t (.lst (ws++[.ref p2]))) t=some (.lst ws') ∧
     Paired (cw (upd (upd H5 p2 (.tup [u,.str qq.2])) t (.lst (ws++[.ref p2])))) ws' (ppM R n (FF.2.take i)++((am R n fl.2).take (j+1)).map fun q=>(fl.1::q.1,q.2)):=by
    intro u H5 g5 hu p2 hp2
    have e5:(upd H5 p2 (.tup [u,.str qq.2])) t=some (.lst ws):=af hp2 _ _ _ (g5 _ _ htw)
    have k5:Tk H' (upd (upd H5 p2 (.tup [u,.str qq.2])) t (.lst (ws++[.ref p2]))):=((ah g5).trans (fA hp2 _)).trans (cj e5 _)
    refine ⟨e5,_,_,_,rfl,((x2.trans (av.ext g5)).trans (sZ hp2 _)).trans Ext.upd,ae,?_⟩
    rw [List.take_add_one,hqq,List.map_append,← List.append_assoc]
    exact Paired.snoc (cL k5 pw) ⟨p2,u,rfl,cj e5 _ _ _ ae,hu.mono ((fA hp2 _).trans (cj e5 _))⟩
   refine ⟨a2,_,rfl,SqT.of ha2,rfl,_,_,rfl,_,_,rfl,rfl,?_⟩
   refine ⟨_,rfl,.inl ⟨rfl,_,SqL.of htw⟩,_,rfl,a,_,_,_,rfl,rfl,SqT.of haH,rfl,(by show 1≤sizeLine; decide),fun p1 hp1=>?_⟩
   have g5:=af hp1 (.tup [.str fl.1])
   refine ⟨_,rfl,p1,a3,_,_,rfl,rfl,SqT.of ae,SqT.of (g5 _ _ ha3),(by simp),?_,fun z=>?_,fun z p3 hp3=>?_⟩
   ·rw [List.length_map]
    exact Nat.le_of_lt (aC (by simp; omega))
   ·have ep:qq.1=[]:=by simpa using z
    refine ⟨_,rfl,(by show 2≤sizeLine; decide),fun p2 hp2=>?_⟩
    obtain ⟨e5,fn⟩:=fin (.ref p1) _ g5 ⟨p1,rfl,by rw [ep]; exact ae⟩ p2 hp2
    exact ⟨t,ws,_,rfl,rfl,e5,aC (by omega),fn⟩
   ·refine ⟨_,rfl,(by show 2≤sizeLine; decide),fun p2 hp2=>?_⟩
    obtain ⟨e5,fn⟩:=fin (.ref p3) _ (g5.trans (af hp3 _)) ⟨p3,rfl,ae⟩ p2 hp2
    exact ⟨t,ws,_,rfl,rfl,e5,aC (by omega),fn⟩
  ·obtain ⟨n5,n6,ws,rfl,x2,htw,pw⟩:=p
   refine ⟨_,_,_,ws,rfl,(x1.trans (av.ext g2)).trans x2,htw,?_⟩
   rw [Paired.length pz,List.take_length] at pw
   rw [List.take_add_one,hfl]
   show Paired _ ws (ppM R n (FF.2.take i++[fl]))
   rw [wf]
   exact pw
 ·obtain ⟨m3,m4,m5,ys,rfl,x1,hty,py⟩:=p
  refine ⟨_,rfl,q t ys H' (fun b o e=>x1 _ _ (aq e ht) (g0 _ _ e)) ht hty ?_⟩
  rw [Paired.length rs,List.take_length] at py
  exact py
end
open PySem L2
structure Rm where
 a:Int
 b:Int
 c:Int
 d:Int
 e:Int
def Rm.vs (r:Rm):List V:=[.int r.a,.int r.b,.int r.c,.int r.d,.int r.e]
def jH (H:Hp) (v:V) (r:Rm):Prop:=∃ p,v=.ref p∧H p=some (.tup r.vs)
theorem jH.mono {H H':Hp} (t:Tk H H') {v:V} {r:Rm} (h:jH H v r):jH H' v r:=let ⟨a,e,q⟩:=h; ⟨a,e,t _ _ q⟩
section
variable {P:Program} {w:World} {K:Frag} {mg:Str→Option Value} {base:Heap} {f g:Addr} {fd gd:FuncData}
end
open PySem L2
def PL3:List Str:=["num", "row", "text"]
theorem pl3 (k:Str):k∈PL3↔k∈PL:=by
 simp only [PL3,PL,List.mem_cons,List.not_mem_nil,or_false]
 constructor<;>(intro h; rcases h with h | h | h<;>simp [h])
theorem jm (r:Rec) (R:List Rec) (k:Str):look (r::R) k=if r.1=k then r.2 else look R k:=by
 unfold look
 rw [List.find?_cons]
 by_cases q:r.1=k
 ·rw [if_pos q,decide_eq_true q]; rfl
 ·rw [if_neg q,decide_eq_false q]
def NF (H:Hp) (p:Str×V) (r:Rec):Prop:=p.1=r.1∧eA H p.2 r.2
theorem lM {K:Frag} {H:Hp}:∀ {xs:List V} {R:List Rec},Paired (jM H) xs R→∃ ps:List (Str×V),Paired (tf K H) xs ps∧Paired (NF H) ps R
 | _,_,.nil=>⟨[],.nil,.nil⟩
 | _,_,.cons h t=>by
  obtain ⟨a,y,rfl,ha,hf⟩:=h
  obtain ⟨ps,h1,h2⟩:=lM (K:=K) t
  exact ⟨(_,y)::ps,.cons ⟨a,rfl,SqT.of ha⟩ h1,.cons ⟨rfl,hf⟩ h2⟩
theorem jY {H:Hp}:∀ {ps:List (Str×V)} {R:List Rec},Paired (NF H) ps R→ps.map (·.1)=R.map (·.1)
 | _,_,.nil=>rfl
 | _,_,.cons h t=>by rw [List.map_cons,List.map_cons,h.1,jY t]
theorem lg {H:Hp} {k:Str}:∀ {ps:List (Str×V)} {R:List Rec},Paired (NF H) ps R→look R k≠[]→∃ v,((ps.map fun p=>((Sum.inr p.1:Key),p.2)).find? fun kv=>decide (kv.1=Sum.inr k)).map (·.2)=some v∧eA H v (look R k)
 | _,_,.nil,h=>absurd rfl h
 | _,_,.cons (a:=p) (b:=r) q t,h=>by
  rw [jm] at h ⊢
  rw [List.map_cons,List.find?_cons]
  by_cases e:r.1=k
  ·rw [if_pos e]
   have e2:decide ((Sum.inr p.1:Key)=Sum.inr k)=true:=decide_eq_true (by rw [q.1,e])
   simp only [e2]
   exact ⟨p.2,rfl,q.2⟩
  ·rw [if_neg e] at h ⊢
   have e2:decide ((Sum.inr p.1:Key)=Sum.inr k)=false:=decide_eq_false (fun z=>e (by have:=Sum.inr.inj z; rw [← q.1]; exact this))
   simp only [e2]
   exact lg t h
theorem bW.ne {R:List Rec} {n:Nat} {k:Str} (h:bW R n k) (hk:k∉PL):look R k≠[]:=by
 cases n with
 | zero=>exact h.elim
 | succ n =>
  rcases h with z | ⟨_,_,⟨h1,_⟩,_⟩
  ·exact absurd z hk
  ·intro e
   rw [e] at h1
   simp at h1
theorem nZ {K:Frag} {H:Hp} {v:V} {R:List Rec} {k:Str} (hR:fm H v R) (hnd:(R.map (·.1)).Nodup) (hl:R.length≤1000) (hne:look R k≠[]) :
  ∃ b xs ps u,v=.ref b∧H b=some (.tup xs)∧xs.length≤1000∧(List.map (fun q:Str×V=>q.1) ps).Nodup∧Paired (tf K H) xs ps∧((ps.map fun p=>((Sum.inr p.1:Key),p.2)).find? fun kv=>decide (kv.1=Sum.inr k)).map (·.2)=some u∧eA H u (look R k):=by
 obtain ⟨b,xs,rfl,hb,rs⟩:=hR
 obtain ⟨ps,pp1,pp2⟩:=lM (K:=K) rs
 obtain ⟨yv,efind,hf⟩:=lg (k:=k) pp2 hne
 exact ⟨b,xs,ps,yv,rfl,hb,by rw [Paired.length rs]; exact hl,by rw [jY pp2]; exact hnd,pp1,efind,hf⟩
theorem BC {α:Type} {xs:List α} {j:Nat} {v:α} (h:xs[j]?=some v):atI xs (0+(j:Int))=some v:=by rw [Int.zero_add]; exact sm h
section
variable {P:Program} {w:World} {K:Frag} {mg:Str→Option Value} {base:Heap} {f g:Addr} {fd gd:FuncData}
end
end K6
namespace L2
open PySem PySem.Spec PyProof.Rows
section
variable {X:Cx}
theorem ly:∀ {ns:List Int} {us:List Value},aK (ns.map V.int) us→∃ xs:List (Int×Tok),us.toArray=intItems xs.toArray∧xs.map (·.1)=ns
 | [],_,r=>by cases r; exact ⟨[],by simp [intItems],rfl⟩
 | i::ns,_,r=>by
  cases r with
  | cons a b =>
   obtain ⟨t,rfl⟩:=a
   obtain ⟨xs,e1,e2⟩:=ly b
   refine ⟨(i,t)::xs,?_,by rw [List.map_cons,e2]⟩
   apply Array.toList_inj.mp
   have e3:=congrArg Array.toList e1
   simp only [intItems,Array.toList_map,List.map_cons] at e3 ⊢
   rw [e3]
def AI (K:Frag):List V→Hp→VK→Prop:=fun xs H Q=>∃ (l:Addr) (ns:List Int),xs=[.ref l]∧SqL K H l (ns.map V.int)∧Q (.int ns.sum) H
theorem dU (hc:X.calm=true):bJ X (.builtin "sum") (AI X.K):=by
 intro pins s σ H xs us Q I r h
 obtain ⟨l,ns,rfl,hl,q⟩:=h
 obtain ⟨u,rfl,rx⟩:=cU r
 cases rx
 obtain ⟨its,ri,pl,hz⟩:=I.list hl
 obtain ⟨ps,e1,e2⟩:=ly ri
 have hl':=pl.isList
 rw [e1] at hl'
 refine sum_intListG (I.ok.hd hc) hl' fun h' tk t' hk=>?_
 refine ⟨.int ns.sum,H,I.kept (t':=tk) hk,⟨t',?_⟩,q⟩
 rw [preSum_eq,List.take_of_length_le (by simp),e2]
theorem oK:∀ {vs:List V} {us:List Value},vs.length=us.length→(∀ (j:Nat) (u:Value),us[j]?=some u→∃ v,vs[j]?=some v∧br v u)→aK vs us
 | [],[],_,_=>.nil
 | [],_::_,h,_=>by simp at h
 | _::_,[],h,_=>by simp at h
 | v::vs,u::us,h,k=>by
  obtain ⟨v',e,r⟩:=k 0 u rfl
  have e':v=v':=by simpa using e
  subst e'
  exact .cons r (oK (by simpa using h) fun j u' hu=>by simpa using k (j+1) u' (by simpa using hu))
def Bj:List V→Hp→VK→Prop:=fun xs H Q=>∃ i j,xs=[.int i,.int j]∧∀ p,H p=none→Q (.ref p) (upd H p (.rng i j))
theorem nA:bJ X (.type "range") Bj:=by
 intro pins s σ H xs us Q I r h
 obtain ⟨i,j,rfl,q⟩:=h
 obtain ⟨u,w',rfl,⟨t,rfl⟩,⟨t',rfl⟩⟩:=ss r
 refine call_range_2 ⟨.ref s.heap.objs.size,_,I.laid (o:=.rng i j) (t':=s.toks+1) (fun b ob q=>Heap.get?_push_of_some _ q) (Nat.le_refl _) ?_,rfl,q _ (I.hok.fresh (Nat.le_refl _))⟩
 exact ⟨t,t',s.toks,Heap.get?_push_size _ rfl⟩
def intsFrom (i:Int) (n:Nat):List Int:=(List.range n).map fun (k:Nat)=>i+(k:Int)
def zp:List V→Hp→VK→Prop:=fun xs H Q=>∃ p i j,xs=[.ref p]∧H p=some (.rng i j)∧-1000≤i∧i≤j∧j≤1000∧∀ l,H l=none→Q (.ref l) (upd H l (.lst ((intsFrom i (j - i).toNat).map V.int)))
theorem lc (hc:X.calm=true):bJ X (.type "list") zp:=by
 intro pins s σ H xs us Q I r h
 obtain ⟨p,i,j,rfl,hp,h1,h2,h3,q⟩:=h
 obtain ⟨u,rfl,rx⟩:=cU r
 cases rx
 obtain ⟨t,u,v,e⟩:=(show bR X.prog X.w H s.heap p (.rng i j) from I.hok p _ hp)
 have hn:Builtin.Range.rangeSize i j 1=(((j - i).toNat:Nat):Int):=by rw [rangeSize_one]; split<;>omega
 refine call_list_range (n:=(j - i).toNat) (I.ok.hd hc) (show IsRange s.heap p i j 1 t u v from e) (small_one (by omega) (by omega) (by omega) (by omega)) hn (by omega) fun h' tk acc c kp ea hacc=>?_
 refine ⟨.ref s.heap.objs.size,_,I.laid (t':=tk) kp (Nat.le_refl _) (show bR X.prog X.w _ h' _ (.lst ((intsFrom i (j - i).toNat).map V.int)) from ⟨?_,acc.toList,c,?_,by simpa using ea⟩),rfl,q _ (I.hok.fresh (Nat.le_refl _))⟩
 ·unfold intsFrom
  rw [List.length_map,List.length_map,List.length_range,sizeLine_eq]
  omega
 ·have hl:((intsFrom i (j - i).toNat).map V.int).length=acc.toList.length:=by
   unfold intsFrom
   rw [List.length_map,List.length_map,List.length_range,Array.length_toList,hacc.1]
  refine oK hl fun k w hw=>?_
  obtain ⟨t,rfl⟩:=hacc.2 k w (by rw [← Array.getElem?_toList]; exact hw)
  have hk:k<(j - i).toNat:=by
   have:=(List.getElem?_eq_some_iff.mp hw).1
   rw [Array.length_toList,hacc.1] at this
   exact this
  refine ⟨.int (i+(k:Int)),?_,⟨t,by simp⟩⟩
  unfold intsFrom
  rw [List.getElem?_map,List.getElem?_map,List.getElem?_range hk]
  rfl
end
end L2
namespace K6
open PySem L2
section
variable {P:Program} {w:World} {K:Frag} {mg:Str→Option Value} {base:Heap} {f g:Addr} {fd gd:FuncData}
end
open PySem L2
structure wE (R:List Rec) (FS:List lK):Prop where
 rn:(R.map (·.1)).Nodup
 rl:R.length≤2
 fn:(FS.map (·.1)).Nodup
 fl:∀ F∈FS,F.2.length≤3∧∀ p∈F.2,bW R 4 p.2
 d3:∀ F∈FS,∀ p∈F.2,bW R 3 p.2
theorem lC {F:lK}:∀ {FS:List lK} {i:Nat},(FS.map (·.1)).Nodup→FS[i]?=some F→gI FS F.1=some F
 | [],_,_,h=>nomatch h
 | G::r,0,_,h=>by
  cases Option.some.inj h
  unfold gI
  rw [List.find?_cons_of_pos (by simp)]
 | G::r,i+1,n,h=>by
  have n':=List.nodup_cons.mp n
  have:F∈r:=List.mem_of_getElem? h
  have ne:G.1≠F.1:=fun e=>n'.1 (by show G.1∈_; rw [e]; exact List.mem_map_of_mem this)
  unfold gI
  rw [List.find?_cons_of_neg (by simpa using ne)]
  exact lC n'.2 h
theorem jr {α:Type} {xs:List α} {i:Nat} {x:α} (h:xs[i]?=some x):atI xs (i:Int)=some x:=by
 have:=BC (j:=i) h
 rwa [Int.zero_add] at this
section
variable {P:Program} {w:World} {K:Frag} {mg:Str→Option Value} {base:Heap} {f g:Addr} {fd gd:FuncData}
end
open PySem L2
theorem Paired.app {α β:Type} {F:α→β→Prop}:∀ {l l2:List α} {m m2:List β},Paired F l m→Paired F l2 m2→Paired F (l++l2) (m++m2)
 | _,_,_,_,.nil,q=>q
 | _,_,_,_,.cons h r,q=>.cons h (Paired.app r q)
abbrev L3:List V:=[V.str (Str.ofString "num"),V.str (Str.ofString "row"),V.str (Str.ofString "text")]
section
variable {P:Program} {w:World} {K:Frag} {mg:Str→Option Value} {base:Heap} {f g:Addr} {fd gd:FuncData}
abbrev mY:List Str:=["_law_records", "_law_kind", "_law_found", "_law_field", "_law_own"]
abbrev iZ:List Str:=["_law_path", "_law_sort", "_law_field"]
theorem ii:iZ.Nodup:=by decide +kernel
theorem fL:aF mY ["_law_records", "_law_kind"] (defScope fh):=⟨rfl,rfl,rfl,by decide +kernel,rfl,by decide +kernel,by decide +kernel⟩
abbrev pSo:List Str:=["_law_records", "_law_kind"]
def fF (n:Nat):Sp:=fun vs H Q _=>∃ v k R,vs=[v,.str k]∧fm H v R∧(R.map (·.1)).Nodup∧R.length≤1000∧n≤4∧bW R n k∧∀ r ys H',av H H'→H r=none→H' r=some (.lst ys)→Paired (cw H') ys (am R n k)→Q (.ref r) H'
theorem wk {n:Nat} (T:G0 mg) (F:Fun K "_law_sorts" "_law_sorts" fh f fd) (D_l_sorts:Cal P w K mg base (n+1) "_law_sorts" pSo (fF n)):bg P w K mg base CX0 (n+2) f fd pSo (fF (n+1)):=by
 obtain ⟨g_l_sorts,gd_l_sorts,G_l_sorts,b_l_sorts,k_l_sorts,m_l_sorts⟩:=D_l_sorts.ex
 refine F.ok fL (fun vs H Q E h=>?_) (fun cdv A outer s H vs Q E hr h=>?_)
 ·obtain ⟨v,k,R,rfl,_⟩:=h
  rfl
 obtain ⟨v,k,R,rfl,hRc,hnd,hlR,hn,hd,q⟩:=h
 refine ⟨_,(@al _ _ _ _ _ (@aB _ _ 2 _ _ _ _ fL.nd rfl (Or.inl rfl) (@aR _ _ _ _ ag) (ao rfl) (.inr rfl)) (@al _ _ _ _ _ (@bU _ _ _ _ _ _ _ _ (@aQ _ _ _ _ _ _ _ _ dP (pv 1) (@aR _ _ _ _ (@ad _ _ _ _ _ aN (@ad _ _ _ _ _ aN (@ad _ _ _ _ _ aN ag (ac rfl)) (ac rfl)) (ac rfl))) rfl) (@ap _ _ _ (@aD _ _ _ _ (@aR _ _ _ _ (@ad _ _ _ _ _ (@aW _ _ _ _ _ (@ad _ _ _ _ _ (@aW _ _ _ _ _ ag) (@ad _ _ _ _ _ (pv 1) ag (ac rfl)) (ac rfl))) ag (ac rfl))))) bh) (@al _ _ _ _ _ (@bn _ _ _ _ _ _ _ _ PassesOwn.never rfl (cG (@ay _ _ _ _ _ _ _ nS (@aX _ _ _ _ _ _ _ _ _ (iu rfl) rfl T.dict rh (@ad _ _ _ _ _ (pv 0) ag (ac rfl)) (by decide) (by decide) (ac rfl) (aj rfl)) (pv 1) (fun _ _=>rfl))) (cQ rfl (aJ (au (i:=3) fL.nd rfl (Or.inr rfl)) (aJ (au (i:=4) fL.nd rfl (Or.inl rfl)) bP))) (@ap _ _ _ (@bY _ _ _ _ (@dB _ _ _ _ _ _ _ _ _ _ _ _ PySem.F.plainAttrs_list PySem.F.slot_list_extend PySem.F.type_list_extend dO (pv 2) (@ad _ _ _ _ _ (be (N':=iZ) (ρ:=[none,none,some 3]) (m:=2) (bt.of (fs:=defScope fh) (N:=mY) rfl rfl (by decide +kernel)) rfl (aZ (ar G_l_sorts (hr.mono (by omega)) rfl m_l_sorts k_l_sorts b_l_sorts .nil aE (ad (pv 0) (ad (pv 4) ag)))) (fun _ _ _ _=>(ou (n:=2) (K:=K) rfl rfl (aJ (au (i:=0) ii rfl (Or.inl rfl)) (aJ (au (i:=1) ii rfl (Or.inl rfl)) bP)))) (fun _ _ _ _=>bq) (fun _ _ _ _=>(aW (ad (aG (gJ (K:=K) rfl) (aW (ad (pv 2) ag)) (pv 0)) (ad (pv 1) ag))))) ag (ac rfl)) rfl (cH rfl rfl) rfl (ac rfl) (aj rfl)) (ao rfl))) (fun _=>rfl)) (@ap _ _ _ (@aD _ _ _ _ (pv 2)))))),?_⟩
 refine ⟨(by show 0≤sizeLine; decide),fun t ht=>?_⟩
 have g0:=af ht (.lst [])
 refine ⟨_,rfl,(by show 3≤sizeLine; decide),fun l3 h3=>?_⟩
 have g1:=g0.trans (af h3 (.lst (L3)))
 refine ⟨l3,L3,rfl,.inl (SqL.of ae),rfl,(by decide +kernel),_,rfl,?_⟩
 have ht1:(upd (upd H t (.lst [])) l3 (.lst (L3))) t=some (.lst []):=af h3 _ _ _ ae
 refine bO (fun c=>?_) (fun c=>?_)
 ·have ck:k∈PL:=(pl3 k).mp (of_decide_eq_true ((cB k PL3).symm.trans c))
  refine ⟨(by show 0≤sizeLine; decide),fun p1 h1=>⟨_,rfl,(by show 2≤sizeLine; decide),fun p2 h2=>⟨(by show 1≤sizeLine; decide),fun r h3=>?_⟩⟩⟩
  have t1:=fA h2 (.tup [.ref p1,.str k])
  have t2:=fA h3 (.lst [.ref p2])
  refine q r _ _ (g1.trans (((af h1 _).trans (af h2 _)).trans (af h3 _))) ?_ ae ?_
  ·exact g1.free ((af h1 _).free ((af h2 _).free h3))
  ·unfold am
   rw [if_pos ck]
   exact .cons ⟨p2,.ref p1,rfl,t2 _ _ ae,p1,rfl,t2 _ _ (t1 _ _ ae)⟩ .nil
 have ck:k∉PL:=fun z=>c ((cB k PL3).trans (decide_eq_true ((pl3 k).mpr z)))
 have hdk:=hd
 rcases hd with z | ⟨_,_,⟨_,hl⟩,hd⟩
 ·exact absurd z ck
 generalize (upd (upd H t (.lst [])) l3 (.lst (L3)))=H1 at g1 ht1
 obtain ⟨b0,xs0,ps,fv,rfl,hb0,hl0,hnd0,pp1,efind,hfl⟩:=nZ (K:=K) (hRc.mono (ah g1)) hnd hlR (hdk.ne ck)
 refine ⟨_,rfl,b0,xs0,ps,rfl,hb0,hl0,hnd0,pp1,fun dl hdl=>?_⟩
 have g2:=af hdl (.dK (ps.map fun p=>(Sum.inr p.1,p.2)))
 obtain ⟨b,fs,rfl,hb,rf⟩:=hfl.mono (ah g2)
 have lf:=Paired.length rf
 refine ⟨_,rfl,dl,_,k,_,rfl,rfl,ae,efind,?_⟩
 have ht2:=g2 _ _ ht1
 have G2:=g1.trans g2
 generalize (upd H1 dl (.dK (ps.map fun p=>(Sum.inr p.1,p.2))))=H2 at G2 hb rf ht2
 have hlen:∀ i,((look R k).take i).length≤3:=fun i=>by rw [List.length_take]; omega
 have p3:(3:Nat) ^ n≤81:=by
  calc 3 ^ n≤3 ^ 4:=Nat.pow_le_pow_right (by decide) (by omega)
   _=81:=by decide
 refine ⟨b,rfl,⟨fs,SqT.of hb⟩,fo (xs:=fs) (fun i σ H'=>∃ m3 m4 ys,σ=[some (.ref b0),some (.str k),some (.ref t),m3,m4]∧Ext t H2 H'∧H' t=some (.lst ys) ∧
   Paired (cw H') ys (((look R k).take i).flatMap fun p=>(am R n p.2).map fun q=>(p.1::q.1,q.2))) ⟨none,none,[],rfl,Ext.refl _ _,ht2,.nil⟩ (fun i σ H' _ p=>?_) (fun i u σ H' hx p=>?_) (fun σ H' p=>?_)⟩
 ·obtain ⟨_,_,_,_,x1,_⟩:=p
  exact SqT.of (aY x1 ht2 _ _ hb)
 ·obtain ⟨m3,m4,ys,rfl,x1,hty,py⟩:=p
  obtain ⟨fl,hfl,a,rfl,ha⟩:=aH rf i u hx
  have k1:=aY x1 ht2
  have dp:=hd fl (List.mem_of_getElem? hfl)
  refine ⟨a,_,rfl,SqT.of (k1 _ _ ha),rfl,_,_,rfl,_,_,rfl,rfl,?_⟩
  refine ⟨_,rfl,.inl ⟨rfl,_,SqL.of hty⟩,_,rfl,_,rfl,_,fl.2,R,rfl,(hRc.mono (ah G2)).mono k1,hnd,hlR,by omega,dp,fun r zs H3 g3 hr0 hrz pz=>?_⟩
  have el:=bM n dp
  have lz:=Paired.length pz
  have len1:ys.length≤243:=by
   rw [Paired.length py]
   have:=bX (l:=(look R k).take i) (g:=fun p=>(am R n p.2).map fun q=>(p.1::q.1,q.2)) (b:=81) fun p hp'=>by
    rw [List.length_map]
    have:=bM n (hd p (List.mem_of_mem_take hp'))
    omega
   have h3:=hlen i
   have:((look R k).take i).length*81≤3*81:=Nat.mul_le_mul_right _ h3
   omega
  refine ⟨r,rfl,⟨zs,SqL.of hrz⟩,bF (xs:=zs) zs.length rfl (by omega) (fun j acc H'=>av H3 H'∧Paired (cw H') acc (((am R n fl.2).take j).map fun q=>(fl.1::q.1,q.2))) ⟨av.refl _,.nil⟩ (fun j acc H' p=>SqL.of (p.1 _ _ hrz)) (fun j acc H' x hj la hx2 p=>?_) (fun acc H' p la D hD=>?_)⟩
  ·obtain ⟨g4,pa⟩:=p
   obtain ⟨qq,hqq,hpa⟩:=aH pz j x hx2
   obtain ⟨a2,y2,rfl,ha2,a3,rfl,ha3⟩:=hpa.mono (ah g4)
   have hm:qq∈am R n fl.2:=List.mem_of_getElem? hqq
   have pl:=eK n hm
   have fin:∀ (u:V) (H5:Hp),av H' H5→iq H5 u (fl.1::qq.1)→∀ p2,H5 p2=none→av H3 (upd H5 p2 (.tup [u,.str qq.2]))∧Paired (cw (upd H5 p2 (.tup [u,.str qq.2]))) (acc++[.ref p2]) (((am R n fl.2).take (j+1)).map fun q=>(fl.1::q.1,q.2)):=by
    intro u H5 g5 hu p2 hp2
    have g6:=af hp2 (.tup [u,.str qq.2])
    refine ⟨(g4.trans g5).trans g6,?_⟩
    rw [List.take_add_one,hqq,List.map_append]
    exact Paired.snoc (cL (ah (g5.trans g6)) pa) ⟨p2,u,rfl,ae,hu.mono (ah g6)⟩
   refine ⟨a2,_,rfl,SqT.of ha2,rfl,_,_,rfl,_,_,rfl,rfl,⟨rfl,rfl⟩,bp ?_⟩
   refine ⟨_,rfl,(by show 1≤sizeLine; decide),fun p1 hp1=>?_⟩
   have g5:=af hp1 (.tup [.str fl.1])
   refine ⟨_,rfl,.inl ⟨p1,a3,_,_,rfl,rfl,SqT.of ae,SqT.of (g5 _ _ ha3),(by simp),?_,fun z=>?_,fun z p3 hp3=>?_⟩⟩
   ·rw [List.length_map]
    exact Nat.le_of_lt (aC (by simp; omega))
   ·have ep:qq.1=[]:=by simpa using z
    refine ⟨_,rfl,(by show 2≤sizeLine; decide),fun p2 hp2=>?_⟩
    exact nxT (by omega) hj la (fin (.ref p1) _ g5 ⟨p1,rfl,by rw [ep]; exact ae⟩ p2 hp2)
   ·refine ⟨_,rfl,(by show 2≤sizeLine; decide),fun p2 hp2=>?_⟩
    exact nxT (by omega) hj la (fin (.ref p3) _ (g5.trans (af hp3 _)) ⟨p3,rfl,ae⟩ p2 hp2)
  ·obtain ⟨g4,pa⟩:=p
   have g5:=af hD (.lst acc)
   have htD:=g5 _ _ (g4 _ _ (g3 _ _ hty))
   have gg:=(g3.trans g4).trans g5
   have kt:=cj htD (.lst (ys++acc))
   refine ⟨t,D,ys,acc,rfl,rfl,htD,ae,Nat.le_of_lt (aC (by omega)),?_⟩
   refine ⟨_,_,ys++acc,rfl,(x1.trans (av.ext gg)).trans Ext.upd,ae,?_⟩
   rw [List.take_add_one,hfl,List.flatMap_append]
   rw [lz,List.take_length] at pa
   have:=Paired.app (cL ((ah gg).trans kt) py) (cL ((ah g5).trans kt) pa)
   simpa using this
 ·obtain ⟨m3,m4,ys,rfl,x1,hty,py⟩:=p
  refine ⟨_,rfl,q t ys H' (fun b o e=>?_) ht hty ?_⟩
  ·exact x1 _ _ (aq e ht) (G2 _ _ e)
  ·unfold am
   rw [if_neg ck]
   rw [Paired.length rf,List.take_length] at py
   exact py
theorem uY:bg P w K mg base CX0 1 f fd pSo (fF 0):=by
 have no:∀ vs H Q E,¬ fF 0 vs H Q E:=fun vs H Q E h=>by
  obtain ⟨v,k,R,_,_,_,_,_,h1,_⟩:=h
  exact h1
 exact ⟨fun vs H Q E h=>absurd h (no vs H Q E),fun A outer s H args us vs Q E _ _ _ _ h=>absurd h (no vs H Q E)⟩
theorem nj (T:G0 mg) (F:Fun K "_law_sorts" "_law_sorts" fh f fd) (b:dA K fd pSo []) (m:mg "_law_sorts"=some (.ref f)):∀ n:Nat,bg P w K mg base CX0 (n+1) f fd pSo (fF n)
 | 0=>uY
 | n+1=>wk T F ⟨f,fd,nj T F b m n,b,F.kp,m⟩
end
end K6
namespace L2
open PySem PySem.W PySem.Calls PySem.Spec PyProof.Rows
section
variable {prog:Program} {w:World}
theorem yt {A:Around} {b fin:Bool} {Q:Bool→Shared→Prop}:∀ (l:List (Value×Value)) (i:Nat),KatLex prog w A b fin Q l (i+1)=KatLex prog w A false fin Q l (i+1)
 | [],i=>rfl
 | (p,q)::r,i=>by
  funext s
  have e1:(b&&(i+1==0))=false:=by cases b<;>rfl
  have e2:(false&&(i+1==0))=false:=rfl
  unfold KatLex
  rw [yt r (i+1),e1,e2]
theorem ni {i j:Int} {l m:List PyData} {A:Around} {E:Value→Shared→Prop} {s:Shared} {u v:Value} {Q:Bool→Shared→Prop} (r1:RdT s.heap u (.tuple (.int i::l))) (r2:RdT s.heap v (.tuple (.int j::m))) (p1:pk (.tuple (.int i::l))=true) (p2:pk (.tuple (.int j::m))=true) (c:Cok (.tuple (.int i::l)) (.tuple (.int j::m))) (hu:A.units+(PyData.tuple (.int i::l)).depth+2<cLine)
  (h:Q (dlt (.tuple (.int i::l)) (.tuple (.int j::m))) s):wpAny (model prog w) A (keyLt' (tuples' true) u v) Q E s:=by
 cases r1 with
 | @tup a oa xs na _ hoa _ hda hia =>
  cases r2 with
  | @tup b ob ys nb _ hob _ hdb hib =>
   refine kat_lt hoa hda hob hdb ?_
   have hc:kw (.int i::l) (.int j::m):=by cases c; assumption
   simp only [dlt,mh] at h
   simp only [PyData.depth,PyData.depthAll] at hu
   have e1:=hV hia
   have e2:=hV hib
   have z1:xs.size=(PyData.int i::l).length:=by rw [← Array.length_toList,e1]
   have z2:ys.size=(PyData.int j::m).length:=by rw [← Array.length_toList,e2]
   rw [z1,z2]
   generalize xs.toList=xl at hia
   generalize ys.toList=yl at hib
   have p1':pks (.int i::l)=true:=by simpa only [pk] using p1
   have p2':pks (.int j::m)=true:=by simpa only [pk] using p2
   simp only [pks,Bool.and_eq_true] at p1' p2'
   cases hia with
   | cons q1 t1 =>
    cases hib with
    | cons q2 t2 =>
     rw [List.zip_cons_cons]
     obtain ⟨as,ra⟩:=q1.reads
     have di:(PyData.int i).depth≤1:=by simp [PyData.depth]
     have dj:(PyData.int j).depth≤1:=by simp [PyData.depth]
     obtain ⟨bs,rb⟩:=q2.reads
     refine kat_cons (SeqAt.eqAt_reads _ _ A s _ _ as bs ra rb (fU p1'.1) (fU p2'.1) (by omega) prog w _ _ ?_)
     rw [nX p1'.1 p2'.1]
     by_cases hab:(PyData.int i)=.int j
     ·rw [decide_eq_true hab]
      have hd:dif (.int i::l) (.int j::m)=dif l m:=by simp only [dif]; rw [if_pos hab]
      rw [hd] at h
      refine kat_yes ?_
      rw [yt]
      refine si l m t1 t2 p1'.2 p2'.2 ?_ (by omega) (fun z hz=>by rw [hz] at h; exact h) (fun hz=>by rw [hz] at h; exact h)
      cases hc with
      | eq c=>exact c
      | ne n _=>exact absurd hab n
     ·rw [decide_eq_false hab]
      have hd:dif (.int i::l) (.int j::m)=some (dlt (.int i) (.int j)):=by simp only [dif]; rw [if_neg hab]
      rw [hd] at h
      refine kat_no ?_
      cases q1
      cases q2
      exact oneLt_int (by simpa only [dlt,Option.getD_some] using h)
end
structure Aw (ds:List PyData):Prop where
 len:ds.length<64
 p:∀ d∈ds,pk d=true∧d.depth≤40∧∃ i r,d=.tuple (.int i::r)
 c:∀ d∈ds,∀ e∈ds,Cok d e
theorem gw {h:Heap}:∀ {us:List Value} {ds:List PyData},cN h us ds→(∀ d∈ds,∃ i r,d=.tuple (.int i::r))→∃ fs,KatTups h us fs∧fs.length=ds.length∧∀ v∈fs,∃ i,RdT h v (.int i)
 | _,_,.nil,_=>⟨[],.nil,rfl,fun _ z=>by cases z⟩
 | _,_,.cons (v:=u) (vs:=us) (d:=d) (ds:=ds) q r,hp=>by
  obtain ⟨fs,t,l,k⟩:=gw r fun d hd=>hp d (List.mem_cons_of_mem _ hd)
  obtain ⟨f,rr,rfl⟩:=hp d List.mem_cons_self
  cases q with
  | @tup a o xs n _ h1 h2 h3 h4 =>
   obtain ⟨v0,vr,e,q0⟩:∃ v0 vr,xs.toList=v0::vr∧RdT h v0 (.int f):=by
    generalize xs.toList=zs at h4
    cases h4 with
    | cons q0 _=>exact ⟨_,_,rfl,q0⟩
   refine ⟨v0::fs,.cons h1 h2 h3 (by rw [← Array.getElem?_toList,e]; rfl) t,by rw [List.length_cons,List.length_cons,l],fun v hv=>?_⟩
   rcases List.mem_cons.mp hv with rfl | hv
   ·exact ⟨f,q0⟩
   ·exact k v hv
section
variable {X:Cx}
end
end L2
namespace K6
open PySem L2
mutual
def kv:PyData→Bool
 | .int _=>true
 | .str z=>su (.str z)&&decide (z.length≤3)
 | .tuple ds=>decide (ds.length≤100)&&kvs ds
 | _=>false
def kvs:List PyData→Bool
 | []=>true
 | d::r=>kv d&&kvs r
end
theorem rX:∀ {ds:List PyData},(∀ d∈ds,kv d=true)→kvs ds=true
 | [],_=>rfl
 | a::r,h=>by simp only [kvs,Bool.and_eq_true]; exact ⟨h a List.mem_cons_self,rX fun d hd=>h d (List.mem_cons_of_mem _ hd)⟩
theorem aO {H:Hp}:∀ {v:List V} {d:List PyData},bd H v d→v.length=d.length
 | _,_,.nil=>rfl
 | _,_,.cons h r=>by rw [List.length_cons,List.length_cons,aO r]
theorem kD {H:Hp}:∀ (i:Nat) {v:List V} {d:List PyData},bd H v d→bd H (v.take i) (d.take i)
 | 0,_,_,_=>by rw [List.take_zero,List.take_zero]; exact .nil
 | i+1,_,_,.nil=>.nil
 | i+1,_,_,.cons h r=>.cons h (kD i r)
theorem kB {H:Hp}:∀ (i:Nat) {v:List V} {d:List PyData},bd H v d→bd H (v.drop i) (d.drop i)
 | 0,_,_,q=>q
 | i+1,_,_,.nil=>.nil
 | i+1,_,_,.cons h r=>kB i r
theorem bC {H:Hp}:∀ {v v2:List V} {d d2:List PyData},bd H v d→bd H v2 d2→bd H (v++v2) (d++d2)
 | _,_,_,_,.nil,q=>q
 | _,_,_,_,.cons h r,q=>.cons h (bC r q)
theorem cg {H:Hp}:∀ {v:List V} {d:List PyData},bd H v d→∀ (i:Nat) (x:V),v[i]?=some x→∃ e,d[i]?=some e∧KAt H x e
 | _,_,.nil,_,_,h=>nomatch h
 | _,_,.cons q r,0,x,h=>by cases Option.some.inj h; exact ⟨_,rfl,q⟩
 | _,_,.cons q r,i+1,x,h=>cg r i x h
def bD (len:Str→Nat) (u:Str→List PyData→PyData):List Str→List PyData→List PyData
 | [],_=>[]
 | k::ks,ds=>u k (ds.take (len k))::bD len u ks (ds.drop (len k))
def bA (R:List Rec):Nat→Str→List PyData→PyData
 | 0,_,_=>.none
 | n+1,k,ds=>if k∈PL then ds.headD .none else .tuple (bD (fun k=>(am R n k).length) (bA R n) ((look R k).map (·.2)) ds)
theorem db (len:Str→Nat) (u:Str→List PyData→PyData):∀ (ks:List Str) (ds:List PyData),(bD len u ks ds).length=ks.length
 | [],_=>rfl
 | k::ks,ds=>by rw [bD,List.length_cons,db len u ks,List.length_cons]
theorem fq (len:Str→Nat) (u:Str→List PyData→PyData) (k:Str):∀ (ks:List Str) (ds:List PyData),bD len u (ks++[k]) ds=bD len u ks ds++[u k ((ds.drop (ks.map len).sum).take (len k))]
 | [],ds=>by simp [bD]
 | x::ks,ds=>by
  show _::bD len u (ks++[k]) _=(_::bD len u ks _)++_
  rw [fq len u k ks,List.drop_drop,List.map_cons,List.sum_cons]
  rfl
theorem jB (R:List Rec) (n:Nat):∀ l:List Fld,(l.flatMap fun p=>(am R n p.2).map fun q=>(p.1::q.1,q.2)).length=((l.map (·.2)).map fun k=>(am R n k).length).sum
 | []=>rfl
 | p::l=>by rw [List.flatMap_cons,List.length_append,List.length_map,jB R n l]; rfl
section
variable {P:Program} {w:World} {K:Frag} {mg:Str→Option Value} {base:Heap} {f g:Addr} {fd gd:FuncData}
abbrev eU:List Str:=["_law_records", "_law_kind", "_law_pieces"]
abbrev dD:List Str:=["_law_field", "_law_own", "_law_records", "_law_pieces"]
theorem dv:dD.Nodup:=by decide +kernel
theorem iJ:aF eU ["_law_records", "_law_kind", "_law_pieces"] (defScope bS):=⟨rfl,rfl,rfl,by decide +kernel,rfl,by decide +kernel,by decide +kernel⟩
abbrev pPu:List Str:=["_law_records", "_law_kind", "_law_pieces"]
def nJ (n:Nat):Sp:=fun vs H Q _=>∃ v k R pl xs ds rest,vs=[v,.str k,.ref pl]∧fm H v R∧(R.map (·.1)).Nodup∧R.length≤1000∧bW R n k∧H pl=some (.lst (xs++rest))∧bd H xs ds∧ds.length=(am R n k).length∧(∀ d∈ds,kv d=true)∧∀ u H',Ext pl H H'→H' pl=some (.lst rest)→KAt H' u (bA R n k ds)→kv (bA R n k ds)=true→Q u H'
theorem Ad {n:Nat} (T:G0 mg) (F:Fun K "_law_put_together" "_law_put_together" bS f fd) (D_l_put_together:Cal P w K mg base (n+1) "_law_put_together" pPu (nJ n)):bg P w K mg base CX0 (n+2) f fd pPu (nJ (n+1)):=by
 obtain ⟨g_l_put_together,gd_l_put_together,G_l_put_together,b_l_put_together,k_l_put_together,m_l_put_together⟩:=D_l_put_together.ex
 refine F.ok iJ (fun vs H Q E h=>?_) (fun cdv A outer s H vs Q E hr h=>?_)
 ·obtain ⟨v,k,R,pl,xs,ds,rest,rfl,_⟩:=h
  rfl
 obtain ⟨v,k,R,pl,xs,ds,rest,rfl,hRc,hnd,hlR,hd,hpl,hks,hln,hgt,q⟩:=h
 refine ⟨_,(@al _ _ _ _ _ (@bU _ _ _ _ _ _ _ _ (@aQ _ _ _ _ _ _ _ _ dP (pv 1) (@aR _ _ _ _ (@ad _ _ _ _ _ aN (@ad _ _ _ _ _ aN (@ad _ _ _ _ _ aN ag (ac rfl)) (ac rfl)) (ac rfl))) rfl) (@ap _ _ _ (@aD _ _ _ _ (@dB _ _ _ _ _ _ _ _ _ _ _ _ PySem.F.plainAttrs_list PySem.F.slot_list_pop PySem.F.type_list_pop wP (pv 2) (@ad _ _ _ _ _ ak ag (ac rfl)) rfl (cH rfl rfl) rfl (ac rfl) (aj rfl)))) bh) (@ap _ _ _ (@aD _ _ _ _ (@aX _ _ _ _ _ _ _ _ _ bv rfl T.tuple dI (@ad _ _ _ _ _ (be (N':=dD) (ρ:=[none,none,some 0,some 2]) (m:=2) (bt.of (fs:=defScope bS) (N:=eU) rfl rfl (by decide +kernel)) rfl (cG (ay nS (aX (iu rfl) rfl T.dict rh (ad (pv 0) ag)) (pv 1) (fun _ _=>rfl))) (fun _ _ _ _=>(ou (n:=2) (K:=K) rfl rfl (aJ (au (i:=0) dv rfl (Or.inl rfl)) (aJ (au (i:=1) dv rfl (Or.inl rfl)) bP)))) (fun _ _ _ _=>bq) (fun _ _ _ _=>(ar G_l_put_together (hr.mono (by omega)) rfl m_l_put_together k_l_put_together b_l_put_together .nil aE (ad (pv 2) (ad (pv 1) (ad (pv 3) ag)))))) ag (ac rfl)) (by decide) (by decide) (ac rfl) (aj rfl))))),?_⟩
 refine ⟨_,rfl,(by show 3≤sizeLine; decide),fun l3 h3=>?_⟩
 have g1:=af h3 (.lst L3)
 refine ⟨l3,L3,rfl,.inl (SqL.of ae),rfl,(by decide +kernel),_,rfl,?_⟩
 have hp1:=g1 _ _ hpl
 refine bO (fun c=>?_) (fun c=>?_)
 ·have ck:k∈PL:=(pl3 k).mp (of_decide_eq_true ((cB k PL3).symm.trans c))
  have l1:ds.length=1:=by
   rw [hln]
   unfold am
   rw [if_pos ck]
   rfl
  cases hks with
  | nil=>cases l1
  | @cons x xr d dr hx hr' =>
   have:dr=[]:=List.eq_nil_of_length_eq_zero (by simpa using l1)
   subst this
   cases hr'
   exact ⟨_,rfl,.inl ⟨rfl,_,SqL.of hp1⟩,pl,x::rest,0,0,x,rfl,rfl,hp1,by decide,by decide,seqIndex_of (by decide) (by simp),rfl,q x _ ((av.ext g1).trans Ext.upd) ae (by unfold bA; rw [if_pos ck]; exact (hx.mono (ah g1)).mono (cj hp1 _)) (by unfold bA; rw [if_pos ck]; exact hgt d List.mem_cons_self)⟩
 have ck:k∉PL:=fun z=>c ((cB k PL3).trans (decide_eq_true ((pl3 k).mpr z)))
 have hdk:=hd
 rcases hd with z | ⟨_,_,⟨_,hl⟩,hd⟩
 ·exact absurd z ck
 generalize (upd H l3 (.lst [V.str (Str.ofString "num"),V.str (Str.ofString "row"),V.str (Str.ofString "text")]))=H1 at g1 hp1
 obtain ⟨b0,xs0,ps,fv,rfl,hb0,hl0,hnd0,pp1,efind,hfl⟩:=nZ (K:=K) (hRc.mono (ah g1)) hnd hlR (hdk.ne ck)
 refine ⟨_,rfl,b0,xs0,ps,rfl,hb0,hl0,hnd0,pp1,fun dl hdl=>?_⟩
 have g2:=af hdl (.dK (ps.map fun p=>(Sum.inr p.1,p.2)))
 obtain ⟨b,fs,rfl,hb,rf⟩:=hfl.mono (ah g2)
 have lf:=Paired.length rf
 refine ⟨_,rfl,dl,_,k,_,rfl,rfl,ae,efind,?_⟩
 have hp2:=g2 _ _ hp1
 have G2:=g1.trans g2
 generalize (upd H1 dl (.dK (ps.map fun p=>(Sum.inr p.1,p.2))))=H2 at G2 hb rf hp2
 have hks2:=hks.mono (ah G2)
 have lks:=aO hks
 have etot:am R (n+1) k=(look R k).flatMap fun p=>(am R n p.2).map fun q=>(p.1::q.1,q.2):=by
  conv=>lhs; unfold am
  rw [if_neg ck]
  rfl
 have cn:∀ i fl,(look R k)[i]?=some fl→(((look R k).take (i+1)).flatMap fun p=>(am R n p.2).map fun q=>(p.1::q.1,q.2)).length=(((look R k).take i).flatMap fun p=>(am R n p.2).map fun q=>(p.1::q.1,q.2)).length+(am R n fl.2).length:=fun i fl h=>by
  rw [List.take_add_one,h,List.flatMap_append,List.length_append]
  simp
 have cle:∀ i,(((look R k).take i).flatMap fun p=>(am R n p.2).map fun q=>(p.1::q.1,q.2)).length≤ds.length:=fun i=>by
  rw [hln,etot]
  conv=>rhs; rw [← List.take_append_drop i (look R k),List.flatMap_append,List.length_append]
  omega
 refine ⟨b,rfl,⟨fs,SqT.of hb⟩,cO (xs:=fs) fs.length rfl (by omega) (fun i acc H'=>Ext pl H2 H'∧H' pl=some (.lst (xs.drop (((look R k).take i).flatMap fun p=>(am R n p.2).map fun q=>(p.1::q.1,q.2)).length++rest))∧bd H' acc (bD (fun k=>(am R n k).length) (bA R n) (((look R k).take i).map (·.2)) ds)∧∀ d∈bD (fun k=>(am R n k).length) (bA R n) (((look R k).take i).map (·.2)) ds,kv d=true) ⟨Ext.refl _ _,hp2,.nil,fun _ z=>nomatch z⟩ (fun i acc H' p=>SqT.of (aY p.1 hp2 _ _ hb)) (fun i acc H' x hi la hx p=>?_) (fun acc H' p la D hD=>?_)⟩
 ·obtain ⟨x1,hpi,hes,ges⟩:=p
  obtain ⟨fl,hfl,a,rfl,ha⟩:=aH rf i x hx
  have k1:=aY x1 hp2
  have dp:=hd fl (List.mem_of_getElem? hfl)
  have c1:=cn i fl hfl
  have es1:bD (fun k=>(am R n k).length) (bA R n) (((look R k).take (i+1)).map (·.2)) ds=bD (fun k=>(am R n k).length) (bA R n) (((look R k).take i).map (·.2)) ds++[bA R n fl.2 ((ds.drop (((look R k).take i).flatMap fun p=>(am R n p.2).map fun q=>(p.1::q.1,q.2)).length).take (am R n fl.2).length)]:=by
   rw [List.take_add_one,hfl,Option.toList_some,List.map_append,List.map_singleton,fq,jB]
  have c2:=cle (i+1)
  rw [c1] at c2
  generalize hc:(((look R k).take i).flatMap fun p=>(am R n p.2).map fun q=>(p.1::q.1,q.2)).length=ci at hpi c1 c2 es1
  refine ⟨a,_,rfl,SqT.of (k1 _ _ ha),rfl,_,_,rfl,_,_,rfl,rfl,⟨rfl,rfl⟩,bp ?_⟩
  refine ⟨_,rfl,_,rfl,_,rfl,_,fl.2,R,pl,(xs.drop ci).take (am R n fl.2).length,(ds.drop ci).take (am R n fl.2).length,xs.drop (ci+(am R n fl.2).length)++rest,rfl,(hRc.mono (ah G2)).mono k1,hnd,hlR,dp,?_,kD _ (kB _ (hks2.mono k1)),?_,fun d hd'=>hgt d (List.mem_of_mem_drop (List.mem_of_mem_take hd')),fun u H3 x3 h3p hu gu=>nxT (by omega) hi la ⟨x1.trans x3,?_,by rw [es1]; exact bC (hes.mono (aY x3 hpi)) (.cons hu .nil),fun e he=>?_⟩⟩
  ·rw [hpi,← List.append_assoc,← List.drop_drop,List.take_append_drop]
  ·rw [List.length_take,List.length_drop]
   omega
  ·rw [h3p,c1]
  ·rw [es1] at he
   rcases List.mem_append.mp he with he | he
   ·exact ges e he
   ·rw [List.mem_singleton.mp he]
    exact gu
 ·obtain ⟨x1,hpi,hes,ges⟩:=p
  rw [lf,List.take_length] at hes ges
  rw [lf,List.take_length,← etot,← hln,← lks,List.drop_length,List.nil_append] at hpi
  have gD:=af hD (.lst acc)
  refine ⟨D,acc,rfl,.inl ⟨SqL.of ae,fun t ht=>?_⟩⟩
  have gt':=af ht (.tup acc)
  have npl:H2 pl=_:=hp2
  have eu:bA R (n+1) k ds=.tuple (bD (fun k=>(am R n k).length) (bA R n) ((look R k).map (·.2)) ds):=by
   conv=>lhs; unfold bA
   rw [if_neg ck]
  have les:=db (fun k=>(am R n k).length) (bA R n) ((look R k).map (·.2)) ds
  rw [List.length_map] at les
  refine q (.ref t) _ ((av.ext G2).trans (x1.trans (av.ext (gD.trans gt')))) (gt' _ _ (gD _ _ hpi)) (by rw [eu]; exact .tup ae (hes.mono (ah (gD.trans gt')))) ?_
  rw [eu]
  simp only [kv,Bool.and_eq_true,decide_eq_true_eq]
  exact ⟨by omega,rX ges⟩
theorem zM:bg P w K mg base CX0 1 f fd pPu (nJ 0):=by
 have no:∀ vs H Q E,¬ nJ 0 vs H Q E:=fun vs H Q E h=>by
  obtain ⟨v,k,R,pl,xs,ds,rest,_,_,_,_,h1,_⟩:=h
  exact h1
 exact ⟨fun vs H Q E h=>absurd h (no vs H Q E),fun A outer s H args us vs Q E _ _ _ _ h=>absurd h (no vs H Q E)⟩
theorem sE (T:G0 mg) (F:Fun K "_law_put_together" "_law_put_together" bS f fd) (b:dA K fd pPu []) (m:mg "_law_put_together"=some (.ref f)):∀ n:Nat,bg P w K mg base CX0 (n+1) f fd pPu (nJ n)
 | 0=>zM
 | n+1=>Ad T F ⟨f,fd,sE T F b m n,b,F.kp,m⟩
end
end K6
namespace L2
open PySem PySem.Spec PyProof.Rows
theorem gY:∀ {ts:List Str} {us:List Value},aK (ts.map V.str) us→∃ l:List (Str×Tok),us=strValues l∧l.map (·.1)=ts
 | [],_,.nil=>⟨[],rfl,rfl⟩
 | t::ts,_,.cons r q=>by
  obtain ⟨k,rfl⟩:=r
  obtain ⟨l,rfl,e⟩:=gY q
  exact ⟨(t,k)::l,rfl,by rw [List.map_cons,e]⟩
def jl (sep:Str) (ts:List Str):Nat:=(ts.map (·.length)).sum+ts.length*sep.length
theorem sj {sep:Str} {ts:List Str} (h:jl sep ts≤sizeLine):Builtin.Str.tooLong (ts.toArray.foldl (·+·.length+sep.length) 0)=false:=by
 rw [StrLaws.joinTotal]
 unfold Builtin.Str.tooLong
 unfold jl at h
 exact decide_eq_false (Nat.not_lt.mpr h)
section
variable {X:Cx}
def yP (K:Frag):V→List V→Hp→VK→Prop:=fun x vs H Q=>∃ sep a,∃ ts:List Str,x=.str sep∧vs=[.ref a]∧(SqL K H a (ts.map V.str)∨SqT K H a (ts.map V.str))∧jl sep ts≤sizeLine∧Q (.str (Str.join sep ts)) H
theorem xW:MtR X "str.join" (yP X.K):=by
 intro pins s σ H x vs v us Q I rx rv h
 obtain ⟨sep,a,ts,rfl,rfl,hq,hz,q⟩:=h
 obtain ⟨t,rfl⟩:=rx
 obtain ⟨u,rfl,ru⟩:=rv.one
 cases ru
 have fin:∀ (l:List (Str×Tok)),l.map (·.1)=ts→∀ (v:Value) (s':Shared),((∃ t' k,v=.str (Txt.join sep ts) t'∧s'={ s with toks:=k }))→EP X pins σ Q v s':=by
  rintro l hl v s' ⟨t',k,rfl,rfl⟩
  refine ⟨.str (Str.join sep ts),H,I.tok _,⟨t',?_⟩,q⟩
  show Value.str (Builtin.Str.glued sep ts) t'=_
  rw [StrLaws.glued_eq_join]
 rcases hq with hq | hq
 ·obtain ⟨its,r,pl,_⟩:=I.list hq
  obtain ⟨l,rfl,hl⟩:=gY r
  refine call_meets F.slot_str_join (typeIs_str _ _ _) F.entry_str_join (F.args_str_join_2 _ _) (meets_str_join_list sep t a l (by rw [hl]; exact sj hz)) ⟨pl.isList,?_⟩
  refine post_join l ⟨by rw [hl]; exact joinFit_length (sj hz),fun t' k=>?_⟩
  exact fin l hl _ _ ⟨t',k,by rw [hl],rfl⟩
 ·obtain ⟨its,r,pl,_⟩:=I.tuple hq
  obtain ⟨l,rfl,hl⟩:=gY r
  obtain ⟨o,ho,hc,n,hd⟩:=id pl
  refine call_meets F.slot_str_join (typeIs_str _ _ _) F.entry_str_join (F.args_str_join_2 _ _) (meets_str_join_tuple sep t a l (by rw [hl]; exact sj hz)) ⟨⟨o,n,ho,hc,hd⟩,?_⟩
  refine post_join l ⟨by rw [hl]; exact joinFit_length (sj hz),fun t' k=>?_⟩
  exact fin l hl _ _ ⟨t',k,by rw [hl],rfl⟩
end
theorem vS {X:Cx} {K:Frag} {o e:Expr} {to te:TE} {apos cpos:Pos} (hK:X.K=K) (ho:PE X o to) (he:PE X e te)
  (hbase:attributeBase o "join" X.env (eval o X.env)=eval o X.env:=by rfl) (hline:(apos.endLine==cpos.line)=true:=by rfl)
  (hfew:((backTo cpos (starEach [e] X.env)).all (fun x=>!x.1)&&(backToKw cpos (keywordEach [] X.env)).all (fun x=>x.1.isSome)
  &&decide ([e].length+([]:List Keyword).length+(if ([]:List Keyword).isEmpty then 0 else 1)<30))=true:=by exact cH rfl rfl)
  (hs:starEach [e] X.env=(false,eval e X.env)::starEach [] X.env:=by exact ac rfl) (hplain:(backTo cpos (starEach [] X.env)).any (·.1)=false:=by exact aj rfl) :
  PE X (.Call (.Attribute o "join" apos) [e] [] cpos) (tBM K "str" (yP K) to (yT te Bu)):=by
 subst hK
 exact dB PySem.F.plainAttrs_str PySem.F.slot_str_join PySem.F.type_str_join xW ho (ad he ag hs) hbase hfew hline hs hplain
end L2
namespace K6
open PySem L2
structure GX (mg:Str→Option Value):Prop where
 sum:mg "sum"=none
 abs:mg "abs"=none
 sorted:mg "sorted"=none
 min:mg "min"=none
theorem kZ:bootBuiltins "sum"=some (.builtin "sum"):=by decide +kernel
theorem mJ:bootBuiltins "abs"=some (.builtin "abs"):=by decide +kernel
theorem oP:bootBuiltins "sorted"=some (.builtin "sorted"):=by decide +kernel
theorem Bp:bootBuiltins "min"=some (.builtin "min"):=by decide +kernel
theorem sW:bootBuiltins "range"=some (.type "range"):=by decide +kernel
structure cp (r:Rm):Prop where
 a:-9≤r.a
 ab:r.a≤r.b
 b:r.b≤9
 c0:0≤r.c
 c:r.c≤3
 d:32≤r.d
 de:r.d≤r.e
 e:r.e≤126
def EVs:Str := " !\"#$&'()*+,-./0123456789:;<=>?@ABCDEFGHIJKLMNOPQRSTUVWXYZ[\\]^_`abcdefghijklmnopqrstuvwxyz{|}~"
def sgs (d e:Int):List Nat:=EVs.cps.toList.filter fun c=>decide (d≤(c:Int))&&decide ((c:Int)≤e)
def cC (n:Nat):Nat→Nat
 | 0=>1
 | c+1=>cC n c*n+1
theorem cY (n:Nat):∀ c,cC n (c+1)=cC n c+n ^ (c+1)
 | 0=>by simp [cC]; omega
 | c+1=>by
  have ih:=cY n c
  show cC n (c+1)*n+1=_
  conv=>lhs; rw [ih]
  rw [Nat.add_mul,← Nat.pow_succ]
  show cC n c*n+n ^ (c+1+1)+1=(cC n c*n+1)+_
  omega
theorem dQ (n:Nat) {c k:Nat} (h:c≤k):cC n c≤cC n k:=by
 induction k with
 | zero=>rw [Nat.le_zero.mp h]; exact Nat.le_refl _
 | succ k ih =>
  rcases Nat.lt_or_eq_of_le h with h | rfl
  ·rw [cY]
   have:=ih (by omega)
   omega
  ·exact Nat.le_refl _
def bu (r:Rm) (sort:Str):List PyData:=if sort=Str.ofString "text" then (sgs r.d r.e).map fun c=>.str ⟨#[c]⟩ else (intsFrom r.a (r.b+1 - r.a).toNat).map .int
def cnt (r:Rm) (sort:Str):Nat:=if sort=Str.ofString "num" then (r.b+1 - r.a).toNat else cC (bu r sort).length r.c.toNat
def PcD (sort:Str) (e:PyData):Prop:=(sort=Str.ofString "num"∧∃ i,e=.int i)∨(sort=Str.ofString "text"∧∃ z:Str,z.length≤3∧e=.str z∧su e=true)∨(sort=Str.ofString "row"∧∃ is:List Int,is.length≤3∧e=.tuple (is.map .int))
def lev (ws:List PyData):Nat→List (List PyData)
 | 0=>[[]]
 | i+1=>(lev ws i).flatMap fun l=>ws.map fun d=>l++[d]
def km (ws:List PyData):Nat→List (List PyData)
 | 0=>[[]]
 | i+1=>km ws i++lev ws (i+1)
theorem iy {α β:Type} {g:α→List β} {n:Nat}:∀ {l:List α},(∀ x∈l,(g x).length=n)→(l.flatMap g).length=l.length*n
 | [],_=>by simp
 | x::r,h=>by
  rw [List.flatMap_cons,List.length_append,h x List.mem_cons_self,iy fun y hy=>h y (List.mem_cons_of_mem _ hy),List.length_cons,Nat.succ_mul]
  omega
theorem kF (ws:List PyData):∀ i,(lev ws i).length=ws.length ^ i
 | 0=>rfl
 | i+1=>by
  unfold lev
  rw [iy (n:=ws.length) fun x _=>by simp,kF ws i,Nat.pow_succ]
theorem iU (ws:List PyData):∀ i,(km ws i).length=cC ws.length i
 | 0=>rfl
 | i+1=>by rw [cY,km,List.length_append,iU ws i,kF]
theorem kH {ws:List PyData}:∀ (i:Nat) {l:List PyData},l∈lev ws i→l.length=i∧∀ d∈l,d∈ws
 | 0,l,h=>by
  rw [List.mem_singleton.mp h]
  exact ⟨rfl,fun _ z=>nomatch z⟩
 | i+1,l,h=>by
  obtain ⟨m,hm,hl⟩:=List.mem_flatMap.mp h
  obtain ⟨d,hd,rfl⟩:=List.mem_map.mp hl
  have q:=kH i hm
  refine ⟨by simp [q.1],fun z hz=>?_⟩
  rcases List.mem_append.mp hz with hz | hz
  ·exact q.2 z hz
  ·rw [List.mem_singleton.mp hz]
   exact hd
theorem eV {ws:List PyData}:∀ (i:Nat) {l:List PyData},l∈km ws i→l.length≤i∧∀ d∈l,d∈ws
 | 0,l,h=>by
  rw [List.mem_singleton.mp h]
  exact ⟨Nat.le_refl _,fun _ z=>nomatch z⟩
 | i+1,l,h=>by
  rcases List.mem_append.mp h with h | h
  ·have q:=eV i h
   exact ⟨by omega,q.2⟩
  ·have q:=kH (i+1) h
   exact ⟨by omega,q.2⟩
def unS:PyData→Str
 | .str z=>z
 | _ => ""
def iO (l:List PyData):PyData:=.str (Str.join "" (l.map unS))
def dm (r:Rm) (sort:Str):List PyData:=if sort=Str.ofString "num" then (intsFrom r.a (r.b+1 - r.a).toNat).map .int else if sort=Str.ofString "row" then (km (bu r sort) r.c.toNat).map .tuple else (km (bu r sort) r.c.toNat).map iO
theorem dJ (r:Rm) (sort:Str):(dm r sort).length=cnt r sort:=by
 unfold dm cnt
 by_cases h:sort=Str.ofString "num"
 ·rw [if_pos h,if_pos h]
  simp [L2.intsFrom]
 ·rw [if_neg h,if_neg h]
  split<;>rw [List.length_map,iU]
theorem qC {H:Hp} {ns:List Int}:bd H (ns.map V.int) (ns.map .int):=by
 induction ns with
 | nil=>exact .nil
 | cons i r ih=>exact .cons (.int i) ih
theorem tj {H:Hp}:∀ {xs:List V} {is:List Int},bd H xs (is.map .int)→xs=is.map V.int
 | _,[],.nil=>rfl
 | _,i::is,.cons h r=>by cases h; rw [tj r]; rfl
theorem sk {ns:List Int}:∀ {l:List PyData},(∀ d∈l,d∈ns.map PyData.int)→∃ is:List Int,is.length=l.length∧l=is.map PyData.int
 | [],_=>⟨[],rfl,rfl⟩
 | d::l,h=>by
  obtain ⟨is,h1,h2⟩:=sk fun e he=>h e (List.mem_cons_of_mem _ he)
  obtain ⟨i,_,rfl⟩:=List.mem_map.mp (h d List.mem_cons_self)
  exact ⟨i::is,by simp [h1],by rw [h2]; rfl⟩
theorem gY {H:Hp} {d e:Int}:∀ {xs:List V} {l:List PyData},bd H xs l→(∀ z∈l,z∈(sgs d e).map fun c=>PyData.str ⟨#[c]⟩)→∃ ts:List Str,xs=ts.map V.str∧ts.length=l.length∧(∀ z∈ts,∃ c,c∈EVs.cps.toList∧z=⟨#[c]⟩)∧l=ts.map .str
 | _,_,.nil,_=>⟨[],rfl,rfl,(fun _ z=>nomatch z),rfl⟩
 | _,_,.cons (d:=d0) (ds:=l) q r,h=>by
  obtain ⟨ts,e1,e2,e3,e5⟩:=gY r fun e he=>h e (List.mem_cons_of_mem _ he)
  obtain ⟨c,hc,e4⟩:=List.mem_map.mp (h d0 List.mem_cons_self)
  subst e4
  cases q
  refine ⟨⟨#[c]⟩::ts,by rw [e1]; rfl,by simp [e2],fun z hz=>?_,by rw [e5]; rfl⟩
  rcases List.mem_cons.mp hz with rfl | hz
  ·exact ⟨c,(List.mem_filter.mp hc).1,rfl⟩
  ·exact e3 z hz
theorem xV:∀ c∈EVs.cps.toList,cR (c:Nat)=true:=by decide +kernel
theorem jb:∀ ts:List Str,(Str.join "" ts).cps.toList=ts.flatMap fun z=>z.cps.toList
 | []=>rfl
 | [x]=>by
  show x.cps.toList=_
  simp
 | x::y::r=>by
  show ((x.cps++(Str.ofString "").cps)++(Str.join "" (y::r)).cps).toList=_
  rw [Array.toList_append,Array.toList_append,jb (y::r)]
  show (x.cps.toList++[])++_=_
  rw [List.append_nil]
  rfl
theorem mS {ts:List Str} (h:∀ z∈ts,∃ c,c∈EVs.cps.toList∧z=⟨#[c]⟩):(Str.join "" ts).length=ts.length∧su (.str (Str.join "" ts))=true:=by
 have e:=jb ts
 refine ⟨?_,?_⟩
 ·show (Str.join "" ts).cps.size=_
  rw [← Array.length_toList,e]
  clear e
  induction ts with
  | nil=>rfl
  | cons z r ih =>
   obtain ⟨c,_,rfl⟩:=h z List.mem_cons_self
   rw [List.flatMap_cons,List.length_append,ih fun y hy=>h y (List.mem_cons_of_mem _ hy)]
   show 1+r.length=r.length+1
   omega
 ·show (Str.join "" ts).cps.toList.all _=true
  rw [e,List.all_eq_true]
  intro c hc
  obtain ⟨z,hz,hcz⟩:=List.mem_flatMap.mp hc
  obtain ⟨c',h1,rfl⟩:=h z hz
  have:c=c':=by simpa using hcz
  subst this
  exact xV c h1
theorem xL {ts:List Str} (h:∀ z∈ts,∃ c,c∈EVs.cps.toList∧z=⟨#[c]⟩):jl "" ts=ts.length:=by
 have:(ts.map (·.length)).sum=ts.length:=by
  induction ts with
  | nil=>rfl
  | cons z r ih =>
   obtain ⟨c,_,rfl⟩:=h z List.mem_cons_self
   rw [List.map_cons,List.sum_cons,ih fun y hy=>h y (List.mem_cons_of_mem _ hy)]
   show 1+r.length=r.length+1
   omega
 unfold jl
 rw [this]
 show _+ts.length*0=_
 omega
section
variable {P:Program} {w:World} {K:Frag} {mg:Str→Option Value} {base:Heap} {f g:Addr} {fd gd:FuncData}
abbrev kA:List Str:=["_law_room_here", "_law_sort", "_law_numbers", "_law_every", "_law_found", "_law_last", "_law_k", "_law_longer", "_law_row"]
abbrev lj:List Str:=["_law_signs"]
theorem pS:lj.Nodup:=by decide +kernel
abbrev lT:List Str:=["_law_one", "_law_row"]
theorem oZ:lT.Nodup:=by decide +kernel
abbrev lO:List Str:=["_law_sign", "_law_room_here"]
theorem pM:lO.Nodup:=by decide +kernel
theorem cy:aF kA ["_law_room_here", "_law_sort"] (defScope hU):=⟨rfl,rfl,rfl,by decide +kernel,rfl,by decide +kernel,by decide +kernel⟩
abbrev pAl:List Str:=["_law_room_here", "_law_sort"]
def yC:Sp:=fun vs H Q _=>∃ rv r sort,vs=[rv,.str sort]∧jH H rv r∧cp r∧sort∈PL∧cnt r sort≤60∧∀ l ys H',av H H'→H l=none→H' l=some (.lst ys)→bd H' ys (dm r sort)→Q (.ref l) H'
theorem zB (T:G0 mg) (F:Fun K "_law_all" "_law_all" hU f fd):bg P w K mg base CX0 1 f fd pAl yC:=by
 refine F.ok cy (fun vs H Q E h=>?_) (fun cdv A outer s H vs Q E hr h=>?_)
 ·obtain ⟨rv,r,sort,rfl,_⟩:=h
  rfl
 obtain ⟨rv,r,sort,rfl,⟨rp,rfl,hrp⟩,hok,hso,hcn,q⟩:=h
 refine ⟨_,(@al _ _ _ _ _ (@aB _ _ 2 _ _ _ _ cy.nd rfl (Or.inl rfl) (@aX _ _ _ _ _ _ _ _ _ (lc rfl) rfl T.list nT (@ad _ _ _ _ _ (@aX _ _ _ _ _ _ _ _ _ nA rfl T.range sW (@ad _ _ _ _ _ (@ay _ _ _ _ _ _ _ aL (pv 0) ak (fun _ _=>rfl)) (@ad _ _ _ _ _ (@aG _ _ _ _ _ _ _ _ bB (@ay _ _ _ _ _ _ _ aL (pv 0) ak (fun _ _=>rfl)) ak) ag (ac rfl)) (ac rfl)) (by decide) (by decide) (ac rfl) (aj rfl)) ag (ac rfl)) (by decide) (by decide) (ac rfl) (aj rfl)) (ao rfl) (.inr rfl)) (@al _ _ _ _ _ (@bU _ _ _ _ _ _ _ _ (@aQ _ _ _ _ _ _ _ _ dC (pv 1) aN (bo _)) (@ap _ _ _ (@aD _ _ _ _ (pv 2))) bh) (@al _ _ _ _ _ (@bU _ _ _ _ _ _ _ _ (@aQ _ _ _ _ _ _ _ _ dC (pv 1) aN (bo _)) (@al _ _ _ _ _ (@aB _ _ 3 _ _ _ _ cy.nd rfl (Or.inl rfl) aN (ao rfl) (.inr rfl)) (@ap _ _ _ (sT (i:=2) (N':=lO) (ρ:=[none,some 0]) (m:=1) (bt.of (fs:=defScope hU) (N:=kA) rfl rfl (by decide +kernel)) cy.nd rfl (Or.inl rfl) rfl (uw (pv 3)) (fun _ _ _ _=>(au (i:=0) pM rfl (Or.inl rfl))) (fun _ _ _ _=>(iF (wg sf sf (ay (cK (K:=K) rfl) (pv 1) ak (fun _ _=>rfl)) (aA uK rfl T.ord AL (ad (pv 0) ag)) (ay (cK (K:=K) rfl) (pv 1) ak (fun _ _=>rfl))))) (fun _ _ _ _=>(pv 0))))) bh) (@al _ _ _ _ _ (@aB _ _ 4 _ _ _ _ cy.nd rfl (Or.inl rfl) (@aR _ _ _ _ (@ad _ _ _ _ _ (@aW _ _ _ _ _ ag) ag (ac rfl))) (ao rfl) (.inr rfl)) (@al _ _ _ _ _ (@aB _ _ 5 _ _ _ _ cy.nd rfl (Or.inl rfl) (@aR _ _ _ _ (@ad _ _ _ _ _ (@aW _ _ _ _ _ ag) ag (ac rfl))) (ao rfl) (.inr rfl)) (@al _ _ _ _ _ (@bn _ _ _ _ _ _ _ _ PassesOwn.never rfl (cD rfl T.range (@ad _ _ _ _ _ (@ay _ _ _ _ _ _ _ aL (pv 0) ak (fun _ _=>rfl)) ag (ac rfl))) (au (i:=6) cy.nd rfl (Or.inl rfl)) (@al _ _ _ _ _ (@aB _ _ 7 _ _ _ _ cy.nd rfl (Or.inl rfl) (@aR _ _ _ _ ag) (ao rfl) (.inr rfl)) (@al _ _ _ _ _ (@bn _ _ _ _ _ _ _ _ PassesOwn.never rfl (aZ (pv 5)) (au (i:=8) cy.nd rfl (Or.inr rfl)) (@ap _ _ _ (@bY _ _ _ _ (@dB _ _ _ _ _ _ _ _ _ _ _ _ PySem.F.plainAttrs_list PySem.F.slot_list_extend PySem.F.type_list_extend dO (pv 7) (@ad _ _ _ _ _ (be (N':=lT) (ρ:=[none,some 8]) (m:=1) (bt.of (fs:=defScope hU) (N:=kA) rfl rfl (by decide +kernel)) rfl (aZ (pv 2)) (fun _ _ _ _=>(au (i:=0) oZ rfl (Or.inl rfl))) (fun _ _ _ _=>bq) (fun _ _ _ _=>(aG (gJ (K:=K) rfl) (pv 1) (aW (ad (pv 0) ag))))) ag (ac rfl)) rfl (cH rfl rfl) rfl (ac rfl) (aj rfl)) (ao rfl))) (fun _=>rfl)) (@al _ _ _ _ _ (@aB _ _ 5 _ _ _ _ cy.nd rfl (Or.inl rfl) (pv 7) (ao rfl) (.inr rfl)) (@ap _ _ _ (@aB _ _ 4 _ _ _ _ cy.nd rfl (Or.inl rfl) (@aG _ _ _ _ _ _ _ _ ml (pv 4) (pv 7)) (ao rfl) (.inr rfl)))))) (fun _=>rfl)) (@ap _ _ _ (@aD _ _ _ _ (@gb _ _ _ _ _ _ _ _ (@aQ _ _ _ _ _ _ _ _ dC (pv 1) aN (bo _)) (pv 4) (be (N':=lj) (ρ:=[none]) (m:=1) (bt.of (fs:=defScope hU) (N:=kA) rfl rfl (by decide +kernel)) rfl (aZ (pv 4)) (fun _ _ _ _=>(au (i:=0) pS rfl (Or.inl rfl))) (fun _ _ _ _=>bq) (fun _ _ _ _=>(vS (K:=K) rfl aN (pv 0))))))))))))),?_⟩
 have o1:=hok.a
 have o2:=hok.ab
 have o3:=hok.b
 refine ⟨_,rfl,rp,_,_,_,rfl,rfl,SqT.of hrp,rfl,_,rfl,rp,_,_,_,rfl,rfl,SqT.of hrp,rfl,_,_,rfl,rfl,?_⟩
 refine ⟨_,_,rfl,fun p0 hp0=>?_⟩
 have g0:=af hp0 (.rng r.a (r.b+1))
 refine ⟨p0,_,_,rfl,ae,by omega,by omega,by omega,fun nl hnl=>?_⟩
 have g1:=g0.trans (af hnl (.lst ((intsFrom r.a (r.b+1 - r.a).toNat).map V.int)))
 have hn1:(upd (upd H p0 (.rng r.a (r.b+1))) nl (.lst ((intsFrom r.a (r.b+1 - r.a).toNat).map V.int))) nl=_:=ae
 generalize (upd (upd H p0 (.rng r.a (r.b+1))) nl (.lst ((intsFrom r.a (r.b+1 - r.a).toNat).map V.int)))=H1 at g1 hn1
 refine ⟨_,rfl,rfl,_,rfl,?_⟩
 refine bO (fun c1=>?_) (fun c1=>?_)
 ·have ek:=eqS c1
  subst ek
  refine ⟨_,rfl,q nl _ H1 g1 (g0.free hnl) hn1 ?_⟩
  unfold dm
  rw [if_pos rfl]
  exact qC
 have n1:=neS c1
 dsimp only [wV]
 refine eW (fun σ H2=>∃ nv m3 ns,σ=[some (.ref rp),some (.str sort),some (.ref nv),m3,none,none,none,none,none]∧av H H2∧H2 nv=some (.lst ns)∧bd H2 ns (bu r sort)) (fun NX hNX=>?_) (fun σ H2 jj=>?_)
 ·refine ⟨_,rfl,rfl,_,rfl,?_⟩
  refine bO (fun c2=>?_) (fun c2=>?_)
  ·have ek:=eqS c2
   refine ⟨_,rfl,EVs,rfl,oW EVs.cps.size rfl (by decide +kernel) (fun i acc H'=>H'=H1∧acc=((EVs.cps.toList.take i).filter fun c=>decide (r.d≤((c:Nat):Int))&&decide (((c:Nat):Int)≤r.e)).map fun c:Nat=>V.str ⟨#[c]⟩) ⟨rfl,rfl⟩ (fun i acc H' c hi la hc p=>?_) (fun acc H' p la D hD=>?_)⟩
   ·obtain ⟨rfl,rfl⟩:=p
    have hp:=g1 _ _ hrp
    have step:EVs.cps.toList.take (i+1)=EVs.cps.toList.take i++[c]:=by
     rw [List.take_add_one,show EVs.cps.toList[i]?=some c by simpa using hc]
     rfl
    refine ⟨⟨rfl,rfl⟩,?_⟩
    refine ⟨_,rfl,_,_,_,_,rfl,rfl,SqT.of hp,rfl,_,rfl,_,rfl,rfl,_,_,rfl,rfl,_,rfl,?_⟩
    refine bO (fun c3=>?_) (fun c3=>?_)
    ·have c3':decide (r.d≤((c:Nat):Int))=true:=c3
     refine ⟨_,rfl,_,_,_,_,rfl,rfl,SqT.of hp,rfl,_,_,rfl,rfl,_,rfl,?_⟩
     refine bO (fun c4=>?_) (fun c4=>?_)
     ·have c4':decide (((c:Nat):Int)≤r.e)=true:=c4
      refine ⟨_,rfl,nxT (by decide +kernel) hi la ⟨rfl,?_⟩⟩
      rw [step,List.filter_append,List.map_append,List.filter_cons,if_pos (by rw [c3',c4']; rfl)]
      rfl
     ·have c4':decide (((c:Nat):Int)≤r.e)=false:=Bool.eq_false_iff.mpr c4
      refine nxF hi la ⟨rfl,?_⟩
      rw [step,List.filter_append,List.map_append,List.filter_cons,if_neg (by rw [c4']; simp)]
      simp
    ·have c3':decide (r.d≤((c:Nat):Int))=false:=Bool.eq_false_iff.mpr c3
     refine ⟨_,rfl,om (nxF hi la ⟨rfl,?_⟩)⟩
     rw [step,List.filter_append,List.map_append,List.filter_cons,if_neg (by rw [c3']; simp)]
     simp
   ·obtain ⟨rfl,rfl⟩:=p
    have gD:=af hD (.lst (((EVs.cps.toList.take EVs.cps.size).filter fun c=>decide (r.d≤((c:Nat):Int))&&decide (((c:Nat):Int)≤r.e)).map fun c:Nat=>V.str ⟨#[c]⟩))
    refine hNX _ _ ⟨D,_,_,rfl,g1.trans gD,ae,?_⟩
    unfold bu
    rw [if_pos ek,← Array.length_toList,List.take_length]
    show bd _ ((sgs r.d r.e).map _) _
    generalize sgs r.d r.e=l
    induction l with
    | nil=>exact .nil
    | cons c l ih=>exact .cons (.str _) ih
  ·have n2:=neS c2
   refine hNX _ _ ⟨nl,_,_,rfl,g1,hn1,?_⟩
   unfold bu
   rw [if_neg n2]
   exact qC
 obtain ⟨nv,m3,ns,rfl,G2,hnv,hks⟩:=jj
 have ecn:cnt r sort=cC (bu r sort).length r.c.toNat:=by unfold cnt; rw [if_neg n1]
 rw [ecn] at hcn
 have lns:=aO hks
 have lvl:=kF (bu r sort)
 have upl:=iU (bu r sort)
 generalize hN:(bu r sort).length=N at hcn lns lvl upl
 have oc:=hok.c0
 have oc3:=hok.c
 have lN:1≤r.c.toNat→N≤60:=fun h=>by
  have:=dQ N h
  rw [cY N 0] at this
  simp at this
  omega
 refine ⟨(by show 0≤sizeLine; decide),fun p1 h1=>⟨(by show 1≤sizeLine; decide),fun fl hfl=>⟨(by show 0≤sizeLine; decide),fun p2 h2=>⟨(by show 1≤sizeLine; decide),fun ll hll=>?_⟩⟩⟩⟩
 have s1:=af h1 (.tup [])
 have s2:=af hfl (.lst [.ref p1])
 have s3:=af h2 (.tup [])
 have s4:=af hll (.lst [.ref p2])
 have S4:=((s1.trans s2).trans s3).trans s4
 have ef:_=some (HO.lst [.ref p1]):=s4 _ _ (s3 _ _ ae)
 have e1:_=some (HO.tup []):=s4 _ _ (s3 _ _ (s2 _ _ ae))
 have e2:_=some (HO.tup []):=s4 _ _ ae
 have el:_=some (HO.lst [.ref p2]):=ae (H:=upd (upd (upd H2 p1 (.tup [])) fl (.lst [.ref p1])) p2 (.tup [])) (a:=ll)
 have fr0:H fl=none:=(G2.trans s1).free hfl
 generalize (upd (upd (upd (upd H2 p1 (.tup [])) fl (.lst [.ref p1])) p2 (.tup [])) ll (.lst [.ref p2]))=H3 at S4 ef e1 e2 el
 have G3:=G2.trans S4
 have hrp3:=G3 _ _ hrp
 refine ⟨_,rfl,rp,_,_,_,rfl,rfl,SqT.of hrp3,rfl,r.c,rfl,by omega,by omega,cV (n:=r.c.toNat) (fun i σ H'=>∃ fl ll m6 m7 m8 xs ys,σ=[some (.ref rp),some (.str sort),some (.ref nv),m3,some (.ref fl),some (.ref ll),m6,m7,m8]∧av H3 H'∧H fl=none∧H' fl=some (.lst xs)∧H' ll=some (.lst ys)∧bd H' xs ((km (bu r sort) i).map .tuple)∧bd H' ys ((lev (bu r sort) i).map .tuple)) ⟨fl,ll,_,_,_,_,_,rfl,av.refl _,fr0,ef,el,.cons (.tup e1 .nil) .nil,.cons (.tup e2 .nil) .nil⟩ (fun i σ H' hi p=>?_) (fun σ H' p=>?_)⟩
 ·obtain ⟨fl,ll,m6,m7,m8,xs,ys,rfl,S,fr,hf,hl,kes,kgs⟩:=p
  have N40:=lN (by omega)
  have lys:=aO kgs
  rw [List.length_map,lvl i] at lys
  have b1:cC N (i+1)≤60:=Nat.le_trans (dQ N (by omega)) hcn
  rw [cY] at b1
  refine ⟨(by show 0≤sizeLine; decide),fun t ht=>?_⟩
  have st:=af ht (.lst [])
  have S5:=S.trans st
  have htt:(upd H' t (.lst [])) t=some (.lst []):=ae
  have hf5:=st _ _ hf
  have hl5:=st _ _ hl
  have nf:fl≠t:=aq hf ht
  have nlt:ll≠t:=aq hl ht
  have kgs5:=kgs.mono (ah st)
  have kes5:=kes.mono (ah st)
  have frt:H t=none:=(G3.trans S).free ht
  generalize (upd H' t (.lst []))=H5 at S5 htt hf5 hl5 kgs5 kes5
  refine ⟨_,rfl,ll,rfl,⟨ys,SqL.of hl5⟩,bK (xs:=ys) (fun j σ H6=>∃ m8 zs,σ=[some (.ref rp),some (.str sort),some (.ref nv),m3,some (.ref fl),some (.ref ll),some (.int (0+(i:Int))),some (.ref t),m8]∧Ext t H5 H6∧H6 t=some (.lst zs)∧bd H6 zs ((((lev (bu r sort) i).take j).flatMap fun l=>(bu r sort).map fun d=>l++[d]).map .tuple)) ⟨_,[],rfl,Ext.refl _ _,htt,.nil⟩ (fun j σ H6 _ p=>?_) (fun j x σ H6 hx p=>?_) (fun σ H6 p=>?_)⟩
  ·obtain ⟨_,_,_,x6,_⟩:=p
   exact SqL.of (x6 _ _ nlt hl5)
  ·obtain ⟨m8',zs,rfl,x6,hz,khs⟩:=p
   obtain ⟨e,he,ke⟩:=cg kgs5 j x hx
   rw [List.getElem?_map] at he
   obtain ⟨l,hlj,rfl⟩:=Option.map_eq_some_iff.mp he
   have ll1:=(kH i (List.mem_of_getElem? hlj)).1
   have k6:=aY x6 htt
   have ke6:=ke.mono k6
   have hj:j<N ^ i:=by
    rw [← lys]
    exact (List.getElem?_eq_some_iff.mp hx).1
   have lz0:zs.length=j*N:=by
    rw [aO khs,List.length_map,iy (n:=N) fun x _=>by simp [hN],List.length_take,lvl i,Nat.min_eq_left (by omega)]
   have szz:j*N+N≤N ^ (i+1):=by
    rw [Nat.pow_succ,← Nat.succ_mul]
    exact Nat.mul_le_mul_right _ hj
   cases ke6 with
   | @tup xa xl _ hxa kxl =>
    have lxl:=aO kxl
    have hnv6:H6 nv=some (.lst ns):=x6 _ _ (aq hnv (S4.free (S.free ht))) (S5 _ _ (S4 _ _ hnv))
    have hns6:=(hks.mono (ah (S4.trans S5))).mono k6
    refine ⟨_,rfl,.inl ⟨rfl,_,SqL.of hz⟩,_,rfl,nv,rfl,⟨ns,SqL.of hnv6⟩,bF (xs:=ns) ns.length rfl (by omega) (fun jj acc H7=>av H6 H7∧bd H7 acc ((((bu r sort).take jj).map fun d=>l++[d]).map .tuple)) ⟨av.refl _,.nil⟩ (fun jj acc H7 p=>SqL.of (p.1 _ _ hnv6)) (fun jj acc H7 y hjj la hy p=>?_) (fun acc H7 p la D hD=>?_)⟩
    ·obtain ⟨g7,kks⟩:=p
     obtain ⟨d,hd,kd⟩:=cg hns6 jj y hy
     have hxa7:=g7 _ _ hxa
     have fin:∀ (u:V) (H8:Hp),av H7 H8→KAt H8 u (.tuple (l++[d]))→av H6 H8∧bd H8 (acc++[u]) ((((bu r sort).take (jj+1)).map fun d=>l++[d]).map .tuple):=by
      intro u H8 g8 ku
      refine ⟨g7.trans g8,?_⟩
      rw [List.take_add_one,hd,Option.toList_some,List.map_append,List.map_append]
      exact bC (kks.mono (ah g8)) (.cons ku .nil)
     refine ⟨⟨rfl,rfl⟩,bp ?_⟩
     refine ⟨_,rfl,_,rfl,(by show 1≤sizeLine; decide),fun q1 hq1=>?_⟩
     have g8:=af hq1 (.tup [y])
     have ky:=kd.mono (ah (g7.trans g8))
     by_cases cx:xl=[]
     ·subst cx
      have:l=[]:=List.eq_nil_of_length_eq_zero (by rw [← lxl]; rfl)
      subst this
      exact .inr ⟨xa,q1,[y],rfl,rfl,SqT.of (g8 _ _ hxa7),SqT.of ae,nxT (by omega) hjj la (fin (.ref q1) _ g8 (.tup ae (.cons ky .nil)))⟩
     ·refine .inl ⟨xa,q1,xl,[y],rfl,rfl,SqT.of (g8 _ _ hxa7),SqT.of ae,cx,Nat.le_of_lt (aC (by simp; omega)),fun z=>absurd z (by simp),fun _ q3 hq3=>?_⟩
      have g9:=af hq3 (.tup (xl++[y]))
      exact nxT (by omega) hjj la (fin (.ref q3) _ (g8.trans g9) (.tup ae (bC ((kxl.mono (ah g7)).mono (ah (g8.trans g9))) (.cons (ky.mono (ah g9)) .nil))))
    ·obtain ⟨g7,kks⟩:=p
     rw [lns,← hN,List.take_length] at kks
     have lac:=aO kks
     rw [List.length_map,List.length_map,hN] at lac
     have gD:=af hD (.lst acc)
     have htD:=gD _ _ (g7 _ _ hz)
     have kt:=cj htD (.lst (zs++acc))
     refine ⟨t,D,zs,acc,rfl,rfl,htD,ae,Nat.le_of_lt (aC (by omega)),?_⟩
     refine ⟨_,zs++acc,rfl,(x6.trans (av.ext (g7.trans gD))).trans Ext.upd,ae,?_⟩
     rw [List.take_add_one,hlj,Option.toList_some,List.flatMap_append,List.flatMap_singleton,List.map_append]
     exact bC ((khs.mono (ah (g7.trans gD))).mono kt) ((kks.mono (ah gD)).mono kt)
  ·obtain ⟨m8',zs,rfl,x6,hz,khs⟩:=p
   have k6:=aY x6 htt
   have elv:(lev (bu r sort) i).take ys.length=lev (bu r sort) i:=List.take_of_length_le (by rw [lvl i,lys]; exact Nat.le_refl _)
   rw [elv] at khs
   have lz:=aO khs
   have lx:=aO kes
   rw [List.length_map,upl i] at lx
   have lhs:zs.length=N ^ (i+1):=by rw [lz,List.length_map]; exact lvl (i+1)
   refine ⟨_,rfl,_,rfl,_,rfl,fl,t,xs,zs,rfl,rfl,x6 _ _ nf hf5,hz,Nat.le_of_lt (aC (by omega)),fun nf2 hnf2=>?_⟩
   have g7:=af hnf2 (.lst (xs++zs))
   have S7:av H3 (upd H6 nf2 (.lst (xs++zs))):=fun b o e=>g7 _ _ (x6 _ _ (aq e (S.free ht)) (S5 _ _ e))
   refine ⟨nf2,t,_,_,_,xs++zs,zs,rfl,S7,?_,ae,g7 _ _ hz,?_,khs.mono (ah g7)⟩
   ·cases e9:H nf2 with
    | none=>rfl
    | some o =>
     have a1:=G3 _ _ e9
     have a2:=x6 _ _ (aq a1 (S.free ht)) (S5 _ _ a1)
     rw [hnf2] at a2
     cases a2
   ·rw [km,List.map_append]
    exact bC ((kes5.mono k6).mono (ah g7)) (khs.mono (ah g7))
 ·obtain ⟨fl,ll,m6,m7,m8,xs,ys,rfl,S,fr,hf,hl,kes,kgs⟩:=p
  have lxs:=aO kes
  have lup:xs.length=cC N r.c.toNat:=by rw [lxs,List.length_map,upl]
  refine ⟨_,rfl,rfl,_,rfl,?_⟩
  refine bO (fun c5=>?_) (fun c5=>?_)
  ·have ek:=eqS c5
   refine ⟨_,rfl,q fl xs H' (G3.trans S) fr hf ?_⟩
   unfold dm
   rw [if_neg n1,if_pos ek]
   exact kes
  ·have n5:=neS c5
   have et:sort=Str.ofString "text":=by
    rcases List.mem_cons.mp hso with e | z
    ·exact absurd e n1
    rcases List.mem_cons.mp z with e | z
    ·exact e
    ·exact absurd (List.mem_singleton.mp z) n5
   have eo:bu r sort=(sgs r.d r.e).map fun c=>.str ⟨#[c]⟩:=by
    unfold bu
    rw [if_pos et]
   refine ⟨_,rfl,fl,rfl,⟨xs,SqL.of hf⟩,bF (xs:=xs) xs.length rfl (by omega) (fun jj acc H7=>H7=H'∧bd H7 acc (((km (bu r sort) r.c.toNat).take jj).map iO)) ⟨rfl,.nil⟩ (fun jj acc H7 p=>SqL.of (p.1 ▸ hf)) (fun jj acc H7 x hjj la hx p=>?_) (fun acc H7 p la D hD=>?_)⟩
   ·obtain ⟨rfl,kks⟩:=p
    obtain ⟨e,he,ke⟩:=cg kes jj x hx
    rw [List.getElem?_map] at he
    obtain ⟨l,hlj,rfl⟩:=Option.map_eq_some_iff.mp he
    obtain ⟨l1,lm⟩:=eV _ (List.mem_of_getElem? hlj)
    rw [eo] at lm
    cases ke with
    | @tup xa xl _ hxa kxl =>
     obtain ⟨ts,rfl,lt,hts,elt⟩:=gY kxl lm
     refine ⟨⟨rfl,rfl⟩,bp ?_⟩
     refine ⟨rfl,_,rfl,_,xa,ts,rfl,rfl,.inr (SqT.of hxa),?_,nxT (by omega) hjj la ⟨rfl,?_⟩⟩
     ·exact Nat.le_of_lt (aC (by have:=xL hts; omega))
     ·rw [List.take_add_one,hlj,Option.toList_some,List.map_append]
      refine bC kks (.cons ?_ .nil)
      unfold iO
      rw [elt,List.map_map,show (unS ∘ PyData.str)=id from rfl,List.map_id]
      exact .str _
   ·obtain ⟨rfl,kks⟩:=p
    have gD:=af hD (.lst acc)
    refine q D acc _ ((G3.trans S).trans gD) ((G3.trans S).free hD) ae ?_
    unfold dm
    rw [if_neg n1,if_neg n5]
    rw [List.take_of_length_le (by rw [lup,upl]; exact Nat.le_refl _)] at kks
    exact kks.mono (ah gD)
end
end K6
namespace L2
theorem bg.or {P:PySem.Program} {w:PySem.World} {K:Frag} {mg:PySem.Str→Option PySem.Value} {base:PySem.Heap} {CX:CXT} {k:Nat} {f:PySem.Addr} {fd:PySem.FuncData} {ps:List PySem.Str} {sp sp':Sp} (F:bg P w K mg base CX k f fd ps sp) (G:bg P w K mg base CX k f fd ps sp'):bg P w K mg base CX k f fd ps (fun vs H Q E=>sp vs H Q E∨sp' vs H Q E) :=
 ⟨fun vs H Q E q=>q.elim (F.len vs H Q E) (G.len vs H Q E),fun A outer s H args us vs Q E hr he hb hv hs=>hs.elim (F.run A outer s H args us vs Q E hr he hb hv) (G.run A outer s H args us vs Q E hr he hb hv)⟩
theorem mK {X:Cx} {K:Frag} (h:X.K=K):bJ X (.builtin "isinstance") (AG K):=h ▸ eY
end L2
namespace K6
open PySem L2
abbrev fY (i:Int):Int:=if i<0 then -i else i
def szI:PyData→Int
 | .int i=>fY i
 | _=>0
def szD:PyData→Int
 | .int i=>fY i
 | .str z=>(z.length:Nat)
 | .tuple ds=>(ds.length:Nat)+(ds.map szI).sum
 | _=>0
theorem wQ (is:List Int):szD (.tuple (is.map .int))=(is.length:Nat)+(is.map fY).sum:=by
 show ((is.map PyData.int).length:Int)+((is.map PyData.int).map szI).sum=_
 rw [List.length_map,List.map_map]
 rfl
theorem sG {sp:Sp} {H:Hp} {v:V} {d:PyData} {sort:Str} {Q:VK} {E:XK} (hk:KAt H v d) (hp:PcD sort d) (q:∀ H',av H H'→Q (.int (szD d)) H')
  (h1:∀ i,v=.int i→(∀ H',av H H'→Q (.int (fY i)) H')→sp [v] H Q E)
  (h2:∀ a (is:List Int),v=.ref a→H a=some (.tup (is.map V.int))→is.length≤3→(∀ H',av H H'→Q (.int ((is.length:Nat)+(is.map fY).sum)) H')→sp [v] H Q E)
  (h3:∀ z:Str,v=.str z→z.length≤3→(∀ H',av H H'→Q (.int (z.length:Nat)) H')→sp [v] H Q E):sp [v] H Q E:=by
 rcases hp with ⟨_,i,rfl⟩ | ⟨_,z,hz,rfl,_⟩ | ⟨_,is,hi,rfl⟩
 ·cases hk
  exact h1 i rfl q
 ·cases hk
  exact h3 z rfl hz q
 ·cases hk with
  | @tup a xs _ ha ks =>
   rw [wQ] at q
   exact h2 a is rfl (by rw [ha,tj ks]) hi q
section
variable {P:Program} {w:World} {K:Frag} {mg:Str→Option Value} {base:Heap} {f g:Addr} {fd gd:FuncData}
abbrev lZ:List Str:=["_law_value"]
abbrev gs:List Str:=["_law_one"]
theorem jf:gs.Nodup:=by decide +kernel
theorem nE:aF lZ ["_law_value"] (defScope dX):=⟨rfl,rfl,rfl,by decide +kernel,rfl,by decide +kernel,by decide +kernel⟩
def sY:Sp:=fun vs H Q _=>∃ v,vs=[v]∧((∃ i,v=.int i∧∀ H',av H H'→Q (.int (fY i)) H')∨∃ a,∃ is:List Int,v=.ref a∧H a=some (.tup (is.map V.int))∧is.length≤3∧∀ H',av H H'→Q (.int ((is.length:Nat)+(is.map fY).sum)) H')
def sD:Sp:=fun vs H Q _=>∃ z:Str,vs=[.str z]∧z.length≤3∧∀ H',av H H'→Q (.int (z.length:Nat)) H'
theorem xp (T:G0 mg) (TX:GX mg) (F:Fun K "_law_size" "_law_size" dX f fd):bg P w K mg base CX0 1 f fd ["_law_value"] sY:=by
 refine F.ok nE (fun vs H Q E h=>?_) (fun cdv A outer s H vs Q E hr h=>?_)
 ·obtain ⟨v,rfl,_⟩:=h
  rfl
 obtain ⟨v,rfl,hv⟩:=h
 refine ⟨_,(@al _ _ _ _ _ (@bU _ _ _ _ _ _ _ _ (fH (@aA _ _ _ _ _ _ _ _ _ eY rfl T.isi lL (@ad _ _ _ _ _ (pv 0) (@ad _ _ _ _ _ (fQ (v:=.ty "int") rfl T.int mo rfl) ag (ac rfl)) (ac rfl)) (by decide) (by decide) (ac rfl) (aj rfl))) (@ap _ _ _ (@aD _ _ _ _ (@aA _ _ _ _ _ _ _ _ _ eZ rfl TX.abs mJ (@ad _ _ _ _ _ (pv 0) ag (ac rfl)) (by decide) (by decide) (ac rfl) (aj rfl)))) bh) (@ap _ _ _ (@aD _ _ _ _ (@aG _ _ _ _ _ _ _ _ bB (@aA _ _ _ _ _ _ _ _ _ (bJ.or aU dN) rfl T.len eC (@ad _ _ _ _ _ (pv 0) ag (ac rfl)) (by decide) (by decide) (ac rfl) (aj rfl)) (@aA _ _ _ _ _ _ _ _ _ (dU rfl) rfl TX.sum kZ (@ad _ _ _ _ _ (be (N':=gs) (ρ:=[none]) (m:=1) (bt.of (fs:=defScope dX) (N:=lZ) rfl rfl (by decide +kernel)) rfl (cG (pv 0)) (fun _ _ _ _=>(au (i:=0) jf rfl (Or.inl rfl))) (fun _ _ _ _=>(iF (fH (aA (mK (K:=K) rfl) rfl T.isi lL (ad (pv 0) (ad (fQ (v:=.ty "int") rfl T.int mo rfl) ag)))))) (fun _ _ _ _=>(aA eZ rfl TX.abs mJ (ad (pv 0) ag)))) ag (ac rfl)) (by decide) (by decide) (ac rfl) (aj rfl)))))),?_⟩
 rcases hv with ⟨i,rfl,q⟩ | ⟨a,is,rfl,ha,li,q⟩
 ·refine ⟨_,rfl,_,_,_,true,rfl,.int i,rfl,_,rfl,ww ?_⟩
  exact ⟨_,rfl,i,rfl,q _ (av.refl _)⟩
 ·refine ⟨_,rfl,_,_,_,false,rfl,.tup ha,rfl,_,rfl,om ?_⟩
  refine ⟨_,rfl,.inl ⟨a,_,rfl,.inr (SqT.of ha),?_⟩⟩
  refine ⟨_,rfl,a,rfl,⟨_,SqT.of ha⟩,cO (xs:=is.map V.int) is.length (by simp) (by omega) (fun i acc H'=>H'=H∧acc=((is.take i).map fY).map V.int) ⟨rfl,rfl⟩ (fun i acc H' p=>by rw [p.1]; exact SqT.of ha) (fun i acc H' x hi la hx p=>?_) (fun acc H' p la D hD=>?_)⟩
  ·obtain ⟨rfl,rfl⟩:=p
   rw [List.getElem?_map] at hx
   obtain ⟨j,hj,rfl⟩:=Option.map_eq_some_iff.mp hx
   refine ⟨⟨rfl,rfl⟩,?_⟩
   refine ⟨_,rfl,_,_,_,true,rfl,.int j,rfl,_,rfl,ww ?_⟩
   refine ⟨_,rfl,j,rfl,nxT (by omega) hi la ⟨rfl,?_⟩⟩
   rw [List.take_add_one,hj,Option.toList_some,List.map_append,List.map_append]
   rfl
  ·obtain ⟨rfl,rfl⟩:=p
   refine ⟨D,(is.take is.length).map fY,rfl,SqL.of ae,_,_,rfl,rfl,?_⟩
   rw [List.length_map,List.take_length]
   exact q _ (af hD _)
theorem vf (T:G0 mg) (TX:GX mg) (F:Fun K "_law_size" "_law_size" dX f fd):bg P w K mg base CX0 1 f fd ["_law_value"] sD:=by
 refine F.ok nE (fun vs H Q E h=>?_) (fun cdv A outer s H vs Q E hr h=>?_)
 ·obtain ⟨v,rfl,_⟩:=h
  rfl
 obtain ⟨z,rfl,hz,q⟩:=h
 refine ⟨_,(@al _ _ _ _ _ (@bU _ _ _ _ _ _ _ _ (fH (@aA _ _ _ _ _ _ _ _ _ eY rfl T.isi lL (@ad _ _ _ _ _ (pv 0) (@ad _ _ _ _ _ (fQ (v:=.ty "int") rfl T.int mo rfl) ag (ac rfl)) (ac rfl)) (by decide) (by decide) (ac rfl) (aj rfl))) (@ap _ _ _ (@aD _ _ _ _ (@aA _ _ _ _ _ _ _ _ _ eZ rfl TX.abs mJ (@ad _ _ _ _ _ (pv 0) ag (ac rfl)) (by decide) (by decide) (ac rfl) (aj rfl)))) bh) (@ap _ _ _ (@aD _ _ _ _ (@aG _ _ _ _ _ _ _ _ bB (@aA _ _ _ _ _ _ _ _ _ (bJ.or aU dN) rfl T.len eC (@ad _ _ _ _ _ (pv 0) ag (ac rfl)) (by decide) (by decide) (ac rfl) (aj rfl)) (@aA _ _ _ _ _ _ _ _ _ (dU rfl) rfl TX.sum kZ (@ad _ _ _ _ _ (be (N':=gs) (ρ:=[none]) (m:=1) (bt.of (fs:=defScope dX) (N:=lZ) rfl rfl (by decide +kernel)) rfl (uw (pv 0)) (fun _ _ _ _=>(au (i:=0) jf rfl (Or.inl rfl))) (fun _ _ _ _=>(iF (fH (aA (mK (K:=K) rfl) rfl T.isi lL (ad (pv 0) (ad (fQ (v:=.ty "int") rfl T.int mo rfl) ag)))))) (fun _ _ _ _=>(aA eZ rfl TX.abs mJ (ad (pv 0) ag)))) ag (ac rfl)) (by decide) (by decide) (ac rfl) (aj rfl)))))),?_⟩
 refine ⟨_,rfl,_,_,_,false,rfl,.str z,rfl,_,rfl,om ?_⟩
 refine ⟨_,rfl,.inr ⟨z,rfl,Nat.le_of_lt (aC (by omega)),?_⟩⟩
 refine ⟨_,rfl,z,rfl,oW z.cps.size rfl (show z.length≤1000 by omega) (fun i acc H'=>H'=H∧acc=[]) ⟨rfl,rfl⟩ (fun i acc H' c hi la hc p=>?_) (fun acc H' p la D hD=>?_)⟩
 ·obtain ⟨rfl,rfl⟩:=p
  refine ⟨⟨rfl,rfl⟩,?_⟩
  exact ⟨_,rfl,_,_,_,false,rfl,.str _,rfl,_,rfl,om (nxF hi la ⟨rfl,rfl⟩)⟩
 ·obtain ⟨rfl,rfl⟩:=p
  exact ⟨D,[],rfl,SqL.of ae,_,_,rfl,rfl,by simpa using q _ (af hD _)⟩
def nQ:Sp:=fun vs H Q _=>∃ v d sort,vs=[v]∧KAt H v d∧PcD sort d∧∀ H',av H H'→Q (.int (szD d)) H'
theorem yg (T:G0 mg) (TX:GX mg) (F:Fun K "_law_size" "_law_size" dX f fd):bg P w K mg base CX0 1 f fd ["_law_value"] nQ:=((xp T TX F).or (vf T TX F)).imp fun vs H Q E h=>by
 obtain ⟨v,d,sort,rfl,hk,hp,q⟩:=h
 exact sG (sp:=fun vs H Q E=>sY vs H Q E∨sD vs H Q E) hk hp q (fun i e q=>.inl ⟨_,rfl,.inl ⟨i,e,q⟩⟩) (fun a is e ha hi q=>.inl ⟨_,rfl,.inr ⟨a,is,e,ha,hi,q⟩⟩) (fun z e hz q=>.inr ⟨z,by rw [e],hz,q⟩)
end
end K6
namespace L2
open PySem
def Bi (K:Frag):R2:=fun x y H Q=>∃ p xs i v,x=.ref p∧y=.int i∧(SqL K H p xs∨SqT K H p xs)∧atI xs i=some v∧Q v H
theorem pA {X:Cx}:IxR X (Bi X.K):=fun value slice pins s σ H x y v u Q I rx ry h hs=>by
 obtain ⟨p,xs,i,z,e1,e2,hq | hq,he,q⟩:=h
 ·exact aM value slice pins s σ H x y v u Q I rx ry ⟨p,xs,i,z,e1,e2,hq,he,q⟩ hs
 ·exact aL value slice pins s σ H x y v u Q I rx ry ⟨p,xs,i,z,e1,e2,hq,he,q⟩ hs
end L2
namespace K6
open PySem L2
def gm:List Nat→Nat
 | []=>1
 | a::r=>a*gm r
theorem nh:∀ a b:List Nat,gm (a++b)=gm a*gm b
 | [],b=>by simp [gm]
 | x::a,b=>by rw [List.cons_append,gm,gm,nh a b,Nat.mul_assoc]
def aS (r:Rm) (ps:List bH):Nat:=gm (ps.map fun q=>cnt r q.2)
theorem jn (r:Rm) (a b:List bH):aS r (a++b)=aS r a*aS r b:=by unfold aS; rw [List.map_append,nh]
def ax (R:List Rec) (l:List Fld):List bH:=l.flatMap fun p=>am R 4 p.2
theorem pq (i:Int) (m n:Nat):L2.intsFrom i (m+n)=L2.intsFrom i m++L2.intsFrom (i+(m:Int)) n:=by
 unfold L2.intsFrom
 rw [List.range_add,List.map_append,List.map_map]
 congr 1
 apply List.map_congr_left
 intro k _
 show i+((m+k:Nat):Int)=i+(m:Int)+(k:Int)
 omega
theorem eT {i x:Int} {n:Nat} (h:x∈L2.intsFrom i n):i≤x∧x<i+(n:Int):=by
 unfold L2.intsFrom at h
 obtain ⟨k,hk,rfl⟩:=List.mem_map.mp h
 have:=List.mem_range.mp hk
 omega
theorem yf:EVs.cps.toList.map (fun c:Nat=>(c:Int))=(L2.intsFrom 32 95).filter fun c=>!decide (c=37):=by decide +kernel
theorem pB {d e:Int} (hd:32≤d) (hde:d≤e) (he:e≤126):(sgs d e).map (fun c:Nat=>(c:Int))=(L2.intsFrom d (e+1 - d).toNat).filter fun c=>!decide (c=37):=by
 unfold sgs
 have e1:(EVs.cps.toList.filter fun c:Nat=>decide (d≤(c:Int))&&decide ((c:Int)≤e)).map (fun c:Nat=>(c:Int))=(EVs.cps.toList.map (fun c:Nat=>(c:Int))).filter fun c=>decide (d≤c)&&decide (c≤e):=by
  rw [List.filter_map]
  rfl
 rw [e1,yf,List.filter_filter]
 have e2:(95:Nat)=(d - 32).toNat+((e+1 - d).toNat+(126 - e).toNat):=by omega
 rw [e2,pq,pq,List.filter_append,List.filter_append]
 have z1:(L2.intsFrom 32 (d - 32).toNat).filter (fun c=>(decide (d≤c)&&decide (c≤e))&&!decide (c=37))=[]:=by
  rw [List.filter_eq_nil_iff]
  intro x hx
  have:=eT hx
  have:¬ d≤x:=by omega
  simp [this]
 have z3:(L2.intsFrom (32+((d - 32).toNat:Int)+((e+1 - d).toNat:Int)) (126 - e).toNat).filter (fun c=>(decide (d≤c)&&decide (c≤e))&&!decide (c=37))=[]:=by
  rw [List.filter_eq_nil_iff]
  intro x hx
  have:=eT hx
  have:¬ x≤e:=by omega
  simp [this]
 have z2:(L2.intsFrom (32+((d - 32).toNat:Int)) (e+1 - d).toNat).filter (fun c=>(decide (d≤c)&&decide (c≤e))&&!decide (c=37))=(L2.intsFrom d (e+1 - d).toNat).filter fun c=>!decide (c=37):=by
  rw [show (32+((d - 32).toNat:Int))=d by omega]
  apply List.filter_congr
  intro x hx
  have:=eT hx
  have h1:d≤x:=by omega
  have h2:x≤e:=by omega
  simp [h1,h2]
 rw [z1,z2,z3]
 simp
theorem Bm (c:Int):decide (V.int c=V.int 37)=decide (c=37):=by
 by_cases h:c=37
 ·subst h
  simp
 ·have:¬ V.int c=V.int 37:=fun z=>h (V.int.inj z)
  rw [decide_eq_false h,decide_eq_false this]
theorem sy {r:Rm} (h:cp r):((L2.intsFrom r.d (r.e+1 - r.d).toNat).filter fun c=>!decide (V.int c=V.int 37)).length=(sgs r.d r.e).length:=by
 rw [← List.length_map (as:=sgs r.d r.e) (fun c:Nat=>(c:Int)),pB h.d h.de h.e]
 congr 1
 apply List.filter_congr
 intro c _
 rw [Bm]
theorem oB {r:Rm} (h:cp r) (sort:Str):(bu r sort).length≤95:=by
 unfold bu
 have h1:=h.a
 have h2:=h.b
 have h3:=h.d
 have h5:=h.de
 have h6:=h.e
 split
 ·rw [List.length_map,← sy h]
  refine Nat.le_trans (List.length_filter_le _ _) ?_
  simp [L2.intsFrom]
  omega
 ·simp [L2.intsFrom]
  omega
theorem sw {N c:Nat} (hN:N≤95) (hc:c≤3):cC N c≤866496:=by
 have m:∀ a b:Nat,a≤b→a*N≤b*95:=fun a b h=>Nat.mul_le_mul h hN
 have r1:cC N 1≤96:=by show 1*N+1≤96; omega
 have r2:cC N 2≤9121:=by
  show cC N 1*N+1≤9121
  have:=m _ _ r1
  omega
 have r3:cC N 3≤866496:=by
  show cC N 2*N+1≤866496
  have:=m _ _ r2
  omega
 exact Nat.le_trans (dQ N hc) r3
theorem vZ {r:Rm} (h:cp r) (sort:Str):cnt r sort≤866496:=by
 unfold cnt
 have h1:=h.a
 have h2:=h.b
 have h3:=h.c
 split
 ·omega
 ·exact sw (oB h sort) (by omega)
def RmL (H:Hp) (rl:Addr) (r:Rm):Prop:=H rl=some (.lst r.vs)∨H rl=some (.tup r.vs)
theorem RmL.same {H H':Hp} {rl:Addr} {r:Rm} (g:av H H') (h:RmL H rl r):RmL H' rl r:=h.imp (g _ _) (g _ _)
theorem RmL.sq {K:Frag} {H:Hp} {rl:Addr} {r:Rm} (h:RmL H rl r):SqL K H rl r.vs∨SqT K H rl r.vs:=h.imp SqL.of SqT.of
section
variable {P:Program} {w:World} {K:Frag} {mg:Str→Option Value} {base:Heap} {f g:Addr} {fd gd:FuncData}
abbrev oT:List Str:=["_law_program", "_law_f", "_law_room_here", "_law_signs", "_law_found", "_law_name", "_law_kind", "_law_path", "_law_sort", "_law_own", "_law_rows", "_law_k"]
abbrev jS:List Str:=["_law_number"]
theorem ox:jS.Nodup:=by decide +kernel
theorem bI:aF oT ["_law_program", "_law_f", "_law_room_here"] (defScope jd):=⟨rfl,rfl,rfl,by decide +kernel,rfl,by decide +kernel,by decide +kernel⟩
def rO:Sp:=fun vs H Q _=>∃ pg i R FS F rl r,vs=[pg,.int (i:Nat),.ref rl]∧hW H pg R FS∧wE R FS∧FS[i]?=some F∧RmL H rl r∧cp r∧∀ H',av H H'→Q (.int (aS r (ax R F.2):Nat)) H'
theorem xF (T:G0 mg) (F:Fun K "_law_many" "_law_many" jd f fd) (D_l_sorts:Cal P w K mg base 5 "_law_sorts" pSo (fF 4)):bg P w K mg base CX0 6 f fd ["_law_program", "_law_f", "_law_room_here"] rO:=by
 obtain ⟨g_l_sorts,gd_l_sorts,G_l_sorts,b_l_sorts,k_l_sorts,m_l_sorts⟩:=D_l_sorts.ex
 refine F.ok bI (fun vs H Q E h=>?_) (fun cdv A outer s H vs Q E hr h=>?_)
 ·obtain ⟨pg,i,R,FS,F,rl,r,rfl,_⟩:=h
  rfl
 obtain ⟨pg,i,R,FS,FF,rl,r,rfl,hp,hpg,hF,hrl,hok,q⟩:=h
 obtain ⟨hl,hDp⟩:=hpg.fl FF (List.mem_of_getElem? hF)
 obtain ⟨a,y,b,fs,rfl,ha,hRc,hb,pf⟩:=id hp
 obtain ⟨fx,hfx,c,yy,l0,b',rfl,hc,pb,xs,rfl,hpb,rs⟩:∃ fx,fs[i]?=some fx∧io H fx FF:=by
  obtain ⟨fx,h1⟩:∃ fx,fs[i]?=some fx:=⟨_,List.getElem?_eq_getElem (by rw [Paired.length pf]; exact (List.getElem?_eq_some_iff.mp hF).1)⟩
  obtain ⟨F2,h2,h3⟩:=aH pf i fx h1
  rw [hF] at h2
  cases h2
  exact ⟨fx,h1,h3⟩
 have o1:=hok.a
 have o2:=hok.ab
 have o3:=hok.b
 have o4:=hok.d
 have o5:=hok.de
 have o6:=hok.e
 have o7:=hok.c0
 have o8:=hok.c
 refine ⟨_,(@al _ _ _ _ _ (sT (i:=3) (N':=jS) (ρ:=[none]) (m:=1) (bt.of (fs:=defScope jd) (N:=oT) rfl rfl (by decide +kernel)) bI.nd rfl (Or.inl rfl) rfl (nI rfl T.range (ad (ay pA (pv 2) ak (fun _ _=>rfl)) (ad (aG bB (ay pA (pv 2) ak (fun _ _=>rfl)) ak) ag))) (fun _ _ _ _=>(au (i:=0) ox rfl (Or.inl rfl))) (fun _ _ _ _=>(iF (aQ oS (pv 0) ak (bo _)))) (fun _ _ _ _=>(pv 0))) (@al _ _ _ _ _ (@aB _ _ 4 _ _ _ _ bI.nd rfl (Or.inl rfl) ak (ao rfl) (.inr rfl)) (@al _ _ _ _ _ (@bn _ _ _ _ _ _ _ _ PassesOwn.never rfl (cG (@ay _ _ _ _ _ _ _ aL (@ay _ _ _ _ _ _ _ aL (@ay _ _ _ _ _ _ _ aL (pv 0) ak (fun _ _=>rfl)) (pv 1) (fun _ _=>rfl)) ak (fun _ _=>rfl))) (cQ rfl (aJ (au (i:=5) bI.nd rfl (Or.inl rfl)) (aJ (au (i:=6) bI.nd rfl (Or.inl rfl)) bP))) (@ap _ _ _ (@bn _ _ _ _ _ _ _ _ PassesOwn.never rfl (aZ (@ar _ _ _ _ _ _ _ _ _ _ _ _ _ _ _ _ G_l_sorts (hr.mono (by omega)) rfl m_l_sorts k_l_sorts b_l_sorts .nil aE (@ad _ _ _ _ _ (@ay _ _ _ _ _ _ _ aL (pv 0) ak (fun _ _=>rfl)) (@ad _ _ _ _ _ (pv 6) ag (ac rfl)) (ac rfl)) (by decide) (ac rfl) (aj rfl))) (cQ rfl (aJ (au (i:=7) bI.nd rfl (Or.inl rfl)) (aJ (au (i:=8) bI.nd rfl (Or.inl rfl)) bP))) (@al _ _ _ _ _ (@aB _ _ 9 _ _ _ _ bI.nd rfl (Or.inl rfl) (@gb _ _ _ _ _ _ _ _ (@aQ _ _ _ _ _ _ _ _ dC (pv 8) aN (bo _)) (@aA _ _ _ _ _ _ _ _ _ aU rfl T.len eC (@ad _ _ _ _ _ (pv 3) ag (ac rfl)) (by decide) (by decide) (ac rfl) (aj rfl)) (@aG _ _ _ _ _ _ _ _ bB (@aG _ _ _ _ _ _ _ _ gC (@ay _ _ _ _ _ _ _ pA (pv 2) ak (fun _ _=>rfl)) (@ay _ _ _ _ _ _ _ pA (pv 2) ak (fun _ _=>rfl))) ak)) (ao rfl) (.inr rfl)) (@al _ _ _ _ _ (@aB _ _ 10 _ _ _ _ bI.nd rfl (Or.inl rfl) ak (ao rfl) (.inr rfl)) (@al _ _ _ _ _ (@bn _ _ _ _ _ _ _ _ PassesOwn.never rfl (cD rfl T.range (@ad _ _ _ _ _ (@ay _ _ _ _ _ _ _ pA (pv 2) ak (fun _ _=>rfl)) ag (ac rfl))) (au (i:=11) bI.nd rfl (Or.inl rfl)) (@ap _ _ _ (@aB _ _ 10 _ _ _ _ bI.nd rfl (Or.inl rfl) (@aG _ _ _ _ _ _ _ _ bB (@aG _ _ _ _ _ _ _ _ fN (pv 10) (pv 9)) ak) (ao rfl) (.inr rfl))) (fun _=>rfl)) (@ap _ _ _ (@aB _ _ 4 _ _ _ _ bI.nd rfl (Or.inl rfl) (@aG _ _ _ _ _ _ _ _ fN (pv 4) (@gb _ _ _ _ _ _ _ _ (@aQ _ _ _ _ _ _ _ _ dC (pv 8) aN (bo _)) (pv 9) (pv 10))) (ao rfl) (.inr rfl)))))) (fun _=>rfl))) (fun _=>rfl)) (@ap _ _ _ (@aD _ _ _ _ (pv 4)))))),?_⟩
 refine ⟨_,rfl,rl,_,_,_,rfl,rfl,hrl.sq,rfl,_,rfl,rl,_,_,_,rfl,rfl,hrl.sq,rfl,_,_,rfl,rfl,?_⟩
 refine ⟨_,_,rfl,by omega,fV (lo:=r.d) (r.e+1 - r.d).toNat (by omega) (fun i acc H'=>H'=H∧acc=((L2.intsFrom r.d i).filter fun c=>!decide (V.int c=V.int 37)).map V.int) ⟨rfl,rfl⟩ (fun i acc H' hi la p=>?_) (fun acc H' p la D hD=>?_)⟩
 ·obtain ⟨rfl,rfl⟩:=p
  have step:L2.intsFrom r.d (i+1)=L2.intsFrom r.d i++[r.d+(i:Int)]:=by
   unfold L2.intsFrom
   rw [List.range_succ,List.map_append]
   rfl
  refine ⟨⟨rfl,rfl⟩,?_⟩
  refine ⟨_,rfl,rfl,_,rfl,?_⟩
  refine bO (fun c3=>?_) (fun c3=>?_)
  ·refine ⟨_,rfl,nxT (by omega) hi la ⟨rfl,?_⟩⟩
   rw [step,List.filter_append,List.map_append,List.filter_cons,if_pos c3]
   rfl
  ·refine nxF hi la ⟨rfl,?_⟩
   rw [step,List.filter_append,List.map_append,List.filter_cons,if_neg c3]
   simp
 obtain ⟨rfl,rfl⟩:=p
 have gD:=af hD (.lst (((L2.intsFrom r.d (r.e+1 - r.d).toNat).filter fun c=>!decide (V.int c=V.int 37)).map V.int))
 have hDl:(upd H' D (.lst (((L2.intsFrom r.d (r.e+1 - r.d).toNat).filter fun c=>!decide (V.int c=V.int 37)).map V.int))) D=_:=ae
 generalize (upd H' D (.lst (((L2.intsFrom r.d (r.e+1 - r.d).toNat).filter fun c=>!decide (V.int c=V.int 37)).map V.int)))=H1 at gD hDl
 refine ⟨_,rfl,a,_,_,_,rfl,rfl,SqT.of (gD _ _ ha),rfl,_,rfl,b,_,_,_,rfl,rfl,SqT.of (gD _ _ hb),jr hfx,c,_,_,_,rfl,rfl,SqT.of (gD _ _ hc),rfl,?_⟩
 refine ⟨pb,rfl,⟨xs,SqT.of (gD _ _ hpb)⟩,fo (xs:=xs) (fun j σ H2=>∃ m5 m6 m7 m8 m9 m10 m11,σ=[some (.ref a),some (.int (i:Nat)),some (.ref rl),some (.ref D),some (.int (aS r (ax R (FF.2.take j)):Nat)),m5,m6,m7,m8,m9,m10,m11]∧av H1 H2) ⟨_,_,_,_,_,_,_,rfl,av.refl _⟩ (fun j σ H2 _ p=>?_) (fun j u σ H2 hx p=>?_) (fun σ H2 p=>?_)⟩
 ·obtain ⟨_,_,_,_,_,_,_,_,g2⟩:=p
  exact SqT.of (g2 _ _ (gD _ _ hpb))
 ·obtain ⟨m5,m6,m7,m8,m9,m10,m11,rfl,g2⟩:=p
  obtain ⟨fl,hfl,ta,rfl,hta⟩:=aH rs j u hx
  have G2:=gD.trans g2
  refine ⟨ta,_,rfl,SqT.of (G2 _ _ hta),rfl,_,_,rfl,_,_,rfl,rfl,?_⟩
  have dp:=hDp fl (List.mem_of_getElem? hfl)
  refine ⟨_,rfl,a,_,_,_,rfl,rfl,SqT.of (G2 _ _ ha),rfl,_,rfl,_,fl.2,R,rfl,hRc.mono (ah G2),hpg.rn,by have:=hpg.rl; omega,by decide,dp,fun rr zs H3 g3 hr0 hrz pz=>?_⟩
  have lz:=Paired.length pz
  refine ⟨rr,rfl,⟨zs,SqL.of hrz⟩,bK (xs:=zs) (fun jj σ H4=>∃ m7 m8 m9 m10 m11,σ=[some (.ref a),some (.int (i:Nat)),some (.ref rl),some (.ref D),some (.int (aS r (ax R (FF.2.take j)++(am R 4 fl.2).take jj):Nat)),some (.str fl.1),some (.str fl.2),m7,m8,m9,m10,m11]∧av H3 H4) ⟨_,_,_,_,_,by rw [List.take_zero,List.append_nil]; rfl,av.refl _⟩ (fun jj σ H4 _ p=>?_) (fun jj u σ H4 hx2 p=>?_) (fun σ H4 p=>?_)⟩
  ·obtain ⟨_,_,_,_,_,_,g4⟩:=p
   exact SqL.of (g4 _ _ hrz)
  ·obtain ⟨m7,m8,m9,m10,m11,rfl,g4⟩:=p
   obtain ⟨qq,hqq,hpa⟩:=aH pz jj u hx2
   obtain ⟨a2,y2,rfl,ha2,a3,rfl,ha3⟩:=hpa.mono (ah g4)
   have G4:=G2.trans (g3.trans g4)
   have hrl4:=hrl.same G4
   have hD4:H4 D=_:=g4 _ _ (g3 _ _ (g2 _ _ hDl))
   have oN:=oB hok qq.2
   have eI:qq.2≠Str.ofString "text"→((bu r qq.2).length:Int)=r.b - r.a+1:=fun n=>by
    unfold bu
    rw [if_neg n]
    simp [L2.intsFrom]
    omega
   refine ⟨a2,_,rfl,SqT.of ha2,rfl,_,_,rfl,_,_,rfl,rfl,?_⟩
   dsimp only [jU]
   refine eW (fun σ H5=>σ=[some (.ref a),some (.int (i:Nat)),some (.ref rl),some (.ref D),some (.int (aS r (ax R (FF.2.take j)++(am R 4 fl.2).take jj):Nat)),some (.str fl.1),some (.str fl.2),some (.ref a3),some (.str qq.2),some (.int ((bu r qq.2).length:Nat)),m10,m11]∧H5=H4) (fun NX hNX=>?_) (fun σ H5 pp=>?_)
   ·refine ⟨_,rfl,rfl,_,rfl,?_⟩
    refine bO (fun c3=>?_) (fun c3=>?_)
    ·have et:=eqS c3
     refine ⟨_,rfl,D,_,rfl,.inl (SqL.of hD4),hNX _ _ ⟨?_,rfl⟩⟩
     rw [List.length_map,sy hok]
     have:(bu r qq.2).length=(sgs r.d r.e).length:=by
      unfold bu
      rw [if_pos et,List.length_map]
     rw [this]
     rfl
    ·have nt:=neS c3
     refine ⟨_,rfl,rl,_,_,_,rfl,rfl,hrl4.sq,rfl,_,rfl,rl,_,_,_,rfl,rfl,hrl4.sq,rfl,_,_,rfl,rfl,_,_,rfl,rfl,hNX _ _ ⟨?_,rfl⟩⟩
     rw [eI nt]
     rfl
   obtain ⟨rfl,rfl⟩:=pp
   have el:∀ t,((cC (bu r qq.2).length t:Nat):Int)*((bu r qq.2).length:Int)+1=((cC (bu r qq.2).length (t+1):Nat):Int):=fun t=>by
    show _=(((cC (bu r qq.2).length t*(bu r qq.2).length+1:Nat)):Int)
    simp
   refine ⟨_,rfl,rl,_,_,_,rfl,rfl,hrl4.sq,rfl,r.c,rfl,by omega,by omega,cV (n:=r.c.toNat) (fun t σ H6=>∃ m11,σ=[some (.ref a),some (.int (i:Nat)),some (.ref rl),some (.ref D),some (.int (aS r (ax R (FF.2.take j)++(am R 4 fl.2).take jj):Nat)),some (.str fl.1),some (.str fl.2),some (.ref a3),some (.str qq.2),some (.int ((bu r qq.2).length:Nat)),some (.int (cC (bu r qq.2).length t:Nat)),m11]∧H6=H5) ⟨_,rfl,rfl⟩ (fun t σ H6 ht pp=>?_) (fun σ H6 pp=>?_)⟩
   ·obtain ⟨m11',rfl,rfl⟩:=pp
    refine ⟨_,rfl,_,rfl,_,_,rfl,rfl,.inr (by omega),_,_,rfl,rfl,some (.int (0+(t:Int))),?_,rfl⟩
    rw [← el t]
    rfl
   ·obtain ⟨m11',rfl,rfl⟩:=pp
    have ec:∀ {σ:St} (n:Nat),n=cnt r qq.2→σ=[some (.ref a),some (.int (i:Nat)),some (.ref rl),some (.ref D),some (.int (((aS r (ax R (FF.2.take j)++(am R 4 fl.2).take jj):Nat):Int)*(n:Int))),some (.str fl.1),some (.str fl.2),some (.ref a3),some (.str qq.2),some (.int ((bu r qq.2).length:Nat)),some (.int (cC (bu r qq.2).length r.c.toNat:Nat)),m11']→∃ m7 m8 m9 m10 m11,σ=[some (.ref a),some (.int (i:Nat)),some (.ref rl),some (.ref D),some (.int (aS r (ax R (FF.2.take j)++(am R 4 fl.2).take (jj+1)):Nat)),some (.str fl.1),some (.str fl.2),m7,m8,m9,m10,m11]∧av H3 H6:=by
     rintro σ n en rfl
     have:aS r (ax R (FF.2.take j)++(am R 4 fl.2).take (jj+1))=aS r (ax R (FF.2.take j)++(am R 4 fl.2).take jj)*n:=by
      rw [List.take_add_one,hqq,← List.append_assoc,jn,en]
      show _*(cnt r qq.2*1)=_
      rw [Nat.mul_one]
     rw [this]
     exact ⟨_,_,_,_,_,rfl,g4⟩
    refine ⟨_,rfl,_,rfl,rfl,_,rfl,?_⟩
    refine bO (fun c4=>?_) (fun c4=>?_)
    ·have en:=eqS c4
     refine ⟨_,rfl,_,_,rfl,rfl,.inr (by omega),ec (bu r qq.2).length ?_ rfl⟩
     have:=eI (by rw [en]; decide +kernel)
     unfold cnt
     rw [if_pos en]
     omega
    ·have nn:=neS c4
     have:=sw oN (show r.c.toNat≤3 by omega)
     refine ⟨_,rfl,_,_,rfl,rfl,.inr (by omega),ec (cC (bu r qq.2).length r.c.toNat) ?_ rfl⟩
     unfold cnt
     rw [if_neg nn]
  ·obtain ⟨m7,m8,m9,m10,m11,rfl,g4⟩:=p
   have:ax R (FF.2.take (j+1))=ax R (FF.2.take j)++(am R 4 fl.2).take zs.length:=by
    rw [lz,List.take_length,List.take_add_one,hfl]
    unfold ax
    rw [List.flatMap_append]
    simp
   rw [this]
   exact ⟨_,_,_,_,_,_,_,rfl,g2.trans (g3.trans g4)⟩
 ·obtain ⟨m5,m6,m7,m8,m9,m10,m11,rfl,g2⟩:=p
  rw [Paired.length rs,List.take_length]
  exact ⟨_,rfl,q _ (gD.trans g2)⟩
end
end K6
namespace L2
open PySem PySem.Spec PyProof.Rows
def vd (scope:Scope) (N':List Str) (ρ:List (Option Nat)):Bool:=(match scope.kind with | .function=>true | _=>false)&&scope.names.all (fun x=>x.2 != .cell&&x.2 != .free&&(x.2 != .local||scope.names.lookup x.1==some .local))&&ρ.length==N'.length&&ρ.all (·.isNone)
theorem bt.plain {X:Cx} {scope:Scope} {N':List Str} {ρ:List (Option Nat)} {m:Nat} (h:vd scope N' ρ=true):bt X scope N' ρ m:=by
 unfold vd at h
 simp only [Bool.and_eq_true,List.all_eq_true,bne_iff_ne,ne_eq,Bool.or_eq_true,beq_iff_eq] at h
 obtain ⟨⟨⟨h1,h2⟩,h3⟩,h4⟩:=h
 have no:∀ (i j:Nat),ρ[i]?=some (some j)→False:=fun i j e=>by
  have:=h4 _ (List.mem_of_getElem? e)
  cases this
 refine ⟨?_,fun x hx=>(h2 x hx).1.1,fun x hx e=>?_,fun x hx e=>absurd e (h2 x hx).1.2,h3,fun i j e=>(no i j e).elim,fun i j x e=>(no i j e).elim,fun i j x e=>(no i j e).elim⟩
 ·generalize scope.kind=k at h1
  cases k<;>first | rfl | cases h1
 ·rcases (h2 x hx).2 with h | h
  ·exact absurd e h
  ·exact h
section
variable {X:Cx} {K:Frag}
theorem xA {tg e:Expr} {t:TE} (h:X.K=K) (he:PE X e t):PI X tg e (BR K t):=by subst h; exact cG he
theorem tU (h:X.K=K) (hc:X.calm=true):bJ X (.builtin "sum") (AI K):=h ▸ dU hc
end
end L2
namespace K6
open PySem L2
theorem xz {r:Rm} (h:cp r) (sort:Str):1≤cnt r sort:=by
 unfold cnt
 have:=h.ab
 split
 ·omega
 ·exact dQ _ (Nat.zero_le _)
theorem mZ:∀ {l:List Nat},(∀ n∈l,1≤n)→1≤gm l
 | [],_=>Nat.le_refl _
 | a::r,h=>Nat.mul_le_mul (h a List.mem_cons_self) (mZ fun n hn=>h n (List.mem_cons_of_mem _ hn))
theorem lH {r:Rm} (h:cp r) (ps:List bH):1≤aS r ps:=mZ fun n hn=>by
 obtain ⟨q,_,rfl⟩:=List.mem_map.mp hn
 exact xz h _
theorem pK {r:Rm} (h:cp r) (a b:List bH):aS r a≤aS r (a++b):=by
 rw [jn]
 exact Nat.le_mul_of_pos_right _ (lH h b)
theorem gU (r:Rm) (a:List bH) (q:bH):aS r (a++[q])=aS r a*cnt r q.2:=by
 rw [jn]
 show _*(cnt r q.2*1)=_
 rw [Nat.mul_one]
theorem BK {sort:Str} {d:PyData} (h:PcD sort d):kv d=true:=by
 rcases h with ⟨_,i,rfl⟩ | ⟨_,z,hz,rfl,ht⟩ | ⟨_,is,hl,rfl⟩
 ·rfl
 ·simp only [kv,Bool.and_eq_true,decide_eq_true_eq]
  exact ⟨ht,hz⟩
 ·simp only [kv,Bool.and_eq_true,decide_eq_true_eq]
  refine ⟨by rw [List.length_map]; omega,rX fun d hd=>?_⟩
  obtain ⟨i,_,rfl⟩:=List.mem_map.mp hd
  rfl
theorem zY {sort:Str} {d e:PyData} (h:PcD sort d) (g:PcD sort e):Cok d e:=by
 rcases h with ⟨h0,i,rfl⟩ | ⟨h0,z,hz,rfl,ht⟩ | ⟨h0,is,hl,rfl⟩<;>subst h0
 ·rcases g with ⟨g0,j,rfl⟩ | ⟨g0,_⟩ | ⟨g0,_⟩
  ·exact .int i j
  ·exact absurd g0 (by decide +kernel)
  ·exact absurd g0 (by decide +kernel)
 ·rcases g with ⟨g0,_⟩ | ⟨g0,y,_,rfl,_⟩ | ⟨g0,_⟩
  ·exact absurd g0 (by decide +kernel)
  ·exact .str z y
  ·exact absurd g0 (by decide +kernel)
 ·rcases g with ⟨g0,_⟩ | ⟨g0,_⟩ | ⟨g0,js,_,rfl⟩
  ·exact absurd g0 (by decide +kernel)
  ·exact absurd g0 (by decide +kernel)
  ·refine .tup ?_
   clear hl
   rename_i hl2
   clear hl2
   induction is generalizing js with
   | nil=>exact .nil _
   | cons i is ih =>
    cases js with
    | nil=>exact .nil2 _
    | cons j js =>
     by_cases c:PyData.int i=.int j
     ·rw [List.map_cons,List.map_cons,c]
      exact .eq (ih js)
     ·exact .ne c (.int i j)
theorem oR:∀ {qs:List bH} {l m:List PyData},Paired (fun d (q:bH)=>PcD q.2 d) l qs→Paired (fun d (q:bH)=>PcD q.2 d) m qs→kw l m
 | _,_,_,.nil,.nil=>.nil _
 | _,_,_,.cons (a:=a) h r,.cons (a:=b) h' r'=>by
  by_cases c:a=b
  ·subst c
   exact .eq (oR r r')
  ·exact .ne c (zY h h')
theorem By {sort:Str} {d:PyData} (h:PcD sort d):pk d=true∧d.depth≤2:=by
 rcases h with ⟨_,i,rfl⟩ | ⟨_,z,hz,rfl,ht⟩ | ⟨_,is,hl,rfl⟩
 ·exact ⟨rfl,by simp [PyData.depth]⟩
 ·refine ⟨?_,by simp [PyData.depth]⟩
  show PyData.strOk z=true
  unfold PyData.strOk
  have ht':z.cps.toList.all (fun c=>cR (c:Nat))=true:=ht
  rw [← Array.all_toList,List.all_eq_true]
  rw [List.all_eq_true] at ht'
  intro c hc
  have:=ht' c hc
  simp only [cR,Bool.and_eq_true,decide_eq_true_eq] at this
  exact decide_eq_true (by omega)
 ·have a:pks (is.map PyData.int)=true∧PyData.depthAll (is.map PyData.int)≤1:=by
   clear hl
   induction is with
   | nil=>exact ⟨rfl,by simp [PyData.depthAll]⟩
   | cons i is ih =>
    refine ⟨by simp only [List.map_cons,pks,pk,Bool.true_and]; exact ih.1,?_⟩
    simp only [List.map_cons,PyData.depthAll,PyData.depth]
    have:=ih.2
    omega
  refine ⟨by simp only [pk]; exact a.1,?_⟩
  simp only [PyData.depth]
  omega
theorem zu {qs:List bH} {l:List PyData} (h:Paired (fun d (q:bH)=>PcD q.2 d) l qs):pks l=true∧PyData.depthAll l≤2:=by
 induction h with
 | nil=>exact ⟨rfl,by simp [PyData.depthAll]⟩
 | cons h r ih =>
  have:=By h
  refine ⟨by simp only [pks,Bool.and_eq_true]; exact ⟨this.1,ih.1⟩,?_⟩
  simp only [PyData.depthAll]
  omega
end K6
namespace L2
open PySem PySem.W PySem.Calls PySem.Spec PyProof.Rows
section
variable {prog:Program} {w:World} {A:Around} {E:Value→Shared→Prop} {s:Shared} {a kS:Addr} {ks vs:List Value} {κ:SortKind} {lt:Nat→Nat→Bool} {R:Array Nat→Prop}
theorem wu {e e1:Nat} {P:PySem.Fin→Shared→Prop} (hk0:s.heap.get? kS=some (seqObj "list" ks.toArray e)) (ha0:s.heap.get? a=some (seqObj "list" #[] e1)) (hka:kS≠a) (hl:ks.length=vs.length) (h64:vs.length<64)
  (hk:2≤vs.length→∀ (Qk:SortKind→Shared→Prop),Qk κ s→wpAny (model prog w) A (keyKind' ks.toArray) Qk (fun _ _=>False) s)
  (hc:∀ (t i j:Nat) (C:Bool→Shared→Prop),i<vs.length→j<vs.length→(∀ t',C (lt i j) { s with toks:=t' })→kas_ask prog w A κ ks i j C { s with toks:=t })
  (hR:2≤vs.length→cI vs.length lt R (kas_sort vs.length))
  (fin:∀ (h':Heap) (t c c2:Nat) (p:Array Nat),Gp vs.length p→(2≤vs.length→R p)→(∀ b o,b≠a→b≠kS→s.heap.get? b=some o→h'.get? b=some o)→s.heap.objs.size≤h'.objs.size→h'.get? kS=some (seqObj "list" #[] c2)→h'.get? a=some (seqObj "list" (cF vs p).toArray c)→P (.done (.ret .none)) { s with heap:=h',toks:=t }) :
  wpAny (model prog w) A (ksk_end a false vs.toArray e1 (.ref kS) ks.toArray) P E s:=by
 have close:∀ (st:SortSt) (p:Array Nat) (t:Nat),Gp vs.length p→(2≤vs.length→R p)→(arrOf st).map (·.2)=(cF vs p).toArray→failedOf st=none →
   wpAny (model prog w) A (ksk_tail a false e1 (.ref kS) st) P E { s with toks:=t }:=by
  intro st p t gp rp ha hf
  have hl2:(cF vs p).length=vs.length:=by unfold cF; rw [List.length_map,Array.length_toList,gp.size]
  obtain ⟨e2,g2⟩:∃ e2,(s.heap.update kS (Obj.mapSeq fun _=>(#[]:Array Value))).get? kS=some (seqObj "list" #[] e2):=⟨_,get?_update_seq hk0 fun _=>#[]⟩
  have s1:=Heap.SameBut.update s.heap kS (Obj.mapSeq fun _=>(#[]:Array Value))
  have na1:(s.heap.update kS (Obj.mapSeq fun _=>(#[]:Array Value))).get? a=some (seqObj "list" #[] e1):=(s1.2 a hka.symm).trans ha0
  have z1:s.heap.objs.size≤(s.heap.update kS (Obj.mapSeq fun _=>(#[]:Array Value))).objs.size:=by rw [Heap.size_update]; exact Nat.le_refl _
  have k1:∀ b o,b≠kS→s.heap.get? b=some o→(s.heap.update kS (Obj.mapSeq fun _=>(#[]:Array Value))).get? b=some o:=fun b o n q=>(s1.2 b n).trans q
  unfold ksk_tail
  try dsimp only
  refine wpAny_bind (listUpdate_at hk0 rfl ?_ (by rw [List.size_toArray,hl,sizeLine_eq]; omega) (Nat.zero_le _))
  refine wpAny_bind (wpAny_letGo ?_)
  generalize (s.heap.update kS (Obj.mapSeq fun _=>(#[]:Array Value)))=h1 at g2 na1 k1 z1
  refine wpAny_bind (seqEpoch_at na1 rfl ?_)
  rw [ha]
  obtain ⟨e3,g3⟩:∃ e3,(h1.update a (Obj.mapSeq fun _=>if false=true then (cF vs p).toArray.reverse else (cF vs p).toArray)).get? a=some (seqObj "list" (cF vs p).toArray e3):=⟨_,get?_update_seq na1 fun _=>(cF vs p).toArray⟩
  refine wpAny_bind (listUpdate_at na1 rfl ?_ (Nat.zero_le _) (by simp only [Bool.false_eq_true,if_false]; rw [List.size_toArray,hl2,sizeLine_eq]; omega))
  rw [hf]
  simp only [bne_self_eq_false,Bool.false_eq_true,if_false]
  refine wpAny_pure (fin _ t e3 e2 p gp rp (fun b o na nk q=>?_) ?_ ?_ g3)
  ·rw [Heap.get?_update_ne _ _ _ _ na]
   exact k1 b o nk q
  ·rw [Heap.size_update]; exact z1
  ·rw [Heap.get?_update_ne _ _ _ _ hka]
   exact g2
 have hzip:(ks.toArray.zip vs.toArray).map (·.2)=vs.toArray:=by
  apply Array.toList_inj.mp
  simp only [Array.toList_map,Array.toList_zip]
  exact List.map_snd_zip (by omega)
 unfold ksk_end
 try dsimp only
 simp only [Bool.false_eq_true,if_false]
 by_cases hn:vs.length<2
 ·have hn2:vs.toArray.size<2:=by rw [List.size_toArray]; exact hn
  rw [if_pos hn2,if_pos hn2]
  refine wpAny_bind (wpAny_pure (wpAny_bind ?_))
  show wpAny (model prog w) A (pure ((),SortSt.mk' general' (ks.toArray.zip vs.toArray) #[] 7 none)) _ E _
  refine wpAny_pure ?_
  refine close _ (List.range vs.length).toArray s.toks (Array.Perm.refl _) (fun z=>by omega) ?_ rfl
  rw [kO]
  exact hzip
 ·have hn2:¬ vs.toArray.size<2:=by rw [List.size_toArray]; exact hn
  rw [if_neg hn2,if_neg hn2]
  refine wpAny_bind (wpAny_mono (hk (by omega) (fun k s'=>k=κ∧s'=s) ⟨rfl,rfl⟩) (fun k s' hks=>?_) fun _ _ x=>x.elim)
  obtain ⟨rfl,rfl⟩:=hks
  have run:=kat_run (prog:=prog) (w:=w) (A:=A) (E:=E) (s:=s') (κ:=k) (ks:=ks) (vs:=vs) (G:=fun p s2=>R p∧Gp vs.length p∧∃ t,s2={ s' with toks:=t })
   (Q:=fun st' s2=>∃ p,R p∧Gp vs.length p∧(arrOf st').map (·.2)=(cF vs p).toArray∧failedOf st'=none∧∃ t,s2={ s' with toks:=t }) hl (by omega) h64
   (fun p st' s2 a1 a2 a3 a4=>⟨p,a4.1,a4.2.1,kat_snds hl a2,a3,a4.2.2⟩)
   (cI.wp (J:=fun s2=>∃ t,s2={ s' with toks:=t }) (P:=fun p=>R p∧Gp vs.length p) (n:=vs.length) (lt:=lt) (fun i j C s2 hi hj ⟨t,e⟩ hC=>by
    subst e
    exact hc t i j C hi hj fun t'=>hC _ ⟨t',rfl⟩) (fun p s2 hp hs=>⟨hp.1,hp.2,hs⟩) (kW (hR (by omega)) (gl (by omega))) ⟨s'.toks,rfl⟩)
  refine wpAny_bind (wpAny_mono run ?_ fun _ _ e=>e)
  rintro ⟨⟨⟩,st'⟩ s2 ⟨p,rp,gp,ha,hf,t,rfl⟩
  exact close st' p t gp (fun _=>rp) ha hf
theorem ue {e1:Nat} {f:Value} {P:PySem.Fin→Shared→Prop} (T:Nat→List Value→Shared→Prop) (t0:T 0 [] s)
  (hk0:s.heap.get? kS=some (seqObj "list" #[] 0)) (ha0:s.heap.get? a=some (seqObj "list" #[] e1)) (hka:kS≠a) (h64:vs.length<64)
  (stab:∀ (i:Nat) (ks:List Value) (s1:Shared) (h':Heap),T i ks s1→(∀ b o,b≠kS→s1.heap.get? b=some o→h'.get? b=some o)→s1.heap.objs.size=h'.objs.size→(∃ o,h'.get? kS=some o)→T i ks { s1 with heap:=h' })
  (turn:∀ (i:Nat) (v:Value) (ks:List Value) (s1:Shared),vs[i]?=some v→ks.length=i→T i ks s1 →
   wpAny (model prog w) A (call f [v]) (fun k s2=>T (i+1) (ks++[k]) s2∧(∀ o,s1.heap.get? kS=some o→s2.heap.get? kS=some o)∧∀ o,s1.heap.get? a=some o→s2.heap.get? a=some o) (fun _ _=>False) s1)
  (done:∀ (ks:List Value) (s1:Shared) (e:Nat),ks.length=vs.length→T vs.length ks s1→s1.heap.get? kS=some (seqObj "list" ks.toArray e)→s1.heap.get? a=some (seqObj "list" #[] e1)→wpAny (model prog w) A (ksk_end a false vs.toArray e1 (.ref kS) ks.toArray) P E s1) :
  wpAny (model prog w) A (ksk_rest a f false vs.toArray e1 (.ref kS)) P E s:=by
 unfold ksk_rest
 refine wpAny_bind (wpAny_rule ?_)
 first
  | rw [List.forIn_toArray]
  | (rw [← Array.forIn_toList]; simp only [List.toList_toArray])
  | rw [← Array.forIn_toList]
 refine wpAny_bind (ksk_fold (fun i s'=>∃ ks e,ks.length=i∧T i ks s'∧s'.heap.get? kS=some (seqObj "list" ks.toArray e)∧s'.heap.get? a=some (seqObj "list" #[] e1)) vs 0 s
  ⟨[],0,rfl,t0,hk0,ha0⟩ ?step ?done)
 case step =>
  rintro j x s' hx ⟨ks,e,hl,ht,gk,ga⟩
  simp only [Nat.zero_add] at hl ht ⊢
  have hj:j<vs.length:=(List.getElem?_eq_some_iff.mp hx).1
  refine wpAny_bind (wpAny_attempt (wpAny_mono (turn j x ks s' hx hl ht) (fun k s2 he=>?_) fun _ _ hF=>hF.elim))
  obtain ⟨t2,k2,a2⟩:=he
  try dsimp only
  have gk2:=k2 _ gk
  have ga2:=a2 _ ga
  have s1:=Heap.SameBut.update s2.heap kS (Obj.mapSeq (·.push k))
  obtain ⟨c2,hc2⟩:∃ c2,(s2.heap.update kS (Obj.mapSeq (·.push k))).get? kS=some (seqObj "list" (ks.toArray.push k) c2):=⟨_,get?_update_seq gk2 (·.push k)⟩
  refine wpAny_bind (listUpdate_at gk2 rfl ?_ (by rw [List.size_toArray,sizeLine_eq]; omega) (Nat.le_trans (Nat.le_of_eq (Array.size_push ..)) (by rw [List.size_toArray,sizeLine_eq]; omega)))
  refine wpAny_pure ⟨rfl,ks++[k],c2,by rw [List.length_append,hl]; rfl,stab _ _ s2 _ t2 (fun b o n q=>(s1.2 b n).trans q) (Heap.size_update ..).symm ⟨_,hc2⟩,?_,(s1.2 a hka.symm).trans ga2⟩
  rw [hc2]
  simp
 case done =>
  rintro s' ⟨ks,e,hl,ht,gk,ga⟩
  simp only [Nat.zero_add] at hl ht
  try dsimp only
  refine wpAny_bind (listItems_at gk rfl ?_)
  exact done ks s' e hl ht gk ga
theorem oU {l f:Addr} {Q:Value→Shared→Prop} (hl:s.heap.IsList l vs.toArray) (h64:vs.length<64)
  (hrest:∀ (a kS:Addr) (e1:Nat) (h1:Heap) (P:PySem.Fin→Shared→Prop) (E':Value→Shared→Prop),HX s.heap h1→s.heap.objs.size≤a→s.heap.objs.size≤kS→kS≠a→s.heap.objs.size≤h1.objs.size→h1.get? kS=some (seqObj "list" #[] 0)→h1.get? a=some (seqObj "list" #[] e1) →
   (∀ s2,Q (.ref a) s2→P (.done (.ret .none)) s2)→wpAny (model prog w) A.in1.in1 (ksk_rest a (.ref f) false vs.toArray e1 (.ref kS)) P E' { s with heap:=h1 }) :
  wpAny (model prog w) A (call (.builtin "sorted") [.ref l] [(Str.ofString "key",.ref f)]) Q E s:=by
 refine call_function_entry_kw kind_sorted plain_sorted entry_sorted (ksk_s1 _ _) ?_
 unfold Builtin.«sorted»
 refine wpAny_bind (m:=checkCount "sorted" 1 1 _) (wpAny_pure ?_)
 refine wpAny_bind (collect_list hl ?_ (by rw [sizeLine_eq]; omega))
 refine wpAny_bind (wpAny_newList ?_ (by rw [sizeLine_eq]; omega))
 have hsz:((s.heap.push (seqObj "list" #[] 0)).update s.heap.objs.size (Obj.mapSeq (·++vs.toArray))).objs.size=s.heap.objs.size+1:=by
  rw [Heap.size_update,size_push']
 have hoL:(((s.heap.push (seqObj "list" #[] 0)).update s.heap.objs.size (Obj.mapSeq (·++vs.toArray))).push (seqObj "list" vs.toArray 0)).get? (s.heap.objs.size+1)=some (seqObj "list" vs.toArray 0):=by
  rw [← hsz]; exact Heap.get?_push_size _ rfl
 have keep:∀ b o,s.heap.get? b=some o→(((s.heap.push (seqObj "list" #[] 0)).update s.heap.objs.size (Obj.mapSeq (·++vs.toArray))).push (seqObj "list" vs.toArray 0)).get? b=some o:=fun b o q=>by
  have hlt:b<s.heap.objs.size:=Heap.lt_size q
  rw [Heap.get?_push_ne _ _ _ (by rw [hsz]; exact Nat.ne_of_lt (Nat.lt_succ_of_lt hlt)),Heap.get?_update_ne _ _ _ _ (Nat.ne_of_lt hlt),Heap.get?_push_ne _ _ _ (Nat.ne_of_lt hlt)]
  exact q
 have hsz2:(((s.heap.push (seqObj "list" #[] 0)).update s.heap.objs.size (Obj.mapSeq (·++vs.toArray))).push (seqObj "list" vs.toArray 0)).objs.size=s.heap.objs.size+2:=by rw [size_push',hsz]
 show wpAny _ _ _ _ _ { s with heap:=((s.heap.push (seqObj "list" #[] 0)).update s.heap.objs.size (Obj.mapSeq (·++vs.toArray))).push (seqObj "list" vs.toArray 0) }
 rw [hsz]
 refine wpAny_bind (wpAny_holding (wpAny_call_entry_kw slot_list_sort ⟨_,hoL,rfl⟩ entry_list_sort ?body (ksk_l1 _ _)))
 case body =>
  show wpAny (model prog w) A.in1.in1 (Builtin.«list.sort» ⟨[.ref (s.heap.objs.size+1)],[(Str.ofString "key",.ref f)]⟩) _ _ _
  rw [ksk_t1]
  generalize (((s.heap.push (seqObj "list" #[] 0)).update s.heap.objs.size (Obj.mapSeq (·++vs.toArray))).push (seqObj "list" vs.toArray 0))=h0 at hoL keep hsz2
  unfold ksk_tree
  refine wpAny_bind (listItems_at hoL rfl ?_)
  obtain ⟨e1,g1⟩:∃ e1,(h0.update (s.heap.objs.size+1) (Obj.mapSeq fun _=>(#[]:Array Value))).get? (s.heap.objs.size+1)=some (seqObj "list" #[] e1):=⟨_,get?_update_seq hoL fun _=>#[]⟩
  have k1:∀ b o,s.heap.get? b=some o→(h0.update (s.heap.objs.size+1) (Obj.mapSeq fun _=>(#[]:Array Value))).get? b=some o:=fun b o q=>by
   rw [Heap.get?_update_ne _ _ _ _ (Nat.ne_of_lt (Nat.lt_succ_of_lt (Heap.lt_size q)))]
   exact keep b o q
  have z1:(h0.update (s.heap.objs.size+1) (Obj.mapSeq fun _=>(#[]:Array Value))).objs.size=s.heap.objs.size+2:=by rw [Heap.size_update,hsz2]
  refine wpAny_bind (listUpdate_at hoL rfl ?_ (by rw [List.size_toArray,sizeLine_eq]; omega) (Nat.zero_le _))
  generalize (h0.update (s.heap.objs.size+1) (Obj.mapSeq fun _=>(#[]:Array Value)))=h1 at g1 k1 z1
  refine wpAny_bind (seqEpoch_at g1 rfl ?_)
  refine wpAny_bind (wpAny_newTuple ?_ (by show vs.length≤_; rw [sizeLine_eq]; omega))
  refine wpAny_bind (wpAny_newList ?_ (Nat.zero_le _))
  refine wpAny_holding ?_
  dsimp only
  have zk:(h1.push (seqObj "tuple" vs.toArray 0)).objs.size=s.heap.objs.size+3:=by rw [size_push',z1]
  refine hrest (s.heap.objs.size+1) ((h1.push (seqObj "tuple" vs.toArray 0)).objs.size) e1 ((h1.push (seqObj "tuple" vs.toArray 0)).push (seqObj "list" #[] 0)) _ _ (fun b o q=>Heap.get?_push_of_some _ (Heap.get?_push_of_some _ (k1 b o q))) (Nat.le_succ _) (by rw [zk]; omega) (by rw [zk]; exact Nat.ne_of_gt (Nat.lt_of_lt_of_le (Nat.lt_succ_self _) (by omega))) (by rw [size_push',zk]; omega)
   (Heap.get?_push_size _ rfl) (Heap.get?_push_of_some _ (Heap.get?_push_of_some _ g1)) (fun s2 q=>?_)
  exact ⟨_,rfl,wpAny_pure ⟨_,rfl,q⟩⟩
end
open PySem PySem.W PySem.Calls PySem.Spec PyProof.Rows
def goT {α:Type} (lt:Nat→Nat→Bool):KasT α→α
 | .ret a=>a
 | .ask i j k=>goT lt (k (lt i j))
theorem qA {α:Type} {n:Nat} {lt:Nat→Nat→Bool} {P:α→Prop}:∀ {t:KasT α},cI n lt P t→cI n lt (fun a=>a=goT lt t) t
 | .ret a,h=>rfl
 | .ask i j k,h=>⟨h.1,h.2.1,qA (t:=k (lt i j)) h.2.2⟩
theorem yN {α:Type} {n:Nat} {lt:Nat→Nat→Bool} {P:α→Prop}:∀ {t:KasT α},cI n lt P t→P (goT lt t)
 | .ret a,h=>h
 | .ask i j k,h=>yN (t:=k (lt i j)) h.2.2
noncomputable def ju (ds:List PyData):List Nat:=if ds.length<2 then List.range ds.length else (goT (fun i j=>dlt (ds.getD i .none) (ds.getD j .none)) (kas_sort ds.length)).toList
theorem iI (ds:List PyData):(ju ds).Perm (List.range ds.length):=by
 unfold ju
 by_cases h:ds.length<2
 ·rw [if_pos h]
 ·rw [if_neg h]
  have:=yN (gl (n:=ds.length) (lt:=fun i j=>dlt (ds.getD i .none) (ds.getD j .none)) (by omega))
  simpa using Array.perm_iff_toList_perm.mp this
theorem uB {ds:List PyData} {p:Array Nat} (gp:Gp ds.length p) (h:2≤ds.length→p=goT (fun i j=>dlt (ds.getD i .none) (ds.getD j .none)) (kas_sort ds.length)):p.toList=ju ds:=by
 unfold ju
 by_cases h2:ds.length<2
 ·rw [if_pos h2]
  have q:p.toList.Perm (List.range ds.length):=by simpa using Array.perm_iff_toList_perm.mp gp
  generalize ds.length=n at q h2
  match n,h2 with
  | 0,_=>exact List.perm_nil.mp q
  | 1,_=>exact List.perm_singleton.mp q
 ·rw [if_neg h2,h (by omega)]
section
variable {X:Cx}
def zm (K:Frag):List V→Hp→VK→Prop:=fun xs H Q=>∃ l vs ds,xs=[.ref l]∧SqL K H l vs∧bd H vs ds∧Aw ds∧∀ p,H p=none→Q (.ref p) (upd H p (.lst ((ju ds).map fun i=>vs.getD i .non)))
theorem qG (hu:X.A.units+64<cLine):bJ X (.builtin "sorted") (zm X.K):=by
 intro pins s σ H xs us Q I r h
 obtain ⟨l,vs,ds,rfl,hl,hk,ok,q⟩:=h
 obtain ⟨u,rfl,rx⟩:=cU r
 cases rx
 obtain ⟨its,ri,pl,hz⟩:=I.list hl
 have rd:=kE I.hok hk ri
 have ln:=hV rd
 have lv:=aK.length ri
 have l64:=ok.len
 have i1:=lQ X.A
 have i2:=lQ X.A.in1
 have kx:∀ {h':Heap},HX s.heap h'→cN h' its ds:=fun x=>rd.keeps fun a o vs n e _=>x a o e
 refine qR (U:=fun us=>us=its) (fun E' Qc hQ=>collect_list pl.isList (hQ _ s.toks its (fun b o e=>?_) ?_ rfl) (by omega)) (fun us hus=>?_)
 ·have lt:=Heap.lt_size e
  rw [Heap.get?_update_ne _ _ _ _ (Nat.ne_of_lt lt)]
  exact Heap.get?_push_of_some _ e
 ·rw [Heap.size_update,size_push']
  omega
 subst hus
 refine ⟨by omega,tuples' true,fun i j=>dlt (ds.getD i .none) (ds.getD j .none),fun p=>p=goT (fun i j=>dlt (ds.getD i .none) (ds.getD j .none)) (kas_sort us.length),fun h2 h' t Qk x qk=>?_,fun h' t i j C x hi hj hC=>?_,fun h2=>qA (gl (by omega)),fun h' t c D p gp rp x big e=>?_⟩
 ·obtain ⟨fs,kt,lf,kf⟩:=gw (kx x) fun d hd=>(ok.p d hd).2.2
  refine kat_kind (s:={ s with heap:=h',toks:=t }) (T:=.type "int") kt (by omega) (fun v hv=>?_) (by rfl) qk
  obtain ⟨f,rf⟩:=kf v hv
  cases rf
  exact .now
 ·have hi':i<ds.length:=by omega
  have hj':j<ds.length:=by omega
  have mi:ds.getD i .none∈ds:=by simp [hi']
  have mj:ds.getD j .none∈ds:=by simp [hj']
  have r1:=gc (kx x) i hi'
  have r2:=gc (kx x) j hj'
  have cc:=ok.c _ mi _ mj
  obtain ⟨p1,d1,f1,g1,e1⟩:=ok.p _ mi
  obtain ⟨p2,d2,f2,g2,e2⟩:=ok.p _ mj
  have hC':C (dlt (ds.getD i .none) (ds.getD j .none)) { s with heap:=h',toks:=t }:=hC t
  rw [e1] at r1 p1 d1 cc hC'
  rw [e2] at r2 p2 d2 cc hC'
  exact ni (s:={ s with heap:=h',toks:=t }) r1 r2 p1 p2 cc (by omega) hC'
 ·have ep:p.toList=ju ds:=uB (by rw [← ln]; exact gp) (fun h2=>by rw [rp (by omega),ln])
  refine ⟨.ref D,_,I.laid (t':=t) (a:=D) (o:=.lst ((ju ds).map fun i=>vs.getD i .non)) x big ?_,rfl,q D (I.hok.fresh big)⟩
  rw [← ep]
  exact ⟨by rw [List.length_map,Array.length_toList,gp.size,sizeLine_eq]; omega,_,c,nc ri p,e⟩
end
end L2
namespace K6
open PySem L2
theorem gM {R:List Rec}:∀ (n:Nat) {k:Str} {q:bH},q∈am R n k→q.2∈PL
 | 0,_,_,h=>nomatch h
 | n+1,k,q,h=>by
  unfold am at h
  split at h
  ·rename_i hk
   rw [List.mem_singleton.mp h]
   exact hk
  ·unfold lP at h
   obtain ⟨p,_,hq⟩:=List.mem_flatMap.mp h
   obtain ⟨q',hq',rfl⟩:=List.mem_map.mp hq
   have:=gM n hq'
   exact this
theorem gG {R:List Rec} {l:List Fld} {j:Nat} {fl:Fld} (h:l[j]?=some fl):ax R (l.take (j+1))=ax R (l.take j)++am R 4 fl.2:=by
 rw [List.take_add_one,h]
 unfold ax
 rw [List.flatMap_append]
 simp
theorem ip (R:List Rec) (l:List Fld) (j:Nat):∃ b,ax R l=ax R (l.take j)++b:=by
 refine ⟨ax R (l.drop j),?_⟩
 unfold ax
 rw [← List.flatMap_append,List.take_append_drop]
theorem wT {qs:List bH} {q:bH} {l:List PyData} {d:PyData} (h:Paired (fun d (q:bH)=>PcD q.2 d) l qs) (hd:PcD q.2 d):Paired (fun d (q:bH)=>PcD q.2 d) (l++[d]) (qs++[q]):=yE (R:=fun d (q:bH)=>PcD q.2 d) hd h
theorem fJ {R:List Rec} {l:List Fld} (hl:l.length≤3) (hd:∀ p∈l,bW R 4 p.2):(ax R l).length≤243:=by
 have:=bX (l:=l) (g:=fun p=>am R 4 p.2) (b:=81) fun p hp'=>bM 4 (hd p hp')
 unfold ax
 omega
def SzP (qs:List bH) (e:PyData):Prop:=∃ n l,e=.tuple [.int n,.tuple l]∧Paired (fun d (q:bH)=>PcD q.2 d) l qs
theorem vh {H:Hp}:∀ {v:List V} {d:List PyData},bd H v d→∀ x∈v,∃ e,e∈d∧KAt H x e
 | _,_,.nil,_,h=>nomatch h
 | _,_,.cons q r,x,h=>by
  rcases List.mem_cons.mp h with rfl | h
  ·exact ⟨_,List.mem_cons_self,q⟩
  ·obtain ⟨e,he,k⟩:=vh r x h
   exact ⟨e,List.mem_cons_of_mem _ he,k⟩
theorem fE {α β:Type} {F:α→β→Prop}:∀ {l:List α} {m:List β},Paired F l m→∀ a∈l,∃ b,b∈m∧F a b
 | _,_,.nil,_,h=>nomatch h
 | _,_,.cons q r,x,h=>by
  rcases List.mem_cons.mp h with rfl | h
  ·exact ⟨_,List.mem_cons_self,q⟩
  ·obtain ⟨e,he,k⟩:=fE r x h
   exact ⟨e,List.mem_cons_of_mem _ he,k⟩
theorem yB {qs:List bH} {ks:List PyData} (h:ks.length≤60) (hs:∀ e∈ks,SzP qs e):Aw ks:=by
 refine ⟨by omega,fun d hd=>?_,fun d hd e he=>?_⟩
 ·obtain ⟨n,l,rfl,lm⟩:=hs d hd
  have:=zu lm
  refine ⟨by simp only [pk,pks,Bool.and_eq_true]; exact ⟨trivial,this.1,trivial⟩,?_,n,[.tuple l],rfl⟩
  simp only [PyData.depth,PyData.depthAll]
  omega
 ·obtain ⟨n,l,rfl,lm⟩:=hs d hd
  obtain ⟨n2,l2,rfl,lm2⟩:=hs e he
  refine .tup ?_
  have c:kw [PyData.tuple l] [PyData.tuple l2]:=by
   by_cases z:PyData.tuple l=.tuple l2
   ·rw [z]
    exact .eq (.nil _)
   ·exact .ne z (.tup (oR lm lm2))
  by_cases z:PyData.int n=.int n2
  ·rw [z]
   exact .eq c
  ·exact .ne z (.int n n2)
theorem eX {r:Rm} {sort:Str} (h:sort≠Str.ofString "text"):bu r sort=(L2.intsFrom r.a (r.b+1 - r.a).toNat).map .int:=by
 unfold bu
 rw [if_neg h]
theorem jv {r:Rm} {sort:Str} (h:sort=Str.ofString "text"):bu r sort=(sgs r.d r.e).map fun c=>.str ⟨#[c]⟩:=by
 unfold bu
 rw [if_pos h]
theorem jA {d e:Int}:∀ {l:List PyData},(∀ z∈l,z∈(sgs d e).map fun c=>PyData.str ⟨#[c]⟩)→∃ ts:List Str,l=ts.map .str∧ts.length=l.length∧∀ z∈ts,∃ c,c∈EVs.cps.toList∧z=⟨#[c]⟩
 | [],_=>⟨[],rfl,rfl,fun _ z=>nomatch z⟩
 | x::l,h=>by
  obtain ⟨ts,e1,e2,e3⟩:=jA fun z hz=>h z (List.mem_cons_of_mem _ hz)
  obtain ⟨c,hc,e4⟩:=List.mem_map.mp (h x List.mem_cons_self)
  refine ⟨⟨#[c]⟩::ts,by rw [e1,← e4]; rfl,by simp [e2],fun z hz=>?_⟩
  rcases List.mem_cons.mp hz with rfl | hz
  ·exact ⟨c,(List.mem_filter.mp hc).1,rfl⟩
  ·exact e3 z hz
theorem rg {r:Rm} (h:cp r) {sort:Str} (hs:sort∈PL):∀ e∈dm r sort,PcD sort e:=by
 intro e he
 have hc:=h.c
 unfold dm at he
 by_cases h1:sort=Str.ofString "num"
 ·rw [if_pos h1] at he
  obtain ⟨i,_,rfl⟩:=List.mem_map.mp he
  exact .inl ⟨h1,i,rfl⟩
 rw [if_neg h1] at he
 by_cases h2:sort=Str.ofString "row"
 ·rw [if_pos h2] at he
  obtain ⟨l,hl,rfl⟩:=List.mem_map.mp he
  obtain ⟨l1,lm⟩:=eV _ hl
  rw [eX (by rw [h2]; decide +kernel)] at lm
  obtain ⟨is,e1,rfl⟩:=sk lm
  exact .inr (.inr ⟨h2,is,by rw [List.length_map] at l1; omega,rfl⟩)
 ·rw [if_neg h2] at he
  have ht:sort=Str.ofString "text":=by
   rcases List.mem_cons.mp hs with e | z
   ·exact absurd e h1
   rcases List.mem_cons.mp z with e | z
   ·exact e
   ·exact absurd (List.mem_singleton.mp z) h2
  obtain ⟨l,hl,rfl⟩:=List.mem_map.mp he
  obtain ⟨l1,lm⟩:=eV _ hl
  rw [jv ht] at lm
  obtain ⟨ts,rfl,e2,e3⟩:=jA lm
  have ej:iO (ts.map .str)=.str (Str.join "" ts):=by
   unfold iO
   rw [List.map_map,show (unS ∘ PyData.str)=id from rfl,List.map_id]
  have jo:=mS e3
  rw [ej]
  exact .inr (.inl ⟨ht,_,by rw [jo.1]; omega,rfl,jo.2⟩)
def bc (r:Rm) (qs:List bH):List (List PyData):=qs.foldl (fun acc q=>acc.flatMap fun row=>(dm r q.2).map fun d=>row++[d]) [[]]
theorem cW (r:Rm) (qs:List bH) (q:bH):bc r (qs++[q])=(bc r qs).flatMap fun row=>(dm r q.2).map fun d=>row++[d]:=by
 unfold bc
 rw [List.foldl_append]
 rfl
theorem iR {α:Type} {M:List α→Prop} (h0:M []) (h1:∀ l a,M l→M (l++[a])) (l:List α):M l:=by
 rw [← List.reverse_reverse l]
 induction l.reverse with
 | nil=>exact h0
 | cons a l ih=>rw [List.reverse_cons]; exact h1 _ _ ih
theorem fg (r:Rm) (qs:List bH):(bc r qs).length=aS r qs:=by
 refine iR (M:=fun qs=>(bc r qs).length=aS r qs) rfl (fun l q ih=>?_) qs
 rw [cW,iy (n:=cnt r q.2) (fun x _=>by rw [List.length_map,dJ]),ih,gU]
theorem cX {r:Rm} (h:cp r) (qs:List bH) (hq:∀ q∈qs,q.2∈PL):∀ l∈bc r qs,Paired (fun d (q:bH)=>PcD q.2 d) l qs:=by
 revert hq
 refine iR (M:=fun qs=>(∀ q∈qs,q.2∈PL)→∀ l∈bc r qs,Paired (fun d (q:bH)=>PcD q.2 d) l qs) (fun _ l hl=>?_) (fun qs q ih hq l hl=>?_) qs
 ·rw [List.mem_singleton.mp hl]
  exact .nil
 ·rw [cW] at hl
  obtain ⟨m,hm,hl⟩:=List.mem_flatMap.mp hl
  obtain ⟨d,hd,rfl⟩:=List.mem_map.mp hl
  exact wT (ih (fun q hq'=>hq q (List.mem_append_left _ hq')) m hm) (rg h (hq q (List.mem_append_right _ List.mem_cons_self)) d hd)
theorem bE {R:List Rec} {l:List Fld}:∀ q∈ax R l,q.2∈PL:=fun q hq=>by
 obtain ⟨p,_,h⟩:=List.mem_flatMap.mp hq
 exact gM 4 h
def ko (l:List PyData):PyData:=.tuple [.int (l.map szD).sum,.tuple l]
def oV (R:List Rec) (l:List Fld) (ds:List PyData):PyData:=.tuple (bD (fun k=>(am R 4 k).length) (bA R 4) (l.map (·.2)) ds)
noncomputable def mE (R:List Rec) (l:List Fld) (r:Rm):List PyData:=(ju ((bc r (ax R l)).map ko)).map fun i=>oV R l ((bc r (ax R l)).getD i [])
theorem uu {r:Rm} (h:cp r) {qs:List bH} (hq:∀ q∈qs,q.2∈PL):∀ e∈(bc r qs).map ko,SzP qs e:=fun e he=>by
 obtain ⟨l,hl,rfl⟩:=List.mem_map.mp he
 exact ⟨_,l,rfl,cX h qs hq l hl⟩
theorem fP (R:List Rec):∀ l:List Fld,(ax R l).length=((l.map (·.2)).map fun k=>(am R 4 k).length).sum
 | []=>rfl
 | p::l=>by
  show (am R 4 p.2++ax R l).length=_
  rw [List.length_append,fP R l]
  rfl
section
variable {P:Program} {w:World} {K:Frag} {mg:Str→Option Value} {base:Heap} {f g:Addr} {fd gd:FuncData}
abbrev fG:List Str:=["_law_program", "_law_f", "_law_room_here", "_law_records", "_law_flats", "_law_name", "_law_kind", "_law_path", "_law_sort", "_law_longer", "_law_row", "_law_found", "_law_size_here", "_law_pieces"]
abbrev ig:List Str:=["_law_row"]
theorem kQ:ig.Nodup:=by decide +kernel
abbrev ib:List Str:=["_law_one"]
theorem lG:ib.Nodup:=by decide +kernel
abbrev ie:List Str:=["_law_name", "_law_kind", "_law_records", "_law_pieces"]
theorem gA:ie.Nodup:=by decide +kernel
abbrev im:List Str:=["_law_one", "_law_row"]
theorem lW:im.Nodup:=by decide +kernel
theorem bf:aF fG ["_law_program", "_law_f", "_law_room_here"] (defScope dc):=⟨rfl,rfl,rfl,by decide +kernel,rfl,by decide +kernel,by decide +kernel⟩
def yM:Sp:=fun vs H Q _=>∃ pg i R FS F rv r,vs=[pg,.int (i:Nat),rv]∧hW H pg R FS∧wE R FS∧FS[i]?=some F∧jH H rv r∧cp r∧aS r (ax R F.2)≤60∧∀ l ys H',av H H'→H l=none→H' l=some (.lst ys)→bd H' ys (mE R F.2 r)→Q (.ref l) H'
theorem tI (T:G0 mg) (TX:GX mg) (F:Fun K "_law_inputs" "_law_inputs" dc f fd) (D_l_sorts:Cal P w K mg base 5 "_law_sorts" pSo (fF 4)) (D_l_all:Cal P w K mg base 1 "_law_all" pAl yC) (D_l_size:Cal P w K mg base 1 "_law_size" ["_law_value"] nQ) (D_l_put_together:Cal P w K mg base 5 "_law_put_together" pPu (nJ 4)):bg P w K mg base CX0 7 f fd ["_law_program", "_law_f", "_law_room_here"] yM:=by
 obtain ⟨g_l_size,gd_l_size,G_l_size,b_l_size,k_l_size,m_l_size⟩:=D_l_size.ex
 obtain ⟨g_l_put_together,gd_l_put_together,G_l_put_together,b_l_put_together,k_l_put_together,m_l_put_together⟩:=D_l_put_together.ex
 obtain ⟨g_l_sorts,gd_l_sorts,G_l_sorts,b_l_sorts,k_l_sorts,m_l_sorts⟩:=D_l_sorts.ex
 obtain ⟨g_l_all,gd_l_all,G_l_all,b_l_all,k_l_all,m_l_all⟩:=D_l_all.ex
 refine F.ok bf (fun vs H Q E h=>?_) (fun cdv A outer s H vs Q E hr h=>?_)
 ·obtain ⟨pg,i,R,FS,F,rl,r,rfl,_⟩:=h
  rfl
 obtain ⟨pg,i,R,FS,FF,rv,r,rfl,hp,hpg,hF,⟨rp,rfl,hrp⟩,hok,hmn,q⟩:=h
 obtain ⟨hl,hDp⟩:=hpg.fl FF (List.mem_of_getElem? hF)
 obtain ⟨a,y,b,fs,rfl,ha,hRc,hb,pf⟩:=id hp
 obtain ⟨fx,hfx,c,yy,l0,b',rfl,hc,pb,xs,rfl,hpb,rs⟩:∃ fx,fs[i]?=some fx∧io H fx FF:=by
  obtain ⟨fx,h1⟩:∃ fx,fs[i]?=some fx:=⟨_,List.getElem?_eq_getElem (by rw [Paired.length pf]; exact (List.getElem?_eq_some_iff.mp hF).1)⟩
  obtain ⟨F2,h2,h3⟩:=aH pf i fx h1
  rw [hF] at h2
  cases h2
  exact ⟨fx,h1,h3⟩
 have lfp:=fJ hl hDp
 have lrs:=Paired.length rs
 refine ⟨_,(@al _ _ _ _ _ (@aB _ _ 3 _ _ _ _ bf.nd rfl (Or.inr rfl) (@ay _ _ _ _ _ _ _ aL (pv 0) ak (fun _ _=>rfl)) (ao rfl) (.inl rfl)) (@al _ _ _ _ _ (@aB _ _ 4 _ _ _ _ bf.nd rfl (Or.inl rfl) (@aR _ _ _ _ (@ad _ _ _ _ _ (@aW _ _ _ _ _ ag) ag (ac rfl))) (ao rfl) (.inr rfl)) (@al _ _ _ _ _ (@bn _ _ _ _ _ _ _ _ PassesOwn.never rfl (cG (@ay _ _ _ _ _ _ _ aL (@ay _ _ _ _ _ _ _ aL (@ay _ _ _ _ _ _ _ aL (pv 0) ak (fun _ _=>rfl)) (pv 1) (fun _ _=>rfl)) ak (fun _ _=>rfl))) (cQ rfl (aJ (au (i:=5) bf.nd rfl (Or.inl rfl)) (aJ (au (i:=6) bf.nd rfl (Or.inl rfl)) bP))) (@ap _ _ _ (@bn _ _ _ _ _ _ _ _ PassesOwn.never rfl (aZ (@ar _ _ _ _ _ _ _ _ _ _ _ _ _ _ _ _ G_l_sorts (hr.mono (by omega)) rfl m_l_sorts k_l_sorts b_l_sorts .nil aE (@ad _ _ _ _ _ (pv 3) (@ad _ _ _ _ _ (pv 6) ag (ac rfl)) (ac rfl)) (by decide) (ac rfl) (aj rfl))) (cQ rfl (aJ (au (i:=7) bf.nd rfl (Or.inl rfl)) (aJ (au (i:=8) bf.nd rfl (Or.inl rfl)) bP))) (@al _ _ _ _ _ (@aB _ _ 9 _ _ _ _ bf.nd rfl (Or.inl rfl) (@aR _ _ _ _ ag) (ao rfl) (.inr rfl)) (@al _ _ _ _ _ (@bn _ _ _ _ _ _ _ _ PassesOwn.never rfl (aZ (pv 4)) (au (i:=10) bf.nd rfl (Or.inr rfl)) (@ap _ _ _ (@bY _ _ _ _ (@dB _ _ _ _ _ _ _ _ _ _ _ _ PySem.F.plainAttrs_list PySem.F.slot_list_extend PySem.F.type_list_extend dO (pv 9) (@ad _ _ _ _ _ (be (N':=im) (ρ:=[none,some 10]) (m:=1) (bt.of (fs:=defScope dc) (N:=fG) rfl rfl (by decide +kernel)) rfl (aZ (ar G_l_all (hr.mono (by omega)) rfl m_l_all k_l_all b_l_all .nil aE (ad (pv 2) (ad (pv 8) ag)))) (fun _ _ _ _=>(au (i:=0) lW rfl (Or.inl rfl))) (fun _ _ _ _=>bq) (fun _ _ _ _=>(aG (gJ (K:=K) rfl) (pv 1) (aW (ad (pv 0) ag))))) ag (ac rfl)) rfl (cH rfl rfl) rfl (ac rfl) (aj rfl)) (ao rfl))) (fun _=>rfl)) (@ap _ _ _ (@aB _ _ 4 _ _ _ _ bf.nd rfl (Or.inl rfl) (pv 9) (ao rfl) (.inr rfl))))) (fun _=>rfl))) (fun _=>rfl)) (@al _ _ _ _ _ (@aB _ _ 11 _ _ _ _ bf.nd rfl (Or.inl rfl) (@aR _ _ _ _ ag) (ao rfl) (.inr rfl)) (@al _ _ _ _ _ (@bn _ _ _ _ _ _ _ _ PassesOwn.never rfl (aZ (@aA _ _ _ _ _ _ _ _ _ (qG hr.units) rfl TX.sorted oP (@ad _ _ _ _ _ (be (N':=ig) (ρ:=[none]) (m:=1) (bt.of (fs:=defScope dc) (N:=fG) rfl rfl (by decide +kernel)) rfl (aZ (pv 4)) (fun _ _ _ _=>(au (i:=0) kQ rfl (Or.inl rfl))) (fun _ _ _ _=>bq) (fun _ _ _ _=>(aW (ad (aA (tU (K:=K) rfl rfl) rfl TX.sum kZ (ad (be (N':=ib) (ρ:=[none]) (m:=1) (bt.plain (by decide +kernel)) rfl (xA (K:=K) rfl (pv 0)) (fun _ _ _ _=>(au (i:=0) lG rfl (Or.inl rfl))) (fun _ _ _ _=>bq) (fun _ _ _ _=>(ar G_l_size (hr.mono (by omega)) rfl m_l_size k_l_size b_l_size .nil aE (ad (pv 0) ag)))) ag)) (ad (pv 0) ag))))) ag (ac rfl)) (by decide) (by decide) (ac rfl) (aj rfl))) (cQ rfl (aJ (au (i:=12) bf.nd rfl (Or.inl rfl)) (aJ (au (i:=10) bf.nd rfl (Or.inr rfl)) bP))) (@al _ _ _ _ _ (@aB _ _ 13 _ _ _ _ bf.nd rfl (Or.inr rfl) (@aX _ _ _ _ _ _ _ _ _ nO rfl T.list nT (@ad _ _ _ _ _ (pv 10) ag (ac rfl)) (by decide) (by decide) (ac rfl) (aj rfl)) (ao rfl) (.inl rfl)) (@ap _ _ _ (@bY _ _ _ _ (@dB _ _ _ _ _ _ _ _ _ _ _ _ PySem.F.plainAttrs_list PySem.F.slot_list_append PySem.F.type_list_append cZ (pv 11) (@ad _ _ _ _ _ (@aX _ _ _ _ _ _ _ _ _ bv rfl T.tuple dI (@ad _ _ _ _ _ (be (N':=ie) (ρ:=[none,none,some 3,some 13]) (m:=2) (bt.of (fs:=defScope dc) (N:=fG) rfl rfl (by decide +kernel)) rfl (cG (ay aL (ay aL (ay aL (pv 0) ak (fun _ _=>rfl)) (pv 1) (fun _ _=>rfl)) ak (fun _ _=>rfl))) (fun _ _ _ _=>(ou (n:=2) (K:=K) rfl rfl (aJ (au (i:=0) gA rfl (Or.inl rfl)) (aJ (au (i:=1) gA rfl (Or.inl rfl)) bP)))) (fun _ _ _ _=>bq) (fun _ _ _ _=>(ar G_l_put_together (hr.mono (by omega)) rfl m_l_put_together k_l_put_together b_l_put_together .nil aE (ad (pv 2) (ad (pv 1) (ad (pv 3) ag)))))) ag (ac rfl)) (by decide) (by decide) (ac rfl) (aj rfl)) ag (ac rfl)) rfl (cH rfl rfl) rfl (ac rfl) (aj rfl)) (ao rfl)))) (fun _=>rfl)) (@ap _ _ _ (@aD _ _ _ _ (pv 11)))))))),?_⟩
 refine ⟨_,rfl,a,_,_,_,rfl,rfl,SqT.of ha,rfl,(by show 0≤sizeLine; decide),fun p1 h1=>⟨(by show 1≤sizeLine; decide),fun l1 hl1=>?_⟩⟩
 have s1:=af h1 (.tup [])
 have s2:=af hl1 (.lst [.ref p1])
 have gD:=s1.trans s2
 have e1:_=some (HO.tup []):=s2 _ _ ae
 have el:_=some (HO.lst [.ref p1]):=ae (H:=upd H p1 (.tup [])) (a:=l1)
 generalize (upd (upd H p1 (.tup [])) l1 (.lst [.ref p1]))=H1 at gD e1 el
 dsimp only [jU]
 refine eW (fun σ H2=>∃ l4 xs m5 m6 m7 m8 m9 m10,σ=[some (.ref a),some (.int (i:Nat)),some (.ref rp),some y,some (.ref l4),m5,m6,m7,m8,m9,m10,none,none,none]∧av H H2∧H2 l4=some (.lst xs)∧bd H2 xs ((bc r (ax R FF.2)).map .tuple)) (fun NX hNX=>?_) (fun σ H2 jj=>?_)
 ·refine ⟨_,rfl,a,_,_,_,rfl,rfl,SqT.of (gD _ _ ha),rfl,_,rfl,b,_,_,_,rfl,rfl,SqT.of (gD _ _ hb),jr hfx,c,_,_,_,rfl,rfl,SqT.of (gD _ _ hc),rfl,?_⟩
  refine ⟨pb,rfl,⟨xs,SqT.of (gD _ _ hpb)⟩,fo (xs:=xs) (fun j σ H2=>∃ l4 xs m5 m6 m7 m8 m9 m10,σ=[some (.ref a),some (.int (i:Nat)),some (.ref rp),some y,some (.ref l4),m5,m6,m7,m8,m9,m10,none,none,none]∧av H1 H2∧H2 l4=some (.lst xs)∧bd H2 xs ((bc r (ax R (FF.2.take j))).map .tuple)) ⟨l1,_,_,_,_,_,_,_,rfl,av.refl _,el,.cons (.tup e1 .nil) .nil⟩ (fun j σ H2 _ p=>?_) (fun j u σ H2 hx p=>?_) (fun σ H2 p=>?_)⟩
  ·obtain ⟨_,_,_,_,_,_,_,_,_,g2,_⟩:=p
   exact SqT.of (g2 _ _ (gD _ _ hpb))
  ·obtain ⟨l4,xs4,m5,m6,m7,m8,m9,m10,rfl,g2,hl4,kes⟩:=p
   obtain ⟨fl,hfl,ta,rfl,hta⟩:=aH rs j u hx
   have G2:=gD.trans g2
   have dp:=hDp fl (List.mem_of_getElem? hfl)
   have efp:=gG (R:=R) hfl
   obtain ⟨bb,ebb⟩:=ip R FF.2 (j+1)
   refine ⟨ta,_,rfl,SqT.of (G2 _ _ hta),rfl,_,_,rfl,_,_,rfl,rfl,?_⟩
   refine ⟨_,rfl,_,rfl,y,fl.2,R,rfl,hRc.mono (ah G2),hpg.rn,by have:=hpg.rl; omega,by decide,dp,fun rr zs H3 g3 hr0 hrz pz=>?_⟩
   have lz:=Paired.length pz
   refine ⟨rr,rfl,⟨zs,SqL.of hrz⟩,bK (xs:=zs) (fun jj σ H4=>∃ l4 xs m7 m8 m9 m10,σ=[some (.ref a),some (.int (i:Nat)),some (.ref rp),some y,some (.ref l4),some (.str fl.1),some (.str fl.2),m7,m8,m9,m10,none,none,none]∧av H3 H4∧H4 l4=some (.lst xs)∧bd H4 xs ((bc r (ax R (FF.2.take j)++(am R 4 fl.2).take jj)).map .tuple)) ⟨l4,xs4,_,_,_,_,rfl,av.refl _,g3 _ _ hl4,by rw [List.take_zero,List.append_nil]; exact kes.mono (ah g3)⟩ (fun jj σ H4 _ p=>?_) (fun jj u σ H4 hx2 p=>?_) (fun σ H4 p=>?_)⟩
   ·obtain ⟨_,_,_,_,_,_,_,g4,_⟩:=p
    exact SqL.of (g4 _ _ hrz)
   ·obtain ⟨l4,xs4,m7,m8,m9,m10,rfl,g4,hl4,kes⟩:=p
    obtain ⟨qq,hqq,hpa⟩:=aH pz jj u hx2
    obtain ⟨a2,y2,rfl,ha2,a3,rfl,ha3⟩:=hpa.mono (ah g4)
    have G4:=G2.trans (g3.trans g4)
    have hrp4:=G4 _ _ hrp
    have hso:=gM 4 (List.mem_of_getElem? hqq)
    have eqs:ax R (FF.2.take j)++(am R 4 fl.2).take (jj+1)=(ax R (FF.2.take j)++(am R 4 fl.2).take jj)++[qq]:=by rw [List.take_add_one,hqq,← List.append_assoc]; rfl
    have pre:∃ b,ax R FF.2=((ax R (FF.2.take j)++(am R 4 fl.2).take jj)++[qq])++b:=by
     rw [← eqs]
     refine ⟨(am R 4 fl.2).drop (jj+1)++bb,?_⟩
     rw [ebb,efp,List.append_assoc (ax R (FF.2.take j)) ((am R 4 fl.2).take (jj+1)),← List.append_assoc ((am R 4 fl.2).take (jj+1)),List.take_append_drop,List.append_assoc]
    rw [eqs]
    generalize (ax R (FF.2.take j)++(am R 4 fl.2).take jj)=qs at kes pre
    obtain ⟨b2,eb2⟩:=pre
    have hqs:∀ q∈qs,q.2∈PL:=fun q hq=>bE q (by rw [eb2]; exact List.mem_append_left _ (List.mem_append_left _ hq))
    have lfl:=fg r qs
    have mle:aS r (qs++[qq])≤60:=by
     have:=pK hok (qs++[qq]) b2
     rw [← eb2] at this
     omega
    have lqs:qs.length≤243:=by
     have:=congrArg List.length eb2
     rw [List.length_append,List.length_append] at this
     omega
    rw [gU] at mle
    have cle:cnt r qq.2≤60:=Nat.le_trans (Nat.le_mul_of_pos_left _ (lH hok qs)) mle
    have lxs4:=aO kes
    rw [List.length_map,lfl] at lxs4
    refine ⟨a2,_,rfl,SqT.of ha2,rfl,_,_,rfl,_,_,rfl,rfl,?_⟩
    refine ⟨(by show 0≤sizeLine; decide),fun t ht=>?_⟩
    have st:=af ht (.lst [])
    have G5:=G4.trans st
    have S5:=g4.trans st
    have htt:(upd H4 t (.lst [])) t=some (.lst []):=ae
    have hl5:=st _ _ hl4
    have nlt:l4≠t:=aq hl4 ht
    have kes5:=kes.mono (ah st)
    have hrp5:=st _ _ hrp4
    generalize (upd H4 t (.lst []))=H5 at G5 S5 htt hl5 kes5 hrp5
    refine ⟨_,rfl,l4,rfl,⟨xs4,SqL.of hl5⟩,bK (xs:=xs4) (fun k σ H6=>∃ m10 ws,σ=[some (.ref a),some (.int (i:Nat)),some (.ref rp),some y,some (.ref l4),some (.str fl.1),some (.str fl.2),some (.ref a3),some (.str qq.2),some (.ref t),m10,none,none,none]∧Ext t H5 H6∧H6 t=some (.lst ws)∧bd H6 ws ((((bc r qs).take k).flatMap fun row=>(dm r qq.2).map fun d=>row++[d]).map .tuple)) ⟨_,[],rfl,Ext.refl _ _,htt,.nil⟩ (fun k σ H6 _ p=>?_) (fun k x σ H6 hx p=>?_) (fun σ H6 p=>?_)⟩
    ·obtain ⟨_,_,_,x6,_⟩:=p
     exact SqL.of (x6 _ _ nlt hl5)
    ·obtain ⟨m10',ws,rfl,x6,hz,khs⟩:=p
     obtain ⟨e,he,ke⟩:=cg kes5 k x hx
     rw [List.getElem?_map] at he
     obtain ⟨l,hlj,rfl⟩:=Option.map_eq_some_iff.mp he
     have lm:=cX hok qs hqs l (List.mem_of_getElem? hlj)
     have k6:=aY x6 htt
     have ke6:=ke.mono k6
     have hk:k<aS r qs:=by
      rw [← lxs4]
      exact (List.getElem?_eq_some_iff.mp hx).1
     have lz0:ws.length=k*cnt r qq.2:=by
      rw [aO khs,List.length_map,iy (n:=cnt r qq.2) (fun x _=>by rw [List.length_map,dJ]),List.length_take,lfl,Nat.min_eq_left (by omega)]
     have szz:k*cnt r qq.2+cnt r qq.2≤aS r qs*cnt r qq.2:=by
      rw [← Nat.succ_mul]
      exact Nat.mul_le_mul_right _ hk
     cases ke6 with
     | @tup xa xl _ hxa kxl =>
      have lxl:=aO kxl
      have lm':=Paired.length lm
      refine ⟨_,rfl,.inl ⟨rfl,_,SqL.of hz⟩,_,rfl,_,rfl,_,r,qq.2,rfl,⟨rp,rfl,k6 _ _ hrp5⟩,hok,hso,cle,fun nl ns H7 g7 hnl0 hnl kns=>?_⟩
      have lns:=aO kns
      rw [dJ] at lns
      have hxa7:=g7 _ _ hxa
      refine ⟨nl,rfl,⟨ns,SqL.of hnl⟩,bF (xs:=ns) ns.length rfl (by omega) (fun jj acc H8=>av H7 H8∧bd H8 acc ((((dm r qq.2).take jj).map fun d=>l++[d]).map .tuple)) ⟨av.refl _,.nil⟩ (fun jj acc H8 p=>SqL.of (p.1 _ _ hnl)) (fun jj acc H8 v hjj la hv p=>?_) (fun acc H8 p la D hD=>?_)⟩
      ·obtain ⟨g8,kks⟩:=p
       obtain ⟨d,hd,kd⟩:=cg kns jj v hv
       have hxa8:=g8 _ _ hxa7
       have fin:∀ (u:V) (H9:Hp),av H8 H9→KAt H9 u (.tuple (l++[d]))→av H7 H9∧bd H9 (acc++[u]) ((((dm r qq.2).take (jj+1)).map fun d=>l++[d]).map .tuple):=by
        intro u H9 g9 ku
        refine ⟨g8.trans g9,?_⟩
        rw [List.take_add_one,hd,Option.toList_some,List.map_append,List.map_append]
        exact bC (kks.mono (ah g9)) (.cons ku .nil)
       refine ⟨⟨rfl,rfl⟩,bp ?_⟩
       refine ⟨_,rfl,_,rfl,(by show 1≤sizeLine; decide),fun q1 hq1=>?_⟩
       have g9:=af hq1 (.tup [v])
       have ky:=kd.mono (ah (g8.trans g9))
       by_cases cx:xl=[]
       ·subst cx
        have:l=[]:=List.eq_nil_of_length_eq_zero (by rw [← lxl]; rfl)
        subst this
        exact .inr ⟨xa,q1,[v],rfl,rfl,SqT.of (g9 _ _ hxa8),SqT.of ae,nxT (by omega) hjj la (fin (.ref q1) _ g9 (.tup ae (.cons ky .nil)))⟩
       ·refine .inl ⟨xa,q1,xl,[v],rfl,rfl,SqT.of (g9 _ _ hxa8),SqT.of ae,cx,Nat.le_of_lt (aC (by simp; omega)),fun z=>absurd z (by simp),fun _ q3 hq3=>?_⟩
        have g10:=af hq3 (.tup (xl++[v]))
        exact nxT (by omega) hjj la (fin (.ref q3) _ (g9.trans g10) (.tup ae (bC ((kxl.mono (ah g7)).mono (ah (g8.trans (g9.trans g10)))) (.cons (ky.mono (ah g10)) .nil))))
      ·obtain ⟨g8,kks⟩:=p
       rw [lns,← dJ,List.take_length] at kks
       have lac:=aO kks
       rw [List.length_map,List.length_map,dJ] at lac
       have gD':=af hD (.lst acc)
       have g78:=(g7.trans g8).trans gD'
       have htD:=g78 _ _ hz
       have kt:=cj htD (.lst (ws++acc))
       refine ⟨t,D,ws,acc,rfl,rfl,htD,ae,Nat.le_of_lt (aC (by omega)),?_⟩
       refine ⟨_,ws++acc,rfl,(x6.trans (av.ext g78)).trans Ext.upd,ae,?_⟩
       rw [List.take_add_one,hlj,Option.toList_some,List.flatMap_append,List.flatMap_singleton,List.map_append]
       exact bC ((khs.mono (ah g78)).mono kt) ((kks.mono (ah gD')).mono kt)
    ·obtain ⟨m10',ws,rfl,x6,hz,khs⟩:=p
     rw [List.take_of_length_le (by rw [lxs4,lfl]; exact Nat.le_refl _),← cW] at khs
     have S6:av H3 H6:=fun b o e=>x6 _ _ (aq e (g4.free ht)) (S5 _ _ e)
     exact ⟨_,rfl,t,ws,_,_,_,_,rfl,S6,hz,khs⟩
   ·obtain ⟨l4,xs4,m7,m8,m9,m10,rfl,g4,hl4,kes⟩:=p
    rw [lz,List.take_length,← efp] at kes
    exact ⟨l4,xs4,_,_,_,_,_,_,rfl,g2.trans (g3.trans g4),hl4,kes⟩
  ·obtain ⟨l4,xs4,m5,m6,m7,m8,m9,m10,rfl,g2,hl4,kes⟩:=p
   rw [lrs,List.take_length] at kes
   exact hNX _ _ ⟨l4,xs4,_,_,_,_,_,_,rfl,gD.trans g2,hl4,kes⟩
 obtain ⟨l4,xs4,m5,m6,m7,m8,m9,m10,rfl,G2,hl4,kes⟩:=jj
 have lxs4:=aO kes
 have lfl:=fg r (ax R FF.2)
 rw [List.length_map,lfl] at lxs4
 have frow:=cX hok (ax R FF.2) bE
 have ksz:=uu hok (qs:=ax R FF.2) bE
 have lkz:((bc r (ax R FF.2)).map ko).length=aS r (ax R FF.2):=by rw [List.length_map,lfl]
 unfold mE at q
 have fget:∀ i l,(bc r (ax R FF.2))[i]?=some l→(bc r (ax R FF.2)).getD i []=l:=fun i l h=>by rw [List.getD_eq_getElem?_getD,h]; rfl
 generalize bc r (ax R FF.2)=FL at *
 refine ⟨(by show 0≤sizeLine; decide),fun t ht=>?_⟩
 have st:=af ht (.lst [])
 have G3:=G2.trans st
 have htt:(upd H2 t (.lst [])) t=some (.lst []):=ae
 have hl3:=st _ _ hl4
 have Ht:H t=none:=G2.free ht
 have kes3:=kes.mono (ah st)
 generalize (upd H2 t (.lst []))=H3 at G3 htt hl3 kes3
 refine ⟨_,rfl,l4,rfl,⟨xs4,SqL.of hl3⟩,bF (xs:=xs4) xs4.length rfl (by omega) (fun k acc H'=>av H3 H'∧bd H' acc ((FL.take k).map ko)) ⟨av.refl _,.nil⟩ (fun k acc H' p=>SqL.of (p.1 _ _ hl3)) (fun k acc H4 x hk la hx p=>?_) (fun acc H4 p la D hD=>?_)⟩
 ·obtain ⟨g4,kks⟩:=p
  obtain ⟨e,he,ke⟩:=cg kes3 k x hx
  rw [List.getElem?_map] at he
  obtain ⟨l,hlk,rfl⟩:=Option.map_eq_some_iff.mp he
  have lm:=frow l (List.mem_of_getElem? hlk)
  have lm':=Paired.length lm
  cases ke with
  | @tup xa xl _ hxa kxl =>
   have lxl:=aO kxl
   have hxa4:=g4 _ _ hxa
   refine ⟨⟨rfl,rfl⟩,bp ?_⟩
   refine ⟨_,rfl,xa,rfl,⟨xl,SqT.of hxa4⟩,cO (xs:=xl) xl.length rfl (by omega) (fun jj acc H'=>av H4 H'∧acc=((l.take jj).map szD).map V.int) ⟨av.refl _,rfl⟩ (fun jj acc H' p=>SqT.of (p.1 _ _ hxa4)) (fun jj acc2 H5 v hjj la2 hv p=>?_) (fun acc2 H5 p la2 D2 hD2=>?_)⟩
   ·obtain ⟨g5,rfl⟩:=p
    obtain ⟨d,hd,kd⟩:=cg kxl jj v hv
    obtain ⟨qq,_,hpd⟩:=aH lm jj d hd
    have kd5:=kd.mono (ah (g4.trans g5))
    refine ⟨⟨rfl,rfl⟩,bp ?_⟩
    refine ⟨_,rfl,v,d,qq.2,rfl,kd5,hpd,fun H6 g6=>nxT (by omega) hjj la2 ⟨g5.trans g6,?_⟩⟩
    rw [List.take_add_one,hd,Option.toList_some,List.map_append,List.map_append]
    rfl
   ·obtain ⟨g5,rfl⟩:=p
    rw [lxl,List.take_length]
    have gD2:=af hD2 (.lst ((l.map szD).map V.int))
    refine ⟨D2,l.map szD,rfl,SqL.of ae,_,rfl,(by show 2≤sizeLine; decide),fun p2 hp2=>?_⟩
    have g6:=af hp2 (.tup [.int (l.map szD).sum,.ref xa])
    have G6:=(g5.trans gD2).trans g6
    refine nxT (by omega) hk la ⟨g4.trans G6,?_⟩
    rw [List.take_add_one,hlk,Option.toList_some,List.map_append]
    exact bC (kks.mono (ah G6)) (.cons (.tup ae (.cons (.int _) (.cons (.tup (G6 _ _ hxa4) ((kxl.mono (ah g4)).mono (ah G6))) .nil))) .nil)
 obtain ⟨g4,kks⟩:=p
 rw [List.take_of_length_le (by rw [lxs4,lfl]; exact Nat.le_refl _)] at kks
 have gD4:=af hD (.lst acc)
 have kks5:=kks.mono (ah gD4)
 have lacc:=aO kks
 rw [lkz] at lacc
 refine ⟨D,acc,FL.map ko,rfl,SqL.of ae,kks5,yB (by omega) ksz,fun p hpn=>?_⟩
 have perm:=iI (FL.map ko)
 rw [lkz,← lacc] at perm
 generalize hix:ju (FL.map ko)=ix at perm hpn q ⊢
 have g5:=af hpn (.lst (ix.map fun i=>acc.getD i .non))
 have hpp:(upd (upd H4 D (.lst acc)) p (.lst (ix.map fun i=>acc.getD i .non))) p=_:=ae
 have G5:=G3.trans (g4.trans (gD4.trans g5))
 have ht5:=(g4.trans (gD4.trans g5)) _ _ htt
 have kks6:=kks5.mono (ah g5)
 have npt:p≠t:=(aq ((g4.trans gD4) _ _ htt) hpn).symm
 have lix:ix.length=acc.length:=by rw [perm.length_eq,List.length_range]
 generalize (upd (upd H4 D (.lst acc)) p (.lst (ix.map fun i=>acc.getD i .non)))=H5 at hpp G5 ht5 kks6
 refine ⟨p,rfl,⟨_,SqL.of hpp⟩,bK (xs:=ix.map fun i=>acc.getD i .non) (fun k σ H'=>∃ m10 m12 m13 ys,σ=[some (.ref a),some (.int (i:Nat)),some (.ref rp),some y,some (.ref l4),m5,m6,m7,m8,m9,m10,some (.ref t),m12,m13]∧Ext t H5 H'∧H' t=some (.lst ys)∧bd H' ys ((ix.take k).map fun i=>oV R FF.2 (FL.getD i []))) ⟨_,_,_,[],rfl,Ext.refl _ _,ht5,.nil⟩ (fun k σ H' _ pp=>?_) (fun k x σ H6 hx pp=>?_) (fun σ H6 pp=>?_)⟩
 ·obtain ⟨_,_,_,_,_,x6,_⟩:=pp
  exact SqL.of (x6 _ _ npt hpp)
 ·obtain ⟨m10',m12,m13,ys,rfl,x6,hty,kgs⟩:=pp
  have hkl:k<acc.length:=by
   have:=(List.getElem?_eq_some_iff.mp hx).1
   rw [List.length_map] at this
   omega
  rw [List.getElem?_map] at hx
  obtain ⟨i0,hi0,e0⟩:=Option.map_eq_some_iff.mp hx
  have lt0:i0<acc.length:=List.mem_range.mp (perm.subset (List.mem_of_getElem? hi0))
  have hxm:acc[i0]?=some x:=by
   rw [List.getElem?_eq_getElem lt0,← e0,List.getD_eq_getElem?_getD,List.getElem?_eq_getElem lt0]
   rfl
  obtain ⟨e,he,ke⟩:=cg kks6 i0 x hxm
  rw [List.getElem?_map] at he
  obtain ⟨l,hl0,rfl⟩:=Option.map_eq_some_iff.mp he
  have lm:=frow l (List.mem_of_getElem? hl0)
  have lik:(ix.take k).length=k:=by
   rw [List.length_take]
   omega
  have k6:=aY x6 ht5
  have lm':=Paired.length lm
  cases ke with
  | @tup xq xqs _ hxq kq =>
   cases kq with
   | @cons v0 vr _ _ kv0 kvr =>
    cases kv0
    cases kvr with
    | @cons v1 vr2 _ _ kv1 kvr2 =>
     cases kvr2
     cases kv1 with
     | @tup xa xl _ hxa kxl =>
      have lxl:=aO kxl
      refine ⟨xq,_,rfl,SqT.of (k6 _ _ hxq),rfl,_,_,rfl,_,_,rfl,rfl,?_⟩
      refine ⟨_,rfl,xa,xl,rfl,.inr (SqT.of (k6 _ _ hxa)),fun pl hpl=>?_⟩
      have g7:=af hpl (.lst xl)
      have hplv:(upd H6 pl (.lst xl)) pl=some (.lst xl):=ae
      have hty7:=g7 _ _ hty
      have kgs7:=kgs.mono (ah g7)
      have k7:=k6.trans (ah g7)
      have ntp:t≠pl:=aq hty hpl
      have X7:Ext t H5 (upd H6 pl (.lst xl)):=x6.trans (av.ext g7)
      generalize (upd H6 pl (.lst xl))=H7 at hplv hty7 kgs7 k7 X7
      have kxl7:=kxl.mono k7
      have G7:Tk H H7:=(ah G5).trans k7
      refine ⟨_,rfl,.inl ⟨rfl,_,SqL.of hty7⟩,?_⟩
      refine ⟨_,rfl,a,_,_,_,rfl,rfl,SqT.of (G7 _ _ ha),rfl,_,rfl,b,_,_,_,rfl,rfl,SqT.of (G7 _ _ hb),jr hfx,c,_,_,_,rfl,rfl,SqT.of (G7 _ _ hc),rfl,?_⟩
      refine ⟨pb,rfl,⟨xs,SqT.of (G7 _ _ hpb)⟩,cO (xs:=xs) xs.length rfl (by omega) (fun jj acc H'=>Ext pl H7 H'∧H' pl=some (.lst (xl.drop (ax R (FF.2.take jj)).length))∧bd H' acc (bD (fun k=>(am R 4 k).length) (bA R 4) ((FF.2.take jj).map (·.2)) l)) ⟨Ext.refl _ _,hplv,.nil⟩ (fun jj acc H' p=>SqT.of (aY p.1 hplv _ _ (G7 _ _ hpb))) (fun jj acc2 H8 u hjj la2 hu pp=>?_) (fun acc2 H8 pp la2 D2 hD2=>?_)⟩
      ·obtain ⟨x8,hp8,kes2⟩:=pp
       obtain ⟨fl,hfl,ta,rfl,hta⟩:=aH rs jj u hu
       have k8:=aY x8 hplv
       have dp:=hDp fl (List.mem_of_getElem? hfl)
       have efp:=gG (R:=R) hfl
       obtain ⟨bb,ebb⟩:=ip R FF.2 (jj+1)
       have c1:=congrArg List.length efp
       rw [List.length_append] at c1
       have c2:=congrArg List.length ebb
       rw [List.length_append] at c2
       have es1:bD (fun k=>(am R 4 k).length) (bA R 4) ((FF.2.take (jj+1)).map (·.2)) l=bD (fun k=>(am R 4 k).length) (bA R 4) ((FF.2.take jj).map (·.2)) l++[bA R 4 fl.2 ((l.drop (ax R (FF.2.take jj)).length).take (am R 4 fl.2).length)]:=by
        rw [List.take_add_one,hfl,Option.toList_some,List.map_append,List.map_singleton,fq,fP]
       generalize hci:(ax R (FF.2.take jj)).length=ci at hp8 c1 es1
       refine ⟨ta,_,rfl,SqT.of (k8 _ _ (G7 _ _ hta)),rfl,_,_,rfl,_,_,rfl,rfl,⟨rfl,rfl⟩,bp ?_⟩
       refine ⟨_,rfl,_,rfl,_,rfl,y,fl.2,R,pl,(xl.drop ci).take (am R 4 fl.2).length,(l.drop ci).take (am R 4 fl.2).length,xl.drop (ci+(am R 4 fl.2).length),rfl,(hRc.mono G7).mono k8,hpg.rn,by have:=hpg.rl; omega,dp,?_,kD _ (kB _ (kxl7.mono k8)),?_,fun d hd'=>?_,fun u H9 x9 h9p hu9 gu=>nxT (by omega) hjj la2 ⟨x8.trans x9,?_,by rw [es1]; exact bC (kes2.mono (aY x9 hp8)) (.cons hu9 .nil)⟩⟩
       ·rw [hp8,← List.drop_drop,List.take_append_drop]
       ·rw [List.length_take,List.length_drop]
        omega
       ·obtain ⟨q',_,hpc⟩:=fE lm d (List.mem_of_mem_drop (List.mem_of_mem_take hd'))
        exact BK hpc
       ·rw [h9p,c1]
      ·obtain ⟨x8,hp8,kes2⟩:=pp
       rw [lrs,List.take_length] at kes2
       have gD8:=af hD2 (.lst acc2)
       refine ⟨D2,acc2,rfl,.inl ⟨SqL.of ae,fun tt htt=>?_⟩⟩
       have g9:=af htt (.tup acc2)
       have g89:=gD8.trans g9
       have ht9:=g89 _ _ (x8 _ _ ntp hty7)
       have kt:=cj ht9 (.lst (ys++[.ref tt]))
       have lys:=aO kgs
       rw [List.length_map,lik] at lys
       refine ⟨t,ys,_,rfl,rfl,ht9,aC (by omega),?_⟩
       refine ⟨_,_,_,ys++[.ref tt],rfl,?_,ae,?_⟩
       ·intro b0 o nb e
        rw [aI nb]
        exact g89 _ _ (x8 _ _ (fun z=>by have:=X7 _ _ nb e; have h6:=x6 _ _ nb e; rw [z] at h6; rw [hpl] at h6; cases h6) (X7 _ _ nb e))
       ·rw [List.take_add_one,hi0,Option.toList_some,List.map_append]
        refine bC (((kgs7.mono (aY x8 hplv)).mono (ah g89)).mono kt) (.cons ?_ .nil)
        show KAt _ _ (oV R FF.2 (FL.getD i0 []))
        rw [fget i0 l hl0]
        exact .tup (kt _ _ ae) ((kes2.mono (ah g89)).mono kt)
 ·obtain ⟨m10',m12,m13,ys,rfl,x6,hty,kgs⟩:=pp
  rw [List.take_of_length_le (by rw [List.length_map]; exact Nat.le_refl _)] at kgs
  exact ⟨_,rfl,q t ys H6 (fun b o e=>x6 _ _ (aq e Ht) (G5 _ _ e)) Ht hty kgs⟩
end
open PySem L2
theorem eqI {i j:Int} (c:decide (V.int i=V.int j)=true):i=j:=V.int.inj (of_decide_eq_true c)
theorem neI {i j:Int} (c:¬ decide (V.int i=V.int j)=true):¬ i=j:=fun e=>c (decide_eq_true (congrArg V.int e))
theorem oJ {r:Rm} (h:r.a=r.b) (hc:r.c=0):∀ ps:List bH,aS r ps=1
 | []=>rfl
 | q::ps=>by
  show cnt r q.2*aS r ps=1
  rw [oJ h hc ps]
  unfold cnt
  rw [hc]
  split
  ·omega
  ·rfl
theorem Fd.ext {H H':Hp} {fp sc rl:Addr} {m:Nat} (x:Ext rl H H') (n:rl≠fp∧rl≠sc) (h:Fd H fp sc m):Fd H' fp sc m:=by
 obtain ⟨ns,a,b,c,h1,h2,h3⟩:=h
 exact ⟨ns,a,b,c,x _ _ n.1.symm h1,x _ _ n.2.symm h2,h3⟩
def msr (r:Rm) (tn:Nat):Nat:=3*((r.b - r.a).toNat+(r.e - r.d).toNat+r.c.toNat)+(2 - tn % 3)
section
variable {P:Program} {w:World} {K:Frag} {mg:Str→Option Value} {base:Heap} {f g:Addr} {fd gd:FuncData}
abbrev wY:List Str:=["_law_feed_here", "_law_program", "_law_f", "_law_most", "_law_low", "_law_room_here", "_law_turn"]
theorem fj:aF wY ["_law_feed_here", "_law_program", "_law_f", "_law_most"] (defScope kJ):=⟨rfl,rfl,rfl,by decide +kernel,rfl,by decide +kernel,by decide +kernel⟩
def AW:Sp:=fun vs H Q _=>∃ fp sc m pg i R FS F,vs=[.ref fp,pg,.int (i:Nat),.int 60]∧Fd H fp sc m∧m≤90000∧hW H pg R FS∧wE R FS∧FS[i]?=some F∧∀ rv r H',Ext fp H H'→Fd H' fp sc (m+7)→jH H' rv r→cp r→aS r (ax R F.2)≤60→Q rv H'
theorem xD (T:G0 mg) (TX:GX mg) (F:Fun K "_law_room" "_law_room" kJ f fd) (D_l_many:Cal P w K mg base 6 "_law_many" ["_law_program", "_law_f", "_law_room_here"] rO) (D_l_draw:Cal P w K mg base 1 "_law_draw" ["_law_feed_here", "_law_many_here"] yh):bg P w K mg base CX0 7 f fd ["_law_feed_here", "_law_program", "_law_f", "_law_most"] AW:=by
 obtain ⟨g_l_many,gd_l_many,G_l_many,b_l_many,k_l_many,m_l_many⟩:=D_l_many.ex
 obtain ⟨g_l_draw,gd_l_draw,G_l_draw,b_l_draw,k_l_draw,m_l_draw⟩:=D_l_draw.ex
 refine F.ok fj (fun vs H Q E h=>?_) (fun cdv A outer s H vs Q E hr h=>?_)
 ·obtain ⟨fp,sc,m,pg,i,R,FS,F,rfl,_⟩:=h
  rfl
 obtain ⟨fp,sc,m,pg,i,R,FS,FF,rfl,hf,hm,hp,hpg,hF,q⟩:=h
 refine ⟨_,(@al _ _ _ _ _ (@aB _ _ 4 _ _ _ _ fj.nd rfl (Or.inl rfl) (@ay _ _ _ _ _ _ _ aM (@aR _ _ _ _ (@ad _ _ _ _ _ ak (@ad _ _ _ _ _ ak (@ad _ _ _ _ _ ak (@ad _ _ _ _ _ ak (@ad _ _ _ _ _ ak ag (ac rfl)) (ac rfl)) (ac rfl)) (ac rfl)) (ac rfl))) (@ar _ _ _ _ _ _ _ _ _ _ _ _ _ _ _ _ G_l_draw (hr.mono (by omega)) rfl m_l_draw k_l_draw b_l_draw .nil aE (@ad _ _ _ _ _ (pv 0) (@ad _ _ _ _ _ ak ag (ac rfl)) (ac rfl)) (by decide) (ac rfl) (aj rfl)) (fun _ _=>rfl)) (ao rfl) (.inr rfl)) (@al _ _ _ _ _ (@aB _ _ 5 _ _ _ _ fj.nd rfl (Or.inl rfl) (@aR _ _ _ _ (@ad _ _ _ _ _ (@sQ _ _ _ _ _ _ oo (@ar _ _ _ _ _ _ _ _ _ _ _ _ _ _ _ _ G_l_draw (hr.mono (by omega)) rfl m_l_draw k_l_draw b_l_draw .nil aE (@ad _ _ _ _ _ (pv 0) (@ad _ _ _ _ _ ak ag (ac rfl)) (ac rfl)) (by decide) (ac rfl) (aj rfl))) (@ad _ _ _ _ _ (@ar _ _ _ _ _ _ _ _ _ _ _ _ _ _ _ _ G_l_draw (hr.mono (by omega)) rfl m_l_draw k_l_draw b_l_draw .nil aE (@ad _ _ _ _ _ (pv 0) (@ad _ _ _ _ _ ak ag (ac rfl)) (ac rfl)) (by decide) (ac rfl) (aj rfl)) (@ad _ _ _ _ _ (@ar _ _ _ _ _ _ _ _ _ _ _ _ _ _ _ _ G_l_draw (hr.mono (by omega)) rfl m_l_draw k_l_draw b_l_draw .nil aE (@ad _ _ _ _ _ (pv 0) (@ad _ _ _ _ _ ak ag (ac rfl)) (ac rfl)) (by decide) (ac rfl) (aj rfl)) (@ad _ _ _ _ _ (pv 4) (@ad _ _ _ _ _ (@aA _ _ _ _ _ _ _ _ _ (tX rfl) rfl TX.min Bp (@ad _ _ _ _ _ ak (@ad _ _ _ _ _ (@aG _ _ _ _ _ _ _ _ bB (pv 4) (@ar _ _ _ _ _ _ _ _ _ _ _ _ _ _ _ _ G_l_draw (hr.mono (by omega)) rfl m_l_draw k_l_draw b_l_draw .nil aE (@ad _ _ _ _ _ (pv 0) (@ad _ _ _ _ _ ak ag (ac rfl)) (ac rfl)) (by decide) (ac rfl) (aj rfl))) ag (ac rfl)) (ac rfl)) (by decide) (by decide) (ac rfl) (aj rfl)) ag (ac rfl)) (ac rfl)) (ac rfl)) (ac rfl)) (ac rfl))) (ao rfl) (.inr rfl)) (@al _ _ _ _ _ (@bU _ _ _ _ _ _ _ _ (@aQ _ _ _ _ _ _ _ _ dC (@ar _ _ _ _ _ _ _ _ _ _ _ _ _ _ _ _ G_l_draw (hr.mono (by omega)) rfl m_l_draw k_l_draw b_l_draw .nil aE (@ad _ _ _ _ _ (pv 0) (@ad _ _ _ _ _ ak ag (ac rfl)) (ac rfl)) (by decide) (ac rfl) (aj rfl)) ak (bo _)) (@al _ _ _ _ _ (@fR _ _ _ _ _ _ (@ay _ _ _ _ _ _ _ aM (@aR _ _ _ _ (@ad _ _ _ _ _ (@sQ _ _ _ _ _ _ oo ak) (@ad _ _ _ _ _ ak ag (ac rfl)) (ac rfl))) (@ar _ _ _ _ _ _ _ _ _ _ _ _ _ _ _ _ G_l_draw (hr.mono (by omega)) rfl m_l_draw k_l_draw b_l_draw .nil aE (@ad _ _ _ _ _ (pv 0) (@ad _ _ _ _ _ ak ag (ac rfl)) (ac rfl)) (by decide) (ac rfl) (aj rfl)) (fun _ _=>rfl)) (eM (pv 5) ak cJ) rfl rfl rfl) (@ap _ _ _ (@fR _ _ _ _ _ _ (@ay _ _ _ _ _ _ _ aM (@aR _ _ _ _ (@ad _ _ _ _ _ ak (@ad _ _ _ _ _ ak ag (ac rfl)) (ac rfl))) (@aX _ _ _ _ _ _ _ _ _ mO rfl T.int mo (@ad _ _ _ _ _ (@kz _ _ _ _ _ _ _ _ dC (@ay _ _ _ _ _ _ _ aM (pv 5) ak (fun _ _=>rfl)) ak (bo _)) ag (ac rfl)) (by decide) (by decide) (ac rfl) (aj rfl)) (fun _ _=>rfl)) (eM (pv 5) ak cJ) rfl rfl rfl))) bh) (@al _ _ _ _ _ (@aB _ _ 6 _ _ _ _ fj.nd rfl (Or.inl rfl) ak (ao rfl) (.inr rfl)) (@al _ _ _ _ _ (xh PassesOwn.never (@aQ _ _ _ _ _ _ _ _ pG (@ar _ _ _ _ _ _ _ _ _ _ _ _ _ _ _ _ G_l_many (hr.mono (by omega)) rfl m_l_many k_l_many b_l_many .nil aE (@ad _ _ _ _ _ (pv 1) (@ad _ _ _ _ _ (pv 2) (@ad _ _ _ _ _ (pv 5) ag (ac rfl)) (ac rfl)) (ac rfl)) (by decide) (ac rfl) (aj rfl)) (pv 3) (bo _)) (@al _ _ _ _ _ (@aB _ _ 6 _ _ _ _ fj.nd rfl (Or.inl rfl) (@aG _ _ _ _ _ _ _ _ bB (pv 6) ak) (ao rfl) (.inr rfl)) (@ap _ _ _ (@bU _ _ _ _ _ _ _ _ (PW.pt (wX (@aQ _ _ _ _ _ _ _ _ dC (@aG _ _ _ _ _ _ _ _ dW (pv 6) ak) ak (bo _)) (sN (@aQ _ _ _ _ _ _ _ _ pG (@ay _ _ _ _ _ _ _ aM (pv 5) ak (fun _ _=>rfl)) ak (bo _))))) (@ap _ _ _ (@fR _ _ _ _ _ _ (@aG _ _ _ _ _ _ _ _ gC (@ay _ _ _ _ _ _ _ aM (pv 5) ak (fun _ _=>rfl)) ak) (eM (pv 5) ak cJ) rfl rfl rfl)) (@ap _ _ _ (@bU _ _ _ _ _ _ _ _ (PW.pt (wX (@aQ _ _ _ _ _ _ _ _ dC (@aG _ _ _ _ _ _ _ _ dW (pv 6) ak) ak (bo _)) (sN (@aQ _ _ _ _ _ _ _ _ pG (@ay _ _ _ _ _ _ _ aM (pv 5) ak (fun _ _=>rfl)) (@ay _ _ _ _ _ _ _ aM (pv 5) ak (fun _ _=>rfl)) (bo _))))) (@ap _ _ _ (@fR _ _ _ _ _ _ (@aG _ _ _ _ _ _ _ _ gC (@ay _ _ _ _ _ _ _ aM (pv 5) ak (fun _ _=>rfl)) ak) (eM (pv 5) ak cJ) rfl rfl rfl)) (@ap _ _ _ (@bU _ _ _ _ _ _ _ _ (@aQ _ _ _ _ _ _ _ _ pG (@ay _ _ _ _ _ _ _ aM (pv 5) ak (fun _ _=>rfl)) (@ay _ _ _ _ _ _ _ aM (pv 5) ak (fun _ _=>rfl)) (bo _)) (@ap _ _ _ (@fR _ _ _ _ _ _ (@ay _ _ _ _ _ _ _ aM (@aR _ _ _ _ (@ad _ _ _ _ _ (@aW _ _ _ _ _ (@ad _ _ _ _ _ (@aG _ _ _ _ _ _ _ _ bB (@ay _ _ _ _ _ _ _ aM (pv 5) ak (fun _ _=>rfl)) ak) (@ad _ _ _ _ _ (@ay _ _ _ _ _ _ _ aM (pv 5) ak (fun _ _=>rfl)) ag (ac rfl)) (ac rfl))) (@ad _ _ _ _ _ (@aW _ _ _ _ _ (@ad _ _ _ _ _ (@ay _ _ _ _ _ _ _ aM (pv 5) ak (fun _ _=>rfl)) (@ad _ _ _ _ _ (@aG _ _ _ _ _ _ _ _ gC (@ay _ _ _ _ _ _ _ aM (pv 5) ak (fun _ _=>rfl)) ak) ag (ac rfl)) (ac rfl))) ag (ac rfl)) (ac rfl))) (@aG _ _ _ _ _ _ _ _ dW (pv 6) ak) (fun _ _=>rfl)) (cQ rfl (aJ (eM (pv 5) ak cJ) (aJ (eM (pv 5) ak cJ) bP))) rfl rfl rfl)) bh)))))))) (@ap _ _ _ (@aD _ _ _ _ (@aX _ _ _ _ _ _ _ _ _ bv rfl T.tuple dI (@ad _ _ _ _ _ (pv 5) ag (ac rfl)) (by decide) (by decide) (ac rfl) (aj rfl))))))))),?_⟩
 refine ⟨(by show 5≤sizeLine; decide),fun l1 hl1=>?_⟩
 have s1:=af hl1 (.lst [.int 32,.int 36,.int 97,.int 37,.int 125])
 have f1:=hf.same s1
 refine ⟨_,rfl,fp,5,sc,m,rfl,f1,by omega,by decide,by decide,fun v2 H2 a2 b2 x2 f2=>?_⟩
 obtain ⟨u,hu,_,hat⟩:=iw (xs:=[V.int 32,.int 36,.int 97,.int 37,.int 125]) a2 b2
 obtain ⟨low,rfl,hlow⟩:∃ low:Int,u=.int low∧low∈([32,36,97,37,125]:List Int):=by
  simp only [List.mem_cons,List.not_mem_nil,or_false] at hu
  rcases hu with rfl | rfl | rfl | rfl | rfl<;>exact ⟨_,rfl,by decide⟩
 have hlw:32≤low∧low≤125:=by
  simp only [List.mem_cons,List.not_mem_nil,or_false] at hlow
  omega
 refine ⟨l1,_,_,_,rfl,rfl,SqL.of (x2 _ _ (hf.ne hl1).1 ae),hat,?_⟩
 refine ⟨_,rfl,fp,4,sc,_,rfl,f2,by omega,by decide,by decide,fun v3 H3 a3 b3 x3 f3=>?_⟩
 refine ⟨_,rfl,_,rfl,fp,4,sc,_,rfl,f3,by omega,by decide,by decide,fun v4 H4 a4 b4 x4 f4=>?_⟩
 refine ⟨_,rfl,fp,4,sc,_,rfl,f4,by omega,by decide,by decide,fun v5 H5 a5 b5 x5 f5=>?_⟩
 refine ⟨_,rfl,_,rfl,_,rfl,fp,4,sc,_,rfl,f5,by omega,by decide,by decide,fun v6 H6 a6 b6 x6 f6=>?_⟩
 refine ⟨_,_,rfl,rfl,_,_,rfl,(by show 5≤sizeLine; decide),fun rl hrl=>?_⟩
 have nrl:=f6.ne hrl
 have E6:Ext fp H H6:=(av.ext s1).trans (x2.trans (x3.trans (x4.trans (x5.trans x6))))
 have Hrl:H rl=none:=E6.free nrl.1 hrl
 have s7:=af hrl (.lst [.int (-v3),.int v4,.int v5,.int low,.int (if low+v6<126 then low+v6 else 126)])
 have E7:=E6.trans (av.ext s7)
 have F7:=f6.same s7
 have hr7:(upd H6 rl (.lst [.int (-v3),.int v4,.int v5,.int low,.int (if low+v6<126 then low+v6 else 126)])) rl=_:=ae
 generalize (upd H6 rl (.lst [.int (-v3),.int v4,.int v5,.int low,.int (if low+v6<126 then low+v6 else 126)]))=H7 at E7 F7 hr7
 have hee:low≤(if low+v6<126 then low+v6 else 126)∧(if low+v6<126 then low+v6 else 126)≤low+3∧(if low+v6<126 then low+v6 else 126)≤126:=by split<;>omega
 have rok:∀ {a b:Int},-9≤a→a≤b→b≤9→cp ⟨a,b,v5,low,if low+v6<126 then low+v6 else 126⟩:=fun h1 h2 h3=>⟨h1,h2,h3,a5,by show v5≤3; omega,hlw.1,hee.1,hee.2.2⟩
 dsimp only [jU]
 refine eW (fun σ H8=>∃ r,σ=[some (.ref fp),some pg,some (.int (i:Nat)),some (.int 60),some (.int low),some (.ref rl),none]∧Ext fp H H8∧Fd H8 fp sc (m+7)∧H8 rl=some (.lst r.vs)∧cp r) (fun NX hNX=>?_) (fun σ H8 jj=>?_)
 ·refine ⟨_,rfl,fp,4,sc,_,rfl,F7,by omega,by decide,by decide,fun v7 H9 a7 b7 x7 f7=>?_⟩
  have e7:=E7.trans x7
  have hrl7:=x7 _ _ nrl.1 hr7
  refine ⟨rfl,_,rfl,?_⟩
  refine bO (fun c1=>?_) (fun c1=>?_)
  ·refine ⟨_,rfl,(by show 2≤sizeLine; decide),fun l2 hl2=>?_⟩
   have s2:=af hl2 (.lst [.int (-9),.int 3])
   have g7:=f7.same s2
   refine ⟨_,rfl,fp,2,sc,_,rfl,g7,by omega,by decide,by decide,fun v8 H8 a8 b8 x8 f8=>?_⟩
   obtain ⟨u8,hu8,_,hat8⟩:=iw (xs:=[V.int (-9),.int 3]) a8 b8
   have e7:=e7.trans (av.ext s2)
   simp only [List.mem_cons,List.not_mem_nil,or_false] at hu8
   rcases hu8 with ea | ea
   ·subst ea
    have e8:=e7.trans x8
    refine ⟨l2,_,_,_,rfl,rfl,SqL.of (x8 _ _ (f7.ne hl2).1 ae),hat8,?_⟩
    have hrl8:=x8 _ _ nrl.1 (s2 _ _ hrl7)
    refine ⟨_,rfl,rl,_,_,_,rfl,rfl,hrl8,rfl,?_⟩
    have f8':=f8.upd (o:=.lst [.int (-9),.int v4,.int v5,.int low,.int (if low+v6<126 then low+v6 else 126)]) nrl
    refine ⟨(by show 2≤sizeLine; decide),fun l3 hl3=>?_⟩
    have s3:=af hl3 (.lst [.int 9,.int 3])
    have hrl9:=s3 _ _ (ae (H:=H8) (a:=rl) (o:=.lst [.int (-9),.int v4,.int v5,.int low,.int (if low+v6<126 then low+v6 else 126)]))
    refine ⟨_,rfl,rl,_,_,_,rfl,rfl,SqL.of hrl9,rfl,rfl,.inr ⟨_,rfl,l3,_,_,_,rfl,rfl,SqL.of ae,(show atI [V.int 9,.int 3] (if decide (V.int (-9)=V.int 3)=true then 1 else 0)=some (.int 9) from by decide +kernel),?_⟩⟩
    refine ⟨_,rfl,rl,_,_,_,rfl,rfl,hrl9,rfl,?_⟩
    exact hNX _ _ ⟨⟨(-9),9,v5,low,if low+v6<126 then low+v6 else 126⟩,rfl,((e8.put Hrl).trans (av.ext s3)).put Hrl,((f8'.same s3).upd nrl).le (by omega),ae,rok (by omega) (by omega) (by omega)⟩
   ·subst ea
    have e8:=e7.trans x8
    refine ⟨l2,_,_,_,rfl,rfl,SqL.of (x8 _ _ (f7.ne hl2).1 ae),hat8,?_⟩
    have hrl8:=x8 _ _ nrl.1 (s2 _ _ hrl7)
    refine ⟨_,rfl,rl,_,_,_,rfl,rfl,hrl8,rfl,?_⟩
    have f8':=f8.upd (o:=.lst [.int 3,.int v4,.int v5,.int low,.int (if low+v6<126 then low+v6 else 126)]) nrl
    refine ⟨(by show 2≤sizeLine; decide),fun l3 hl3=>?_⟩
    have s3:=af hl3 (.lst [.int 9,.int 3])
    have hrl9:=s3 _ _ (ae (H:=H8) (a:=rl) (o:=.lst [.int 3,.int v4,.int v5,.int low,.int (if low+v6<126 then low+v6 else 126)]))
    refine ⟨_,rfl,rl,_,_,_,rfl,rfl,SqL.of hrl9,rfl,rfl,.inr ⟨_,rfl,l3,_,_,_,rfl,rfl,SqL.of ae,(show atI [V.int 9,.int 3] (if decide (V.int 3=V.int 3)=true then 1 else 0)=some (.int 3) from by decide +kernel),?_⟩⟩
    refine ⟨_,rfl,rl,_,_,_,rfl,rfl,hrl9,rfl,?_⟩
    exact hNX _ _ ⟨⟨3,3,v5,low,if low+v6<126 then low+v6 else 126⟩,rfl,((e8.put Hrl).trans (av.ext s3)).put Hrl,((f8'.same s3).upd nrl).le (by omega),ae,rok (by omega) (by omega) (by omega)⟩
  ·exact hNX _ _ ⟨⟨-v3,v4,v5,low,_⟩,rfl,e7,f7.le (by omega),hrl7,rok (by omega) (by omega) (by omega)⟩
 obtain ⟨r0,rfl,E8,F8,hr8,hok0⟩:=jj
 refine ⟨fun mm σ H'=>∃ (tn:Nat) (r:Rm),σ=[some (.ref fp),some pg,some (.int (i:Nat)),some (.int 60),some (.int low),some (.ref rl),some (.int (tn:Int))]∧Ext rl H8 H'∧H' rl=some (.lst r.vs)∧cp r∧mm=msr r tn,⟨_,0,r0,rfl,Ext.refl _ _,hr8,hok0,rfl⟩,fun mm σ H' wm=>?_⟩
 obtain ⟨tn,r,rfl,X,hr,hok,rfl⟩:=wm
 have k8:Tk H H8:=hf.tk E8
 have kX:=aY X hr8
 refine ⟨_,rfl,_,rfl,_,rfl,pg,i,R,FS,FF,rl,r,rfl,(hp.mono k8).mono kX,hpg,hF,.inl hr,hok,fun H2 g2=>?_⟩
 have hr2:=g2 _ _ hr
 have X2:=X.trans (av.ext g2)
 refine ⟨_,rfl,_,_,rfl,rfl,_,rfl,?_⟩
 refine bO (fun c1=>?_) (fun c1=>?_)
 ·have c1':(60:Int)<(aS r (ax R FF.2):Nat):=of_decide_eq_true c1
  have zero:¬ (r.a=r.b∧r.c=0):=fun z=>by
   rw [oJ z.1 z.2] at c1'
   omega
  refine ⟨fun σ' H'=>∃ m',m'<msr r tn∧∃ (tn:Nat) (r:Rm),σ'=[some (.ref fp),some pg,some (.int (i:Nat)),some (.int 60),some (.int low),some (.ref rl),some (.int (tn:Int))]∧Ext rl H8 H'∧H' rl=some (.lst r.vs)∧cp r∧m'=msr r tn,fun _ _ h=>h,?_⟩
  refine ⟨_,rfl,_,_,rfl,rfl,?_⟩
  have o1:=hok.a
  have o2:=hok.ab
  have o3:=hok.b
  have o4:=hok.c0
  have o5:=hok.c
  have o6:=hok.de
  have o8:=hok.e
  have FIN:∀ {r':Rm} {H':Hp},Ext rl H2 H'→H' rl=some (.lst r'.vs)→cp r'→msr r' (tn+1)<msr r tn→∃ m',m'<msr r tn∧∃ (tn':Nat) (r:Rm),([some (.ref fp),some pg,some (.int (i:Nat)),some (.int 60),some (.int low),some (.ref rl),some (.int ((tn:Int)+1))]:St)=[some (.ref fp),some pg,some (.int (i:Nat)),some (.int 60),some (.int low),some (.ref rl),some (.int (tn':Int))]∧Ext rl H8 H'∧H' rl=some (.lst r.vs)∧cp r∧m'=msr r tn':=fun {r' H'} x h o l=>⟨_,l,tn+1,r',rfl,X2.trans x,h,o,rfl⟩
  refine ⟨_,rfl,_,_,rfl,rfl,(show (0:Int)<3 by decide),rfl,_,rfl,?_⟩
  refine bO (fun a1=>?_) (fun a1=>?_)
  ·have a1':=eqI a1
   refine ⟨_,rfl,rl,_,_,_,rfl,rfl,SqL.of hr2,rfl,_,_,rfl,rfl,_,rfl,?_⟩
   refine bO (fun a2=>?_) (fun a2=>?_)
   ·have a2':0<r.c:=of_decide_eq_true a2
    refine ⟨_,rfl,rl,_,_,_,rfl,rfl,SqL.of hr2,rfl,_,_,rfl,rfl,?_⟩
    refine ⟨_,rfl,rl,_,_,_,rfl,rfl,hr2,rfl,?_⟩
    exact FIN (r':=⟨r.a,r.b,r.c - 1,r.d,r.e⟩) Ext.upd ae ⟨hok.a,hok.ab,hok.b,by show 0≤r.c - 1; omega,by show r.c - 1≤3; omega,hok.d,hok.de,hok.e⟩ (by unfold msr; dsimp only; omega)
   ·have a2':¬ 0<r.c:=of_decide_eq_false (Bool.eq_false_iff.mpr a2)
    refine ⟨_,rfl,_,_,rfl,rfl,(show (0:Int)<3 by decide),rfl,_,rfl,?_⟩
    refine bO (fun b1=>?_) (fun b1=>?_)
    ·have b1':=eqI b1
     refine ⟨_,rfl,rl,_,_,_,rfl,rfl,SqL.of hr2,rfl,_,rfl,rl,_,_,_,rfl,rfl,SqL.of hr2,rfl,_,_,rfl,rfl,_,rfl,?_⟩
     refine bO (fun b2=>?_) (fun b2=>?_)
     ·have b2':r.d<r.e:=of_decide_eq_true b2
      refine ⟨_,rfl,rl,_,_,_,rfl,rfl,SqL.of hr2,rfl,_,_,rfl,rfl,?_⟩
      refine ⟨_,rfl,rl,_,_,_,rfl,rfl,hr2,rfl,?_⟩
      exact FIN (r':=⟨r.a,r.b,r.c,r.d,r.e - 1⟩) Ext.upd ae ⟨hok.a,hok.ab,hok.b,hok.c0,hok.c,hok.d,by show r.d≤r.e - 1; omega,by show r.e - 1≤126; omega⟩ (by unfold msr; dsimp only; omega)
     ·have b2':¬ r.d<r.e:=of_decide_eq_false (Bool.eq_false_iff.mpr b2)
      refine ⟨_,rfl,rl,_,_,_,rfl,rfl,SqL.of hr2,rfl,_,rfl,rl,_,_,_,rfl,rfl,SqL.of hr2,rfl,_,_,rfl,rfl,_,rfl,?_⟩
      refine bO (fun d1=>?_) (fun d1=>?_)
      ·have d1':r.a<r.b:=of_decide_eq_true d1
       refine ⟨_,rfl,rl,_,_,_,rfl,rfl,SqL.of hr2,rfl,_,_,rfl,rfl,_,rfl,rl,_,_,_,rfl,rfl,SqL.of hr2,rfl,(by show 2≤sizeLine; decide),fun t1 ht1=>?_⟩
       have w1:=af ht1 (.tup [.int (r.a+1),.int r.b])
       have hr4:=w1 _ _ hr2
       refine ⟨_,rfl,rl,_,_,_,rfl,rfl,SqL.of hr4,rfl,_,rfl,rl,_,_,_,rfl,rfl,SqL.of hr4,rfl,_,_,rfl,rfl,(by show 2≤sizeLine; decide),fun t2 ht2=>?_⟩
       have w2:=w1.trans (af ht2 (.tup [.int r.a,.int (r.b - 1)]))
       refine ⟨(by show 2≤sizeLine; decide),fun t3 ht3=>?_⟩
       have w3:=w2.trans (af ht3 (.lst [.ref t1,.ref t2]))
       have hr5:=w3 _ _ hr2
       refine ⟨_,rfl,_,_,rfl,rfl,(show (0:Int)<2 by decide),?_⟩
       have d2:((tn:Int)+1) % 2=0∨((tn:Int)+1) % 2=1:=by omega
       rcases d2 with d2 | d2
       ·refine ⟨t3,_,_,.ref t1,rfl,rfl,SqL.of ae,by rw [d2]; rfl,?_⟩
        refine ⟨t1,_,rfl,SqT.of (af ht3 (.lst [.ref t1,.ref t2]) _ _ (af ht2 (.tup [.int r.a,.int (r.b - 1)]) _ _ ae)),rfl,_,_,rfl,?_⟩
        refine ⟨_,rfl,rl,_,_,_,rfl,rfl,hr5,rfl,?_⟩
        refine ⟨_,_,rfl,_,rfl,rl,_,_,_,rfl,rfl,ae,rfl,rfl,?_⟩
        exact FIN (r':=⟨r.a+1,r.b,r.c,r.d,r.e⟩) ((av.ext w3).trans (Ext.upd.trans Ext.upd)) ae ⟨by show -9≤r.a+1; omega,by show r.a+1≤r.b; omega,hok.b,hok.c0,hok.c,hok.d,hok.de,hok.e⟩ (by unfold msr; dsimp only; omega)
       ·refine ⟨t3,_,_,.ref t2,rfl,rfl,SqL.of ae,by rw [d2]; rfl,?_⟩
        refine ⟨t2,_,rfl,SqT.of (af ht3 (.lst [.ref t1,.ref t2]) _ _ ae),rfl,_,_,rfl,?_⟩
        refine ⟨_,rfl,rl,_,_,_,rfl,rfl,hr5,rfl,?_⟩
        refine ⟨_,_,rfl,_,rfl,rl,_,_,_,rfl,rfl,ae,rfl,rfl,?_⟩
        exact FIN (r':=⟨r.a,r.b - 1,r.c,r.d,r.e⟩) ((av.ext w3).trans (Ext.upd.trans Ext.upd)) ae ⟨hok.a,by show r.a≤r.b - 1; omega,by show r.b - 1≤9; omega,hok.c0,hok.c,hok.d,hok.de,hok.e⟩ (by unfold msr; dsimp only; omega)
      ·have d1':¬ r.a<r.b:=of_decide_eq_false (Bool.eq_false_iff.mpr d1)
       exact FIN (r':=r) (Ext.refl _ _) hr2 hok (by unfold msr; omega)
    ·have b1':=neI b1
     refine ⟨_,rfl,rl,_,_,_,rfl,rfl,SqL.of hr2,rfl,_,rfl,rl,_,_,_,rfl,rfl,SqL.of hr2,rfl,_,_,rfl,rfl,_,rfl,?_⟩
     refine bO (fun d1=>?_) (fun d1=>?_)
     ·have d1':r.a<r.b:=of_decide_eq_true d1
      refine ⟨_,rfl,rl,_,_,_,rfl,rfl,SqL.of hr2,rfl,_,_,rfl,rfl,_,rfl,rl,_,_,_,rfl,rfl,SqL.of hr2,rfl,(by show 2≤sizeLine; decide),fun t1 ht1=>?_⟩
      have w1:=af ht1 (.tup [.int (r.a+1),.int r.b])
      have hr4:=w1 _ _ hr2
      refine ⟨_,rfl,rl,_,_,_,rfl,rfl,SqL.of hr4,rfl,_,rfl,rl,_,_,_,rfl,rfl,SqL.of hr4,rfl,_,_,rfl,rfl,(by show 2≤sizeLine; decide),fun t2 ht2=>?_⟩
      have w2:=w1.trans (af ht2 (.tup [.int r.a,.int (r.b - 1)]))
      refine ⟨(by show 2≤sizeLine; decide),fun t3 ht3=>?_⟩
      have w3:=w2.trans (af ht3 (.lst [.ref t1,.ref t2]))
      have hr5:=w3 _ _ hr2
      refine ⟨_,rfl,_,_,rfl,rfl,(show (0:Int)<2 by decide),?_⟩
      have d2:((tn:Int)+1) % 2=0∨((tn:Int)+1) % 2=1:=by omega
      rcases d2 with d2 | d2
      ·refine ⟨t3,_,_,.ref t1,rfl,rfl,SqL.of ae,by rw [d2]; rfl,?_⟩
       refine ⟨t1,_,rfl,SqT.of (af ht3 (.lst [.ref t1,.ref t2]) _ _ (af ht2 (.tup [.int r.a,.int (r.b - 1)]) _ _ ae)),rfl,_,_,rfl,?_⟩
       refine ⟨_,rfl,rl,_,_,_,rfl,rfl,hr5,rfl,?_⟩
       refine ⟨_,_,rfl,_,rfl,rl,_,_,_,rfl,rfl,ae,rfl,rfl,?_⟩
       exact FIN (r':=⟨r.a+1,r.b,r.c,r.d,r.e⟩) ((av.ext w3).trans (Ext.upd.trans Ext.upd)) ae ⟨by show -9≤r.a+1; omega,by show r.a+1≤r.b; omega,hok.b,hok.c0,hok.c,hok.d,hok.de,hok.e⟩ (by unfold msr; dsimp only; omega)
      ·refine ⟨t3,_,_,.ref t2,rfl,rfl,SqL.of ae,by rw [d2]; rfl,?_⟩
       refine ⟨t2,_,rfl,SqT.of (af ht3 (.lst [.ref t1,.ref t2]) _ _ ae),rfl,_,_,rfl,?_⟩
       refine ⟨_,rfl,rl,_,_,_,rfl,rfl,hr5,rfl,?_⟩
       refine ⟨_,_,rfl,_,rfl,rl,_,_,_,rfl,rfl,ae,rfl,rfl,?_⟩
       exact FIN (r':=⟨r.a,r.b - 1,r.c,r.d,r.e⟩) ((av.ext w3).trans (Ext.upd.trans Ext.upd)) ae ⟨hok.a,by show r.a≤r.b - 1; omega,by show r.b - 1≤9; omega,hok.c0,hok.c,hok.d,hok.de,hok.e⟩ (by unfold msr; dsimp only; omega)
     ·have d1':¬ r.a<r.b:=of_decide_eq_false (Bool.eq_false_iff.mpr d1)
      exact FIN (r':=r) (Ext.refl _ _) hr2 hok (by unfold msr; omega)
  ·have a1':=neI a1
   refine ⟨_,rfl,_,_,rfl,rfl,(show (0:Int)<3 by decide),rfl,_,rfl,?_⟩
   refine bO (fun b1=>?_) (fun b1=>?_)
   ·have b1':=eqI b1
    refine ⟨_,rfl,rl,_,_,_,rfl,rfl,SqL.of hr2,rfl,_,rfl,rl,_,_,_,rfl,rfl,SqL.of hr2,rfl,_,_,rfl,rfl,_,rfl,?_⟩
    refine bO (fun b2=>?_) (fun b2=>?_)
    ·have b2':r.d<r.e:=of_decide_eq_true b2
     refine ⟨_,rfl,rl,_,_,_,rfl,rfl,SqL.of hr2,rfl,_,_,rfl,rfl,?_⟩
     refine ⟨_,rfl,rl,_,_,_,rfl,rfl,hr2,rfl,?_⟩
     exact FIN (r':=⟨r.a,r.b,r.c,r.d,r.e - 1⟩) Ext.upd ae ⟨hok.a,hok.ab,hok.b,hok.c0,hok.c,hok.d,by show r.d≤r.e - 1; omega,by show r.e - 1≤126; omega⟩ (by unfold msr; dsimp only; omega)
    ·have b2':¬ r.d<r.e:=of_decide_eq_false (Bool.eq_false_iff.mpr b2)
     refine ⟨_,rfl,rl,_,_,_,rfl,rfl,SqL.of hr2,rfl,_,rfl,rl,_,_,_,rfl,rfl,SqL.of hr2,rfl,_,_,rfl,rfl,_,rfl,?_⟩
     refine bO (fun d1=>?_) (fun d1=>?_)
     ·have d1':r.a<r.b:=of_decide_eq_true d1
      refine ⟨_,rfl,rl,_,_,_,rfl,rfl,SqL.of hr2,rfl,_,_,rfl,rfl,_,rfl,rl,_,_,_,rfl,rfl,SqL.of hr2,rfl,(by show 2≤sizeLine; decide),fun t1 ht1=>?_⟩
      have w1:=af ht1 (.tup [.int (r.a+1),.int r.b])
      have hr4:=w1 _ _ hr2
      refine ⟨_,rfl,rl,_,_,_,rfl,rfl,SqL.of hr4,rfl,_,rfl,rl,_,_,_,rfl,rfl,SqL.of hr4,rfl,_,_,rfl,rfl,(by show 2≤sizeLine; decide),fun t2 ht2=>?_⟩
      have w2:=w1.trans (af ht2 (.tup [.int r.a,.int (r.b - 1)]))
      refine ⟨(by show 2≤sizeLine; decide),fun t3 ht3=>?_⟩
      have w3:=w2.trans (af ht3 (.lst [.ref t1,.ref t2]))
      have hr5:=w3 _ _ hr2
      refine ⟨_,rfl,_,_,rfl,rfl,(show (0:Int)<2 by decide),?_⟩
      have d2:((tn:Int)+1) % 2=0∨((tn:Int)+1) % 2=1:=by omega
      rcases d2 with d2 | d2
      ·refine ⟨t3,_,_,.ref t1,rfl,rfl,SqL.of ae,by rw [d2]; rfl,?_⟩
       refine ⟨t1,_,rfl,SqT.of (af ht3 (.lst [.ref t1,.ref t2]) _ _ (af ht2 (.tup [.int r.a,.int (r.b - 1)]) _ _ ae)),rfl,_,_,rfl,?_⟩
       refine ⟨_,rfl,rl,_,_,_,rfl,rfl,hr5,rfl,?_⟩
       refine ⟨_,_,rfl,_,rfl,rl,_,_,_,rfl,rfl,ae,rfl,rfl,?_⟩
       exact FIN (r':=⟨r.a+1,r.b,r.c,r.d,r.e⟩) ((av.ext w3).trans (Ext.upd.trans Ext.upd)) ae ⟨by show -9≤r.a+1; omega,by show r.a+1≤r.b; omega,hok.b,hok.c0,hok.c,hok.d,hok.de,hok.e⟩ (by unfold msr; dsimp only; omega)
      ·refine ⟨t3,_,_,.ref t2,rfl,rfl,SqL.of ae,by rw [d2]; rfl,?_⟩
       refine ⟨t2,_,rfl,SqT.of (af ht3 (.lst [.ref t1,.ref t2]) _ _ ae),rfl,_,_,rfl,?_⟩
       refine ⟨_,rfl,rl,_,_,_,rfl,rfl,hr5,rfl,?_⟩
       refine ⟨_,_,rfl,_,rfl,rl,_,_,_,rfl,rfl,ae,rfl,rfl,?_⟩
       exact FIN (r':=⟨r.a,r.b - 1,r.c,r.d,r.e⟩) ((av.ext w3).trans (Ext.upd.trans Ext.upd)) ae ⟨hok.a,by show r.a≤r.b - 1; omega,by show r.b - 1≤9; omega,hok.c0,hok.c,hok.d,hok.de,hok.e⟩ (by unfold msr; dsimp only; omega)
     ·have d1':¬ r.a<r.b:=of_decide_eq_false (Bool.eq_false_iff.mpr d1)
      exact FIN (r':=r) (Ext.refl _ _) hr2 hok (by unfold msr; omega)
   ·have b1':=neI b1
    refine ⟨_,rfl,rl,_,_,_,rfl,rfl,SqL.of hr2,rfl,_,rfl,rl,_,_,_,rfl,rfl,SqL.of hr2,rfl,_,_,rfl,rfl,_,rfl,?_⟩
    refine bO (fun d1=>?_) (fun d1=>?_)
    ·have d1':r.a<r.b:=of_decide_eq_true d1
     refine ⟨_,rfl,rl,_,_,_,rfl,rfl,SqL.of hr2,rfl,_,_,rfl,rfl,_,rfl,rl,_,_,_,rfl,rfl,SqL.of hr2,rfl,(by show 2≤sizeLine; decide),fun t1 ht1=>?_⟩
     have w1:=af ht1 (.tup [.int (r.a+1),.int r.b])
     have hr4:=w1 _ _ hr2
     refine ⟨_,rfl,rl,_,_,_,rfl,rfl,SqL.of hr4,rfl,_,rfl,rl,_,_,_,rfl,rfl,SqL.of hr4,rfl,_,_,rfl,rfl,(by show 2≤sizeLine; decide),fun t2 ht2=>?_⟩
     have w2:=w1.trans (af ht2 (.tup [.int r.a,.int (r.b - 1)]))
     refine ⟨(by show 2≤sizeLine; decide),fun t3 ht3=>?_⟩
     have w3:=w2.trans (af ht3 (.lst [.ref t1,.ref t2]))
     have hr5:=w3 _ _ hr2
     refine ⟨_,rfl,_,_,rfl,rfl,(show (0:Int)<2 by decide),?_⟩
     have d2:((tn:Int)+1) % 2=0∨((tn:Int)+1) % 2=1:=by omega
     rcases d2 with d2 | d2
     ·refine ⟨t3,_,_,.ref t1,rfl,rfl,SqL.of ae,by rw [d2]; rfl,?_⟩
      refine ⟨t1,_,rfl,SqT.of (af ht3 (.lst [.ref t1,.ref t2]) _ _ (af ht2 (.tup [.int r.a,.int (r.b - 1)]) _ _ ae)),rfl,_,_,rfl,?_⟩
      refine ⟨_,rfl,rl,_,_,_,rfl,rfl,hr5,rfl,?_⟩
      refine ⟨_,_,rfl,_,rfl,rl,_,_,_,rfl,rfl,ae,rfl,rfl,?_⟩
      exact FIN (r':=⟨r.a+1,r.b,r.c,r.d,r.e⟩) ((av.ext w3).trans (Ext.upd.trans Ext.upd)) ae ⟨by show -9≤r.a+1; omega,by show r.a+1≤r.b; omega,hok.b,hok.c0,hok.c,hok.d,hok.de,hok.e⟩ (by unfold msr; dsimp only; omega)
     ·refine ⟨t3,_,_,.ref t2,rfl,rfl,SqL.of ae,by rw [d2]; rfl,?_⟩
      refine ⟨t2,_,rfl,SqT.of (af ht3 (.lst [.ref t1,.ref t2]) _ _ ae),rfl,_,_,rfl,?_⟩
      refine ⟨_,rfl,rl,_,_,_,rfl,rfl,hr5,rfl,?_⟩
      refine ⟨_,_,rfl,_,rfl,rl,_,_,_,rfl,rfl,ae,rfl,rfl,?_⟩
      exact FIN (r':=⟨r.a,r.b - 1,r.c,r.d,r.e⟩) ((av.ext w3).trans (Ext.upd.trans Ext.upd)) ae ⟨hok.a,by show r.a≤r.b - 1; omega,by show r.b - 1≤9; omega,hok.c0,hok.c,hok.d,hok.de,hok.e⟩ (by unfold msr; dsimp only; omega)
    ·have d1':¬ r.a<r.b:=of_decide_eq_false (Bool.eq_false_iff.mpr d1)
     exact FIN (r':=r) (Ext.refl _ _) hr2 hok (by unfold msr; omega)
 ·have c1':((aS r (ax R FF.2):Nat):Int)≤60:=by
   have c2:¬ decide ((60:Int)<(aS r (ax R FF.2):Nat))=true:=c1
   have:=of_decide_eq_false (Bool.eq_false_iff.mpr c2)
   omega
  refine ⟨_,rfl,rl,_,rfl,.inl ⟨SqL.of hr2,fun t ht=>?_⟩⟩
  have gt':=af ht (.tup r.vs)
  refine q (.ref t) r _ (fun b o nb e=>?_) (((F8.ext X2 nrl).same gt')) ⟨t,rfl,ae⟩ hok (by omega)
  exact gt' _ _ (X2 _ _ (aq e Hrl) (E8 _ _ nb e))
end
end K6
namespace L2
theorem ik {X:Cx} {K:Frag} (h:X.K=K):bJ X (.builtin "len") (fun xs H Q=>∃ p ys,xs=[.ref p]∧(SqL K H p ys∨SqT K H p ys)∧Q (.int ys.length) H):=h ▸ aU
end L2
namespace K6
open PySem L2
theorem yZ {x y z:V} {h:Int} (h0:0≤h) (h1:h≤3):bV [x,y,z] none (some h)=[x,y,z].take h.toNat:=by
 have:h=0∨h=1∨h=2∨h=3:=by omega
 rcases this with rfl | rfl | rfl | rfl<;>rfl
def vU (R:List Rec):Prop:=∀ j rc,R[j]?=some rc→(1≤rc.2.length∧rc.2.length≤3)∧∀ p∈rc.2,p.2∈PL3++(R.take j).map (·.1)
theorem tw:∀ {R:List Rec} {j:Nat} {rc:Rec},(R.map (·.1)).Nodup→R[j]?=some rc→look R rc.1=rc.2
 | [],_,_,_,h=>nomatch h
 | r::R,0,rc,n,h=>by
  cases Option.some.inj h
  rw [jm,if_pos rfl]
 | r::R,j+1,rc,n,h=>by
  have n':=List.nodup_cons.mp n
  have hm:rc∈R:=List.mem_of_getElem? h
  rw [jm,if_neg (fun e=>n'.1 (by show r.1∈_; rw [e]; exact List.mem_map_of_mem hm))]
  exact tw n'.2 h
theorem oz {R:List Rec}:∀ {n:Nat} {k:Str},bW R n k→bW R (n+1) k
 | 0,_,h=>h.elim
 | n+1,k,h=>by
  rcases h with h | ⟨h1,h2,h3,h4⟩
  ·exact .inl h
  ·exact .inr ⟨h1,h2,h3,fun p hp=>oz (h4 p hp)⟩
theorem tE {R:List Rec} {n m:Nat} {k:Str} (h:n≤m) (d:bW R n k):bW R m k:=by
 induction m with
 | zero=>rw [Nat.le_zero.mp h] at d; exact d
 | succ m ih =>
  rcases Nat.lt_or_eq_of_le h with h | rfl
  ·exact oz (ih (by omega))
  ·exact d
theorem xX {R:List Rec} (g:vU R) (n:(R.map (·.1)).Nodup) (np:∀ rc∈R,rc.1∉PL):∀ (j:Nat) (rc:Rec),R[j]?=some rc→bW R (j+2) rc.1:=by
 intro j
 induction j using Nat.strongRecOn with
 | _ j ih =>
  intro rc h
  have hm:=List.mem_of_getElem? h
  have e:=tw n h
  refine .inr ⟨np rc hm,List.mem_map_of_mem hm,by rw [e]; exact (g j rc h).1,fun p hp=>?_⟩
  rw [e] at hp
  rcases List.mem_append.mp ((g j rc h).2 p hp) with z | z
  ·exact .inl ((pl3 _).mp z)
  ·obtain ⟨rc2,h2,e2⟩:=List.mem_map.mp z
   obtain ⟨i,hi⟩:=List.getElem?_of_mem h2
   have hij:i<j:=by
    have:=(List.getElem?_eq_some_iff.mp hi).1
    rw [List.length_take] at this
    omega
   rw [List.getElem?_take_of_lt hij] at hi
   have:=ih i hij rc2 hi
   rw [← e2]
   exact tE (by omega) this
theorem wt {R:List Rec} (g:vU R) (n:(R.map (·.1)).Nodup) (np:∀ rc∈R,rc.1∉PL) (l:R.length≤2) {k:Str} (h:k∈PL3++R.map (·.1)):bW R 3 k:=by
 rcases List.mem_append.mp h with z | z
 ·exact .inl ((pl3 _).mp z)
 ·obtain ⟨rc,h2,rfl⟩:=List.mem_map.mp z
  obtain ⟨i,hi⟩:=List.getElem?_of_mem h2
  have:=(List.getElem?_eq_some_iff.mp hi).1
  exact tE (by omega) (xX g n np i rc hi)
def NMS:List Str:=["x", "a", "ab", "xy", "pair"]
def dE (l:List Str):Prop:=l.Nodup∧∀ x∈l,x∈NMS
theorem lA {l:List Str} {k:Nat} (h:l.Nodup) (g:∀ x∈l,x∈NMS):dE (l.take k):=⟨List.Sublist.nodup (List.take_sublist _ _) h,fun x hx=>g x (List.mem_of_mem_take hx)⟩
def Ce (R:List Rec) (FS:List lK):Prop:=(∀ rc∈R,dE (rc.2.map (·.1)))∧∀ F∈FS,dE (F.2.map (·.1))
abbrev NM2:List Str:=["pair", "box"]
abbrev NM3:List Str:=["f", "x", "fx"]
theorem nm2 {R:List Rec} {k:Nat} (h:R.map (·.1)=NM2.take k):(R.map (·.1)).Nodup∧R.length≤2∧∀ rc∈R,rc.1∉PL:=by
 have l:R.length≤2:=by
  have:=congrArg List.length h
  rw [List.length_map,List.length_take] at this
  simp at this
  omega
 refine ⟨by rw [h]; exact List.Sublist.nodup (List.take_sublist _ _) (by decide +kernel),l,fun rc hm=>?_⟩
 have:rc.1∈NM2:=List.mem_of_mem_take (h ▸ List.mem_map_of_mem hm)
 simp only [List.mem_cons,List.not_mem_nil,or_false] at this
 rcases this with e | e<;>rw [e]<;>decide +kernel
section
variable {P:Program} {w:World} {K:Frag} {mg:Str→Option Value} {base:Heap} {f g:Addr} {fd gd:FuncData}
abbrev eh:List Str:=["_law_feed_here", "_law_records", "_law_k", "_law_kinds", "_law_names", "_law_fields", "_law_functions", "_law_own", "_law_params"]
abbrev hX:List Str:=["_law_name", "_law_kinds", "_law_feed_here"]
theorem lF:hX.Nodup:=by decide +kernel
abbrev hZ:List Str:=["_law_record"]
theorem ld:hZ.Nodup:=by decide +kernel
abbrev il:List Str:=["_law_name", "_law_kinds", "_law_feed_here"]
theorem mn:il.Nodup:=by decide +kernel
abbrev ia:List Str:=["_law_record"]
theorem lI:ia.Nodup:=by decide +kernel
theorem bx:aF eh ["_law_feed_here"] (defScope cM):=⟨rfl,rfl,rfl,by decide +kernel,rfl,by decide +kernel,by decide +kernel⟩
def Be:Sp:=fun vs H Q _=>∃ fp sc m,vs=[.ref fp]∧Fd H fp sc m∧m≤90000∧∀ pg R FS H',Ext fp H H'→Fd H' fp sc (m+25)→hW H' pg R FS→wE R FS→1≤FS.length→FS.length≤3→Ce R FS→Q pg H'
theorem tW (T:G0 mg) (F:Fun K "_law_headed" "_law_headed" cM f fd) (D_l_draw:Cal P w K mg base 1 "_law_draw" ["_law_feed_here", "_law_many_here"] yh):bg P w K mg base CX0 2 f fd ["_law_feed_here"] Be:=by
 obtain ⟨g_l_draw,gd_l_draw,G_l_draw,b_l_draw,k_l_draw,m_l_draw⟩:=D_l_draw.ex
 refine F.ok bx (fun vs H Q E h=>?_) (fun cdv A outer s H vs Q E hr h=>?_)
 ·obtain ⟨fp,sc,m,rfl,_⟩:=h
  rfl
 obtain ⟨fp,sc,m,rfl,hf,hm,q⟩:=h
 refine ⟨_,(@al _ _ _ _ _ (@aB _ _ 1 _ _ _ _ bx.nd rfl (Or.inl rfl) (@aR _ _ _ _ ag) (ao rfl) (.inr rfl)) (@al _ _ _ _ _ (@bn _ _ _ _ _ _ _ _ PassesOwn.never rfl (cD rfl T.range (@ad _ _ _ _ _ (@ay _ _ _ _ _ _ _ aM (@aR _ _ _ _ (@ad _ _ _ _ _ ak (@ad _ _ _ _ _ ak (@ad _ _ _ _ _ ak ag (ac rfl)) (ac rfl)) (ac rfl))) (@ar _ _ _ _ _ _ _ _ _ _ _ _ _ _ _ _ G_l_draw (hr.mono (by omega)) rfl m_l_draw k_l_draw b_l_draw .nil aE (@ad _ _ _ _ _ (pv 0) (@ad _ _ _ _ _ ak ag (ac rfl)) (ac rfl)) (by decide) (ac rfl) (aj rfl)) (fun _ _=>rfl)) ag (ac rfl))) (au (i:=2) bx.nd rfl (Or.inl rfl)) (@al _ _ _ _ _ (@aB _ _ 3 _ _ _ _ bx.nd rfl (Or.inr rfl) (@aG _ _ _ _ _ _ _ _ ml (@aR _ _ _ _ (@ad _ _ _ _ _ aN (@ad _ _ _ _ _ aN (@ad _ _ _ _ _ aN ag (ac rfl)) (ac rfl)) (ac rfl))) (be (N':=ia) (ρ:=[none]) (m:=1) (bt.of (fs:=defScope cM) (N:=eh) rfl rfl (by decide +kernel)) rfl (aZ (pv 1)) (fun _ _ _ _=>(au (i:=0) lI rfl (Or.inl rfl))) (fun _ _ _ _=>bq) (fun _ _ _ _=>(ay (cK (K:=K) rfl) (pv 0) ak (fun _ _=>rfl))))) (ao rfl) (.inl rfl)) (@al _ _ _ _ _ (@aB _ _ 4 _ _ _ _ bx.nd rfl (Or.inl rfl) (@dS _ _ _ _ _ _ _ _ _ _ gZ (@aR _ _ _ _ (@ad _ _ _ _ _ aN (@ad _ _ _ _ _ aN (@ad _ _ _ _ _ aN ag (ac rfl)) (ac rfl)) (ac rfl))) gW (eF (aG bB ak (ar G_l_draw (hr.mono (by omega)) rfl m_l_draw k_l_draw b_l_draw .nil aE (ad (pv 0) (ad (aG bB ak (pv 2)) ag)))))) (ao rfl) (.inr rfl)) (@al _ _ _ _ _ (@aB _ _ 5 _ _ _ _ bx.nd rfl (Or.inl rfl) (@aX _ _ _ _ _ _ _ _ _ bv rfl T.tuple dI (@ad _ _ _ _ _ (be (N':=il) (ρ:=[none,some 3,some 0]) (m:=1) (bt.of (fs:=defScope cM) (N:=eh) rfl rfl (by decide +kernel)) rfl (aZ (pv 4)) (fun _ _ _ _=>(au (i:=0) mn rfl (Or.inl rfl))) (fun _ _ _ _=>bq) (fun _ _ _ _=>(aW (ad (pv 0) (ad (ay (lh (K:=K) rfl) (pv 1) (ar G_l_draw (hr.mono (by omega)) rfl m_l_draw k_l_draw b_l_draw .nil aE (ad (pv 2) (ad (aA (ik (K:=K) rfl) rfl T.len eC (ad (pv 1) ag)) ag))) (fun _ _=>rfl)) ag))))) ag (ac rfl)) (by decide) (by decide) (ac rfl) (aj rfl)) (ao rfl) (.inr rfl)) (@ap _ _ _ (@bY _ _ _ _ (@dB _ _ _ _ _ _ _ _ _ _ _ _ PySem.F.plainAttrs_list PySem.F.slot_list_append PySem.F.type_list_append cZ (pv 1) (@ad _ _ _ _ _ (@aW _ _ _ _ _ (@ad _ _ _ _ _ (@ay _ _ _ _ _ _ _ aM (@aR _ _ _ _ (@ad _ _ _ _ _ aN (@ad _ _ _ _ _ aN ag (ac rfl)) (ac rfl))) (pv 2) (fun _ _=>rfl)) (@ad _ _ _ _ _ (pv 5) ag (ac rfl)) (ac rfl))) ag (ac rfl)) rfl (cH rfl rfl) rfl (ac rfl) (aj rfl)) (ao rfl)))))) (fun _=>rfl)) (@al _ _ _ _ _ (@aB _ _ 3 _ _ _ _ bx.nd rfl (Or.inr rfl) (@aG _ _ _ _ _ _ _ _ ml (@aR _ _ _ _ (@ad _ _ _ _ _ aN (@ad _ _ _ _ _ aN (@ad _ _ _ _ _ aN ag (ac rfl)) (ac rfl)) (ac rfl))) (be (N':=hZ) (ρ:=[none]) (m:=1) (bt.of (fs:=defScope cM) (N:=eh) rfl rfl (by decide +kernel)) rfl (aZ (pv 1)) (fun _ _ _ _=>(au (i:=0) ld rfl (Or.inl rfl))) (fun _ _ _ _=>bq) (fun _ _ _ _=>(ay (cK (K:=K) rfl) (pv 0) ak (fun _ _=>rfl))))) (ao rfl) (.inl rfl)) (@al _ _ _ _ _ (@aB _ _ 6 _ _ _ _ bx.nd rfl (Or.inl rfl) (@aR _ _ _ _ ag) (ao rfl) (.inr rfl)) (@al _ _ _ _ _ (@bn _ _ _ _ _ _ _ _ PassesOwn.never rfl (aZ (@dS _ _ _ _ _ _ _ _ _ _ gZ (@aR _ _ _ _ (@ad _ _ _ _ _ aN (@ad _ _ _ _ _ aN (@ad _ _ _ _ _ aN ag (ac rfl)) (ac rfl)) (ac rfl))) gW (eF (aG bB ak (ar G_l_draw (hr.mono (by omega)) rfl m_l_draw k_l_draw b_l_draw .nil aE (ad (pv 0) (ad ak ag))))))) (au (i:=7) bx.nd rfl (Or.inl rfl)) (@al _ _ _ _ _ (@aB _ _ 4 _ _ _ _ bx.nd rfl (Or.inl rfl) (@dS _ _ _ _ _ _ _ _ _ _ gZ (@aR _ _ _ _ (@ad _ _ _ _ _ aN (@ad _ _ _ _ _ aN (@ad _ _ _ _ _ aN ag (ac rfl)) (ac rfl)) (ac rfl))) gW (eF (ay aM (aR (ad ak (ad ak (ad ak (ad ak ag))))) (ar G_l_draw (hr.mono (by omega)) rfl m_l_draw k_l_draw b_l_draw .nil aE (ad (pv 0) (ad ak ag))) (fun _ _=>rfl)))) (ao rfl) (.inr rfl)) (@al _ _ _ _ _ (@aB _ _ 8 _ _ _ _ bx.nd rfl (Or.inl rfl) (@aX _ _ _ _ _ _ _ _ _ bv rfl T.tuple dI (@ad _ _ _ _ _ (be (N':=hX) (ρ:=[none,some 3,some 0]) (m:=1) (bt.of (fs:=defScope cM) (N:=eh) rfl rfl (by decide +kernel)) rfl (aZ (pv 4)) (fun _ _ _ _=>(au (i:=0) lF rfl (Or.inl rfl))) (fun _ _ _ _=>bq) (fun _ _ _ _=>(aW (ad (pv 0) (ad (ay (lh (K:=K) rfl) (pv 1) (ar G_l_draw (hr.mono (by omega)) rfl m_l_draw k_l_draw b_l_draw .nil aE (ad (pv 2) (ad (aA (ik (K:=K) rfl) rfl T.len eC (ad (pv 1) ag)) ag))) (fun _ _=>rfl)) ag))))) ag (ac rfl)) (by decide) (by decide) (ac rfl) (aj rfl)) (ao rfl) (.inr rfl)) (@ap _ _ _ (@bY _ _ _ _ (@dB _ _ _ _ _ _ _ _ _ _ _ _ PySem.F.plainAttrs_list PySem.F.slot_list_append PySem.F.type_list_append cZ (pv 6) (@ad _ _ _ _ _ (@aW _ _ _ _ _ (@ad _ _ _ _ _ (pv 7) (@ad _ _ _ _ _ (pv 8) (@ad _ _ _ _ _ (@aW _ _ _ _ _ (@ad _ _ _ _ _ (@aW _ _ _ _ _ (@ad _ _ _ _ _ aN (@ad _ _ _ _ _ aN ag (ac rfl)) (ac rfl))) ag (ac rfl))) (@ad _ _ _ _ _ aN (@ad _ _ _ _ _ (@aW _ _ _ _ _ ag) ag (ac rfl)) (ac rfl)) (ac rfl)) (ac rfl)) (ac rfl))) ag (ac rfl)) rfl (cH rfl rfl) rfl (ac rfl) (aj rfl)) (ao rfl))))) (fun _=>rfl)) (@ap _ _ _ (@aD _ _ _ _ (@aW _ _ _ _ _ (@ad _ _ _ _ _ (@aX _ _ _ _ _ _ _ _ _ bv rfl T.tuple dI (@ad _ _ _ _ _ (pv 1) ag (ac rfl)) (by decide) (by decide) (ac rfl) (aj rfl)) (@ad _ _ _ _ _ (@aX _ _ _ _ _ _ _ _ _ bv rfl T.tuple dI (@ad _ _ _ _ _ (pv 6) ag (ac rfl)) (by decide) (by decide) (ac rfl) (aj rfl)) ag (ac rfl)) (ac rfl)))))))))),?_⟩
 refine ⟨(by show 0≤sizeLine; decide),fun rl hrl0=>?_⟩
 have nrl:=hf.ne hrl0
 have s1:=af hrl0 (.lst [])
 have f1:=hf.same s1
 refine ⟨(by show 3≤sizeLine; decide),fun l1 hl1=>?_⟩
 have s2:=af hl1 (.lst [.int 0,.int 1,.int 2])
 have f2:=f1.same s2
 refine ⟨_,rfl,fp,3,sc,m,rfl,f2,by omega,by decide,by decide,fun v2 H2 a2 b2 x2 f2=>?_⟩
 obtain ⟨u,hu,_,hat⟩:=iw (xs:=[V.int 0,.int 1,.int 2]) a2 b2
 obtain ⟨n,rfl,hn0,hn⟩:∃ n:Int,u=.int n∧0≤n∧n≤2:=by
  simp only [List.mem_cons,List.not_mem_nil,or_false] at hu
  rcases hu with rfl | rfl | rfl<;>exact ⟨_,rfl,by decide,by decide⟩
 refine ⟨l1,_,_,_,rfl,rfl,SqL.of (x2 _ _ (f1.ne hl1).1 ae),hat,n,rfl,by omega,by omega,?_⟩
 have hrl2:=x2 _ _ nrl.1 (s2 _ _ (ae (H:=H) (a:=rl) (o:=.lst [])))
 have E2:Ext fp H H2:=(av.ext (s1.trans s2)).trans x2
 refine cV (n:=n.toNat) (fun k σ H'=>∃ m2 m3 m4 m5 ys R,σ=[some (.ref fp),some (.ref rl),m2,m3,m4,m5,none,none,none]∧Ext fp H H'∧Fd H' fp sc (m+1+4*k)∧H' rl=some (.lst ys)∧Paired (jM H') ys R∧R.map (·.1)=NM2.take k∧vU R∧∀ rc∈R,dE (rc.2.map (·.1))) ⟨_,_,_,_,[],[],rfl,E2,f2,hrl2,.nil,rfl,fun j rc z=>(by simp at z),fun _ z=>nomatch z⟩ (fun k σ H3 hk p=>?_) (fun σ H3 p=>?_)
 ·obtain ⟨m2,m3,m4,m5,ys,R,rfl,E3,f3,hrl,pr,hnm,hgd,hnr⟩:=p
  have lys:=Paired.length pr
  obtain ⟨nd,lR,np⟩:=nm2 hnm
  have lRk:R.length=k:=by
   have:=congrArg List.length hnm
   rw [List.length_map,List.length_take] at this
   simp at this
   omega
  refine ⟨(by show 3≤sizeLine; decide),fun l3 h3=>?_⟩
  have g3:=af h3 (.lst L3)
  have hrl3:=g3 _ _ hrl
  refine ⟨_,rfl,rl,rfl,⟨ys,SqL.of hrl3⟩,bF (xs:=ys) ys.length rfl (by omega) (fun j acc H'=>H'=upd H3 l3 (.lst L3)∧acc=((R.map (·.1)).take j).map V.str) ⟨rfl,rfl⟩ (fun j acc H' p=>by rw [p.1]; exact SqL.of hrl3) (fun j acc H6 x hj la hx p=>?_) (fun acc H6 p la D hD=>?_)⟩
  ·obtain ⟨rfl,rfl⟩:=p
   obtain ⟨rc,hrc,ra,ry,rfl,hra,_⟩:=aH pr j x hx
   refine ⟨⟨rfl,rfl⟩,bp ?_⟩
   refine ⟨_,rfl,ra,_,_,_,rfl,rfl,SqT.of (g3 _ _ hra),rfl,nxT (by omega) hj la ⟨rfl,?_⟩⟩
   rw [List.take_add_one,List.getElem?_map,hrc,List.map_append]
   rfl
  obtain ⟨rfl,rfl⟩:=p
  have gD:=af hD (.lst (((R.map (·.1)).take ys.length).map V.str))
  refine ⟨l3,D,_,_,rfl,rfl,gD _ _ ae,ae,Nat.le_of_lt (aC (by simp; omega)),fun kl hkl0=>?_⟩
  have gK:=af hkl0 (.lst (L3++((R.map (·.1)).take ys.length).map V.str))
  have gg:=(g3.trans gD).trans gK
  have hkl:(upd (upd (upd H3 l3 (.lst L3)) D (.lst (((R.map (·.1)).take ys.length).map V.str))) kl (.lst (L3++((R.map (·.1)).take ys.length).map V.str))) kl=some (.lst ((PL3++R.map (·.1)).map V.str)):=by
   rw [ae,lys,← List.length_map (f:=fun r:Rec=>r.1),List.take_length,List.map_append]
   rfl
  have klf:H3 kl=none:=(g3.trans gD).free hkl0
  generalize (upd (upd (upd H3 l3 (.lst L3)) D (.lst (((R.map (·.1)).take ys.length).map V.str))) kl (.lst (L3++((R.map (·.1)).take ys.length).map V.str)))=HK at gg hkl
  have fK:=f3.same gg
  have nkl:=f3.ne klf
  have hrlK:=gg _ _ hrl
  refine ⟨(by show 3≤sizeLine; decide),fun l4 h4=>?_⟩
  have g4:=af h4 (.lst [.str "x",.str "a",.str "ab"])
  have f4:=fK.same g4
  refine ⟨_,rfl,_,rfl,_,_,rfl,rfl,?_⟩
  refine ⟨fp,_,sc,_,rfl,f4,by omega,by omega,by omega,fun v H5 a5 b5 x5 f5=>?_⟩
  have b5':v<2+(0+(k:Int)):=b5
  refine ⟨_,_,rfl,rfl,_,rfl,l4,_,rfl,SqL.of (x5 _ _ (fK.ne h4).1 ae),fun nl hnl0=>?_⟩
  have g5:=af hnl0 (.lst (bV [.str "x",.str "a",.str "ab"] none (some (1+v))))
  have hnl:(upd H5 nl (.lst (bV [.str "x",.str "a",.str "ab"] none (some (1+v))))) nl=some (.lst ((([("x":Str), "a", "ab"]:List Str).take (1+v).toNat).map V.str)):=by
   rw [ae,yZ (by omega) (by omega),List.map_take]
   rfl
  have lns0:(([("x":Str), "a", "ab"]:List Str).take (1+v).toNat).length=(1+v).toNat:=by
   rw [List.length_take]
   show min _ 3=_
   omega
  have ff:=f5.same g5
  have hkl5:=g5 _ _ (x5 _ _ nkl.1 (g4 _ _ hkl))
  have nnl:=(f5.ne hnl0).1
  have hrl5:=g5 _ _ (x5 _ _ nrl.1 (g4 _ _ hrlK))
  have k5:Tk H3 (upd H5 nl (.lst (bV [.str "x",.str "a",.str "ab"] none (some (1+v))))):=(ah (gg.trans g4)).trans ((f4.tk x5).trans (ah g5))
  have E5:Ext fp H3 (upd H5 nl (.lst (bV [.str "x",.str "a",.str "ab"] none (some (1+v))))):=(av.ext (gg.trans g4)).trans (x5.trans (av.ext g5))
  generalize (upd H5 nl (.lst (bV [.str "x",.str "a",.str "ab"] none (some (1+v)))))=H8 at hnl ff hkl5 hrl5 k5 E5
  have hkl:=hkl5
  have nkl:=nkl.1
  have lks:(PL3++R.map (·.1)).length=3+R.length:=by rw [List.length_append,List.length_map]; rfl
  have ndn:dE (([("x":Str), "a", "ab"]:List Str).take (1+v).toNat):=lA (by decide +kernel) (by decide +kernel)
  generalize hns:(([("x":Str), "a", "ab"]:List Str).take (1+v).toNat)=ns at hnl lns0 ndn
  generalize hks:(PL3++R.map (·.1))=ks at hkl lks
  refine ⟨_,rfl,nl,rfl,⟨_,SqL.of hnl⟩,bF (xs:=ns.map V.str) ns.length (by rw [List.length_map]) (by omega) (fun jx acc H'=>∃ fs,Ext fp H8 H'∧Fd H' fp sc (m+1+4*k+1+jx)∧Paired (nK H') acc fs∧fs.length=jx∧(∀ p∈fs,p.2∈ks)∧fs.map (·.1)=ns.take jx) ⟨[],Ext.refl _ _,ff,.nil,rfl,fun _ z=>(nomatch z),rfl⟩ (fun jx acc H' p=>SqL.of (p.choose_spec.1 _ _ nnl hnl)) (fun jx acc H6 x hj la hx p=>?_) (fun acc H6 p la D hD=>?_)⟩
  ·obtain ⟨fs,x6,f6,pf,lf,hk,hfn⟩:=p
   obtain ⟨nm,hnmx,rfl⟩:∃ nm,ns[jx]?=some nm∧x=.str nm:=by
    rw [List.getElem?_map] at hx
    obtain ⟨nm,h1,e⟩:=Option.map_eq_some_iff.mp hx
    exact ⟨nm,h1,e.symm⟩
   have hkl6:=x6 _ _ nkl hkl
   refine ⟨⟨rfl,rfl⟩,bp ?_⟩
   refine ⟨_,rfl,_,rfl,_,rfl,_,rfl,kl,_,rfl,.inl (SqL.of hkl6),fp,_,sc,_,rfl,f6,by omega,by rw [List.length_map]; omega,by rw [List.length_map]; omega,fun v H7 a7 b7 x7 f7=>?_⟩
   obtain ⟨u,hu,_,hat⟩:=iw a7 b7
   obtain ⟨kk,hkk,rfl⟩:=List.mem_map.mp hu
   refine ⟨kl,_,_,_,rfl,rfl,SqL.of (x7 _ _ nkl hkl6),hat,(by show 2≤sizeLine; decide),fun p hp=>?_⟩
   have g8:=af hp (.tup [.str nm,.str kk])
   refine nxT (by omega) hj la ⟨fs++[(nm,kk)],(x6.trans x7).trans (av.ext g8),(f7.same g8).le (by omega),Paired.app (Paired.mapP pf fun _ _ z=>(z.mono (f6.tk x7)).mono (ah g8)) (.cons ⟨p,rfl,ae⟩ .nil),by simp [lf],fun q hq=>?_,?_⟩
   ·rcases List.mem_append.mp hq with hq | hq
    ·exact hk q hq
    ·rw [List.mem_singleton.mp hq]
     exact hkk
   ·rw [List.map_append,hfn,List.take_add_one,hnmx]
    rfl
  obtain ⟨fs,x6,f6,pf,lf,hk,hfn⟩:=p
  rw [List.take_length] at hfn
  refine ⟨D,acc,rfl,.inl ⟨SqL.of ae,fun t ht=>?_⟩⟩
  have gT:=(af hD (.lst acc)).trans (af ht (.tup acc))
  have xT:=x6.trans (av.ext gT)
  have fT:=f6.same gT
  have pfT:eA (upd (upd H6 D (.lst acc)) t (.tup acc)) (.ref t) fs:=⟨t,acc,rfl,ae,Paired.mapP pf fun _ _ z=>z.mono (ah gT)⟩
  have hrlT:=xT _ _ nrl.1 hrl5
  have kT:=k5.trans (ff.tk xT)
  have ET:=E5.trans xT
  generalize (upd (upd H6 D (.lst acc)) t (.tup acc))=HT at xT fT pfT hrlT kT ET gT
  refine ⟨_,rfl,.inl ⟨rfl,_,SqL.of hrlT⟩,(by show 2≤sizeLine; decide),fun l5 h5=>?_⟩
  have g9:=af h5 (.lst [.str "pair",.str "box"])
  obtain ⟨nm,hnmk⟩:∃ nm,NM2[k]?=some nm:=⟨_,List.getElem?_eq_getElem (show k<2 by omega)⟩
  have hatn:atI [V.str "pair",.str "box"] (0+(k:Int))=some (.str nm):=BC (xs:=NM2.map V.str) (by rw [List.getElem?_map,hnmk]; rfl)
  refine ⟨_,rfl,l5,_,_,_,rfl,rfl,SqL.of ae,hatn,_,rfl,(by show 2≤sizeLine; decide),fun p6 h6=>?_⟩
  have g10:=g9.trans (af h6 (.tup [.str nm,.ref t]))
  have hrl10:=g10 _ _ hrlT
  have kt:=cj hrl10 (.lst (ys++[.ref p6]))
  refine ⟨rl,ys,_,rfl,rfl,hrl10,aC (by omega),?_⟩
  refine ⟨_,_,_,_,ys++[.ref p6],R++[(nm,fs)],rfl,((E3.trans ET).trans (av.ext g10)).put hrl0,((fT.same g10).upd nrl).le (by omega),ae,Paired.app (Paired.mapP pr fun _ _ z=>(z.mono (kT.trans ((ah g10).trans kt)))) (.cons ⟨p6,.ref t,rfl,kt _ _ ae,(pfT.mono ((ah g10).trans kt))⟩ .nil),?_,?_,fun rc hrc=>?_⟩
  ·rw [List.map_append,hnm,List.take_add_one,hnmk]
   rfl
  ·intro j rc hj
   by_cases c:j<R.length
   ·rw [List.getElem?_append_left c] at hj
    have:=hgd j rc hj
    rw [List.take_append_of_le_length (by omega)]
    exact this
   ·rw [List.getElem?_append_right (by omega)] at hj
    have e0:j - R.length=0:=by
     rcases hh:j - R.length with _ | z
     ·rfl
     ·rw [hh] at hj
      cases hj
    rw [e0] at hj
    cases Option.some.inj hj
    have:j=R.length:=by omega
    subst this
    refine ⟨⟨by show 1≤fs.length; omega,by show fs.length≤3; omega⟩,fun p hp=>?_⟩
    rw [List.take_left,hks]
    exact hk p hp
  ·rcases List.mem_append.mp hrc with hrc | hrc
   ·exact hnr rc hrc
   ·rw [List.mem_singleton.mp hrc]
    show dE (fs.map (·.1))
    rw [hfn]
    exact ndn
 ·obtain ⟨m2,m3,m4,m5,ys,R,rfl,E3,f3,hrl,pr,hnm,hgd,hnr⟩:=p
  have lys:=Paired.length pr
  obtain ⟨nd,lR,np⟩:=nm2 hnm
  refine ⟨(by show 3≤sizeLine; decide),fun l3 h3=>?_⟩
  have g3:=af h3 (.lst L3)
  have hrl3:=g3 _ _ hrl
  refine ⟨_,rfl,rl,rfl,⟨ys,SqL.of hrl3⟩,bF (xs:=ys) ys.length rfl (by omega) (fun j acc H'=>H'=upd H3 l3 (.lst L3)∧acc=((R.map (·.1)).take j).map V.str) ⟨rfl,rfl⟩ (fun j acc H' p=>by rw [p.1]; exact SqL.of hrl3) (fun j acc H6 x hj la hx p=>?_) (fun acc H6 p la D hD=>?_)⟩
  ·obtain ⟨rfl,rfl⟩:=p
   obtain ⟨rc,hrc,ra,ry,rfl,hra,_⟩:=aH pr j x hx
   refine ⟨⟨rfl,rfl⟩,bp ?_⟩
   refine ⟨_,rfl,ra,_,_,_,rfl,rfl,SqT.of (g3 _ _ hra),rfl,nxT (by omega) hj la ⟨rfl,?_⟩⟩
   rw [List.take_add_one,List.getElem?_map,hrc,List.map_append]
   rfl
  obtain ⟨rfl,rfl⟩:=p
  have gD:=af hD (.lst (((R.map (·.1)).take ys.length).map V.str))
  refine ⟨l3,D,_,_,rfl,rfl,gD _ _ ae,ae,Nat.le_of_lt (aC (by simp; omega)),fun kl hkl0=>?_⟩
  have gK:=af hkl0 (.lst (L3++((R.map (·.1)).take ys.length).map V.str))
  have gg:=(g3.trans gD).trans gK
  have hkl:(upd (upd (upd H3 l3 (.lst L3)) D (.lst (((R.map (·.1)).take ys.length).map V.str))) kl (.lst (L3++((R.map (·.1)).take ys.length).map V.str))) kl=some (.lst ((PL3++R.map (·.1)).map V.str)):=by
   rw [ae,lys,← List.length_map (f:=fun r:Rec=>r.1),List.take_length,List.map_append]
   rfl
  have klf:H3 kl=none:=(g3.trans gD).free hkl0
  generalize (upd (upd (upd H3 l3 (.lst L3)) D (.lst (((R.map (·.1)).take ys.length).map V.str))) kl (.lst (L3++((R.map (·.1)).take ys.length).map V.str)))=HK at gg hkl
  have nkl:=(f3.ne klf).1
  have fK:=f3.same gg
  have hrlK:=gg _ _ hrl
  have prK:Paired (jM HK) ys R:=Paired.mapP pr fun _ _ z=>z.mono (ah gg)
  refine ⟨(by show 0≤sizeLine; decide),fun fl hfl0=>?_⟩
  have nfl:=fK.ne hfl0
  have g4:=af hfl0 (.lst [])
  have f4:=fK.same g4
  refine ⟨(by show 3≤sizeLine; decide),fun l6 h6=>?_⟩
  have g5:=af h6 (.lst [.str "f",.str "x",.str "fx"])
  have f5:=f4.same g5
  refine ⟨_,rfl,fp,3,sc,_,rfl,f5,by omega,by decide,by decide,fun v H5 a5 b5 x5 f5'=>?_⟩
  refine ⟨_,_,rfl,rfl,_,rfl,l6,_,rfl,SqL.of (x5 _ _ (f4.ne h6).1 ae),fun ol hol0=>?_⟩
  have b5':v<3:=b5
  have g6:=af hol0 (.lst (bV [.str "f",.str "x",.str "fx"] none (some (1+v))))
  have hol:(upd H5 ol (.lst (bV [.str "f",.str "x",.str "fx"] none (some (1+v))))) ol=some (.lst ((NM3.take (1+v).toNat).map V.str)):=by
   rw [ae,yZ (by omega) (by omega),List.map_take]
   rfl
  have lon:(NM3.take (1+v).toNat).length=(1+v).toNat:=by
   rw [List.length_take]
   show min _ 3=_
   omega
  have ndo:(NM3.take (1+v).toNat).Nodup:=List.Sublist.nodup (List.take_sublist _ _) (by decide +kernel)
  have fS:=f5'.same g6
  have nol:=(f5'.ne hol0).1
  have GS:Ext fp HK (upd H5 ol (.lst (bV [.str "f",.str "x",.str "fx"] none (some (1+v))))):=(av.ext (g4.trans g5)).trans (x5.trans (av.ext g6))
  have hkl6:=GS _ _ nkl hkl
  have hrl6:=GS _ _ nrl.1 hrlK
  have hfl6:=g6 _ _ (x5 _ _ nfl.1 (g5 _ _ (ae (H:=HK) (a:=fl) (o:=.lst []))))
  have nof:ol≠fl:=(aq (x5 _ _ nfl.1 (g5 _ _ (ae (H:=HK) (a:=fl) (o:=.lst [])))) hol0).symm
  have pr6:Paired (jM (upd H5 ol (.lst (bV [.str "f",.str "x",.str "fx"] none (some (1+v)))))) ys R:=Paired.mapP prK fun _ _ z=>z.mono (fK.tk GS)
  have ES:Ext fp H (upd H5 ol (.lst (bV [.str "f",.str "x",.str "fx"] none (some (1+v))))):=(E3.trans (av.ext gg)).trans GS
  have Hfl:H fl=none:=by
   cases e9:H fl with
   | none=>rfl
   | some o =>
    have:=(E3.trans (av.ext gg)) _ _ nfl.1 e9
    rw [hfl0] at this
    cases this
  have nkf:kl≠fl:=aq hkl hfl0
  have nrf:rl≠fl:=aq hrlK hfl0
  generalize (upd H5 ol (.lst (bV [.str "f",.str "x",.str "fx"] none (some (1+v)))))=HS at hol fS hkl6 hrl6 hfl6 pr6 ES
  have lks:(PL3++R.map (·.1)).length=3+R.length:=by rw [List.length_append,List.length_map]; rfl
  have dal:∀ k,k∈PL3++R.map (·.1)→bW R 3 k:=fun k hk=>wt hgd nd np lR hk
  generalize hks:(PL3++R.map (·.1))=ks at hkl6 lks dal
  generalize hon:NM3.take (1+v).toNat=on at hol lon ndo
  refine ⟨ol,rfl,⟨_,SqL.of hol⟩,bK (xs:=on.map V.str) (fun j σ H'=>∃ m4 m7 m8 zs FS,σ=[some (.ref fp),some (.ref rl),m2,some (.ref kl),m4,m5,some (.ref fl),m7,m8]∧(∀ b o,b≠fp→b≠fl→HS b=some o→H' b=some o)∧Tk HS H'∧Fd H' fp sc (m+11+4*j)∧H' fl=some (.lst zs)∧Paired (io H') zs FS∧FS.map (·.1)=on.take j∧∀ F∈FS,F.2.length≤3∧(∀ p∈F.2,p.2∈ks)∧dE (F.2.map (·.1))) ⟨_,_,_,[],[],rfl,fun _ _ _ _ e=>e,fun _ _ e=>e,fS.le (by omega),hfl6,.nil,rfl,fun _ z=>nomatch z⟩ (fun j σ H' _ p=>?_) (fun j x σ H7 hx p=>?_) (fun σ H7 p=>?_)⟩
  ·obtain ⟨_,_,_,_,_,_,kp,_⟩:=p
   exact SqL.of (kp _ _ nol nof hol)
  ·obtain ⟨m4',m7,m8,zs,FS,rfl,kp,kS,f7,hfl7,pF,hFn,hFk⟩:=p
   obtain ⟨own,hown,rfl⟩:∃ own,on[j]?=some own∧x=.str own:=by
    rw [List.getElem?_map] at hx
    obtain ⟨nm,h1,e⟩:=Option.map_eq_some_iff.mp hx
    exact ⟨nm,h1,e.symm⟩
   have hj3:j<on.length:=(List.getElem?_eq_some_iff.mp hown).1
   refine ⟨(by show 3≤sizeLine; decide),fun l7 h7=>?_⟩
   have w1:=af h7 (.lst [.str "x",.str "xy",.str "pair"])
   refine ⟨(by show 4≤sizeLine; decide),fun l8 h8=>?_⟩
   have w2:=af h8 (.lst [.int 1,.int 2,.int 3,.int 0])
   have f8:=(f7.same w1).same w2
   refine ⟨_,rfl,fp,4,sc,_,rfl,f8,by omega,by decide,by decide,fun v9 H9 a9 b9 x9 f9=>?_⟩
   obtain ⟨u9,hu9,_,hat9⟩:=iw (xs:=[V.int 1,.int 2,.int 3,.int 0]) a9 b9
   obtain ⟨n9,rfl,hn90,hn9⟩:∃ n:Int,u9=.int n∧0≤n∧n≤3:=by
    simp only [List.mem_cons,List.not_mem_nil,or_false] at hu9
    rcases hu9 with rfl | rfl | rfl | rfl<;>exact ⟨_,rfl,by decide,by decide⟩
   refine ⟨l8,_,_,_,rfl,rfl,SqL.of (x9 _ _ ((f7.same w1).ne h8).1 ae),hat9,_,rfl,l7,_,rfl,SqL.of (x9 _ _ (f7.ne h7).1 (w2 _ _ ae)),fun nl hnl0=>?_⟩
   have w3:=af hnl0 (.lst (bV [.str "x",.str "xy",.str "pair"] none (some n9)))
   have hnl:(upd H9 nl (.lst (bV [.str "x",.str "xy",.str "pair"] none (some n9)))) nl=some (.lst ((([("x":Str), "xy", "pair"]:List Str).take n9.toNat).map V.str)):=by
    rw [ae,yZ (by omega) (by omega),List.map_take]
    rfl
   have lns0:(([("x":Str), "xy", "pair"]:List Str).take n9.toNat).length≤3:=by
    rw [List.length_take]
    show min _ 3≤3
    omega
   have ff:=f9.same w3
   have nnl:=(f9.ne hnl0).1
   have EW:Ext fp H7 (upd H9 nl (.lst (bV [.str "x",.str "xy",.str "pair"] none (some n9)))):=(av.ext (w1.trans w2)).trans (x9.trans (av.ext w3))
   have hkl:=EW _ _ nkl (kp _ _ nkl nkf hkl6)
   have hfl8:=EW _ _ nfl.1 hfl7
   generalize (upd H9 nl (.lst (bV [.str "x",.str "xy",.str "pair"] none (some n9))))=H8 at hnl ff EW hkl hfl8
   have ndn:dE (([("x":Str), "xy", "pair"]:List Str).take n9.toNat):=lA (by decide +kernel) (by decide +kernel)
   generalize (([("x":Str), "xy", "pair"]:List Str).take n9.toNat)=ns at hnl lns0 ndn
   refine ⟨_,rfl,nl,rfl,⟨_,SqL.of hnl⟩,bF (xs:=ns.map V.str) ns.length (by rw [List.length_map]) (by omega) (fun jx acc H'=>∃ fs,Ext fp H8 H'∧Fd H' fp sc (m+11+4*j+1+jx)∧Paired (nK H') acc fs∧fs.length=jx∧(∀ p∈fs,p.2∈ks)∧fs.map (·.1)=ns.take jx) ⟨[],Ext.refl _ _,ff,.nil,rfl,fun _ z=>(nomatch z),rfl⟩ (fun jx acc H' p=>SqL.of (p.choose_spec.1 _ _ nnl hnl)) (fun jx acc H6 x hj la hx p=>?_) (fun acc H6 p la D hD=>?_)⟩
   ·obtain ⟨fs,x6,f6,pf,lf,hk,hfn⟩:=p
    obtain ⟨nm,hnmx,rfl⟩:∃ nm,ns[jx]?=some nm∧x=.str nm:=by
     rw [List.getElem?_map] at hx
     obtain ⟨nm,h1,e⟩:=Option.map_eq_some_iff.mp hx
     exact ⟨nm,h1,e.symm⟩
    have hkl6:=x6 _ _ nkl hkl
    refine ⟨⟨rfl,rfl⟩,bp ?_⟩
    refine ⟨_,rfl,_,rfl,_,rfl,_,rfl,kl,_,rfl,.inl (SqL.of hkl6),fp,_,sc,_,rfl,f6,by omega,by rw [List.length_map]; omega,by rw [List.length_map]; omega,fun v H7 a7 b7 x7 f7=>?_⟩
    obtain ⟨u,hu,_,hat⟩:=iw a7 b7
    obtain ⟨kk,hkk,rfl⟩:=List.mem_map.mp hu
    refine ⟨kl,_,_,_,rfl,rfl,SqL.of (x7 _ _ nkl hkl6),hat,(by show 2≤sizeLine; decide),fun p hp=>?_⟩
    have g8:=af hp (.tup [.str nm,.str kk])
    refine nxT (by omega) hj la ⟨fs++[(nm,kk)],(x6.trans x7).trans (av.ext g8),(f7.same g8).le (by omega),Paired.app (Paired.mapP pf fun _ _ z=>(z.mono (f6.tk x7)).mono (ah g8)) (.cons ⟨p,rfl,ae⟩ .nil),by simp [lf],fun q hq=>?_,?_⟩
    ·rcases List.mem_append.mp hq with hq | hq
     ·exact hk q hq
     ·rw [List.mem_singleton.mp hq]
      exact hkk
    ·rw [List.map_append,hfn,List.take_add_one,hnmx]
     rfl
   obtain ⟨fs,x6,f6,pf,lf,hk,hfn⟩:=p
   rw [List.take_length] at hfn
   refine ⟨D,acc,rfl,.inl ⟨SqL.of ae,fun t ht=>?_⟩⟩
   have gT:=(af hD (.lst acc)).trans (af ht (.tup acc))
   have xT:=x6.trans (av.ext gT)
   have fT:=f6.same gT
   have pfT:eA (upd (upd H6 D (.lst acc)) t (.tup acc)) (.ref t) fs:=⟨t,acc,rfl,ae,Paired.mapP pf fun _ _ z=>z.mono (ah gT)⟩
   have ET:=EW.trans xT
   have hflT:=ET _ _ nfl.1 hfl7
   have kT:Tk H7 (upd (upd H6 D (.lst acc)) t (.tup acc)):=f7.tk ET
   generalize (upd (upd H6 D (.lst acc)) t (.tup acc))=HT at xT fT pfT hflT kT ET gT
   refine ⟨_,rfl,.inl ⟨rfl,_,SqL.of hflT⟩,_,rfl,_,rfl,(by show 2≤sizeLine; decide),fun p1 h1=>⟨(by show 1≤sizeLine; decide),fun p2 h2=>⟨(by show 0≤sizeLine; decide),fun p3 h3=>⟨(by show 5≤sizeLine; decide),fun p4 h4=>?_⟩⟩⟩⟩
   have y1:=af h1 (.tup [.str "y",.str "num"])
   have y2:=af h2 (.tup [.ref p1])
   have y3:=af h3 (.tup [])
   have y4:=af h4 (.tup [.str own,.ref t,.ref p2,.str "num",.ref p3])
   have yy:=((y1.trans y2).trans y3).trans y4
   have hflY:=yy _ _ hflT
   have kt:=cj hflY (.lst (zs++[.ref p4]))
   have lzs:=Paired.length pF
   have lFS:=congrArg List.length hFn
   rw [List.length_map,List.length_take] at lFS
   refine ⟨fl,zs,_,rfl,rfl,hflY,aC (by omega),?_⟩
   refine ⟨_,_,_,zs++[.ref p4],FS++[(own,fs)],rfl,fun b o n1 n2 e=>?_,kS.trans (kT.trans ((ah yy).trans kt)),((fT.same yy).upd nfl).le (by omega),ae,Paired.app (Paired.mapP pF fun _ _ z=>(z.mono (kT.trans ((ah yy).trans kt)))) (.cons ⟨p4,.ref t,.ref p2,.ref p3,rfl,kt _ _ ae,pfT.mono ((ah yy).trans kt)⟩ .nil),?_,fun G hG=>?_⟩
   ·rw [aI n2]
    exact yy _ _ (ET _ _ n1 (kp _ _ n1 n2 e))
   ·rw [List.map_append,hFn,List.take_add_one,hown]
    rfl
   ·rcases List.mem_append.mp hG with hG | hG
    ·exact hFk G hG
    ·rw [List.mem_singleton.mp hG]
     exact ⟨by show fs.length≤3; omega,hk,by show dE (fs.map (·.1)); rw [hfn]; exact ndn⟩
  ·obtain ⟨m4',m7,m8,zs,FS,rfl,kp,kS,f7,hfl7,pF,hFn,hFk⟩:=p
   rw [List.length_map,List.take_length] at hFn
   have lFS:=congrArg List.length hFn
   rw [List.length_map] at lFS
   have hrl7:=kp _ _ nrl.1 nrf hrl6
   refine ⟨_,rfl,rl,ys,rfl,.inl ⟨SqL.of hrl7,fun t1 ht1=>?_⟩⟩
   have z1:=af ht1 (.tup ys)
   refine ⟨_,rfl,fl,zs,rfl,.inl ⟨SqL.of (z1 _ _ hfl7),fun t2 ht2=>⟨(by show 2≤sizeLine; decide),fun t3 ht3=>?_⟩⟩⟩
   have z2:=af ht2 (.tup zs)
   have z3:=af ht3 (.tup [.ref t1,.ref t2])
   have zz:=(z1.trans z2).trans z3
   refine q (.ref t3) R FS _ (fun b o nb e=>?_) ((f7.same zz).le (by rw [List.length_map]; omega)) ⟨t3,.ref t1,t2,zs,rfl,ae,⟨t1,ys,rfl,z3 _ _ (z2 _ _ ae),Paired.mapP pr6 fun _ _ z=>z.mono (kS.trans (ah zz))⟩,z3 _ _ ae,Paired.mapP pF fun _ _ z=>z.mono (ah zz)⟩ ⟨nd,lR,by rw [hFn]; exact ndo,fun G hG=>⟨(hFk G hG).1,fun p hp=>oz (dal _ ((hFk G hG).2.1 p hp))⟩,fun G hG p hp=>dal _ ((hFk G hG).2.1 p hp)⟩ (by omega) (by omega) ⟨hnr,fun G hG=>(hFk G hG).2.2⟩
   exact zz _ _ (kp _ _ nb (aq e Hfl) (ES _ _ nb e))
end
end K6
namespace L2
open PySem PySem.W PySem.Calls PySem.Spec PyProof.Rows
theorem xK {CX:CXT} {P:Program} {w:World} {K:Frag} {mg:Str→Option Value} {base:Heap} {k:Nat} {f:Addr} {name qual:Str} {params:Arguments} {body:Expr} {scope:Scope} {pm cdv ct:Value} {o:Obj}
  {N ps:List Str} {A:Around} {outer:List Env} {s:Shared} {H:Hp} {args:Args} {us:List Value} {vs:List V} {Q:VK} {E:XK} {t:TE} (S:aF N ps scope) (hl:vs.length=ps.length) (hr:cS (k+1) A) (e0:pR P w K mg base A outer s H)
  (ho:s.heap.get? f=some o) (hd:o.data=.func (kla_fn name qual params body scope [] pm cdv ct)) (hcd:s.heap.CodeRec cdv qual) (hb:BindsTo s (kla_fn name qual params body scope [] pm cdv ct) args (ps.zip us)) (r:aK vs us)
  (ht:PE (ms CX P w K mg base N qual scope f cdv A outer s H E) body t) (hq:t (fe N vs) H Q) :
  codeAny (model P w) A (.call (.ref f) args) (CR CX outer P w H s Q E) s:=by
 have lim:s.heap.NoLimit:=e0.mod.nolimit.keeps fun b o e=>(e0.bs b o e).1
 have hkind:∀ y∈ps.zip us,scope.names.lookup y.1=some .local∨(scope.names.lookup y.1=some .cell∧((cellsFrom (s.heap.objs.size+1) scope.names []).lookup y.1).isSome=true):=fun ⟨n,v⟩ hy=>by
  rcases S.par n (List.of_mem_zip hy).1 with q | q
  ·exact .inl q
  ·exact .inr ⟨q,PySem.W.cellsFrom_some _ _ _ (.inl q)⟩
 refine kla_callFunE hr.depth ho hd S.co S.gen rfl hcd (hb _ _ _ _ ?_)
 refine wpAny_newFunctionEnv_cells S.kind hkind fun env he s1 x=>?_
 subst he
 refine ⟨lim.keeps x.toInCall.keep,kla_codeExpr ?_⟩
 have I:Inv (ms CX P w K mg base N qual scope f cdv A outer s H E) [] (fe N vs) H s1:=mR S hr.hd e0 hl r x
 refine wpAny_mono (ht [] s1 (fe N vs) H _ I hq) (fun u s' hs=>?_) fun e s' hs=>hs
 obtain ⟨v,H',J,rv,q⟩:=hs
 exact ⟨v,H',J.os,J.bare,J.base,J.hok,rv,q⟩
def gh (H:Hp) (P:Addr) (qual:Str) (pos:Pos):Prop :=
 ∃ ps,H P=some (.tbl ps)∧TriplesOk ps.toList∧(codeAmong pos ps.toList=none∨∃ c' φ,codeAmong pos ps.toList=some (.ref c')∧H c'=some (.ext φ)∧∀ h,φ h→h.CodeRec (.ref c') qual)
def GoL (P:Addr) (H H':Hp):Prop:=∀ b u,b≠P→H b=some u→H' b=some u
section
variable {X:Cx} {pins:List (Addr×Obj)} {σ:St} {H:Hp} {s:Shared} {params:Arguments} {body:Expr} {scope:Scope} {pos:Pos} {c P:Addr} {A:Around} {E:Value→Shared→Prop} {Q:Value→Shared→Prop}
theorem uM (I:Inv X pins σ H s) (hcode:X.env.code=.ref c) (C:CodeHd s.heap c P) (hb:s.heap.BuiltinsAt X.mg P) (hcl:closureFor scope X.env=pure []) (hdef:defaultsOf params X.env=([],[])) (L:gh H P (X.env.qual ++ "<lambda>") pos)
  (h:∀ (f c':Addr) (ctv:Value) (H':Hp) (s':Shared),Inv X pins σ H' s'→gh H' P (X.env.qual ++ "<lambda>") pos→GoL P H H'→H' f=none→s.heap.objs.size≤f→s'.heap.get? f=some (kla_obj "<lambda>" (X.env.qual ++ "<lambda>") params body scope [] ((X.mg "__name__").getD .none) c' ctv) →
   (∃ φ,H' c'=some (.ext φ)∧∀ h,φ h→h.CodeRec (.ref c') (X.env.qual ++ "<lambda>"))→Q (.ref f) s') :
  wpAny (model X.prog X.w) A (eval (.Lambda params body scope pos) X.env) Q E s:=by
 obtain ⟨ps,hP,tr,cs⟩:=L
 have gP:s.heap.get? P=some (tabObj ps):=I.hok P _ hP
 have hg:s.heap.Ns mainGlobals X.mg:=I.ok.mod.glob.keeps I.bk
 refine kla_eval hdef ?_
 rcases cs with hn | ⟨c',φ,hf,hc',hφ⟩
 ·have hgP:mainGlobals≠P:=fun q=>by
   obtain ⟨o,es,ep,e,hd,_⟩:=hg
   rw [q,gP] at e; cases e; cases hd
  refine kla_makeFunction (mg:=X.mg) hcl I.ok.glob hg hcode C gP tr hn hgP hb fun c' ctv h' tk hx hge hlt hrec htb=>?_
  have cP:c'≠P:=Nat.ne_of_gt (Nat.lt_of_lt_of_le (Heap.lt_size gP) hge)
  have hc0:H c'=none:=I.hok.fresh hge
  obtain ⟨H',eH⟩:∃ H',H'=upd (upd H P (.tbl (ps++#[rawInt pos.line,rawInt pos.col,.ref c']))) c' (.ext fun h=>h.CodeRec (.ref c') (X.env.qual ++ "<lambda>")):=⟨_,rfl⟩
  have go:GoL P H H':=fun b u nb q=>by rw [eH,aI (aq q hc0),aI nb]; exact q
  have hP':H' P=some (.tbl (ps++#[rawInt pos.line,rawInt pos.col,.ref c'])):=by rw [eH,aI cP.symm,ae]
  have hc2:H' c'=some (.ext fun h=>h.CodeRec (.ref c') (X.env.qual ++ "<lambda>")):=by rw [eH,ae]
  have none':∀ b,H b=none→b≠c'→H' b=none:=fun b q n=>by rw [eH,aI n,aI (fun z=>by rw [z,hP] at q; cases q)]; exact q
  have kp:∀ b o,b≠P→s.heap.get? b=some o→(h'.push (kla_obj "<lambda>" (X.env.qual ++ "<lambda>") params body scope [] ((X.mg "__name__").getD .none) c' ctv)).get? b=some o:=fun b o n q=>Heap.get?_push_of_some _ (hx b o n q)
  have ltc:∀ b o,s.heap.get? b=some o→b≠c':=fun b o q=>Nat.ne_of_lt (Nat.lt_of_lt_of_le (Heap.lt_size q) hge)
  have tb:∀ b p2,H b=some (.tbl p2)→∃ more,H' b=some (.tbl (p2++more)):=fun b p2 q=>by
   by_cases z:b=P
   ·subst z
    rw [hP] at q; cases q
    exact ⟨_,hP'⟩
   ·exact ⟨#[],by rw [go b _ z q]; simp⟩
  have un:Un X.fs [] H H' s.heap (h'.push (kla_obj "<lambda>" (X.env.qual ++ "<lambda>") params body scope [] ((X.mg "__name__").getD .none) c' ctv)) :=
   ⟨fun b o q n _ _=>kp b o (fun z=>by rw [z,hP] at n; cases n) q,fun b o q n _ _=>⟨o.slots,kp b o (fun z=>by rw [z,hP] at n; cases n) q⟩,fun b o q n _=>none' b n (ltc b o q),fun b o q _=>by
    by_cases z:b=P
    ·subst z
     exact ⟨_,Heap.get?_push_of_some _ htb⟩
    ·exact ⟨o,kp b o z q⟩,fun b xs q=>go b _ (fun z=>by rw [z,hP] at q; cases q) q,fun b o u q=>go b _ (fun z=>by rw [z,hP] at q; cases q) q,tb⟩
  have hok:HOk X.prog X.w H' (h'.push (kla_obj "<lambda>" (X.env.qual ++ "<lambda>") params body scope [] ((X.mg "__name__").getD .none) c' ctv)):=fun b u q=>by
   by_cases z:b=c'
   ·subst z
    rw [hc2] at q; cases q
    obtain ⟨c9,oc,vs,t9,e9,hoc,hdc,hv⟩:=hrec
    cases e9
    exact ⟨⟨_,oc,vs,t9,rfl,Heap.get?_push_of_some _ hoc,hdc,hv⟩,⟨oc,Heap.get?_push_of_some _ hoc⟩,fun h1 h2 ⟨c8,o8,v8,t8,e8,g8,d8,x8⟩ k8=>by cases e8; exact ⟨_,o8,v8,t8,rfl,k8 _ g8,d8,x8⟩⟩
   ·by_cases z2:b=P
    ·subst z2
     rw [hP'] at q; cases q
     exact Heap.get?_push_of_some _ htb
    ·have q':H b=some u:=by rw [eH,aI z,aI z2] at q; exact q
     refine (I.hok b u q').stay (fun d v hd g=>?_) (fun d g=>?_) (fun d xs g=>?_)
     ·rcases hd with rfl | hd
      ·exact kp _ v z2 g
      ·exact kp d v (fun zz=>by rw [zz,hP] at hd; cases hd) g
     ·exact go d _ (fun zz=>by rw [zz,hP] at g; cases g) g
     ·exact go d _ (fun zz=>by rw [zz,hP] at g; cases g) g
  have I':=I.un (t':=tk) un hok
  refine h h'.objs.size c' ctv H' _ I' ⟨_,hP',?_,.inr ⟨c',_,?_,hc2,fun h q=>q⟩⟩ go ?_ ?_ (Heap.get?_push_size _ rfl) ⟨_,hc2,fun h q=>q⟩
  ·rw [Array.toList_append]
   exact TriplesOk_snoc _ _ _ _ tr
  ·rw [Array.toList_append]
   exact codeAmong_snoc _ tr hn
  ·exact none' _ (I.hok.fresh (Nat.le_trans hge (Nat.le_of_lt hlt))) (Nat.ne_of_gt hlt)
  ·exact Nat.le_trans hge (Nat.le_of_lt hlt)
 ·refine kla_makeFunctionHit (mg:=X.mg) hcl I.ok.glob hg hcode C gP tr hf hb fun ctv h' tk hk hsz=>?_
  have I':Inv X pins σ H { s with heap:=h'.push (kla_obj "<lambda>" (X.env.qual ++ "<lambda>") params body scope [] ((X.mg "__name__").getD .none) c' ctv),toks:=tk }:=I.kept fun b u q=>Heap.get?_push_of_some _ (hk b u q)
  exact h h'.objs.size c' ctv H _ I' ⟨ps,hP,tr,.inr ⟨c',φ,hf,hc',hφ⟩⟩ (fun _ _ _ q=>q) (I.hok.fresh hsz) hsz (Heap.get?_push_size _ rfl) ⟨φ,hc',hφ⟩
end
open PySem PySem.W PySem.Calls PySem.Spec PyProof.Rows
theorem PE.nox' {CX:CXT} {P:Program} {w:World} {K:Frag} {mg:Str→Option Value} {base:Heap} {X:Cx} {e:Expr} {t:TE} (h:PE X.nox e t):PE X e t:=fun pins s σ H Q I q =>
 wpAny_mono (h pins s σ H Q (I.wish _) q) (fun u s' ⟨v,H',J,r⟩=>⟨v,H',J.unwish,r⟩) fun _ _ z=>z.elim
theorem SqL.goL {K:Frag} {P:Addr} {H H':Hp} (g:GoL P H H') {ps:Array Value} (hP:H P=some (.tbl ps)) {a:Addr} {xs:List V} (h:SqL K H a xs):SqL K H' a xs:=by
 have ne:∀ u,H a=some u→(∀ p,u≠.tbl p)→a≠P:=fun u e n z=>by rw [z,hP] at e; cases e; exact n _ rfl
 rcases h with (h | ⟨o,h⟩) | h
 ·exact .inl (.inl (g a _ (ne _ h fun p z=>by cases z) h))
 ·exact .inl (.inr ⟨o,g a _ (ne _ h fun p z=>by cases z) h⟩)
 ·exact .inr h
section
variable {X:Cx} {e:Expr} {t:TA} {tb:TE} {params:Arguments} {body:Expr} {scope:Scope} {lp kp p pos:Pos} {c P:Addr} {N:List Str} {y:Str} {k:Nat}
def zE (K:Frag) (P:Addr) (qual:Str) (lp:Pos) (N:List Str) (t:TA) (tb:TE):TE:=fun σ H Q=>t σ H fun vs H1=>∃ (l:Addr) (xs:List V) (ds:List PyData) (J:Nat→List V→Hp→Prop),vs=[.ref l]∧SqL K H1 l xs∧gh H1 P qual lp∧Aw ds∧ds.length=xs.length ∧
 (∀ H2,gh H2 P qual lp→GoL P H1 H2→J 0 [] H2)∧(∀ i x ks H2,xs[i]?=some x→J i ks H2→tb (fe N [x]) H2 fun kv H3=>(∀ b u,H2 b=some u→H3 b=some u)∧J (i+1) (ks++[kv]) H3) ∧
 (∀ ks H2,J xs.length ks H2→bd H2 ks ds)∧∀ ks H2 p,J xs.length ks H2→H2 p=none→Q (.ref p) (upd H2 p (.lst ((ju ds).map fun i=>xs.getD i .non)))
theorem Inv.two {pins:List (Addr×Obj)} {σ:St} {H:Hp} {s:Shared} {h':Heap} {t':Nat} {a b:Addr} {ys:List V} (I:Inv X pins σ H s) (ha:H a=none) (hb:H b=none) (la:X.s₀.heap.objs.size≤a) (lb:X.s₀.heap.objs.size≤b) (na:a≠X.env.locals) (nb:b≠X.env.locals)
  (ca:∀ x c,X.env.cells.lookup x=some c→c≠a) (cb:∀ x c,X.env.cells.lookup x=some c→c≠b) (pa:∀ p∈X.pn++pins,p.1≠a) (pb:∀ p∈X.pn++pins,p.1≠b)
  (k:∀ d o,d≠a→d≠b→s.heap.get? d=some o→h'.get? d=some o) (new:∀ H',bR X.prog X.w H' h' a (.lst ys)):Inv X pins σ (upd H a (.lst ys)) { s with heap:=h',toks:=t' }:=by
 have tr:∀ d u,H d=some u→d≠a∧d≠b:=fun d u q=>⟨fun z=>(by rw [z,ha] at q; cases q),fun z=>(by rw [z,hb] at q; cases q)⟩
 have mm:∀ d,d∉[a,b]→d≠a∧d≠b:=fun d hd=>⟨fun z=>hd (by simp [z]),fun z=>hd (by simp [z])⟩
 have st:∀ d u,H d=some u→upd H a (.lst ys) d=some u:=fun d u q=>by rw [aI (tr d u q).1]; exact q
 refine I.step (g':=s.gens) (d':=s.drawn) (ch:=[a,b]) (fun d hd=>?_) (fun d o _ _ hc q _=>k d o (mm d hc).1 (mm d hc).2 q) (fun d o _ _ hc q _=>⟨o.slots,k d o (mm d hc).1 (mm d hc).2 q⟩) (fun d o hc _ n=>by rw [aI (mm d hc).1]; exact n)
  (fun d o hc q=>⟨o,k d o (mm d hc).1 (mm d hc).2 q⟩) (fun d xs q=>st d _ q) (fun d o u q=>st d _ q) (fun d ps q=>⟨#[],by rw [st d _ q]; simp⟩) (fun m hm=>?_) (fun d u q=>?_) I.bare
 ·rcases List.mem_cons.mp hd with rfl | hd
  ·exact ⟨.inr la,na,ca,pa⟩
  ·rw [List.mem_singleton.mp hd]
   exact ⟨.inr lb,nb,cb,pb⟩
 ·obtain ⟨o,es,ep,q,r⟩:=hm
  exact ⟨o,es,ep,k _ o na.symm nb.symm q,r⟩
 ·by_cases z:d=a
  ·subst z
   rw [ae] at q; cases q
   exact new _
  ·rw [aI z] at q
   refine (I.hok d u q).stay (fun d2 v hd g=>?_) (fun d2 g=>st d2 _ g) (fun d2 xs g=>st d2 _ g)
   rcases hd with rfl | hd
   ·exact k _ v (tr _ _ q).1 (tr _ _ q).2 g
   ·exact k _ v (tr _ _ hd).1 (tr _ _ hd).2 g
theorem xt (hg:Gl X "sorted") (hm:X.mg "sorted"=none) (hv:bootBuiltins "sorted"=some (.builtin "sorted")) (ha:PA X [e] t) (hcode:X.env.code=.ref c) (C:∀ h,X.K.In h→CodeHd h c P) (hb:X.base.BuiltinsAt X.mg P) (hcl:closureFor scope X.env=pure []) (hdef:defaultsOf params X.env=([],[]))
  (S:aF N [y] scope) (hr:cS (k+3) X.A) (hbind:∀ (pm cdv ct:Value) (u:Value),bindArgs (kla_fn "<lambda>" (X.env.qual ++ "<lambda>") params body scope [] pm cdv ct) ⟨[u],[]⟩=pure [(y,u)])
  (hbody:∀ (A:Around) (outer:List Env) (s:Shared) (H:Hp) (E:XK) (f:Addr) (cdv:Value),cS k (A.deeper (envOfC (X.env.qual ++ "<lambda>") scope s.heap.objs.size f cdv))→PE (ms CX0 X.prog X.w X.K X.mg X.base N (X.env.qual ++ "<lambda>") scope f cdv A outer s H E).nox body tb)
  (he:backTo pos (starEach [e] X.env)=(false,eval e X.env)::backTo pos (starEach [] X.env)) (hpl:(backTo pos (starEach [e] X.env)).any (·.1)=false) :
  PE X (.Call (.Name "sorted" p) [e] [⟨some "key",.Lambda params body scope lp,kp⟩] pos) (zE X.K P (X.env.qual ++ "<lambda>") lp N t tb):=by
 intro pins s σ H Q I h
 refine wpAny_Call_Name_kw (iB I hg hm hv ?_)
 refine callWith_kw (thn (ha pos pins s σ H _ I h) fun us s1 ⟨vs,H1,I1,r1,q1⟩=>?_) he hpl rfl rfl
 obtain ⟨l,xs,ds,J,rfl,hl,L,ok,hds,j0,js,jk,jq⟩:=q1
 obtain ⟨u,rfl,rx⟩:=cU r1
 cases rx
 have hb1:s1.heap.BuiltinsAt X.mg P:=by
  obtain ⟨bm,ob,b1,b2,b3,b4,b5,b6⟩:=hb
  exact ⟨bm,ob,b1,b2,b3,b4,I1.bk _ _ b5,b6⟩
 refine kws_cons (uM I1 hcode (C _ I1.kIn) hb1 hcl hdef L fun f c' ctv H2 s2 I2 L2 go hf0 hfge hfo hco=>kws_nil ?_)
 show wpAny (model X.prog X.w) X.A (call (.builtin "sorted") [.ref l] [(Str.ofString "key",.ref f)]) _ _ s2
 have hP:=L
 obtain ⟨ps,hP,_,_⟩:=hP
 obtain ⟨its,ri,pl,hz⟩:=I2.list (hl.goL go hP)
 have lv:=aK.length ri
 have l64:=ok.len
 obtain ⟨φ,hc',hφ⟩:=hco
 have ls:=I2.sz
 have lloc:=I2.lt
 have lcell:∀ x c,X.env.cells.lookup x=some c→c<s2.heap.objs.size:=fun x c q=>by
  obtain ⟨v,o,ho,_⟩:=I2.cell x c q
  exact Heap.lt_size ho
 have lpin:∀ p∈X.pn++pins,p.1<s2.heap.objs.size:=fun p hp=>Heap.lt_size (I2.pin p hp).1
 have lf:f<s2.heap.objs.size:=Heap.lt_size hfo
 refine oU pl.isList (by omega) fun a kS e1 h1 P' E' hx la lk hne hsz gk ga fin=>?_
 have I3:Inv X pins σ H2 { s2 with heap:=h1 }:=I2.kept (t':=s2.toks) hx
 have i1:=lQ X.A
 have i2:=lQ X.A.in1
 have hu:=hr.units
 refine ue (s:={ s2 with heap:=h1 }) (T:=fun i ks s'=>∃ H' kvs,(∃ o,s'.heap.get? a=some o)∧(∃ o,s'.heap.get? kS=some o)∧Inv X pins σ H' s'∧H' a=none∧H' kS=none∧H' f=none∧s'.heap.get? f=some (kla_obj "<lambda>" (X.env.qual ++ "<lambda>") params body scope [] ((X.mg "__name__").getD .none) c' ctv)∧H' c'=some (.ext φ)∧J i kvs H'∧aK kvs ks)
  ⟨H2,[],⟨_,ga⟩,⟨_,gk⟩,I3,I2.hok.fresh la,I2.hok.fresh lk,hf0,hx _ _ hfo,hc',j0 H2 L2 go,.nil⟩ gk ga hne (by omega) ?stab ?turn ?done
 case stab =>
  rintro i ks s3 h' ⟨H',kvs,xa,xk,J3,na,nk,nf,gf,hc3,jj,rv⟩ kp hsz3 xk'
  obtain ⟨oa,ea⟩:=xa
  refine ⟨H',kvs,⟨oa,kp _ _ hne.symm ea⟩,xk',?_,na,nk,nf,kp _ _ (Nat.ne_of_lt (Nat.lt_of_lt_of_le lf lk)) gf,hc3,jj,rv⟩
  exact J3.turned (t':=s3.toks) kp nk (Nat.ne_of_gt (Nat.lt_of_lt_of_le lloc lk)) (.inr (Nat.le_trans ls lk)) (fun x c q=>Nat.ne_of_lt (Nat.lt_of_lt_of_le (lcell x c q) lk)) (fun p hp=>Nat.ne_of_lt (Nat.lt_of_lt_of_le (lpin p hp) lk))
 case turn =>
  rintro i v ks s3 hv hlen ⟨H',kvs,xa,xk,J3,na,nk,nf,gf,hc3,jj,rv⟩
  obtain ⟨x,hx',rx⟩:∃ x,xs[i]?=some x∧br x v:=by
   have hi:i<xs.length:=by rw [lv]; exact (List.getElem?_eq_some_iff.mp hv).1
   obtain ⟨u2,e2,r2⟩:=ri.get (List.getElem?_eq_getElem hi)
   rw [hv] at e2; cases e2
   exact ⟨_,List.getElem?_eq_getElem hi,r2⟩
  have cd:s3.heap.CodeRec (.ref c') (X.env.qual ++ "<lambda>"):=hφ _ (J3.hok c' _ hc3).1
  have e0:=J3.env0.in1.in1
  have rm:cS (k+1) X.A.in1.in1:=(cS.in1 (k:=k+1) (cS.in1 (k:=k+2) hr))
  refine wpAny_call (codeAny_mono (xK (CX:=CX0) (E:=E0) (Q:=fun kv H3=>(∀ b u,H' b=some u→H3 b=some u)∧J (i+1) (kvs++[kv]) H3) S (vs:=[x]) (us:=[v]) rfl rm e0 gf rfl cd (.of_eq (hbind _ _ _ v)) (.cons rx .nil)
   (PE.nox' (CX:=CX0) (P:=X.prog) (w:=X.w) (K:=X.K) (mg:=X.mg) (base:=X.base) (hbody _ _ _ _ _ _ _ (rm.deeper _))) (js i x kvs H' hx' jj)) fun r s4 hq=>?_)
  cases r with
  | error e=>exact hq
  | ok fl =>
   cases fl with
   | next=>exact False.elim hq
   | brk=>exact False.elim hq
   | cont=>exact False.elim hq
   | ret u2 =>
    have un:=hq
    obtain ⟨v9,H9,os9,bare9,un9,hok9,r9,q9⟩:=un
    obtain ⟨hh,g,d,t9,os'⟩:=s4
    obtain rfl:os'=s3.os:=os9
    have J9:=J3.call (h':=hh) (g':=g) (d':=d) (t':=t9) (ch:=[]) un9 hok9 bare9 (fun b z=>absurd z (by simp))
    have nst:∀ b,s2.heap.objs.size≤b∨b=f→b∉frs X.stack:=fun b hb z=>by
     rcases List.mem_cons.mp (J3.stkSub b z) with z | z
     ·rcases hb with hb | hb
      ·exact absurd (Nat.lt_of_lt_of_le lloc hb) (by rw [z]; exact Nat.lt_irrefl _)
      ·exact absurd (hb ▸ hfge) (by rw [z]; exact Nat.not_le_of_lt I1.lt)
     ·rcases hb with hb | hb
      ·exact I2.nofs hb z
      ·exact I1.nofs hfge (hb ▸ z)
    obtain ⟨oa,ea⟩:=xa
    obtain ⟨ok',ek⟩:=xk
    have kb:∀ b o,s2.heap.objs.size≤b∨b=f→H' b=none→s3.heap.get? b=some o→hh.get? b=some o:=fun b o hb n q=>un9.keep b o q n (nst b hb) (by simp)
    exact ⟨⟨H9,kvs++[v9],⟨oa,kb a oa (.inl la) na ea⟩,⟨ok',kb kS ok' (.inl lk) nk ek⟩,J9,un9.free _ _ ea na (by simp),un9.free _ _ ek nk (by simp),un9.free _ _ gf nf (by simp),kb f _ (.inr rfl) nf gf,q9.1 _ _ hc3,q9.2,rv.append (.cons r9 .nil)⟩,
     fun o q=>kb kS o (.inl lk) nk q,fun o q=>kb a o (.inl la) na q⟩
 case done =>
  rintro ks s3 e9 hlen ⟨H',kvs,xa,xk,J3,na,nk,nf,gf,hc3,jj,rv⟩ gk3 ga3
  have lk3:kvs.length=ks.length:=aK.length rv
  have rd:cN s3.heap ks ds:=kE J3.hok (jk kvs H' (by rw [lv]; exact jj)) rv
  refine wu (κ:=tuples' true) (lt:=fun i j=>dlt (ds.getD i .none) (ds.getD j .none)) (R:=fun p=>p=goT (fun i j=>dlt (ds.getD i .none) (ds.getD j .none)) (kas_sort its.length)) gk3 ga3 hne hlen (by omega) (fun h2 Qk qk=>?_) (fun t2 i j C2 hi hj hC=>?_) (fun h2=>qA (gl (by omega))) fun h' t2 c2 c3 p gp rp kp hsz' gk4 ga4=>?_
  ·obtain ⟨fs,kt,lf,kf⟩:=gw rd fun d hd=>(ok.p d hd).2.2
   refine kat_kind (T:=.type "int") kt (by omega) (fun v hv=>?_) (by rfl) qk
   obtain ⟨f,rf⟩:=kf v hv
   cases rf
   exact .now
  ·have hi':i<ds.length:=by omega
   have hj':j<ds.length:=by omega
   have mi:ds.getD i .none∈ds:=by simp [hi']
   have mj:ds.getD j .none∈ds:=by simp [hj']
   have r1:=gc rd i hi'
   have r2:=gc rd j hj'
   have cc:=ok.c _ mi _ mj
   obtain ⟨p1,d1,f1,g1,e1⟩:=ok.p _ mi
   obtain ⟨p2,d2,f2,g2,e2⟩:=ok.p _ mj
   have hC':C2 (dlt (ds.getD i .none) (ds.getD j .none)) { s3 with toks:=t2 }:=hC t2
   rw [e1] at r1 p1 d1 cc hC'
   rw [e2] at r2 p2 d2 cc hC'
   exact ni (s:={ s3 with toks:=t2 }) r1 r2 p1 p2 cc (by omega) hC'
  ·have ep:p.toList=ju ds:=uB (by rw [hds,lv]; exact gp) (fun h2=>by rw [rp (by omega),hds,lv])
   refine fin _ ⟨.ref a,_,J3.two (t':=t2) (ys:=(ju ds).map fun i=>xs.getD i .non) na nk (Nat.le_trans ls la) (Nat.le_trans ls lk) (Nat.ne_of_gt (Nat.lt_of_lt_of_le lloc la)) (Nat.ne_of_gt (Nat.lt_of_lt_of_le lloc lk))
    (fun x c q=>Nat.ne_of_lt (Nat.lt_of_lt_of_le (lcell x c q) la)) (fun x c q=>Nat.ne_of_lt (Nat.lt_of_lt_of_le (lcell x c q) lk)) (fun p hp=>Nat.ne_of_lt (Nat.lt_of_lt_of_le (lpin p hp) la)) (fun p hp=>Nat.ne_of_lt (Nat.lt_of_lt_of_le (lpin p hp) lk)) kp (fun H'=>?_),rfl,jq kvs H' a (by rw [lv]; exact jj) na⟩
   rw [← ep]
   exact ⟨by rw [List.length_map,Array.length_toList,gp.size,sizeLine_eq]; omega,_,c2,nc ri p,ga4⟩
end
end L2
namespace K6
open PySem L2
theorem Bo:∀ n:Nat,n<127→32≤n→n≠37→EVs.cps.toList[if n<37 then n - 32 else n - 33]?=some n:=by decide +kernel
theorem xn:EVs.length=94:=by decide +kernel
theorem mN (i:Int):cR i=true↔32≤i∧i≤126∧i≠37:=by
 unfold cR
 simp only [Bool.and_eq_true,decide_eq_true_eq]
 constructor
 ·rintro ⟨⟨a,b⟩,c⟩
  exact ⟨a,b,c⟩
 ·rintro ⟨a,b,c⟩
  exact ⟨⟨a,b⟩,c⟩
def GSg (mg:Str→Option Value):Prop:=∃ t,mg "SIGNS"=some (.str EVs t)
section
variable {P:Program} {w:World} {K:Frag} {mg:Str→Option Value} {base:Heap} {f g:Addr} {fd gd:FuncData}
abbrev tZ:List Str:=["number"]
theorem qa:aF tZ ["number"] (defScope jz):=⟨rfl,rfl,rfl,by decide +kernel,rfl,by decide +kernel,by decide +kernel⟩
def BM:Sp:=fun vs H Q _=>∃ i,vs=[.int i]∧cR i=true∧Q (.str ⟨#[i.toNat]⟩) H
theorem AU (TS:GSg mg) (F:Fun K "sign_of" "sign_of" jz f fd):bg P w K mg base CX0 1 f fd ["number"] BM:=by
 obtain ⟨st,hS⟩:=TS
 have hSr:br (.str EVs) (.str EVs st):=⟨st,rfl⟩
 refine F.ok qa (fun vs H Q E h=>?_) (fun cdv A outer s H vs Q E hr h=>?_)
 ·obtain ⟨i,rfl,_⟩:=h
  rfl
 obtain ⟨i,rfl,hi,q⟩:=h
 obtain ⟨h1,h2,h3⟩:=(mN i).mp hi
 have at_:=Bo i.toNat (by omega) (by omega) (by omega)
 refine ⟨_,(@ap _ _ _ (@aD _ _ _ _ (@gb _ _ _ _ _ _ _ _ (@aQ _ _ _ _ _ _ _ _ BF (pv 0) ak (bo _)) (@ay _ _ _ _ _ _ _ uG (iY rfl hS hSr) (@aG _ _ _ _ _ _ _ _ gC (pv 0) ak) (fun _ _=>rfl)) (@ay _ _ _ _ _ _ _ uG (iY rfl hS hSr) (@aG _ _ _ _ _ _ _ _ gC (pv 0) ak) (fun _ _=>rfl))))),?_⟩
 refine ⟨_,rfl,_,_,rfl,rfl,_,rfl,?_⟩
 refine bO (fun c=>?_) (fun c=>?_)
 ·have c':i<37:=of_decide_eq_true c
  rw [if_pos (by omega)] at at_
  refine ⟨_,rfl,_,_,rfl,rfl,EVs,_,i.toNat,rfl,rfl,by rw [xn]; decide,?_,q⟩
  have e:i - 32=((i.toNat - 32:Nat):Int):=by omega
  rw [e]
  exact jr at_
 ·have c':¬ i<37:=of_decide_eq_false (Bool.eq_false_iff.mpr c)
  rw [if_neg (by omega)] at at_
  refine ⟨_,rfl,_,_,rfl,rfl,EVs,_,i.toNat,rfl,rfl,by rw [xn]; decide,?_,q⟩
  have e:i - 33=((i.toNat - 33:Nat):Int):=by omega
  rw [e]
  exact jr at_
abbrev oA:List Str:=["room"]
theorem mv:aF oA ["room"] (defScope fM):=⟨rfl,rfl,rfl,by decide +kernel,rfl,by decide +kernel,by decide +kernel⟩
def Ao:Sp:=fun vs H Q _=>∃ rv r,vs=[rv]∧jH H rv r∧cp r∧∀ l H',av H H'→H l=none→H' l=some (.lst ((intsFrom r.a (r.b+1 - r.a).toNat).map V.int))→Q (.ref l) H'
theorem Bv (T:G0 mg) (F:Fun K "numbers_of" "numbers_of" fM f fd):bg P w K mg base CX0 1 f fd ["room"] Ao:=by
 refine F.ok mv (fun vs H Q E h=>?_) (fun cdv A outer s H vs Q E hr h=>?_)
 ·obtain ⟨rv,r,rfl,_⟩:=h
  rfl
 obtain ⟨rv,r,rfl,⟨rp,rfl,hrp⟩,hok,q⟩:=h
 have o1:=hok.a
 have o2:=hok.ab
 have o3:=hok.b
 refine ⟨_,(@ap _ _ _ (@aD _ _ _ _ (@aX _ _ _ _ _ _ _ _ _ (lc rfl) rfl T.list nT (@ad _ _ _ _ _ (@aX _ _ _ _ _ _ _ _ _ nA rfl T.range sW (@ad _ _ _ _ _ (@ay _ _ _ _ _ _ _ aL (pv 0) ak (fun _ _=>rfl)) (@ad _ _ _ _ _ (@aG _ _ _ _ _ _ _ _ bB (@ay _ _ _ _ _ _ _ aL (pv 0) ak (fun _ _=>rfl)) ak) ag (ac rfl)) (ac rfl)) (by decide) (by decide) (ac rfl) (aj rfl)) ag (ac rfl)) (by decide) (by decide) (ac rfl) (aj rfl)))),?_⟩
 refine ⟨_,rfl,rp,_,_,_,rfl,rfl,SqT.of hrp,rfl,_,rfl,rp,_,_,_,rfl,rfl,SqT.of hrp,rfl,_,_,rfl,rfl,?_⟩
 refine ⟨_,_,rfl,fun p0 hp0=>?_⟩
 have g0:=af hp0 (.rng r.a (r.b+1))
 refine ⟨p0,_,_,rfl,ae,by omega,by omega,by omega,fun nl hnl=>?_⟩
 exact q nl _ (g0.trans (af hnl _)) (g0.free hnl) ae
abbrev md:List Str:=["room"]
abbrev ic:List Str:=["number"]
theorem ma:ic.Nodup:=by decide +kernel
theorem pH:aF md ["room"] (defScope ft):=⟨rfl,rfl,rfl,by decide +kernel,rfl,by decide +kernel,by decide +kernel⟩
def zR:Sp:=fun vs H Q _=>∃ rv r,vs=[rv]∧jH H rv r∧cp r∧∀ l H',av H H'→H l=none→H' l=some (.lst ((sgs r.d r.e).map fun c=>V.str ⟨#[c]⟩))→Q (.ref l) H'
theorem tH {r:Rm} (h:cp r):((L2.intsFrom r.d (r.e+1 - r.d).toNat).filter cR).map (fun i:Int=>V.str ⟨#[i.toNat]⟩)=(sgs r.d r.e).map fun c=>V.str ⟨#[c]⟩:=by
 have e:(L2.intsFrom r.d (r.e+1 - r.d).toNat).filter cR=(L2.intsFrom r.d (r.e+1 - r.d).toNat).filter fun c=>!decide (c=37):=by
  apply List.filter_congr
  intro x hx
  have:=eT hx
  have h1:=h.d
  have h2:=h.e
  have h3:=h.de
  have a1:32≤x:=by omega
  have a2:x≤126:=by omega
  unfold cR
  simp [a1,a2]
 rw [e,← pB h.d h.de h.e,List.map_map]
 rfl
theorem BE (T:G0 mg) (F:Fun K "signs_of" "signs_of" ft f fd) (D_is_sign_number:Cal P w K mg base 1 "is_sign_number" ["number"] vq) (D_sign_of:Cal P w K mg base 1 "sign_of" ["number"] BM):bg P w K mg base CX0 3 f fd ["room"] zR:=by
 obtain ⟨g_is_sign_number,gd_is_sign_number,G_is_sign_number,b_is_sign_number,k_is_sign_number,m_is_sign_number⟩:=D_is_sign_number.ex
 obtain ⟨g_sign_of,gd_sign_of,G_sign_of,b_sign_of,k_sign_of,m_sign_of⟩:=D_sign_of.ex
 refine F.ok pH (fun vs H Q E h=>?_) (fun cdv A outer s H vs Q E hr h=>?_)
 ·obtain ⟨rv,r,rfl,_⟩:=h
  rfl
 obtain ⟨rv,r,rfl,⟨rp,rfl,hrp⟩,hok,q⟩:=h
 have o4:=hok.d
 have o5:=hok.de
 have o6:=hok.e
 refine ⟨_,(@ap _ _ _ (@aD _ _ _ _ (be (N':=ic) (ρ:=[none]) (m:=1) (bt.of (fs:=defScope ft) (N:=md) rfl rfl (by decide +kernel)) rfl (nI rfl T.range (ad (ay aL (pv 0) ak (fun _ _=>rfl)) (ad (aG bB (ay aL (pv 0) ak (fun _ _=>rfl)) ak) ag))) (fun _ _ _ _=>(au (i:=0) ma rfl (Or.inl rfl))) (fun _ _ _ _=>(iF (fH (ar G_is_sign_number (hr.mono (by omega)) rfl m_is_sign_number k_is_sign_number b_is_sign_number .nil aE (ad (pv 0) ag))))) (fun _ _ _ _=>(ar G_sign_of (hr.mono (by omega)) rfl m_sign_of k_sign_of b_sign_of .nil aE (ad (pv 0) ag)))))),?_⟩
 refine ⟨_,rfl,rp,_,_,_,rfl,rfl,SqT.of hrp,rfl,_,rfl,rp,_,_,_,rfl,rfl,SqT.of hrp,rfl,_,_,rfl,rfl,?_⟩
 refine ⟨_,_,rfl,by omega,fV (lo:=r.d) (r.e+1 - r.d).toNat (by omega) (fun i acc H'=>H'=H∧acc=((L2.intsFrom r.d i).filter cR).map fun i:Int=>V.str ⟨#[i.toNat]⟩) ⟨rfl,rfl⟩ (fun i acc H' hi la p=>?_) (fun acc H' p la D hD=>?_)⟩
 ·obtain ⟨rfl,rfl⟩:=p
  have step:L2.intsFrom r.d (i+1)=L2.intsFrom r.d i++[r.d+(i:Int)]:=by
   unfold L2.intsFrom
   rw [List.range_succ,List.map_append]
   rfl
  refine ⟨⟨rfl,rfl⟩,?_⟩
  refine ⟨_,rfl,r.d+(i:Int),rfl,?_⟩
  refine ⟨_,rfl,?_⟩
  refine bO (fun c3=>?_) (fun c3=>?_)
  ·refine ⟨_,rfl,_,rfl,c3,nxT (by omega) hi la ⟨rfl,?_⟩⟩
   rw [step,List.filter_append,List.map_append,List.filter_cons,if_pos c3]
   rfl
  ·refine nxF hi la ⟨rfl,?_⟩
   rw [step,List.filter_append,List.map_append,List.filter_cons,if_neg c3]
   simp
 ·obtain ⟨rfl,rfl⟩:=p
  refine q D _ (af hD _) hD ?_
  rw [ae,tH hok]
end
open PySem L2
def rUp (K:Frag):R2:=fun x y H Q=>(wa K x y H Q∨qo K x y H Q)∨∃ i j,x=.str i∧y=.str j∧i.length+j.length≤sizeLine∧Q (.str (i++j)) H
def yX (K:Frag) (ws:List PyData) (g:List PyData→PyData) (cd:PyData→PyData):Prop :=
 ∀ (H:Hp) (x y:V) (l:List PyData) (d:PyData) (C:VK),KAt H x (g l)→KAt H y (cd d)→l.length≤3→(∀ e∈l,e∈ws)→d∈ws→(∀ u H',av H H'→KAt H' u (g (l++[d]))→C u H')→rUp K x y H C
theorem Aj (K:Frag) (ws:List PyData):yX K ws .tuple (fun d=>.tuple [d]):=by
 intro H x y l d C hx hy hl _ _ q
 cases hx with
 | @tup xa xl _ hxa kxl =>
  cases hy with
  | @tup ya yl _ hya kyl =>
   cases kyl with
   | @cons y0 yr _ _ ky kyr =>
    cases kyr
    have lxl:=aO kxl
    by_cases cx:xl=[]
    ·subst cx
     have:l=[]:=List.eq_nil_of_length_eq_zero (by rw [← lxl]; rfl)
     subst this
     exact .inl (.inr ⟨xa,ya,[y0],rfl,rfl,SqT.of hxa,SqT.of hya,q _ _ (av.refl _) (.tup hya (.cons ky .nil))⟩)
    ·refine .inl (.inl ⟨xa,ya,xl,[y0],rfl,rfl,SqT.of hxa,SqT.of hya,cx,Nat.le_of_lt (aC (by simp; omega)),fun z=>absurd z (by simp),fun _ q3 hq3=>?_⟩)
     have g9:=af hq3 (.tup (xl++[y0]))
     exact q _ _ g9 (.tup ae (bC (kxl.mono (ah g9)) (.cons (ky.mono (ah g9)) .nil)))
theorem uk (ts:List Str) (t:Str):Str.join "" (ts++[t])=Str.join "" ts++t:=by
 have e:(Str.join "" (ts++[t])).cps=(Str.join "" ts).cps++t.cps:=by
  apply Array.toList_inj.mp
  rw [Array.toList_append,jb,jb,List.flatMap_append,List.flatMap_singleton]
 show (⟨(Str.join "" (ts++[t])).cps⟩:Str)=_
 rw [e]
 rfl
theorem xI (K:Frag) {d e:Int}:yX K ((sgs d e).map fun c=>.str ⟨#[c]⟩) iO (fun d=>d):=by
 intro H x y l d C hx hy hl hm hd q
 obtain ⟨ts,rfl,e2,e3⟩:=jA hm
 obtain ⟨c,hc,rfl⟩:=List.mem_map.mp hd
 have ej:∀ ts:List Str,iO (ts.map .str)=.str (Str.join "" ts):=fun ts=>by
  unfold iO
  rw [List.map_map,show (unS ∘ PyData.str)=id from rfl,List.map_id]
 rw [ej] at hx
 cases hx
 cases hy
 have jo:=mS e3
 refine .inr ⟨_,_,rfl,rfl,?_,q _ _ (av.refl _) ?_⟩
 ·rw [jo.1]
  have h1:(⟨#[c]⟩:Str).length=1:=rfl
  rw [h1]
  exact Nat.le_of_lt (aC (by rw [List.length_map] at hl; omega))
 ·rw [show ts.map PyData.str++[PyData.str ⟨#[c]⟩]=(ts++[(⟨#[c]⟩:Str)]).map PyData.str by rw [List.map_append]; rfl,ej,uk]
  exact .str _
section
variable {P:Program} {w:World} {K:Frag} {mg:Str→Option Value} {base:Heap} {f g:Addr} {fd gd:FuncData}
abbrev iX:List Str:=["void", "choices", "long", "told", "last", "count", "longer", "ahead"]
abbrev fX:List Str:=["choice", "ahead"]
theorem jw:fX.Nodup:=by decide +kernel
theorem bN:aF iX ["void", "choices", "long"] (defScope dL):=⟨rfl,rfl,rfl,by decide +kernel,rfl,by decide +kernel,by decide +kernel⟩
def AB (K:Frag):Sp:=fun vs H Q _=>∃ v0 cl c cs ws g cd,vs=[v0,.ref cl,.int (c:Nat)]∧c≤3∧KAt H v0 (g [])∧H cl=some (.lst cs)∧bd H cs (List.map cd ws)∧yX K ws g cd∧cC ws.length c≤60∧∀ l ys H',av H H'→H l=none→H' l=some (.lst ys)→bd H' ys ((km ws c).map g)→Q (.ref l) H'
theorem BP (T:G0 mg) (F:Fun K "up_to_long" "up_to_long" dL f fd):bg P w K mg base CX0 1 f fd ["void", "choices", "long"] (AB K):=by
 refine F.ok bN (fun vs H Q E h=>?_) (fun cdv A outer s H vs Q E hr h=>?_)
 ·obtain ⟨v0,cl,c,cs,ws,g,cd,rfl,_⟩:=h
  rfl
 obtain ⟨v0,cl,c,cs,ws,g,cd,rfl,hc3,hv0,hcl,kcs,hup,hrw,q⟩:=h
 refine ⟨_,(@al _ _ _ _ _ (@aB _ _ 3 _ _ _ _ bN.nd rfl (Or.inl rfl) (@aR _ _ _ _ (@ad _ _ _ _ _ (pv 0) ag (ac rfl))) (ao rfl) (.inr rfl)) (@al _ _ _ _ _ (@aB _ _ 4 _ _ _ _ bN.nd rfl (Or.inl rfl) (@aR _ _ _ _ (@ad _ _ _ _ _ (pv 0) ag (ac rfl))) (ao rfl) (.inr rfl)) (@al _ _ _ _ _ (@bn _ _ _ _ _ _ _ _ PassesOwn.never rfl (cD rfl T.range (@ad _ _ _ _ _ (pv 2) ag (ac rfl))) (au (i:=5) bN.nd rfl (Or.inl rfl)) (@al _ _ _ _ _ (@aB _ _ 6 _ _ _ _ bN.nd rfl (Or.inl rfl) (@aR _ _ _ _ ag) (ao rfl) (.inr rfl)) (@al _ _ _ _ _ (@bn _ _ _ _ _ _ _ _ PassesOwn.never rfl (aZ (pv 4)) (au (i:=7) bN.nd rfl (Or.inr rfl)) (@ap _ _ _ (@bY _ _ _ _ (@dB _ _ _ _ _ _ _ _ _ _ _ _ PySem.F.plainAttrs_list PySem.F.slot_list_extend PySem.F.type_list_extend dO (pv 6) (@ad _ _ _ _ _ (be (N':=fX) (ρ:=[none,some 7]) (m:=1) (bt.of (fs:=defScope dL) (N:=iX) rfl rfl (by decide +kernel)) rfl (aZ (pv 1)) (fun _ _ _ _=>(au (i:=0) jw rfl (Or.inl rfl))) (fun _ _ _ _=>bq) (fun _ _ _ _=>(aG ((gJ (K:=K) rfl).or qJ) (pv 1) (pv 0)))) ag (ac rfl)) rfl (cH rfl rfl) rfl (ac rfl) (aj rfl)) (ao rfl))) (fun _=>rfl)) (@al _ _ _ _ _ (@bY _ _ _ _ (@dB _ _ _ _ _ _ _ _ _ _ _ _ PySem.F.plainAttrs_list PySem.F.slot_list_extend PySem.F.type_list_extend dO (pv 3) (@ad _ _ _ _ _ (pv 6) ag (ac rfl)) rfl (cH rfl rfl) rfl (ac rfl) (aj rfl)) (ao rfl)) (@ap _ _ _ (@aB _ _ 4 _ _ _ _ bN.nd rfl (Or.inl rfl) (pv 6) (ao rfl) (.inr rfl)))))) (fun _=>rfl)) (@ap _ _ _ (@aD _ _ _ _ (pv 3)))))),?_⟩
 have lcs:=aO kcs
 rw [List.length_map] at lcs
 have lvl:=kF ws
 have upl:=iU ws
 generalize hN:ws.length=N at lcs lvl upl hrw
 have lN:1≤c→N≤60:=fun h=>by
  have:=dQ N h
  rw [cY N 0] at this
  simp at this
  omega
 refine ⟨_,rfl,(by show 1≤sizeLine; decide),fun tl htl=>?_⟩
 have s1:=af htl (.lst [v0])
 have e1:(upd H tl (.lst [v0])) tl=some (.lst [v0]):=ae
 refine ⟨_,rfl,(by show 1≤sizeLine; decide),fun ll hll=>?_⟩
 have s2:=af hll (.lst [v0])
 have el:(upd (upd H tl (.lst [v0])) ll (.lst [v0])) ll=some (.lst [v0]):=ae
 have et:=s2 _ _ e1
 have S2:=s1.trans s2
 have ntl:tl≠ll:=aq e1 hll
 generalize (upd (upd H tl (.lst [v0])) ll (.lst [v0]))=H1 at S2 el et
 refine ⟨_,rfl,_,rfl,by omega,by omega,cV (n:=c) (fun i σ H'=>∃ ll m5 m6 m7 xs ys,σ=[some v0,some (.ref cl),some (.int (c:Nat)),some (.ref tl),some (.ref ll),m5,m6,m7]∧av H H'∧tl≠ll∧H' tl=some (.lst xs)∧H' ll=some (.lst ys)∧bd H' xs ((km ws i).map g)∧bd H' ys ((lev ws i).map g)) ⟨ll,_,_,_,_,_,rfl,S2,ntl,et,el,.cons (hv0.mono (ah S2)) .nil,.cons (hv0.mono (ah S2)) .nil⟩ (fun i σ H' hi p=>?_) (fun σ H' p=>?_)⟩
 ·obtain ⟨ll,m5,m6,m7,xs,ys,rfl,S,nl,hf,hl,kes,kgs⟩:=p
  have N40:=lN (by omega)
  have lys:=aO kgs
  rw [List.length_map,lvl i] at lys
  have b1:cC N (i+1)≤60:=Nat.le_trans (dQ N (by omega)) hrw
  rw [cY] at b1
  refine ⟨(by show 0≤sizeLine; decide),fun t ht=>?_⟩
  have st:=af ht (.lst [])
  have S5:=S.trans st
  have htt:(upd H' t (.lst [])) t=some (.lst []):=ae
  have hf5:=st _ _ hf
  have hl5:=st _ _ hl
  have nft:tl≠t:=aq hf ht
  have nlt:ll≠t:=aq hl ht
  have kgs5:=kgs.mono (ah st)
  have kes5:=kes.mono (ah st)
  have frt:H t=none:=S.free ht
  have hcl5:=S5 _ _ hcl
  have nct:cl≠t:=aq hcl frt
  have kcs5:=kcs.mono (ah S5)
  generalize (upd H' t (.lst []))=H5 at S5 htt hf5 hl5 kgs5 kes5 hcl5 kcs5
  refine ⟨_,rfl,ll,rfl,⟨ys,SqL.of hl5⟩,bK (xs:=ys) (fun j σ H6=>∃ m7 zs,σ=[some v0,some (.ref cl),some (.int (c:Nat)),some (.ref tl),some (.ref ll),some (.int (0+(i:Int))),some (.ref t),m7]∧Ext t H5 H6∧H6 t=some (.lst zs)∧bd H6 zs ((((lev ws i).take j).flatMap fun l=>ws.map fun d=>l++[d]).map g)) ⟨_,[],rfl,Ext.refl _ _,htt,.nil⟩ (fun j σ H6 _ p=>?_) (fun j x σ H6 hx p=>?_) (fun σ H6 p=>?_)⟩
  ·obtain ⟨_,_,_,x6,_⟩:=p
   exact SqL.of (x6 _ _ nlt hl5)
  ·obtain ⟨m7',zs,rfl,x6,hz,khs⟩:=p
   obtain ⟨e,he,ke⟩:=cg kgs5 j x hx
   rw [List.getElem?_map] at he
   obtain ⟨l,hlj,rfl⟩:=Option.map_eq_some_iff.mp he
   obtain ⟨ll1,llm⟩:=kH i (List.mem_of_getElem? hlj)
   have k6:=aY x6 htt
   have ke6:=ke.mono k6
   have hj:j<N ^ i:=by
    rw [← lys]
    exact (List.getElem?_eq_some_iff.mp hx).1
   have lz0:zs.length=j*N:=by
    rw [aO khs,List.length_map,iy (n:=N) fun x _=>by simp [hN],List.length_take,lvl i,Nat.min_eq_left (by omega)]
   have szz:j*N+N≤N ^ (i+1):=by
    rw [Nat.pow_succ,← Nat.succ_mul]
    exact Nat.mul_le_mul_right _ hj
   have hcl6:=x6 _ _ nct hcl5
   have kcs6:=kcs5.mono k6
   refine ⟨_,rfl,.inl ⟨rfl,_,SqL.of hz⟩,_,rfl,cl,rfl,⟨cs,SqL.of hcl6⟩,bF (xs:=cs) cs.length rfl (by omega) (fun jj acc H7=>av H6 H7∧bd H7 acc (((ws.take jj).map fun d=>l++[d]).map g)) ⟨av.refl _,.nil⟩ (fun jj acc H7 p=>SqL.of (p.1 _ _ hcl6)) (fun jj acc H7 y hjj la hy p=>?_) (fun acc H7 p la D hD=>?_)⟩
   ·obtain ⟨g7,kks⟩:=p
    obtain ⟨d,hd,kd⟩:=cg kcs6 jj y hy
    rw [List.getElem?_map] at hd
    obtain ⟨d,hd',rfl⟩:=Option.map_eq_some_iff.mp hd
    clear hd
    have hd:=hd'
    clear hd'
    refine ⟨⟨rfl,rfl⟩,bp ?_⟩
    refine ⟨_,rfl,_,rfl,hup H7 x y l d _ (ke6.mono (ah g7)) (kd.mono (ah g7)) (by omega) llm (List.mem_of_getElem? hd) fun u H8 g8 ku=>nxT (by omega) hjj la ⟨g7.trans g8,?_⟩⟩
    rw [List.take_add_one,hd,Option.toList_some,List.map_append,List.map_append]
    exact bC (kks.mono (ah g8)) (.cons ku .nil)
   ·obtain ⟨g7,kks⟩:=p
    rw [lcs,← hN,List.take_length] at kks
    have lac:=aO kks
    rw [List.length_map,List.length_map,hN] at lac
    have gD:=af hD (.lst acc)
    have htD:=gD _ _ (g7 _ _ hz)
    have kt:=cj htD (.lst (zs++acc))
    refine ⟨t,D,zs,acc,rfl,rfl,htD,ae,Nat.le_of_lt (aC (by omega)),?_⟩
    refine ⟨_,zs++acc,rfl,(x6.trans (av.ext (g7.trans gD))).trans Ext.upd,ae,?_⟩
    rw [List.take_add_one,hlj,Option.toList_some,List.flatMap_append,List.flatMap_singleton,List.map_append]
    exact bC ((khs.mono (ah (g7.trans gD))).mono kt) ((kks.mono (ah gD)).mono kt)
  ·obtain ⟨m7',zs,rfl,x6,hz,khs⟩:=p
   have k6:=aY x6 htt
   have elv:(lev ws i).take ys.length=lev ws i:=List.take_of_length_le (by rw [lvl i,lys]; exact Nat.le_refl _)
   rw [elv] at khs
   have lz:=aO khs
   have lx:=aO kes
   rw [List.length_map,upl i] at lx
   have lhs:zs.length=N ^ (i+1):=by rw [lz,List.length_map]; exact lvl (i+1)
   have hf6:=x6 _ _ nft hf5
   have kt:=cj hf6 (.lst (xs++zs))
   have htl0:H tl=none:=htl
   have S6:av H H6:=fun b o e=>x6 _ _ (aq e frt) (S5 _ _ e)
   refine ⟨_,rfl,.inl ⟨rfl,_,SqL.of hf6⟩,_,rfl,tl,t,xs,zs,rfl,rfl,hf6,hz,Nat.le_of_lt (aC (by omega)),?_⟩
   refine ⟨_,rfl,t,_,_,_,xs++zs,zs,rfl,vj htl0 S6,nft,ae,?_,?_,khs.mono kt⟩
   ·rw [aI nft.symm]
    exact hz
   ·rw [km,List.map_append]
    exact bC ((kes5.mono k6).mono kt) (khs.mono kt)
 ·obtain ⟨ll,m5,m6,m7,xs,ys,rfl,S,nl,hf,hl,kes,kgs⟩:=p
  exact ⟨_,rfl,q tl xs H' S htl hf kes⟩
end
open PySem L2
theorem sr {H:Hp}:∀ l:List Nat,bd H (l.map fun c=>V.str ⟨#[c]⟩) (l.map fun c=>.str ⟨#[c]⟩)
 | []=>.nil
 | c::l=>.cons (.str _) (sr l)
section
variable {P:Program} {w:World} {K:Frag} {mg:Str→Option Value} {base:Heap} {f g:Addr} {fd gd:FuncData}
abbrev iG:List Str:=["room", "sort"]
abbrev fW:List Str:=["number"]
theorem jK:fW.Nodup:=by decide +kernel
theorem mz:aF iG ["room", "sort"] (defScope dH):=⟨rfl,rfl,rfl,by decide +kernel,rfl,by decide +kernel,by decide +kernel⟩
def BJ:Sp:=fun vs H Q _=>∃ rv r sort,vs=[rv,.str sort]∧jH H rv r∧cp r∧sort∈PL∧cnt r sort≤60∧∀ l ys H',av H H'→H l=none→H' l=some (.lst ys)→bd H' ys (dm r sort)→Q (.ref l) H'
theorem BX (T:G0 mg) (F:Fun K "choices_of" "choices_of" dH f fd) (D_up_to_long:Cal P w K mg base 1 "up_to_long" ["void", "choices", "long"] (AB K)) (D_signs_of:Cal P w K mg base 3 "signs_of" ["room"] zR) (D_numbers_of:Cal P w K mg base 1 "numbers_of" ["room"] Ao):bg P w K mg base CX0 5 f fd ["room", "sort"] BJ:=by
 obtain ⟨g_up_to_long,gd_up_to_long,G_up_to_long,b_up_to_long,k_up_to_long,m_up_to_long⟩:=D_up_to_long.ex
 obtain ⟨g_signs_of,gd_signs_of,G_signs_of,b_signs_of,k_signs_of,m_signs_of⟩:=D_signs_of.ex
 obtain ⟨g_numbers_of,gd_numbers_of,G_numbers_of,b_numbers_of,k_numbers_of,m_numbers_of⟩:=D_numbers_of.ex
 refine F.ok mz (fun vs H Q E h=>?_) (fun cdv A outer s H vs Q E hr h=>?_)
 ·obtain ⟨rv,r,sort,rfl,_⟩:=h
  rfl
 obtain ⟨rv,r,sort,rfl,⟨rp,rfl,hrp⟩,hok,hso,hcn,q⟩:=h
 have o1:=hok.a
 have o2:=hok.ab
 have o3:=hok.b
 have oc:=hok.c0
 have oc3:=hok.c
 have ec:r.c=((r.c.toNat:Nat):Int):=by omega
 refine ⟨_,(@al _ _ _ _ _ (@bU _ _ _ _ _ _ _ _ (@aQ _ _ _ _ _ _ _ _ dC (pv 1) aN (bo _)) (@ap _ _ _ (@aD _ _ _ _ (@ar _ _ _ _ _ _ _ _ _ _ _ _ _ _ _ _ G_numbers_of (hr.mono (by omega)) rfl m_numbers_of k_numbers_of b_numbers_of .nil aE (@ad _ _ _ _ _ (pv 0) ag (ac rfl)) (by decide) (ac rfl) (aj rfl)))) bh) (@al _ _ _ _ _ (@bU _ _ _ _ _ _ _ _ (@aQ _ _ _ _ _ _ _ _ dC (pv 1) aN (bo _)) (@ap _ _ _ (@aD _ _ _ _ (@ar _ _ _ _ _ _ _ _ _ _ _ _ _ _ _ _ G_up_to_long (hr.mono (by omega)) rfl m_up_to_long k_up_to_long b_up_to_long .nil aE (@ad _ _ _ _ _ (@aW _ _ _ _ _ ag) (@ad _ _ _ _ _ (be (N':=fW) (ρ:=[none]) (m:=1) (bt.of (fs:=defScope dH) (N:=iG) rfl rfl (by decide +kernel)) rfl (aZ (ar G_numbers_of (hr.mono (by omega)) rfl m_numbers_of k_numbers_of b_numbers_of .nil aE (ad (pv 0) ag))) (fun _ _ _ _=>(au (i:=0) jK rfl (Or.inl rfl))) (fun _ _ _ _=>bq) (fun _ _ _ _=>(aW (ad (pv 0) ag)))) (@ad _ _ _ _ _ (@ay _ _ _ _ _ _ _ aL (pv 0) ak (fun _ _=>rfl)) ag (ac rfl)) (ac rfl)) (ac rfl)) (by decide) (ac rfl) (aj rfl)))) bh) (@ap _ _ _ (@aD _ _ _ _ (@ar _ _ _ _ _ _ _ _ _ _ _ _ _ _ _ _ G_up_to_long (hr.mono (by omega)) rfl m_up_to_long k_up_to_long b_up_to_long .nil aE (@ad _ _ _ _ _ aN (@ad _ _ _ _ _ (@ar _ _ _ _ _ _ _ _ _ _ _ _ _ _ _ _ G_signs_of (hr.mono (by omega)) rfl m_signs_of k_signs_of b_signs_of .nil aE (@ad _ _ _ _ _ (pv 0) ag (ac rfl)) (by decide) (ac rfl) (aj rfl)) (@ad _ _ _ _ _ (@ay _ _ _ _ _ _ _ aL (pv 0) ak (fun _ _=>rfl)) ag (ac rfl)) (ac rfl)) (ac rfl)) (by decide) (ac rfl) (aj rfl)))))),?_⟩
 refine ⟨_,rfl,rfl,_,rfl,?_⟩
 refine bO (fun c1=>?_) (fun c1=>?_)
 ·have ek:=eqS c1
  refine ⟨_,rfl,_,r,rfl,⟨rp,rfl,hrp⟩,hok,fun l H1 g1 hl0 hl=>q l _ H1 g1 hl0 hl ?_⟩
  unfold dm
  rw [if_pos ek]
  exact qC
 have n1:=neS c1
 have ecn:cnt r sort=cC (bu r sort).length r.c.toNat:=by unfold cnt; rw [if_neg n1]
 rw [ecn] at hcn
 refine ⟨_,rfl,rfl,_,rfl,?_⟩
 refine bO (fun c2=>?_) (fun c2=>?_)
 ·have ek:=eqS c2
  have eo:bu r sort=(L2.intsFrom r.a (r.b+1 - r.a).toNat).map .int:=eX (by rw [ek]; decide +kernel)
  refine ⟨(by show 0≤sizeLine; decide),fun p1 h1=>?_⟩
  have s1:=af h1 (.tup [])
  have e1:(upd H p1 (.tup [])) p1=some (.tup []):=ae
  generalize (upd H p1 (.tup []))=H1 at s1 e1
  refine ⟨_,rfl,_,r,rfl,⟨rp,rfl,s1 _ _ hrp⟩,hok,fun l H2 g2 hl0 hl=>?_⟩
  have G2:=s1.trans g2
  refine ⟨l,rfl,⟨_,SqL.of hl⟩,bF (xs:=(L2.intsFrom r.a (r.b+1 - r.a).toNat).map V.int) (L2.intsFrom r.a (r.b+1 - r.a).toNat).length (by simp) (by simp [L2.intsFrom]; omega) (fun i acc H'=>av H2 H'∧bd H' acc (((bu r sort).take i).map fun d=>.tuple [d])) ⟨av.refl _,.nil⟩ (fun i acc H' p=>SqL.of (p.1 _ _ hl)) (fun i acc H3 x hi la hx p=>?_) (fun acc H3 p la D hD=>?_)⟩
  ·obtain ⟨g3,kks⟩:=p
   rw [List.getElem?_map] at hx
   obtain ⟨j,hj,rfl⟩:=Option.map_eq_some_iff.mp hx
   have hd:(bu r sort)[i]?=some (.int j):=by rw [eo,List.getElem?_map,hj]; rfl
   refine ⟨⟨rfl,rfl⟩,bp ?_⟩
   refine ⟨_,rfl,(by show 1≤sizeLine; decide),fun p2 h2=>?_⟩
   have g4:=af h2 (.tup [.int j])
   refine nxT (by simp [L2.intsFrom]; omega) hi la ⟨g3.trans g4,?_⟩
   rw [List.take_add_one,hd,Option.toList_some,List.map_append]
   exact bC (kks.mono (ah g4)) (.cons (.tup ae (.cons (.int _) .nil)) .nil)
  ·obtain ⟨g3,kks⟩:=p
   have lo:(L2.intsFrom r.a (r.b+1 - r.a).toNat).length=(bu r sort).length:=by rw [eo,List.length_map]
   rw [lo,List.take_length] at kks
   have gD:=af hD (.lst acc)
   have G3:=G2.trans (g3.trans gD)
   refine ⟨_,rfl,rp,_,_,_,rfl,rfl,SqT.of (G3 _ _ hrp),rfl,?_⟩
   refine ⟨.ref p1,D,r.c.toNat,acc,bu r sort,.tuple,fun d=>.tuple [d],by rw [← ec]; rfl,by omega,.tup ((g2.trans (g3.trans gD)) _ _ e1) .nil,ae,kks.mono (ah gD),Aj K _,hcn,fun l2 ys H4 g4 hl2 hl2' ky=>?_⟩
   refine q l2 ys H4 (G3.trans g4) (G3.free hl2) hl2' ?_
   unfold dm
   rw [if_neg n1,if_pos ek]
   exact ky
 ·have n2:=neS c2
  have et:sort=Str.ofString "text":=by
   rcases List.mem_cons.mp hso with e | z
   ·exact absurd e n1
   rcases List.mem_cons.mp z with e | z
   ·exact e
   ·exact absurd (List.mem_singleton.mp z) n2
  have eo:=jv (r:=r) et
  refine ⟨_,rfl,_,r,rfl,⟨rp,rfl,hrp⟩,hok,fun l H2 g2 hl0 hl=>?_⟩
  refine ⟨_,rfl,rp,_,_,_,rfl,rfl,SqT.of (g2 _ _ hrp),rfl,?_⟩
  refine ⟨.str (Str.ofString ""),l,r.c.toNat,_,bu r sort,iO,fun d=>d,by rw [← ec]; rfl,by omega,.str _,hl,?_,?_,hcn,fun l2 ys H4 g4 hl2 hl2' ky=>?_⟩
  ·rw [eo,List.map_id']
   exact sr _
  ·rw [eo]
   exact xI K
  ·refine q l2 ys H4 (g2.trans g4) (g2.free hl2) hl2' ?_
   unfold dm
   rw [if_neg n1,if_neg n2]
   exact ky
end
open PySem L2
theorem jy (R:List Rec):∀ l:List Fld,(ppM R 4 l).map (·.2)=(ax R l).map (·.2)
 | []=>rfl
 | p::l=>by
  show (((am R 4 p.2).map fun q=>(p.1::q.1,q.2))++ppM R 4 l).map (·.2)=(am R 4 p.2++ax R l).map (·.2)
  rw [List.map_append,List.map_append,jy R l,List.map_map]
  rfl
theorem sH (r:Rm) {a b:List bH} (h:a.map (·.2)=b.map (·.2)):aS r a=aS r b:=by
 unfold aS
 have e:∀ l:List bH,(l.map fun q=>cnt r q.2)=(l.map (·.2)).map (cnt r):=fun l=>by rw [List.map_map]; rfl
 rw [e,e,h]
theorem wI (r:Rm) {a b:List bH} (h:a.map (·.2)=b.map (·.2)):bc r a=bc r b:=by
 have e:∀ (l:List bH) (acc:List (List PyData)),l.foldl (fun acc q=>acc.flatMap fun row=>(dm r q.2).map fun d=>row++[d]) acc=(l.map (·.2)).foldl (fun acc s=>acc.flatMap fun row=>(dm r s).map fun d=>row++[d]) acc:=by
  intro l
  induction l with
  | nil=>intro acc; rfl
  | cons q l ih=>intro acc; exact ih _
 unfold bc
 rw [e,e,h]
section
variable {P:Program} {w:World} {K:Frag} {mg:Str→Option Value} {base:Heap} {f g:Addr} {fd gd:FuncData}
abbrev my:List Str:=["room", "sort", "choices", "told", "count"]
theorem cu:aF my ["room", "sort"] (defScope eN):=⟨rfl,rfl,rfl,by decide +kernel,rfl,by decide +kernel,by decide +kernel⟩
def BU:Sp:=fun vs H Q _=>∃ rv r sort,vs=[rv,.str sort]∧jH H rv r∧cp r∧∀ H',av H H'→Q (.int (cnt r sort:Nat)) H'
theorem BL (T:G0 mg) (F:Fun K "how_many_of" "how_many_of" eN f fd) (D_signs_of:Cal P w K mg base 3 "signs_of" ["room"] zR) (D_numbers_of:Cal P w K mg base 1 "numbers_of" ["room"] Ao):bg P w K mg base CX0 5 f fd ["room", "sort"] BU:=by
 obtain ⟨g_signs_of,gd_signs_of,G_signs_of,b_signs_of,k_signs_of,m_signs_of⟩:=D_signs_of.ex
 obtain ⟨g_numbers_of,gd_numbers_of,G_numbers_of,b_numbers_of,k_numbers_of,m_numbers_of⟩:=D_numbers_of.ex
 refine F.ok cu (fun vs H Q E h=>?_) (fun cdv A outer s H vs Q E hr h=>?_)
 ·obtain ⟨rv,r,sort,rfl,_⟩:=h
  rfl
 obtain ⟨rv,r,sort,rfl,⟨rp,rfl,hrp⟩,hok,q⟩:=h
 have o1:=hok.a
 have o2:=hok.ab
 have o3:=hok.b
 have oc:=hok.c0
 have oc3:=hok.c
 have oN:=oB hok sort
 refine ⟨_,(@al _ _ _ _ _ (@aB _ _ 2 _ _ _ _ cu.nd rfl (Or.inl rfl) (@gb _ _ _ _ _ _ _ _ (@aQ _ _ _ _ _ _ _ _ dC (pv 1) aN (bo _)) (@aA _ _ _ _ _ _ _ _ _ aU rfl T.len eC (@ad _ _ _ _ _ (@ar _ _ _ _ _ _ _ _ _ _ _ _ _ _ _ _ G_signs_of (hr.mono (by omega)) rfl m_signs_of k_signs_of b_signs_of .nil aE (@ad _ _ _ _ _ (pv 0) ag (ac rfl)) (by decide) (ac rfl) (aj rfl)) ag (ac rfl)) (by decide) (by decide) (ac rfl) (aj rfl)) (@aA _ _ _ _ _ _ _ _ _ aU rfl T.len eC (@ad _ _ _ _ _ (@ar _ _ _ _ _ _ _ _ _ _ _ _ _ _ _ _ G_numbers_of (hr.mono (by omega)) rfl m_numbers_of k_numbers_of b_numbers_of .nil aE (@ad _ _ _ _ _ (pv 0) ag (ac rfl)) (by decide) (ac rfl) (aj rfl)) ag (ac rfl)) (by decide) (by decide) (ac rfl) (aj rfl))) (ao rfl) (.inr rfl)) (@al _ _ _ _ _ (@bU _ _ _ _ _ _ _ _ (@aQ _ _ _ _ _ _ _ _ dC (pv 1) aN (bo _)) (@ap _ _ _ (@aD _ _ _ _ (pv 2))) bh) (@al _ _ _ _ _ (@aB _ _ 3 _ _ _ _ cu.nd rfl (Or.inl rfl) ak (ao rfl) (.inr rfl)) (@al _ _ _ _ _ (@bn _ _ _ _ _ _ _ _ PassesOwn.never rfl (cD rfl T.range (@ad _ _ _ _ _ (@ay _ _ _ _ _ _ _ aL (pv 0) ak (fun _ _=>rfl)) ag (ac rfl))) (au (i:=4) cu.nd rfl (Or.inl rfl)) (@ap _ _ _ (@aB _ _ 3 _ _ _ _ cu.nd rfl (Or.inl rfl) (@aG _ _ _ _ _ _ _ _ bB ak (@aG _ _ _ _ _ _ _ _ fN (pv 2) (pv 3))) (ao rfl) (.inr rfl))) (fun _=>rfl)) (@ap _ _ _ (@aD _ _ _ _ (pv 3))))))),?_⟩
 dsimp only [wV]
 refine eW (fun σ H2=>σ=[some (.ref rp),some (.str sort),some (.int ((bu r sort).length:Nat)),none,none]∧av H H2) (fun NX hNX=>?_) (fun σ H2 jj=>?_)
 ·refine ⟨_,rfl,rfl,_,rfl,?_⟩
  refine bO (fun c1=>?_) (fun c1=>?_)
  ·have ek:=eqS c1
   refine ⟨_,rfl,_,r,rfl,⟨rp,rfl,hrp⟩,hok,fun l H1 g1 hl0 hl=>?_⟩
   refine ⟨l,_,rfl,.inl (SqL.of hl),hNX _ _ ⟨?_,g1⟩⟩
   rw [jv ek,List.length_map,List.length_map]
   rfl
  ·have nk:=neS c1
   refine ⟨_,rfl,_,r,rfl,⟨rp,rfl,hrp⟩,hok,fun l H1 g1 hl0 hl=>?_⟩
   refine ⟨l,_,rfl,.inl (SqL.of hl),hNX _ _ ⟨?_,g1⟩⟩
   rw [eX nk,List.length_map,List.length_map]
   rfl
 obtain ⟨rfl,g2⟩:=jj
 refine ⟨_,rfl,rfl,_,rfl,?_⟩
 refine bO (fun c1=>?_) (fun c1=>?_)
 ·have ek:=eqS c1
  refine ⟨_,rfl,?_⟩
  have e:(bu r sort).length=cnt r sort:=by
   unfold cnt
   rw [if_pos ek,eX (by rw [ek]; decide +kernel)]
   simp [L2.intsFrom]
  rw [e]
  exact q H2 g2
 have n1:=neS c1
 have ecn:cnt r sort=cC (bu r sort).length r.c.toNat:=by unfold cnt; rw [if_neg n1]
 rw [ecn] at q
 generalize (bu r sort).length=N at q oN
 have el:∀ t,(1:Int)+(N:Int)*((cC N t:Nat):Int)=((cC N (t+1):Nat):Int):=fun t=>by
  show _=(((cC N t*N+1:Nat)):Int)
  rw [Int.natCast_add,Int.natCast_mul,Int.mul_comm,Int.add_comm]
  rfl
 refine ⟨_,rfl,rp,_,_,_,rfl,rfl,SqT.of (g2 _ _ hrp),rfl,r.c,rfl,by omega,by omega,cV (n:=r.c.toNat) (fun t σ H6=>∃ m4,σ=[some (.ref rp),some (.str sort),some (.int (N:Nat)),some (.int (cC N t:Nat)),m4]∧H6=H2) ⟨_,rfl,rfl⟩ (fun t σ H6 ht pp=>?_) (fun σ H6 pp=>?_)⟩
 ·obtain ⟨m4,rfl,rfl⟩:=pp
  refine ⟨_,rfl,_,rfl,_,_,rfl,rfl,.inl (by omega),_,_,rfl,rfl,some (.int (0+(t:Int))),?_,rfl⟩
  rw [← el t]
  rfl
 ·obtain ⟨m4,rfl,rfl⟩:=pp
  exact ⟨_,rfl,q _ g2⟩
abbrev rE:List Str:=["program", "f", "room", "told", "path", "sort"]
theorem dh:aF rE ["program", "f", "room"] (defScope iC):=⟨rfl,rfl,rfl,by decide +kernel,rfl,by decide +kernel,by decide +kernel⟩
def Ac:Sp:=fun vs H Q _=>∃ v z R FS F rv r,vs=[v,.str z,rv]∧hW H v R FS∧gI FS z=some F∧F.2.length≤3∧(∀ p∈F.2,bW R 4 p.2)∧jH H rv r∧cp r∧∀ H',av H H'→Q (.int (aS r (ax R F.2):Nat)) H'
theorem Br (T:G0 mg) (F:Fun K "how_many" "how_many" iC f fd) (D_param_parts:Cal P w K mg base 6 "param_parts" ["program", "f"] (zn 4)) (D_how_many_of:Cal P w K mg base 5 "how_many_of" ["room", "sort"] BU):bg P w K mg base CX0 8 f fd ["program", "f", "room"] Ac:=by
 obtain ⟨g_param_parts,gd_param_parts,G_param_parts,b_param_parts,k_param_parts,m_param_parts⟩:=D_param_parts.ex
 obtain ⟨g_how_many_of,gd_how_many_of,G_how_many_of,b_how_many_of,k_how_many_of,m_how_many_of⟩:=D_how_many_of.ex
 refine F.ok dh (fun vs H Q E h=>?_) (fun cdv A outer s H vs Q E hr h=>?_)
 ·obtain ⟨v,z,R,FS,F,rv,r,rfl,_⟩:=h
  rfl
 obtain ⟨v,z,R,FS,FF,rv,r,rfl,hp,hF,hl,hD,hrm,hok,q⟩:=h
 refine ⟨_,(@al _ _ _ _ _ (@aB _ _ 3 _ _ _ _ dh.nd rfl (Or.inl rfl) ak (ao rfl) (.inr rfl)) (@al _ _ _ _ _ (@bn _ _ _ _ _ _ _ _ PassesOwn.never rfl (aZ (@ar _ _ _ _ _ _ _ _ _ _ _ _ _ _ _ _ G_param_parts (hr.mono (by omega)) rfl m_param_parts k_param_parts b_param_parts .nil aE (@ad _ _ _ _ _ (pv 0) (@ad _ _ _ _ _ (pv 1) ag (ac rfl)) (ac rfl)) (by decide) (ac rfl) (aj rfl))) (cQ rfl (aJ (au (i:=4) dh.nd rfl (Or.inl rfl)) (aJ (au (i:=5) dh.nd rfl (Or.inl rfl)) bP))) (@ap _ _ _ (@aB _ _ 3 _ _ _ _ dh.nd rfl (Or.inl rfl) (@aG _ _ _ _ _ _ _ _ fN (pv 3) (@ar _ _ _ _ _ _ _ _ _ _ _ _ _ _ _ _ G_how_many_of (hr.mono (by omega)) rfl m_how_many_of k_how_many_of b_how_many_of .nil aE (@ad _ _ _ _ _ (pv 2) (@ad _ _ _ _ _ (pv 5) ag (ac rfl)) (ac rfl)) (by decide) (ac rfl) (aj rfl))) (ao rfl) (.inr rfl))) (fun _=>rfl)) (@ap _ _ _ (@aD _ _ _ _ (pv 3))))),?_⟩
 refine ⟨_,rfl,_,rfl,v,z,R,FS,FF,rfl,hp,hF,hl,by decide,hD,fun l ys H1 g1 hl0 hl1 pp=>?_⟩
 have lys:=Paired.length pp
 refine ⟨l,rfl,⟨ys,SqL.of hl1⟩,bK (xs:=ys) (fun j σ H2=>∃ m4 m5,σ=[some v,some (.str z),some rv,some (.int (aS r ((ppM R 4 FF.2).take j):Nat)),m4,m5]∧av H1 H2) ⟨_,_,rfl,av.refl _⟩ (fun j σ H2 _ p=>?_) (fun j x σ H2 hx p=>?_) (fun σ H2 p=>?_)⟩
 ·obtain ⟨_,_,_,g2⟩:=p
  exact SqL.of (g2 _ _ hl1)
 ·obtain ⟨m4,m5,rfl,g2⟩:=p
  obtain ⟨qq,hqq,hpa⟩:=aH pp j x hx
  obtain ⟨a2,y2,rfl,ha2,a3,rfl,ha3⟩:=hpa.mono (ah g2)
  have G2:=g1.trans g2
  have cl:=vZ hok qq.2
  refine ⟨a2,_,rfl,SqT.of ha2,rfl,_,_,rfl,_,_,rfl,rfl,?_⟩
  refine ⟨_,rfl,_,rfl,_,rfl,rv,r,qq.2,rfl,hrm.mono (ah G2),hok,fun H3 g3=>?_⟩
  refine ⟨_,_,rfl,rfl,.inr (by omega),?_⟩
  have e:aS r ((ppM R 4 FF.2).take (j+1))=aS r ((ppM R 4 FF.2).take j)*cnt r qq.2:=by
   rw [List.take_add_one,hqq,Option.toList_some,gU]
  rw [e]
  exact ⟨_,_,rfl,g2.trans g3⟩
 ·obtain ⟨m4,m5,rfl,g2⟩:=p
  refine ⟨_,rfl,?_⟩
  rw [lys,List.take_length,sH r (jy R FF.2)]
  exact q H2 (g1.trans g2)
abbrev jW:List Str:=["part"]
abbrev gH:List Str:=["number"]
theorem kj:gH.Nodup:=by decide +kernel
theorem nY:aF jW ["part"] (defScope dw):=⟨rfl,rfl,rfl,by decide +kernel,rfl,by decide +kernel,by decide +kernel⟩
def yR:Sp:=fun vs H Q _=>∃ v,vs=[v]∧((∃ i,v=.int i∧∀ H',av H H'→Q (.int (fY i)) H')∨(∃ a,∃ is:List Int,v=.ref a∧H a=some (.tup (is.map V.int))∧is.length≤3∧∀ H',av H H'→Q (.int ((is.length:Nat)+(is.map fY).sum)) H')∨∃ z:Str,v=.str z∧z.length≤3∧∀ H',av H H'→Q (.int (z.length:Nat)) H')
theorem zG (T:G0 mg) (TX:GX mg) (F:Fun K "part_size" "part_size" dw f fd):bg P w K mg base CX0 1 f fd ["part"] yR:=by
 refine F.ok nY (fun vs H Q E h=>?_) (fun cdv A outer s H vs Q E hr h=>?_)
 ·obtain ⟨v,rfl,_⟩:=h
  rfl
 obtain ⟨v,rfl,hv⟩:=h
 refine ⟨_,(@al _ _ _ _ _ (@bU _ _ _ _ _ _ _ _ (fH (@aA _ _ _ _ _ _ _ _ _ eY rfl T.isi lL (@ad _ _ _ _ _ (pv 0) (@ad _ _ _ _ _ (fQ (v:=.ty "int") rfl T.int mo rfl) ag (ac rfl)) (ac rfl)) (by decide) (by decide) (ac rfl) (aj rfl))) (@ap _ _ _ (@aD _ _ _ _ (@aA _ _ _ _ _ _ _ _ _ eZ rfl TX.abs mJ (@ad _ _ _ _ _ (pv 0) ag (ac rfl)) (by decide) (by decide) (ac rfl) (aj rfl)))) bh) (@al _ _ _ _ _ (@bU _ _ _ _ _ _ _ _ (fH (@aA _ _ _ _ _ _ _ _ _ eY rfl T.isi lL (@ad _ _ _ _ _ (pv 0) (@ad _ _ _ _ _ (fQ (v:=.ty "str") rfl T.str Bx rfl) ag (ac rfl)) (ac rfl)) (by decide) (by decide) (ac rfl) (aj rfl))) (@ap _ _ _ (@aD _ _ _ _ (@aA _ _ _ _ _ _ _ _ _ (bJ.or aU dN) rfl T.len eC (@ad _ _ _ _ _ (pv 0) ag (ac rfl)) (by decide) (by decide) (ac rfl) (aj rfl)))) bh) (@ap _ _ _ (@aD _ _ _ _ (@aG _ _ _ _ _ _ _ _ bB (@aA _ _ _ _ _ _ _ _ _ (bJ.or aU dN) rfl T.len eC (@ad _ _ _ _ _ (pv 0) ag (ac rfl)) (by decide) (by decide) (ac rfl) (aj rfl)) (@aA _ _ _ _ _ _ _ _ _ (dU rfl) rfl TX.sum kZ (@ad _ _ _ _ _ (be (N':=gH) (ρ:=[none]) (m:=1) (bt.of (fs:=defScope dw) (N:=jW) rfl rfl (by decide +kernel)) rfl (cG (pv 0)) (fun _ _ _ _=>(au (i:=0) kj rfl (Or.inl rfl))) (fun _ _ _ _=>bq) (fun _ _ _ _=>(aA eZ rfl TX.abs mJ (ad (pv 0) ag)))) ag (ac rfl)) (by decide) (by decide) (ac rfl) (aj rfl))))))),?_⟩
 rcases hv with ⟨i,rfl,q⟩ | ⟨a,is,rfl,ha,li,q⟩ | ⟨z,rfl,hz,q⟩
 ·refine ⟨_,rfl,_,_,_,true,rfl,.int i,rfl,_,rfl,ww ?_⟩
  exact ⟨_,rfl,i,rfl,q _ (av.refl _)⟩
 ·refine ⟨_,rfl,_,_,_,false,rfl,.tup ha,rfl,_,rfl,om ?_⟩
  refine ⟨_,rfl,_,_,_,false,rfl,.tup ha,rfl,_,rfl,om ?_⟩
  refine ⟨_,rfl,.inl ⟨a,_,rfl,.inr (SqT.of ha),?_⟩⟩
  refine ⟨_,rfl,a,rfl,⟨_,SqT.of ha⟩,cO (xs:=is.map V.int) is.length (by simp) (by omega) (fun i acc H'=>H'=H∧acc=((is.take i).map fY).map V.int) ⟨rfl,rfl⟩ (fun i acc H' p=>by rw [p.1]; exact SqT.of ha) (fun i acc H' x hi la hx p=>?_) (fun acc H' p la D hD=>?_)⟩
  ·obtain ⟨rfl,rfl⟩:=p
   rw [List.getElem?_map] at hx
   obtain ⟨j,hj,rfl⟩:=Option.map_eq_some_iff.mp hx
   refine ⟨⟨rfl,rfl⟩,bp ?_⟩
   refine ⟨_,rfl,j,rfl,nxT (by omega) hi la ⟨rfl,?_⟩⟩
   rw [List.take_add_one,hj,Option.toList_some,List.map_append,List.map_append]
   rfl
  ·obtain ⟨rfl,rfl⟩:=p
   refine ⟨D,(is.take is.length).map fY,rfl,SqL.of ae,_,_,rfl,rfl,?_⟩
   rw [List.length_map,List.take_length]
   exact q _ (af hD _)
 ·refine ⟨_,rfl,_,_,_,false,rfl,.str z,rfl,_,rfl,om ?_⟩
  refine ⟨_,rfl,_,_,_,true,rfl,.str z,rfl,_,rfl,ww ?_⟩
  exact ⟨_,rfl,.inr ⟨z,rfl,Nat.le_of_lt (aC (by omega)),q _ (av.refl _)⟩⟩
def Bq:Sp:=fun vs H Q _=>∃ v d sort,vs=[v]∧KAt H v d∧PcD sort d∧∀ H',av H H'→Q (.int (szD d)) H'
theorem BA (T:G0 mg) (TX:GX mg) (F:Fun K "part_size" "part_size" dw f fd):bg P w K mg base CX0 1 f fd ["part"] Bq:=(zG T TX F).imp fun vs H Q E h=>by
 obtain ⟨v,d,sort,rfl,hk,hp,q⟩:=h
 exact sG (sp:=yR) hk hp q (fun i e q=>⟨_,rfl,.inl ⟨i,e,q⟩⟩) (fun a is e ha hi q=>⟨_,rfl,.inr (.inl ⟨a,is,e,ha,hi,q⟩)⟩) (fun z e hz q=>⟨_,rfl,.inr (.inr ⟨z,e,hz,q⟩)⟩)
abbrev jR:List Str:=["laid"]
abbrev gO:List Str:=["part"]
theorem kh:gO.Nodup:=by decide +kernel
theorem oG:aF jR ["laid"] (defScope eG):=⟨rfl,rfl,rfl,by decide +kernel,rfl,by decide +kernel,by decide +kernel⟩
def zC:Sp:=fun vs H Q _=>∃ v l,vs=[v]∧KAt H v (.tuple l)∧l.length≤243∧(∀ d∈l,∃ sort,PcD sort d)∧∀ H',av H H'→Q (.int (l.map szD).sum) H'
theorem BN (T:G0 mg) (TX:GX mg) (F:Fun K "laid_size" "laid_size" eG f fd) (D_part_size:Cal P w K mg base 1 "part_size" ["part"] Bq):bg P w K mg base CX0 3 f fd ["laid"] zC:=by
 obtain ⟨g_part_size,gd_part_size,G_part_size,b_part_size,k_part_size,m_part_size⟩:=D_part_size.ex
 refine F.ok oG (fun vs H Q E h=>?_) (fun cdv A outer s H vs Q E hr h=>?_)
 ·obtain ⟨v,l,rfl,_⟩:=h
  rfl
 obtain ⟨v,l,rfl,hk,hl,hpc,q⟩:=h
 refine ⟨_,(@ap _ _ _ (@aD _ _ _ _ (@aA _ _ _ _ _ _ _ _ _ (dU rfl) rfl TX.sum kZ (@ad _ _ _ _ _ (be (N':=gO) (ρ:=[none]) (m:=1) (bt.of (fs:=defScope eG) (N:=jR) rfl rfl (by decide +kernel)) rfl (cG (pv 0)) (fun _ _ _ _=>(au (i:=0) kh rfl (Or.inl rfl))) (fun _ _ _ _=>bq) (fun _ _ _ _=>(ar G_part_size (hr.mono (by omega)) rfl m_part_size k_part_size b_part_size .nil aE (ad (pv 0) ag)))) ag (ac rfl)) (by decide) (by decide) (ac rfl) (aj rfl)))),?_⟩
 cases hk with
 | @tup xa xl _ hxa kxl =>
  have lxl:=aO kxl
  refine ⟨_,rfl,xa,rfl,⟨xl,SqT.of hxa⟩,cO (xs:=xl) xl.length rfl (by omega) (fun jj acc H'=>av H H'∧acc=((l.take jj).map szD).map V.int) ⟨av.refl _,rfl⟩ (fun jj acc H' p=>SqT.of (p.1 _ _ hxa)) (fun jj acc2 H5 v hjj la2 hv p=>?_) (fun acc2 H5 p la2 D2 hD2=>?_)⟩
  ·obtain ⟨g5,rfl⟩:=p
   obtain ⟨d,hd,kd⟩:=cg kxl jj v hv
   obtain ⟨sort,hpd⟩:=hpc d (List.mem_of_getElem? hd)
   have kd5:=kd.mono (ah g5)
   refine ⟨⟨rfl,rfl⟩,bp ?_⟩
   refine ⟨_,rfl,v,d,sort,rfl,kd5,hpd,fun H6 g6=>nxT (by omega) hjj la2 ⟨g5.trans g6,?_⟩⟩
   rw [List.take_add_one,hd,Option.toList_some,List.map_append,List.map_append]
   rfl
  ·obtain ⟨g5,rfl⟩:=p
   rw [lxl,List.take_length]
   exact ⟨D2,l.map szD,rfl,SqL.of ae,q _ (g5.trans (af hD2 _))⟩
abbrev ij:List Str:=["program", "f"]
abbrev fi:List Str:=["param"]
theorem iT:fi.Nodup:=by decide +kernel
theorem lE:aF ij ["program", "f"] (defScope df):=⟨rfl,rfl,rfl,by decide +kernel,rfl,by decide +kernel,by decide +kernel⟩
theorem AZ (F:Fun K "param_kinds" "param_kinds" df f fd) (D_function_of:Cal P w K mg base 1 "function_of" ["program", "f"] zx):bg P w K mg base CX0 2 f fd ["program", "f"] Aa:=by
 obtain ⟨g_function_of,gd_function_of,G_function_of,b_function_of,k_function_of,m_function_of⟩:=D_function_of.ex
 refine F.ok lE (fun vs H Q E h=>?_) (fun cdv A outer s H vs Q E hr h=>?_)
 ·obtain ⟨v,z,R,FS,F,rfl,_⟩:=h
  rfl
 obtain ⟨v,z,R,FS,FF,rfl,hp,hF,hl,q⟩:=h
 refine ⟨_,(@ap _ _ _ (@aD _ _ _ _ (be (N':=fi) (ρ:=[none]) (m:=1) (bt.of (fs:=defScope df) (N:=ij) rfl rfl (by decide +kernel)) rfl (cG (ay aL (ar G_function_of (hr.mono (by omega)) rfl m_function_of k_function_of b_function_of .nil aE (ad (pv 0) (ad (pv 1) ag))) ak (fun _ _=>rfl))) (fun _ _ _ _=>(au (i:=0) iT rfl (Or.inl rfl))) (fun _ _ _ _=>bq) (fun _ _ _ _=>(ay (cK (K:=K) rfl) (pv 0) ak (fun _ _=>rfl)))))),?_⟩
 refine ⟨_,rfl,_,rfl,v,z,R,FS,FF,rfl,hp,hF,fun u hu=>?_⟩
 obtain ⟨c,y,l,b',rfl,hc,b,xs,rfl,hb,rs⟩:=hu
 have lx:xs.length≤1000:=by rw [Paired.length rs]; omega
 refine ⟨c,_,_,_,rfl,rfl,SqT.of hc,rfl,?_⟩
 refine ⟨b,rfl,⟨xs,SqT.of hb⟩,cO (xs:=xs) xs.length rfl lx (fun i acc H'=>H'=H∧acc=(FF.2.take i).map fun p=>V.str p.2) ⟨rfl,rfl⟩ (fun i acc H' p=>by rw [p.1]; exact SqT.of hb) (fun i acc H' x hi la hx p=>?_) (fun acc H' p la D hD=>?_)⟩
 ·obtain ⟨rfl,rfl⟩:=p
  obtain ⟨fl,hfl,c,rfl,hc⟩:=aH rs i x hx
  refine ⟨⟨rfl,rfl⟩,bp ?_⟩
  refine ⟨_,rfl,c,_,_,_,rfl,rfl,SqT.of hc,rfl,nxT lx hi la ⟨rfl,?_⟩⟩
  rw [List.take_add_one,hfl,List.map_append]
  rfl
 ·obtain ⟨rfl,rfl⟩:=p
  refine q D _ (af hD _) hD ?_
  rw [ae,Paired.length rs,List.take_length]
end
end K6
namespace HT
open PySem PySem.Spec PyProof.Rows
section
variable {prog:Program} {w:World} {A:Around} {E:Value→Shared→Prop} {s:Shared}
theorem getItem_tuple_whole {t sl:Addr} {items:Array Value} {vl vu:Value} {lo hi:Option Int} {Q:Value→Shared→Prop} (ht:IsTup s.heap t items) (hs:s.heap.IsSliceOf sl vl vu .none) (pl:IsPart vl lo) (pu:IsPart vu hi)
  (hw:sIx items.size 0 lo=0∧sIx items.size items.size hi=items.size) (h:Q (.ref t) s):wpAny (model prog w) A (getItem (.ref t) (.ref sl)) Q E s:=by
 obtain ⟨os,hos,hcs,hds⟩:=id hs
 have hTs:s.TypeIs (.ref sl) "slice":=⟨os,hos,hcs⟩
 unfold getItem
 try with_reducible refine wpAny_holding ?_
 first | refine wpAny_bind (wpAny_pure ?_) | skip
 refine wpAny_bind (wpAny_sequenceKey ht.typeIs (by decide) ?_)
 refine wpAny_bind (wpAny_callSpecial?_slot (name:=Str.ofString "__getitem__") ht.typeIs PyProof.Rows.slot_tuple_getitem
  (wpAny_call_entry PyProof.Rows.slot_tuple_getitem ht.typeIs entry_tuple_getitem ?_ (args_tuple_getitem _ _)))
 show wpAny _ _ (Builtin.Tuple.tupleItemsOf (.ref t) >>= _) _ _ s
 refine wpAny_bind (tupleItemsOf_ ht ?_)
 refine wpAny_bind (wpAny_typeOf hTs ?_)
 rw [if_pos (by decide)]
 refine wpAny_bind (eR hs pl pu ?_)
 have hyes:(((sIx items.size 0 lo:Nat):Int)==0&&(1:Int)==1&&(sIx items.size items.size hi - sIx items.size 0 lo)==items.size)=true:=by
  rw [hw.1,hw.2]
  simp
 show wpAny _ _ (if (((sIx items.size 0 lo:Nat):Int)==0&&(1:Int)==1&&(sIx items.size items.size hi - sIx items.size 0 lo)==items.size)=true then _ else _) _ _ s
 rw [if_pos hyes]
 refine wpAny_bind ?_
 unfold Builtin.Tuple.tupleIsExact
 refine wpAny_bind (wpAny_typeOf ht.typeIs (wpAny_pure ?_))
 rw [if_pos (by decide)]
 refine wpAny_bind (wpAny_rule ?_)
 exact wpAny_pure ⟨_,rfl,wpAny_pure h⟩
end
end HT
namespace L2
open PySem PySem.Spec PyProof.Rows
section
variable {X:Cx}
def zU (K:Frag):V→Option Int→Option Int→Hp→VK→Prop:=fun x lo hi H Q=>∃ a xs,x=.ref a∧SqT K H a xs∧(HT.sIx xs.length 0 lo=0∧HT.sIx xs.length xs.length hi=xs.length)∧Q (.ref a) H
theorem xH:SlR X (zU X.K):=by
 intro pins s σ H x v vl vu lo hi sl Q I rx hs pl pu h
 obtain ⟨a,xs,rfl,hx,hw,q⟩:=h
 cases rx
 obtain ⟨its,r,ht,hz⟩:=I.tuple hx
 have hlen:its.toArray.size=xs.length:=by rw [List.size_toArray]; exact r.length.symm
 refine ⟨"tuple",_,PyProof.Rows.slot_tuple_getitem.lookup,ht.typeIs,?_⟩
 exact HT.getItem_tuple_whole ht hs pl pu (by rw [hlen]; exact hw) ⟨.ref a,H,I,rfl,q⟩
def zw (K:Frag):List V→Hp→VK→Prop:=fun xs H Q=>∃ x d,xs=[x]∧RdD K H x d∧d.showable=true∧d.hasDict=false∧d.depth≤60∧d.shown.length≤sizeLine∧Q (.str d.shown) H
theorem cr (hu:X.A.units+64<cLine) (hg:X.A.guards=some []):bJ X (.builtin "repr") (zw X.K):=by
 intro pins s σ H xs us Q I r h
 obtain ⟨x,d,rfl,hd,hs,hn,hp,hz,q⟩:=h
 cases hd with
 | non =>
  obtain ⟨u,rfl,ru⟩:=cU r
  cases ru
  exact PySem.P.repr_of_none ⟨.str (PyData.shown .none),H,I.tok _,⟨s.toks,by simp only [PyData.shown]⟩,q⟩
 | bl b =>
  obtain ⟨u,rfl,ru⟩:=cU r
  cases ru
  exact PySem.P.repr_of_bool ⟨.str (PyData.shown (.bool b)),H,I.tok _,⟨s.toks,by simp only [PyData.shown]⟩,q⟩
 | int i =>
  obtain ⟨u,rfl,ru⟩:=cU r
  obtain ⟨t,rfl⟩:=ru
  exact PySem.P.repr_of_int (by simpa [PyData.showable] using hs) ⟨.str (PyData.shown (.int i)),H,I.tok _,⟨s.toks,by simp only [PyData.shown]⟩,q⟩
 | str z =>
  obtain ⟨u,rfl,ru⟩:=cU r
  obtain ⟨t,rfl⟩:=ru
  exact PySem.P.repr_of_str ⟨.str (PyData.shown (.str z)),H,I.tok _,⟨s.toks,by simp only [PyData.shown]⟩,q⟩ (by simpa only [PyData.shown] using hz)
 | lst h ra=>exact mV hu hg pins s σ H _ us Q I r ⟨_,_,rfl,.lst h ra,hs,hn,hp,hz,q⟩
 | tup h ra=>exact mV hu hg pins s σ H _ us Q I r ⟨_,_,rfl,.tup h ra,hs,hn,hp,hz,q⟩
end
end L2
namespace K6
open PySem L2
mutual
def W:PyData→Nat
 | .list xs=>WS xs+3
 | .tuple xs=>WS xs+3
 | .none=>4
 | .bool _=>5
 | .int i=>(PyData.shown (.int i)).length
 | .str x=>(PyData.shown (.str x)).length
 | .dict _=>0
def WS:List PyData→Nat
 | []=>0
 | x::xs=>W x+2+WS xs
end
theorem lY (t:Str) (r:List Str):piled (t::r)=t.length+2+piled r:=by simp [piled]
theorem pQ (ts:List Str):(tupleText ts).length≤piled ts+3:=by
 unfold tupleText
 rw [strLen_append,strLen_append]
 have e1:(("(":Str)).length=1:=by decide
 have e2:(Str.ofString (if ts.length==1 then ",)" else ")")).length≤2:=by split<;>decide
 have e3:(Str.join ", " ts).length≤piled ts:=by
  cases ts with
  | nil=>exact Nat.le_trans (show (Str.join ", " []).length≤0 by decide) (Nat.zero_le _)
  | cons x r =>
   have:=join_length_add (x::r) (by simp)
   omega
 rw [e1]
 have e2':=e2
 omega
theorem lB:∀ (ts:List Str) (k:Nat) (acc:Str),(textFrom k acc ts).length≤acc.length+piled ts
 | [],_,acc=>by simp [textFrom,piled]
 | t::r,k,acc=>by
  have h2:=lB r (k+1) (acc++(if k > 0 then ", " else "":String)++t)
  have e:(Str.ofString (if k > 0 then ", " else "")).length≤2:=by split<;>decide
  rw [strLen_append,strLen_append] at h2
  unfold textFrom
  rw [lY]
  omega
theorem qb (ts:List Str):(listText ts).length≤piled ts+3:=by
 unfold listText
 rw [strLen_append]
 have:=lB ts 0 "["
 have e1:(("[":Str)).length=1:=by decide
 have e2:(("]":Str)).length=1:=by decide
 have e1':=e1
 have e2':=e2
 omega
mutual
theorem oI:∀ d:PyData,d.hasDict=false→d.shown.length≤W d
 | .none,_=>by simp only [W,PyData.shown]; decide
 | .bool b,_=>by cases b<;>simp only [W,PyData.shown]<;>decide
 | .int i,_=>by simp only [W]; exact Nat.le_refl _
 | .str x,_=>by simp only [W]; exact Nat.le_refl _
 | .list xs,h=>by
  have:=gQ xs (by simpa [PyData.hasDict] using h)
  simp only [W,PyData.shown]
  exact Nat.le_trans (qb _) (by omega)
 | .tuple xs,h=>by
  have:=gQ xs (by simpa [PyData.hasDict] using h)
  simp only [W,PyData.shown]
  exact Nat.le_trans (pQ _) (by omega)
 | .dict _,h=>by simp [PyData.hasDict] at h
theorem gQ:∀ ds:List PyData,PyData.hasDictAll ds=false→piled (PyData.shownAll ds)≤WS ds
 | [],_=>by simp [PyData.shownAll,piled]
 | x::xs,h=>by
  have h':x.hasDict=false∧PyData.hasDictAll xs=false:=by simpa [PyData.hasDictAll] using h
  have h1:=oI x h'.1
  have h2:=gQ xs h'.2
  simp only [PyData.shownAll,lY,WS]
  omega
end
structure cT (m b:Nat) (d:PyData):Prop where
 sh:d.showable=true
 nd:d.hasDict=false
 dp:d.depth≤m
 sz:W d≤b
structure eB (m b:Nat) (ds:List PyData):Prop where
 sh:PyData.showableAll ds=true
 nd:PyData.hasDictAll ds=false
 dp:PyData.depthAll ds≤m
 sz:WS ds≤b
theorem cT.mono {m b m' b':Nat} {d:PyData} (h:cT m b d) (h1:m≤m') (h2:b≤b'):cT m' b' d:=⟨h.sh,h.nd,Nat.le_trans h.dp h1,Nat.le_trans h.sz h2⟩
theorem eB.mono {m b m' b':Nat} {d:List PyData} (h:eB m b d) (h1:m≤m') (h2:b≤b'):eB m' b' d:=⟨h.sh,h.nd,Nat.le_trans h.dp h1,Nat.le_trans h.sz h2⟩
theorem eB.nil:eB 0 0 []:=⟨by simp [PyData.showableAll],by simp [PyData.hasDictAll],by simp [PyData.depthAll],by simp [WS]⟩
theorem eB.cons {m b c:Nat} {d:PyData} {ds:List PyData} (h:cT m b d) (r:eB m c ds):eB m (b+2+c) (d::ds):=by
 have h1:=h.dp
 have h2:=r.dp
 have h3:=h.sz
 have h4:=r.sz
 exact ⟨by simp [PyData.showableAll,h.sh,r.sh],by simp [PyData.hasDictAll,h.nd,r.nd],by simp only [PyData.depthAll]; omega,by simp only [WS]; omega⟩
theorem eB.tup {m b:Nat} {ds:List PyData} (h:eB m b ds):cT (m+1) (b+3) (.tuple ds):=by
 have h1:=h.dp
 have h2:=h.sz
 exact ⟨by simp only [PyData.showable]; exact h.sh,by simp only [PyData.hasDict]; exact h.nd,by simp only [PyData.depth]; omega,by simp only [W]; omega⟩
theorem eB.lst {m b:Nat} {ds:List PyData} (h:eB m b ds):cT (m+1) (b+3) (.list ds):=by
 have h1:=h.dp
 have h2:=h.sz
 exact ⟨by simp only [PyData.showable]; exact h.sh,by simp only [PyData.hasDict]; exact h.nd,by simp only [PyData.depth]; omega,by simp only [W]; omega⟩
open PySem L2
theorem zP {K:Frag} {H:Hp} {a:Addr} {xs:List V} {i j:Nat} {Q:VK} (ha:H a=some (.tup xs)) (hij:i≤j) (hj:j≤xs.length) (q:∀ p H',av H H'→H' p=some (.tup ((xs.drop i).take (j - i)))→Q (.ref p) H') :
  zS K (.ref a) (some (i:Int)) (some (j:Int)) H Q∨zU K (.ref a) (some (i:Int)) (some (j:Int)) H Q:=by
 have s1:HT.sIx xs.length 0 (some (i:Int))=i:=by rw [HT.sIx_nat]; omega
 have s2:HT.sIx xs.length xs.length (some (j:Int))=j:=by rw [HT.sIx_nat]; omega
 by_cases h:i=0∧j=xs.length
 ·refine .inr ⟨a,xs,rfl,SqT.of ha,⟨by rw [s1]; exact h.1,by rw [s2]; exact h.2⟩,q a H (av.refl _) ?_⟩
  rw [h.1,h.2,List.drop_zero,Nat.sub_zero,List.take_length]
  exact ha
 ·refine .inl ⟨a,xs,rfl,SqT.of ha,fun z=>h ⟨by rw [← s1]; exact z.1,by rw [← s2]; exact z.2⟩,fun p hp=>q p _ (af hp _) ?_⟩
  rw [ae]
  unfold bV
  rw [s1,s2]
theorem zh {K:Frag} {H:Hp} {a:Addr} {xs:List V} {i j:Nat} {jj:Int} {Q:VK} (hjj:jj=(j:Int)) (ha:H a=some (.tup xs)) (hij:i≤j) (hj:j≤xs.length) (q:∀ p H',av H H'→H' p=some (.tup ((xs.drop i).take (j - i)))→Q (.ref p) H') :
  zS K (.ref a) (some (i:Int)) (some jj) H Q∨zU K (.ref a) (some (i:Int)) (some jj) H Q:=by
 subst hjj
 exact zP ha hij hj q
theorem pj {l:List Nat} {i:Nat} {x:Nat} (h:l[i]?=some x):(l.take (i+1)).sum=(l.take i).sum+x∧(l.take i).sum+x≤l.sum:=by
 have e:l.take (i+1)=l.take i++[x]:=by rw [List.take_add_one,h]; rfl
 have e2:l.sum=(l.take (i+1)).sum+(l.drop (i+1)).sum:=by rw [← List.sum_append,List.take_append_drop]
 rw [e2,e,List.sum_append]
 simp
section
variable {P:Program} {w:World} {K:Frag} {mg:Str→Option Value} {base:Heap} {f g:Addr} {fd gd:FuncData}
def As (n:Nat):Sp:=fun vs H Q _=>∃ v k u R ds,vs=[v,.str k,u]∧dZ H v R∧n≤4∧bW R n k∧KAt H u (.tuple ds)∧ds.length=(am R n k).length∧∀ y H',av H H'→KAt H' y (bA R n k ds)→Q y H'
def yY (n:Nat):Sp:=fun vs H Q _=>∃ v r ks u R ds,vs=[v,.ref r,u]∧dZ H v R∧n≤4∧H r=some (.lst (List.map V.str ks))∧ks.length≤3∧(∀ k∈ks,bW R n k)∧KAt H u (.tuple ds)∧ds.length=(ks.map fun k=>(am R n k).length).sum∧∀ y H',av H H'→KAt H' y (.tuple (bD (fun k=>(am R n k).length) (bA R n) ks ds))→Q y H'
abbrev nP:List Str:=["program", "kinds", "laid", "told", "place", "kind", "behind"]
theorem bZ:aF nP ["program", "kinds", "laid"] (defScope dF):=⟨rfl,rfl,rfl,by decide +kernel,rfl,by decide +kernel,by decide +kernel⟩
theorem yO {n:Nat} (T:G0 mg) (F:Fun K "unflat_all" "unflat_all" dF f fd) (D_unflat:Cal P w K mg base (2*n+2) "unflat" ["program", "kind", "values"] (As n)) (D_parts:Cal P w K mg base (n+1) "parts" ["program", "kind"] (fD n)):bg P w K mg base CX0 (2*n+3) f fd ["program", "kinds", "laid"] (yY n):=by
 obtain ⟨g_unflat,gd_unflat,G_unflat,b_unflat,k_unflat,m_unflat⟩:=D_unflat.ex
 obtain ⟨g_parts,gd_parts,G_parts,b_parts,k_parts,m_parts⟩:=D_parts.ex
 refine F.ok bZ (fun vs H Q E h=>?_) (fun cdv A outer s H vs Q E hr h=>?_)
 ·obtain ⟨v,r,ks,u,R,ds,rfl,_⟩:=h
  rfl
 obtain ⟨v,r,ks,u,R,ds,rfl,hp,hn,hr1,hl,hD,hu,hln,q⟩:=h
 refine ⟨_,(@al _ _ _ _ _ (@aB _ _ 3 _ _ _ _ bZ.nd rfl (Or.inl rfl) (@aR _ _ _ _ ag) (ao rfl) (.inr rfl)) (@al _ _ _ _ _ (@aB _ _ 4 _ _ _ _ bZ.nd rfl (Or.inl rfl) ak (ao rfl) (.inr rfl)) (@al _ _ _ _ _ (@bn _ _ _ _ _ _ _ _ PassesOwn.never rfl (aZ (pv 1)) (au (i:=5) bZ.nd rfl (Or.inl rfl)) (@al _ _ _ _ _ (@aB _ _ 6 _ _ _ _ bZ.nd rfl (Or.inl rfl) (@aG _ _ _ _ _ _ _ _ bB (pv 4) (@aA _ _ _ _ _ _ _ _ _ aU rfl T.len eC (@ad _ _ _ _ _ (@ar _ _ _ _ _ _ _ _ _ _ _ _ _ _ _ _ G_parts (hr.mono (by omega)) rfl m_parts k_parts b_parts .nil aE (@ad _ _ _ _ _ (pv 0) (@ad _ _ _ _ _ (pv 5) ag (ac rfl)) (ac rfl)) (by decide) (ac rfl) (aj rfl)) ag (ac rfl)) (by decide) (by decide) (ac rfl) (aj rfl))) (ao rfl) (.inr rfl)) (@al _ _ _ _ _ (@bY _ _ _ _ (@dB _ _ _ _ _ _ _ _ _ _ _ _ PySem.F.plainAttrs_list PySem.F.slot_list_append PySem.F.type_list_append cZ (pv 3) (@ad _ _ _ _ _ (@ar _ _ _ _ _ _ _ _ _ _ _ _ _ _ _ _ G_unflat (hr.mono (by omega)) rfl m_unflat k_unflat b_unflat .nil aE (@ad _ _ _ _ _ (pv 0) (@ad _ _ _ _ _ (pv 5) (@ad _ _ _ _ _ (@dS _ _ _ _ _ _ _ _ _ _ (Ak.or xH) (pv 2) (eF (pv 4)) (eF (pv 6))) ag (ac rfl)) (ac rfl)) (ac rfl)) (by decide) (ac rfl) (aj rfl)) ag (ac rfl)) rfl (cH rfl rfl) rfl (ac rfl) (aj rfl)) (ao rfl)) (@ap _ _ _ (@aB _ _ 4 _ _ _ _ bZ.nd rfl (Or.inl rfl) (pv 6) (ao rfl) (.inr rfl))))) (fun _=>rfl)) (@ap _ _ _ (@aD _ _ _ _ (@aX _ _ _ _ _ _ _ _ _ bv rfl T.tuple dI (@ad _ _ _ _ _ (pv 3) ag (ac rfl)) (by decide) (by decide) (ac rfl) (aj rfl))))))),?_⟩
 cases hu with
 | @tup xa xl _ hxa kxl =>
  have lxl:=aO kxl
  refine ⟨(by show 0≤sizeLine; decide),fun t ht=>?_⟩
  have st:=af ht (.lst [])
  have htt:(upd H t (.lst [])) t=some (.lst []):=ae
  have hr1':=st _ _ hr1
  generalize (upd H t (.lst []))=H1 at st htt hr1'
  have nrt:r≠t:=aq hr1 ht
  refine ⟨_,rfl,r,rfl,⟨_,SqL.of hr1'⟩,bK (xs:=ks.map V.str) (fun j σ H2=>∃ m5 m6 ys,σ=[some v,some (.ref r),some (.ref xa),some (.ref t),some (.int (((ks.take j).map fun k=>(am R n k).length).sum:Nat)),m5,m6]∧Ext t H1 H2∧H2 t=some (.lst ys)∧bd H2 ys (bD (fun k=>(am R n k).length) (bA R n) (ks.take j) ds)) ⟨_,_,[],rfl,Ext.refl _ _,htt,.nil⟩ (fun j σ H2 _ p=>?_) (fun j x σ H2 hx p=>?_) (fun σ H2 p=>?_)⟩
  ·obtain ⟨_,_,_,_,x2,_⟩:=p
   exact SqL.of (x2 _ _ nrt hr1')
  ·obtain ⟨m5,m6,ys,rfl,x2,hty,kys⟩:=p
   rw [List.getElem?_map] at hx
   obtain ⟨k,hk,rfl⟩:=Option.map_eq_some_iff.mp hx
   have hj:j<ks.length:=(List.getElem?_eq_some_iff.mp hk).1
   have dk:=hD k (List.mem_of_getElem? hk)
   have k2:Tk H H2:=(ah st).trans (aY x2 htt)
   obtain ⟨c1,c2⟩:=pj (l:=ks.map fun k=>(am R n k).length) (i:=j) (x:=(am R n k).length) (by rw [List.getElem?_map,hk]; rfl)
   rw [← List.map_take,← List.map_take] at c1
   rw [← List.map_take] at c2
   have es1:bD (fun k=>(am R n k).length) (bA R n) (ks.take (j+1)) ds=bD (fun k=>(am R n k).length) (bA R n) (ks.take j) ds++[bA R n k ((ds.drop ((ks.take j).map fun k=>(am R n k).length).sum).take (am R n k).length)]:=by
    rw [List.take_add_one,hk,Option.toList_some,fq]
   rw [c1,es1]
   generalize ((ks.take j).map fun k=>(am R n k).length).sum=ci at c1 c2
   have lys:=aO kys
   rw [db,List.length_take] at lys
   refine ⟨_,rfl,_,rfl,_,rfl,v,k,R,rfl,hp.mono k2,hn,dk,fun pl zs H3 g3 hpl0 hpl pz=>?_⟩
   have lz:=Paired.length pz
   refine ⟨pl,_,rfl,.inl (SqL.of hpl),_,_,rfl,rfl,?_⟩
   have hty3:=g3 _ _ hty
   have k3:=k2.trans (ah g3)
   refine ⟨_,rfl,.inl ⟨rfl,_,SqL.of hty3⟩,?_⟩
   refine ⟨_,rfl,_,rfl,_,rfl,_,rfl,_,rfl,_,rfl,_,rfl,zh (i:=ci) (j:=ci+(am R n k).length) (by rw [lz]; rfl) (k3 _ _ hxa) (by omega) (by omega) fun ca H4 g4 hca=>?_⟩
   refine ⟨v,k,.ref ca,R,(ds.drop ci).take (am R n k).length,rfl,hp.mono (k3.trans (ah g4)),hn,dk,.tup hca ?_,?_,fun y H5 g5 ky=>?_⟩
   ·rw [Nat.add_sub_cancel_left]
    exact kD _ (kB _ (kxl.mono (k3.trans (ah g4))))
   ·rw [List.length_take,List.length_drop]
    omega
   ·have g45:=g4.trans g5
    have hty5:=g45 _ _ hty3
    have kt:=cj hty5 (.lst (ys++[y]))
    refine ⟨t,ys,_,rfl,rfl,hty5,aC (by omega),?_⟩
    refine ⟨_,rfl,_,_,ys++[y],(by rw [lz]; rfl),(x2.trans (av.ext (g3.trans g45))).trans Ext.upd,ae,?_⟩
    exact bC ((kys.mono (ah (g3.trans g45))).mono kt) (.cons (ky.mono kt) .nil)
  ·obtain ⟨m5,m6,ys,rfl,x2,hty,kys⟩:=p
   rw [List.length_map,List.take_length] at kys
   refine ⟨_,rfl,t,ys,rfl,.inl ⟨SqL.of hty,fun tt htt'=>?_⟩⟩
   have g3:=af htt' (.tup ys)
   refine q (.ref tt) _ (fun b o e=>g3 _ _ (x2 _ _ (aq e ht) (st _ _ e))) (.tup ae (kys.mono (ah g3)))
abbrev vw:List Str:=["program", "kind", "values"]
theorem tJ:aF vw ["program", "kind", "values"] (defScope ja):=⟨rfl,rfl,rfl,by decide +kernel,rfl,by decide +kernel,by decide +kernel⟩
theorem AT {n:Nat} (T:G0 mg) (TP:GPk K mg) (F:Fun K "unflat" "unflat" ja f fd) (D_field_kinds:Cal P w K mg base 2 "field_kinds" ["program", "kind"] iK) (D_unflat_all:Cal P w K mg base (2*n+3) "unflat_all" ["program", "kinds", "laid"] (yY n)):bg P w K mg base CX0 (2*(n+1)+2) f fd ["program", "kind", "values"] (As (n+1)):=by
 obtain ⟨g_unflat_all,gd_unflat_all,G_unflat_all,b_unflat_all,k_unflat_all,m_unflat_all⟩:=D_unflat_all.ex
 obtain ⟨g_field_kinds,gd_field_kinds,G_field_kinds,b_field_kinds,k_field_kinds,m_field_kinds⟩:=D_field_kinds.ex
 obtain ⟨aP,mP,sP⟩:=TP
 refine F.ok tJ (fun vs H Q E h=>?_) (fun cdv A outer s H vs Q E hr h=>?_)
 ·obtain ⟨v,k,u,R,ds,rfl,_⟩:=h
  rfl
 obtain ⟨v,k,u,R,ds,rfl,hp,hn,hd,hu,hln,q⟩:=h
 refine ⟨_,(@al _ _ _ _ _ (@bU _ _ _ _ _ _ _ _ (@aQ _ _ _ _ _ _ _ _ dP (pv 1) (iY (v:=.ref aP) rfl mP rfl) rfl) (@ap _ _ _ (@aD _ _ _ _ (@ay _ _ _ _ _ _ _ aL (pv 2) ak (fun _ _=>rfl)))) bh) (@ap _ _ _ (@aD _ _ _ _ (@ar _ _ _ _ _ _ _ _ _ _ _ _ _ _ _ _ G_unflat_all (hr.mono (by omega)) rfl m_unflat_all k_unflat_all b_unflat_all .nil aE (@ad _ _ _ _ _ (pv 0) (@ad _ _ _ _ _ (@ar _ _ _ _ _ _ _ _ _ _ _ _ _ _ _ _ G_field_kinds (hr.mono (by omega)) rfl m_field_kinds k_field_kinds b_field_kinds .nil aE (@ad _ _ _ _ _ (pv 0) (@ad _ _ _ _ _ (pv 1) ag (ac rfl)) (ac rfl)) (by decide) (ac rfl) (aj rfl)) (@ad _ _ _ _ _ (pv 2) ag (ac rfl)) (ac rfl)) (ac rfl)) (by decide) (ac rfl) (aj rfl))))),?_⟩
 cases hu with
 | @tup xa xl _ hxa kxl =>
  refine ⟨_,rfl,aP,_,rfl,.inr (sP _),rfl,qK,_,rfl,?_⟩
  refine bO (fun c=>?_) (fun c=>?_)
  ·have ck:k∈PL:=of_decide_eq_true ((cB k PL).symm.trans c)
   have l1:ds.length=1:=by
    rw [hln]
    unfold am
    rw [if_pos ck]
    rfl
   cases kxl with
   | nil=>cases l1
   | @cons x xr d dr hx hr' =>
    refine ⟨_,rfl,xa,_,_,_,rfl,rfl,SqT.of hxa,jr (i:=0) rfl,q x H (av.refl _) ?_⟩
    unfold bA
    rw [if_pos ck]
    exact hx
  ·have ck:k∉PL:=fun z=>c (((cB k PL).trans (decide_eq_true z)))
   rcases hd with z | ⟨_,_,⟨_,hl⟩,hd⟩
   ·exact absurd z ck
   refine ⟨_,rfl,_,rfl,_,rfl,v,k,R,rfl,hp,hl,fun r H1 g1 hr0 hr1=>?_⟩
   have etot:am R (n+1) k=(look R k).flatMap fun p=>(am R n p.2).map fun q=>(p.1::q.1,q.2):=by
    conv=>lhs; unfold am
    rw [if_neg ck]
    rfl
   refine ⟨_,rfl,v,r,(look R k).map (·.2),.ref xa,R,ds,rfl,hp.mono (ah g1),by omega,by rw [hr1,List.map_map]; rfl,by rw [List.length_map]; exact hl,fun k' hk'=>?_,.tup (g1 _ _ hxa) (kxl.mono (ah g1)),by rw [hln,etot,jB],fun y H2 g2 ky=>?_⟩
   ·obtain ⟨p,hp',rfl⟩:=List.mem_map.mp hk'
    exact hd p hp'
   ·refine q y H2 (g1.trans g2) ?_
    conv=>rhs; unfold bA
    rw [if_neg ck]
    exact ky
end
end K6
namespace L2
open PySem PySem.Spec PyProof.Rows
structure xZ (K:Frag) (x qual:Str) (st:Stmt) (f:Addr) (fd:FuncData) (c:Addr):Prop where
 ex:∃ (oc:Value) (od:Option Addr) (kV doc pm:Value) (an:Option Addr) (ct:Value) (osl:Array (Option Value)),
  fd=PySem.W.fnOf x qual (defArgs st) (defBody st) (defScope st) .none kV doc pm an (.ref c) ct∧K.lookup f=some ⟨oc,od,.func fd,osl⟩∧PySem.W.codeIn K (.ref c) qual=true
theorem xZ.ok {P:Program} {w:World} {K:Frag} {mg:Str→Option Value} {base:Heap} {x qual:Str} {st:Stmt} {f c:Addr} {fd:FuncData} {N ps:List Str} {k:Nat} {sp:Sp} (F:xZ K x qual st f fd c) (S:aF N ps (defScope st)) (len:∀ vs H Q E,sp vs H Q E→vs.length=ps.length)
  (hbody:∀ (A:Around) (outer:List Env) (s:Shared) (H:Hp) (vs:List V) (Q:VK) (E:XK),cS k (A.deeper (envOfC qual (defScope st) s.heap.objs.size f (.ref c)))→sp vs H Q E →
   ∃ t,PSs (ms CX0 P w K mg base N qual (defScope st) f (.ref c) A outer s H E).nox (defBody st) t∧t { nx:=fun _ H'=>Q .non H',rt:=Q } (fe N vs) H):bg P w K mg base CX0 (k+1) f fd ps sp:=by
 obtain ⟨oc,od,kV,doc,pm,an,ct,osl,rfl,lk,hcd⟩:=F.ex
 refine yw lk hcd S len fun A outer s H vs Q E hr hsp=>?_
 obtain ⟨t,h,q⟩:=hbody A outer s H vs Q E hr hsp
 exact ⟨t,h.nox,q⟩
end L2
namespace K6
open PySem L2
abbrev vX:Scope:={ kind:=.function,names:=[("one",.local),("laid_size",.globalImplicit)],isGenerator:=false,isCoroutine:=false,more:=[] }
theorem BG:aF ["one"] ["one"] vX:=⟨rfl,rfl,rfl,by decide +kernel,rfl,by decide +kernel,by decide +kernel⟩
abbrev pI:Str:=(Str.ofString "inputs"++Str.ofString ".<locals>.")++Str.ofString "<lambda>"
abbrev pd:Pos:=⟨111,31,111,64⟩
theorem gE {tA:Addr} {H H':Hp} {ps:Array Value} (g:GoL tA H H') (h:H tA=some (.tbl ps)):Tk H H':=fun b xs e=>g b _ (fun z=>by rw [z,h] at e; cases e) e
theorem dn {tA:Addr} {H H':Hp} (g:av H H'):GoL tA H H':=fun b u _ e=>g b u e
theorem cz {tA:Addr} {H H1 H2:Hp} (a:GoL tA H H1) (b:GoL tA H1 H2):GoL tA H H2:=fun c u n e=>b c u n (a c u n e)
theorem bQ {H H':Hp} {tA:Addr} {q:Str} {p:Pos} (g:av H H') (h:gh H tA q p):gh H' tA q p:=by
 obtain ⟨ps,h1,h2,h3⟩:=h
 refine ⟨ps,g _ _ h1,h2,h3.imp id ?_⟩
 rintro ⟨c,φ,a,b,d⟩
 exact ⟨c,φ,a,g _ _ b,d⟩
section
variable {P:Program} {w:World} {K:Frag} {mg:Str→Option Value} {base:Heap} {f g:Addr} {fd gd:FuncData}
abbrev lV:List Str:=["program", "f", "room", "laid", "path", "sort", "choices", "longer", "ahead", "ordered", "kinds"]
abbrev jP:List Str:=["one", "program", "kinds"]
theorem nU:jP.Nodup:=by decide +kernel
abbrev jT:List Str:=["part", "ahead"]
theorem oE:jT.Nodup:=by decide +kernel
theorem cf:aF lV ["program", "f", "room"] (defScope gz):=⟨rfl,rfl,rfl,by decide +kernel,rfl,by decide +kernel,by decide +kernel⟩
def BD (tA:Addr):Sp:=fun vs H Q _=>∃ v z R FS F rv r,vs=[v,.str z,rv]∧hW H v R FS∧gI FS z=some F∧F.2.length≤3∧(∀ p∈F.2,bW R 4 p.2)∧jH H rv r∧cp r∧aS r (ax R F.2)≤60∧gh H tA pI pd∧∀ l ys H',GoL tA H H'→gh H' tA pI pd→H l=none→H' l=some (.lst ys)→bd H' ys (mE R F.2 r)→Q (.ref l) H'
theorem Bb {cA tA:Addr} (T:G0 mg) (TX:GX mg) (GC:∀ h,K.In h→PySem.W.CodeHd h cA tA) (GB:base.BuiltinsAt mg tA) (F:xZ K "inputs" "inputs" gz f fd cA) (D_param_parts:Cal P w K mg base 6 "param_parts" ["program", "f"] (zn 4)) (D_choices_of:Cal P w K mg base 5 "choices_of" ["room", "sort"] BJ) (D_laid_size:Cal P w K mg base 3 "laid_size" ["laid"] zC) (D_param_kinds:Cal P w K mg base 2 "param_kinds" ["program", "f"] Aa) (D_unflat_all:Cal P w K mg base 11 "unflat_all" ["program", "kinds", "laid"] (yY 4)):bg P w K mg base CX0 14 f fd ["program", "f", "room"] (BD tA):=by
 obtain ⟨g_unflat_all,gd_unflat_all,G_unflat_all,b_unflat_all,k_unflat_all,m_unflat_all⟩:=D_unflat_all.ex
 obtain ⟨g_param_kinds,gd_param_kinds,G_param_kinds,b_param_kinds,k_param_kinds,m_param_kinds⟩:=D_param_kinds.ex
 obtain ⟨g_param_parts,gd_param_parts,G_param_parts,b_param_parts,k_param_parts,m_param_parts⟩:=D_param_parts.ex
 obtain ⟨g_choices_of,gd_choices_of,G_choices_of,b_choices_of,k_choices_of,m_choices_of⟩:=D_choices_of.ex
 refine F.ok cf (fun vs H Q E h=>?_) (fun A outer s H vs Q E hr h=>?_)
 ·obtain ⟨v,z,R,FS,F,rv,r,rfl,_⟩:=h
  rfl
 obtain ⟨v,z,R,FS,FF,rv,r,rfl,hp,hF,hl,hD,hrm,hok,hmn,hlam,q⟩:=h
 refine ⟨_,(@al _ _ _ _ _ (@aB _ _ 3 _ _ _ _ cf.nd rfl (Or.inl rfl) (@aR _ _ _ _ (@ad _ _ _ _ _ (@aW _ _ _ _ _ ag) ag (ac rfl))) (ao rfl) (.inr rfl)) (@al _ _ _ _ _ (@bn _ _ _ _ _ _ _ _ PassesOwn.never rfl (aZ (@ar _ _ _ _ _ _ _ _ _ _ _ _ _ _ _ _ G_param_parts (hr.mono (by omega)) rfl m_param_parts k_param_parts b_param_parts .nil aE (@ad _ _ _ _ _ (pv 0) (@ad _ _ _ _ _ (pv 1) ag (ac rfl)) (ac rfl)) (by decide) (ac rfl) (aj rfl))) (cQ rfl (aJ (au (i:=4) cf.nd rfl (Or.inl rfl)) (aJ (au (i:=5) cf.nd rfl (Or.inl rfl)) bP))) (@al _ _ _ _ _ (@aB _ _ 6 _ _ _ _ cf.nd rfl (Or.inl rfl) (@ar _ _ _ _ _ _ _ _ _ _ _ _ _ _ _ _ G_choices_of (hr.mono (by omega)) rfl m_choices_of k_choices_of b_choices_of .nil aE (@ad _ _ _ _ _ (pv 2) (@ad _ _ _ _ _ (pv 5) ag (ac rfl)) (ac rfl)) (by decide) (ac rfl) (aj rfl)) (ao rfl) (.inr rfl)) (@al _ _ _ _ _ (@aB _ _ 7 _ _ _ _ cf.nd rfl (Or.inl rfl) (@aR _ _ _ _ ag) (ao rfl) (.inr rfl)) (@al _ _ _ _ _ (@bn _ _ _ _ _ _ _ _ PassesOwn.never rfl (aZ (pv 3)) (au (i:=8) cf.nd rfl (Or.inr rfl)) (@ap _ _ _ (@bY _ _ _ _ (@dB _ _ _ _ _ _ _ _ _ _ _ _ PySem.F.plainAttrs_list PySem.F.slot_list_extend PySem.F.type_list_extend dO (pv 7) (@ad _ _ _ _ _ (be (N':=jT) (ρ:=[none,some 8]) (m:=1) (bt.of (fs:=defScope gz) (N:=lV) rfl rfl (by decide +kernel)) rfl (aZ (pv 6)) (fun _ _ _ _=>(au (i:=0) oE rfl (Or.inl rfl))) (fun _ _ _ _=>bq) (fun _ _ _ _=>(aG (gJ (K:=K) rfl) (pv 1) (aW (ad (pv 0) ag))))) ag (ac rfl)) rfl (cH rfl rfl) rfl (ac rfl) (aj rfl)) (ao rfl))) (fun _=>rfl)) (@ap _ _ _ (@aB _ _ 3 _ _ _ _ cf.nd rfl (Or.inl rfl) (pv 7) (ao rfl) (.inr rfl)))))) (fun _=>rfl)) (@al _ _ _ _ _ (@aB _ _ 9 _ _ _ _ cf.nd rfl (Or.inl rfl) (xt (N:=["one"]) (y := "one") (k:=4) (c:=cA) (P:=tA) rfl TX.sorted oP (@ad _ _ _ _ _ (pv 3) ag (ac rfl)) rfl GC GB rfl rfl BG (hr.mono (by omega)) (fun _ _ _ _=>rfl) (fun A outer s H E f cdv hr2=>(@aW _ _ _ _ _ (@ad _ _ _ _ _ (wv D_laid_size (hr2.mono (by omega)) rfl (@ad _ _ _ _ _ (pv 0) ag (ac rfl))) (@ad _ _ _ _ _ (pv 0) ag (ac rfl)) (ac rfl)))) rfl rfl) (ao rfl) (.inr rfl)) (@al _ _ _ _ _ (@aB _ _ 10 _ _ _ _ cf.nd rfl (Or.inr rfl) (@ar _ _ _ _ _ _ _ _ _ _ _ _ _ _ _ _ G_param_kinds (hr.mono (by omega)) rfl m_param_kinds k_param_kinds b_param_kinds .nil aE (@ad _ _ _ _ _ (pv 0) (@ad _ _ _ _ _ (pv 1) ag (ac rfl)) (ac rfl)) (by decide) (ac rfl) (aj rfl)) (ao rfl) (.inl rfl)) (@ap _ _ _ (@aD _ _ _ _ (be (N':=jP) (ρ:=[none,some 0,some 10]) (m:=1) (bt.of (fs:=defScope gz) (N:=lV) rfl rfl (by decide +kernel)) rfl (aZ (pv 9)) (fun _ _ _ _=>(au (i:=0) nU rfl (Or.inl rfl))) (fun _ _ _ _=>bq) (fun _ _ _ _=>(ar G_unflat_all (hr.mono (by omega)) rfl m_unflat_all k_unflat_all b_unflat_all .nil aE (ad (pv 1) (ad (pv 2) (ad (pv 0) ag)))))))))))),?_⟩
 have lpp:=sO (by decide:4≤4) hl hD
 have epp:=jy R FF.2
 have eflat:=wI r epp
 have emany:=sH r epp
 refine ⟨(by show 0≤sizeLine; decide),fun p1 h1=>⟨(by show 1≤sizeLine; decide),fun l1 hl1=>?_⟩⟩
 have s1:=af h1 (.tup [])
 have s2:=af hl1 (.lst [.ref p1])
 have gD:=s1.trans s2
 have e1:_=some (HO.tup []):=s2 _ _ ae
 have el:_=some (HO.lst [.ref p1]):=ae (H:=upd H p1 (.tup [])) (a:=l1)
 generalize (upd (upd H p1 (.tup [])) l1 (.lst [.ref p1]))=H1 at gD e1 el
 dsimp only [jU]
 refine eW (fun σ H2=>∃ l4 xs m4 m5 m6 m7 m8,σ=[some v,some (.str z),some rv,some (.ref l4),m4,m5,m6,m7,m8,none,none]∧av H H2∧H2 l4=some (.lst xs)∧bd H2 xs ((bc r (ppM R 4 FF.2)).map .tuple)) (fun NX hNX=>?_) (fun σ H2 jj=>?_)
 ·refine ⟨_,rfl,_,rfl,v,z,R,FS,FF,rfl,hp.mono (ah gD),hF,hl,by decide,hD,fun l ys H2 g2 hl0 hl2 pp=>?_⟩
  have lys:=Paired.length pp
  have G2:=gD.trans g2
  refine ⟨l,rfl,⟨ys,SqL.of hl2⟩,bK (xs:=ys) (fun j σ H3=>∃ l4 xs m4 m5 m6 m7 m8,σ=[some v,some (.str z),some rv,some (.ref l4),m4,m5,m6,m7,m8,none,none]∧av H2 H3∧H3 l4=some (.lst xs)∧bd H3 xs ((bc r ((ppM R 4 FF.2).take j)).map .tuple)) ⟨l1,_,_,_,_,_,_,rfl,av.refl _,g2 _ _ el,.cons (.tup (g2 _ _ e1) .nil) .nil⟩ (fun j σ H3 _ p=>?_) (fun j u σ H3 hx p=>?_) (fun σ H3 p=>?_)⟩
  ·obtain ⟨_,_,_,_,_,_,_,_,g3,_⟩:=p
   exact SqL.of (g3 _ _ hl2)
  ·obtain ⟨l4,xs4,m4,m5,m6,m7,m8,rfl,g3,hl4,kes⟩:=p
   obtain ⟨qq,hqq,hpa⟩:=aH pp j u hx
   obtain ⟨a2,y2,rfl,ha2,a3,rfl,ha3⟩:=hpa.mono (ah g3)
   have G3:=G2.trans g3
   have hall:∀ q∈ppM R 4 FF.2,q.2∈PL:=fun q hq=>by
    have:q.2∈(ppM R 4 FF.2).map (·.2):=List.mem_map_of_mem hq
    rw [epp] at this
    obtain ⟨q',hq',e'⟩:=List.mem_map.mp this
    rw [← e']
    exact bE q' hq'
   have hso:=hall qq (List.mem_of_getElem? hqq)
   have eqs:(ppM R 4 FF.2).take (j+1)=(ppM R 4 FF.2).take j++[qq]:=by rw [List.take_add_one,hqq]; rfl
   have pre:aS r ((ppM R 4 FF.2).take j++[qq])≤60:=by
    have h1:=pK hok ((ppM R 4 FF.2).take (j+1)) ((ppM R 4 FF.2).drop (j+1))
    rw [List.take_append_drop,eqs] at h1
    omega
   have hqs:∀ q∈(ppM R 4 FF.2).take j,q.2∈PL:=fun q hq=>hall q (List.mem_of_mem_take hq)
   have lqs:((ppM R 4 FF.2).take j).length≤243:=by rw [List.length_take]; omega
   rw [eqs]
   generalize (ppM R 4 FF.2).take j=qs at kes pre hqs lqs
   have lfl:=fg r qs
   rw [gU] at pre
   have cle:cnt r qq.2≤60:=Nat.le_trans (Nat.le_mul_of_pos_left _ (lH hok qs)) pre
   have lxs4:=aO kes
   rw [List.length_map,lfl] at lxs4
   refine ⟨a2,_,rfl,SqT.of ha2,rfl,_,_,rfl,_,_,rfl,rfl,?_⟩
   refine ⟨_,rfl,_,rfl,rv,r,qq.2,rfl,hrm.mono (ah G3),hok,hso,cle,fun nl ns H4 g4 hnl0 hnl kns=>?_⟩
   have lns:=aO kns
   rw [dJ] at lns
   have hl4':=g4 _ _ hl4
   refine ⟨(by show 0≤sizeLine; decide),fun t ht=>?_⟩
   have st:=af ht (.lst [])
   have S5:=g4.trans st
   have htt:(upd H4 t (.lst [])) t=some (.lst []):=ae
   have hl5:=st _ _ hl4'
   have hnl5:=st _ _ hnl
   have nlt:l4≠t:=aq hl4' ht
   have nnt:nl≠t:=aq hnl ht
   have kes5:=kes.mono (ah S5)
   have kns5:=kns.mono (ah st)
   generalize (upd H4 t (.lst []))=H5 at S5 htt hl5 hnl5 kes5 kns5
   refine ⟨_,rfl,l4,rfl,⟨xs4,SqL.of hl5⟩,bK (xs:=xs4) (fun k σ H6=>∃ m8 ws,σ=[some v,some (.str z),some rv,some (.ref l4),some (.ref a3),some (.str qq.2),some (.ref nl),some (.ref t),m8,none,none]∧Ext t H5 H6∧H6 t=some (.lst ws)∧bd H6 ws ((((bc r qs).take k).flatMap fun row=>(dm r qq.2).map fun d=>row++[d]).map .tuple)) ⟨_,[],rfl,Ext.refl _ _,htt,.nil⟩ (fun k σ H6 _ p=>?_) (fun k x σ H6 hx p=>?_) (fun σ H6 p=>?_)⟩
   ·obtain ⟨_,_,_,x6,_⟩:=p
    exact SqL.of (x6 _ _ nlt hl5)
   ·obtain ⟨m8',ws,rfl,x6,hz,khs⟩:=p
    obtain ⟨e,he,ke⟩:=cg kes5 k x hx
    rw [List.getElem?_map] at he
    obtain ⟨l,hlj,rfl⟩:=Option.map_eq_some_iff.mp he
    have lm:=cX hok qs hqs l (List.mem_of_getElem? hlj)
    have k6:=aY x6 htt
    have ke6:=ke.mono k6
    have hk:k<aS r qs:=by
     rw [← lxs4]
     exact (List.getElem?_eq_some_iff.mp hx).1
    have lz0:ws.length=k*cnt r qq.2:=by
     rw [aO khs,List.length_map,iy (n:=cnt r qq.2) (fun x _=>by rw [List.length_map,dJ]),List.length_take,lfl,Nat.min_eq_left (by omega)]
    have szz:k*cnt r qq.2+cnt r qq.2≤aS r qs*cnt r qq.2:=by
     rw [← Nat.succ_mul]
     exact Nat.mul_le_mul_right _ hk
    cases ke6 with
    | @tup xa xl _ hxa kxl =>
     have lxl:=aO kxl
     have lm':=Paired.length lm
     have hnl6:=x6 _ _ nnt hnl5
     have kns6:=kns5.mono k6
     refine ⟨_,rfl,.inl ⟨rfl,_,SqL.of hz⟩,_,rfl,nl,rfl,⟨ns,SqL.of hnl6⟩,bF (xs:=ns) ns.length rfl (by omega) (fun jj acc H8=>av H6 H8∧bd H8 acc ((((dm r qq.2).take jj).map fun d=>l++[d]).map .tuple)) ⟨av.refl _,.nil⟩ (fun jj acc H8 p=>SqL.of (p.1 _ _ hnl6)) (fun jj acc H8 y hjj la hv p=>?_) (fun acc H8 p la D hD'=>?_)⟩
     ·obtain ⟨g8,kks⟩:=p
      obtain ⟨d,hd,kd⟩:=cg kns6 jj y hv
      have hxa8:=g8 _ _ hxa
      have fin:∀ (u:V) (H9:Hp),av H8 H9→KAt H9 u (.tuple (l++[d]))→av H6 H9∧bd H9 (acc++[u]) ((((dm r qq.2).take (jj+1)).map fun d=>l++[d]).map .tuple):=by
       intro u H9 g9 ku
       refine ⟨g8.trans g9,?_⟩
       rw [List.take_add_one,hd,Option.toList_some,List.map_append,List.map_append]
       exact bC (kks.mono (ah g9)) (.cons ku .nil)
      refine ⟨⟨rfl,rfl⟩,bp ?_⟩
      refine ⟨_,rfl,_,rfl,(by show 1≤sizeLine; decide),fun q1 hq1=>?_⟩
      have g9:=af hq1 (.tup [y])
      have ky:=kd.mono (ah (g8.trans g9))
      by_cases cx:xl=[]
      ·subst cx
       have:l=[]:=List.eq_nil_of_length_eq_zero (by rw [← lxl]; rfl)
       subst this
       exact .inr ⟨xa,q1,[y],rfl,rfl,SqT.of (g9 _ _ hxa8),SqT.of ae,nxT (by omega) hjj la (fin (.ref q1) _ g9 (.tup ae (.cons ky .nil)))⟩
      ·refine .inl ⟨xa,q1,xl,[y],rfl,rfl,SqT.of (g9 _ _ hxa8),SqT.of ae,cx,Nat.le_of_lt (aC (by simp; omega)),fun z=>absurd z (by simp),fun _ q3 hq3=>?_⟩
       have g10:=af hq3 (.tup (xl++[y]))
       exact nxT (by omega) hjj la (fin (.ref q3) _ (g9.trans g10) (.tup ae (bC (kxl.mono (ah (g8.trans (g9.trans g10)))) (.cons (ky.mono (ah g10)) .nil))))
     ·obtain ⟨g8,kks⟩:=p
      rw [lns,← dJ,List.take_length] at kks
      have lac:=aO kks
      rw [List.length_map,List.length_map,dJ] at lac
      have gD':=af hD' (.lst acc)
      have g78:=g8.trans gD'
      have htD:=g78 _ _ hz
      have kt:=cj htD (.lst (ws++acc))
      refine ⟨t,D,ws,acc,rfl,rfl,htD,ae,Nat.le_of_lt (aC (by omega)),?_⟩
      refine ⟨_,ws++acc,rfl,(x6.trans (av.ext g78)).trans Ext.upd,ae,?_⟩
      rw [List.take_add_one,hlj,Option.toList_some,List.flatMap_append,List.flatMap_singleton,List.map_append]
      exact bC ((khs.mono (ah g78)).mono kt) ((kks.mono (ah gD')).mono kt)
   ·obtain ⟨m8',ws,rfl,x6,hz,khs⟩:=p
    rw [List.take_of_length_le (by rw [lxs4,lfl]; exact Nat.le_refl _),← cW] at khs
    have S6:av H2 H6:=fun b o e=>x6 _ _ (aq e ((g3.trans g4).free ht)) (S5 _ _ (g3 _ _ e))
    exact ⟨_,rfl,t,ws,_,_,_,_,_,rfl,S6,hz,khs⟩
  ·obtain ⟨l4,xs4,m4,m5,m6,m7,m8,rfl,g3,hl4,kes⟩:=p
   rw [lys,List.take_length] at kes
   exact hNX _ _ ⟨l4,xs4,_,_,_,_,_,rfl,G2.trans g3,hl4,kes⟩
 obtain ⟨l4,xs4,m4,m5,m6,m7,m8,rfl,G2,hl4,kes⟩:=jj
 rw [eflat] at kes
 have lfl:=fg r (ax R FF.2)
 have frow:=cX hok (ax R FF.2) bE
 have ksz:=uu hok (qs:=ax R FF.2) bE
 have lfp:=fJ hl hD
 unfold mE at q
 have fget:∀ i l,(bc r (ax R FF.2))[i]?=some l→(bc r (ax R FF.2)).getD i []=l:=fun i l h=>by rw [List.getD_eq_getElem?_getD,h]; rfl
 generalize bc r (ax R FF.2)=FL at *
 have lxs:=aO kes
 rw [List.length_map,lfl] at lxs
 have lkz:(FL.map ko).length=xs4.length:=by rw [List.length_map,lfl,lxs]
 refine ⟨_,rfl,l4,xs4,FL.map ko,fun i ks H3=>gh H3 tA pI pd∧GoL tA H2 H3∧bd H3 ks ((FL.take i).map ko),rfl,SqL.of hl4,(bQ G2 hlam),yB (by omega) ksz,lkz,fun H3 L3 g3=>⟨L3,g3,.nil⟩,fun i x ks H3 hx jj=>?_,fun ks H3 jj=>?_,fun ks H3 p jj hp0=>?_⟩
 ·obtain ⟨L3,g3,kks⟩:=jj
  obtain ⟨e,he,ke⟩:=cg kes i x hx
  rw [List.getElem?_map] at he
  obtain ⟨l,hli,rfl⟩:=Option.map_eq_some_iff.mp he
  have lm:=frow l (List.mem_of_getElem? hli)
  have lm':=Paired.length lm
  obtain ⟨ps,hps,_⟩:=(bQ G2 hlam)
  have ke3:=ke.mono (gE g3 hps)
  refine ⟨_,rfl,x,l,rfl,ke3,by omega,fun d hd=>?_,fun H4 g4=>?_⟩
  ·obtain ⟨q',_,hpc⟩:=fE lm d hd
   exact ⟨_,hpc⟩
  refine ⟨_,rfl,(by show 2≤sizeLine; decide),fun p2 h2=>?_⟩
  have g5:=g4.trans (af h2 (.tup [.int (l.map szD).sum,x]))
  refine ⟨fun b u e=>g5 b u e,bQ g5 L3,cz g3 (dn g5),?_⟩
  rw [List.take_add_one,hli,Option.toList_some,List.map_append]
  exact bC (kks.mono (ah g5)) (.cons (.tup ae (.cons (.int _) (.cons (ke3.mono (ah g5)) .nil))) .nil)
 ·have j2:=jj.2.2
  rw [List.take_of_length_le (by rw [lfl,lxs]; exact Nat.le_refl _)] at j2
  exact j2
 ·obtain ⟨L3,g3,kks⟩:=jj
  obtain ⟨ps,hps,_⟩:=bQ G2 hlam
  have k3:Tk H H3:=(ah G2).trans (gE g3 hps)
  have perm:=iI (FL.map ko)
  rw [lkz] at perm
  generalize hix:ju (FL.map ko)=ix at perm q ⊢
  have lix:ix.length=xs4.length:=by rw [perm.length_eq,List.length_range]
  have g4:=af hp0 (.lst (ix.map fun i=>xs4.getD i .non))
  have hpp:(upd H3 p (.lst (ix.map fun i=>xs4.getD i .non))) p=_:=ae
  have k4:=k3.trans (ah g4)
  have G4:GoL tA H (upd H3 p (.lst (ix.map fun i=>xs4.getD i .non))):=cz (dn G2) (cz g3 (dn g4))
  have L4:=bQ g4 L3
  have kes4:=(kes.mono (gE g3 hps)).mono (ah g4)
  generalize (upd H3 p (.lst (ix.map fun i=>xs4.getD i .non)))=H4 at hpp k4 G4 L4 kes4
  refine ⟨_,rfl,_,rfl,v,z,R,FS,FF,rfl,hp.mono k4,hF,hl,fun kl H5 g5 hkl0 hkl=>?_⟩
  have hpp5:=g5 _ _ hpp
  refine ⟨_,rfl,p,rfl,⟨_,SqL.of hpp5⟩,bF (xs:=ix.map fun i=>xs4.getD i .non) ix.length (by simp) (by omega) (fun i acc H'=>av H5 H'∧bd H' acc ((ix.take i).map fun i=>oV R FF.2 (FL.getD i []))) ⟨av.refl _,.nil⟩ (fun i acc H' p=>SqL.of (p.1 _ _ hpp5)) (fun i acc H6 x hi la hx pp=>?_) (fun acc H6 pp la D hD'=>?_)⟩
  ·obtain ⟨g6,kks6⟩:=pp
   rw [List.getElem?_map] at hx
   obtain ⟨i0,hi0,e0⟩:=Option.map_eq_some_iff.mp hx
   have lt0:i0<xs4.length:=List.mem_range.mp (perm.subset (List.mem_of_getElem? hi0))
   have hxm:xs4[i0]?=some x:=by
    rw [List.getElem?_eq_getElem lt0,← e0,List.getD_eq_getElem?_getD,List.getElem?_eq_getElem lt0]
    rfl
   obtain ⟨e,he,ke⟩:=cg kes4 i0 x hxm
   rw [List.getElem?_map] at he
   obtain ⟨l,hl0,rfl⟩:=Option.map_eq_some_iff.mp he
   have lm:=frow l (List.mem_of_getElem? hl0)
   have lm':=Paired.length lm
   have g56:=g5.trans g6
   refine ⟨⟨rfl,rfl⟩,bp ?_⟩
   refine ⟨_,rfl,_,rfl,_,rfl,v,kl,FF.2.map (·.2),x,R,l,rfl,(hp.mono (k4.trans (ah g56))).prog,by decide,?_,by rw [List.length_map]; exact hl,fun k hk=>?_,ke.mono (ah g56),?_,fun y H7 g7 ky=>nxT (by omega) hi la ⟨g6.trans g7,?_⟩⟩
   ·rw [g6 _ _ hkl,List.map_map]
    rfl
   ·obtain ⟨p',hp',rfl⟩:=List.mem_map.mp hk
    exact hD p' hp'
   ·rw [lm',fP]
   ·rw [List.take_add_one,hi0,Option.toList_some,List.map_append]
    refine bC (kks6.mono (ah g7)) (.cons ?_ .nil)
    show KAt _ _ (oV R FF.2 (FL.getD i0 []))
    rw [fget i0 l hl0]
    exact ky
  ·obtain ⟨g6,kks6⟩:=pp
   rw [List.take_length] at kks6
   have gD6:=af hD' (.lst acc)
   have G6:=g5.trans (g6.trans gD6)
   refine q D acc _ (cz G4 (dn G6)) (bQ G6 L4) ?_ ae (kks6.mono (ah gD6))
   cases e9:H D with
   | none=>rfl
   | some o =>
    by_cases nt:D=tA
    ·obtain ⟨ps4,hps4,_⟩:=L4
     rw [nt] at hD'
     rw [(g5.trans g6) _ _ hps4] at hD'
     cases hD'
    ·have:=(g5.trans g6) _ _ (G4 _ _ nt e9)
     rw [this] at hD'
     cases hD'
end
open PySem L2
mutual
theorem vi {K:Frag} {H:Hp}:∀ {v:V} {d:PyData},KAt H v d→DT K H v d
 | _,_,.int i=>.int i
 | _,_,.str x=>.str x
 | _,_,.tup h r=>.tup (.inl h) (oF r)
theorem oF {K:Frag} {H:Hp}:∀ {v:List V} {d:List PyData},bd H v d→DTs K H v d
 | _,_,.nil=>.nil
 | _,_,.cons h r=>.cons (vi h) (oF r)
end
mutual
theorem zV {K:Frag} {H:Hp}:∀ {v:V} {d:PyData},DT K H v d→KAt H v d
 | _,_,.int i=>.int i
 | _,_,.str x=>.str x
 | _,_,.tup h r=>.tup h.hp (lX r)
theorem lX {K:Frag} {H:Hp}:∀ {v:List V} {d:List PyData},DTs K H v d→bd H v d
 | _,_,.nil=>.nil
 | _,_,.cons h r=>.cons (zV h) (lX r)
end
theorem jJ (len:Str→Nat) (u:Str→List PyData→PyData):∀ (ks:List Str) (ds:List PyData) (i:Nat) (k:Str),ks[i]?=some k→(bD len u ks ds)[i]?=some (u k ((ds.drop (((ks.map len).take i).sum)).take (len k)))
 | [],_,_,_,h=>by simp at h
 | x::ks,ds,0,k,h=>by
  simp at h
  subst h
  simp [bD]
 | x::ks,ds,i+1,k,h=>by
  have h':ks[i]?=some k:=by simpa using h
  show (bD len u ks (ds.drop (len x)))[i]?=_
  rw [jJ len u ks _ i k h',List.drop_drop,List.map_cons,List.take_succ_cons,List.sum_cons]
theorem iL {α β γ:Type} {F:α→β→Prop} {g:γ→α}:∀ {l:List γ} {m:List β},Paired F (l.map g) m→Paired (fun c b=>F (g c) b) l m
 | [],_,.nil=>.nil
 | _::_,_,.cons q t=>.cons q (iL t)
theorem gR {R:List Rec} {n:Nat} (ih:∀ (k:Str) (ds:List PyData),bW R n k→ds.length=(am R n k).length→dY R n k (bA R n k ds)=ds∧Val R n k (bA R n k ds)):∀ (ks:List Str) (ds:List PyData),(∀ k∈ks,bW R n k)→ds.length=(ks.map fun k=>(am R n k).length).sum →
  nB (dY R n) ks (bD (fun k=>(am R n k).length) (bA R n) ks ds)=ds∧Paired (fun k e=>Val R n k e) ks (bD (fun k=>(am R n k).length) (bA R n) ks ds)
 | [],ds,_,hl=>by
  have:ds=[]:=List.eq_nil_of_length_eq_zero hl
  subst this
  exact ⟨rfl,.nil⟩
 | k::ks,ds,hd,hl=>by
  rw [List.map_cons,List.sum_cons] at hl
  have h1:=ih k (ds.take (am R n k).length) (hd k List.mem_cons_self) (by rw [List.length_take]; omega)
  have h2:=gR ih ks (ds.drop (am R n k).length) (fun k' hk=>hd k' (List.mem_cons_of_mem _ hk)) (by rw [List.length_drop]; omega)
  rw [bD,lJ,h1.1,h2.1,List.take_append_drop]
  exact ⟨rfl,.cons h1.2 h2.2⟩
theorem mQ {R:List Rec}:∀ (n:Nat) (k:Str) (ds:List PyData),bW R n k→ds.length=(am R n k).length→dY R n k (bA R n k ds)=ds∧Val R n k (bA R n k ds)
 | 0,_,_,h,_=>h.elim
 | n+1,k,ds,hd,hl=>by
  by_cases ck:k∈PL
  ·have l1:ds.length=1:=by
    rw [hl]
    unfold am
    rw [if_pos ck]
    rfl
   match ds,l1 with
   | [d],_ =>
    rw [kN ck]
    refine ⟨?_,.inl ck⟩
    unfold bA
    rw [if_pos ck]
    rfl
  ·rcases hd with z | ⟨_,_,⟨_,_⟩,hd⟩
   ·exact absurd z ck
   have etot:am R (n+1) k=(look R k).flatMap fun p=>(am R n p.2).map fun q=>(p.1::q.1,q.2):=by
    conv=>lhs; unfold am
    rw [if_neg ck]
    rfl
   rw [etot,jB] at hl
   have eu:bA R (n+1) k ds=.tuple (bD (fun k=>(am R n k).length) (bA R n) ((look R k).map (·.2)) ds):=by
    conv=>lhs; unfold bA
    rw [if_neg ck]
   have h:=gR (mQ n) ((look R k).map (·.2)) ds (fun k' hk'=>by obtain ⟨p,hp',rfl⟩:=List.mem_map.mp hk'; exact hd p hp') hl
   rw [eu,jE ck]
   exact ⟨h.1,.inr ⟨ck,_,rfl,iL h.2⟩⟩
section
variable {P:Program} {w:World} {K:Frag} {mg:Str→Option Value} {base:Heap} {f g:Addr} {fd gd:FuncData}
abbrev tM:List Str:=["program", "f", "values"]
theorem rB:aF tM ["program", "f", "values"] (defScope ji):=⟨rfl,rfl,rfl,by decide +kernel,rfl,by decide +kernel,by decide +kernel⟩
def BO:Sp:=fun vs H Q _=>∃ v z u R FS F l,vs=[v,.str z,u]∧hW H v R FS∧gI FS z=some F∧F.2.length≤3∧(∀ p∈F.2,bW R 4 p.2)∧KAt H u (oV R F.2 l)∧l.length=(ax R F.2).length∧(∀ d∈l,∃ sort,PcD sort d)∧∀ H',av H H'→Q (.int (l.map szD).sum) H'
theorem AY (F:Fun K "size_of" "size_of" ji f fd) (D_laid_size:Cal P w K mg base 3 "laid_size" ["laid"] zC) (D_flat_all:Cal P w K mg base 10 "flat_all" ["program", "kinds", "values"] (jF K 4)) (D_param_kinds:Cal P w K mg base 2 "param_kinds" ["program", "f"] Aa):bg P w K mg base CX0 12 f fd ["program", "f", "values"] BO:=by
 obtain ⟨g_laid_size,gd_laid_size,G_laid_size,b_laid_size,k_laid_size,m_laid_size⟩:=D_laid_size.ex
 obtain ⟨g_flat_all,gd_flat_all,G_flat_all,b_flat_all,k_flat_all,m_flat_all⟩:=D_flat_all.ex
 obtain ⟨g_param_kinds,gd_param_kinds,G_param_kinds,b_param_kinds,k_param_kinds,m_param_kinds⟩:=D_param_kinds.ex
 refine F.ok rB (fun vs H Q E h=>?_) (fun cdv A outer s H vs Q E hr h=>?_)
 ·obtain ⟨v,z,u,R,FS,F,l,rfl,_⟩:=h
  rfl
 obtain ⟨v,z,u,R,FS,FF,l,rfl,hp,hF,hl,hD,hu,hll,hpc,q⟩:=h
 have lfp:=fJ hl hD
 rw [fP] at hll
 have fu:=gR (mQ (R:=R) 4) (FF.2.map (·.2)) l (fun k' hk'=>by obtain ⟨p,hp',rfl⟩:=List.mem_map.mp hk'; exact hD p hp') hll
 refine ⟨_,(@ap _ _ _ (@aD _ _ _ _ (@ar _ _ _ _ _ _ _ _ _ _ _ _ _ _ _ _ G_laid_size (hr.mono (by omega)) rfl m_laid_size k_laid_size b_laid_size .nil aE (@ad _ _ _ _ _ (@ar _ _ _ _ _ _ _ _ _ _ _ _ _ _ _ _ G_flat_all (hr.mono (by omega)) rfl m_flat_all k_flat_all b_flat_all .nil aE (@ad _ _ _ _ _ (pv 0) (@ad _ _ _ _ _ (@ar _ _ _ _ _ _ _ _ _ _ _ _ _ _ _ _ G_param_kinds (hr.mono (by omega)) rfl m_param_kinds k_param_kinds b_param_kinds .nil aE (@ad _ _ _ _ _ (pv 0) (@ad _ _ _ _ _ (pv 1) ag (ac rfl)) (ac rfl)) (by decide) (ac rfl) (aj rfl)) (@ad _ _ _ _ _ (pv 2) ag (ac rfl)) (ac rfl)) (ac rfl)) (by decide) (ac rfl) (aj rfl)) ag (ac rfl)) (by decide) (ac rfl) (aj rfl)))),?_⟩
 refine ⟨_,rfl,_,rfl,_,rfl,v,z,R,FS,FF,rfl,hp,hF,hl,fun r H1 g1 hr0 hr1=>?_⟩
 refine ⟨_,rfl,v,r,FF.2.map (·.2),u,_,R,rfl,(hp.mono (ah g1)).prog,by decide,by rw [hr1,List.map_map]; rfl,by rw [List.length_map]; exact hl,fun k' hk'=>?_,vi (hu.mono (ah g1)),fu.2,fun t xs H2 g2 ht dt=>?_⟩
 ·obtain ⟨p,hp',rfl⟩:=List.mem_map.mp hk'
  exact hD p hp'
 ·rw [fu.1] at dt
  refine ⟨.ref t,l,rfl,.tup ht (lX dt),?_,hpc,fun H3 g3=>q H3 ((g1.trans g2).trans g3)⟩
  rw [hll,← fP]
  exact lfp
abbrev jQ:List Str:=["_law_records", "_law_kind", "_law_value", "_law_fields"]
abbrev gF:List Str:=["_law_k", "_law_records", "_law_value", "_law_fields"]
theorem kr:gF.Nodup:=by decide +kernel
theorem iH:aF jQ ["_law_records", "_law_kind", "_law_value"] (defScope du):=⟨rfl,rfl,rfl,by decide +kernel,rfl,by decide +kernel,by decide +kernel⟩
abbrev pSb:List Str:=["_law_records", "_law_kind", "_law_value"]
def ub (n:Nat):Sp:=fun vs H Q _=>∃ v k u R ds,vs=[v,.str k,u]∧fm H v R∧(R.map (·.1)).Nodup∧R.length≤1000∧bW R n k∧KAt H u (bA R n k ds)∧ds.length=(am R n k).length∧(∀ d∈ds,∃ sort,PcD sort d)∧∀ H',av H H'→Q (.int (ds.map szD).sum) H'
theorem AQ {n:Nat} (T:G0 mg) (TX:GX mg) (F:Fun K "_law_size_by" "_law_size_by" du f fd) (D_l_size_by:Cal P w K mg base (n+2) "_law_size_by" pSb (ub n)) (D_l_size:Cal P w K mg base 1 "_law_size" ["_law_value"] nQ):bg P w K mg base CX0 (n+3) f fd pSb (ub (n+1)):=by
 obtain ⟨g_l_size_by,gd_l_size_by,G_l_size_by,b_l_size_by,k_l_size_by,m_l_size_by⟩:=D_l_size_by.ex
 obtain ⟨g_l_size,gd_l_size,G_l_size,b_l_size,k_l_size,m_l_size⟩:=D_l_size.ex
 refine F.ok iH (fun vs H Q E h=>?_) (fun cdv A outer s H vs Q E hr h=>?_)
 ·obtain ⟨v,k,u,R,ds,rfl,_⟩:=h
  rfl
 obtain ⟨v,k,u,R,ds,rfl,hRc,hnd,hlR,hd,hu,hln,hpc,q⟩:=h
 refine ⟨_,(@al _ _ _ _ _ (@bU _ _ _ _ _ _ _ _ (@aQ _ _ _ _ _ _ _ _ dP (pv 1) (@aR _ _ _ _ (@ad _ _ _ _ _ aN (@ad _ _ _ _ _ aN (@ad _ _ _ _ _ aN ag (ac rfl)) (ac rfl)) (ac rfl))) rfl) (@ap _ _ _ (@aD _ _ _ _ (@ar _ _ _ _ _ _ _ _ _ _ _ _ _ _ _ _ G_l_size (hr.mono (by omega)) rfl m_l_size k_l_size b_l_size .nil aE (@ad _ _ _ _ _ (pv 2) ag (ac rfl)) (by decide) (ac rfl) (aj rfl)))) bh) (@al _ _ _ _ _ (@aB _ _ 3 _ _ _ _ iH.nd rfl (Or.inr rfl) (@ay _ _ _ _ _ _ _ nS (@aX _ _ _ _ _ _ _ _ _ (iu rfl) rfl T.dict rh (@ad _ _ _ _ _ (pv 0) ag (ac rfl)) (by decide) (by decide) (ac rfl) (aj rfl)) (pv 1) (fun _ _=>rfl)) (ao rfl) (.inl rfl)) (@ap _ _ _ (@aD _ _ _ _ (@aA _ _ _ _ _ _ _ _ _ (dU rfl) rfl TX.sum kZ (@ad _ _ _ _ _ (be (N':=gF) (ρ:=[none,some 0,some 2,some 3]) (m:=1) (bt.of (fs:=defScope du) (N:=jQ) rfl rfl (by decide +kernel)) rfl (cD rfl T.range (ad (aA aU rfl T.len eC (ad (pv 3) ag)) ag)) (fun _ _ _ _=>(au (i:=0) kr rfl (Or.inl rfl))) (fun _ _ _ _=>bq) (fun _ _ _ _=>(ar G_l_size_by (hr.mono (by omega)) rfl m_l_size_by k_l_size_by b_l_size_by .nil aE (ad (pv 1) (ad (ay (cK (K:=K) rfl) (ay (cK (K:=K) rfl) (pv 3) (pv 0) (fun _ _=>rfl)) ak (fun _ _=>rfl)) (ad (ay (cK (K:=K) rfl) (pv 2) (pv 0) (fun _ _=>rfl)) ag)))))) ag (ac rfl)) (by decide) (by decide) (ac rfl) (aj rfl)))))),?_⟩
 refine ⟨_,rfl,(by show 3≤sizeLine; decide),fun l3 h3=>?_⟩
 have g1:=af h3 (.lst L3)
 refine ⟨l3,L3,rfl,.inl (SqL.of ae),rfl,(by decide +kernel),_,rfl,?_⟩
 refine bO (fun c=>?_) (fun c=>?_)
 ·have ck:k∈PL:=(pl3 k).mp (of_decide_eq_true ((cB k PL3).symm.trans c))
  have l1:ds.length=1:=by
   rw [hln]
   unfold am
   rw [if_pos ck]
   rfl
  match ds,l1 with
  | [d],_ =>
   obtain ⟨sort,hpd⟩:=hpc d List.mem_cons_self
   have eu:bA R (n+1) k [d]=d:=by
    unfold bA
    rw [if_pos ck]
    rfl
   rw [eu] at hu
   refine ⟨_,rfl,u,d,sort,rfl,hu.mono (ah g1),hpd,fun H2 g2=>?_⟩
   have:=q H2 (g1.trans g2)
   simpa using this
 have ck:k∉PL:=fun z=>c ((cB k PL3).trans (decide_eq_true ((pl3 k).mpr z)))
 have hdk:=hd
 rcases hd with z | ⟨_,_,⟨_,hl⟩,hd⟩
 ·exact absurd z ck
 generalize (upd H l3 (.lst [V.str (Str.ofString "num"),V.str (Str.ofString "row"),V.str (Str.ofString "text")]))=H1 at g1
 obtain ⟨b0,xs0,ps,fv,rfl,hb0,hl0,hnd0,pp1,efind,hfl⟩:=nZ (K:=K) (hRc.mono (ah g1)) hnd hlR (hdk.ne ck)
 refine ⟨_,rfl,b0,xs0,ps,rfl,hb0,hl0,hnd0,pp1,fun dl hdl=>?_⟩
 have g2:=af hdl (.dK (ps.map fun p=>(Sum.inr p.1,p.2)))
 obtain ⟨b,fs,rfl,hb,rf⟩:=hfl.mono (ah g2)
 have lf:=Paired.length rf
 refine ⟨_,rfl,dl,_,k,_,rfl,rfl,ae,efind,?_⟩
 have G2:=g1.trans g2
 generalize (upd H1 dl (.dK (ps.map fun p=>(Sum.inr p.1,p.2))))=H2 at G2 hb rf
 have etot:am R (n+1) k=(look R k).flatMap fun p=>(am R n p.2).map fun q=>(p.1::q.1,q.2):=by
  conv=>lhs; unfold am
  rw [if_neg ck]
  rfl
 have eu:bA R (n+1) k ds=.tuple (bD (fun k=>(am R n k).length) (bA R n) ((look R k).map (·.2)) ds):=by
  conv=>lhs; unfold bA
  rw [if_neg ck]
 rw [eu] at hu
 rw [etot,jB] at hln
 have hu2:=hu.mono (ah G2)
 cases hu2 with
 | @tup ua ul _ hua kul =>
  have lul:=aO kul
  rw [db,List.length_map] at lul
  refine ⟨_,rfl,b,_,rfl,.inr (SqT.of hb),_,rfl,by omega,by omega,fV (lo:=0) fs.length (by omega) (fun i acc H'=>av H2 H'∧∃ ns:List Int,acc=ns.map V.int∧ns.sum=((ds.take (((look R k).take i).map fun p=>(am R n p.2).length).sum).map szD).sum) ⟨av.refl _,[],rfl,rfl⟩ (fun i acc H3 hi la p=>?_) (fun acc H3 p la D hD=>?_)⟩
  ·obtain ⟨g3,ns,rfl,hsum⟩:=p
   obtain ⟨x,hx⟩:∃ x,fs[i]?=some x:=⟨_,List.getElem?_eq_getElem hi⟩
   obtain ⟨fl,hfl',ta,rfl,hta⟩:=aH rf i x hx
   have hkk:((look R k).map (·.2))[i]?=some fl.2:=by rw [List.getElem?_map,hfl']; rfl
   have hget:=jJ (fun k=>(am R n k).length) (bA R n) ((look R k).map (·.2)) ds i fl.2 hkk
   obtain ⟨w9,hw9⟩:∃ w9,ul[i]?=some w9:=⟨_,List.getElem?_eq_getElem (by omega)⟩
   obtain ⟨e9,he9,kw9⟩:=cg kul i w9 hw9
   rw [hget] at he9
   cases he9
   obtain ⟨c1,c2⟩:=pj (l:=((look R k).map (·.2)).map fun k=>(am R n k).length) (i:=i) (x:=(am R n fl.2).length) (by rw [List.getElem?_map,hkk]; rfl)
   rw [← List.map_take,← List.map_take,← List.map_take,← List.map_take] at c1
   rw [← List.map_take,← List.map_take] at c2
   have ecs:∀ j,((((look R k).take j).map (·.2)).map fun k=>(am R n k).length).sum=(((look R k).take j).map fun p=>(am R n p.2).length).sum:=fun j=>by rw [List.map_map]; rfl
   rw [ecs,ecs] at c1
   rw [ecs] at c2
   rw [← List.map_take,← List.map_take,ecs] at kw9
   generalize (((look R k).take i).map fun p=>(am R n p.2).length).sum=ci at c1 c2 kw9 hsum
   have G3:=G2.trans g3
   refine ⟨⟨rfl,rfl⟩,bp ?_⟩
   refine ⟨_,rfl,_,rfl,_,rfl,b,_,_,_,rfl,rfl,SqT.of (g3 _ _ hb),by rw [Int.zero_add]; exact jr hx,ta,_,_,_,rfl,rfl,SqT.of (g3 _ _ hta),rfl,?_⟩
   refine ⟨_,rfl,_,rfl,ua,_,_,_,rfl,rfl,SqT.of (g3 _ _ hua),by rw [Int.zero_add]; exact jr hw9,?_⟩
   refine ⟨_,fl.2,w9,R,(ds.drop ci).take (am R n fl.2).length,rfl,hRc.mono (ah G3),hnd,hlR,hd fl (List.mem_of_getElem? hfl'),kw9.mono (ah g3),?_,fun d hd'=>hpc d (List.mem_of_mem_drop (List.mem_of_mem_take hd')),fun H4 g4=>nxT (by omega) hi la ⟨g3.trans g4,ns++[(((ds.drop ci).take (am R n fl.2).length).map szD).sum],by rw [List.map_append]; rfl,?_⟩⟩
   ·rw [List.length_take,List.length_drop]
    omega
   ·rw [c1,List.take_add,List.map_append,List.sum_append,List.sum_append,hsum]
    simp
  ·obtain ⟨g3,ns,rfl,hsum⟩:=p
   rw [lf,List.take_length,show ((look R k).map fun p=>(am R n p.2).length).sum=ds.length by rw [hln,List.map_map]; rfl,List.take_length] at hsum
   refine ⟨D,ns,rfl,SqL.of ae,?_⟩
   rw [hsum]
   exact q _ ((G2.trans g3).trans (af hD _))
theorem AR:bg P w K mg base CX0 2 f fd pSb (ub 0):=by
 have no:∀ vs H Q E,¬ ub 0 vs H Q E:=fun vs H Q E h=>by
  obtain ⟨v,k,u,R,ds,_,_,_,_,h1,_⟩:=h
  exact h1
 exact ⟨fun vs H Q E h=>absurd h (no vs H Q E),fun A outer s H args us vs Q E _ _ _ _ h=>absurd h (no vs H Q E)⟩
theorem wb (T:G0 mg) (TX:GX mg) (F:Fun K "_law_size_by" "_law_size_by" du f fd) (b:dA K fd pSb []) (m:mg "_law_size_by"=some (.ref f)) (D_l_size:Cal P w K mg base 1 "_law_size" ["_law_value"] nQ):∀ n:Nat,bg P w K mg base CX0 (n+2) f fd pSb (ub n)
 | 0=>AR
 | n+1=>AQ T TX F ⟨f,fd,wb T TX F b m D_l_size n,b,F.kp,m⟩ D_l_size
end
open PySem L2
theorem tD {n k:Nat} (hk:0<k) (h:n<10 ^ k):(Nat.toDigits 10 n).length≤k:=(Nat.length_toDigits_le_iff (by decide) hk).mpr h
theorem og (s:String):(Str.ofString s).length=s.toList.length:=by
 rw [Str.ofString_eq_toList]
 show (s.toList.map Char.toNat).toArray.size=_
 simp
theorem yk {i:Int} {k:Nat} (hk:0<k) (h:i.natAbs<10 ^ k):W (.int i)≤k+1:=by
 show (Str.ofString (toString i)).length≤k+1
 rw [og]
 cases i with
 | ofNat n =>
  have e:toString (Int.ofNat n)=Nat.repr n:=rfl
  rw [e,Nat.repr_eq_ofList_toDigits]
  have:=tD (n:=n) hk h
  simp
  omega
 | negSucc n =>
  have e:toString (Int.negSucc n) = "-"++Nat.repr (n+1):=rfl
  rw [e,Nat.repr_eq_ofList_toDigits]
  have:=tD (n:=n+1) hk h
  simp
  omega
theorem uQ {i:Int} (h:i.natAbs<2 ^ 1900):(PyData.int i).showable=true:=by
 show decide (i.natAbs.log2<1920)=true
 rw [decide_eq_true_eq]
 by_cases c:i.natAbs=0
 ·rw [c]; decide
 ·have:=(Nat.log2_lt c).mpr h
  omega
def BIG:Nat:=866496 ^ 81
theorem Av:BIG<10 ^ 500:=by decide +kernel
theorem AE:BIG<2 ^ 1900:=by decide +kernel
theorem kY {i:Int} (h:i.natAbs≤BIG):cT 0 501 (.int i):=⟨uQ (Nat.lt_of_le_of_lt h AE),rfl,by simp [PyData.depth],yk (by decide) (Nat.lt_of_le_of_lt h Av)⟩
theorem xB:1000000≤BIG:=by decide +kernel
theorem qT {i:Int} (h:i.natAbs≤1000000):cT 0 501 (.int i):=kY (Nat.le_trans h xB)
theorem ui {i:Int} (h:i.natAbs≤9):cT 0 2 (.int i):=⟨uQ (Nat.lt_of_le_of_lt h (by decide +kernel)),rfl,by simp [PyData.depth],yk (k:=1) (by decide) (by omega)⟩
theorem gj {m b:Nat}:∀ {l:List PyData},(∀ d∈l,cT m b d)→eB m ((b+2)*l.length) l
 | [],_=>eB.nil.mono (Nat.zero_le _) (Nat.zero_le _)
 | d::l,h=>by
  have q:=gj (l:=l) fun e he=>h e (List.mem_cons_of_mem _ he)
  have e:(b+2)*(d::l).length=b+2+(b+2)*l.length:=by rw [List.length_cons,Nat.mul_succ]; omega
  rw [e]
  exact eB.cons (h d List.mem_cons_self) q
theorem vv {z:Str} (hl:z.length≤3) (ht:su (.str z)=true):cT 0 40 (.str z):=by
 refine ⟨rfl,rfl,by simp [PyData.depth],?_⟩
 show (PyData.shown (.str z)).length≤40
 have h1:=PySem.StrLaws.reprText_len z (fun c hc=>by
  have h2:=List.all_eq_true.mp (show (z.cps.toList.all fun c=>cR (c:Nat))=true from ht) c hc
  have h3:=(mN _).mp h2
  have:c≤126:=by omega
  exact Nat.lt_of_le_of_lt this (by decide))
 have e:PyData.shown (.str z)=reprText z:=by simp only [PyData.shown]
 rw [e]
 omega
theorem uA {r:Rm} (h:cp r) {sort:Str} (hs:sort∈PL):∀ e∈dm r sort,cT 1 40 e:=by
 intro e he
 have o1:=h.a
 have o2:=h.ab
 have o3:=h.b
 have oc:=h.c
 have hint:∀ i:Int,i∈L2.intsFrom r.a (r.b+1 - r.a).toNat→cT 0 2 (.int i):=fun i hi=>ui (by have:=eT hi; omega)
 have hp:=rg h hs e he
 unfold dm at he
 by_cases h1:sort=Str.ofString "num"
 ·rw [if_pos h1] at he
  obtain ⟨i,hi,rfl⟩:=List.mem_map.mp he
  exact (hint i hi).mono (by decide) (by decide)
 rw [if_neg h1] at he
 by_cases h2:sort=Str.ofString "row"
 ·rw [if_pos h2] at he
  obtain ⟨l,hl,rfl⟩:=List.mem_map.mp he
  obtain ⟨l1,lm⟩:=eV _ hl
  rw [eX (by rw [h2]; decide +kernel)] at lm
  have hn:∀ d∈l,cT 0 2 d:=fun d hd=>by
   obtain ⟨i,hi,rfl⟩:=List.mem_map.mp (lm d hd)
   exact hint i hi
  have ln:l.length≤3:=by omega
  exact (gj hn).tup.mono (by decide) (by have:(2+2)*l.length≤4*3:=Nat.mul_le_mul_left _ ln; omega)
 ·rcases hp with ⟨e1,_⟩ | ⟨_,z,hz,rfl,ht⟩ | ⟨e1,_⟩
  ·exact absurd e1 h1
  ·exact (vv hz ht).mono (by decide) (by decide)
  ·exact absurd e1 h2
theorem rP {r:Rm} (h:cp r) (qs:List bH) (hq:∀ q∈qs,q.2∈PL):∀ l∈bc r qs,∀ d∈l,cT 1 40 d:=by
 revert hq
 refine iR (M:=fun qs=>(∀ q∈qs,q.2∈PL)→∀ l∈bc r qs,∀ d∈l,cT 1 40 d) (fun _ l hl d hd=>?_) (fun qs q ih hq l hl d hd=>?_) qs
 ·rw [List.mem_singleton.mp hl] at hd
  exact nomatch hd
 ·rw [cW] at hl
  obtain ⟨m,hm,hl⟩:=List.mem_flatMap.mp hl
  obtain ⟨e,he,rfl⟩:=List.mem_map.mp hl
  rcases List.mem_append.mp hd with hd | hd
  ·exact ih (fun q hq'=>hq q (List.mem_append_left _ hq')) m hm d hd
  ·rw [List.mem_singleton.mp hd]
   exact uA h (hq q (List.mem_append_right _ List.mem_cons_self)) e he
theorem ir {R:List Rec} {n m b:Nat} (ih:∀ (k:Str) (ds:List PyData),bW R n k→ds.length=(am R n k).length→(∀ d∈ds,cT 1 40 d)→cT m b (bA R n k ds)):∀ (ks:List Str) (ds:List PyData),(∀ k∈ks,bW R n k)→ds.length=(ks.map fun k=>(am R n k).length).sum→(∀ d∈ds,cT 1 40 d) →
  ∀ e∈bD (fun k=>(am R n k).length) (bA R n) ks ds,cT m b e
 | [],_,_,_,_,e,he=>nomatch he
 | k::ks,ds,hd,hl,hn,e,he=>by
  rw [List.map_cons,List.sum_cons] at hl
  rcases List.mem_cons.mp he with rfl | he
  ·exact ih k (ds.take (am R n k).length) (hd k List.mem_cons_self) (by rw [List.length_take]; omega) fun d hd'=>hn d (List.mem_of_mem_take hd')
  ·exact ir ih ks (ds.drop (am R n k).length) (fun k' hk=>hd k' (List.mem_cons_of_mem _ hk)) (by rw [List.length_drop]; omega) (fun d hd'=>hn d (List.mem_of_mem_drop hd')) e he
theorem nL {R:List Rec}:∀ (n:Nat) (k:Str) (ds:List PyData),bW R n k→ds.length=(am R n k).length→(∀ d∈ds,cT 1 40 d)→cT (n+1) (50*4 ^ n) (bA R n k ds)
 | 0,_,_,h,_,_=>h.elim
 | n+1,k,ds,hd,hl,hn=>by
  have hp:1≤4 ^ n:=Nat.pow_pos (by decide)
  have hp':4 ^ (n+1)=4*4 ^ n:=by rw [Nat.pow_succ,Nat.mul_comm]
  by_cases ck:k∈PL
  ·have l1:ds.length=1:=by
    rw [hl]
    unfold am
    rw [if_pos ck]
    rfl
   match ds,l1,hn with
   | [d],_,hn =>
    unfold bA
    rw [if_pos ck]
    exact (hn d List.mem_cons_self).mono (by omega) (by rw [hp']; omega)
  ·rcases hd with z | ⟨_,_,⟨_,h3⟩,hd⟩
   ·exact absurd z ck
   have etot:am R (n+1) k=(look R k).flatMap fun p=>(am R n p.2).map fun q=>(p.1::q.1,q.2):=by
    conv=>lhs; unfold am
    rw [if_neg ck]
    rfl
   rw [etot,jB] at hl
   have eu:bA R (n+1) k ds=.tuple (bD (fun k=>(am R n k).length) (bA R n) ((look R k).map (·.2)) ds):=by
    conv=>lhs; unfold bA
    rw [if_neg ck]
   have h:=ir (nL n) ((look R k).map (·.2)) ds (fun k' hk'=>by obtain ⟨p,hp',rfl⟩:=List.mem_map.mp hk'; exact hd p hp') hl hn
   rw [eu]
   have q:=(gj h).tup
   rw [db,List.length_map] at q
   refine q.mono (by omega) ?_
   have:(50*4 ^ n+2)*(look R k).length≤(50*4 ^ n+2)*3:=Nat.mul_le_mul_left _ h3
   rw [hp']
   omega
theorem wq {R:List Rec} {l:List Fld} {ds:List PyData} (hl:l.length≤3) (hD:∀ p∈l,bW R 4 p.2) (hd:ds.length=(ax R l).length) (hn:∀ d∈ds,cT 1 40 d):cT 6 40000 (oV R l ds):=by
 rw [fP] at hd
 have h:=ir (nL 4) (l.map (·.2)) ds (fun k' hk'=>by obtain ⟨p,hp',rfl⟩:=List.mem_map.mp hk'; exact hD p hp') hd hn
 have q:=(gj h).tup
 rw [db,List.length_map] at q
 refine q.mono (by decide) ?_
 have:(50*4 ^ 4+2)*l.length≤(50*4 ^ 4+2)*3:=Nat.mul_le_mul_left _ hl
 omega
theorem tm {R:List Rec} {l:List Fld} {r:Rm} {e:PyData} (h:e∈mE R l r):∃ ds∈bc r (ax R l),e=oV R l ds:=by
 unfold mE at h
 obtain ⟨i,hi,rfl⟩:=List.mem_map.mp h
 have lt:=List.mem_range.mp ((iI _).subset hi)
 rw [List.length_map] at lt
 refine ⟨(bc r (ax R l)).getD i [],?_,rfl⟩
 rw [List.getD_eq_getElem?_getD,List.getElem?_eq_getElem lt]
 exact List.getElem_mem lt
theorem sg (R:List Rec) (l:List Fld) (r:Rm):(mE R l r).length=aS r (ax R l):=by
 unfold mE
 rw [List.length_map,(iI _).length_eq,List.length_range,List.length_map,fg]
theorem vD {R:List Rec} {l:List Fld} {r:Rm} (h:cp r) (hl:l.length≤3) (hD:∀ p∈l,bW R 4 p.2) (hm:aS r (ax R l)≤60):cT 7 2500000 (.list (mE R l r)):=by
 have q:=(gj (l:=mE R l r) (m:=6) (b:=40000) fun e he=>by
  obtain ⟨ds,hds,rfl⟩:=tm he
  exact wq hl hD (Paired.length (cX h _ bE ds hds)) (rP h _ bE ds hds)).lst
 refine q.mono (by decide) ?_
 rw [sg]
 have:(40000+2)*aS r (ax R l)≤(40000+2)*60:=Nat.mul_le_mul_left _ hm
 omega
theorem pL {R:List Rec}:∀ (n:Nat) {k:Str},bW R n k→am R (n+1) k=am R n k
 | 0,_,h=>h.elim
 | n+1,k,h=>by
  by_cases ck:k∈PL
  ·unfold am
   rw [if_pos ck,if_pos ck]
  ·rcases h with z | ⟨_,_,_,hd⟩
   ·exact absurd z ck
   have e:∀ m,am R (m+1) k=lP R (am R m) k:=fun m=>by
    conv=>lhs; unfold am
    rw [if_neg ck]
   rw [e,e]
   unfold lP
   have e2:∀ l:List Fld,(∀ p∈l,bW R n p.2)→(l.flatMap fun p=>(am R (n+1) p.2).map fun q=>(p.1::q.1,q.2))=l.flatMap fun p=>(am R n p.2).map fun q=>(p.1::q.1,q.2):=by
    intro l hl
    induction l with
    | nil=>rfl
    | cons p l ih=>rw [List.flatMap_cons,List.flatMap_cons,ih fun p' hp'=>hl p' (List.mem_cons_of_mem _ hp'),pL n (hl p List.mem_cons_self)]
   exact e2 _ hd
theorem tz {B:Nat} (hB:1≤B):∀ {l:List Nat},(∀ n∈l,n≤B)→gm l≤B ^ l.length
 | [],_=>Nat.le_refl _
 | a::l,h=>by
  rw [gm,List.length_cons,Nat.pow_succ,Nat.mul_comm]
  exact Nat.mul_le_mul (tz hB fun n hn=>h n (List.mem_cons_of_mem _ hn)) (h a List.mem_cons_self)
theorem pO {R:List Rec} {l:List Fld} {r:Rm} (h:cp r) (hl:l.length≤3) (hD:∀ p∈l,bW R 3 p.2):aS r (ax R l)≤BIG:=by
 have h1:(ax R l).length≤l.length*27:=bX fun p hp=>by
  rw [pL 3 (hD p hp)]
  exact bM 3 (hD p hp)
 have h2:(ax R l).length≤81:=by omega
 have h3:=tz (B:=866496) (by decide) (l:=(ax R l).map fun q=>cnt r q.2) fun n hn=>by
  obtain ⟨q,_,rfl⟩:=List.mem_map.mp hn
  exact vZ h q.2
 rw [List.length_map] at h3
 exact Nat.le_trans h3 (Nat.pow_le_pow_right (by decide) h2)
theorem yu {K:Frag} {H:Hp} {v:List V} {d:List PyData} (h:bd H v d):fk K H v d:=DTs.rd (oF h)
theorem cT.show {m b:Nat} {d:PyData} (h:cT m b d) (hb:b≤3000000):d.shown.length≤sizeLine:=by
 have:=oI d h.nd
 have:=h.sz
 rw [sizeLine_eq]
 omega
theorem xj {r:Rm} (h:cp r) {sort:Str} (hs:sort∈PL):∀ e∈dm r sort,0≤szD e∧szD e≤30:=by
 intro e he
 have o1:=h.a
 have o2:=h.ab
 have o3:=h.b
 have oc:=h.c
 have hint:∀ i:Int,i∈L2.intsFrom r.a (r.b+1 - r.a).toNat→0≤fY i∧fY i≤9:=fun i hi=>by
  have:=eT hi
  unfold fY
  split<;>omega
 have hp:=rg h hs e he
 unfold dm at he
 by_cases h1:sort=Str.ofString "num"
 ·rw [if_pos h1] at he
  obtain ⟨i,hi,rfl⟩:=List.mem_map.mp he
  have:=hint i hi
  exact ⟨this.1,by show fY i≤30; omega⟩
 rw [if_neg h1] at he
 by_cases h2:sort=Str.ofString "row"
 ·rw [if_pos h2] at he
  obtain ⟨l,hl,rfl⟩:=List.mem_map.mp he
  obtain ⟨l1,lm⟩:=eV _ hl
  rw [eX (by rw [h2]; decide +kernel)] at lm
  have hs:∀ m:List PyData,(∀ d∈m,d∈(L2.intsFrom r.a (r.b+1 - r.a).toNat).map PyData.int)→0≤(m.map szI).sum∧(m.map szI).sum≤9*(m.length:Int):=by
   intro m hm
   induction m with
   | nil=>exact ⟨Int.le_refl _,Int.le_refl _⟩
   | cons d m ih =>
    have q:=ih fun d hd=>hm d (List.mem_cons_of_mem _ hd)
    obtain ⟨i,hi,e⟩:=List.mem_map.mp (hm d List.mem_cons_self)
    have q2:=hint i hi
    have e2:szI d=fY i:=by rw [← e]; rfl
    rw [List.map_cons,List.sum_cons,List.length_cons,e2]
    omega
  have q:=hs l lm
  have e3:szD (.tuple l)=(l.length:Int)+(l.map szI).sum:=rfl
  rw [e3]
  omega
 ·rcases hp with ⟨e1,_⟩ | ⟨_,z,hz,rfl,ht⟩ | ⟨e1,_⟩
  ·exact absurd e1 h1
  ·have e3:szD (.str z)=((z.length:Nat):Int):=rfl
   rw [e3]
   omega
  ·exact absurd e1 h2
theorem vt {r:Rm} (h:cp r) (qs:List bH) (hq:∀ q∈qs,q.2∈PL):∀ l∈bc r qs,0≤(l.map szD).sum∧(l.map szD).sum≤30*(qs.length:Int):=by
 revert hq
 refine iR (M:=fun qs=>(∀ q∈qs,q.2∈PL)→∀ l∈bc r qs,0≤(l.map szD).sum∧(l.map szD).sum≤30*(qs.length:Int)) (fun _ l hl=>?_) (fun qs q ih hq l hl=>?_) qs
 ·rw [List.mem_singleton.mp hl]
  exact ⟨Int.le_refl _,Int.le_refl _⟩
 ·rw [cW] at hl
  obtain ⟨m,hm,hl⟩:=List.mem_flatMap.mp hl
  obtain ⟨e,he,rfl⟩:=List.mem_map.mp hl
  have q1:=ih (fun q hq'=>hq q (List.mem_append_left _ hq')) m hm
  have q2:=xj h (hq q (List.mem_append_right _ List.mem_cons_self)) e he
  have e1:((m++[e]).map szD).sum=(m.map szD).sum+szD e:=by rw [List.map_append,List.sum_append]; simp
  have e2:((qs++[q]).length:Int)=(qs.length:Int)+1:=by rw [List.length_append]; rfl
  rw [e1,e2]
  omega
theorem ud {r:Rm} (h:cp r) {qs:List bH} (hq:∀ q∈qs,q.2∈PL) {ds:List PyData} (hd:ds∈bc r qs) (hl:qs.length≤243):cT 0 501 (.int (ds.map szD).sum):=qT (by
 have:=vt h qs hq ds hd
 omega)
section
variable {P:Program} {w:World} {K:Frag} {mg:Str→Option Value} {base:Heap} {f g:Addr} {fd gd:FuncData}
abbrev jC:List Str:=["_law_program", "_law_f", "_law_room_here", "_law_due", "_law_name", "_law_turn", "_law_found", "_law_kinds", "_law_one", "_law_size_here"]
abbrev iW:List Str:=["_law_k", "_law_program", "_law_kinds", "_law_one"]
theorem mI:iW.Nodup:=by decide +kernel
abbrev iQ:List Str:=["_law_param"]
theorem mH:iQ.Nodup:=by decide +kernel
theorem cv:aF jC ["_law_program", "_law_f", "_law_room_here"] (defScope eS):=⟨rfl,rfl,rfl,by decide +kernel,rfl,by decide +kernel,by decide +kernel⟩
def AV (tA:Addr):Sp:=fun vs H Q _=>∃ pg i R FS F rv r,vs=[pg,.int (i:Nat),rv]∧hW H pg R FS∧wE R FS∧FS[i]?=some F∧jH H rv r∧cp r∧aS r (ax R F.2)≤60∧gh H tA pI pd∧∀ H',GoL tA H H'→gh H' tA pI pd→Q (.bl true) H'
theorem Bl {tA:Addr} (T:G0 mg) (TX:GX mg) (F:Fun K "_law_right" "_law_right" eS f fd) (D_how_many:Cal P w K mg base 8 "how_many" ["program", "f", "room"] Ac) (D_size_of:Cal P w K mg base 12 "size_of" ["program", "f", "values"] BO) (D_l_size_by:Cal P w K mg base 6 "_law_size_by" pSb (ub 4)) (D_inputs:Cal P w K mg base 14 "inputs" ["program", "f", "room"] (BD tA)) (D_l_inputs:Cal P w K mg base 7 "_law_inputs" ["_law_program", "_law_f", "_law_room_here"] yM):bg P w K mg base CX0 16 f fd ["_law_program", "_law_f", "_law_room_here"] (AV tA):=by
 obtain ⟨g_how_many,gd_how_many,G_how_many,b_how_many,k_how_many,m_how_many⟩:=D_how_many.ex
 obtain ⟨g_size_of,gd_size_of,G_size_of,b_size_of,k_size_of,m_size_of⟩:=D_size_of.ex
 obtain ⟨g_l_size_by,gd_l_size_by,G_l_size_by,b_l_size_by,k_l_size_by,m_l_size_by⟩:=D_l_size_by.ex
 obtain ⟨g_inputs,gd_inputs,G_inputs,b_inputs,k_inputs,m_inputs⟩:=D_inputs.ex
 obtain ⟨g_l_inputs,gd_l_inputs,G_l_inputs,b_l_inputs,k_l_inputs,m_l_inputs⟩:=D_l_inputs.ex
 refine F.ok cv (fun vs H Q E h=>?_) (fun cdv A outer s H vs Q E hr h=>?_)
 ·obtain ⟨pg,i,R,FS,F,rv,r,rfl,_⟩:=h
  rfl
 obtain ⟨pg,i,R,FS,FF,rv,r,rfl,hp,hpg,hF,hrm,hok,hmn,hlam,q⟩:=h
 obtain ⟨hl,hDp⟩:=hpg.fl FF (List.mem_of_getElem? hF)
 have hD3:=hpg.d3 FF (List.mem_of_getElem? hF)
 have hfind:=lC hpg.fn hF
 obtain ⟨a,y,b,fs,rfl,ha,hRc,hb,pf⟩:=id hp
 obtain ⟨fx,hfx,c,yy,l0,b',rfl,hc,pb,xs,rfl,hpb,rs⟩:∃ fx,fs[i]?=some fx∧io H fx FF:=by
  obtain ⟨fx,h1⟩:∃ fx,fs[i]?=some fx:=⟨_,List.getElem?_eq_getElem (by rw [Paired.length pf]; exact (List.getElem?_eq_some_iff.mp hF).1)⟩
  obtain ⟨F2,h2,h3⟩:=aH pf i fx h1
  rw [hF] at h2
  cases h2
  exact ⟨fx,h1,h3⟩
 have lrs:=Paired.length rs
 have nic:=vD hok hl hDp hmn
 have linp:=sg R FF.2 r
 refine ⟨_,(@al _ _ _ _ _ (@aB _ _ 3 _ _ _ _ cv.nd rfl (Or.inl rfl) (@ar _ _ _ _ _ _ _ _ _ _ _ _ _ _ _ _ G_l_inputs (hr.mono (by omega)) rfl m_l_inputs k_l_inputs b_l_inputs .nil aE (@ad _ _ _ _ _ (pv 0) (@ad _ _ _ _ _ (pv 1) (@ad _ _ _ _ _ (pv 2) ag (ac rfl)) (ac rfl)) (ac rfl)) (by decide) (ac rfl) (aj rfl)) (ao rfl) (.inr rfl)) (@al _ _ _ _ _ (@aB _ _ 4 _ _ _ _ cv.nd rfl (Or.inl rfl) (@ay _ _ _ _ _ _ _ aL (@ay _ _ _ _ _ _ _ aL (@ay _ _ _ _ _ _ _ aL (pv 0) ak (fun _ _=>rfl)) (pv 1) (fun _ _=>rfl)) ak (fun _ _=>rfl)) (ao rfl) (.inr rfl)) (@al _ _ _ _ _ (@bn _ _ _ _ _ _ _ _ PassesOwn.never rfl (cD rfl T.range (@ad _ _ _ _ _ ak ag (ac rfl))) (au (i:=5) cv.nd rfl (Or.inl rfl)) (@al _ _ _ _ _ (@aB _ _ 6 _ _ _ _ cv.nd rfl (Or.inl rfl) (@ar _ _ _ _ _ _ _ _ _ _ _ _ _ _ _ _ G_inputs (hr.mono (by omega)) rfl m_inputs k_inputs b_inputs .nil aE (@ad _ _ _ _ _ (pv 0) (@ad _ _ _ _ _ (pv 4) (@ad _ _ _ _ _ (pv 2) ag (ac rfl)) (ac rfl)) (ac rfl)) (by decide) (ac rfl) (aj rfl)) (ao rfl) (.inr rfl)) (@al _ _ _ _ _ (@bU _ _ _ _ _ _ _ _ (PW.pt (Bw (vJ (fH (@aA _ _ _ _ _ _ _ _ _ eY rfl T.isi lL (@ad _ _ _ _ _ (pv 6) (@ad _ _ _ _ _ (fQ (v:=.ty "list") rfl T.list nT rfl) ag (ac rfl)) (ac rfl)) (by decide) (by decide) (ac rfl) (aj rfl)))) (Az (@aQ _ _ _ _ _ _ _ _ oS (@aA _ _ _ _ _ _ _ _ _ (cr hr.units hr.gd) rfl T.repr gB (@ad _ _ _ _ _ (pv 6) ag (ac rfl)) (by decide) (by decide) (ac rfl) (aj rfl)) (@aA _ _ _ _ _ _ _ _ _ (cr hr.units hr.gd) rfl T.repr gB (@ad _ _ _ _ _ (pv 3) ag (ac rfl)) (by decide) (by decide) (ac rfl) (aj rfl)) (bo _))))) (@ap _ _ _ (@aD _ _ _ _ pT)) bh) (@al _ _ _ _ _ (@bY _ _ _ _ (Ay PySem.F.plainAttrs_list PySem.F.slot_list_reverse PySem.F.type_list_reverse qv (pv 6)) (ao rfl)) (@ap _ _ _ (@bY _ _ _ _ (@dB _ _ _ _ _ _ _ _ _ _ _ _ PySem.F.plainAttrs_list PySem.F.slot_list_append PySem.F.type_list_append cZ (pv 6) (@ad _ _ _ _ _ (@aW _ _ _ _ _ ag) ag (ac rfl)) rfl (cH rfl rfl) rfl (ac rfl) (aj rfl)) (ao rfl)))))) (fun _=>rfl)) (@al _ _ _ _ _ (@aB _ _ 7 _ _ _ _ cv.nd rfl (Or.inr rfl) (be (N':=iQ) (ρ:=[none]) (m:=1) (bt.of (fs:=defScope eS) (N:=jC) rfl rfl (by decide +kernel)) rfl (cG (ay aL (ay aL (ay aL (pv 0) ak (fun _ _=>rfl)) (pv 1) (fun _ _=>rfl)) ak (fun _ _=>rfl))) (fun _ _ _ _=>(au (i:=0) mH rfl (Or.inl rfl))) (fun _ _ _ _=>bq) (fun _ _ _ _=>(ay (cK (K:=K) rfl) (pv 0) ak (fun _ _=>rfl)))) rfl (.inl rfl)) (@al _ _ _ _ _ (@bn _ _ _ _ _ _ _ _ PassesOwn.never rfl (aZ (@aG _ _ _ _ _ _ _ _ ml (@dS _ _ _ _ _ _ _ _ _ _ gZ (pv 3) gW (eF ak)) (@dS _ _ _ _ _ _ _ _ _ _ gZ (pv 3) (eF (sQ oo ak)) gW))) (au (i:=8) cv.nd rfl (Or.inr rfl)) (@al _ _ _ _ _ (@aB _ _ 9 _ _ _ _ cv.nd rfl (Or.inl rfl) (@aA _ _ _ _ _ _ _ _ _ (dU rfl) rfl TX.sum kZ (@ad _ _ _ _ _ (be (N':=iW) (ρ:=[none,some 0,some 7,some 8]) (m:=1) (bt.of (fs:=defScope eS) (N:=jC) rfl rfl (by decide +kernel)) rfl (cD rfl T.range (ad (aA aU rfl T.len eC (ad (pv 7) ag)) ag)) (fun _ _ _ _=>(au (i:=0) mI rfl (Or.inl rfl))) (fun _ _ _ _=>bq) (fun _ _ _ _=>(ar G_l_size_by (hr.mono (by omega)) rfl m_l_size_by k_l_size_by b_l_size_by .nil aE (ad (ay (cK (K:=K) rfl) (pv 1) ak (fun _ _=>rfl)) (ad (ay (lh (K:=K) rfl) (pv 2) (pv 0) (fun _ _=>rfl)) (ad (ay (cK (K:=K) rfl) (pv 3) (pv 0) (fun _ _=>rfl)) ag)))))) ag (ac rfl)) (by decide) (by decide) (ac rfl) (aj rfl)) (ao rfl) (.inr rfl)) (@ap _ _ _ (@bU _ _ _ _ _ _ _ _ (@aQ _ _ _ _ _ _ _ _ oS (@aA _ _ _ _ _ _ _ _ _ (cr hr.units hr.gd) rfl T.repr gB (@ad _ _ _ _ _ (@ar _ _ _ _ _ _ _ _ _ _ _ _ _ _ _ _ G_size_of (hr.mono (by omega)) rfl m_size_of k_size_of b_size_of .nil aE (@ad _ _ _ _ _ (pv 0) (@ad _ _ _ _ _ (pv 4) (@ad _ _ _ _ _ (pv 8) ag (ac rfl)) (ac rfl)) (ac rfl)) (by decide) (ac rfl) (aj rfl)) ag (ac rfl)) (by decide) (by decide) (ac rfl) (aj rfl)) (@aA _ _ _ _ _ _ _ _ _ (cr hr.units hr.gd) rfl T.repr gB (@ad _ _ _ _ _ (pv 9) ag (ac rfl)) (by decide) (by decide) (ac rfl) (aj rfl)) (bo _)) (@ap _ _ _ (@aD _ _ _ _ pT)) bh))) (fun _=>rfl)) (@ap _ _ _ (@aD _ _ _ _ (@kz _ _ _ _ _ _ _ _ dC (@aA _ _ _ _ _ _ _ _ _ (cr hr.units hr.gd) rfl T.repr gB (@ad _ _ _ _ _ (@ar _ _ _ _ _ _ _ _ _ _ _ _ _ _ _ _ G_how_many (hr.mono (by omega)) rfl m_how_many k_how_many b_how_many .nil aE (@ad _ _ _ _ _ (pv 0) (@ad _ _ _ _ _ (pv 4) (@ad _ _ _ _ _ (pv 2) ag (ac rfl)) (ac rfl)) (ac rfl)) (by decide) (ac rfl) (aj rfl)) ag (ac rfl)) (by decide) (by decide) (ac rfl) (aj rfl)) (@aA _ _ _ _ _ _ _ _ _ (cr hr.units hr.gd) rfl T.repr gB (@ad _ _ _ _ _ (@aA _ _ _ _ _ _ _ _ _ aU rfl T.len eC (@ad _ _ _ _ _ (pv 3) ag (ac rfl)) (by decide) (by decide) (ac rfl) (aj rfl)) ag (ac rfl)) (by decide) (by decide) (ac rfl) (aj rfl)) (bo _))))))))),?_⟩
 refine ⟨_,rfl,_,rfl,_,rfl,_,i,R,FS,FF,rv,r,rfl,hp,hpg,hF,hrm,hok,hmn,fun dl ys H1 g1 hdl0 hdl kys=>?_⟩
 refine ⟨_,rfl,a,_,_,_,rfl,rfl,SqT.of (g1 _ _ ha),rfl,_,rfl,b,_,_,_,rfl,rfl,SqT.of (g1 _ _ hb),jr hfx,c,_,_,_,rfl,rfl,SqT.of (g1 _ _ hc),rfl,?_⟩
 have hlam1:=bQ g1 hlam
 obtain ⟨ps1,hps1,_⟩:=id hlam1
 have ndt:dl≠tA:=fun z=>by rw [z,hps1] at hdl; cases hdl
 refine ⟨_,rfl,by decide,by decide,cV (n:=2) (fun t σ H2=>∃ m5 m6,σ=[some (.ref a),some (.int (i:Nat)),some rv,some (.ref dl),some (.str FF.1),m5,m6,none,none,none]∧GoL tA H1 H2∧gh H2 tA pI pd) ⟨_,_,rfl,fun _ _ _ e=>e,hlam1⟩ (fun t σ H2 ht p=>?_) (fun σ H2 p=>?_)⟩
 ·obtain ⟨m5,m6,rfl,g2,L2'⟩:=p
  have k2:=(ah g1).trans (gE g2 hps1)
  refine ⟨_,rfl,_,rfl,_,rfl,_,FF.1,R,FS,FF,rv,r,rfl,hp.mono k2,hfind,hl,hDp,hrm.mono k2,hok,hmn,L2',fun l3 ys3 H3 g3 L3 hl30 hl3 k3=>?_⟩
  have g13:=cz g2 g3
  have hdl3:H3 dl=some (.lst ys):=g13 _ _ ndt hdl
  have kys3:=kys.mono (gE g13 hps1)
  have nd3:dl≠l3:=fun z=>by
   have:=g2 _ _ ndt hdl
   rw [z,hl30] at this
   cases this
  refine ⟨_,rfl,_,_,_,true,rfl,.lst hl3,rfl,_,rfl,om ?_⟩
  refine ⟨_,rfl,_,_,rfl,.lst (SqL.of hl3) (yu k3),nic.sh,nic.nd,Nat.le_trans nic.dp (by decide),nic.show (by decide),?_⟩
  refine ⟨_,rfl,_,_,rfl,.lst (SqL.of hdl3) (yu kys3),nic.sh,nic.nd,Nat.le_trans nic.dp (by decide),nic.show (by decide),?_⟩
  refine ⟨rfl,_,rfl,bO (fun c9=>absurd c9 (by simp)) (fun c9=>?_)⟩
  have l3len:ys3.length≤60:=by rw [aO k3,linp]; exact hmn
  have nlt:l3≠tA:=fun z=>by
   obtain ⟨ps3,hps3,_⟩:=L3
   rw [z,hps3] at hl3
   cases hl3
  refine ⟨_,rfl,.inl ⟨rfl,_,SqL.of hl3⟩,?_⟩
  refine ⟨l3,ys3,rfl,rfl,hl3,?_⟩
  refine ⟨_,rfl,.inl ⟨rfl,_,SqL.of ae⟩,?_⟩
  refine ⟨(by show 0≤sizeLine; decide),fun pt hpt=>?_⟩
  have npt:l3≠pt:=aq (ae (H:=H3) (a:=l3) (o:=.lst ys3.reverse)) hpt
  refine ⟨l3,ys3.reverse,_,rfl,rfl,by rw [aI npt]; exact ae,aC (by rw [List.length_reverse]; omega),?_⟩
  have hpt3:H3 pt=none:=by rw [aI npt.symm] at hpt; exact hpt
  have st:∀ b u,b≠l3→H3 b=some u→(upd (upd (upd H3 l3 (.lst ys3.reverse)) pt (.tup [])) l3 (.lst (ys3.reverse++[.ref pt]))) b=some u:=fun b u n e=>by
   rw [aI n,aI (aq e hpt3),aI n]
   exact e
  refine ⟨_,_,rfl,fun b u nb e=>?_,?_⟩
  ·exact st b u (fun z=>by rw [z] at e; rw [g2 _ _ (z ▸ nb) e] at hl30; cases hl30) (g3 _ _ nb (g2 _ _ nb e))
  ·obtain ⟨ps3,h1,h2,h3⟩:=L3
   refine ⟨ps3,st _ _ nlt.symm h1,h2,h3.imp id ?_⟩
   rintro ⟨c1,φ,e1,e2,e3⟩
   exact ⟨c1,φ,e1,st _ _ (fun z=>by rw [z,hl3] at e2; cases e2) e2,e3⟩
 ·obtain ⟨m5,m6,rfl,g2,L2'⟩:=p
  have k2:=(ah g1).trans (gE g2 hps1)
  have hdl2:=g2 _ _ ndt hdl
  have kys2:=kys.mono (gE g2 hps1)
  have G2:GoL tA H H2:=cz (dn g1) g2
  refine ⟨_,rfl,a,_,_,_,rfl,rfl,SqT.of (k2 _ _ ha),rfl,_,rfl,b,_,_,_,rfl,rfl,SqT.of (k2 _ _ hb),jr hfx,c,_,_,_,rfl,rfl,SqT.of (k2 _ _ hc),rfl,?_⟩
  refine ⟨pb,rfl,⟨xs,SqT.of (k2 _ _ hpb)⟩,cO (xs:=xs) xs.length rfl (by omega) (fun j acc H'=>H'=H2∧acc=(FF.2.take j).map fun p=>V.str p.2) ⟨rfl,rfl⟩ (fun j acc H' p=>by rw [p.1]; exact SqT.of (k2 _ _ hpb)) (fun j acc H' x hj la hx p=>?_) (fun acc H' p la kl hkl0=>?_)⟩
  ·obtain ⟨rfl,rfl⟩:=p
   obtain ⟨fl,hfl,ta,rfl,hta⟩:=aH rs j x hx
   refine ⟨⟨rfl,rfl⟩,bp ?_⟩
   refine ⟨_,rfl,ta,_,_,_,rfl,rfl,SqT.of (k2 _ _ hta),rfl,nxT (by omega) hj la ⟨rfl,?_⟩⟩
   rw [List.take_add_one,hfl,Option.toList_some,List.map_append]
   rfl
  obtain ⟨rfl,rfl⟩:=p
  rw [lrs,List.take_length]
  have g3:=af hkl0 (.lst (FF.2.map fun p=>V.str p.2))
  have hkl:(upd H' kl (.lst (FF.2.map fun p=>V.str p.2))) kl=_:=ae
  generalize (upd H' kl (.lst (FF.2.map fun p=>V.str p.2)))=H3 at g3 hkl
  have hdl3:=g3 _ _ hdl2
  have kys3:=kys2.mono (ah g3)
  have k3:=k2.trans (ah g3)
  have G3:GoL tA H H3:=cz G2 (dn g3)
  have L3:=bQ g3 L2'
  have lys:ys.length≤60:=by rw [aO kys,linp]; exact hmn
  refine ⟨_,rfl,_,rfl,dl,ys,rfl,SqL.of hdl3,fun p1 hp1=>?_⟩
  have w1:=af hp1 (.lst (bV ys none (some 6)))
  refine ⟨_,rfl,_,rfl,_,rfl,dl,ys,rfl,SqL.of (w1 _ _ hdl3),fun p2 hp2=>?_⟩
  have w2:=af hp2 (.lst (bV ys (some (-6)) none))
  refine ⟨p1,p2,_,_,rfl,rfl,w2 _ _ ae,ae,Nat.le_of_lt (aC (by have:=eL ys none (some 6); have:=eL ys (some (-6)) none; omega)),fun p3 hp3=>?_⟩
  have w3:=af hp3 (.lst (bV ys none (some 6)++bV ys (some (-6)) none))
  have h33:_=some (HO.lst (bV ys none (some 6)++bV ys (some (-6)) none)):=ae (H:=upd (upd H3 p1 (.lst (bV ys none (some 6)))) p2 (.lst (bV ys (some (-6)) none))) (a:=p3)
  have W3:=(w1.trans w2).trans w3
  have hsub:∀ x∈bV ys none (some 6)++bV ys (some (-6)) none,x∈ys:=fun x hx=>by
   rcases List.mem_append.mp hx with hx | hx<;>exact List.mem_of_mem_drop (List.mem_of_mem_take hx)
  generalize (bV ys none (some 6)++bV ys (some (-6)) none)=zs at h33 hsub W3 ⊢
  generalize (upd (upd (upd H3 p1 (.lst (bV ys none (some 6)))) p2 (.lst (bV ys (some (-6)) none))) p3 (.lst zs))=H4 at h33 W3
  have hkl4:=W3 _ _ hkl
  have hdl4:=W3 _ _ hdl3
  have kys4:=kys3.mono (ah W3)
  have k4:=k3.trans (ah W3)
  have G4:GoL tA H H4:=cz G3 (dn W3)
  have L4:=bQ W3 L3
  refine ⟨p3,rfl,⟨zs,SqL.of h33⟩,bK (xs:=zs) (fun j σ H5=>∃ m8 m9,σ=[some (.ref a),some (.int (i:Nat)),some rv,some (.ref dl),some (.str FF.1),m5,m6,some (.ref kl),m8,m9]∧av H4 H5) ⟨_,_,rfl,av.refl _⟩ (fun j σ H5 _ p=>?_) (fun j x σ H5 hx p=>?_) (fun σ H5 p=>?_)⟩
  ·obtain ⟨_,_,_,g5⟩:=p
   exact SqL.of (g5 _ _ h33)
  ·obtain ⟨m8,m9,rfl,g5⟩:=p
   obtain ⟨e,he,ke⟩:=vh kys4 x (hsub x (List.mem_of_getElem? hx))
   obtain ⟨ds,hds,rfl⟩:=tm he
   have lm:=cX hok _ bE ds hds
   have lds:=Paired.length lm
   have hpc:∀ d∈ds,∃ sort,PcD sort d:=fun d hd=>by
    obtain ⟨q',_,hpc⟩:=fE lm d hd
    exact ⟨_,hpc⟩
   have nsz:=ud hok bE hds (fJ hl hDp)
   have k5:=k4.trans (ah g5)
   have ke5:=ke.mono (ah g5)
   have hkl5:=g5 _ _ hkl4
   have ke5':=ke5
   cases ke5 with
   | @tup ua ul _ hua kul =>
    have lul:=aO kul
    rw [db,List.length_map] at lul
    refine ⟨_,rfl,kl,_,rfl,.inl (SqL.of hkl5),_,rfl,by omega,by rw [List.length_map]; omega,fV (lo:=0) (FF.2.map fun p:Fld=>V.str p.2).length (by rw [List.length_map]; omega) (fun t acc H'=>av H5 H'∧∃ ns:List Int,acc=ns.map V.int∧ns.sum=((ds.take (ax R (FF.2.take t)).length).map szD).sum) ⟨av.refl _,[],rfl,rfl⟩ (fun t acc H6 ht la p=>?_) (fun acc H6 p la D hD=>?_)⟩
    ·obtain ⟨g6,ns,rfl,hsum⟩:=p
     have ht0:=ht
     rw [List.length_map] at ht0
     obtain ⟨fl,hfl⟩:∃ fl,FF.2[t]?=some fl:=⟨_,List.getElem?_eq_getElem ht0⟩
     have hkk:(FF.2.map (·.2))[t]?=some fl.2:=by rw [List.getElem?_map,hfl]; rfl
     have hget:=jJ (fun k=>(am R 4 k).length) (bA R 4) (FF.2.map (·.2)) ds t fl.2 hkk
     obtain ⟨w9,hw9⟩:∃ w9,ul[t]?=some w9:=⟨_,List.getElem?_eq_getElem (by omega)⟩
     obtain ⟨e9,he9,kw9⟩:=cg kul t w9 hw9
     rw [hget] at he9
     cases he9
     have efp:=gG (R:=R) hfl
     have c1:=congrArg List.length efp
     rw [List.length_append] at c1
     obtain ⟨bb,ebb⟩:=ip R FF.2 (t+1)
     have c2:=congrArg List.length ebb
     rw [List.length_append] at c2
     rw [← List.map_take,← List.map_take,← fP] at kw9
     generalize (ax R (FF.2.take t)).length=ci at c1 kw9 hsum
     refine ⟨⟨rfl,rfl⟩,bp ?_⟩
     refine ⟨_,rfl,a,_,_,_,rfl,rfl,SqT.of (g6 _ _ (k5 _ _ ha)),rfl,?_⟩
     refine ⟨_,rfl,_,rfl,kl,_,_,_,rfl,rfl,SqL.of (g6 _ _ hkl5),by rw [Int.zero_add]; exact jr (by rw [List.getElem?_map,hfl]; rfl),?_⟩
     refine ⟨_,rfl,_,rfl,ua,_,_,_,rfl,rfl,SqT.of (g6 _ _ hua),by rw [Int.zero_add]; exact jr hw9,?_⟩
     refine ⟨y,fl.2,w9,R,(ds.drop ci).take (am R 4 fl.2).length,rfl,hRc.mono (k5.trans (ah g6)),hpg.rn,by have:=hpg.rl; omega,hDp fl (List.mem_of_getElem? hfl),kw9.mono (ah g6),?_,fun d hd'=>hpc d (List.mem_of_mem_drop (List.mem_of_mem_take hd')),fun H7 g7=>nxT (by rw [List.length_map]; omega) ht la ⟨g6.trans g7,ns++[(((ds.drop ci).take (am R 4 fl.2).length).map szD).sum],by rw [List.map_append]; rfl,?_⟩⟩
     ·rw [List.length_take,List.length_drop]
      omega
     ·rw [c1,List.take_add,List.map_append,List.sum_append,List.sum_append,hsum]
      simp
    ·obtain ⟨g6,ns,rfl,hsum⟩:=p
     rw [List.length_map,List.take_length,← lds,List.take_length] at hsum
     have g7:=af hD (.lst (ns.map V.int))
     refine ⟨D,ns,rfl,SqL.of ae,?_⟩
     rw [hsum]
     have g67:=g6.trans g7
     refine ⟨_,rfl,_,rfl,_,rfl,_,FF.1,.ref ua,R,FS,FF,ds,rfl,hp.mono (k5.trans (ah g67)),hfind,hl,hDp,ke5'.mono (ah g67),lds,hpc,fun H8 g8=>?_⟩
     refine ⟨_,_,rfl,.int _,nsz.sh,nsz.nd,Nat.le_trans nsz.dp (by decide),nsz.show (by decide),?_⟩
     refine ⟨_,rfl,_,_,rfl,.int _,nsz.sh,nsz.nd,Nat.le_trans nsz.dp (by decide),nsz.show (by decide),?_⟩
     refine ⟨rfl,_,rfl,bO (fun c9=>absurd c9 (by simp)) (fun c9=>?_)⟩
     exact ⟨_,_,rfl,g5.trans (g67.trans g8)⟩
  ·obtain ⟨m8,m9,rfl,g5⟩:=p
   have nb:=kY (i:=(aS r (ax R FF.2):Nat)) (by rw [Int.natAbs_natCast]; exact pO hok hl hD3)
   have k5:=k4.trans (ah g5)
   refine ⟨_,rfl,_,rfl,_,rfl,_,FF.1,R,FS,FF,rv,r,rfl,hp.mono k5,hfind,hl,hDp,hrm.mono k5,hok,fun H6 g6=>?_⟩
   refine ⟨_,_,rfl,.int _,nb.sh,nb.nd,Nat.le_trans nb.dp (by decide),nb.show (by decide),?_⟩
   have hdl6:=g6 _ _ (g5 _ _ hdl4)
   have lyn:ys.length=aS r (ax R FF.2):=by rw [aO kys,linp]
   refine ⟨_,rfl,dl,_,rfl,.inl (SqL.of hdl6),?_⟩
   rw [lyn]
   refine ⟨_,_,rfl,.int _,nb.sh,nb.nd,Nat.le_trans nb.dp (by decide),nb.show (by decide),?_⟩
   refine ⟨rfl,?_⟩
   rw [decide_eq_true rfl]
   exact q H6 (cz G4 (dn (g5.trans g6))) (bQ (g5.trans g6) L4)
end
open PySem L2
theorem eE {fp tA:Addr} {H H':Hp} {q:Str} {p:Pos} {xs:List V} (g:Ext fp H H') (hf:H fp=some (.lst xs)) (h:gh H tA q p):gh H' tA q p:=by
 obtain ⟨ps,h1,h2,h3⟩:=h
 refine ⟨ps,g _ _ (fun z=>by rw [z,hf] at h1; cases h1) h1,h2,h3.imp id ?_⟩
 rintro ⟨c,φ,a,b,d⟩
 exact ⟨c,φ,a,g _ _ (fun z=>by rw [z,hf] at b; cases b) b,d⟩
theorem Fd.goL {tA:Addr} {H H':Hp} {fp sc:Addr} {m:Nat} {q:Str} {p:Pos} (g:GoL tA H H') (hl:gh H tA q p) (h:Fd H fp sc m):Fd H' fp sc m:=by
 obtain ⟨ns,a,b,c,h1,h2,h3⟩:=h
 obtain ⟨ps,hps,_⟩:=hl
 exact ⟨ns,a,b,c,g _ _ (fun z=>by rw [z,hps] at h1; cases h1) h1,g _ _ (fun z=>by rw [z,hps] at h2; cases h2) h2,h3⟩
section
variable {P:Program} {w:World} {K:Frag} {mg:Str→Option Value} {base:Heap} {f g:Addr} {fd gd:FuncData}
abbrev Bs:List Str:=["_law_script", "_law_feed_here", "_law_k", "_law_program", "_law_f", "_law_low", "_law_great"]
theorem iz:aF Bs ["_law_script"] (defScope sX):=⟨rfl,rfl,rfl,by decide +kernel,rfl,by decide +kernel,by decide +kernel⟩
def xg (tA:Addr) (K:Frag):Sp:=fun vs H Q _=>∃ a ns,vs=[.ref a]∧SqL K H a (List.map V.int ns)∧gh H tA pI pd∧∀ H',Q (.bl true) H'
theorem zr {tA:Addr} (T:G0 mg) (TX:GX mg) (F:Fun K "law" "law" sX f fd) (D_l_feed:Cal P w K mg base 1 "_law_feed" ["_law_script"] (Bd K)) (D_l_draw:Cal P w K mg base 1 "_law_draw" ["_law_feed_here", "_law_many_here"] yh) (D_l_headed:Cal P w K mg base 2 "_law_headed" ["_law_feed_here"] Be) (D_l_right:Cal P w K mg base 16 "_law_right" ["_law_program", "_law_f", "_law_room_here"] (AV tA)) (D_l_room:Cal P w K mg base 7 "_law_room" ["_law_feed_here", "_law_program", "_law_f", "_law_most"] AW) (D_how_many:Cal P w K mg base 8 "how_many" ["program", "f", "room"] Ac) (D_l_many:Cal P w K mg base 6 "_law_many" ["_law_program", "_law_f", "_law_room_here"] rO):bg P w K mg base CX0 18 f fd ["_law_script"] (xg tA K):=by
 obtain ⟨g_how_many,gd_how_many,G_how_many,b_how_many,k_how_many,m_how_many⟩:=D_how_many.ex
 obtain ⟨g_l_many,gd_l_many,G_l_many,b_l_many,k_l_many,m_l_many⟩:=D_l_many.ex
 obtain ⟨g_l_draw,gd_l_draw,G_l_draw,b_l_draw,k_l_draw,m_l_draw⟩:=D_l_draw.ex
 obtain ⟨g_l_right,gd_l_right,G_l_right,b_l_right,k_l_right,m_l_right⟩:=D_l_right.ex
 obtain ⟨g_l_room,gd_l_room,G_l_room,b_l_room,k_l_room,m_l_room⟩:=D_l_room.ex
 obtain ⟨g_l_headed,gd_l_headed,G_l_headed,b_l_headed,k_l_headed,m_l_headed⟩:=D_l_headed.ex
 obtain ⟨g_l_feed,gd_l_feed,G_l_feed,b_l_feed,k_l_feed,m_l_feed⟩:=D_l_feed.ex
 refine F.ok iz (fun vs H Q E h=>?_) (fun cdv A outer s H vs Q E hr h=>?_)
 ·obtain ⟨a,ns,rfl,_⟩:=h
  rfl
 obtain ⟨a,ns,rfl,hsq,hlam,q⟩:=h
 refine ⟨_,(@al _ _ _ _ _ (@aB _ _ 1 _ _ _ _ iz.nd rfl (Or.inl rfl) (@ar _ _ _ _ _ _ _ _ _ _ _ _ _ _ _ _ G_l_feed (hr.mono (by omega)) rfl m_l_feed k_l_feed b_l_feed .nil aE (@ad _ _ _ _ _ (pv 0) ag (ac rfl)) (by decide) (ac rfl) (aj rfl)) (ao rfl) (.inr rfl)) (@al _ _ _ _ _ (@bn _ _ _ _ _ _ _ _ PassesOwn.never rfl (cD rfl T.range (@ad _ _ _ _ _ ak ag (ac rfl))) (au (i:=2) iz.nd rfl (Or.inl rfl)) (@al _ _ _ _ _ (@aB _ _ 3 _ _ _ _ iz.nd rfl (Or.inl rfl) (@ar _ _ _ _ _ _ _ _ _ _ _ _ _ _ _ _ G_l_headed (hr.mono (by omega)) rfl m_l_headed k_l_headed b_l_headed .nil aE (@ad _ _ _ _ _ (pv 1) ag (ac rfl)) (by decide) (ac rfl) (aj rfl)) (ao rfl) (.inr rfl)) (@al _ _ _ _ _ (@aB _ _ 4 _ _ _ _ iz.nd rfl (Or.inl rfl) (@ar _ _ _ _ _ _ _ _ _ _ _ _ _ _ _ _ G_l_draw (hr.mono (by omega)) rfl m_l_draw k_l_draw b_l_draw .nil aE (@ad _ _ _ _ _ (pv 1) (@ad _ _ _ _ _ (@aA _ _ _ _ _ _ _ _ _ aU rfl T.len eC (@ad _ _ _ _ _ (@ay _ _ _ _ _ _ _ aL (pv 3) ak (fun _ _=>rfl)) ag (ac rfl)) (by decide) (by decide) (ac rfl) (aj rfl)) ag (ac rfl)) (ac rfl)) (by decide) (ac rfl) (aj rfl)) (ao rfl) (.inr rfl)) (@al _ _ _ _ _ (@bU _ _ _ _ _ _ _ _ (vJ (fH (@ar _ _ _ _ _ _ _ _ _ _ _ _ _ _ _ _ G_l_right (hr.mono (by omega)) rfl m_l_right k_l_right b_l_right .nil aE (@ad _ _ _ _ _ (pv 3) (@ad _ _ _ _ _ (pv 4) (@ad _ _ _ _ _ (@ar _ _ _ _ _ _ _ _ _ _ _ _ _ _ _ _ G_l_room (hr.mono (by omega)) rfl m_l_room k_l_room b_l_room .nil aE (@ad _ _ _ _ _ (pv 1) (@ad _ _ _ _ _ (pv 3) (@ad _ _ _ _ _ (pv 4) (@ad _ _ _ _ _ ak ag (ac rfl)) (ac rfl)) (ac rfl)) (ac rfl)) (by decide) (ac rfl) (aj rfl)) ag (ac rfl)) (ac rfl)) (ac rfl)) (by decide) (ac rfl) (aj rfl)))) (@ap _ _ _ (@aD _ _ _ _ pT)) bh) (@al _ _ _ _ _ (@aB _ _ 5 _ _ _ _ iz.nd rfl (Or.inl rfl) (@aG _ _ _ _ _ _ _ _ bB ak (@ar _ _ _ _ _ _ _ _ _ _ _ _ _ _ _ _ G_l_draw (hr.mono (by omega)) rfl m_l_draw k_l_draw b_l_draw .nil aE (@ad _ _ _ _ _ (pv 1) (@ad _ _ _ _ _ ak ag (ac rfl)) (ac rfl)) (by decide) (ac rfl) (aj rfl))) (ao rfl) (.inr rfl)) (@al _ _ _ _ _ (@aB _ _ 6 _ _ _ _ iz.nd rfl (Or.inl rfl) (@aW _ _ _ _ _ (@ad _ _ _ _ _ (@sQ _ _ _ _ _ _ oo (@ar _ _ _ _ _ _ _ _ _ _ _ _ _ _ _ _ G_l_draw (hr.mono (by omega)) rfl m_l_draw k_l_draw b_l_draw .nil aE (@ad _ _ _ _ _ (pv 1) (@ad _ _ _ _ _ ak ag (ac rfl)) (ac rfl)) (by decide) (ac rfl) (aj rfl))) (@ad _ _ _ _ _ (@ar _ _ _ _ _ _ _ _ _ _ _ _ _ _ _ _ G_l_draw (hr.mono (by omega)) rfl m_l_draw k_l_draw b_l_draw .nil aE (@ad _ _ _ _ _ (pv 1) (@ad _ _ _ _ _ ak ag (ac rfl)) (ac rfl)) (by decide) (ac rfl) (aj rfl)) (@ad _ _ _ _ _ (@ar _ _ _ _ _ _ _ _ _ _ _ _ _ _ _ _ G_l_draw (hr.mono (by omega)) rfl m_l_draw k_l_draw b_l_draw .nil aE (@ad _ _ _ _ _ (pv 1) (@ad _ _ _ _ _ ak ag (ac rfl)) (ac rfl)) (by decide) (ac rfl) (aj rfl)) (@ad _ _ _ _ _ (pv 5) (@ad _ _ _ _ _ (@aG _ _ _ _ _ _ _ _ gC ak (@ar _ _ _ _ _ _ _ _ _ _ _ _ _ _ _ _ G_l_draw (hr.mono (by omega)) rfl m_l_draw k_l_draw b_l_draw .nil aE (@ad _ _ _ _ _ (pv 1) (@ad _ _ _ _ _ (@aG _ _ _ _ _ _ _ _ gC ak (pv 5)) ag (ac rfl)) (ac rfl)) (by decide) (ac rfl) (aj rfl))) ag (ac rfl)) (ac rfl)) (ac rfl)) (ac rfl)) (ac rfl))) (ao rfl) (.inr rfl)) (@ap _ _ _ (@bU _ _ _ _ _ _ _ _ (@aQ _ _ _ _ _ _ _ _ oS (@aA _ _ _ _ _ _ _ _ _ (cr hr.units hr.gd) rfl T.repr gB (@ad _ _ _ _ _ (@ar _ _ _ _ _ _ _ _ _ _ _ _ _ _ _ _ G_how_many (hr.mono (by omega)) rfl m_how_many k_how_many b_how_many .nil aE (@ad _ _ _ _ _ (pv 3) (@ad _ _ _ _ _ (@ay _ _ _ _ _ _ _ aL (@ay _ _ _ _ _ _ _ aL (@ay _ _ _ _ _ _ _ aL (pv 3) ak (fun _ _=>rfl)) (pv 4) (fun _ _=>rfl)) ak (fun _ _=>rfl)) (@ad _ _ _ _ _ (pv 6) ag (ac rfl)) (ac rfl)) (ac rfl)) (by decide) (ac rfl) (aj rfl)) ag (ac rfl)) (by decide) (by decide) (ac rfl) (aj rfl)) (@aA _ _ _ _ _ _ _ _ _ (cr hr.units hr.gd) rfl T.repr gB (@ad _ _ _ _ _ (@ar _ _ _ _ _ _ _ _ _ _ _ _ _ _ _ _ G_l_many (hr.mono (by omega)) rfl m_l_many k_l_many b_l_many .nil aE (@ad _ _ _ _ _ (pv 3) (@ad _ _ _ _ _ (pv 4) (@ad _ _ _ _ _ (pv 6) ag (ac rfl)) (ac rfl)) (ac rfl)) (by decide) (ac rfl) (aj rfl)) ag (ac rfl)) (by decide) (by decide) (ac rfl) (aj rfl)) (bo _)) (@ap _ _ _ (@aD _ _ _ _ pT)) bh))))))) (fun _=>rfl)) (@ap _ _ _ (@aD _ _ _ _ pT)))),?_⟩
 refine ⟨_,rfl,a,ns,rfl,hsq,fun fp sc H1 g1 hfp0 hf=>?_⟩
 have L1:=bQ g1 hlam
 refine ⟨_,rfl,by decide,by decide,cV (n:=3) (fun t σ H2=>∃ m2 m3 m4 m5 m6,σ=[some (.ref a),some (.ref fp),m2,m3,m4,m5,m6]∧Fd H2 fp sc (40*t)∧gh H2 tA pI pd) ⟨_,_,_,_,_,rfl,hf,L1⟩ (fun t σ H2 ht p=>?_) (fun σ H2 p=>?_)⟩
 ·obtain ⟨m2,m3,m4,m5,m6,rfl,f2,L2'⟩:=p
  refine ⟨_,rfl,fp,sc,_,rfl,f2,by omega,fun pg R FS H3 x3 f3 hp hpg h1 h3 nd=>?_⟩
  obtain ⟨xf2,hxf2⟩:=f2.lst
  have L3:=eE x3 hxf2 L2'
  obtain ⟨xf3,hxf3⟩:=f3.lst
  obtain ⟨pa,y,b,fs,rfl,hpa,hRc,hb,pf⟩:=id hp
  have lfs:=Paired.length pf
  refine ⟨_,rfl,_,rfl,pa,_,_,_,rfl,rfl,SqT.of hpa,rfl,?_⟩
  refine ⟨b,fs,rfl,.inr (SqT.of hb),?_⟩
  rw [lfs]
  refine ⟨fp,_,sc,_,rfl,f3,by omega,by omega,by omega,fun v4 H4 a4 b4 x4 f4=>?_⟩
  obtain ⟨i,rfl⟩:∃ i:Nat,v4=(i:Int):=⟨v4.toNat,by omega⟩
  have hi:i<FS.length:=by omega
  obtain ⟨F9,hF9⟩:∃ F9,FS[i]?=some F9:=⟨_,List.getElem?_eq_getElem hi⟩
  have L4:=eE x4 hxf3 L3
  have k4:Tk H3 H4:=f3.tk x4
  obtain ⟨xf4,hxf4⟩:=f4.lst
  refine ⟨_,rfl,_,rfl,_,rfl,_,rfl,_,rfl,fp,sc,_,_,i,R,FS,F9,rfl,f4,by omega,hp.mono k4,hpg,hF9,fun rv r H5 x5 f5 hrm hok hmn=>?_⟩
  have L5:=eE x5 hxf4 L4
  have k5:=k4.trans (f4.tk x5)
  refine ⟨_,i,R,FS,F9,rv,r,rfl,hp.mono k5,hpg,hF9,hrm,hok,hmn,L5,fun H6 g6 L6=>?_⟩
  obtain ⟨ps5,hps5,_⟩:=id L5
  have f6:=f5.goL g6 L5
  have k6:=k5.trans (gE g6 hps5)
  refine ⟨_,rfl,bO (fun c9=>absurd c9 (by simp)) (fun c9=>?_)⟩
  refine ⟨_,rfl,fp,_,sc,_,rfl,f6,by omega,by decide,by decide,fun v7 H7 a7 b7 x7 f7=>?_⟩
  obtain ⟨xf6,hxf6⟩:=f6.lst
  have L7:=eE x7 hxf6 L6
  have k7:=k6.trans (f6.tk x7)
  refine ⟨_,_,rfl,rfl,?_⟩
  refine ⟨_,rfl,fp,_,sc,_,rfl,f7,by omega,by decide,by decide,fun v8 H8 a8 b8 x8 f8=>?_⟩
  refine ⟨_,rfl,_,rfl,fp,_,sc,_,rfl,f8,by omega,by decide,by decide,fun v9 H9 a9 b9 x9 f9=>?_⟩
  refine ⟨_,rfl,fp,_,sc,_,rfl,f9,by omega,by decide,by decide,fun va Ha aa ba xa fa=>?_⟩
  refine ⟨_,rfl,_,rfl,_,rfl,_,_,rfl,rfl,?_⟩
  refine ⟨fp,_,sc,_,rfl,fa,by omega,by omega,by omega,fun vb Hb ab bb xb fb=>?_⟩
  refine ⟨_,_,rfl,rfl,?_⟩
  refine ⟨(by show 5≤sizeLine; decide),fun gv hgv=>?_⟩
  have rok:cp ⟨-v8,v9,va,32+v7,126 - vb⟩:=⟨by show -9≤-v8; omega,by show -v8≤v9; omega,by show v9≤9; omega,aa,by show va≤3; omega,by show 32≤32+v7; omega,by show 32+v7≤126 - vb; omega,by show 126 - vb≤126; omega⟩
  have gn:=af hgv (.tup (Rm.vs ⟨-v8,v9,va,32+v7,126 - vb⟩))
  have hg1:(upd Hb gv (.tup (Rm.vs ⟨-v8,v9,va,32+v7,126 - vb⟩))) gv=some (.tup (Rm.vs ⟨-v8,v9,va,32+v7,126 - vb⟩)):=ae
  obtain ⟨xf7,hxf7⟩:=f7.lst
  obtain ⟨xf8,hxf8⟩:=f8.lst
  obtain ⟨xf9,hxf9⟩:=f9.lst
  obtain ⟨xfa,hxfa⟩:=fa.lst
  have Lc:=bQ gn (eE xb hxfa (eE xa hxf9 (eE x9 hxf8 (eE x8 hxf7 L7))))
  have kc:=((((k7.trans (f7.tk x8)).trans (f8.tk x9)).trans (f9.tk xa)).trans (fa.tk xb)).trans (ah gn)
  have fc:=fb.same gn
  have hgv':(upd Hb gv (.tup [.int (-v8),.int v9,.int va,.int (32+v7),.int (126 - vb)]))=upd Hb gv (.tup (Rm.vs ⟨-v8,v9,va,32+v7,126 - vb⟩)):=rfl
  generalize (⟨-v8,v9,va,32+v7,126 - vb⟩:Rm)=r9 at rok gn hg1 Lc kc fc hgv'
  show jU 6 (.ref gv) _ (upd Hb gv (.tup [.int (-v8),.int v9,.int va,.int (32+v7),.int (126 - vb)])) _
  rw [hgv']
  generalize upd Hb gv (.tup r9.vs)=Hc at gn hg1 Lc kc fc
  obtain ⟨hl9,hDp9⟩:=hpg.fl F9 (List.mem_of_getElem? hF9)
  have hD39:=hpg.d3 F9 (List.mem_of_getElem? hF9)
  have nb:=kY (i:=(aS r9 (ax R F9.2):Nat)) (by rw [Int.natAbs_natCast]; exact pO rok hl9 hD39)
  obtain ⟨fx,hfx,c,yy,l0,b',rfl,hc,pb,xs,rfl,hpb,rs⟩:∃ fx,fs[i]?=some fx∧io H3 fx F9:=by
   obtain ⟨fx,h1⟩:∃ fx,fs[i]?=some fx:=⟨_,List.getElem?_eq_getElem (by rw [lfs]; exact hi)⟩
   obtain ⟨F2,h2,h3⟩:=aH pf i fx h1
   rw [hF9] at h2
   cases h2
   exact ⟨fx,h1,h3⟩
  refine ⟨_,rfl,_,rfl,pa,_,_,_,rfl,rfl,SqT.of (kc _ _ hpa),rfl,_,rfl,b,_,_,_,rfl,rfl,SqT.of (kc _ _ hb),jr hfx,c,_,_,_,rfl,rfl,SqT.of (kc _ _ hc),rfl,?_⟩
  refine ⟨_,rfl,_,F9.1,R,FS,F9,.ref gv,r9,rfl,hp.mono kc,lC hpg.fn hF9,hl9,hDp9,⟨gv,rfl,hg1⟩,rok,fun Hd gd'=>?_⟩
  refine ⟨_,_,rfl,.int _,nb.sh,nb.nd,Nat.le_trans nb.dp (by decide),nb.show (by decide),?_⟩
  refine ⟨_,rfl,_,rfl,_,rfl,_,i,R,FS,F9,gv,r9,rfl,hp.mono (kc.trans (ah gd')),hpg,hF9,.inr (gd' _ _ hg1),rok,fun He ge=>?_⟩
  refine ⟨_,_,rfl,.int _,nb.sh,nb.nd,Nat.le_trans nb.dp (by decide),nb.show (by decide),?_⟩
  refine ⟨rfl,_,rfl,bO (fun c9=>absurd c9 (by simp)) (fun c9=>?_)⟩
  exact ⟨_,_,_,_,_,rfl,(fc.same (gd'.trans ge)).le (by omega),bQ (gd'.trans ge) Lc⟩
 ·obtain ⟨m2,m3,m4,m5,m6,rfl,f2,L2'⟩:=p
  exact q H2
end
end K6
namespace HD
open PySem PySem.W
abbrev pE:Program:=PySem.Challenge.pw_everyfork_k24_inputs_in_order
abbrev top:Nat→Stmt:=K6.top
abbrev sx:String→Str:=Str.ofString
noncomputable abbrev de (P:Params) (x:Str) (t:Nat) (v:Value):DictEntry:=⟨PyData.keyHash P x,.str x t,v⟩
abbrev fd (i:Nat) (x qual:Str) (dV kV doc pm:Value) (an:Option Addr) (cdv ct:Value):FuncData:=fnOf x qual (L2.defArgs (top i)) (L2.defBody (top i)) (L2.defScope (top i)) dV kV doc pm an cdv ct
abbrev fd0 (i:Nat) (x qual:Str) (dV kV doc pm:Value) (an:Option Addr) (cdv ct:Value):FuncData:={ fd i x qual dV kV doc pm an cdv ct with globals:=0 }
abbrev Ag (i j:Nat):Stmt:=match top i with | .ClassDef (body:=b) ..=>b.getD j (.Pass ⟨0,0,0,0⟩) | s=>s
abbrev fdm (i j:Nat) (x qual:Str) (dV kV doc pm:Value) (an:Option Addr) (cdv ct:Value):FuncData:=fnOf x qual (L2.defArgs (Ag i j)) (L2.defBody (Ag i j)) (L2.defScope (Ag i j)) dV kV doc pm an cdv ct
abbrev CA (i j:Nat) (x qual:Str) (dV kV doc pm:Value) (an:Option Addr) (cdv ct:Value):FuncData:={ fdm i j x qual dV kV doc pm an cdv ct with globals:=0 }
noncomputable abbrev st (x:String) (t:Nat):Value:=.str (sx x) t
abbrev i0 (i:Int):Value:=.int i 0
noncomputable abbrev tu (l:List Value):Obj:=⟨.type "tuple",none,.seq ⟨l⟩ 0,#[]⟩
noncomputable abbrev co (l:List Value):Obj:=⟨.type "code",none,.fields ⟨l⟩,#[]⟩
noncomputable abbrev dr (P:Params) (x:String) (t r:Nat):DictEntry:=de P (sx x) t (.ref r)
noncomputable abbrev fu (i:Nat) (x q m:String) (t c:Nat):Obj:=⟨.type "function",none,.func (fd i (sx x) (sx q) .none .none .none (st m t) none (.ref c) .none),#[]⟩
noncomputable abbrev fv (i:Nat) (x m:String) (t c:Nat):Obj:=fu i x x m t c
noncomputable abbrev fw (i:Nat) (x:String):Obj:=⟨.none,none,.func (fd0 i (sx x) (sx x) .none .none .none .none none .none .none),#[]⟩
noncomputable section
def m0:Nat:=11
def ann:Option Value:=some (.ref 6)
def env:Env:={ scope:=pE.main.scope,locals:=mainNs,globals:=mainNs,cells:=[],code:=.ref 13,frame:=some 14 }
abbrev cE:Code:=.body (behindTheImports pE) env
abbrev B:List Frame:=[topFrame ⟨0,0,0,0⟩]
def s0 (w:World) (os:OsState):Shared:=⟨boot_heap w.params,Array.mk [],boot_drawn,boot_toks,os⟩
def aw:Obj:=tu []
def aV:Obj:=⟨.none,none,.fields #[],#[]⟩
def xC:Obj:=co [st "<module>" 182,st "<module>" 183,st "/claim/cut.py" 184,i0 1,i0 0,i0 0,i0 0,i0 0,.ref 11,.bool false,i0 181,.ref 12,.none,.none,.none,.none,i0 185,i0 1,st "/claim/cut.py" 186]
def xP:Obj:=⟨.type "frame",none,.plain,#[some (.ref 13),some (.ref 3),some (.ref 3),none,some (st "__main__" 164),none,some (.ref 0)]⟩
def ha (P:Params):Heap:=⟨⟨[(boot_o_0 P),(boot_o_1 P),(boot_o_2 P),(boot_o_3 P),(boot_o_4 P),(boot_o_5 P),(boot_o_6 P),(boot_o_7 P),(boot_o_8 P),(boot_o_9 P),(boot_o_10 P),aw,aV,xC,xP]⟩,{ :Life }⟩
def sa (w:World) (os:OsState):Shared:=⟨ha w.params,#[],⟨0,0,0,0⟩,187,os⟩
theorem Bh:∀ (w:World) (os:OsState),topGo treeTable pE w m0 ann 12 (s0 w os) (topStub pE)=some (sa w os,Thread.mk (denote treeTable cE) cE ⟨0,0,0,0⟩ B):=fun w os=>by kernel_rfl
def tb (P:Params):BT:=(.node (boot_o_0 P) (.node (boot_o_1 P) (.node (boot_o_3 P) (.node (boot_o_7 P) .nil .nil) (.node aw .nil .nil)) (.node (boot_o_5 P) (.node (boot_o_9 P) .nil .nil) (.node xC .nil .nil))) (.node (boot_o_2 P) (.node (boot_o_4 P) (.node (boot_o_8 P) .nil .nil) (.node aV .nil .nil)) (.node (boot_o_6 P) (.node (boot_o_10 P) .nil .nil) (.node xP .nil .nil))))
def sb (w:World) (os:OsState):SharedT:=⟨tb w.params,15,{ :Life },#[],⟨0,0,0,0⟩,187,os⟩
theorem xy:∀ (w:World) (os:OsState),segRun treeTable pE w m0 ann 1 1 (sa w os) (blockOf (behindTheImports pE) env cE ⟨0,0,0,0⟩ B)=some (.next,(sb w os).abs,cE,⟨0,0,0,0⟩):=fun w os=>by kernel_rfl
def zo (P:Params):Obj:=⟨.type "dict",none,.dict #[de P (sx "__name__") 165 (st "law_everyfork_k24_inputs_in_order" 388),de P (sx "__doc__") 166 .none,de P (sx "__package__") 167 .none,de P (sx "__loader__") 168 (.builtin "__main__.__loader__#opaque"),de P (sx "__spec__") 169 .none,dr P "__annotations__" 170 6,dr P "__builtins__" 171 4,de P (sx "__file__") 173 (st "/claim/cut.py" 172),de P (sx "__cached__") 174 .none,dr P "PLAIN_KINDS" 192 15,de P (sx "SIGNS") 194 (st " !\"#$&'()*+,-./0123456789:;<=>?@ABCDEFGHIJKLMNOPQRSTUVWXYZ[\\]^_`abcdefghijklmnopqrstuvwxyz{|}~" 193),dr P "is_sign_number" 201 22,dr P "sign_of" 208 29,dr P "fields_of" 217 36,dr P "field_kinds" 223 41,dr P "parts" 236 48,dr P "function_of" 247 55,dr P "flat_all" 261 62,dr P "flat" 270 69,dr P "unflat_all" 283 76,dr P "unflat" 292 83,dr P "param_kinds" 300 88,dr P "param_parts" 312 95,dr P "numbers_of" 319 102,dr P "signs_of" 325 107,dr P "up_to_long" 331 112,dr P "choices_of" 337 117,dr P "how_many_of" 348 124,dr P "how_many" 360 131,dr P "part_size" 366 136,dr P "laid_size" 372 141,dr P "size_of" 381 148,dr P "inputs" 387 153,dr P "_law_feed" 396 160,dr P "_law_draw" 408 167,dr P "_law_headed" 414 172,dr P "_law_sorts" 420 177,dr P "_law_put_together" 426 182,dr P "_law_all" 432 187,dr P "_law_size" 438 192,dr P "_law_inputs" 444 197,dr P "_law_many" 450 202,dr P "_law_room" 463 209,dr P "_law_size_by" 469 214,dr P "_law_right" 475 219,dr P "law" 488 226] 46,#[]⟩
def yJ:Obj:=⟨.none,none,.fields #[i0 4,i0 0,.ref 21,i0 6,i0 0,.ref 28,i0 8,i0 0,.ref 35,i0 13,i0 0,.ref 40,i0 15,i0 0,.ref 47,i0 24,i0 0,.ref 54,i0 30,i0 0,.ref 61,i0 35,i0 0,.ref 68,i0 39,i0 0,.ref 75,i0 47,i0 0,.ref 82,i0 52,i0 0,.ref 87,i0 54,i0 0,.ref 94,i0 60,i0 0,.ref 101,i0 62,i0 0,.ref 106,i0 64,i0 0,.ref 111,i0 74,i0 0,.ref 116,i0 80,i0 0,.ref 123,i0 88,i0 0,.ref 130,i0 93,i0 0,.ref 135,i0 99,i0 0,.ref 140,i0 101,i0 0,.ref 147,i0 103,i0 0,.ref 152,i0 115,i0 0,.ref 159,i0 117,i0 0,.ref 166,i0 132,i0 0,.ref 171,i0 146,i0 0,.ref 176,i0 153,i0 0,.ref 181,i0 157,i0 0,.ref 186,i0 173,i0 0,.ref 191,i0 177,i0 0,.ref 196,i0 191,i0 0,.ref 201,i0 202,i0 0,.ref 208,i0 218,i0 0,.ref 213,i0 223,i0 0,.ref 218,i0 238,i0 0,.ref 225],#[]⟩
def uR:Obj:=tu [st "num" 189,st "text" 190,st "row" 191]
def uW:Obj:=tu [st "number" 198]
def yQ:Obj:=fw 3 "is_sign_number"
def uC:Obj:=co [st "is_sign_number" 195,st "is_sign_number" 196,st "/claim/cut.py" 197,i0 4,i0 1,i0 0,i0 0,i0 3,.ref 16,.bool true,i0 181,.ref 17,.none,.ref 18,.ref 19,.ref 20,i0 199,i0 4,st "/claim/cut.py" 200]
def vV:Obj:=fv 3 "is_sign_number" "everyfork.kinds" 187 21
def wc:Obj:=tu [st "number" 205]
def yx:Obj:=fw 4 "sign_of"
def vk:Obj:=co [st "sign_of" 202,st "sign_of" 203,st "/claim/cut.py" 204,i0 6,i0 1,i0 0,i0 0,i0 3,.ref 23,.bool true,i0 181,.ref 24,.none,.ref 25,.ref 26,.ref 27,i0 206,i0 6,st "/claim/cut.py" 207]
def vH:Obj:=fv 4 "sign_of" "everyfork.kinds" 187 28
def wR:Obj:=tu [st "program" 212,st "kind" 213,st "record" 214]
def yz:Obj:=fw 5 "fields_of"
def vc:Obj:=co [st "fields_of" 209,st "fields_of" 210,st "/claim/cut.py" 211,i0 8,i0 2,i0 0,i0 0,i0 3,.ref 30,.bool true,i0 181,.ref 31,.none,.ref 32,.ref 33,.ref 34,i0 215,i0 8,st "/claim/cut.py" 216]
def vp:Obj:=fv 5 "fields_of" "everyfork.kinds" 187 35
def yq:Obj:=fw 6 "field_kinds"
def wn:Obj:=co [st "field_kinds" 218,st "field_kinds" 219,st "/claim/cut.py" 220,i0 13,i0 2,i0 0,i0 0,i0 3,.ref 37,.bool true,i0 181,.ref 38,.none,.none,.none,.ref 39,i0 221,i0 13,st "/claim/cut.py" 222]
def wO:Obj:=fv 6 "field_kinds" "everyfork.kinds" 187 40
def wA:Obj:=tu [st "program" 227,st "kind" 228,st "told" 229,st "field" 230,st "inner" 231,st "path" 232,st "sort" 233]
def yU:Obj:=fw 7 "parts"
def uz:Obj:=co [st "parts" 224,st "parts" 225,st "/claim/cut.py" 226,i0 15,i0 2,i0 0,i0 0,i0 3,.ref 42,.bool true,i0 181,.ref 43,.none,.ref 44,.ref 45,.ref 46,i0 234,i0 15,st "/claim/cut.py" 235]
def vL:Obj:=fv 7 "parts" "everyfork.kinds" 187 47
def wD:Obj:=tu [st "program" 242,st "f" 243,st "function" 244]
def yK:Obj:=fw 9 "function_of"
def wZ:Obj:=co [st "function_of" 239,st "function_of" 240,st "/claim/cut.py" 241,i0 24,i0 2,i0 0,i0 0,i0 3,.ref 49,.bool true,i0 181,.ref 50,.none,.ref 51,.ref 52,.ref 53,i0 245,i0 24,st "/claim/cut.py" 246]
def vK:Obj:=fv 9 "function_of" "everyfork.programs" 237 54
def ve:Obj:=tu [st "program" 253,st "kinds" 254,st "values" 255,st "told" 256,st "kind" 257,st "value" 258]
def ym:Obj:=fw 11 "flat_all"
def xu:Obj:=co [st "flat_all" 250,st "flat_all" 251,st "/claim/cut.py" 252,i0 30,i0 3,i0 0,i0 0,i0 3,.ref 56,.bool true,i0 181,.ref 57,.none,.ref 58,.ref 59,.ref 60,i0 259,i0 30,st "/claim/cut.py" 260]
def uP:Obj:=fv 11 "flat_all" "everyfork.values" 248 61
def vg:Obj:=tu [st "program" 265,st "kind" 266,st "value" 267]
def yG:Obj:=fw 12 "flat"
def we:Obj:=co [st "flat" 262,st "flat" 263,st "/claim/cut.py" 264,i0 35,i0 3,i0 0,i0 0,i0 3,.ref 63,.bool true,i0 181,.ref 64,.none,.ref 65,.ref 66,.ref 67,i0 268,i0 35,st "/claim/cut.py" 269]
def uS:Obj:=fv 12 "flat" "everyfork.values" 248 68
def vF:Obj:=tu [st "program" 274,st "kinds" 275,st "laid" 276,st "told" 277,st "place" 278,st "kind" 279,st "behind" 280]
def yA:Obj:=fw 13 "unflat_all"
def uE:Obj:=co [st "unflat_all" 271,st "unflat_all" 272,st "/claim/cut.py" 273,i0 39,i0 3,i0 0,i0 0,i0 3,.ref 70,.bool true,i0 181,.ref 71,.none,.ref 72,.ref 73,.ref 74,i0 281,i0 39,st "/claim/cut.py" 282]
def uT:Obj:=fv 13 "unflat_all" "everyfork.values" 248 75
def xc:Obj:=tu [st "program" 287,st "kind" 288,st "values" 289]
def yn:Obj:=fw 14 "unflat"
def wK:Obj:=co [st "unflat" 284,st "unflat" 285,st "/claim/cut.py" 286,i0 47,i0 3,i0 0,i0 0,i0 3,.ref 77,.bool true,i0 181,.ref 78,.none,.ref 79,.ref 80,.ref 81,i0 290,i0 47,st "/claim/cut.py" 291]
def vC:Obj:=fv 14 "unflat" "everyfork.values" 248 82
def yp:Obj:=fw 16 "param_kinds"
def uL:Obj:=co [st "param_kinds" 295,st "param_kinds" 296,st "/claim/cut.py" 297,i0 52,i0 2,i0 0,i0 0,i0 3,.ref 84,.bool true,i0 181,.ref 85,.none,.none,.none,.ref 86,i0 298,i0 52,st "/claim/cut.py" 299]
def wx:Obj:=fv 16 "param_kinds" "everyfork.rooms" 293 87
def vm:Obj:=tu [st "program" 304,st "f" 305,st "told" 306,st "param" 307,st "path" 308,st "sort" 309]
def yL:Obj:=fw 17 "param_parts"
def vn:Obj:=co [st "param_parts" 301,st "param_parts" 302,st "/claim/cut.py" 303,i0 54,i0 2,i0 0,i0 0,i0 3,.ref 89,.bool true,i0 181,.ref 90,.none,.ref 91,.ref 92,.ref 93,i0 310,i0 54,st "/claim/cut.py" 311]
def vQ:Obj:=fv 17 "param_parts" "everyfork.rooms" 293 94
def uI:Obj:=tu [st "room" 316]
def wB:Obj:=fw 18 "numbers_of"
def qe:Obj:=co [st "numbers_of" 313,st "numbers_of" 314,st "/claim/cut.py" 315,i0 60,i0 1,i0 0,i0 0,i0 3,.ref 96,.bool true,i0 181,.ref 97,.none,.ref 98,.ref 99,.ref 100,i0 317,i0 60,st "/claim/cut.py" 318]
def rC:Obj:=fv 18 "numbers_of" "everyfork.rooms" 293 101
def vG:Obj:=fw 19 "signs_of"
def rF:Obj:=co [st "signs_of" 320,st "signs_of" 321,st "/claim/cut.py" 322,i0 62,i0 1,i0 0,i0 0,i0 3,.ref 103,.bool true,i0 181,.ref 104,.none,.none,.none,.ref 105,i0 323,i0 62,st "/claim/cut.py" 324]
def pY:Obj:=fv 19 "signs_of" "everyfork.rooms" 293 106
def wy:Obj:=fw 20 "up_to_long"
def rJ:Obj:=co [st "up_to_long" 326,st "up_to_long" 327,st "/claim/cut.py" 328,i0 64,i0 3,i0 0,i0 0,i0 3,.ref 108,.bool true,i0 181,.ref 109,.none,.none,.none,.ref 110,i0 329,i0 64,st "/claim/cut.py" 330]
def qI:Obj:=fv 20 "up_to_long" "everyfork.rooms" 293 111
def vI:Obj:=fw 21 "choices_of"
def qr:Obj:=co [st "choices_of" 332,st "choices_of" 333,st "/claim/cut.py" 334,i0 74,i0 2,i0 0,i0 0,i0 3,.ref 113,.bool true,i0 181,.ref 114,.none,.none,.none,.ref 115,i0 335,i0 74,st "/claim/cut.py" 336]
def qO:Obj:=fv 21 "choices_of" "everyfork.rooms" 293 116
def rV:Obj:=tu [st "room" 341,st "sort" 342,st "choices" 343,st "told" 344,st "count" 345]
def wC:Obj:=fw 22 "how_many_of"
def qB:Obj:=co [st "how_many_of" 338,st "how_many_of" 339,st "/claim/cut.py" 340,i0 80,i0 2,i0 0,i0 0,i0 3,.ref 118,.bool true,i0 181,.ref 119,.none,.ref 120,.ref 121,.ref 122,i0 346,i0 80,st "/claim/cut.py" 347]
def qy:Obj:=fv 22 "how_many_of" "everyfork.rooms" 293 123
def qN:Obj:=tu [st "program" 352,st "f" 353,st "room" 354,st "told" 355,st "path" 356,st "sort" 357]
def wL:Obj:=fw 23 "how_many"
def qH:Obj:=co [st "how_many" 349,st "how_many" 350,st "/claim/cut.py" 351,i0 88,i0 3,i0 0,i0 0,i0 3,.ref 125,.bool true,i0 181,.ref 126,.none,.ref 127,.ref 128,.ref 129,i0 358,i0 88,st "/claim/cut.py" 359]
def qX:Obj:=fv 23 "how_many" "everyfork.rooms" 293 130
def wG:Obj:=fw 24 "part_size"
def qf:Obj:=co [st "part_size" 361,st "part_size" 362,st "/claim/cut.py" 363,i0 93,i0 1,i0 0,i0 0,i0 3,.ref 132,.bool true,i0 181,.ref 133,.none,.none,.none,.ref 134,i0 364,i0 93,st "/claim/cut.py" 365]
def pU:Obj:=fv 24 "part_size" "everyfork.rooms" 293 135
def vO:Obj:=fw 25 "laid_size"
def qU:Obj:=co [st "laid_size" 367,st "laid_size" 368,st "/claim/cut.py" 369,i0 99,i0 1,i0 0,i0 0,i0 3,.ref 137,.bool true,i0 181,.ref 138,.none,.none,.none,.ref 139,i0 370,i0 99,st "/claim/cut.py" 371]
def rH:Obj:=fv 25 "laid_size" "everyfork.rooms" 293 140
def qg:Obj:=tu [st "program" 376,st "f" 377,st "values" 378]
def vo:Obj:=fw 26 "size_of"
def re:Obj:=co [st "size_of" 373,st "size_of" 374,st "/claim/cut.py" 375,i0 101,i0 3,i0 0,i0 0,i0 3,.ref 142,.bool true,i0 181,.ref 143,.none,.ref 144,.ref 145,.ref 146,i0 379,i0 101,st "/claim/cut.py" 380]
def qd:Obj:=fv 26 "size_of" "everyfork.rooms" 293 147
def uD:Obj:=fw 27 "inputs"
def rR:Obj:=co [st "inputs" 382,st "inputs" 383,st "/claim/cut.py" 384,i0 103,i0 3,i0 0,i0 0,i0 3,.ref 149,.bool true,i0 181,.ref 150,.none,.none,.none,.ref 151,i0 385,i0 103,st "/claim/cut.py" 386]
def qL:Obj:=fv 27 "inputs" "everyfork.rooms" 293 152
def qY:Obj:=tu [st "_law_script" 393]
def xm:Obj:=fw 29 "_law_feed"
def qM:Obj:=co [st "_law_feed" 390,st "_law_feed" 391,st "/claim/cut.py" 392,i0 115,i0 1,i0 0,i0 0,i0 3,.ref 154,.bool true,i0 181,.ref 155,.none,.ref 156,.ref 157,.ref 158,i0 394,i0 115,st "/claim/cut.py" 395]
def pX:Obj:=fv 29 "_law_feed" "law_everyfork_k24_inputs_in_order" 388 159
def qE:Obj:=tu [st "_law_feed_here" 400,st "_law_many_here" 401,st "_law_found" 402,st "_law_cell" 403,st "_law_turn" 404,st "_law_mixed" 405]
def wN:Obj:=fw 30 "_law_draw"
def qx:Obj:=co [st "_law_draw" 397,st "_law_draw" 398,st "/claim/cut.py" 399,i0 117,i0 2,i0 0,i0 0,i0 3,.ref 161,.bool true,i0 181,.ref 162,.none,.ref 163,.ref 164,.ref 165,i0 406,i0 117,st "/claim/cut.py" 407]
def qt:Obj:=fv 30 "_law_draw" "law_everyfork_k24_inputs_in_order" 388 166
def wH:Obj:=fw 31 "_law_headed"
def rM:Obj:=co [st "_law_headed" 409,st "_law_headed" 410,st "/claim/cut.py" 411,i0 132,i0 1,i0 0,i0 0,i0 3,.ref 168,.bool true,i0 181,.ref 169,.none,.none,.none,.ref 170,i0 412,i0 132,st "/claim/cut.py" 413]
def rk:Obj:=fv 31 "_law_headed" "law_everyfork_k24_inputs_in_order" 388 171
def uV:Obj:=fw 32 "_law_sorts"
def rD:Obj:=co [st "_law_sorts" 415,st "_law_sorts" 416,st "/claim/cut.py" 417,i0 146,i0 2,i0 0,i0 0,i0 3,.ref 173,.bool true,i0 181,.ref 174,.none,.none,.none,.ref 175,i0 418,i0 146,st "/claim/cut.py" 419]
def qS:Obj:=fv 32 "_law_sorts" "law_everyfork_k24_inputs_in_order" 388 176
def wU:Obj:=fw 33 "_law_put_together"
def rz:Obj:=co [st "_law_put_together" 421,st "_law_put_together" 422,st "/claim/cut.py" 423,i0 153,i0 3,i0 0,i0 0,i0 3,.ref 178,.bool true,i0 181,.ref 179,.none,.none,.none,.ref 180,i0 424,i0 153,st "/claim/cut.py" 425]
def rY:Obj:=fv 33 "_law_put_together" "law_everyfork_k24_inputs_in_order" 388 181
def wo:Obj:=fw 34 "_law_all"
def pW:Obj:=co [st "_law_all" 427,st "_law_all" 428,st "/claim/cut.py" 429,i0 157,i0 2,i0 0,i0 0,i0 3,.ref 183,.bool true,i0 181,.ref 184,.none,.none,.none,.ref 185,i0 430,i0 157,st "/claim/cut.py" 431]
def qu:Obj:=fv 34 "_law_all" "law_everyfork_k24_inputs_in_order" 388 186
def vy:Obj:=fw 35 "_law_size"
def rG:Obj:=co [st "_law_size" 433,st "_law_size" 434,st "/claim/cut.py" 435,i0 173,i0 1,i0 0,i0 0,i0 3,.ref 188,.bool true,i0 181,.ref 189,.none,.none,.none,.ref 190,i0 436,i0 173,st "/claim/cut.py" 437]
def rT:Obj:=fv 35 "_law_size" "law_everyfork_k24_inputs_in_order" 388 191
def wF:Obj:=fw 36 "_law_inputs"
def rQ:Obj:=co [st "_law_inputs" 439,st "_law_inputs" 440,st "/claim/cut.py" 441,i0 177,i0 3,i0 0,i0 0,i0 3,.ref 193,.bool true,i0 181,.ref 194,.none,.none,.none,.ref 195,i0 442,i0 177,st "/claim/cut.py" 443]
def qh:Obj:=fv 36 "_law_inputs" "law_everyfork_k24_inputs_in_order" 388 196
def uO:Obj:=fw 37 "_law_many"
def rN:Obj:=co [st "_law_many" 445,st "_law_many" 446,st "/claim/cut.py" 447,i0 191,i0 3,i0 0,i0 0,i0 3,.ref 198,.bool true,i0 181,.ref 199,.none,.none,.none,.ref 200,i0 448,i0 191,st "/claim/cut.py" 449]
def qi:Obj:=fv 37 "_law_many" "law_everyfork_k24_inputs_in_order" 388 201
def rL:Obj:=tu [st "_law_feed_here" 454,st "_law_program" 455,st "_law_f" 456,st "_law_most" 457,st "_law_low" 458,st "_law_room_here" 459,st "_law_turn" 460]
def vA:Obj:=fw 38 "_law_room"
def qz:Obj:=co [st "_law_room" 451,st "_law_room" 452,st "/claim/cut.py" 453,i0 202,i0 4,i0 0,i0 0,i0 3,.ref 203,.bool true,i0 181,.ref 204,.none,.ref 205,.ref 206,.ref 207,i0 461,i0 202,st "/claim/cut.py" 462]
def qF:Obj:=fv 38 "_law_room" "law_everyfork_k24_inputs_in_order" 388 208
def vP:Obj:=fw 39 "_law_size_by"
def pV:Obj:=co [st "_law_size_by" 464,st "_law_size_by" 465,st "/claim/cut.py" 466,i0 218,i0 3,i0 0,i0 0,i0 3,.ref 210,.bool true,i0 181,.ref 211,.none,.none,.none,.ref 212,i0 467,i0 218,st "/claim/cut.py" 468]
def rq:Obj:=fv 39 "_law_size_by" "law_everyfork_k24_inputs_in_order" 388 213
def xi:Obj:=fw 40 "_law_right"
def qZ:Obj:=co [st "_law_right" 470,st "_law_right" 471,st "/claim/cut.py" 472,i0 223,i0 3,i0 0,i0 0,i0 3,.ref 215,.bool true,i0 181,.ref 216,.none,.none,.none,.ref 217,i0 473,i0 223,st "/claim/cut.py" 474]
def qp:Obj:=fv 40 "_law_right" "law_everyfork_k24_inputs_in_order" 388 218
def ql:Obj:=tu [st "_law_script" 479,st "_law_feed_here" 480,st "_law_k" 481,st "_law_program" 482,st "_law_f" 483,st "_law_low" 484,st "_law_great" 485]
def vR:Obj:=fw 41 "law"
def qc:Obj:=co [st "law" 476,st "law" 477,st "/claim/cut.py" 478,i0 238,i0 1,i0 0,i0 0,i0 3,.ref 220,.bool true,i0 181,.ref 221,.none,.ref 222,.ref 223,.ref 224,i0 486,i0 238,st "/claim/cut.py" 487]
def qj:Obj:=fv 41 "law" "law_everyfork_k24_inputs_in_order" 388 225
def t_0 (P:Params):BT:=(.node (boot_o_0 P) (.node (boot_o_1 P) (.node (zo P) (.node (boot_o_7 P) (.node uR (.node aV (.node aw (.node qN .nil .nil) (.node rG .nil .nil)) (.node vQ (.node qM .nil .nil) (.node aw .nil .nil))) (.node uz (.node xc (.node aV .nil .nil) (.node vA .nil .nil)) (.node rJ (.node uV .nil .nil) .nil))) (.node aw (.node yq (.node aV (.node qf .nil .nil) (.node aV .nil .nil)) (.node aw (.node qt .nil .nil) .nil)) (.node vK (.node uL (.node uD .nil .nil) (.node aw .nil .nil)) (.node aV (.node aw .nil .nil) .nil)))) (.node aw (.node aw (.node vc (.node yG (.node qX .nil .nil) (.node wF .nil .nil)) (.node aw (.node qE .nil .nil) .nil)) (.node wD (.node vC (.node re .nil .nil) (.node aV .nil .nil)) (.node vI (.node aV .nil .nil) .nil))) (.node yx (.node aV (.node uE (.node vO .nil .nil) (.node aw .nil .nil)) (.node pY (.node rM .nil .nil) .nil)) (.node aw (.node vm (.node aV .nil .nil) (.node qp .nil .nil)) (.node qB (.node qu .nil .nil) .nil))))) (.node (boot_o_5 P) (.node (boot_o_9 P) (.node aV (.node aw (.node vg (.node wL .nil .nil) (.node aw .nil .nil)) (.node aV (.node aw .nil .nil) (.node qc .nil .nil))) (.node aw (.node yn (.node aw .nil .nil) (.node qF .nil .nil)) (.node aw (.node qS .nil .nil) .nil))) (.node wc (.node wO (.node aw (.node aw .nil .nil) (.node rN .nil .nil)) (.node vG (.node aV .nil .nil) .nil)) (.node aV (.node aw (.node qL .nil .nil) (.node xi .nil .nil)) (.node aw (.node wo .nil .nil) .nil)))) (.node xC (.node uC (.node aw (.node uS (.node aV .nil .nil) (.node qh .nil .nil)) (.node qe (.node wN .nil .nil) .nil)) (.node yK (.node aV (.node aw .nil .nil) (.node pV .nil .nil)) (.node qO (.node rz .nil .nil) .nil))) (.node vH (.node aw (.node aw (.node rH .nil .nil) (.node rL .nil .nil)) (.node aV (.node aw .nil .nil) .nil)) (.node xu (.node yL (.node aw .nil .nil) (.node aV .nil .nil)) (.node aw (.node aV .nil .nil) .nil)))))) (.node (boot_o_2 P) (.node (boot_o_4 P) (.node (boot_o_8 P) (.node aw (.node wR (.node aV (.node aw .nil .nil) (.node rT .nil .nil)) (.node aw (.node pX .nil .nil) (.node vR .nil .nil))) (.node vL (.node aw (.node qg .nil .nil) (.node qz .nil .nil)) (.node qI (.node rD .nil .nil) .nil))) (.node aV (.node wn (.node vF (.node pU .nil .nil) (.node uO .nil .nil)) (.node aV (.node aw .nil .nil) .nil)) (.node aw (.node wx (.node rR .nil .nil) (.node aV .nil .nil)) (.node rV (.node aV .nil .nil) .nil)))) (.node yJ (.node yQ (.node vp (.node we (.node aw .nil .nil) (.node rQ .nil .nil)) (.node wB (.node aw .nil .nil) .nil)) (.node aw (.node aw (.node qd .nil .nil) (.node vP .nil .nil)) (.node qr (.node wU .nil .nil) .nil))) (.node vk (.node wA (.node uT (.node qU .nil .nil) (.node aV .nil .nil)) (.node aw (.node rk .nil .nil) .nil)) (.node ym (.node aw (.node qY .nil .nil) (.node aw .nil .nil)) (.node qy (.node aw .nil .nil) .nil))))) (.node (boot_o_6 P) (.node (boot_o_10 P) (.node uW (.node yz (.node aw (.node qH .nil .nil) (.node aV .nil .nil)) (.node uI (.node aV .nil .nil) (.node qj .nil .nil))) (.node aV (.node wK (.node vo .nil .nil) (.node aw .nil .nil)) (.node aV (.node aw .nil .nil) .nil))) (.node aw (.node aw (.node yA (.node aV .nil .nil) (.node qi .nil .nil)) (.node rF (.node wH .nil .nil) .nil)) (.node ve (.node aV (.node aw .nil .nil) (.node qZ .nil .nil)) (.node wC (.node pW .nil .nil) .nil)))) (.node xP (.node vV (.node aV (.node aw (.node wG .nil .nil) (.node aw .nil .nil)) (.node rC (.node qx .nil .nil) .nil)) (.node wZ (.node yp (.node aV .nil .nil) (.node rq .nil .nil)) (.node aw (.node rY .nil .nil) .nil))) (.node aw (.node yU (.node aV (.node aw .nil .nil) (.node aw .nil .nil)) (.node wy (.node aV .nil .nil) .nil)) (.node uP (.node vn (.node xm .nil .nil) (.node ql .nil .nil)) (.node aV (.node vy .nil .nil) .nil)))))))
def s_0 (w:World) (os:OsState):SharedT:=⟨t_0 w.params,227,{ :Life },#[],⟨0,0,0,0⟩,489,os⟩
def q0:List Stmt:=(pE.main.body.drop 0).take 42
theorem l_0:∀ (w:World) (os:OsState),segRunT treeTable pE w m0 ann 1 1090 (sb w os) (piecesOf q0 env cE ⟨0,0,0,0⟩ B)=some (.next,s_0 w os,cE,⟨238,0,249,15⟩):=fun w os=>by kernel_rfl
def hz (P:Params):Heap:=⟨⟨[(boot_o_0 P),(boot_o_1 P),(boot_o_2 P),(zo P),(boot_o_4 P),(boot_o_5 P),(boot_o_6 P),(boot_o_7 P),(boot_o_8 P),(boot_o_9 P),(boot_o_10 P),aw,yJ,xC,xP,uR,aw,aV,uW,aw,yQ,uC,vV,aw,aV,wc,aw,yx,vk,vH,aw,aV,wR,aw,yz,vc,vp,aw,aV,yq,wn,wO,aw,aV,wA,aw,yU,uz,vL,aw,aV,wD,aw,yK,wZ,vK,aw,aV,ve,aw,ym,xu,uP,aw,aV,vg,aw,yG,we,uS,aw,aV,vF,aw,yA,uE,uT,aw,aV,xc,aw,yn,wK,vC,aw,aV,yp,uL,wx,aw,aV,vm,aw,yL,vn,vQ,aw,aV,uI,aw,wB,qe,rC,aw,aV,vG,rF,pY,aw,aV,wy,rJ,qI,aw,aV,vI,qr,qO,aw,aV,rV,aw,wC,qB,qy,aw,aV,qN,aw,wL,qH,qX,aw,aV,wG,qf,pU,aw,aV,vO,qU,rH,aw,aV,qg,aw,vo,re,qd,aw,aV,uD,rR,qL,aw,aV,qY,aw,xm,qM,pX,aw,aV,qE,aw,wN,qx,qt,aw,aV,wH,rM,rk,aw,aV,uV,rD,qS,aw,aV,wU,rz,rY,aw,aV,wo,pW,qu,aw,aV,vy,rG,rT,aw,aV,wF,rQ,qh,aw,aV,uO,rN,qi,aw,aV,rL,aw,vA,qz,qF,aw,aV,vP,pV,rq,aw,aV,xi,qZ,qp,aw,aV,ql,aw,vR,qc,qj]⟩,{ :Life }⟩
def sz (w:World) (os:OsState):Shared:=⟨hz w.params,#[],⟨0,0,0,0⟩,489,os⟩
theorem Bc:∀ (w:World) (os:OsState),topRun treeTable pE w m0 ann 2 (s_0 w os).abs (Thread.mk (doneF .next) cE ⟨238,0,249,15⟩ B)=some (sz w os):=fun w os=>by kernel_rfl
theorem AN:∀ (w:World) (os:OsState),topRun treeTable pE w m0 ann (12+(1+(1090+2))) (s0 w os) (topStub pE)=some (sz w os):=fun w os=>go_top (Bh w os) (piece_block (xy w os) (piece_app (l:=q0) (segRun_of (l_0 w os)) (piece_nil (Bc w os))))
def HK (P:Params):Frag:=[(2,(boot_o_2 P)),(3,(zo P)),(15,uR),(16,aw),(18,uW),(19,aw),(21,uC),(22,vV),(23,aw),(25,wc),(26,aw),(28,vk),(29,vH),(30,aw),(32,wR),(33,aw),(35,vc),(36,vp),(37,aw),(40,wn),(41,wO),(42,aw),(44,wA),(45,aw),(47,uz),(48,vL),(49,aw),(51,wD),(52,aw),(54,wZ),(55,vK),(56,aw),(58,ve),(59,aw),(61,xu),(62,uP),(63,aw),(65,vg),(66,aw),(68,we),(69,uS),(70,aw),(72,vF),(73,aw),(75,uE),(76,uT),(77,aw),(79,xc),(80,aw),(82,wK),(83,vC),(84,aw),(87,uL),(88,wx),(89,aw),(91,vm),(92,aw),(94,vn),(95,vQ),(96,aw),(98,uI),(99,aw),(101,qe),(102,rC),(103,aw),(106,rF),(107,pY),(108,aw),(111,rJ),(112,qI),(113,aw),(116,qr),(117,qO),(118,aw),(120,rV),(121,aw),(123,qB),(124,qy),(125,aw),(127,qN),(128,aw),(130,qH),(131,qX),(132,aw),(135,qf),(136,pU),(137,aw),(140,qU),(141,rH),(142,aw),(144,qg),(145,aw),(147,re),(148,qd),(149,aw),(150,aV),(152,rR),(153,qL),(154,aw),(156,qY),(157,aw),(159,qM),(160,pX),(161,aw),(163,qE),(164,aw),(166,qx),(167,qt),(168,aw),(171,rM),(172,rk),(173,aw),(176,rD),(177,qS),(178,aw),(181,rz),(182,rY),(183,aw),(186,pW),(187,qu),(188,aw),(191,rG),(192,rT),(193,aw),(196,rQ),(197,qh),(198,aw),(201,rN),(202,qi),(203,aw),(205,rL),(206,aw),(208,qz),(209,qF),(210,aw),(213,pV),(214,rq),(215,aw),(218,qZ),(219,qp),(220,aw),(222,ql),(223,aw),(225,qc),(226,qj)]
def HA:List Addr:=[2,3,15,16,18,19,21,22,23,25,26,28,29,30,32,33,35,36,37,40,41,42,44,45,47,48,49,51,52,54,55,56,58,59,61,62,63,65,66,68,69,70,72,73,75,76,77,79,80,82,83,84,87,88,89,91,92,94,95,96,98,99,101,102,103,106,107,108,111,112,113,116,117,118,120,121,123,124,125,127,128,130,131,132,135,136,137,140,141,142,144,145,147,148,149,150,152,153,154,156,157,159,160,161,163,164,166,167,168,171,172,173,176,177,178,181,182,183,186,187,188,191,192,193,196,197,198,201,202,203,205,206,208,209,210,213,214,215,218,219,220,222,223,225,226]
theorem AK (P:Params):HA=(HK P).map (·.1):=by kernel_rfl
def qV:Program:={ pE with main:={ pE.main with body:=[top 41] } }
def lo:List Str:=[(sx "PLAIN_KINDS"),(sx "SIGNS"),(sx "is_sign_number"),(sx "sign_of"),(sx "fields_of"),(sx "field_kinds"),(sx "parts"),(sx "function_of"),(sx "flat_all"),(sx "flat"),(sx "unflat_all"),(sx "unflat"),(sx "param_kinds"),(sx "param_parts"),(sx "numbers_of"),(sx "signs_of"),(sx "up_to_long"),(sx "choices_of"),(sx "how_many_of"),(sx "how_many"),(sx "part_size"),(sx "laid_size"),(sx "size_of"),(sx "inputs"),(sx "_law_feed"),(sx "_law_draw"),(sx "_law_headed"),(sx "_law_sorts"),(sx "_law_put_together"),(sx "_law_all"),(sx "_law_size"),(sx "_law_inputs"),(sx "_law_many"),(sx "_law_room"),(sx "_law_size_by"),(sx "_law_right")]
abbrev rW:RowW:=OpenRow.toRowW (OpenLaw.row PySem.Challenge.rw_everyfork_k24_inputs_in_order)
abbrev Xt:Shared→Bool:=fun s=>xlAt qV [] s&&recOk (RowW.records rW) s
abbrev hk:Hook:=kHook HK HA AK
theorem zI:∀ w:World,(fencedOpening treeTable pE w 5000).map (fun s=>(s.heap,s.gens,s.drawn,s.toks))=some (boot_heap w.params,Array.mk [],boot_drawn,boot_toks) :=
 boot_open (by kernel_rfl) (by kernel_rfl) fun s=>by kernel_rfl
theorem Ae:∀ w:World,((boot_heap w.params).isNs mainGlobals&&(Array.mk []:Array GenState).size==0,(boot_heap w.params).objs.size,(boot_heap w.params).nsMap mainGlobals "__annotations__")=(true,m0,ann):=fun w=>by kernel_rfl
theorem yj:∀ w:World,(fun os=>((staticsOk (importedModules pE.main.body) (boot_heap w.params) (hz w.params)&&namesBound pE (hz w.params)&&gensDone ⟨hz w.params,#[],⟨0,0,0,0⟩,489,os⟩&&laidKept (boot_heap w.params) (hz w.params)),openSeen qV lo (importedModules pE.main.body) Xt true ⟨hz w.params,#[],⟨0,0,0,0⟩,489,os⟩,hk.obs ⟨hz w.params,#[],⟨0,0,0,0⟩,489,os⟩))=fun _=>(true,openGood qV lo,hk.val w):=fun w=>by kernel_rfl
theorem left:LeftO pE qV lo Xt hk.obs hk.val 5000:=LeftO.of_pieces (M:=(12+(1+(1090+2)))) zI Ae AN (by kernel_rfl) yj
end
end HD
namespace L2
open PySem PySem.Spec PyProof.Rows
theorem um {P:Program} {w:World} {K:Frag} {mg mb:Str→Option Value} {k:Nat} {fa a tA cA:Addr} {fd:FuncData} {x:Str} {sp:Sp} {s₁:Shared} {vs:List Value} {ns:List Int}
  (KX:K.In s₁.heap) (hKt:K.lookup tA=none) (hT:s₁.heap.get? tA=some { cls:=.none,data:=.fields #[] }) (hC:PySem.W.CodeHd s₁.heap cA tA)
  (hns:s₁.heap.Ns mainGlobals mg) (hb:s₁.heap.Ns builtinsNs mb) (hbb:∀ x:Str,x ≠ "__name__"→mb x=bootBuiltins x) (hlim:s₁.heap.NoLimit) (hg:s₁.gens=#[])
  (ha:s₁.heap.get? a=some { cls:=.type "list",data:=.seq vs.toArray }) (hi:IntsAre vs ns) (hl:ns.length≤sizeLine) (hr:cS k callerA)
  (hbm:s₁.heap.BuiltinsAt mg tA) (F:∀ base:Heap,K.In base→base.Ns mainGlobals mg→base.BuiltinsAt mg tA→bg P w K mg base CX0 k fa fd [x] sp) (hbind:∀ (s:Shared) (u:Value),BindsTo s fd ⟨[u],[]⟩ [(x,u)])
  (hsp:∀ H:Hp,H tA=some (.tbl #[])→SqL K H a (ns.map V.int)→sp [.ref a] H (fun v _=>v=.bl true) fun _ _ _=>False) :
  codeAny (model P w) callerA (.call (.ref fa) ⟨[.ref a],[]⟩) (fun r s'=>r=.ok (.ret (.bool true))∧OldK s₁.heap s'.heap∧s'.os=s₁.os∧AllBare s'.gens) s₁:=by
 have rv:=mM hi
 have lenV:=hi.length
 have nat:a≠tA:=fun z=>by rw [z,hT] at ha; cases ha
 have core:∀ H:Hp,H tA=some (.tbl #[])→(H a=none∨∃ o xs,H a=some (.frz o (.lst xs)))→SqL K H a (ns.map V.int)→HOk P w H s₁.heap→(∀ b,H b≠none→b=a∨b=tA)→(H a≠none→K.lookup a=none) →
   codeAny (model P w) callerA (.call (.ref fa) ⟨[.ref a],[]⟩) (fun r s'=>r=.ok (.ret (.bool true))∧OldK s₁.heap s'.heap∧s'.os=s₁.os∧AllBare s'.gens) s₁:=by
  intro H hHt hO hS hok hA hK
  have base_of:∀ {b:Addr} {o:Obj},s₁.heap.get? b=some o→H b=none→(mB s₁.heap H).get? b=some o:=fun e n=>vT e n
  have noA:∀ {b:Addr} {o:Obj} {es:Array DictEntry} {ep:Nat},s₁.heap.get? b=some o→o.data=.dict es ep→H b=none:=fun {b o es ep} e d=>by
   cases q:H b with
   | none=>rfl
   | some u =>
    rcases hA b (by rw [q]; simp) with e' | e'
    ·subst e'
     rw [ha] at e; cases e
     have d':Data.seq vs.toArray _=Data.dict es ep:=d
     cases d'
    ·subst e'
     rw [hT] at e; cases e
     cases d
  have nsK:∀ {b:Addr} {m:Str→Option Value},s₁.heap.Ns b m→(mB s₁.heap H).Ns b m:=fun {b m} ⟨o,es,ep,e,d,r⟩=>⟨o,es,ep,base_of e (noA e d),d,r⟩
  have hKb:K.In (mB s₁.heap H):=fun b o e=>base_of (KX b o e) (by
   cases q:H b with
   | none=>rfl
   | some u =>
    rcases hA b (by rw [q]; simp) with e' | e'
    ·subst e'
     rw [hK (by rw [q]; simp)] at e; cases e
    ·subst e'
     rw [hKt] at e; cases e)
  have hM:Mod K mg (mB s₁.heap H):=⟨hKb,nsK hns,⟨mb,nsK hb,hbb⟩,let ⟨mc,h1,h2⟩:=hlim; ⟨mc,nsK h1,h2⟩⟩
  have e0:pR P w K mg (mB s₁.heap H) callerA [] s₁ H:=⟨rfl,hM,fun b o e=>xY e,Nat.le_of_eq (uq _ _),trivial,fun b hb=>absurd (show b∈([]:List Addr) from hb) (by simp),hok,.of_eq hg⟩
  have hBb:(mB s₁.heap H).BuiltinsAt mg tA:=by
   obtain ⟨bm,ob,b1,b2,b3,b4,b5,b6,b7,b8⟩:=hbm
   refine ⟨bm,ob,b1,b2,b3,b4,base_of b5 ?_,b6,b7,b8⟩
   cases q:H bm with
   | none=>rfl
   | some u =>
    rcases hA bm (by rw [q]; simp) with e' | e'
    ·subst e'
     rw [ha] at b5; cases b5; cases b8
    ·exact absurd e' b4
  refine codeAny_mono ((F _ hKb (nsK hns) hBb).run callerA [] s₁ H ⟨[.ref a],[]⟩ [.ref a] [.ref a] _ _ hr e0 (hbind s₁ (.ref a)) (.cons rfl .nil) (hsp H hHt hS)) fun r s' h=>?_
  cases r with
  | error e=>exact False.elim h
  | ok fl =>
   cases fl with
   | next=>exact False.elim h
   | brk=>exact False.elim h
   | cont=>exact False.elim h
   | ret u =>
    obtain ⟨v,H',os,bare,un,hok',r',q⟩:=h
    have q':v=.bl true:=q
    subst q'
    obtain rfl:u=Value.bool true:=r'
    have kp:∀ b o,b≠tA→s₁.heap.get? b=some o→s'.heap.get? b=some o:=fun b o nb e=>by
     cases q:H b with
     | none=>exact un.keep b o e q (by intro z; exact absurd (show b∈([]:List Addr) from z) (by simp)) (by simp)
     | some u =>
      rcases hA b (by rw [q]; simp) with e' | e'
      ·subst e'
       rcases hO with z | ⟨ob,xs,z⟩
       ·rw [q] at z; cases z
       ·have z2:=un.frzs b ob _ z
        obtain ⟨e1,_⟩:=hok b _ z
        obtain ⟨e2,_⟩:=hok' b _ z2
        rw [e] at e1; cases e1
        exact e2
      ·exact absurd e' nb
    obtain ⟨more,hm⟩:=un.tbls tA _ hHt
    have hm':s'.heap.get? tA=some { cls:=.none,data:=.fields (#[]++more) }:=hok' tA _ hm
    refine ⟨rfl,⟨fun b o e=>?_,fun b o e=>?_⟩,os,bare⟩
    ·by_cases z:b=tA
     ·subst z
      rw [hT] at e; cases e
      obtain ⟨oc,vs',_,_,_,_,_,_,_,hoc,hcc,hdc,h11,_⟩:=hC
      exact .inr (.inl ⟨⟨cA,oc,vs',hoc,hcc,hdc,h11⟩,rfl,#[],more,rfl,hm'⟩)
     ·exact .inl (kp b o z e)
    ·by_cases z:b=tA
     ·subst z
      exact ⟨_,hm'⟩
     ·exact ⟨o,kp b o z e⟩
 cases hk:K.lookup a with
 | some o =>
  have e:=KX a o hk
  rw [ha] at e
  cases e
  refine core (fun b=>if b=tA then some (.tbl #[]) else none) (if_pos rfl) (.inl (if_neg nat)) (.inr ⟨_,vs.toArray,_,hk,rfl,rfl,rfl,by rw [List.size_toArray,lenV]; exact hl,by simpa using rv⟩) (fun b u z=>?_) (fun b z=>?_) fun z=>absurd (if_neg nat) z
  ·by_cases hb:b=tA
   ·have z':=(if_pos hb).symm.trans z
    cases z'
    subst hb
    exact hT
   ·have z':=(if_neg hb).symm.trans z
    cases z'
  ·by_cases hb:b=tA
   ·exact .inr hb
   ·exact absurd (if_neg hb) z
 | none =>
  refine core (fun b=>if b=tA then some (.tbl #[]) else if b=a then some (.frz { cls:=.type "list",data:=.seq vs.toArray } (.lst (ns.map V.int))) else none) (if_pos rfl) (.inr ⟨_,_,(if_neg nat).trans (if_pos rfl)⟩) (.inl (.inr ⟨{ cls:=.type "list",data:=.seq vs.toArray },(if_neg nat).trans (if_pos rfl)⟩)) (fun b u z=>?_) (fun b z=>?_) fun _=>hk
  ·by_cases hb:b=tA
   ·have z':=(if_pos hb).symm.trans z
    cases z'
    subst hb
    exact hT
   ·have z1:=(if_neg hb).symm.trans z
    by_cases hb2:b=a
    ·have z':=(if_pos hb2).symm.trans z1
     cases z'
     subst hb2
     exact ⟨ha,by rw [List.length_map]; exact hl,vs,_,rv,ha⟩
    ·have z':=(if_neg hb2).symm.trans z1
     cases z'
  ·by_cases hb:b=tA
   ·exact .inr hb
   ·by_cases hb2:b=a
    ·exact .inl hb2
    ·exact absurd ((if_neg hb).trans (if_neg hb2)) z
theorem walk_ofT {l:PySem.W.OpenLaw} {n k:Nat} {q:Program} {loose:List Str} {XP:(Str→Option Value)→Heap→Prop} {YP:World→Heap→Prop} {d:DefRec} {K:Params→Frag} {sp:World→Sp} {x:Str} {tA cA:Addr}
  (hn:l.most=some n) (hn2:n≤sizeLine) (hdf:d.params.defaults=[]) (hr:cS k callerA)
  (hY:∀ (w:World) (h:Heap),YP w h→(K w.params).In h∧(K w.params).lookup tA=none∧h.get? tA=some { cls:=.none,data:=.fields #[] }∧PySem.W.CodeHd h cA tA)
  (F:∀ (w:World) (mg:Str→Option Value) (fa:Addr) (h:Heap),(K w.params).In h→h.Ns mainGlobals mg→mg d.name=some (.ref fa) →
   ∃ fd:FuncData,(∀ (s:Shared) (u:Value),BindsTo s fd ⟨[u],[]⟩ [(x,u)]) ∧
    ∀ base:Heap,(K w.params).In base→base.Ns mainGlobals mg→base.BuiltinsAt mg tA→bg l.prog w (K w.params) mg base CX0 k fa fd [x] (sp w))
  (hsp:∀ (w:World) (H:Hp) (a:Addr) (ns:List Int),ns.length≤n→H tA=some (.tbl #[])→SqL (K w.params) H a (ns.map V.int)→sp w [.ref a] H (fun v _=>v=.bl true) fun _ _ _=>False) :
  PySem.W.WalkO q loose XP YP l.row.toRowW d [] (fun f vs=>PySem.call f vs):=by
 refine Att.attach_call hn hdf fun w s₀ s₁ mg mb fa o pm cd doc a vs ns G Y ho hd hcd hmg hobj hints hlen hg=>?_
 obtain ⟨KX,hKt,hT,hC⟩:=hY w _ Y
 obtain ⟨fd,hb,hF⟩:=F w mg fa _ KX G.T.g hmg
 have hBm:s₁.heap.BuiltinsAt mg tA:=by
  obtain ⟨bm,ob,b1,b2,b3,b4,b5,b6⟩:=G.T.bmain
  refine ⟨bm,ob,b1,b2,fun z=>?_,fun z=>?_,b3,b4,b5,b6⟩
  ·obtain ⟨o9,es,ep,e,hd9,_⟩:=G.T.g
   rw [z,e] at b3; cases b3; rw [hd9] at b6; cases b6
  ·rw [z,hT] at b3; cases b3; cases b4
 exact um KX hKt hT hC G.T.g G.T.b G.T.builtins G.T.nolimit hg hobj hints (Nat.le_trans hlen hn2) hr hBm hF hb (fun H hO hS=>hsp w H a ns hlen hO hS)
structure Df (K:Frag) (mg:Str→Option Value) (x:Str) (st:Stmt) (ps:List Str) (f:Addr) (fd:FuncData):Prop where
 F:Fun K x x st f fd
 b:dA K fd ps []
 m:mg x=some (.ref f)
def fdA (K:Frag) (f:Addr):FuncData:=match K.lookup f with | some ⟨_,_,.func d,_⟩=>d | _=>default
abbrev fdO (K:Frag) (f:Addr) (x:Str) (st:Stmt):FuncData:=PySem.W.fnOf x x (defArgs st) (defBody st) (defScope st) .none (fdA K f).kwdefaults (fdA K f).doc (fdA K f).pyModule (fdA K f).annotations (fdA K f).code (fdA K f).closureTuple
abbrev DfE (K:Frag) (x:Str) (f:Addr) (st:Stmt):Prop:=(PySem.W.nsIn K mainGlobals x,K.lookup f,PySem.W.codeIn K (fdA K f).code x,keepIn K (.ref f))=(some (some (.ref f)),some ⟨.type "function",none,.func (fdO K f x st),#[]⟩,true,true)
section
variable {K:Frag} {mg:Str→Option Value} {h:Heap}
theorem bl1 {α:Type} {C:List α→Prop} (h:∀ a,C [a]) (us:List α) (hl:us.length=1):C us:=by
 obtain ⟨a,rfl⟩:=List.length_eq_one_iff.mp hl
 exact h a
theorem blc {α:Type} {n:Nat} {us:List α} (hl:us.length=n+1):∃ a r,us=a::r∧r.length=n:=by
 cases us with
 | nil=>cases hl
 | cons a r=>exact ⟨a,r,rfl,Nat.succ.inj hl⟩
theorem bl2 {α:Type} {C:List α→Prop} (h:∀ a b,C [a,b]) (us:List α) (hl:us.length=2):C us:=by
 obtain ⟨a,r,rfl,e⟩:=blc hl
 exact bl1 (C:=fun r=>C (a::r)) (h a) r e
theorem bl3 {α:Type} {C:List α→Prop} (h:∀ a b c,C [a,b,c]) (us:List α) (hl:us.length=3):C us:=by
 obtain ⟨a,r,rfl,e⟩:=blc hl
 exact bl2 (C:=fun r=>C (a::r)) (h a) r e
theorem bl4 {α:Type} {C:List α→Prop} (h:∀ a b c d,C [a,b,c,d]) (us:List α) (hl:us.length=4):C us:=by
 obtain ⟨a,r,rfl,e⟩:=blc hl
 exact bl3 (C:=fun r=>C (a::r)) (h a) r e
theorem bw (X:K.In h) (G:h.Ns mainGlobals mg) {x:Str} {f:Addr} {st:Stmt} {ps:List Str} (e:DfE K x f st)
  (hb:∀ (kV doc pm:Value) (an:Option Addr) (cdv ct:Value) (us:List Value),us.length=ps.length→bindArgs (PySem.W.fnOf x x (defArgs st) (defBody st) (defScope st) .none kV doc pm an cdv ct) ⟨us,[]⟩=pure (ps.zip us)):Df K mg x st ps f (fdO K f x st):=by
 obtain ⟨e1,e⟩:=Prod.mk.inj e
 obtain ⟨e2,e⟩:=Prod.mk.inj e
 obtain ⟨e3,e4⟩:=Prod.mk.inj e
 have F:Fun K x x st f (fdO K f x st):=zO e2 e3 e4
 exact ⟨F,F.binds hb,mg_of X G e1⟩
theorem Df.cal {P:Program} {w:World} {base:Heap} {x:Str} {st:Stmt} {ps:List Str} {f:Addr} {fd:FuncData} {k:Nat} {sp:Sp} (D:Df K mg x st ps f fd) (o:bg P w K mg base CX0 k f fd ps sp):K6.Cal P w K mg base k x ps sp:=⟨f,fd,o,D.b,D.F.kp,D.m⟩
def zA (K:Frag) (a:Addr):Array Value:=match K.lookup a with | some ⟨_,_,.seq xs _,_⟩=>xs | _=>#[]
abbrev tO (K:Frag) (a:Addr):Obj:=⟨.type "tuple",none,.seq (zA K a) 0,#[]⟩
def vIs:V→Value→Bool
 | .int i,.int j _=>i==j
 | .str z,.str y _=>z==y
 | .ref a,.ref b=>a==b
 | _,_=>false
theorem An {v:V} {u:Value} (h:vIs v u=true):br v u:=by
 unfold vIs at h
 split at h
 ·exact ⟨_,by rw [eq_of_beq h]⟩
 ·exact ⟨_,by rw [eq_of_beq h]⟩
 ·show _=_
  rw [eq_of_beq h]
 ·cases h
def pe:List V→List Value→Bool
 | [],[]=>true
 | v::vs,u::us=>vIs v u&&pe vs us
 | _,_=>false
theorem oQ:∀ {vs:List V} {us:List Value},pe vs us=true→aK vs us
 | [],[],_=>.nil
 | v::vs,u::us,h=>by
  simp only [pe,Bool.and_eq_true] at h
  exact .cons (An h.1) (oQ h.2)
 | [],_::_,h=>by cases h
 | _::_,[],h=>by cases h
theorem tq {a:Addr} {xs:List V} (e:K.lookup a=some (tO K a)) (hl:xs.length≤1000) (h:pe xs (zA K a).toList=true):∀ H,SqT K H a xs:=fun H=>by
 have r:=oQ h
 have:=aK.length r
 refine .inr ⟨_,_,0,e,rfl,rfl,?_,r⟩
 have:=aC hl
 rw [← Array.length_toList]
 omega
def Cn (K:Frag) (a:Addr) (x:Str):Tok:=match PySem.W.nsIn K a x with | some (some (.int _ t))=>t | some (some (.str _ t))=>t | _=>0
abbrev TuE (K:Frag) (x:Str) (a:Addr) (xs:List V):Prop:=(PySem.W.nsIn K mainGlobals x,K.lookup a,pe xs (zA K a).toList)=(some (some (.ref a)),some (tO K a),true)
theorem mT (X:K.In h) (G:h.Ns mainGlobals mg) {x:Str} {a:Addr} {xs:List V} (e:TuE K x a xs) (hl:xs.length≤1000):∃ a,mg x=some (.ref a)∧∀ H,SqT K H a xs:=by
 obtain ⟨e1,e⟩:=Prod.mk.inj e
 obtain ⟨e2,e3⟩:=Prod.mk.inj e
 exact ⟨a,mg_of X G e1,tq e2 hl e3⟩
end
open PySem
theorem yd {K:Frag} {x:Str} {f c:Addr} {st:Stmt} (e:DfE K x f st) (hc:(fdA K f).code=.ref c):xZ K x x st f (fdO K f x st) c:=by
 obtain ⟨e1,e⟩:=Prod.mk.inj e
 obtain ⟨e2,e⟩:=Prod.mk.inj e
 obtain ⟨e3,e4⟩:=Prod.mk.inj e
 refine ⟨.type "function",none,(fdA K f).kwdefaults,(fdA K f).doc,(fdA K f).pyModule,(fdA K f).annotations,(fdA K f).closureTuple,#[],?_,e2,?_⟩
 ·unfold fdO
  rw [hc]
 ·rw [← hc]
  exact e3
def xf (t:Addr) (K:Frag):Frag:=K.filter fun p=>!(p.1==t)
theorem iM (t:Addr):∀ K:Frag,List.lookup t (xf t K)=none
 | []=>rfl
 | (b,o)::K=>by
  unfold xf
  rw [List.filter_cons]
  by_cases h:b=t
  ·subst h
   rw [if_neg (by simp)]
   exact iM b K
  ·rw [if_pos (by simp [h])]
   rw [List.lookup_cons]
   have:(t==b)=false:=by simp; exact fun z=>h z.symm
   rw [this]
   exact iM t K
theorem nV {t:Addr} {b:Addr} {o:Obj}:∀ {K:Frag},List.lookup b (xf t K)=some o→List.lookup b K=some o
 | [],h=>h
 | (c,u)::K,h=>by
  unfold xf at h
  rw [List.filter_cons] at h
  by_cases hc:c=t
  ·subst hc
   rw [if_neg (by simp)] at h
   have n:b≠c:=fun z=>by rw [z,show List.lookup c (K.filter fun p=>!(p.1==c))=none from iM c K] at h; cases h
   rw [List.lookup_cons]
   have:(b==c)=false:=by simpa using n
   rw [this]
   exact nV (K:=K) h
  ·rw [if_pos (by simp [hc])] at h
   rw [List.lookup_cons] at h ⊢
   by_cases hb:(b==c)=true
   ·rw [hb] at h ⊢
    exact h
   ·rw [Bool.eq_false_iff.mpr hb] at h ⊢
    exact nV (K:=K) h
end L2
namespace K6
open PySem L2
section
variable {P:Program} {w:World} {K:Frag} {mg:Str→Option Value} {base:Heap} {f g:Addr} {fd gd:FuncData}
theorem yF {k:Nat} {ps:List Str} {sp:Sp} (no:∀ vs H Q E,¬ sp vs H Q E):bg P w K mg base CX0 k f fd ps sp :=
 ⟨fun vs H Q E h=>absurd h (no vs H Q E),fun A outer s H args us vs Q E _ _ _ _ h=>absurd h (no vs H Q E)⟩
theorem nG (T:G0 mg) (TZ:mg "zip"=none) (TP:GPk K mg) (F:Fun K "flat" "flat" nW f fd) (b:dA K fd ["program", "kind", "value"] []) (m:mg "flat"=some (.ref f)) {f7:Addr} {fd7:FuncData} (F7:Fun K "flat_all" "flat_all" fB f7 fd7) (b7:dA K fd7 ["program", "kinds", "values"] []) (m7:mg "flat_all"=some (.ref f7)) (D:Cal P w K mg base 2 "field_kinds" ["program", "kind"] iK):∀ n:Nat,bg P w K mg base CX0 (2*n+1) f fd ["program", "kind", "value"] (rZ K n)
 | 0=>yF fun vs H Q E h=>by
  obtain ⟨v,k,u,d,R,_,_,_,hd,_⟩:=h
  exact hd
 | n+1=>yb T TZ TP F D ⟨f7,fd7,jO T TZ TP F7 ⟨f,fd,nG T TZ TP F b m F7 b7 m7 D n,b,F.kp,m⟩,b7,F7.kp,m7⟩
theorem uU (T:G0 mg) (TP:GPk K mg) (F:Fun K "unflat" "unflat" ja f fd) (b:dA K fd ["program", "kind", "values"] []) (m:mg "unflat"=some (.ref f)) {f7:Addr} {fd7:FuncData} (F7:Fun K "unflat_all" "unflat_all" dF f7 fd7) (b7:dA K fd7 ["program", "kinds", "laid"] []) (m7:mg "unflat_all"=some (.ref f7)) {f8:Addr} {fd8:FuncData} (F8:Fun K "parts" "parts" iV f8 fd8) (b8:dA K fd8 ["program", "kind"] []) (m8:mg "parts"=some (.ref f8)) (D1:Cal P w K mg base 1 "fields_of" ["program", "kind"] gN) (D:Cal P w K mg base 2 "field_kinds" ["program", "kind"] iK):∀ n:Nat,bg P w K mg base CX0 (2*n+2) f fd ["program", "kind", "values"] (As n)
 | 0=>yF fun vs H Q E h=>by
  obtain ⟨v,k,u,R,ds,_,_,_,hd,_⟩:=h
  exact hd
 | n+1=>AT T TP F D ⟨f7,fd7,yO T F7 ⟨f,fd,uU T TP F b m F7 b7 m7 F8 b8 m8 D1 D n,b,F.kp,m⟩ ⟨f8,fd8,jh TP F8 b8 m8 D1 n,b8,F8.kp,m8⟩,b7,F7.kp,m7⟩
end
open PySem L2
noncomputable def HKt (P:Params):Frag:=xf 150 (HD.HK P)
theorem sV (P:Params):∀ h,(HKt P).In h→PySem.W.CodeHd h 152 150:=fun h X=>⟨_,_,_,_,_,_,_,_,_,X 152 _ (by kernel_rfl:List.lookup 152 (HKt P)=some ⟨.type "code",none,.fields #[.str (HD.sx "inputs") 382,.str (HD.sx "inputs") 383,.str (HD.sx "/claim/cut.py") 384,.int 103 0,.int 3 0,.int 0 0,.int 0 0,.int 3 0,.ref 149,.bool true,.int 181 0,.ref 150,.none,.none,.none,.ref 151,.int 385 0,.int 103 0,.str (HD.sx "/claim/cut.py") 386],#[]⟩),rfl,rfl,rfl,rfl,rfl,rfl,rfl,rfl,by decide⟩
theorem x1 (P:Params):DfE (HKt P) "is_sign_number" 22 da:=by kernel_rfl
theorem x2 (P:Params):DfE (HKt P) "sign_of" 29 jz:=by kernel_rfl
theorem x3 (P:Params):DfE (HKt P) "fields_of" 36 gr:=by kernel_rfl
theorem x4 (P:Params):DfE (HKt P) "field_kinds" 41 dg:=by kernel_rfl
theorem x5 (P:Params):DfE (HKt P) "parts" 48 iV:=by kernel_rfl
theorem x6 (P:Params):DfE (HKt P) "function_of" 55 eQ:=by kernel_rfl
theorem x7 (P:Params):DfE (HKt P) "flat_all" 62 fB:=by kernel_rfl
theorem x8 (P:Params):DfE (HKt P) "flat" 69 nW:=by kernel_rfl
theorem x9 (P:Params):DfE (HKt P) "unflat_all" 76 dF:=by kernel_rfl
theorem x10 (P:Params):DfE (HKt P) "unflat" 83 ja:=by kernel_rfl
theorem x11 (P:Params):DfE (HKt P) "param_kinds" 88 df:=by kernel_rfl
theorem x12 (P:Params):DfE (HKt P) "param_parts" 95 eP:=by kernel_rfl
theorem x13 (P:Params):DfE (HKt P) "numbers_of" 102 fM:=by kernel_rfl
theorem x14 (P:Params):DfE (HKt P) "signs_of" 107 ft:=by kernel_rfl
theorem x15 (P:Params):DfE (HKt P) "up_to_long" 112 dL:=by kernel_rfl
theorem x16 (P:Params):DfE (HKt P) "choices_of" 117 dH:=by kernel_rfl
theorem x17 (P:Params):DfE (HKt P) "how_many_of" 124 eN:=by kernel_rfl
theorem x18 (P:Params):DfE (HKt P) "how_many" 131 iC:=by kernel_rfl
theorem x19 (P:Params):DfE (HKt P) "part_size" 136 dw:=by kernel_rfl
theorem x20 (P:Params):DfE (HKt P) "laid_size" 141 eG:=by kernel_rfl
theorem x21 (P:Params):DfE (HKt P) "size_of" 148 ji:=by kernel_rfl
theorem x22 (P:Params):DfE (HKt P) "inputs" 153 gz:=by kernel_rfl
theorem x23 (P:Params):DfE (HKt P) "_law_feed" 160 kR:=by kernel_rfl
theorem x24 (P:Params):DfE (HKt P) "_law_draw" 167 lr:=by kernel_rfl
theorem x25 (P:Params):DfE (HKt P) "_law_headed" 172 cM:=by kernel_rfl
theorem x26 (P:Params):DfE (HKt P) "_law_sorts" 177 fh:=by kernel_rfl
theorem x27 (P:Params):DfE (HKt P) "_law_put_together" 182 bS:=by kernel_rfl
theorem x28 (P:Params):DfE (HKt P) "_law_all" 187 hU:=by kernel_rfl
theorem x29 (P:Params):DfE (HKt P) "_law_size" 192 dX:=by kernel_rfl
theorem x30 (P:Params):DfE (HKt P) "_law_inputs" 197 dc:=by kernel_rfl
theorem x31 (P:Params):DfE (HKt P) "_law_many" 202 jd:=by kernel_rfl
theorem x32 (P:Params):DfE (HKt P) "_law_room" 209 kJ:=by kernel_rfl
theorem x33 (P:Params):DfE (HKt P) "_law_size_by" 214 du:=by kernel_rfl
theorem x34 (P:Params):DfE (HKt P) "_law_right" 219 eS:=by kernel_rfl
theorem x35 (P:Params):DfE (HKt P) "law" 226 sX:=by kernel_rfl
theorem At {l:PySem.W.OpenLaw} {w:World} {h:Heap} {mg:Str→Option Value} {fa:Addr} (X:(HKt w.params).In h) (G0:h.Ns mainGlobals mg) (hfa:mg "law"=some (.ref fa)) :
  ∃ fd:FuncData,(∀ (s:Shared) (v:Value),BindsTo s fd ⟨[v],[]⟩ [("_law_script",v)])∧∀ base:Heap,(HKt w.params).In base→base.Ns mainGlobals mg→base.BuiltinsAt mg 150→bg l.prog w (HKt w.params) mg base CX0 18 fa fd ["_law_script"] (xg 150 (HKt w.params)):=by
 have E1:=bw X G0 (ps:=["number"]) (x1 _) fun _ _ _ _ _ _=>bl1 fun _=>rfl
 have E2:=bw X G0 (ps:=["number"]) (x2 _) fun _ _ _ _ _ _=>bl1 fun _=>rfl
 have E3:=bw X G0 (ps:=["program", "kind"]) (x3 _) fun _ _ _ _ _ _=>bl2 fun _ _=>rfl
 have E4:=bw X G0 (ps:=["program", "kind"]) (x4 _) fun _ _ _ _ _ _=>bl2 fun _ _=>rfl
 have E5:=bw X G0 (ps:=["program", "kind"]) (x5 _) fun _ _ _ _ _ _=>bl2 fun _ _=>rfl
 have E6:=bw X G0 (ps:=["program", "f"]) (x6 _) fun _ _ _ _ _ _=>bl2 fun _ _=>rfl
 have E7:=bw X G0 (ps:=["program", "kinds", "values"]) (x7 _) fun _ _ _ _ _ _=>bl3 fun _ _ _=>rfl
 have E8:=bw X G0 (ps:=["program", "kind", "value"]) (x8 _) fun _ _ _ _ _ _=>bl3 fun _ _ _=>rfl
 have E9:=bw X G0 (ps:=["program", "kinds", "laid"]) (x9 _) fun _ _ _ _ _ _=>bl3 fun _ _ _=>rfl
 have E10:=bw X G0 (ps:=["program", "kind", "values"]) (x10 _) fun _ _ _ _ _ _=>bl3 fun _ _ _=>rfl
 have E11:=bw X G0 (ps:=["program", "f"]) (x11 _) fun _ _ _ _ _ _=>bl2 fun _ _=>rfl
 have E12:=bw X G0 (ps:=["program", "f"]) (x12 _) fun _ _ _ _ _ _=>bl2 fun _ _=>rfl
 have E13:=bw X G0 (ps:=["room"]) (x13 _) fun _ _ _ _ _ _=>bl1 fun _=>rfl
 have E14:=bw X G0 (ps:=["room"]) (x14 _) fun _ _ _ _ _ _=>bl1 fun _=>rfl
 have E15:=bw X G0 (ps:=["void", "choices", "long"]) (x15 _) fun _ _ _ _ _ _=>bl3 fun _ _ _=>rfl
 have E16:=bw X G0 (ps:=["room", "sort"]) (x16 _) fun _ _ _ _ _ _=>bl2 fun _ _=>rfl
 have E17:=bw X G0 (ps:=["room", "sort"]) (x17 _) fun _ _ _ _ _ _=>bl2 fun _ _=>rfl
 have E18:=bw X G0 (ps:=["program", "f", "room"]) (x18 _) fun _ _ _ _ _ _=>bl3 fun _ _ _=>rfl
 have E19:=bw X G0 (ps:=["part"]) (x19 _) fun _ _ _ _ _ _=>bl1 fun _=>rfl
 have E20:=bw X G0 (ps:=["laid"]) (x20 _) fun _ _ _ _ _ _=>bl1 fun _=>rfl
 have E21:=bw X G0 (ps:=["program", "f", "values"]) (x21 _) fun _ _ _ _ _ _=>bl3 fun _ _ _=>rfl
 have E22:=bw X G0 (ps:=["program", "f", "room"]) (x22 _) fun _ _ _ _ _ _=>bl3 fun _ _ _=>rfl
 have E23:=bw X G0 (ps:=["_law_script"]) (x23 _) fun _ _ _ _ _ _=>bl1 fun _=>rfl
 have E24:=bw X G0 (ps:=["_law_feed_here", "_law_many_here"]) (x24 _) fun _ _ _ _ _ _=>bl2 fun _ _=>rfl
 have E25:=bw X G0 (ps:=["_law_feed_here"]) (x25 _) fun _ _ _ _ _ _=>bl1 fun _=>rfl
 have E26:=bw X G0 (ps:=["_law_records", "_law_kind"]) (x26 _) fun _ _ _ _ _ _=>bl2 fun _ _=>rfl
 have E27:=bw X G0 (ps:=["_law_records", "_law_kind", "_law_pieces"]) (x27 _) fun _ _ _ _ _ _=>bl3 fun _ _ _=>rfl
 have E28:=bw X G0 (ps:=["_law_room_here", "_law_sort"]) (x28 _) fun _ _ _ _ _ _=>bl2 fun _ _=>rfl
 have E29:=bw X G0 (ps:=["_law_value"]) (x29 _) fun _ _ _ _ _ _=>bl1 fun _=>rfl
 have E30:=bw X G0 (ps:=["_law_program", "_law_f", "_law_room_here"]) (x30 _) fun _ _ _ _ _ _=>bl3 fun _ _ _=>rfl
 have E31:=bw X G0 (ps:=["_law_program", "_law_f", "_law_room_here"]) (x31 _) fun _ _ _ _ _ _=>bl3 fun _ _ _=>rfl
 have E32:=bw X G0 (ps:=["_law_feed_here", "_law_program", "_law_f", "_law_most"]) (x32 _) fun _ _ _ _ _ _=>bl4 fun _ _ _ _=>rfl
 have E33:=bw X G0 (ps:=["_law_records", "_law_kind", "_law_value"]) (x33 _) fun _ _ _ _ _ _=>bl3 fun _ _ _=>rfl
 have E34:=bw X G0 (ps:=["_law_program", "_law_f", "_law_room_here"]) (x34 _) fun _ _ _ _ _ _=>bl3 fun _ _ _=>rfl
 have E35:=bw X G0 (ps:=["_law_script"]) (x35 _) fun _ _ _ _ _ _=>bl1 fun _=>rfl
 have e:=hfa.symm.trans E35.m
 cases e
 have z:=fun x e=>mg_none_of (n:=x) X G0 e
 have T:K6.G0 mg:=⟨z _ (by kernel_rfl),z _ (by kernel_rfl),z _ (by kernel_rfl),z _ (by kernel_rfl),z _ (by kernel_rfl),z _ (by kernel_rfl),z _ (by kernel_rfl),z _ (by kernel_rfl),z _ (by kernel_rfl),z _ (by kernel_rfl),z _ (by kernel_rfl),z _ (by kernel_rfl)⟩
 have TZ:=z "zip" (by kernel_rfl)
 have TX:GX mg:=⟨z _ (by kernel_rfl),z _ (by kernel_rfl),z _ (by kernel_rfl),z _ (by kernel_rfl)⟩
 have TP:GPk (HKt w.params) mg:=mT X G0 (a:=15) (by kernel_rfl) (by decide)
 have TS:GSg mg:=⟨Cn (HKt w.params) mainGlobals "SIGNS",mg_of X G0 (by kernel_rfl)⟩
 have GC:=sV w.params
 have FC:=yd (c:=152) (x22 w.params) (by kernel_rfl)
 refine ⟨fdO (HKt w.params) 226 "law" sX,fun s v=>.of_eq rfl,fun base _ _ GB=>?_⟩
 have D3:=E3.cal (base:=base) (P:=l.prog) (w:=w) (tQ E3.F)
 have D4:=E4.cal (base:=base) (P:=l.prog) (w:=w) (wd E4.F D3)
 have D5:=E5.cal (base:=base) (P:=l.prog) (w:=w) (jh TP E5.F E5.b E5.m D3 4)
 have D6:=E6.cal (base:=base) (P:=l.prog) (w:=w) (AH E6.F)
 have D1:=E1.cal (base:=base) (P:=l.prog) (w:=w) (xJ E1.F)
 have D2:=E2.cal (base:=base) (P:=l.prog) (w:=w) (AU TS E2.F)
 have D11:=E11.cal (base:=base) (P:=l.prog) (w:=w) (AZ E11.F D6)
 have D12:=E12.cal (base:=base) (P:=l.prog) (w:=w) (BQ (n:=4) E12.F D6 D5)
 have D8:=E8.cal (base:=base) (P:=l.prog) (w:=w) (nG T TZ TP E8.F E8.b E8.m E7.F E7.b E7.m D4 4)
 have D7:=E7.cal (base:=base) (P:=l.prog) (w:=w) (jO (n:=4) T TZ TP E7.F D8)
 have D10:=E10.cal (base:=base) (P:=l.prog) (w:=w) (uU T TP E10.F E10.b E10.m E9.F E9.b E9.m E5.F E5.b E5.m D3 D4 4)
 have D9:=E9.cal (base:=base) (P:=l.prog) (w:=w) (yO (n:=4) T E9.F D10 D5)
 have D13:=E13.cal (base:=base) (P:=l.prog) (w:=w) (Bv T E13.F)
 have D14:=E14.cal (base:=base) (P:=l.prog) (w:=w) (BE T E14.F D1 D2)
 have D15:=E15.cal (base:=base) (P:=l.prog) (w:=w) (BP T E15.F)
 have D16:=E16.cal (base:=base) (P:=l.prog) (w:=w) (BX T E16.F D15 D14 D13)
 have D17:=E17.cal (base:=base) (P:=l.prog) (w:=w) (BL T E17.F D14 D13)
 have D18:=E18.cal (base:=base) (P:=l.prog) (w:=w) (Br T E18.F D12 D17)
 have D19:=E19.cal (base:=base) (P:=l.prog) (w:=w) (BA T TX E19.F)
 have D20:=E20.cal (base:=base) (P:=l.prog) (w:=w) (BN T TX E20.F D19)
 have D21:=E21.cal (base:=base) (P:=l.prog) (w:=w) (AY E21.F D20 D7 D11)
 have D22:=E22.cal (base:=base) (P:=l.prog) (w:=w) (Bb T TX GC GB FC D12 D16 D20 D11 D9)
 have D23:=E23.cal (base:=base) (P:=l.prog) (w:=w) (BI T E23.F)
 have D24:=E24.cal (base:=base) (P:=l.prog) (w:=w) (Bt T E24.F)
 have D26:=E26.cal (base:=base) (P:=l.prog) (w:=w) (nj T E26.F E26.b E26.m 4)
 have D27:=E27.cal (base:=base) (P:=l.prog) (w:=w) (sE T E27.F E27.b E27.m 4)
 have D28:=E28.cal (base:=base) (P:=l.prog) (w:=w) (zB T E28.F)
 have D29:=E29.cal (base:=base) (P:=l.prog) (w:=w) (yg T TX E29.F)
 have D31:=E31.cal (base:=base) (P:=l.prog) (w:=w) (xF T E31.F D26)
 have D30:=E30.cal (base:=base) (P:=l.prog) (w:=w) (tI T TX E30.F D26 D28 D29 D27)
 have D32:=E32.cal (base:=base) (P:=l.prog) (w:=w) (xD T TX E32.F D31 D24)
 have D25:=E25.cal (base:=base) (P:=l.prog) (w:=w) (tW T E25.F D24)
 have D33:=E33.cal (base:=base) (P:=l.prog) (w:=w) (wb T TX E33.F E33.b E33.m D29 4)
 have D34:=E34.cal (base:=base) (P:=l.prog) (w:=w) (Bl T TX E34.F D18 D21 D33 D22 D30)
 exact zr T TX E35.F D23 D24 D25 D34 D32 D18 D31
theorem walk {l:PySem.W.OpenLaw} {q:Program} {loose:List Str} {XP:(Str→Option Value)→Heap→Prop} {YP:World→Heap→Prop} {d:DefRec} (hn:l.most=some 63) (hdf:d.params.defaults=[])
  (hY:∀ (w:World) (h:Heap),YP w h→(HD.HK w.params).In h) (hd:d.name = "law"):PySem.W.WalkO q loose XP YP l.row.toRowW d [] (fun f vs=>PySem.call f vs) :=
 L2.walk_ofT (K:=HKt) (n:=63) (k:=18) (x := "_law_script") (tA:=150) (cA:=152) (sp:=fun w=>xg 150 (HKt w.params)) hn (by decide) hdf ⟨rfl,by decide,by decide,rfl⟩
  (fun w h Y=>by
   have X:(HKt w.params).In h:=fun b o e=>hY w h Y b o (nV e)
   exact ⟨X,iM _ _,hY w h Y 150 _ (by kernel_rfl:List.lookup 150 (HD.HK w.params)=some ⟨.none,none,.fields #[],#[]⟩),sV _ h X⟩)
  (fun w mg fa h KX G hmg=>At KX G (hd ▸ hmg)) (fun _ _ a ns hl hT hS=>⟨a,ns,rfl,hS,⟨#[],hT,trivial,.inl rfl⟩,fun _=>rfl⟩)
end K6
open PySem PySem.W PyProof.Rows
set_option maxHeartbeats 0 in
theorem xG:PySem.Challenge.rw_everyfork_k24_inputs_in_order.wellSaid=true:=by
 unfold OpenLaw.wellSaid
 iterate 18 refine look_both ?_ (by decide +kernel)
 unfold OpenRow.wellSaid
 iterate 2 refine look_both ?_ (by decide +kernel)
 unfold OpenRow.partSaid
 iterate 13 refine look_both ?_ (by decide +kernel)
 unfold looksOpen
 iterate 5 refine look_both ?_ (by decide +kernel)
 decide +kernel
set_option maxRecDepth 100000 in
set_option maxHeartbeats 0 in
theorem PySem.Challenge.cw_everyfork_k24_inputs_in_order_holds : PySem.Challenge.rw_everyfork_k24_inputs_in_order.Holds := by
 refine holds_law xG fun said=>?_
 refine holds_open (q:=HD.qV) (loose:=HD.lo) (Xt:=HD.Xt) (XP:=XL HD.qV []) (Yf:=Hook.obs HD.hk) (Ya:=Hook.val HD.hk) (YP:=Hook.says HD.hk) (N:=5000) HD.left (Hook.of HD.hk) (Hook.keeps HD.hk)
  (fun s e=>xl_of s (Bool.and_eq_true_iff.mp e).1) XL.keeps (by rfl) (by rfl) (by rfl) (fun s e=>recFacts_of (Bool.and_eq_true_iff.mp e).2) (by rfl) said (by decide +kernel) ⟨rfl,rfl,rfl,rfl,rfl,by decide +kernel⟩ ?hw
  (K6.walk (l:=PySem.Challenge.rw_everyfork_k24_inputs_in_order) rfl rfl (fun w h Y=>kIn_of Y) rfl)
 case hw=>w_witness2