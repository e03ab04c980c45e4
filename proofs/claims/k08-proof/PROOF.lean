import PyProof.Rows.All
import Wide.All
import OpenK.AllK
import Wide.FinOn
import Lean
import PyProof.EqAt
import PyProof.EqKinds
import PyProof.TupleCall
import PyProof.AttrMiss
import PyProof.IsiH_tuple
import KE.KDictOf
import PyProof.ZipIter
import PyProof.Draws
import PyProof.Rows.FactsT2
import KE.KRevIter
import PyProof.EnumStmt
import PyProof.TupleOps
import PyProof.ListRange
import PyProof.Rows.SetFrom
import PyProof.SetRoads
import PyProof.EnumFor
import PyProof.EnumMake
import PyProof.NeKinds
import KE.KIntText
import PyProof.StrBlockG
import PyProof.StrLawsTight
import PyProof.StrLawsChain
import PyProof.Rows.StrItems
import PySem.Challenge.RW_everyfork_k08_shown_and_read
open PySem.W (Frag mg_of mg_none_of keepIn KeysLit findIn)
open List renaming length_append->W7,length_map->W8,length_cons->W9,mem_cons->Xa,map_append->Xb,length_nil->Xd,not_mem_nil->Xe,cons_append->Xf,mem_cons_of_mem->Xg,mem_of_getElem?->Xh,mem_singleton->Xi,size_toArray->Xk,mem_cons_self->Xl,mem_append->Xm,take_add_one->Xn,take_length->Xo,map_cons->Xp,mem_map->Xr,append_assoc->Xs,length_singleton->Xu,getElem?_eq_some_iff->Xv,mem_append_right->Xy,nil_append->Xz,getElem?_eq_getElem->XA,append_nil->XB,mem_append_left->XD,getElem?_map->XE,replicate->XG,nodup_cons->XH,length_take->XO,length_reverse->XX,reverse_cons->XY,map_nil->XZ,all_eq_true->X2,dropLast_concat->X6,take_zero->X7,find?_cons->X9,sum_cons->Yd,replicate_succ->Yg,range->Yh,mem_range->Yj,getElem?_append_left->Yk,reverse_append->Yo,length_drop->Yp,map_inj_left->Yr,reverse_reverse->Ys,take_succ_cons->Yt,of_mem_zip->Yv,flatten_cons->Yx,map_map->Yy,lookup->YC,mem_filter->YE,getElem?_drop->YH,any_cons->YM,length_replicate->YO,getElem?_reverse->YQ,eq_nil_or_concat->YR,concat_eq_append->YS,mem_iff_getElem->YT,filterMap_cons->YV,drop_succ_cons->YX,drop_drop->YZ,getElem?_append_right->Ze,take_sublist->Zh,mem_of_find?_eq_some->Zj,drop_eq_getElem_cons->Zk,all_map->Zn,lookup_cons->Zp,drop_length->Zq,map_const'->Zv,getElem?_set_self->Zw,take_of_length_le->aaa,reverse_replicate->aab,drop_zero->aae,take_append_drop->aaf,drop_left->aai,mem_iff_getElem?->aaj,getElem?_set_ne->aak,all_cons->aam,map_take->aan,mem_filterMap->aaq,filter_append->aau,sum_nil->aaw,any_eq_false->aax,getElem_mem->aaE,filter_cons->aaF,length_set->aaH,foldl->aaI,nodup_nil->aaL
open Nat renaming le_refl->Xc,zero_le->Xj,le_trans->XC,lt_of_lt_of_le->XF,le_of_lt->XI,ne_of_lt->XR,mul_le_mul_right->X0,lt_irrefl->X3,lt_succ_self->YB,add_mul->YD,lt_of_le_of_lt->Y0,lt_succ_of_lt->Zi,min_eq_left->Zu,le_of_eq->aar,add_zero->aav,add_assoc->aaO
open Bool renaming false_ne_true->Xq,and_eq_true->XT,eq_iff_iff->Yu,eq_false_iff->YK,and_self->YN,false_eq_true->Zd,and_eq_true_iff->aal,not_eq_true'->aaB,and_false->aaK,or_false->aaM
open PySem.F renaming plainAttrs_list->Xw,slot_list_extend->XJ,type_list_extend->XM,plainAttrs_str->XN,slot_str_join->XV,type_str_join->XW,slot_list_pop->Yb,type_list_pop->Yc,args_tuple_add_2->YG,entry_tuple_add->YI,slot_tuple_add->YL,slot_list_append->Zl,type_list_append->Zm,slot_dict_get->aah
open PySem.Str renaming ofString->Xx
open Option renaming map_eq_some_iff->XQ,toList->Yq,getD_none->aaD
open Array renaming length_toList->XS,getElem?_eq_getElem->YF,getElem?_eq_none->Zz,toList_inj->aaG,toList->aaP
open PyProof.Rows renaming callWith_type1->XU,slot_tuple_getitem->Yl,IsTup->Yw,len_tuple->Zy
open PySem.W renaming kia_one->X4,emptyDict->X8,instObj->Ym,plainGet->YA,hasDictIn->YJ,mapOf_K->YU,plainGet_of->YW,lookIn->YY,methodObj->Zf,plainOver->Zg,isFn->Zo,takerIn->Zr,makesIn->Zs,OpenLaw->Zt,cellsFrom_some->Zx,kitOne->aac,methodCall_KW->aad,find_K->aag,callWith_K0->aao,callWith_K->aas,specialIn->aay,kitx_list->aaz,kitx_dict->aaA,handedIn->aaC,WalkO->aaN
open Int renaming emod_lt_of_pos->X5,emod_nonneg->Ye,toNat_natCast->Yn,toNat_of_nonneg->aap,zero_add->aat,natCast_add->aaJ
open Or renaming inl->Yi,inr->Yz
noncomputable section
set_option Elab.async false
set_option linter.all false
set_option maxRecDepth 100000
set_option maxHeartbeats 4000000
set_option hygiene false
local macro_rules
 | `(Z0 $a)=>`(@ak _ _ _ _ _ $a aq (bo rfl))
 | `(Z1 $a $b)=>`(@ak _ _ _ _ _ $a $b (bo rfl))
 | `(Z2 $a $b)=>`(@br _ _ _ _ _ $a $b)
 | `(Z3 $a)=>`(@dW _ _ _ $a)
 | `(Z4 $a)=>`(@aZ _ _ _ _ _ _ _ cV $a af (fun _ _=>rfl))
 | `(Z5 $a $b $c)=>`(@aZ _ _ _ _ _ _ _ $a $b $c (fun _ _=>rfl))
 | `(Z6 $a $b)=>`(@dD _ _ _ _ _ _ _ _ _ _ $a (hr.mono (by omega)) rfl $b (by decide) (bo rfl) (cG rfl))
 | `(Z7 $a)=>`(@jH _ _ _ _ $a)
 | `(Z8 $a $b $c)=>`(@c7 _ _ _ _ _ _ _ _ $a $b $c (cZ _))
 | `(Z9 $a $b $c)=>`(@c7 _ _ _ _ _ _ _ _ $a $b $c rfl)
 | `(ZA $a $b $c)=>`(@fk _ _ $a _ _ _ _ $b rfl (Yi rfl) $c (bO rfl) (.inr rfl))
 | `(ZB $a $b)=>`(@uM _ _ _ _ _ _ _ _ $a $b j3)
 | `(ZC $a $b $c)=>`(@uM _ _ _ _ _ _ _ _ $a $b $c)
 | `(ZD $a)=>`(@gS _ _ _ _ $a)
 | `(ZE $a $b $c)=>`(@cu _ _ _ _ _ _ _ _ $a $b $c)
 | `(ZF $a)=>`(@mq _ _ _ _ _ $a)
 | `(ZG $a $b)=>`(@CC _ _ _ _ _ _ _ _ _ _ _ _ Xw Zl Zm tJ $a $b rfl (vY rfl rfl) rfl (bo rfl) (cG rfl))
 | `(ZH $a $b $c $d $e $f)=>`(@CC _ _ _ _ _ _ _ _ _ _ _ _ $a $b $c $d $e $f rfl (vY rfl rfl) rfl (bo rfl) (cG rfl))
 | `(ZI $a)=>`(@cP _ _ _ _ _ _ _ _ _ bq rfl T.len hJ $a (by decide) (by decide) (bo rfl) (cG rfl))
 | `(ZJ $a $b $c $d)=>`(@cP _ _ _ _ _ _ _ _ _ $a rfl $b $c $d (by decide) (by decide) (bo rfl) (cG rfl))
 | `(ZK $a $b $c $d)=>`(@fN _ _ _ _ _ _ _ _ _ $a rfl $b $c $d (by decide) (by decide) (bo rfl) (cG rfl))
 | `(ZL $a)=>`(@C2 _ _ _ _ $a (bO rfl))
 | `(ZM $a $b $c)=>`(@FG _ _ _ _ _ _ _ _ PassesOwn.never rfl $a $b $c (fun _=>rfl))
 | `(ZN $a)=>`(Mx $a rfl)
 | `(ZO $a $b)=>`(dS (i:=$a) $b rfl (Yi rfl))
 | `(ZX $a $b $c $d $e)=>`(⟨by simp [Nd.own,Nd.word,Nd.items,oiW,OI.ws,E.own,E.word,E.items,C.own,C.word,S.own,S.word,S.items],$a,⟨$b,(show ((($c):Str),(($d):Str),(($b):List Int))∈SH8 by decide +kernel),fun _=>(show _=XG _ (zj $c) by rw [show zj $c=(($e):Str) by decide +kernel]; rfl)⟩,fun h=>absurd h (show (($c):Str)∉bV by decide +kernel),.inr ⟨rfl,(show ∀ q∈oy,q.1≠(($c):Str) by decide +kernel)⟩,(show (($c):Str)∈FIX by decide +kernel),(show (($c):Str) ≠ "num" by decide +kernel),by simp [Nd.items,E.items,S.items]⟩)
 | `(ZY $a $b $c $d $e $f)=>`(⟨by simp [Nd.own,Nd.word,Nd.items,oiW,OI.ws,E.own,E.word,E.items,C.own,C.word,S.own,S.word,S.items],$a,⟨$b,(show ((($c):Str),(($d):Str),(($b):List Int))∈SH8 by decide +kernel),fun _=>(show _=XG _ (zj $c) by rw [show zj $c=(($e):Str) by decide +kernel]; rfl)⟩,fun h=>absurd h (show (($c):Str)∉bV by decide +kernel),.inl (show ((($c):Str),(($f):List Str))∈oy by decide +kernel),(show (($c):Str)∈FIX by decide +kernel),(show (($c):Str) ≠ "num" by decide +kernel),by simp [Nd.items,E.items,S.items]⟩)
 | `(ZP $a)=>`(au (fun c9=>absurd c9 (by decide +kernel)) (fun c9=>$a))
 | `(ZQ $a)=>`(au (fun c9=>$a) (fun c9=>absurd (by decide +kernel) c9))
 | `(ZR $a $b)=>`(L2.Fun.ok $a $b (fun vs H Q EX h=>?_) (fun gm A outer s H vs Q EX hr h=>?_))
 | `(ZS $a)=>`(BT.node $a .nil .nil)
 | `(Za $a $b $c $d)=>`(Cal P w K mg base $a $b $c $d)
 | `(Zb $a $b $c)=>`(eI P w K mg base CX0 $a f fd $b $c)
 | `(Zc $a $b)=>`(L2.Fun K $a $a $b f fd)
 | `(ZU $a)=>`(⟨rfl,rfl,rfl,by decide +kernel,rfl,by decide +kernel,by decide +kernel⟩)
 | `(ZV $a $b $c)=>`(L2.df_of X G0 (ps:=$a) ($b _) fun _ _ _ _ _ _=>$c)
 | `(ZW $a $b)=>`(L2.Df.cal (base:=base) (P:=l.prog) (w:=w) $a $b)
 | `(ZT $a $b $c)=>`(BT.node $a $b $c)
local macro_rules | `(())=>`(by decide +kernel)
local macro_rules | `(tactic| exists $es,*)=>`(tactic| refine ⟨$es,*⟩)
set_option hygiene true
theorem zl0:0<=PySem.sizeLine:=by decide
theorem zl1:1<=PySem.sizeLine:=by decide
theorem zl2:2<=PySem.sizeLine:=by decide
theorem zl3:3<=PySem.sizeLine:=by decide
theorem zl4:4<=PySem.sizeLine:=by decide
theorem zl5:5<=PySem.sizeLine:=by decide
theorem zl6:6<=PySem.sizeLine:=by decide
theorem zl8:8<=PySem.sizeLine:=by decide
theorem Q2:12<=PySem.sizeLine:=by decide
namespace L2
open PySem PySem.Spec PyProof.Rows
abbrev Key:=Sum Int Str
noncomputable def tN:Key->Value->Bool
 | .inl k,v=>Value.isInt k v
 | .inr x,v=>Value.isStrOf x v
noncomputable def Q4 (w:World):Key->Int
 | .inl k=>hashInt k
 | .inr x=>hashStr w x
theorem cj:∀ {k:Key} {v:Value},tN k v=true->(∃ i t,k=Sum.inl i/\v=Value.int i t)\/(∃ x t,k=Sum.inr x/\v=Value.str x t)
 | .inl i,v,h=>by
  obtain ⟨t,e⟩:=Value.isInt_shape (k:=i) (v:=v) h;exact .inl ⟨i,t,rfl,e⟩
 | .inr x,v,h=>by
  obtain ⟨t,e⟩:=Value.isStrOf_shape (x:=x) (v:=v) h;exact .inr ⟨x,t,rfl,e⟩
theorem Dd (i:Int) (t:Tok):tN (.inl i) (.int i t)=true:=by simp [tN,Value.isInt]
theorem Dv (x:Str) (t:Tok):tN (.inr x) (.str x t)=true:=by simp [tN,Value.isStrOf]
theorem MM (a b:Int):decide ((Sum.inl a:Key)=Sum.inl b)=(a==b):=by
 by_cases e:a=b
 ·subst e; simp
 ·have h:¬ (Sum.inl a:Key)=Sum.inl b:=fun q=>e (Sum.inl.inj q)
  rw [decide_eq_false h];exact (beq_eq_false_iff_ne.mpr e).symm
theorem LM (a b:Str):decide ((Sum.inr a:Key)=Sum.inr b)=decide (a=b):=by
 by_cases e:a=b
 ·subst e; simp
 ·have h:¬ (Sum.inr a:Key)=Sum.inr b:=fun q=>e (Sum.inr.inj q)
  rw [decide_eq_false h,decide_eq_false e]
theorem MH (a:Int) (b:Str):decide ((Sum.inl a:Key)=Sum.inr b)=false:=decide_eq_false (fun q=>nomatch q)
theorem Ml (a:Str) (b:Int):decide ((Sum.inr a:Key)=Sum.inl b)=false:=decide_eq_false (fun q=>nomatch q)
noncomputable def ci (prog:Program) (w:World):PySem.KeyKind prog w Key where
 is:=tN
 hash:=Q4 w
 inj:=fun v a b ha hb=>by
  rcases cj ha with ⟨i,t,rfl,rfl⟩ | ⟨x,t,rfl,rfl⟩
  ·rcases cj hb with ⟨j,u,rfl,e⟩ | ⟨y,u,rfl,e⟩
   ·injection e with e1 _; rw [e1]
   ·exact nomatch e
  ·rcases cj hb with ⟨j,u,rfl,e⟩ | ⟨y,u,rfl,e⟩
   ·exact nomatch e
   ·injection e with e1 _; rw [e1]
 byValue:=fun k v h=>by
  rcases cj h with ⟨i,t,rfl,rfl⟩ | ⟨x,t,rfl,rfl⟩<;>rfl
 pyHash:=fun hv h=>by
  rcases cj hv with ⟨i,t,rfl,rfl⟩ | ⟨x,t,rfl,rfl⟩
  ·exact wpAny_pyHash_int h
  ·exact wpAny_pyHash_str h
 eqBool:=fun hu hv h=>by
  rcases cj hu with ⟨i,t,rfl,rfl⟩ | ⟨x,t,rfl,rfl⟩
  ·rcases cj hv with ⟨j,u,rfl,rfl⟩ | ⟨y,u,rfl,rfl⟩
   ·rw [MM] at h; exact wpAny_eqBool_int h
   ·rw [MH] at h; exact SeqAt.EqAt.int_str i t y u _ _ _ _ h
  ·rcases cj hv with ⟨j,u,rfl,rfl⟩ | ⟨y,u,rfl,rfl⟩
   ·rw [Ml] at h; exact SeqAt.EqAt.str_int x t j u _ _ _ _ h
   ·rw [LM] at h; exact wpAny_eqBool_str h
 «strs»:=fun k x t v h=>by
  rcases cj h with ⟨i,u,rfl,e⟩ | ⟨y,u,rfl,e⟩
  ·exact nomatch e
  ·injection e with e1 _;subst e1;cases v<;>rfl
theorem xX (prog:Program) (w:World) (i:Int) (t:Tok):(ci prog w).is (.inl i) (.int i t)=true:=Dd i t
theorem nP (prog:Program) (w:World) (x:Str) (t:Tok):(ci prog w).is (.inr x) (.str x t)=true:=Dv x t
inductive V where
 | non | bl (b:Bool) | int (i:Int) | str (x:Str) | byt (b:Array UInt8) | flt (b:UInt64) | ref (a:Addr) | ty (n:String)
 deriving DecidableEq
noncomputable def a7:V->Value->Prop
 | .non,u=>u=Value.none
 | .bl b,u=>u=Value.bool b
 | .int i,u=>∃ t,u=Value.int i t
 | .str x,u=>∃ t,u=Value.str x t
 | .byt b,u=>∃ t,u=Value.bytes b t
 | .flt b,u=>∃ t,u=Value.float b t
 | .ref a,u=>u=Value.ref a
 | .ty n,u=>u=Value.type n
abbrev aI:List V->List Value->Prop:=Paired a7
theorem aI.length {xs:List V} {us:List Value} (r:aI xs us):xs.length=us.length:=Paired.length r
theorem aI.get:∀ {xs:List V} {us:List Value} {i:Nat} {x:V},aI xs us->xs[i]?=some x->∃ u,us[i]?=some u/\a7 x u
 | _,_,_,_,.nil,e=>by simp at e
 | _,_,0,_,.cons r _,e=>by simp at e; subst e; exact ⟨_,rfl,r⟩
 | _,_,i+1,x,.cons _ t,e=>by
  obtain ⟨u,h1,h2⟩:=aI.get (i:=i) (x:=x) t (by simpa using e);exists u,by simpa using h1,h2
theorem aI.set {x:V} {u:Value} (r:a7 x u):∀ {xs:List V} {us:List Value} (i:Nat),aI xs us->aI (xs.set i x) (us.set i u)
 | _,_,_,.nil=>.nil
 | _,_,0,.cons _ t=>.cons r t
 | _,_,i+1,.cons q t=>.cons q (aI.set r i t)
theorem aI.append:∀ {xs ys:List V} {us ws:List Value},aI xs us->aI ys ws->aI (xs++ys) (us++ws)
 | _,_,_,_,.nil,s=>s
 | _,_,_,_,.cons r t,s=>.cons r (aI.append t s)
theorem aI.take:∀ {xs:List V} {us:List Value} (n:Nat),aI xs us->aI (xs.take n) (us.take n)
 | _,_,0,_=>.nil
 | _,_,_+1,.nil=>.nil
 | _,_,n+1,.cons r t=>.cons r (aI.take n t)
theorem aI.drop:∀ {xs:List V} {us:List Value} (n:Nat),aI xs us->aI (xs.drop n) (us.drop n)
 | _,_,0,r=>r
 | _,_,_+1,.nil=>.nil
 | _,_,n+1,.cons _ t=>aI.drop n t
noncomputable def mv:Option V->Option Value->Prop
 | some v,some u=>a7 v u
 | none,none=>True
 | _,_=>False
noncomputable def KV {κ:Type}:List (κ×V)->List (κ×Value)->Prop:=Paired fun (p:κ×V) (q:κ×Value)=>p.1=q.1/\a7 p.2 q.2
noncomputable def kV:Key->V
 | .inl i=>.int i
 | .inr x=>.str x
inductive HO where
 /-- a list -/
 | lst (xs:List V)
 /-- a tuple (never changes) -/
 | tup (xs:List V)
 /-- a dict whose keys are ints and texts; one whose keys are tuples of ints and texts (the empty one is both) -/
 | dK (aT:List (Key×V)) | dT (aT:List (List Key×V))
 /-- a set of ints: its members,its size -/
 | set (S:Int->Bool) (n:Nat)
 /-- an instance of the class at C,its dict at dx,its attributes -/
 | ins (C dx:Addr) (fs:List (Str×V))
 /-- the dict of the instance at x -/
 | own (x:Addr)
 /-- the dict of an exception -/
 | xd (fs:List (Str×V))
 /-- a bound method,f of x -/
 | met (f x:Addr)
 /-- a range object lo,lo+1,.. below hi -/
 | rng (lo hi:Int)
 /-- a thing that is known to the object (the script; a dict while a loop walks it): read,never written while it is so -/
 | frz (o:Obj) (u:HO)
 /-- a code object's table -/
 | tbl (ps:Array Value)
 /-- any other thing,by what is true of its one object (a def of one's own: SetO a S n:=HO.ext fun h=>..) -/
 | ext (φ:Heap->Prop)
abbrev Hp:=Addr->Option HO
noncomputable def upd (H:Hp) (a:Addr) (o:HO):Hp:=fun b=>if b=a then some o else H b
theorem ac {H:Hp} {a:Addr} {o:HO}:upd H a o a=some o:=by unfold upd; rw [if_pos rfl]
theorem aj {H:Hp} {a b:Addr} {o:HO} (h:b≠a):upd H a o b=H b:=by unfold upd; rw [if_neg h]
theorem eX {H:Hp} {a b:Addr} {o u:HO} (h:H a=some o) (h':H b=some u) (d:o≠u):a≠b:=by
 intro e; subst e; rw [h] at h'; exact d (Option.some.inj h')
theorem ay {H:Hp} {a b:Addr} {o:HO} (h:H a=some o) (h':H b=none):a≠b:=by
 intro e; subst e; rw [h] at h'; cases h'
section
variable (P:Program) (w:World)
noncomputable def bW (H:Hp) (h:Heap) (a:Addr):HO->Prop
 | .lst xs=>xs.length<=sizeLine/\∃ (its:List Value) (n:Nat),aI xs its/\h.get? a=some { cls:=.type "list",data:=.seq its.toArray n }
 | .tup xs=>xs.length<=sizeLine/\∃ its:List Value,aI xs its/\IsTup h a its.toArray/\∃ o,h.get? a=some o/\o.dict=none
 | .dK aT=>aT.length<=sizeLine/\(a==sysModules)=false/\∃ vs,KV aT vs/\h.DictOf (ci P w) a vs
 | .dT aT=>aT.length<=sizeLine/\(a==sysModules)=false/\∃ xs:List (List Key×Addr×Value),
   Paired (fun (p:List Key×V) (q:List Key×Addr×Value)=>p.1=q.1/\H q.2.1=some (.tup (p.1.map kV))/\a7 p.2 q.2.2) aT xs /\
   ∃ o es ep,h.get? a=some o/\o.ExactDict/\o.data=.dict es ep/\es.toList=xs.map (entryOfKey (tupleKind (ci P w)))/\(xs.map (·.1)).Nodup
 | .set S n=>h.SetOf (intKind P w) a S n
 | .ins C dx fs=>H dx=some (.own a)/\fs.length<=1000/\dx≠a/\h.get? a=some (Ym C dx) /\
   ∃ mA,h.Ns1 dx mA/\(∀ f,mv (fs.lookup f) (mA f))/\PySem.Within mA (fs.map (·.1))
 | .own _=>∃ o,h.get? a=some o
 | .xd fs=>∃ mA,h.Ns1 a mA/\∀ f,mv (fs.lookup f) (mA f)
 | .rng lo hi=>∃ t u v,h.get? a=some { cls:=.type "range",data:=.fields #[.int lo t,.int hi u,.int 1 v] }
 | .frz o u=>h.get? a=some o/\bW H h a u
 | .tbl ps=>h.get? a=some { cls:=.none,data:=.fields ps }
 | .met f x=>h.get? a=some (Zf (.ref f) (.ref x))
 | .ext φ=>φ h/\(∃ o,h.get? a=some o)/\∀ h1 h2:Heap,φ h1->(∀ o,h1.get? a=some o->h2.get? a=some o)->φ h2
noncomputable def HOk (H:Hp) (h:Heap):Prop:=∀ a o,H a=some o->bW P w H h a o
end
section
variable {P:Program} {w:World} {H H':Hp} {h h':Heap} {a:Addr} {o:HO}
theorem bW.lt (x:bW P w H h a o):a<h.objs.size:=by
 cases o with
 | lst xs=>obtain ⟨_,_,_,_,e⟩:=x; exact Heap.lt_size e
 | tup xs=>obtain ⟨_,_,_,p,_⟩:=x; exact p.lt
 | dK aT=>obtain ⟨_,_,_,_,o,_,_,e,_⟩:=x; exact Heap.lt_size e
 | dT aT=>obtain ⟨_,_,_,_,o,_,_,e,_⟩:=x; exact Heap.lt_size e
 | set S n=>obtain ⟨o,_,_,_,e,_⟩:=x; exact Heap.lt_size e
 | ins C dx fs=>obtain ⟨_,_,_,e,_⟩:=x; exact Heap.lt_size e
 | own y=>obtain ⟨_,e⟩:=x; exact Heap.lt_size e
 | xd fs=>obtain ⟨_,⟨_,_,_,e,_⟩,_⟩:=x; exact Heap.lt_size e
 | rng lo hi=>obtain ⟨_,_,_,e⟩:=x; exact Heap.lt_size e
 | frz ob u=>obtain ⟨e,_⟩:=x; exact Heap.lt_size e
 | tbl ps=>exact Heap.lt_size (show h.get? a=some _ from x)
 | met f y=>exact Heap.lt_size (show h.get? a=some _ from x)
 | ext φ=>obtain ⟨_,⟨_,e⟩,_⟩:=x; exact Heap.lt_size e
theorem Paired.mapP {α β:Type} {F G:α->β->Prop}:∀ {l₁:List α} {l₂:List β},Paired F l₁ l₂->(∀ a b,F a b->G a b)->Paired G l₁ l₂
 | _,_,.nil,_=>.nil
 | _,_,.cons r t,f=>.cons (f _ _ r) (Paired.mapP t f)
theorem bW.stay (x:bW P w H h a o) (k:∀ b u,(b=a\/H b=some (.own a))->h.get? b=some u->h'.get? b=some u)
  (ho:∀ b,H b=some (.own a)->H' b=some (.own a)) (ht:∀ b xs,H b=some (.tup xs)->H' b=some (.tup xs)):bW P w H' h' a o:=by
 induction o with
 | lst xs=>obtain ⟨z,its,n,r,e⟩:=x; exact ⟨z,its,n,r,k _ _ (.inl rfl) e⟩
 | tup xs=>obtain ⟨z,its,r,⟨ob,e,c⟩,o2,e2,d2⟩:=x; exact ⟨z,its,r,⟨ob,k _ _ (.inl rfl) e,c⟩,o2,k _ _ (.inl rfl) e2,d2⟩
 | dK aT=>obtain ⟨z,y,vs,r,ob,es,ep,e,c⟩:=x; exact ⟨z,y,vs,r,ob,es,ep,k _ _ (.inl rfl) e,c⟩
 | dT aT =>
  obtain ⟨z,y,xs,r,ob,es,ep,e,c⟩:=x;exists z,y,xs,Paired.mapP r fun p q z=>⟨z.1,ht _ _ z.2.1,z.2.2⟩,ob,es,ep,k _ _ (.inl rfl) e,c
 | set S n=>obtain ⟨ob,es,ep,t,e,c⟩:=x; exact ⟨ob,es,ep,t,k _ _ (.inl rfl) e,c⟩
 | ins C dx fs =>
  obtain ⟨d,z,ne,e,mA,⟨od,es,ep,e2,c⟩,r⟩:=x;exists ho _ d,z,ne,k _ _ (.inl rfl) e,mA,⟨od,es,ep,k _ _ (.inr d) e2,c⟩,r
 | own y=>obtain ⟨ob,e⟩:=x; exact ⟨ob,k _ _ (.inl rfl) e⟩
 | xd fs=>obtain ⟨mA,⟨od,es,ep,e,c⟩,r⟩:=x; exact ⟨mA,⟨od,es,ep,k _ _ (.inl rfl) e,c⟩,r⟩
 | rng lo hi=>obtain ⟨t,u,v,e⟩:=x; exact ⟨t,u,v,k _ _ (.inl rfl) e⟩
 | frz ob u ih=>obtain ⟨e,q⟩:=x; exact ⟨k _ _ (.inl rfl) e,ih q⟩
 | tbl ps =>
  have e:h.get? a=some { cls:=.none,data:=.fields ps }:=x;show h'.get? a=some { cls:=.none,data:=.fields ps };exact k a _ (.inl rfl) e
 | met f y =>
  have e:h.get? a=some (Zf (.ref f) (.ref y)):=x;show h'.get? a=some (Zf (.ref f) (.ref y));exact k a _ (.inl rfl) e
 | ext φ=>obtain ⟨p,⟨o,e⟩,st⟩:=x; exact ⟨st _ _ p fun o q=>k _ _ (.inl rfl) q,⟨o,k _ _ (.inl rfl) e⟩,st⟩
theorem HOk.lt (x:HOk P w H h) (e:H a=some o):a<h.objs.size:=(x a o e).lt
theorem HOk.fresh (x:HOk P w H h) (e:h.objs.size<=a):H a=none:=by
 cases q:H a with
 | none=>rfl
 | some u=>exact absurd (XF (x.lt q) e) (X3 _)
theorem HOk.kept (x:HOk P w H h) (k:∀ b u,h.get? b=some u->h'.get? b=some u):HOk P w H h':=fun a o e =>
 (x a o e).stay (fun b u _ q=>k b u q) (fun _ q=>q) fun _ _ q=>q
theorem HOk.laid (x:HOk P w H h) (k:∀ b u,h.get? b=some u->h'.get? b=some u) (hp:h.objs.size<=a) (new:bW P w (upd H a o) h' a o):HOk P w (upd H a o) h':=fun b u e=>by
 have hn:=x.fresh hp
 by_cases hb:b=a
 ·subst hb; rw [ac] at e; cases e; exact new
 ·rw [aj hb] at e;exact (x b u e).stay (fun c v _ q=>k c v q) (fun c q=>by rw [aj (ay q hn)]; exact q) fun c xs q=>by rw [aj (ay q hn)]; exact q
end
noncomputable def Rd (H:Hp) (a:Addr) (u:HO):Prop:=H a=some u\/∃ o,H a=some (.frz o u)
theorem Rd.ok {P:Program} {w:World} {H:Hp} {h:Heap} {a:Addr} {u:HO} (r:Rd H a u) (x:HOk P w H h):bW P w H h a u:=by
 rcases r with r | ⟨o,r⟩
 ·exact x a u r
 ·obtain ⟨_,q⟩:=x a _ r;exact q
noncomputable def Mut:Option HO->Prop
 | some (.lst _)=>True
 | some (.dK _)=>True
 | some (.dT _)=>True
 | some (.set _ _)=>True
 | some (.ins _ _ _)=>True
 | some (.ext _)=>True
 | _=>False
section
variable {P:Program} {w:World} {H:Hp} {h h':Heap} {x e:Addr} {o':HO}
theorem HOk.write (ok:HOk P w H h) (mu:Mut (H x)) (he:e=x\/H e=some (.own x)) (k:∀ b u,b≠e->h.get? b=some u->h'.get? b=some u) (heo:∃ u,h'.get? e=some u)
  (new:bW P w (upd H x o') h' x o'):HOk P w (upd H x o') h':=fun b u q=>by
 have nown:∀ c y,H c=some (.own y)->c≠x:=fun c y r z=>by subst z; rw [r] at mu; exact mu
 have ntup:∀ c xs,H c=some (.tup xs)->c≠x:=fun c xs r z=>by subst z; rw [r] at mu; exact mu
 by_cases hb:b=x
 ·subst hb; rw [ac] at q; cases q; exact new
 ·rw [aj hb] at q
  by_cases hbe:b=e
  ·have q':H b=some (.own x):=by
    rcases he with z | z
    ·exact absurd (hbe.trans z) hb
    ·rw [hbe]; exact z
   rw [q] at q'; cases q';obtain ⟨v,hv⟩:=heo;exists v,by rw [hbe]; exact hv
  ·refine (ok b u q).stay (fun c v hc r=>k c v ?_ r) (fun c r=>by rw [aj (nown c b r)]; exact r) fun c xs r=>by rw [aj (ntup c xs r)]; exact r
   rcases hc with rfl | hc
   ·exact hbe
   ·rintro rfl
    rcases he with z | z
    ·exact nown c b hc z
    ·rw [hc] at z; cases z; exact hb rfl
end
structure Un (fs ex:List Addr) (H H':Hp) (h h':Heap):Prop where
 keep:∀ b o,h.get? b=some o->H b=none->b∉fs->b∉ex->h'.get? b=some o
 slot:∀ b o,h.get? b=some o->H b=none->b∈fs->b∉ex->∃ sl,h'.get? b=some { o with slots:=sl }
 free:∀ b o,h.get? b=some o->H b=none->b∉ex->H' b=none
 there:∀ b o,h.get? b=some o->b∉ex->∃ o',h'.get? b=some o'
 tups:∀ b xs,H b=some (.tup xs)->H' b=some (.tup xs)
 frzs:∀ b o u,H b=some (.frz o u)->H' b=some (.frz o u)
 tbls:∀ b ps,H b=some (.tbl ps)->∃ more,H' b=some (.tbl (ps++more))
section
variable {fs Uq ex WR:List Addr} {H H1 H2:Hp} {h h1 h2 h':Heap} {a x e:Addr} {o:HO}
theorem Un.any (u:Un fs ex H H1 h h1) {b:Addr} {ob:Obj} (q:h.get? b=some ob) (n:H b=none) (hx:b∉ex):∃ sl,h1.get? b=some { ob with slots:=sl }:=by
 by_cases hb:b∈fs
 ·exact u.slot b ob q n hb hx
 ·exists ob.slots,u.keep b ob q n hb hx
theorem Un.kept (k:∀ b u,h.get? b=some u->h'.get? b=some u):Un fs ex H H h h' :=
 ⟨fun b ob q _ _ _=>k b ob q,fun b ob q _ _ _=>⟨ob.slots,k b ob q⟩,fun _ _ _ n _=>n,fun b ob q _=>⟨ob,k b ob q⟩,fun _ _ q=>q,fun _ _ _ q=>q,fun _ ps q=>⟨#[],by rw [q]; simp⟩⟩
theorem Un.refl:Un fs ex H H h h:=Un.kept fun _ _ q=>q
theorem Un.laid (k:∀ b u,h.get? b=some u->h'.get? b=some u) (hp:h.objs.size<=a) (hn:H a=none):Un fs ex H (upd H a o) h h' where
 keep:=fun b u q _ _ _=>k b u q
 slot:=fun b u q _ _ _=>⟨u.slots,k b u q⟩
 free:=fun b u q n _=>by rw [aj (XR (XF (Heap.lt_size q) hp))]; exact n
 there:=fun b u q _=>⟨u,k b u q⟩
 tups:=fun b xs q=>by rw [aj (ay q hn)]; exact q
 frzs:=fun b u xs q=>by rw [aj (ay q hn)]; exact q
 tbls:=fun b ps q=>⟨#[],by rw [aj (ay q hn),q]; simp⟩
theorem Un.write (mu:Mut (H x)) (he:e=x\/H e=some (.own x)) (k:∀ b u,b≠e->h.get? b=some u->h'.get? b=some u) (heo:∃ u,h'.get? e=some u):Un fs ex H (upd H x o) h h':=by
 have hx:∀ b,H b=none->b≠x:=fun b n z=>by subst z; rw [n] at mu; exact mu
 have hb:∀ b,H b=none->b≠e:=fun b n z=>by
  subst z;rcases he with r | r
  ·exact hx b n r
  ·rw [n] at r; cases r
 have hm:∀ b u,H b=some u->¬ Mut (some u)->b≠x:=fun b u q nm z=>by subst z; rw [q] at mu; exact nm mu
 refine ⟨fun b u q n _ _=>k b u (hb b n) q,fun b u q n _ _=>⟨u.slots,k b u (hb b n) q⟩,fun b u q n _=>by rw [aj (hx b n)]; exact n,fun b u q _=>?_,
  fun b xs q=>by rw [aj (hm b _ q fun z=>z)]; exact q,fun b u xs q=>by rw [aj (hm b _ q fun z=>z)]; exact q,fun b ps q=>⟨#[],by rw [aj (hm b _ q fun z=>z),q]; simp⟩⟩
 by_cases hbe:b=e
 ·subst hbe; exact heo
 ·exists u,k b u hbe q
end
noncomputable def trk (h:Heap) (H:Hp):List Addr:=(Yh h.objs.size).filter fun a=>(H a).isSome
noncomputable def vA (h:Heap) (H:Hp):Heap:=PySem.W.hideAll h (trk h H)
theorem Db (h:Heap) (H:Hp):(vA h H).objs.size=h.objs.size:=PySem.W.hideAll_size _ _
theorem Gw {h:Heap} {H:Hp} {b:Addr} {o:Obj} (e:h.get? b=some o) (n:H b=none):(vA h H).get? b=some o :=
 PySem.W.hideAll_get _ e fun hm=>by
  have q:(H b).isSome=true:=(YE.mp hm).2;rw [n] at q; simp at q
theorem Jj {h:Heap} {H:Hp} {b:Addr} {o:Obj} (e:(vA h H).get? b=some o):h.get? b=some o/\H b=none:=by
 have e':h.get? b=some o:=PySem.W.of_hideAll (trk h H) e;exists e',?_;cases q:H b with
 | none=>rfl
 | some x =>
  have hm:b∈trk h H:=YE.mpr ⟨Yj.mpr (Heap.lt_size e'),by simp [q]⟩;have z:(vA h H).get? b=none:=PySem.W.hideAll_none (trk h H) hm;rw [z] at e; cases e
open PySem PySem.Spec PyProof.Rows
structure Mod (K:Frag) (mg:Str->Option Value) (base:Heap):Prop where
 kin:K.In base
 glob:base.Ns mainGlobals mg
 blt:∃ mb,base.Ns builtinsNs mb/\∀ x:Str,x ≠ "__name__"->mb x=bootBuiltins x
 nolimit:base.NoLimit
structure Cx where
 prog:Program
 w:World
 K:Frag
 mg:Str->Option Value
 base:Heap
 A:Around
 N:List Str
 s₀:Shared
 H₀:Hp
 env:Env
 outer:List Env
 stack:List Env
 ex:List Addr
 fn:Str->Bool
 calm:Bool
 pn:List (Addr×Obj)
 xe:Value->Shared->Prop
noncomputable def frs (l:List Env):List Addr:=l.filterMap (·.frame)
abbrev Cx.fs (X:Cx):List Addr:=frs X.outer
noncomputable def Vis (sc:Scope) (x:Str):Prop:=sc.names.lookup x=some .local\/sc.names.lookup x=some .cell\/sc.names.lookup x=some .free
noncomputable def Loc (sc:Scope) (x:Str):Prop:=sc.names.lookup x=some .local\/sc.names.lookup x=some .cell
noncomputable def QW (env:Env) (h:Heap) (m:Str->Option Value) (x:Str) (u:Value):Prop :=
 (env.kindOf x=some .local/\m x=some u)\/((env.kindOf x=some .cell\/env.kindOf x=some .free)/\∃ c,env.cells.lookup x=some c/\h.IsCell c (some u))
structure Cx.Ok (X:Cx):Prop where
 mod:Mod X.K X.mg X.base
 kind:X.env.scope.kind=.function
 glob:X.env.globals=mainGlobals
 blt:X.env.builtins=builtinsNs
 above:X.s₀.heap.objs.size<=X.env.locals
 inj:∀ x y c,X.env.cells.lookup x=some c->X.env.cells.lookup y=some c->x=y
 has:∀ x,(X.env.kindOf x=some .cell\/X.env.kindOf x=some .free)->∃ c,X.env.cells.lookup x=some c
 cab:∀ x c,X.fn x=true->X.env.cells.lookup x=some c->X.s₀.heap.objs.size<=c
 hd:X.calm=true->X.A.handled=none
 frames:X.A.frames=some X.stack
 stk:X.stack=X.outer\/(X.stack=X.env::X.outer/\X.env.frame=some X.env.locals)
 exf:∀ b∈X.ex,b≠X.env.locals/\∀ x c,X.env.cells.lookup x=some c->c≠b
 bs:∀ b o,X.base.get? b=some o->X.s₀.heap.get? b=some o/\X.H₀ b=none
 bsz:X.base.objs.size<=X.s₀.heap.objs.size
 noex:∀ b o,X.base.get? b=some o->b∉X.ex
 exfs:∀ b∈X.ex,b∉X.fs
 funs:X.s₀.heap.FunFrames X.base X.outer
 frf:∀ b∈X.fs,X.H₀ b=none
structure Inv (X:Cx) (ae:List (Addr×Obj)) (σ:List (Option V)) (H:Hp) (s:Shared):Prop where
 ok:X.Ok
 os:s.os=X.s₀.os
 bare:AllBare s.gens
 base:Un X.fs X.ex X.H₀ H X.s₀.heap s.heap
 loc:∃ m,s.heap.Ns X.env.locals m/\∀ (i:Nat) (x:Str) (v:V),X.N[i]?=some x->σ[i]?=some (some v)->Vis X.env.scope x->∃ u,a7 v u/\QW X.env s.heap m x u
 cell:∀ x c,X.env.cells.lookup x=some c->∃ v,s.heap.IsCell c v
 free:H X.env.locals=none
 freeC:∀ x c,X.env.cells.lookup x=some c->H c=none
 pin:∀ p∈X.pn++ae,s.heap.get? p.1=some p.2/\H p.1=none/\p.1≠X.env.locals/\p.1∉X.fs/\∀ v,p.2.data≠.cell v
 hok:HOk X.prog X.w H s.heap
 len:σ.length=X.N.length
section
variable {X:Cx} {ae:List (Addr×Obj)} {σ:List (Option V)} {H H':Hp} {s:Shared} {h':Heap}
theorem Cx.Ok.nofr (ok:X.Ok) {b:Addr} {o:Obj} (e:X.base.get? b=some o):b∉X.fs:=fun hb=>by
 have:=(ok.funs.mem hb).1
 rw [e] at this; cases this
theorem Inv.bs (I:Inv X ae σ H s):∀ b o,X.base.get? b=some o->s.heap.get? b=some o/\H b=none:=fun b o e =>
 ⟨I.base.keep b o (I.ok.bs b o e).1 (I.ok.bs b o e).2 (I.ok.nofr e) (I.ok.noex b o e),I.base.free b o (I.ok.bs b o e).1 (I.ok.bs b o e).2 (I.ok.noex b o e)⟩
theorem Inv.bk (I:Inv X ae σ H s):∀ b o,X.base.get? b=some o->s.heap.get? b=some o:=fun b o e=>(I.bs b o e).1
theorem Inv.mod (I:Inv X ae σ H s):Mod X.K X.mg X.base:=I.ok.mod
theorem Inv.kIn (I:Inv X ae σ H s):X.K.In s.heap:=I.ok.mod.kin.keeps I.bk
theorem Inv.fr (I:Inv X ae σ H s):∃ m,Fr X.base X.env.locals s.heap m :=
 let ⟨m,hn,_⟩:=I.loc
 ⟨m,hn,I.bk,XC I.ok.bsz I.ok.above⟩
theorem Inv.lt (I:Inv X ae σ H s):X.env.locals<s.heap.objs.size:=let ⟨_,hn,_⟩:=I.loc; hn.lt
theorem Inv.sz (I:Inv X ae σ H s):X.s₀.heap.objs.size<=s.heap.objs.size:=XC I.ok.above (XI I.lt)
theorem Inv.nofs (I:Inv X ae σ H s) {a:Addr} (h:s.heap.objs.size<=a):a∉X.fs:=fun hb=>by
 obtain ⟨_,o,ho,_⟩:=I.ok.funs.mem hb;exact absurd (XF (Heap.lt_size ho) (XC I.sz h)) (X3 _)
theorem Inv.cne (I:Inv X ae σ H s):∀ x c,X.env.cells.lookup x=some c->c≠X.env.locals:=fun x c e z=>by
 obtain ⟨v,o,ho,hd⟩:=I.cell x c e;obtain ⟨m,⟨o',es,ep,sC,QI,_⟩,_⟩:=I.loc;rw [z,sC] at ho; cases ho; rw [QI] at hd; cases hd
theorem Inv.funs (I:Inv X ae σ H s):s.heap.FunFrames X.base X.outer:=by
 have all:∀ (l:List Env),(∀ b∈frs l,b∈X.fs)->X.s₀.heap.FunFrames X.base l->s.heap.FunFrames X.base l:=by
  intro l
  induction l with
  | nil=>intro _ _; trivial
  | cons env r ih =>
   intro hs hl;obtain ⟨hk,⟨L,o,hf,hn,ho,hd⟩,hr⟩:=hl;have hL:L∈X.fs:=hs L (by unfold frs; rw [YV,hf]; exact Xl);obtain ⟨sl,e⟩:=I.base.slot L o ho (I.ok.frf L hL) hL fun z=>I.ok.exfs L z hL
   exists hk,⟨L,_,hf,hn,e,hd⟩,ih (fun b hb=>hs b (by unfold frs; rw [YV,hf]; exact Xg _ hb)) hr
 exact all X.outer (fun _ hb=>hb) I.ok.funs
theorem Inv.stack (I:Inv X ae σ H s):s.heap.FunFrames X.base X.stack:=by
 rcases I.ok.stk with e | ⟨e,hf⟩
 ·rw [e]; exact I.funs
 ·rw [e];obtain ⟨m,hn,_⟩:=I.loc;refine .cons (by rw [I.ok.kind]; decide) hf hn ?_ I.funs;exact Heap.get?_none_of_le (XC I.ok.bsz I.ok.above)
theorem Inv.stkSub (I:Inv X ae σ H s):∀ b∈frs X.stack,b∈X.env.locals::X.fs:=fun b hb=>by
 rcases I.ok.stk with e | ⟨e,hf⟩
 ·rw [e] at hb; exact Xg _ hb
 ·rw [e] at hb;unfold frs at hb;rw [YV,hf] at hb;exact hb
theorem Inv.stkFree (I:Inv X ae σ H s):∀ b∈frs X.stack,H b=none:=fun b hb=>by
 rcases Xa.mp (I.stkSub b hb) with e | hb
 ·rw [e]; exact I.free
 ·obtain ⟨_,o,ho,_⟩:=I.ok.funs.mem hb;exact I.base.free b o ho (I.ok.frf b hb) fun z=>I.ok.exfs b z hb
theorem Inv.step {g':Array GenState} {t':Nat} {d':Drawn} {ch:List Addr} (I:Inv X ae σ H s)
  (hch:∀ b∈ch,(b∈X.ex\/X.s₀.heap.objs.size<=b)/\b≠X.env.locals/\(∀ x c,X.env.cells.lookup x=some c->c≠b)/\∀ p∈X.pn++ae,p.1≠b)
  (keep:∀ b o,b≠X.env.locals->b∉X.fs->b∉ch->s.heap.get? b=some o->H b=none->h'.get? b=some o)
  (slot:∀ b o,b≠X.env.locals->b∈X.fs->b∉ch->s.heap.get? b=some o->H b=none->∃ sl,h'.get? b=some { o with slots:=sl }) (free:∀ b o,b∉ch->s.heap.get? b=some o->H b=none->H' b=none)
  (there:∀ b o,b∉ch->s.heap.get? b=some o->∃ o',h'.get? b=some o')
  (tups:∀ b xs,H b=some (.tup xs)->H' b=some (.tup xs)) (frzs:∀ b o u,H b=some (.frz o u)->H' b=some (.frz o u)) (tbls:∀ b ps,H b=some (.tbl ps)->∃ more,H' b=some (.tbl (ps++more)))
  (ns:∀ m,s.heap.Ns X.env.locals m->h'.Ns X.env.locals m) (hok:HOk X.prog X.w H' h') (hg:AllBare g') :
  Inv X ae σ H' { s with heap:=h',gens:=g',drawn:=d',toks:=t' }:=by
 have neL:∀ b o,X.s₀.heap.get? b=some o->b≠X.env.locals:=fun b o e=>XR (XF (Heap.lt_size e) I.ok.above)
 have neC:∀ b o,X.s₀.heap.get? b=some o->b∉X.ex->b∉ch:=fun b o e hx hb=>by
  rcases (hch b hb).1 with z | z
  ·exact hx z
  ·exact absurd (XF (Heap.lt_size e) z) (X3 _)
 have cellK:∀ x c,X.env.cells.lookup x=some c->∀ v,s.heap.IsCell c v->h'.IsCell c v:=fun x c e v ⟨o,ho,hd⟩=>by
  have nch:c∉ch:=fun z=>(hch c z).2.2.1 x c e rfl
  by_cases hc:c∈X.fs
  ·obtain ⟨sl,q⟩:=slot c o (I.cne x c e) hc nch ho (I.freeC x c e);exists _,q,hd
  ·exists o,keep c o (I.cne x c e) hc nch ho (I.freeC x c e),hd
 exists I.ok,I.os,hg,⟨fun b o e n hb hx=>?_,fun b o e n hb hx=>?_,fun b o e n hx=>?_,fun b o e hx=>?_,fun b xs e=>tups b xs (I.base.tups b xs e),fun b o xs e=>frzs b o xs (I.base.frzs b o xs e),fun b ps e=>?_⟩,?_,fun x c e=>?_,?_,fun x c e=>?_,fun p hp=>?_,hok,I.len
 ·exact keep b o (neL b o e) hb (neC b o e hx) (I.base.keep b o e n hb hx) (I.base.free b o e n hx)
 ·obtain ⟨sl,e1⟩:=I.base.slot b o e n hb hx;obtain ⟨U1,e2⟩:=slot b _ (neL b o e) hb (neC b o e hx) e1 (I.base.free b o e n hx);exists U1,e2
 ·obtain ⟨o',e1⟩:=I.base.there b o e hx;exact free b o' (neC b o e hx) e1 (I.base.free b o e n hx)
 ·obtain ⟨o',e1⟩:=I.base.there b o e hx;exact there b o' (neC b o e hx) e1
 ·obtain ⟨m1,e1⟩:=I.base.tbls b ps e;obtain ⟨m2,e2⟩:=tbls b _ e1;exists m1++m2,by rw [e2,Array.append_assoc]
 ·obtain ⟨m,hn,hl⟩:=I.loc;exists m,ns m hn,fun i x v e1 e2 e3=>?_
  obtain ⟨u,r,l⟩:=hl i x v e1 e2 e3;exists u,r,?_;rcases l with l | ⟨k,c,e,z⟩
  ·exact .inl l
  ·exact .inr ⟨k,c,e,cellK x c e _ z⟩
 ·obtain ⟨v,z⟩:=I.cell x c e;exists v,cellK x c e v z
 ·obtain ⟨m,⟨o,_,_,ho,_⟩,_⟩:=I.loc;exact free _ o (fun z=>(hch _ z).2.1 rfl) ho I.free
 ·obtain ⟨v,o,ho,hd⟩:=I.cell x c e;exact free c o (fun z=>(hch c z).2.2.1 x c e rfl) ho (I.freeC x c e)
 ·obtain ⟨e,n,ne,nf,d⟩:=I.pin p hp;have nch:p.1∉ch:=fun z=>(hch p.1 z).2.2.2 p hp rfl
  exists keep p.1 p.2 ne nf nch e n,free p.1 p.2 nch e n,ne,nf,d
theorem Inv.un {t':Nat} (I:Inv X ae σ H s) (u:Un X.fs [] H H' s.heap h') (hok:HOk X.prog X.w H' h'):Inv X ae σ H' { s with heap:=h',toks:=t' }:=by
 obtain ⟨m,⟨o,es,ep,ho,r⟩,_⟩:=id I.loc;obtain ⟨sl,hL⟩:=u.any ho I.free (by simp);exact I.step (g':=s.gens) (d':=s.drawn) (ch:=[]) (fun _ z=>nomatch z) (fun b o _ hb _ e n=>u.keep b o e n hb (by simp)) (fun b o _ hb _ e n=>u.slot b o e n hb (by simp)) (fun b o _ e n=>u.free b o e n (by simp)) (fun b o _ e=>u.there b o e (by simp)) u.tups u.frzs u.tbls (fun m' hm=>by
  obtain ⟨o',RG,R9,sC,r'⟩:=hm;rw [ho] at sC; cases sC;exact ⟨_,RG,R9,hL,r'⟩) hok I.bare
theorem Inv.call {g':Array GenState} {t':Nat} {d':Drawn} {ch:List Addr} (I:Inv X ae σ H s) (u:Un (frs X.stack) ch H H' s.heap h') (hok:HOk X.prog X.w H' h') (hg:AllBare g')
  (hch:∀ b∈ch,(b∈X.ex\/X.s₀.heap.objs.size<=b)/\b≠X.env.locals/\(∀ x c,X.env.cells.lookup x=some c->c≠b)/\∀ p∈X.pn++ae,p.1≠b) :
  Inv X ae σ H' { s with heap:=h',gens:=g',drawn:=d',toks:=t' }:=by
 obtain ⟨m,⟨o,es,ep,ho,r⟩,_⟩:=id I.loc;obtain ⟨sl,hL⟩:=u.any ho I.free fun z=>(hch _ z).2.1 rfl
 exact I.step (ch:=ch) hch (fun b o hL hb hc e n=>u.keep b o e n (fun z=>(Xa.mp (I.stkSub b z)).elim hL hb) hc) (fun b o _ _ hc e n=>u.any e n hc) (fun b o hc e n=>u.free b o e n hc) (fun b o hc e=>u.there b o e hc) u.tups u.frzs u.tbls (fun m' hm=>by
  obtain ⟨o',RG,R9,sC,r'⟩:=hm;rw [ho] at sC; cases sC;exact ⟨_,RG,R9,hL,r'⟩) hok hg
theorem Inv.turned {t':Nat} {it:Addr} (I:Inv X ae σ H s) (k:∀ b o,b≠it->s.heap.get? b=some o->h'.get? b=some o) (hn:H it=none) (hL:it≠X.env.locals)
  (h1:it∈X.ex\/X.s₀.heap.objs.size<=it) (h2:∀ x c,X.env.cells.lookup x=some c->c≠it) (h3:∀ p∈X.pn++ae,p.1≠it):Inv X ae σ H { s with heap:=h',toks:=t' }:=by
 have nit:∀ b u,H b=some u->b≠it:=fun b u e z=>by rw [z,hn] at e; cases e
 refine I.step (g':=s.gens) (d':=s.drawn) (ch:=[it]) (fun b hb=>?_) (fun b o _ _ hc e _=>k b o (fun z=>hc (by simp [z])) e) (fun b o _ _ hc e _=>⟨o.slots,k b o (fun z=>hc (by simp [z])) e⟩) (fun _ _ _ _ n=>n)
  (fun b o hc e=>⟨o,k b o (fun z=>hc (by simp [z])) e⟩) (fun _ _ e=>e) (fun _ _ _ e=>e) (fun b ps e=>⟨#[],by rw [e]; simp⟩) (fun m hm=>?_) (fun b u e=>?_) I.bare
 ·have e:b=it:=by simpa using hb
  subst e;exists h1,hL,h2,h3
 ·obtain ⟨o,es,ep,ho,r⟩:=hm;exists o,es,ep,k _ o (Ne.symm hL) ho,r
 ·refine (I.hok b u e).stay (fun c v hc q=>k c v ?_ q) (fun _ q=>q) fun _ _ q=>q
  rcases hc with z | z
  ·rw [z]; exact nit b u e
  ·exact nit c _ z
theorem Inv.tok (I:Inv X ae σ H s) (t:Nat):Inv X ae σ H { s with toks:=t }:=I.un (h':=s.heap) (t':=t) Un.refl I.hok
theorem Inv.kept {t':Nat} (I:Inv X ae σ H s) (k:∀ b u,s.heap.get? b=some u->h'.get? b=some u):Inv X ae σ H { s with heap:=h',toks:=t' }:=I.un (Un.kept k) (I.hok.kept k)
theorem Inv.laid {a:Addr} {o:HO} {t':Nat} (I:Inv X ae σ H s) (k:∀ b u,s.heap.get? b=some u->h'.get? b=some u) (hp:s.heap.objs.size<=a) (new:bW X.prog X.w (upd H a o) h' a o) :
  Inv X ae σ (upd H a o) { s with heap:=h',toks:=t' }:=I.un (Un.laid k hp (I.hok.fresh hp)) (I.hok.laid k hp new)
theorem Inv.write {x e:Addr} {o:HO} {t':Nat} (I:Inv X ae σ H s) (mu:Mut (H x)) (he:e=x\/H e=some (.own x)) (k:∀ b u,b≠e->s.heap.get? b=some u->h'.get? b=some u) (heo:∃ u,h'.get? e=some u)
  (new:bW X.prog X.w (upd H x o) h' x o):Inv X ae σ (upd H x o) { s with heap:=h',toks:=t' }:=I.un (Un.write mu he k heo) (I.hok.write mu he k heo new)
theorem Inv.weak {σ':List (Option V)} (I:Inv X ae σ H s) (hl:σ'.length=σ.length) (w:∀ (i:Nat) v,σ'[i]?=some (some v)->σ[i]?=some (some v)):Inv X ae σ' H s :=
 ⟨I.ok,I.os,I.bare,I.base,let ⟨m,hn,hl'⟩:=I.loc; ⟨m,hn,fun i x v e1 e2 e3=>hl' i x v e1 (w i v e2) e3⟩,I.cell,I.free,I.freeC,I.pin,I.hok,hl.trans I.len⟩
theorem Inv.pins_of {La:List (Addr×Obj)} (I:Inv X ae σ H s) (h:∀ p∈La,s.heap.get? p.1=some p.2/\H p.1=none/\p.1≠X.env.locals/\p.1∉X.fs/\∀ v,p.2.data≠.cell v):Inv X La σ H s :=
 ⟨I.ok,I.os,I.bare,I.base,I.loc,I.cell,I.free,I.freeC,fun p hp=>(Xm.mp hp).elim (fun z=>I.pin p (XD _ z)) (h p),I.hok,I.len⟩
theorem xy {N:List Str} (hN:N.Nodup) {i j:Nat} {x:Str} (a:N[i]?=some x) (b:N[j]?=some x):i=j:=by
 obtain ⟨h1,e1⟩:=Xv.mp a;obtain ⟨h2,e2⟩:=Xv.mp b;exact (List.getElem_inj hN).mp (e1.trans e2.symm)
theorem DV {M:Model} {A:Around} {E:Value->Shared->Prop} {i:Nat} {x:Str} {v:V} {u:Value} {Q:Unit->Shared->Prop} (I:Inv X ae σ H s) (hN:X.N.Nodup) (hi:X.N[i]?=some x) (hx:Loc X.env.scope x) (r:a7 v u)
  (h:∀ s',Inv X ae (σ.set i (some v)) H s'->(∃ a,Heap.SameBut a s.heap s'.heap/\(a=X.env.locals\/X.env.cells.lookup x=some a))->Q Unit.unit s') (hf:X.fn x=true\/X.env.scope.names.lookup x=some .local:=by first | exact .inl rfl | exact .inr rfl | assumption):wpAny M A (storeName X.env x u) Q E s:=by
 obtain ⟨m,hn,hl⟩:=id I.loc;have hcls:(X.env.scope.kind==.class||(X.env.scope.kind==.module&&X.env.locals != X.env.globals))=false:=by rw [I.ok.kind]; rfl
 have hiσ:i<σ.length:=by rw [I.len]; exact (Xv.mp hi).1
 have cne:=I.cne;have tracked:∀ {a:Addr} {h':Heap},(∃ o,s.heap.get? a=some o/\H a=none)->Heap.SameBut a s.heap h'->HOk X.prog X.w H h':=fun {a h'} ha hs b ob e=>by
  obtain ⟨_,_,hfree⟩:=ha;refine (I.hok b ob e).stay (fun c w' hc q=>(hs.2 c ?_).trans q) (fun _ q=>q) fun _ _ q=>q
  rintro rfl
  rcases hc with rfl | hc
  ·rw [hfree] at e; cases e
  ·rw [hfree] at hc; cases hc
 rcases hx with hk | hk
 ·refine wpAny_storeName_local hk hn (fun h' PR hs=>?_) hcls;obtain ⟨oL,_,_,hoL,_⟩:=id hn;refine h _ ⟨I.ok,I.os,I.bare,⟨fun b o e n hb hx=>?_,fun b o e n hb hx=>?_,I.base.free,fun b o e hx=>?_,I.base.tups,I.base.frzs,I.base.tbls⟩,⟨_,PR,fun j y v' e1 e2 e3=>?_⟩,fun y c e=>?_,I.free,I.freeC,fun p hp=>?_,tracked ⟨oL,hoL,I.free⟩ hs,by simpa using I.len⟩ ⟨_,hs,.inl rfl⟩
  ·exact (hs.2 b (XR (XF (Heap.lt_size e) I.ok.above))).trans (I.base.keep b o e n hb hx)
  ·obtain ⟨sl,e1⟩:=I.base.slot b o e n hb hx;exists sl,(hs.2 b (XR (XF (Heap.lt_size e) I.ok.above))).trans e1
  ·obtain ⟨o',e1⟩:=I.base.there b o e hx;exists o',(hs.2 b (XR (XF (Heap.lt_size e) I.ok.above))).trans e1
  ·by_cases hj:j=i
   ·subst hj;rw [hi] at e1; cases e1;rw [Zw hiσ] at e2;cases e2;exists u,r,.inl ⟨hk,by simp⟩
   ·rw [aak (Ne.symm hj)] at e2;obtain ⟨u',r',q⟩:=hl j y v' e1 e2 e3;exists u',r',?_;rcases q with ⟨k,e⟩ | ⟨k,c,e,z⟩
    ·refine .inl ⟨k,?_⟩
     have:y≠x:=fun e=>hj (xy hN e1 (e ▸ hi))
     simp [this,e]
    ·exact .inr ⟨k,c,e,z.sameBut hs (cne y c e)⟩
  ·obtain ⟨w',z⟩:=I.cell y c e;exists w',z.sameBut hs (cne y c e)
  ·obtain ⟨e,n,ne,nf,d⟩:=I.pin p hp;exists (hs.2 p.1 ne).trans e,n,ne,nf,d
 ·have hfn:X.fn x=true:=by
   rcases hf with z | z
   ·exact z
   ·rw [z] at hk; cases hk
  obtain ⟨c,hc⟩:=I.ok.has x (.inl hk);obtain ⟨w',z⟩:=I.cell x c hc;refine wpAny_storeName_cell I.ok.kind hk hc z (fun h' C7 hs=>?_);obtain ⟨oc,hoc,hocd⟩:=id z;refine h { s with heap:=h' } ⟨I.ok,I.os,I.bare,⟨fun b o e n hb hx=>?_,fun b o e n hb hx=>?_,I.base.free,fun b o e hx=>?_,I.base.tups,I.base.frzs,I.base.tbls⟩,⟨m,hn.sameBut hs (Ne.symm (cne x c hc)),fun j y v' e1 e2 e3=>?_⟩,fun y c' e=>?_,I.free,I.freeC,fun p hp=>?_,tracked ⟨oc,hoc,I.freeC x c hc⟩ hs,by simpa using I.len⟩ ⟨c,hs,.inr hc⟩
  ·exact (hs.2 b (XR (XF (Heap.lt_size e) (I.ok.cab x c hfn hc)))).trans (I.base.keep b o e n hb hx)
  ·obtain ⟨sl,e1⟩:=I.base.slot b o e n hb hx;exists sl,(hs.2 b (XR (XF (Heap.lt_size e) (I.ok.cab x c hfn hc)))).trans e1
  ·obtain ⟨o',e1⟩:=I.base.there b o e hx;exists o',(hs.2 b (XR (XF (Heap.lt_size e) (I.ok.cab x c hfn hc)))).trans e1
  ·by_cases hj:j=i
   ·subst hj;rw [hi] at e1; cases e1;rw [Zw hiσ] at e2;cases e2;exists u,r,.inr ⟨.inl hk,c,hc,C7⟩
   ·rw [aak (Ne.symm hj)] at e2;obtain ⟨u',r',q⟩:=hl j y v' e1 e2 e3;exists u',r',?_;rcases q with q | ⟨k,c',e,z'⟩
    ·exact .inl q
    ·refine .inr ⟨k,c',e,z'.sameBut hs ?_⟩
     rintro rfl
     exact hj (xy hN e1 (I.ok.inj _ _ _ e hc ▸ hi))
  ·by_cases hcc:c'=c
   ·subst hcc; exact ⟨_,C7⟩
   ·obtain ⟨w2,z2⟩:=I.cell y c' e;exists w2,z2.sameBut hs hcc
  ·obtain ⟨e,n,ne,nf,d⟩:=I.pin p hp;exists (hs.2 p.1 ?_).trans e,n,ne,nf,d;intro q;rw [q,hoc] at e;have q':oc=p.2:=Option.some.inj e;exact d w' (by rw [<- q']; exact hocd)
theorem pG {M:Model} {A:Around} {E:Value->Shared->Prop} {i:Nat} {x:Str} {v:V} {u:Value} {Q:Unit->Shared->Prop} (I:Inv X ae σ H s) (hN:X.N.Nodup) (hi:X.N[i]?=some x) (hx:Loc X.env.scope x) (r:a7 v u)
  (h:∀ s',Inv X ae (σ.set i (some v)) H s'->Q Unit.unit s') (hf:X.fn x=true\/X.env.scope.names.lookup x=some .local:=by first | exact .inl rfl | exact .inr rfl | assumption):wpAny M A (storeName X.env x u) Q E s :=
 DV I hN hi hx r (fun s' I' _=>h s' I') hf
theorem Inv.call' {s':Shared} {ch:List Addr} (I:Inv X ae σ H s) (ho:s'.os=s.os) (u:Un (frs X.stack) ch H H' s.heap s'.heap) (hok:HOk X.prog X.w H' s'.heap) (hg:AllBare s'.gens)
  (hch:∀ b∈ch,(b∈X.ex\/X.s₀.heap.objs.size<=b)/\b≠X.env.locals/\(∀ x c,X.env.cells.lookup x=some c->c≠b)/\∀ p∈X.pn++ae,p.1≠b):Inv X ae σ H' s':=by
 obtain ⟨h',g',d',t',o'⟩:=s';have e:o'=s.os:=ho;subst e;exact I.call (g':=g') (t':=t') (d':=d') u hok hg hch
end
abbrev XK:=Value->Option Addr->Hp->Prop
abbrev St:=List (Option V)
abbrev VK:=V->Hp->Prop
abbrev TE:=St->Hp->VK->Prop
abbrev TT:=St->Hp->(Bool->Hp->Prop)->Prop
abbrev TA:=St->Hp->(List V->Hp->Prop)->Prop
structure jx where
 nx:St->Hp->Prop
 rt:VK
 bk:St->Hp->Prop:=fun _ _=>False
 ct:St->Hp->Prop:=fun _ _=>False
abbrev TS:=jx->St->Hp->Prop
noncomputable def EP (X:Cx) (ae:List (Addr×Obj)) (σ:St) (Q:VK) (u:Value) (s':Shared):Prop:=∃ v H',Inv X ae σ H' s'/\a7 v u/\Q v H'
noncomputable def TP (X:Cx) (ae:List (Addr×Obj)) (σ:St) (Q:Bool->Hp->Prop) (b:Bool) (s':Shared):Prop:=∃ H',Inv X ae σ H' s'/\Q b H'
noncomputable def AP (X:Cx) (ae:List (Addr×Obj)) (σ:St) (Q:List V->Hp->Prop) (us:List Value) (s':Shared):Prop:=∃ vs H',Inv X ae σ H' s'/\aI vs us/\Q vs H'
noncomputable def SP (X:Cx) (ae:List (Addr×Obj)) (D:jx) (f:Flow) (s':Shared):Prop :=
 match f with
 | .next=>∃ σ' H',Inv X ae σ' H' s'/\D.nx σ' H'
 | .brk=>∃ σ' H',Inv X ae σ' H' s'/\D.bk σ' H'
 | .cont=>∃ σ' H',Inv X ae σ' H' s'/\D.ct σ' H'
 | .ret u=>∃ v σ' H',Inv X ae σ' H' s'/\a7 v u/\D.rt v H'
noncomputable def PE (X:Cx) (e:Expr) (t:TE):Prop :=
 ∀ (ae:List (Addr×Obj)) (s:Shared) (σ:St) (H:Hp) (Q:VK),Inv X ae σ H s->t σ H Q->wpAny (model X.prog X.w) X.A (eval e X.env) (EP X ae σ Q) X.xe s
noncomputable def PT (X:Cx) (e:Expr) (t:TT):Prop :=
 ∀ (ae:List (Addr×Obj)) (s:Shared) (σ:St) (H:Hp) (Q:Bool->Hp->Prop),Inv X ae σ H s->t σ H Q->wpAny (model X.prog X.w) X.A (isTrue e X.env (eval e X.env)) (TP X ae σ Q) X.xe s
noncomputable def PW (X:Cx) (e:Expr) (t:TT):Prop :=
 ∀ (whole:Sem Value) (ae:List (Addr×Obj)) (s:Shared) (σ:St) (H:Hp) (Q:Bool->Hp->Prop),Inv X ae σ H s->t σ H Q->wpAny (model X.prog X.w) X.A (isTrue e X.env whole) (TP X ae σ Q) X.xe s
theorem PW.pt {X:Cx} {e:Expr} {t:TT} (h:PW X e t):PT X e t:=h _
noncomputable def PA (X:Cx) (es:List Expr) (t:TA):Prop :=
 ∀ (pos:Pos) (ae:List (Addr×Obj)) (s:Shared) (σ:St) (H:Hp) (Q:List V->Hp->Prop),Inv X ae σ H s->t σ H Q->wpAny (model X.prog X.w) X.A (spliced (backTo pos (starEach es X.env))) (AP X ae σ Q) X.xe s
noncomputable def PS (X:Cx) (st:Stmt) (t:TS):Prop :=
 ∀ (ae:List (Addr×Obj)) (s:Shared) (σ:St) (H:Hp) (D:jx),Inv X ae σ H s->t D σ H->wpAny (model X.prog X.w) X.A (exec st X.env) (SP X ae D) X.xe s
noncomputable def PSs (X:Cx) (st:List Stmt) (t:TS):Prop :=
 ∀ (ae:List (Addr×Obj)) (s:Shared) (σ:St) (H:Hp) (D:jx),Inv X ae σ H s->t D σ H->wpAny (model X.prog X.w) X.A (execs st X.env) (SP X ae D) X.xe s
theorem thn {α:Type} {t:Sem α} {Q Q':α->Shared->Prop} {M:Model} {A:Around} {E:Value->Shared->Prop} {s:Shared} (h:wpAny M A t Q E s) (hQ:∀ a s,Q a s->Q' a s):wpAny M A t Q' E s:=wpAny_mono h hQ fun _ _ x=>x
open PySem PySem.Spec PyProof.Rows
section
variable {X:Cx}
inductive JR (i:Nat) (σ:St) (H:Hp) (Q:VK):Prop
 | mk (v):(σ[i]?=some (some v))->(Q v H)->JR i σ H Q
noncomputable def tC (v:V):TE:=fun _ H Q=>Q v H
theorem Mn {i:Nat} {x:Str} {pos:Pos} (hN:X.N[i]?=some x) (hv:Vis X.env.scope x) (hd:(x==("__debug__":Str))=false:=by decide) (hcd:(x==("__classdict__":Str))=false:=by decide):PE X (.Name x pos) (JR i):=by
 intro ae s σ H Q I h;obtain ⟨v,e,h⟩:=h;obtain ⟨m,hn,hl⟩:=I.loc;obtain ⟨u,r,l⟩:=hl i x v hN e hv;have fin:EP X ae σ Q u s:=⟨v,H,I,r,h⟩;rcases l with ⟨hk,hm⟩ | ⟨hk,c,hc,hcell⟩
 ·exact wpAny_Name (wpAny_loadName_local I.ok.kind hk hn hm fin) hd
 ·rcases hk with hk | hk
  ·exact wpAny_Name (wpAny_loadName_cell I.ok.kind hk hc hcell fin) hd
  ·exact wpAny_Name (wpAny_loadName_free I.ok.kind hk hc hcell fin hcd) hd
theorem af {i j pos}:PE X (.Constant (.int i) j pos) (tC (.int i)):=fun _ _ _ H _ I h=>wpAny_Constant_int ⟨.int i,H,I.tok _,⟨_,rfl⟩,h⟩
theorem dj {b j pos}:PE X (.Constant (.bool b) j pos) (tC (.bl b)):=fun _ _ _ H _ I h=>Constant_bool ⟨.bl b,H,I,rfl,h⟩
theorem bB {j pos}:PE X (.Constant .none j pos) (tC .non):=fun _ _ _ H _ I h=>Constant_none ⟨.non,H,I,rfl,h⟩
theorem ag {x j pos}:PE X (.Constant (.str x) j pos) (tC (.str x)):=fun _ _ _ H _ I h=>Calls.Constant_str ⟨.str x,H,I.tok _,⟨_,rfl⟩,h⟩
noncomputable def Gl (X:Cx) (x:Str):Prop:=X.env.kindOf x=some .globalImplicit
theorem vB {E:Value->Shared->Prop} {ae:List (Addr×Obj)} {s:Shared} {σ:St} {H:Hp} {x:Str} {u:Value} {pos:Pos} {Q:Value->Shared->Prop} (I:Inv X ae σ H s) (hg:Gl X x) (hm:X.mg x=some u) (h:Q u s)
  (hd:(x==("__debug__":Str))=false:=by decide):wpAny (model X.prog X.w) X.A (eval (.Name x pos) X.env) Q E s :=
 Calls.Name_function_global I.ok.kind hg (Calls.loadGlobal_global (by rw [I.ok.glob]; exact I.mod.glob.keeps I.bk) hm h) hd
theorem gQ {E:Value->Shared->Prop} {ae:List (Addr×Obj)} {s:Shared} {σ:St} {H:Hp} {x:Str} {u:Value} {pos:Pos} {Q:Value->Shared->Prop} (I:Inv X ae σ H s) (hg:Gl X x) (hm:X.mg x=none) (hv:bootBuiltins x=some u) (h:Q u s)
  (hn:x ≠ "__name__":=by decide) (hd:(x==("__debug__":Str))=false:=by decide):wpAny (model X.prog X.w) X.A (eval (.Name x pos) X.env) Q E s:=by
 obtain ⟨mb,h1,h2⟩:=I.mod.blt;exact Calls.Name_function_global I.ok.kind hg (Calls.loadGlobal_builtin (by rw [I.ok.glob]; exact I.mod.glob.keeps I.bk) hm (by rw [I.ok.blt]; exact h1.keeps I.bk) ((h2 x hn).trans hv) h) hd
theorem cg {x:Str} {v:V} {u:Value} {pos:Pos} (hg:Gl X x) (hm:X.mg x=some u) (r:a7 v u) (hd:(x==("__debug__":Str))=false:=by decide):PE X (.Name x pos) (tC v) :=
 fun _ _ _ H _ I h=>vB I hg hm ⟨v,H,I,r,h⟩ hd
theorem iq {x:Str} {v:V} {u:Value} {pos:Pos} (hg:Gl X x) (hm:X.mg x=none) (hv:bootBuiltins x=some u) (r:a7 v u) (hn:x ≠ "__name__":=by decide) (hd:(x==("__debug__":Str))=false:=by decide):PE X (.Name x pos) (tC v) :=
 fun _ _ _ H _ I h=>gQ I hg hm hv ⟨v,H,I,r,h⟩ hn hd
variable {a b:Expr} {ta tb:TE} {pos:Pos}
inductive OL (Q:Bool->Hp->Prop) (x:V) (H1:Hp):Prop
 | mk (c):(x=.bl c)->(Q c H1)->OL Q x H1
noncomputable def tB (t:TE):TT:=fun σ H Q=>t σ H fun x H1=>OL Q x H1
theorem di {e:Expr} {t:TE} (h:PE X e t) (he:∀ whole,isTrue e X.env whole=(do let v <- whole; standAt e.pos; holding [v] (truthy v)):=by intro _; rfl):PT X e (tB t):=by
 intro ae s σ H Q I hw;refine isTrue_plain (thn (h ae s σ H _ I hw) fun v s1 ⟨x,H1,I1,r1,q1⟩=>?_) (he _);obtain ⟨d,rfl,q⟩:=q1;cases r1;exact wpAny_truthy_bool ⟨H1,I1,q⟩
variable {tA Qr:TT} {rest:List Expr}
noncomputable def Re (t u:TT):TT:=fun σ H Q=>t σ H fun c H1=>if c=true then u σ H1 Q else Q false H1
noncomputable def tOr (t u:TT):TT:=fun σ H Q=>t σ H fun c H1=>if c=true then Q true H1 else u σ H1 Q
noncomputable def Q8 (t:TT):TT:=fun σ H Q=>t σ H fun c H1=>Q (!c) H1
theorem fB (ha:PT X a tA):PW X (.BoolOp .And [a] pos) tA:=by
 intro wh ae s σ H Q I h;refine isTrue_and (thn (ha ae s σ H Q I h) fun c s1 e=>?_);cases c with
 | true=>exact isTrue_and_nil e
 | false=>exact e
theorem cm (ha:PT X a tA):PW X (.BoolOp .Or [a] pos) tA:=by
 intro wh ae s σ H Q I h;refine isTrue_or (thn (ha ae s σ H Q I h) fun c s1 e=>?_);cases c with
 | false=>exact isTrue_or_nil e
 | true=>exact e
theorem gO (ha:PT X a tA) (hb:PW X (.BoolOp .And (b::rest) pos) Qr):PW X (.BoolOp .And (a::b::rest) pos) (Re tA Qr):=by
 intro wh ae s σ H Q I h;refine isTrue_and (thn (ha ae s σ H _ I h) fun c s1 ⟨H1,I1,q1⟩=>?_);cases c with
 | true=>exact hb wh ae s1 σ H1 Q I1 q1
 | false=>exact ⟨H1,I1,q1⟩
theorem cK (ha:PT X a tA) (hb:PW X (.BoolOp .Or (b::rest) pos) Qr):PW X (.BoolOp .Or (a::b::rest) pos) (tOr tA Qr):=by
 intro wh ae s σ H Q I h;refine isTrue_or (thn (ha ae s σ H _ I h) fun c s1 ⟨H1,I1,q1⟩=>?_);cases c with
 | true=>exact ⟨H1,I1,q1⟩
 | false=>exact hb wh ae s1 σ H1 Q I1 q1
theorem dI (ha:PT X a tA):PT X (.UnaryOp .Not a pos) (Q8 tA):=by
 intro ae s σ H Q I h;exact isTrue_not (ha ae s σ H (fun c H1=>Q (!c) H1) I h)
inductive CW (tb:TE) (σ:St) (Q:VK) (x:V) (H1:Hp):Prop
 | mk (c):(x=.bl c)->(if c=true then tb σ H1 Q else Q (.bl false) H1)->CW tb σ Q x H1
noncomputable def Oi (ta tb:TE):TE:=fun σ H Q=>ta σ H fun x H1=>CW tb σ Q x H1
theorem wb {op} {t:TE} (h:PE X a t):PE X (.BoolOp op [a] pos) t:=fun ae s σ H Q I hw=>BoolOp_one (h ae s σ H Q I hw)
theorem wc (ha:PE X a ta) (hb:PE X (.BoolOp .And (b::rest) pos) tb):PE X (.BoolOp .And (a::b::rest) pos) (Oi ta tb):=by
 intro ae s σ H Q I h;refine BoolOp_and (thn (ha ae s σ H _ I h) fun v s1 ⟨x,H1,I1,r1,q1⟩=>?_);obtain ⟨c,rfl,q1⟩:=q1;cases r1;refine wpAny_truthy_bool ?_;cases c with
 | true=>exact hb ae s1 σ H1 Q I1 q1
 | false=>exact ⟨.bl false,H1,I1,rfl,q1⟩
noncomputable def tIf (t:TT) (ta tb:TE):TE:=fun σ H Q=>t σ H fun c H1=>if c=true then ta σ H1 Q else tb σ H1 Q
theorem dE {c:Expr} (hc:PT X c tA) (ha:PE X a ta) (hb:PE X b tb):PE X (.IfExp c a b pos) (tIf tA ta tb):=by
 intro ae s σ H Q I h;refine wpAny_IfExp (thn (hc ae s σ H _ I h) fun d s1 ⟨H1,I1,q1⟩=>?_);cases d with
 | true=>exact ha ae s1 σ H1 Q I1 q1
 | false=>exact hb ae s1 σ H1 Q I1 q1
end
open PySem PySem.Spec PyProof.Rows
noncomputable def SqL (K:Frag) (H:Hp) (a:Addr) (xs:List V):Prop :=
 Rd H a (.lst xs) \/
  ∃ (o:Obj) (its:Array Value) (n:Nat),K.lookup a=some o/\o.cls=.type "list"/\o.dict=none/\o.data=.seq its n/\its.size<=sizeLine/\aI xs its.toList
noncomputable def SqT (K:Frag) (H:Hp) (a:Addr) (xs:List V):Prop :=
 Rd H a (.tup xs) \/
  ∃ (o:Obj) (its:Array Value) (n:Nat),K.lookup a=some o/\o.cls=.type "tuple"/\o.data=.seq its n/\its.size<=sizeLine/\aI xs its.toList
noncomputable def QR:Value->Option V
 | .none=>some .non
 | .bool b=>some (.bl b)
 | .int i _=>some (.int i)
 | .str x _=>some (.str x)
 | .bytes b _=>some (.byt b)
 | .float b _=>some (.flt b)
 | .ref a=>some (.ref a)
 | .type n=>some (.ty n)
 | _=>none
theorem a7.abs {x:V} {u:Value} (r:a7 x u):QR u=some x:=by
 cases x with
 | non=>cases r; rfl
 | bl _=>cases r; rfl
 | int _=>obtain ⟨t,rfl⟩:=r; rfl
 | str _=>obtain ⟨t,rfl⟩:=r; rfl
 | byt _=>obtain ⟨t,rfl⟩:=r; rfl
 | flt _=>obtain ⟨t,rfl⟩:=r; rfl
 | ref _=>cases r; rfl
 | ty _=>cases r; rfl
theorem a7.inj {x y:V} {u:Value} (r:a7 x u) (q:a7 y u):x=y:=Option.some.inj (r.abs.symm.trans q.abs)
theorem aI.inj:∀ {xs ys:List V} {us:List Value},aI xs us->aI ys us->xs=ys
 | _,_,_,.nil,.nil=>rfl
 | _,_,_,.cons r t,.cons r' t'=>by rw [r.inj r',aI.inj t t']
section
variable {X:Cx} {ae:List (Addr×Obj)} {σ:St} {H:Hp} {s:Shared} {a:Addr} {xs ys:List V}
theorem SqL.of {K:Frag} (h:H a=some (.lst xs)):SqL K H a xs:=.inl (.inl h)
theorem SqT.of {K:Frag} (h:H a=some (.tup xs)):SqT K H a xs:=.inl (.inl h)
theorem Inv.list (I:Inv X ae σ H s) (h:SqL X.K H a xs):∃ its:List Value,aI xs its/\PlainL s.heap a its.toArray/\xs.length<=sizeLine:=by
 rcases h with h | ⟨o,its,n,hk,hc,hd,hs,hz,r⟩
 ·obtain ⟨z,its,n,r,e⟩:=h.ok I.hok;exists its,r,⟨_,n,e,rfl,rfl,rfl⟩,z
 ·exists its.toList,r,⟨o,n,I.kIn a o hk,hc,hd,by simpa using hs⟩,?_;have e:=r.length;simp only [XS] at e;omega
theorem Inv.tuple (I:Inv X ae σ H s) (h:SqT X.K H a xs):∃ its:List Value,aI xs its/\IsTup s.heap a its.toArray/\xs.length<=sizeLine:=by
 rcases h with h | ⟨o,its,n,hk,hc,hs,hz,r⟩
 ·obtain ⟨z,its,r,p,_⟩:=h.ok I.hok;exists its,r,p,z
 ·exists its.toList,r,⟨o,I.kIn a o hk,hc,n,by simpa using hs⟩,?_;have e:=r.length;simp only [XS] at e;omega
theorem Inv.list_inj (I:Inv X ae σ H s) (h:SqL X.K H a xs) (h':SqL X.K H a ys):xs=ys:=by
 obtain ⟨its,r,⟨o,n,e,_,_,d⟩,_⟩:=I.list h;obtain ⟨its',r',⟨o',n',e',_,_,d'⟩,_⟩:=I.list h';rw [e] at e'; cases e';rw [d] at d';injection d' with d1 _
 have:its=its':=by simpa using congrArg aaP d1
 subst this;exact r.inj r'
theorem Inv.tuple_inj (I:Inv X ae σ H s) (h:SqT X.K H a xs) (h':SqT X.K H a ys):xs=ys:=by
 obtain ⟨its,r,⟨o,e,_,n,d⟩,_⟩:=I.tuple h;obtain ⟨its',r',⟨o',e',_,n',d'⟩,_⟩:=I.tuple h';rw [e] at e'; cases e';rw [d] at d';injection d' with d1 _
 have:its=its':=by simpa using congrArg aaP d1
 subst this;exact r.inj r'
end
abbrev Cx.wish (X:Cx) (E:Value->Shared->Prop):Cx:={ X with xe:=E }
abbrev Cx.nox (X:Cx):Cx:=X.wish fun _ _=>False
theorem Cx.Ok.wish {X:Cx} (ok:X.Ok) (E:Value->Shared->Prop):(X.wish E).Ok :=
 ⟨ok.mod,ok.kind,ok.glob,ok.blt,ok.above,ok.inj,ok.has,ok.cab,ok.hd,ok.frames,ok.stk,ok.exf,ok.bs,ok.bsz,ok.noex,ok.exfs,ok.funs,ok.frf⟩
theorem Cx.Ok.unwish {X:Cx} {E:Value->Shared->Prop} (ok:(X.wish E).Ok):X.Ok :=
 ⟨ok.mod,ok.kind,ok.glob,ok.blt,ok.above,ok.inj,ok.has,ok.cab,ok.hd,ok.frames,ok.stk,ok.exf,ok.bs,ok.bsz,ok.noex,ok.exfs,ok.funs,ok.frf⟩
section
variable {X:Cx} {ae:List (Addr×Obj)} {σ:St} {H:Hp} {s:Shared} {E:Value->Shared->Prop}
theorem Inv.wish (I:Inv X ae σ H s) (E:Value->Shared->Prop):Inv (X.wish E) ae σ H s:=⟨I.ok.wish E,I.os,I.bare,I.base,I.loc,I.cell,I.free,I.freeC,I.pin,I.hok,I.len⟩
theorem Inv.unwish (I:Inv (X.wish E) ae σ H s):Inv X ae σ H s:=⟨I.ok.unwish,I.os,I.bare,I.base,I.loc,I.cell,I.free,I.freeC,I.pin,I.hok,I.len⟩
theorem SP.unwish {D:jx} {f:Flow} {s':Shared} (h:SP (X.wish E) ae D f s'):SP X ae D f s':=by
 cases f with
 | next=>obtain ⟨σ',H',I,q⟩:=h; exact ⟨σ',H',I.unwish,q⟩
 | brk=>obtain ⟨σ',H',I,q⟩:=h; exact ⟨σ',H',I.unwish,q⟩
 | cont=>obtain ⟨σ',H',I,q⟩:=h; exact ⟨σ',H',I.unwish,q⟩
 | ret u=>obtain ⟨v,σ',H',I,r,q⟩:=h; exact ⟨v,σ',H',I.unwish,r,q⟩
theorem PSs.nox {st:List Stmt} {t:TS} (h:PSs X.nox st t):PSs X st t:=fun ae s σ H D I hw =>
 wpAny_mono (h ae s σ H D (I.wish _) hw) (fun _ _ q=>q.unwish) fun _ _ z=>False.elim z
end
noncomputable def Jc:Expr->Bool
 | .Starred _ _=>true
 | _=>false
theorem bo {e:Expr} {es:List Expr} {env:Env} (h:Jc e=false):starEach (e::es) env=(false,eval e env)::starEach es env:=by
 cases e<;>first | rfl | cases h
theorem qi {env:Env}:∀ {es:List Expr},es.all (fun e=>!Jc e)=true->starEach es env=es.map fun e=>(false,eval e env)
 | [],_=>rfl
 | e::es,h=>by
  rw [aam,XT] at h;rw [bo (by simpa using h.1),qi h.2]
  rfl
theorem cG {es:List Expr} {env:Env} {pos:Pos} (h:es.all (fun e=>!Jc e)=true):(backTo pos (starEach es env)).any (·.1)=false:=by
 rw [qi h];unfold backTo;rw [Yy,List.any_map,aax];intro x _;simp
theorem vY {e:Expr} {es:List Expr} {env:Env} {dk:Pos} (h:(e::es).all (fun e=>!Jc e)=true) (h2:decide ((e::es).length<29)=true):((backTo dk (starEach (e::es) env)).all (fun x=>!x.1)&&(backToKw dk (keywordEach [] env)).all (fun x=>x.1.isSome)
 &&decide ((e::es).length+([]:List Keyword).length+(if ([]:List Keyword).isEmpty then 0 else 1)<30))=true:=by
 rw [qi h];have e1:(backTo dk ((e::es).map fun e=>(false,eval e env))).all (fun x=>!x.1)=true:=by
  unfold backTo;rw [Yy,Zn,X2];intro x _;simp
 have e2:(backToKw dk (keywordEach [] env)).all (fun x=>x.1.isSome)=true:=rfl;have e3:=of_decide_eq_true h2;rw [e1,e2];simp at e3 ⊢;omega
noncomputable def MC:Expr->Bool
 | .ListComp _ _ _ _ | .SetComp _ _ _ _ | .DictComp _ _ _ _ _=>false
 | _=>true
theorem bO {e:Expr} {t:Option Expr} {l:Nat} {env:Env} (h:MC e=true):swapsWith e t l env=pure false:=by
 cases e<;>first | rfl | cases h
section
variable {X:Cx} {st:Stmt} {rest:List Stmt} {t u:TS} {e:Expr} {te:TE} {pos:Pos}
noncomputable def KM:TS:=fun D σ H=>D.nx σ H
noncomputable def am (t u:TS):TS:=fun D σ H=>t { D with nx:=u D } σ H
theorem j3:PSs X [] KM:=fun _ _ σ H _ I h=>wpAny_execs_nil ⟨σ,H,I,h⟩
theorem br (h1:PS X st t) (h2:PSs X rest u):PSs X (st::rest) (am t u):=by
 intro ae s σ H D I h;refine wpAny_execs_cons (thn (h1 ae s σ H { D with nx:=u D } I h) fun f s1 q=>?_);cases f with
 | next =>
  obtain ⟨σ',H',I',q⟩:=q;exact h2 ae s1 σ' H' D I' q
 | ret v=>exact q
 | brk=>exact q
 | cont=>exact q
theorem dW (h1:PS X st t):PSs X [st] t:=by
 intro ae s σ H D I h;refine wpAny_execs_cons (thn (h1 ae s σ H D I h) fun f s1 q=>?_);cases f with
 | next=>exact wpAny_execs_nil q
 | ret v=>exact q
 | brk=>exact q
 | cont=>exact q
theorem Inv.quiet {ae:List (Addr×Obj)} {σ:St} {H:Hp} {s:Shared} (I:Inv X ae σ H s):interactive X.env=false:=by simp [interactive,I.ok.kind]
noncomputable def Oe (te:TE):TS:=fun D σ H=>te σ H fun _ H1=>D.nx σ H1
theorem C2 (he:PE X e te) (hs:swapsWith e none pos.line X.env=pure false:=by first | exact bO rfl | rfl):PS X (.Expr e pos) (Oe te):=by
 intro ae s σ H D I h;exact wpAny_Expr_any (thn (he ae s σ H _ I h) fun v s1 ⟨x,H1,I1,r1,q1⟩=>⟨σ,H1,I1,q1⟩) I.quiet hs
noncomputable def Rg (te:TE):TS:=fun D σ H=>te σ H D.rt
theorem jH (he:PE X e te):PS X (.Return (some e) pos) (Rg te):=by
 intro ae s σ H D I h;exact wpAny_Return_some (thn (he ae s σ H _ I h) fun v s1 ⟨x,H1,I1,r1,q1⟩=>⟨x,σ,H1,I1,r1,q1⟩)
noncomputable def bf (c:TT) (t u:TS):TS:=fun D σ H=>c σ H fun b H1=>if b=true then t D σ H1 else u D σ H1
theorem uM {c:Expr} {a b:List Stmt} {tc:TT} (hc:PT X c tc) (ha:PSs X a t) (hb:PSs X b u):PS X (.If c a b pos) (bf tc t u):=by
 intro ae s σ H D I h;refine wpAny_If (thn (hc ae s σ H _ I h) fun d s1 ⟨H1,I1,q1⟩=>?_);cases d with
 | true=>exact ha ae s1 σ H1 D I1 q1
 | false=>exact hb ae s1 σ H1 D I1 q1
noncomputable def Mr:TS:=fun _ _ _=>False
theorem xi:PS X st Mr:=fun _ _ _ _ _ _ h=>h.elim
end
abbrev TG:=V->St->Hp->(St->Hp->Prop)->Prop
abbrev TGs:=List V->St->Hp->(St->Hp->Prop)->Prop
noncomputable def PG (X:Cx) (target:Expr) (t:TG):Prop :=
 ∀ (ae:List (Addr×Obj)) (s:Shared) (σ:St) (H:Hp) (v:V) (u:Value) (Q:St->Hp->Prop),Inv X ae σ H s->a7 v u->t v σ H Q ->
  wpAny (model X.prog X.w) X.A (assign target X.env u) (fun _ s'=>∃ σ' H',Inv X ae σ' H' s'/\Q σ' H') X.xe s
noncomputable def PGs (X:Cx) (ts:List Expr) (t:TGs):Prop :=
 ∀ (ae:List (Addr×Obj)) (s:Shared) (σ:St) (H:Hp) (vs:List V) (us:List Value) (Q:St->Hp->Prop),Inv X ae σ H s->aI vs us->t vs σ H Q ->
  wpAny (model X.prog X.w) X.A (assignInOrder ((assignEach ts X.env).map (·.2)) us) (fun _ s'=>∃ σ' H',Inv X ae σ' H' s'/\Q σ' H') X.xe s
abbrev Lv:=V->V->V->Hp->(Hp->Prop)->Prop
noncomputable def NH (X:Cx) (t:Lv):Prop :=
 ∀ (ae:List (Addr×Obj)) (s:Shared) (σ:St) (H:Hp) (o i v:V) (ov iv u:Value) (Q:Hp->Prop),Inv X ae σ H s->a7 o ov->a7 i iv->a7 v u->t o i v H Q ->
  wpAny (model X.prog X.w) X.A (setItem ov iv u) (fun _ s'=>∃ H',Inv X ae σ H' s'/\Q H') X.xe s
section
variable {X:Cx} {pos:Pos}
noncomputable def tX (i:Nat):TG:=fun v σ H Q=>Q (σ.set i (some v)) H
theorem dS {i:Nat} {x:Str} (hN:X.N.Nodup) (hi:X.N[i]?=some x) (hx:Loc X.env.scope x) (hf:X.fn x=true\/X.env.scope.names.lookup x=some .local:=by first | exact .inl rfl | exact .inr rfl | assumption):PG X (.Name x pos) (tX i):=by
 intro ae s σ H v u Q I r h;exact wpAny_assign_Name (pG I hN hi hx r (fun s' I'=>⟨_,H,I',h⟩) hf)
inductive OO (vs:List V) (σ:St) (H:Hp) (Q:St->Hp->Prop):Prop
 | mk:(vs=[])->(Q σ H)->OO  vs σ H Q
inductive Ku (t:TG) (u:TGs) (vs:List V) (σ:St) (H:Hp) (Q:St->Hp->Prop):Prop
 | mk (v r):(vs=v::r)->(t v σ H fun σ' H'=>u r σ' H' Q)->Ku t u vs σ H Q
theorem b9:PGs X [] OO:=by
 intro ae s σ H vs us Q I r h;obtain ⟨e,h⟩:=h;subst e;cases r;exact assignInOrder_nil ⟨σ,H,I,h⟩
theorem aE {e:Expr} {es:List Expr} {t:TG} {u:TGs} (h1:PG X e t) (h2:PGs X es u)
  (hs:(assignEach (e::es) X.env).map (·.2)=assign e X.env::(assignEach es X.env).map (·.2):=by rfl):PGs X (e::es) (Ku t u):=by
 intro ae s σ H vs us Q I r h;obtain ⟨v,vr,e1,h⟩:=h;subst e1;cases r with
 | cons r rr =>
  rw [hs];refine assignInOrder_cons (thn (h1 ae s σ H _ _ _ I r h) fun _ s1 ⟨σ1,H1,I1,q1⟩=>?_);exact h2 ae s1 σ1 H1 _ _ Q I1 rr q1
inductive LN (K:Frag) (n:Nat) (t:TGs) (v:V) (σ:St) (H:Hp) (Q:St->Hp->Prop):Prop
 | mk (a xs):(v=.ref a)->(SqT K H a xs)->(xs.length=n)->(t xs σ H Q)->LN K n t v σ H Q
theorem ff {es:List Expr} {k:Nat} {t:TGs} {n:Nat} (hc:X.calm=true) (h:PGs X es t)
  (hn:(assignEach es X.env).length=n:=by rfl) (hst:(assignEach es X.env).findIdx? (·.1)=none:=by rfl):PG X (.Tuple es k pos) (LN X.K n t):=by
 intro ae s σ H v u Q I r hw;obtain ⟨a,xs,e1,hq,hl,hw⟩:=hw;subst e1;cases r;obtain ⟨its,rv,ht,hz⟩:=I.tuple hq;refine assign_Tuple_tuple (I.ok.hd hc) ht (by simp [hn,<- hl,rv.length]) hst fun h' hx=>?_
 have I1:Inv X ae σ H { s with heap:=h' }:=I.kept (t':=s.toks) fun b o e=>hx b o (XR (Heap.lt_size e)) e
 exact h ae _ σ H xs _ Q I1 (by simpa using rv) hw
noncomputable def QV (to ti:TE) (t:Lv):TG:=fun v σ H Q=>to σ H fun o H1=>ti σ H1 fun i H2=>t o i v H2 fun H3=>Q σ H3
theorem pz {o i:Expr} {to ti:TE} {t:Lv} (ho:PE X o to) (hi:PE X i ti) (hs:NH X t)
  (ha:∀ v,assign (.Subscript o i pos) X.env v=(do
   let ov <- holding [v] (eval o X.env)
   let iv <- holding [v,ov] (eval i X.env)
   standAt pos
   holding [v,ov,iv] (setItem ov iv v)
   release [v,ov,iv] []):=by intro _; rfl):PG X (.Subscript o i pos) (QV to ti t):=by
 intro ae s σ H v u Q I r h;rw [ha];refine wpAny_bind (wpAny_holding (thn (ho ae s σ H _ I h) fun ov s1 ⟨x,H1,I1,r1,q1⟩=>?_));refine wpAny_bind (wpAny_holding (thn (hi ae s1 σ H1 _ I1 q1) fun iv s2 ⟨y,H2,I2,r2,q2⟩=>?_));refine wpAny_bind (wpAny_standAt (wpAny_bind (wpAny_holding (thn (hs ae s2 σ H2 x y v ov iv u _ I2 r1 r2 r q2) fun _ s3 ⟨H3,I3,q3⟩=>?_))));exact wpAny_release ⟨σ,H3,I3,q3⟩
noncomputable def MF (te:TE) (g:TG):TS:=fun D σ H=>te σ H fun x H1=>g x σ H1 D.nx
theorem gJ {tg e:Expr} {te:TE} {g:TG} (he:PE X e te) (hg:PG X tg g) (hs:swapsWithSole [tg] e pos.line X.env=pure false:=by rfl) (hw:swappedStores [tg] e X.env=pure none:=by rfl)
  (h1:(assignEach [tg] X.env).map (·.2)=[assign tg X.env]:=by rfl):PS X (.Assign [tg] e pos) (MF te g):=by
 intro ae s σ H D I h;refine wpAny_Assign_stores (thn (he ae s σ H _ I h) fun v s1 ⟨x,H1,I1,r1,q1⟩=>?_) hs hw;rw [h1];exact thn (hg ae s1 σ H1 x v _ I1 r1 q1) fun _ s2 q=>q
theorem fk {i:Nat} {x:Str} {e:Expr} {te:TE} {yo:Pos} (hN:X.N.Nodup) (hi:X.N[i]?=some x) (hx:Loc X.env.scope x) (he:PE X e te) (hs:swapsWith e (some (.Name x yo)) pos.line X.env=pure false:=by first | exact bO rfl | rfl) (hf:X.fn x=true\/X.env.scope.names.lookup x=some .local:=by first | exact .inl rfl | exact .inr rfl | assumption) :
  PS X (.Assign [.Name x yo] e pos) (MF te (tX i)):=by
 intro ae s σ H D I h;refine wpAny_Assign_Name (thn (he ae s σ H _ I h) fun v s1 ⟨y,H1,I1,r1,q1⟩=>?_) hs;exact pG I1 hN hi hx r1 (fun s2 I2=>⟨_,H1,I2,q1⟩) hf
noncomputable def lG (c:TT) (tb:TS):TS:=fun D σ H=>∃ W:Nat->St->Hp->Prop,(∃ m,W m σ H)/\∀ m σ H,W m σ H ->
 c σ H fun b H1=>if b=true then ∃ N:St->Hp->Prop,(∀ σ' H',N σ' H'->∃ m',m'<m/\W m' σ' H')/\tb { D with nx:=N,ct:=N,bk:=D.nx } σ H1 else D.nx σ H1
theorem iL {c:Expr} {body:List Stmt} {tc:TT} {tb:TS} (hp:PassesOwn (model X.prog X.w) X.A X.env X.xe) (hc:PT X c tc) (hb:PSs X body tb):PS X (.While c body [] pos) (lG tc tb):=by
 intro ae s σ H D I h;obtain ⟨W,⟨m0,w0⟩,turn⟩:=h;refine wpAny_While (codeAny_whileLoop (fun n s'=>∃ σ' H',Inv X ae σ' H' s'/\W n σ' H') ?_ m0 ⟨σ,H,I,w0⟩)
 rintro n s1 ⟨σ1,H1,I1,w1⟩
 refine wpAny_passesOwn hp (thn (hc ae s1 σ1 H1 _ I1 (turn n σ1 H1 w1)) fun b s2 ⟨H2,I2,q2⟩=>?_);cases b with
 | true =>
  obtain ⟨N,hN,q2⟩:=q2;rw [if_pos rfl];refine wpAny_passesOwn hp (thn (hb ae s2 σ1 H2 _ I2 q2) fun f s3 q3=>?_);cases f with
  | next =>
   obtain ⟨σ3,H3,I3,n3⟩:=q3;obtain ⟨m',hm,w3⟩:=hN σ3 H3 n3;exists m',hm,σ3,H3,I3,w3
  | cont =>
   obtain ⟨σ3,H3,I3,n3⟩:=q3;obtain ⟨m',hm,w3⟩:=hN σ3 H3 n3;exists m',hm,σ3,H3,I3,w3
  | brk=>exact q3
  | ret v=>exact q3
 | false =>
  rw [if_neg Xq];exact wpAny_execs_nil ⟨σ1,H2,I2,q2⟩
end
structure It where
 go:Nat->Hp->Prop
 yld:Nat->Hp->V->Hp->Prop
 stop:Nat->Hp->Prop
noncomputable def mH (X:Cx) (ae:List (Addr×Obj)) (H:Hp) (b:Addr):Prop :=
 H b=none/\b≠X.env.locals/\b∉X.fs/\(b∈X.ex\/X.s₀.heap.objs.size<=b)/\(∀ x c,X.env.cells.lookup x=some c->c≠b)/\∀ p∈X.pn++ae,p.1≠b
theorem Inv.fpOk {X:Cx} {ae:List (Addr×Obj)} {σ:St} {H H':Hp} {s:Shared} {b:Addr} (I:Inv X ae σ H s) (hb:s.heap.objs.size<=b) (hn:H' b=none):mH X ae H' b:=by
 exists hn,Nat.ne_of_gt (XF I.lt hb),I.nofs hb,.inr (XC I.sz hb),fun x c e z=>?_,fun p hp z=>?_
 ·obtain ⟨v,q⟩:=I.cell x c e;exact absurd (XF q.lt (by rw [z]; exact hb)) (X3 _)
 ·exact absurd (XF (Heap.lt_size (I.pin p hp).1) (by rw [z]; exact hb)) (X3 _)
structure sf (P:Program) (w:World) (K:Frag) (tg:Expr) (J:It) (fp:List Addr) (it:Addr) (tn:Nat->Heap->Prop):Prop where
 mem:it∈fp
 obj:∀ i h,tn i h->∀ b∈fp,∃ o,h.get? b=some o/\∀ v,o.data≠.cell v
 keep:∀ i h h',tn i h->(∀ b∈fp,∀ o,h.get? b=some o->h'.get? b=some o)->tn i h'
 item:∀ (X:Cx),X.prog=P->X.w=w->X.K=K->X.calm=true->∀ (i:Nat) (ae:List (Addr×Obj)) (s:Shared) (σ:St) (H:Hp) (E:Value->Shared->Prop),Inv X ae σ H s->(∀ b∈fp,mH X ae H b)->tn i s.heap->J.go i H ->
  wpAny (model P w) X.A (pyNext (.ref it)) (fun r s1=>∃ u,r=some u /\
   wpAny (model P w) X.A (letOwnedTupleGo tg (.ref it) u) (fun _ s2=>∃ x H',Inv X ae σ H' s2/\a7 x u/\J.yld i H x H'/\tn (i+1) s2.heap/\∀ b∈fp,H' b=none) E s1) E s
 done:∀ (X:Cx),X.prog=P->X.w=w->X.K=K->X.calm=true->∀ (i:Nat) (ae:List (Addr×Obj)) (s:Shared) (σ:St) (H:Hp) (E:Value->Shared->Prop),Inv X ae σ H s->(∀ b∈fp,mH X ae H b)->tn i s.heap->J.stop i H ->
  wpAny (model P w) X.A (pyNext (.ref it)) (fun r s1=>r=none/\Inv X ae σ H s1) E s
 self:∀ (A:Around) (i:Nat) (s:Shared) (Q:Value->Shared->Prop) (E:Value->Shared->Prop),tn i s.heap->Q (.ref it) s->wpAny (model P w) A (pyIter (.ref it)) Q E s
abbrev TI:=St->Hp->(It->Hp->Prop)->Prop
noncomputable def PIE (X:Cx) (ae:List (Addr×Obj)) (σ:St) (tg:Expr) (R:It->Hp->Prop) (itv:Value) (s2:Shared):Prop :=
 ∃ (it:Addr) (fp:List Addr) (tn:Nat->Heap->Prop) (J:It) (H':Hp),itv=.ref it/\Inv X ae σ H' s2/\sf X.prog X.w X.K tg J fp it tn/\tn 0 s2.heap/\(∀ b∈fp,mH X ae H' b)/\R J H'
noncomputable def PI (X:Cx) (tg iter:Expr) (wi:TI):Prop :=
 ∀ (ae:List (Addr×Obj)) (s:Shared) (σ:St) (H:Hp) (R:It->Hp->Prop),Inv X ae σ H s->wi σ H R ->
  wpAny (model X.prog X.w) X.A (eval iter X.env) (fun v s1=>wpAny (model X.prog X.w) X.A (pyIter v) (PIE X ae σ tg R) X.xe s1) X.xe s
theorem pZ {M:Model} {A:Around} {E:Value->Shared->Prop} {s:Shared} {tg:Expr} {it:Addr} {u:Value} {o:Obj} {n:String} {vs:Array Value} {Q:Unit->Shared->Prop} (ho:s.heap.get? it=some o) (hc:o.cls=.type n) (hd:o.data=.fields vs)
  (hn:["enumerate", "zip", "dict_itemiterator", "dict_reverseitemiterator", "odict_iterator", "itertools.zip_longest", "itertools.pairwise"].contains n=false) (hQ:Q Unit.unit s):wpAny M A (letOwnedTupleGo tg (.ref it) u) Q E s:=by
 unfold letOwnedTupleGo;cases tg<;>first
  | exact wpAny_pure hQ
  | (cases u<;>first
    | exact wpAny_pure hQ
    | (refine wpAny_bind (wpAny_load ho ?_)
       rw [hc,hd];show wpAny M A (if (["enumerate", "zip", "dict_itemiterator", "dict_reverseitemiterator", "odict_iterator", "itertools.zip_longest", "itertools.pairwise"].contains n&&vs[0]?==some (rawInt _))=true then _ else _) Q E s;rw [if_neg (by intro h; rw [hn,Bool.false_and] at h; cases h)];exact wpAny_pure hQ))
noncomputable def Itl (K:Frag) (a:Addr):It :=
 ⟨fun i H=>∃ xs x,SqL K H a xs/\xs[i]?=some x,fun i H x H'=>H'=H/\∀ xs,SqL K H a xs->xs[i]?=some x,fun i H=>∃ xs,SqL K H a xs/\xs.length<=i⟩
noncomputable def Itt (K:Frag) (a:Addr):It :=
 ⟨fun i H=>∃ xs x,SqT K H a xs/\xs[i]?=some x,fun i H x H'=>H'=H/\∀ xs,SqT K H a xs->xs[i]?=some x,fun i H=>∃ xs,SqT K H a xs/\xs.length<=i⟩
noncomputable def Itr (lo:Int) (n:Nat):It:=⟨fun i _=>i<n,fun i H x H'=>H'=H/\x=.int (lo+i),fun i _=>n<=i⟩
theorem Du {P:Program} {w:World} {K:Frag} {tg:Expr} (a it:Addr):sf P w K tg (Itl K a) [it] it (fun i h=>h.IsListIter it a i) where
 mem:=by simp
 obj:=fun i h st b hb=>by
  have e:b=it:=by simpa using hb
  subst e;obtain ⟨o,e,c,d⟩:=st;exists o,e,fun v z=>by rw [d] at z; cases z
 keep:=fun i h h' st k=>st.at fun o e=>k it (by simp) o e
 item:=by
  intro X hP hw hK hc i ae s σ H E I hf st hg;subst hP hw hK;obtain ⟨xs,x,hq,hx⟩:=hg;obtain ⟨its,rv,p,hz⟩:=I.list hq;obtain ⟨u,hu,ru⟩:=rv.get hx;obtain ⟨f0,f1,f2,f3,f4,f5⟩:=hf it (by simp);refine wpAny_pyNext_list_item st p.isList (x:=u) (by simpa using hu) fun h' iK sb=>?_
  have I1:Inv X ae σ H { s with heap:=h' }:=I.turned (t':=s.toks) (fun b o hb e=>(sb.2 b hb).trans e) f0 f1 f3 f4 f5;obtain ⟨o,e,c,d⟩:=id iK;exists u,rfl,pZ (s:={ s with heap:=h' }) e c d (by decide) ⟨x,H,I1,ru,⟨rfl,fun ys hy=>by rw [I.list_inj hy hq]; exact hx⟩,iK,fun b hb=>(hf b hb).1⟩
 done:=by
  intro X hP hw hK hc i ae s σ H E I hf st hg;subst hP hw hK;obtain ⟨xs,hq,hx⟩:=hg;obtain ⟨its,rv,p,hz⟩:=I.list hq;obtain ⟨f0,f1,f2,f3,f4,f5⟩:=hf it (by simp);have hl:=rv.length;exact wpAny_pyNext_list_end (I.ok.hd hc) st p.isList (by simp; omega) fun h' eb=>⟨rfl,I.turned (t':=s.toks) (fun b o hb e=>eb b o hb e) f0 f1 f3 f4 f5⟩
 self:=fun _ _ _ _ _ st h=>wpAny_pyIter_listiter st h
theorem Ac {P:Program} {w:World} {K:Frag} {tg:Expr} (a it:Addr):sf P w K tg (Itt K a) [it] it (fun i h=>h.IsTupleIter it a i) where
 mem:=by simp
 obj:=fun i h st b hb=>by
  have e:b=it:=by simpa using hb
  subst e;obtain ⟨o,e,c,d⟩:=st;exists o,e,fun v z=>by rw [d] at z; cases z
 keep:=fun i h h' st k=>st.at fun o e=>k it (by simp) o e
 item:=by
  intro X hP hw hK hc i ae s σ H E I hf st hg;subst hP hw hK;obtain ⟨xs,x,hq,hx⟩:=hg;obtain ⟨its,rv,p,hz⟩:=I.tuple hq;obtain ⟨u,hu,ru⟩:=rv.get hx;obtain ⟨f0,f1,f2,f3,f4,f5⟩:=hf it (by simp);refine wpAny_pyNext_tuple_item st (show s.heap.IsTuple a its.toArray from p) (x:=u) (by simpa using hu) fun h' iK sb=>?_
  have I1:Inv X ae σ H { s with heap:=h' }:=I.turned (t':=s.toks) (fun b o hb e=>(sb.2 b hb).trans e) f0 f1 f3 f4 f5;obtain ⟨o,e,c,d⟩:=id iK;exists u,rfl,pZ (s:={ s with heap:=h' }) e c d (by decide) ⟨x,H,I1,ru,⟨rfl,fun ys hy=>by rw [I.tuple_inj hy hq]; exact hx⟩,iK,fun b hb=>(hf b hb).1⟩
 done:=by
  intro X hP hw hK hc i ae s σ H E I hf st hg;subst hP hw hK;obtain ⟨xs,hq,hx⟩:=hg;obtain ⟨its,rv,p,hz⟩:=I.tuple hq;obtain ⟨f0,f1,f2,f3,f4,f5⟩:=hf it (by simp);have hl:=rv.length;exact wpAny_pyNext_tuple_end (I.ok.hd hc) st (show s.heap.IsTuple a its.toArray from p) (by simp; omega) fun h' eb=>⟨rfl,I.turned (t':=s.toks) (fun b o hb e=>eb b o hb e) f0 f1 f3 f4 f5⟩
 self:=fun _ _ _ _ _ st h=>wpAny_pyIter_tupleiter st h
theorem yS {P:Program} {w:World} {K:Frag} {tg:Expr} (it:Addr) (lo:Int) (n:Nat):sf P w K tg (Itr lo n) [it] it (fun i h=>IsRangeIter h it (lo+(i:Nat)*1) ((n:Int) - (i:Nat)) 1) where
 mem:=by simp
 obj:=fun i h st b hb=>by
  have e:b=it:=by simpa using hb
  subst e;exact ⟨_,st,fun v z=>by
   have z':Data.fields _=Data.cell v:=z;cases z'⟩
 keep:=fun i h h' st k=>k it (by simp) _ st
 item:=by
  intro X hP hw hK hc i ae s σ H E I hf st hg;subst hP hw hK;obtain ⟨f0,f1,f2,f3,f4,f5⟩:=hf it (by simp);have W:=Walks.range (prog:=X.prog) (w:=X.w) (I.ok.hd hc) it lo 1 n;refine W.item i s _ _ hg st fun v h' tk hv iK kk=>?_
  obtain ⟨t,rfl⟩:=hv;have I1:Inv X ae σ H { s with heap:=h',toks:=tk }:=I.turned (fun b o hb e=>kk b o (by simpa using hb) e) f0 f1 f3 f4 f5;exists _,rfl,pZ (s:={ s with heap:=h',toks:=tk }) (n := "range_iterator") iK rfl rfl (by decide) ⟨.int (lo+i),H,I1,⟨t,?_⟩,⟨rfl,rfl⟩,iK,fun b hb=>(hf b hb).1⟩;rw [Int.mul_one]
 done:=by
  intro X hP hw hK hc i ae s σ H E I hf st hg;subst hP hw hK;obtain ⟨f0,f1,f2,f3,f4,f5⟩:=hf it (by simp);exact wpAny_pyNext_range_end (I.ok.hd hc) st (by have:n<=i:=hg; omega) fun h' eb=>⟨rfl,I.turned (t':=s.toks) (fun b o hb e=>eb b o hb e) f0 f1 f3 f4 f5⟩
 self:=fun _ _ _ _ _ st h=>wpAny_pyIter_rangeiter st h
open PySem PySem.Spec PyProof.Rows
section
variable {X:Cx} {tg:Expr}
inductive CS (K:Frag) (R:It->Hp->Prop) (x:V) (H1:Hp):Prop
 | mk (a):(x=.ref a)->((∃ xs,SqL K H1 a xs))->(R (Itl K a) H1)->CS K R x H1
noncomputable def OK (K:Frag) (tl:TE):TI:=fun σ H R=>tl σ H fun x H1=>CS K R x H1
inductive Fb (K:Frag) (R:It->Hp->Prop) (x:V) (H1:Hp):Prop
 | mk (a):(x=.ref a)->((∃ xs,SqT K H1 a xs))->(R (Itt K a) H1)->Fb K R x H1
noncomputable def QQ (K:Frag) (tl:TE):TI:=fun σ H R=>tl σ H fun x H1=>Fb K R x H1
theorem fD {l:Expr} {tl:TE} (hl:PE X l tl):PI X tg l (OK X.K tl):=by
 intro ae s σ H R I h;refine thn (hl ae s σ H _ I h) fun v s1 ⟨x,H1,I1,r1,q1⟩=>?_
 obtain ⟨a,e,⟨xs,hq⟩,q⟩:=q1;subst e;cases r1;obtain ⟨its,rv,p,hz⟩:=I1.list hq;refine wpAny_pyIter_list p.isList ?_;exists s1.heap.objs.size,[s1.heap.objs.size],_,_,H1,rfl,I1.kept (t':=s1.toks) fun b o e=>Heap.get?_push_of_some _ e,Du a _,⟨_,Heap.get?_push_size _ rfl,rfl,rfl⟩,fun b hb=>?_,q
 have e:b=s1.heap.objs.size:=by simpa using hb
 subst e;exact I1.fpOk (Xc _) (I1.hok.fresh (Xc _))
theorem bI {l:Expr} {tl:TE} (hl:PE X l tl):PI X tg l (QQ X.K tl):=by
 intro ae s σ H R I h;refine thn (hl ae s σ H _ I h) fun v s1 ⟨x,H1,I1,r1,q1⟩=>?_
 obtain ⟨a,e,⟨xs,hq⟩,q⟩:=q1;subst e;cases r1;obtain ⟨its,rv,p,hz⟩:=I1.tuple hq;refine wpAny_pyIter_tuple (show s1.heap.IsTuple a its.toArray from p) ?_;exists s1.heap.objs.size,[s1.heap.objs.size],_,_,H1,rfl,I1.kept (t':=s1.toks) fun b o e=>Heap.get?_push_of_some _ e,Ac a _,⟨_,Heap.get?_push_size _ rfl,rfl,rfl⟩,fun b hb=>?_,q
 have e:b=s1.heap.objs.size:=by simpa using hb
 subst e;exact I1.fpOk (Xc _) (I1.hok.fresh (Xc _))
theorem xO {ae:List (Addr×Obj)} {σ:St} {H:Hp} {s:Shared} {R:It->Hp->Prop} {E:Value->Shared->Prop} {lo hi:Int} {t u v:Tok} {tk:Nat} (I:Inv X ae σ H s) (h1:-(2 ^ 62)<=lo) (h2:lo<2 ^ 62) (h3:-(2 ^ 62)<=hi) (h4:hi<2 ^ 62)
  (q:R (Itr lo (hi - lo).toNat) H):wpAny (model X.prog X.w) X.A (pyIter (.ref s.heap.objs.size)) (PIE X ae σ tg R) E { s with heap:=s.heap.push { cls:=.type "range",data:=.fields #[.int lo t,.int hi u,.int 1 v] },toks:=tk }:=by
 refine wpAny_pyIter_range (IsRange.new ..) (small_one h1 h2 h3 h4) ?_;have I1:Inv X ae σ H { s with heap:=s.heap.push { cls:=.type "range",data:=.fields #[.int lo t,.int hi u,.int 1 v] },toks:=tk }:=I.kept fun b o e=>Heap.get?_push_of_some _ e
 refine ⟨(s.heap.push { cls:=.type "range",data:=.fields #[.int lo t,.int hi u,.int 1 v] }).objs.size,[(s.heap.push { cls:=.type "range",data:=.fields #[.int lo t,.int hi u,.int 1 v] }).objs.size],_,_,H,rfl,
  I1.kept (t':=tk) fun b o e=>Heap.get?_push_of_some _ e,yS _ lo (hi - lo).toNat,?_,fun b hb=>?_,q⟩
 ·have e1:lo+((0:Nat):Int)*1=lo:=by simp
  have e2:(((hi - lo).toNat:Nat):Int) - ((0:Nat):Int)=Builtin.Range.rangeSize lo hi 1:=by rw [rangeSize_one]; split<;>omega
  show IsRangeIter _ _ (lo+((0:Nat):Int)*1) ((((hi - lo).toNat:Nat):Int) - ((0:Nat):Int)) 1;rw [e1,e2];exact Heap.get?_push_size _ rfl
 ·have e:b=(s.heap.push { cls:=.type "range",data:=.fields #[.int lo t,.int hi u,.int 1 v] }).objs.size:=by simpa using hb
  subst e;exact I1.fpOk (Xc _) (I1.hok.fresh (Xc _))
inductive C0 (R:It->Hp->Prop) (vs:List V) (H1:Hp):Prop
 | mk (j:Int):(vs=[.int j])->(-(2 ^ 62)<=j)->(j<2 ^ 62)->(R (Itr 0 j.toNat) H1)->C0 R vs H1
noncomputable def Od (ta:TA):TI:=fun σ H R=>ta σ H fun vs H1=>C0 R vs H1
inductive Cn (R:It->Hp->Prop) (vs:List V) (H1:Hp):Prop
 | mk (i j:Int):(vs=[.int i,.int j])->((-(2 ^ 62)<=i/\i<2 ^ 62/\-(2 ^ 62)<=j/\j<2 ^ 62))->(R (Itr i (j - i).toNat) H1)->Cn R vs H1
noncomputable def NC (ta:TA):TI:=fun σ H R=>ta σ H fun vs H1=>Cn R vs H1
theorem el {a:Expr} {ta:TA} {p pos:Pos} (hg:Gl X "range") (hm:X.mg "range"=none) (ha:PA X [a] ta) (hs:starEach [a] X.env=[(false,eval a X.env)]:=by rfl):PI X tg (.Call (.Name "range" p) [a] [] pos) (Od ta):=by
 intro ae s σ H R I h;refine Call_ (gQ I hg hm boot_range (XU (thn (ha pos ae s σ H _ I h) fun us s1 ⟨vs,H1,I1,r1,q1⟩=>?_) hs rfl));obtain ⟨j,e,q1,q2,q⟩:=q1;subst e;cases r1 with
 | cons r rr =>
  cases rr;obtain ⟨t,rfl⟩:=r;exact call_range_1 (xO I1 (by omega) (by omega) q1 q2 (by simpa using q))
theorem Di {a b:Expr} {ta:TA} {p pos:Pos} (hg:Gl X "range") (hm:X.mg "range"=none) (ha:PA X [a,b] ta) (hs:starEach [a,b] X.env=[(false,eval a X.env),(false,eval b X.env)]:=by rfl) (IG:starEach [b] X.env=[(false,eval b X.env)]:=by rfl) :
  PI X tg (.Call (.Name "range" p) [a,b] [] pos) (NC ta):=by
 intro ae s σ H R I h;refine Call_ (gQ I hg hm boot_range (XU (thn (ha pos ae s σ H _ I h) fun us s1 ⟨vs,H1,I1,r1,q1⟩=>?_) (by rw [hs,IG]) (by rw [IG]; rfl)));obtain ⟨i,j,e,⟨q1,q2,q3,q4⟩,q⟩:=q1;subst e;cases r1 with
 | cons r rr =>
  cases rr with
  | cons r' rr =>
   cases rr;obtain ⟨t,rfl⟩:=r;obtain ⟨t',rfl⟩:=r';exact call_range_2 (xO I1 q1 q2 q3 q4 q)
noncomputable def gW (wi:TI) (g:TG) (tb:TS):TS:=fun D σ H=>wi σ H fun J H1=>∃ W:Nat->Nat->St->Hp->Prop,(∃ m,W 0 m σ H1)/\∀ i m σ H,W i m σ H ->
 (J.stop i H/\D.nx σ H)\/(J.go i H/\∃ N:St->Hp->Prop,(∀ σ' H',N σ' H'->∃ m',m'<m/\W (i+1) m' σ' H')/\∀ x H',J.yld i H x H'->g x σ H' fun σ2 H2=>tb { D with nx:=N,ct:=N,bk:=D.nx } σ2 H2)
noncomputable def mY (fp:List Addr) (h:Heap):List (Addr×Obj):=fp.filterMap fun b=>(h.get? b).map fun o=>(b,o)
theorem fY {fp:List Addr} {h:Heap} {b:Addr} {o:Obj} (hb:b∈fp) (e:h.get? b=some o):(b,o)∈mY fp h:=aaq.mpr ⟨b,hb,by rw [e]; rfl⟩
theorem DZ {fp:List Addr} {h:Heap} {p:Addr×Obj} (hp:p∈mY fp h):p.1∈fp/\h.get? p.1=some p.2:=by
 obtain ⟨b,hb,e⟩:=aaq.mp hp;cases q:h.get? b with
 | none=>rw [q] at e; cases e
 | some o =>
  rw [q] at e;have e':(b,o)=p:=Option.some.inj e;subst e';exists hb,q
theorem Inv.pinned {ae:List (Addr×Obj)} {σ:St} {H:Hp} {s:Shared} {fp:List Addr} (I:Inv X ae σ H s) (hf:∀ b∈fp,mH X ae H b) (ho:∀ b∈fp,∃ o,s.heap.get? b=some o/\∀ v,o.data≠.cell v):Inv X (ae++mY fp s.heap) σ H s :=
 I.pins_of fun p hp=>(Xm.mp hp).elim (fun z=>I.pin p (Xy _ z)) fun z=>by
  obtain ⟨hb,e⟩:=DZ z;obtain ⟨f0,f1,f2,_⟩:=hf p.1 hb;obtain ⟨o,e',d⟩:=ho p.1 hb;rw [e] at e'; cases e';exists e,f0,f1,f2,d
theorem Inv.unpinned {ae pl:List (Addr×Obj)} {σ:St} {H:Hp} {s:Shared} (I:Inv X (ae++pl) σ H s):Inv X ae σ H s:=I.pins_of fun p hp=>I.pin p (Xy _ (XD _ hp))
theorem FG {iter:Expr} {body:List Stmt} {wi:TI} {g:TG} {tb:TS} {pos:Pos} (hp:PassesOwn (model X.prog X.w) X.A X.env X.xe) (hc:X.calm=true) (hi:PI X tg iter wi) (hg:PG X tg g) (hb:PSs X body tb)
  (hs:∀ x,foldedSetIterable iter X.env x=pure x:=by intro _; rfl):PS X (.For tg iter body [] pos) (gW wi g tb):=by
 intro ae s σ H D I h;refine wpAny_For (thn (hi ae s σ H _ I h) fun v s1 h1=>thn h1 fun itv s2 h2=>?_) hs;obtain ⟨it,fp,tn,J,H2,e,I2,T,Le,f2,W,⟨m0,w0⟩,turn⟩:=h2;subst e
 -- what stays true of the iterator's objects through the loop
 have stat:∀ {H':Hp},(∀ b∈fp,H' b=none)->∀ b∈fp,mH X ae H' b:=fun hn b hb=>⟨hn b hb,(f2 b hb).2⟩
 refine codeAny_forLoop_any (fun n s'=>∃ i σ' H',Inv X ae σ' H' s'/\tn i s'.heap/\(∀ b∈fp,H' b=none)/\W i n σ' H') ?_ m0 ⟨0,σ,H2,I2,Le,fun b hb=>(f2 b hb).1,w0⟩
 rintro n s3 ⟨i,σ3,H3,I3,st3,fr3,w3⟩
 rcases turn i n σ3 H3 w3 with ⟨stop,qn⟩ | ⟨go,N,hN,step⟩
 ·refine wpAny_passesOwn hp (thn (T.done X rfl rfl rfl hc i ae s3 σ3 H3 X.xe I3 (stat fr3) st3 stop) fun r s4 ⟨hr,I4⟩=>?_);subst hr;exact wpAny_execs_nil ⟨σ3,H3,I4,qn⟩
 ·refine wpAny_passesOwn hp (thn (T.item X rfl rfl rfl hc i ae s3 σ3 H3 X.xe I3 (stat fr3) st3 go) fun r s4 ⟨u,hr,h4⟩=>?_);subst hr;refine wpAny_passesOwn hp (thn h4 fun _ s5 ⟨x,H5,I5,r5,y5,Lf,RT⟩=>?_);have RM:=I5.pinned (stat RT) (T.obj _ _ Lf);refine wpAny_passesOwn hp (thn (hg _ s5 σ3 H5 x u _ RM r5 (step x H5 y5)) fun _ s6 ⟨σ6,H6,I6,q6⟩=>?_);refine wpAny_passesOwn hp (thn (hb _ s6 σ6 H6 _ I6 q6) fun f s7 q7=>?_);have again:∀ {σ7:St} {H7:Hp},Inv X (ae++mY fp s5.heap) σ7 H7 s7->N σ7 H7->∃ m,m<n/\∃ i σ' H',Inv X ae σ' H' s7/\tn i s7.heap/\(∀ b∈fp,H' b=none)/\W i m σ' H':=fun {σ7 H7} I7 n7=>by
   obtain ⟨m',hm,w7⟩:=hN σ7 H7 n7;exists m',hm,i+1,σ7,H7,I7.unpinned,T.keep _ _ _ Lf fun b hb o e=>(I7.pin (b,o) (Xy _ (Xy _ (fY hb e)))).1,fun b hb=>?_,w7
   obtain ⟨o,e,d⟩:=T.obj _ _ Lf b hb;exact (I7.pin (b,o) (Xy _ (Xy _ (fY hb e)))).2.1
  cases f with
  | next=>obtain ⟨σ7,H7,I7,n7⟩:=q7; exact again I7 n7
  | cont=>obtain ⟨σ7,H7,I7,n7⟩:=q7; exact again I7 n7
  | brk=>obtain ⟨σ7,H7,I7,q7⟩:=q7; exact ⟨σ7,H7,I7.unpinned,q7⟩
  | ret v=>obtain ⟨x7,σ7,H7,I7,r7,q7⟩:=q7; exact ⟨x7,σ7,H7,I7.unpinned,r7,q7⟩
end
theorem hU {K:Frag} {a:Addr} {xs:List V} {g:TG} {tb:TS} {D:jx} {σ:St} {H:Hp} (Pv:Nat->St->Hp->Prop) (h0:Pv 0 σ H) (hl:∀ i σ H,i<=xs.length->Pv i σ H->SqL K H a xs)
  (hs:∀ i x σ H,xs[i]?=some x->Pv i σ H->g x σ H fun σ2 H2=>tb { D with nx:=Pv (i+1),ct:=Pv (i+1),bk:=D.nx } σ2 H2) (hd:∀ σ H,Pv xs.length σ H->D.nx σ H) :
  ∃ W:Nat->Nat->St->Hp->Prop,(∃ m,W 0 m σ H)/\∀ i m σ H,W i m σ H ->
   ((Itl K a).stop i H/\D.nx σ H)\/((Itl K a).go i H/\∃ N:St->Hp->Prop,(∀ σ' H',N σ' H'->∃ m',m'<m/\W (i+1) m' σ' H')/\∀ x H',(Itl K a).yld i H x H'->g x σ H' fun σ2 H2=>tb { D with nx:=N,ct:=N,bk:=D.nx } σ2 H2):=by
 exists fun i m σ H=>m=xs.length - i/\i<=xs.length/\Pv i σ H,⟨xs.length,by simp,Xj _,h0⟩,?_
 rintro i m σ H ⟨rfl,hi,p⟩
 have q:=hl i σ H hi p
 by_cases hlt:i<xs.length
 ·refine .inr ⟨⟨xs,xs[i],q,by simp [hlt]⟩,Pv (i+1),fun σ' H' p'=>⟨xs.length - (i+1),by omega,rfl,hlt,p'⟩,fun x H' y=>?_⟩;obtain ⟨e,y⟩:=y;subst e;exact hs i x σ _ (y xs q) p
 ·have e:i=xs.length:=by omega
  subst e;exact .inl ⟨⟨xs,q,Xc _⟩,hd σ H p⟩
theorem fH {K:Frag} {a:Addr} {xs:List V} {g:TG} {tb:TS} {D:jx} {σ:St} {H:Hp} (Pv:Nat->St->Hp->Prop) (h0:Pv 0 σ H) (hl:∀ i σ H,i<=xs.length->Pv i σ H->SqT K H a xs)
  (hs:∀ i x σ H,xs[i]?=some x->Pv i σ H->g x σ H fun σ2 H2=>tb { D with nx:=Pv (i+1),ct:=Pv (i+1),bk:=D.nx } σ2 H2) (hd:∀ σ H,Pv xs.length σ H->D.nx σ H) :
  ∃ W:Nat->Nat->St->Hp->Prop,(∃ m,W 0 m σ H)/\∀ i m σ H,W i m σ H ->
   ((Itt K a).stop i H/\D.nx σ H)\/((Itt K a).go i H/\∃ N:St->Hp->Prop,(∀ σ' H',N σ' H'->∃ m',m'<m/\W (i+1) m' σ' H')/\∀ x H',(Itt K a).yld i H x H'->g x σ H' fun σ2 H2=>tb { D with nx:=N,ct:=N,bk:=D.nx } σ2 H2):=by
 exists fun i m σ H=>m=xs.length - i/\i<=xs.length/\Pv i σ H,⟨xs.length,by simp,Xj _,h0⟩,?_
 rintro i m σ H ⟨rfl,hi,p⟩
 have q:=hl i σ H hi p
 by_cases hlt:i<xs.length
 ·refine .inr ⟨⟨xs,xs[i],q,by simp [hlt]⟩,Pv (i+1),fun σ' H' p'=>⟨xs.length - (i+1),by omega,rfl,hlt,p'⟩,fun x H' y=>?_⟩;obtain ⟨e,y⟩:=y;subst e;exact hs i x σ _ (y xs q) p
 ·have e:i=xs.length:=by omega
  subst e;exact .inl ⟨⟨xs,q,Xc _⟩,hd σ H p⟩
theorem jr {lo:Int} {n:Nat} {g:TG} {tb:TS} {D:jx} {σ:St} {H:Hp} (Pv:Nat->St->Hp->Prop) (h0:Pv 0 σ H)
  (hs:∀ i σ H,i<n->Pv i σ H->g (.int (lo+i)) σ H fun σ2 H2=>tb { D with nx:=Pv (i+1),ct:=Pv (i+1),bk:=D.nx } σ2 H2) (hd:∀ σ H,Pv n σ H->D.nx σ H) :
  ∃ W:Nat->Nat->St->Hp->Prop,(∃ m,W 0 m σ H)/\∀ i m σ H,W i m σ H ->
   ((Itr lo n).stop i H/\D.nx σ H)\/((Itr lo n).go i H/\∃ N:St->Hp->Prop,(∀ σ' H',N σ' H'->∃ m',m'<m/\W (i+1) m' σ' H')/\∀ x H',(Itr lo n).yld i H x H'->g x σ H' fun σ2 H2=>tb { D with nx:=N,ct:=N,bk:=D.nx } σ2 H2):=by
 exists fun i m σ H=>m=n - i/\i<=n/\Pv i σ H,⟨n,by simp,Xj _,h0⟩,?_
 rintro i m σ H ⟨rfl,hi,p⟩
 by_cases hlt:i<n
 ·refine .inr ⟨hlt,Pv (i+1),fun σ' H' p'=>⟨n - (i+1),by omega,rfl,hlt,p'⟩,fun x H' y=>?_⟩;obtain ⟨e,y⟩:=y;subst e y;exact hs i σ _ hlt p
 ·have e:i=n:=by omega
  subst e;exact .inl ⟨Xc _,hd σ H p⟩
open PySem PySem.Spec PyProof.Rows
abbrev R2:=V->V->Hp->VK->Prop
noncomputable def OpR (X:Cx) (f:Value->Value->Sem Value) (r:R2):Prop :=
 ∀ (ae:List (Addr×Obj)) (s:Shared) (σ:St) (H:Hp) (x y:V) (v u:Value) (Q:VK),Inv X ae σ H s->a7 x v->a7 y u->r x y H Q ->
  wpAny (model X.prog X.w) X.A (f v u) (EP X ae σ Q) X.xe s
noncomputable def UnR (X:Cx) (f:Value->Sem Value) (r:V->Hp->VK->Prop):Prop :=
 ∀ (ae:List (Addr×Obj)) (s:Shared) (σ:St) (H:Hp) (x:V) (v:Value) (Q:VK),Inv X ae σ H s->a7 x v->r x H Q ->
  wpAny (model X.prog X.w) X.A (f v) (EP X ae σ Q) X.xe s
noncomputable def d8 (X:Cx) (f:Value) (r:List V->Hp->VK->Prop):Prop :=
 ∀ (ae:List (Addr×Obj)) (s:Shared) (σ:St) (H:Hp) (xs:List V) (us:List Value) (Q:VK),Inv X ae σ H s->aI xs us->r xs H Q ->
  wpAny (model X.prog X.w) X.A (call f us) (EP X ae σ Q) X.xe s
noncomputable def Rh (X:Cx) (r:V->Hp->(Bool->Hp->Prop)->Prop):Prop :=
 ∀ (ae:List (Addr×Obj)) (s:Shared) (σ:St) (H:Hp) (x:V) (v:Value) (Q:Bool->Hp->Prop),Inv X ae σ H s->a7 x v->r x H Q ->
  wpAny (model X.prog X.w) X.A (truthy v) (TP X ae σ Q) X.xe s
noncomputable def tOp (r:R2) (ta tb:TE):TE:=fun σ H Q=>ta σ H fun x H1=>tb σ H1 fun y H2=>r x y H2 Q
noncomputable def tUn (r:V->Hp->VK->Prop) (ta:TE):TE:=fun σ H Q=>ta σ H fun x H1=>r x H1 Q
inductive rI (C:Int->Int->Prop) (g:Int->Int->V) (x:V) (y:V) (H:Hp) (Q:VK):Prop
 | mk (i j):(x=.int i)->(y=.int j)->(C i j)->(Q (g i j) H)->rI C g x y H Q
inductive rI0 (g:Int->Int->V) (x:V) (y:V) (H:Hp) (Q:VK):Prop
 | mk (i j):(x=.int i)->(y=.int j)->(Q (g i j) H)->rI0 g x y H Q
inductive rU (g:Int->V) (x:V) (H:Hp) (Q:VK):Prop
 | mk (i):(x=.int i)->(Q (g i) H)->rU g x H Q
section
variable {X:Cx} {a b c:Expr} {ta tb tc:TE} {pos:Pos}
theorem LG (ha:PE X a ta) (hb:PE X b tb) {ae:List (Addr×Obj)} {s:Shared} {σ:St} {H:Hp} {R:V->V->Hp->Prop} (I:Inv X ae σ H s)
  (h:ta σ H fun x H1=>tb σ H1 fun y H2=>R x y H2) {Q:Value->Shared->Prop} {f:Value->Value->Sem Value}
  (hf:∀ v u s2 x y H2,Inv X ae σ H2 s2->a7 x v->a7 y u->R x y H2->wpAny (model X.prog X.w) X.A (f v u) Q X.xe s2) :
  wpAny (model X.prog X.w) X.A (eval a X.env) (fun v s₁=>wpAny (model X.prog X.w) X.A (eval b X.env) (fun u s₂=>wpAny (model X.prog X.w) X.A (f v u) Q X.xe s₂) X.xe s₁) X.xe s:=by
 refine thn (ha ae s σ H _ I h) fun v s1 ⟨x,H1,I1,r1,q1⟩=>?_
 refine thn (hb ae s1 σ H1 _ I1 q1) fun u s2 ⟨y,H2,I2,r2,q2⟩=>?_
 exact hf v u s2 x y H2 I2 r1 r2 q2
theorem cu {op:Operator} {r:R2} (ho:OpR X (binaryOp op) r) (ha:PE X a ta) (hb:PE X b tb):PE X (.BinOp a op b pos) (tOp r ta tb):=by
 intro ae s σ H Q I h;exact wpAny_BinOp (LG ha hb I h fun v u s2 x y H2 I2 rx ry q=>ho ae s2 σ H2 x y v u Q I2 rx ry q)
theorem gh {op:UnaryOp} {r:V->Hp->VK->Prop} (ho:UnR X (unaryOp op) r) (ha:PE X a ta):PE X (.UnaryOp op a pos) (tUn r ta):=by
 intro ae s σ H Q I h;exact UnaryOp_ (thn (ha ae s σ H _ I h) fun v s1 ⟨x,H1,I1,r1,q1⟩=>ho ae s1 σ H1 x v Q I1 r1 q1)
theorem opI {f:Value->Value->Sem Value} {C:Int->Int->Prop} {g:Int->Int->Int}
  (rule:∀ (i j:Int) (t u:Tok) (s:Shared) (Q:Value->Shared->Prop) (E:Value->Shared->Prop),C i j->Q (.int (g i j) s.toks) { s with toks:=s.toks+1 }->wpAny (model X.prog X.w) X.A (f (.int i t) (.int j u)) Q E s) :
  OpR X f (rI C fun i j=>.int (g i j)):=by
 intro ae s σ H x y v u Q I rx ry h;obtain ⟨i,j,rfl,rfl,hc,q⟩:=h;obtain ⟨t,rfl⟩:=rx;obtain ⟨t',rfl⟩:=ry;exact rule i j t t' s _ _ hc ⟨.int (g i j),H,I.tok _,⟨_,rfl⟩,q⟩
theorem Os {f:Value->Value->Sem Value} {g:Int->Int->Int}
  (rule:∀ (i j:Int) (t u:Tok) (s:Shared) (Q:Value->Shared->Prop) (E:Value->Shared->Prop),Q (.int (g i j) s.toks) { s with toks:=s.toks+1 }->wpAny (model X.prog X.w) X.A (f (.int i t) (.int j u)) Q E s) :
  OpR X f (rI0 fun i j=>.int (g i j)):=by
 intro ae s σ H x y v u Q I rx ry h;obtain ⟨i,j,rfl,rfl,q⟩:=h;obtain ⟨t,rfl⟩:=rx;obtain ⟨t',rfl⟩:=ry;exact rule i j t t' s _ _ ⟨.int (g i j),H,I.tok _,⟨_,rfl⟩,q⟩
theorem Lq {f:Value->Value->Sem Value} {g:Int->Int->Bool}
  (rule:∀ (i j:Int) (t u:Tok) (s:Shared) (Q:Value->Shared->Prop) (E:Value->Shared->Prop),Q (.bool (g i j)) s->wpAny (model X.prog X.w) X.A (f (.int i t) (.int j u)) Q E s) :
  OpR X f (rI0 fun i j=>.bl (g i j)):=by
 intro ae s σ H x y v u Q I rx ry h;obtain ⟨i,j,rfl,rfl,q⟩:=h;obtain ⟨t,rfl⟩:=rx;obtain ⟨t',rfl⟩:=ry;exact rule i j t t' s _ _ ⟨.bl (g i j),H,I,rfl,q⟩
noncomputable def Q9 (i j:Int):Prop:=0<j/\j<1073741824
noncomputable def O2 (i j:Int):Prop:=0<=j/\j<=1000000/\i.natAbs<2 ^ 64
noncomputable def JS (i j:Int):Prop:=(-(2 ^ 64)<i/\i<2 ^ 64)\/(-(2 ^ 64)<j/\j<2 ^ 64)
theorem JS.ok {i j:Int} (h:JS i j):IntMulOk i j:=by
 rcases h with ⟨h1,h2⟩ | ⟨h1,h2⟩
 ·exact .of_left (intBits_le_64 h1 h2)
 ·exact .of_right (intBits_le_64 h1 h2)
theorem cN:OpR X (binaryOp .Add) (rI0 fun i j=>.int (i+j)):=Os fun _ _ _ _ _ _ _ q=>add_int q
theorem bi:OpR X (binaryOp .Sub) (rI0 fun i j=>.int (i - j)):=Os fun _ _ _ _ _ _ _ q=>sub_int q
theorem qO:OpR X (binaryOp .Mult) (rI JS fun i j=>.int (i*j)):=opI fun _ _ _ _ _ _ _ hc q=>mul_int q hc.ok
theorem JD:OpR X (binaryOp .FloorDiv) (rI Q9 fun i j=>.int (i / j)):=opI fun i j _ _ _ _ _ hc q=>by
 have h1:(0:Int)<j:=hc.1;have h2:j<1073741824:=hc.2;exact floordiv_int (by omega) (by rw [Int.fdiv_eq_ediv_of_nonneg i (by omega)]; exact q) (.inl (PyProof.noPylong_small (by omega)))
theorem iA:OpR X (binaryOp .Mod) (rI (fun _ j=>0<j) fun i j=>.int (i % j)):=opI fun i j _ _ _ _ _ hc q=>by
 have h1:(0:Int)<j:=hc;exact mod_int' (by omega) (by rw [Int.fmod_eq_emod_of_nonneg i (by omega)]; exact q)
theorem uY:OpR X (binaryOp .Pow) (rI O2 fun i j=>.int (i ^ j.toNat)):=opI fun _ _ _ _ _ _ _ hc q=>pow_int_small hc.1 hc.2.1 hc.2.2 q
theorem unI {f:Value->Sem Value} {g:Int->Int}
  (rule:∀ (i:Int) (t:Tok) (s:Shared) (Q:Value->Shared->Prop) (E:Value->Shared->Prop),Q (.int (g i) s.toks) { s with toks:=s.toks+1 }->wpAny (model X.prog X.w) X.A (f (.int i t)) Q E s) :
  UnR X f (rU fun i=>.int (g i)):=by
 intro ae s σ H x v Q I rx h;obtain ⟨i,rfl,q⟩:=h;obtain ⟨t,rfl⟩:=rx;exact rule i t s _ _ ⟨.int (g i),H,I.tok _,⟨_,rfl⟩,q⟩
theorem dH:UnR X (unaryOp .USub) (rU fun i=>.int (-i)):=unI fun _ _ _ _ _ q=>neg_int q
end
noncomputable def NI:V->V->Bool
 | .non,.non=>true | .non,.int _=>true | .int _,.non=>true | .non,.bl _=>true | .bl _,.non=>true | .non,.str _=>true | .str _,.non=>true
 | .int _,.int _=>true | .bl _,.bl _=>true | .str _,.str _=>true | .byt _,.byt _=>true
 | .int _,.str _=>true | .str _,.int _=>true | .bl _,.str _=>true | .str _,.bl _=>true
 | _,_=>false
inductive rEq (x:V) (y:V) (H:Hp) (Q:VK):Prop
 | mk:(NI x y=true)->(Q (.bl (decide (x=y))) H)->rEq  x y H Q
inductive rNe (x:V) (y:V) (H:Hp) (Q:VK):Prop
 | mk:(NI x y=true)->(Q (.bl (!decide (x=y))) H)->rNe  x y H Q
theorem CD {i j:Int}:decide (V.int i=V.int j)=(i==j):=by
 rw [Yu];simp
theorem HE {i j:Bool}:decide (V.bl i=V.bl j)=(i==j):=by
 rw [Yu];simp
theorem Cf {i j:Str}:decide (V.str i=V.str j)=(i==j):=by
 rw [Yu];simp
theorem CB {i j:Array UInt8}:decide (V.byt i=V.byt j)=(i.toList==j.toList):=by
 rw [Yu];cases i;cases j;simp
section
variable {X:Cx} {a b c:Expr} {ta tb tc:TE} {pos:Pos}
theorem aU {ae:List (Addr×Obj)} {σ:St} {H:Hp} {s:Shared} {Q:VK} {k k':Bool} (I:Inv X ae σ H s) (q:Q (.bl k) H) (e:k=k'):EP X ae σ Q (.bool k') s:=by
 subst e;exists .bl k,H,I,rfl,q
theorem aJ:OpR X (compareOp .Eq) rEq:=by
 intro ae s σ H x y v u Q I rx ry h;obtain ⟨hs,q⟩:=h;cases x with
 | non =>
  cases rx;cases y with
  | non=>cases ry; exact PySem.EqNone.eq_none_none (aU I q (by simp))
  | bl j=>cases ry; exact PySem.EqNone.eq_none_bool (aU I q (by simp))
  | int j=>obtain ⟨t',rfl⟩:=ry; exact PySem.EqNone.eq_none_int (aU I q (by simp))
  | str j=>obtain ⟨t',rfl⟩:=ry; exact PySem.EqNone.eq_none_str (aU I q (by simp))
  | _=>exact absurd (show false=true from hs) Xq
 | bl i =>
  cases rx;cases y with
  | non=>cases ry; exact PySem.EqNone.eq_bool_none (aU I q (by simp))
  | bl j=>cases ry; exact eq_bool (aU I q HE)
  | str j=>obtain ⟨t',rfl⟩:=ry; exact PySem.EqMixed.eq_bool_str (aU I q (by simp))
  | _=>exact absurd (show false=true from hs) Xq
 | int i =>
  obtain ⟨t,rfl⟩:=rx;cases y with
  | non=>cases ry; exact PySem.EqNone.eq_int_none (aU I q (by simp))
  | int j=>obtain ⟨t',rfl⟩:=ry; exact eq_int (aU I q CD)
  | str j=>obtain ⟨t',rfl⟩:=ry; exact PySem.EqMixed.eq_int_str (aU I q (by simp))
  | _=>exact absurd (show false=true from hs) Xq
 | str i =>
  obtain ⟨t,rfl⟩:=rx;cases y with
  | non=>cases ry; exact PySem.EqNone.eq_str_none (aU I q (by simp))
  | bl j=>cases ry; exact PySem.EqMixed.eq_str_bool (aU I q (by simp))
  | int j=>obtain ⟨t',rfl⟩:=ry; exact PySem.EqMixed.eq_str_int (aU I q (by simp))
  | str j=>obtain ⟨t',rfl⟩:=ry; exact eq_str (aU I q Cf)
  | _=>exact absurd (show false=true from hs) Xq
 | byt i =>
  obtain ⟨t,rfl⟩:=rx;cases y with
  | byt j=>obtain ⟨t',rfl⟩:=ry; exact PySem.W.eq_bytes (aU I q CB)
  | _=>exact absurd (show false=true from hs) Xq
 | _=>cases y<;>exact absurd (show false=true from hs) Xq
theorem kz:OpR X (compareOp .NotEq) rNe:=by
 intro ae s σ H x y v u Q I rx ry h;obtain ⟨hs,q⟩:=h;cases x with
 | non =>
  cases rx;cases y with
  | non=>cases ry; exact PySem.EqNone.ne_none_none (aU I q (by simp))
  | bl j=>cases ry; exact PySem.EqNone.ne_none_bool (aU I q (by simp))
  | int j=>obtain ⟨t',rfl⟩:=ry; exact PySem.EqNone.ne_none_int (aU I q (by simp))
  | str j=>obtain ⟨t',rfl⟩:=ry; exact PySem.EqNone.ne_none_str (aU I q (by simp))
  | _=>exact absurd (show false=true from hs) Xq
 | bl i =>
  cases rx;cases y with
  | non=>cases ry; exact PySem.EqNone.ne_bool_none (aU I q (by simp))
  | bl j=>cases ry; exact ne_bool (aU I q (congrArg not HE))
  | str j=>obtain ⟨t',rfl⟩:=ry; exact PySem.EqMixed.ne_bool_str (aU I q (by simp))
  | _=>exact absurd (show false=true from hs) Xq
 | int i =>
  obtain ⟨t,rfl⟩:=rx;cases y with
  | non=>cases ry; exact PySem.EqNone.ne_int_none (aU I q (by simp))
  | int j=>obtain ⟨t',rfl⟩:=ry; exact ne_int (aU I q (congrArg not CD))
  | str j=>obtain ⟨t',rfl⟩:=ry; exact PySem.EqMixed.ne_int_str (aU I q (by simp))
  | _=>exact absurd (show false=true from hs) Xq
 | str i =>
  obtain ⟨t,rfl⟩:=rx;cases y with
  | non=>cases ry; exact PySem.EqNone.ne_str_none (aU I q (by simp))
  | bl j=>cases ry; exact PySem.EqMixed.ne_str_bool (aU I q (by simp))
  | int j=>obtain ⟨t',rfl⟩:=ry; exact PySem.EqMixed.ne_str_int (aU I q (by simp))
  | str j=>obtain ⟨t',rfl⟩:=ry; exact ne_str (aU I q (congrArg not Cf))
  | _=>exact absurd (show false=true from hs) Xq
 | byt i =>
  obtain ⟨t,rfl⟩:=rx;cases y with
  | byt j=>obtain ⟨t',rfl⟩:=ry; exact PySem.W.ne_bytes (aU I q (congrArg not CB))
  | _=>exact absurd (show false=true from hs) Xq
 | _=>cases y<;>exact absurd (show false=true from hs) Xq
theorem kK:OpR X (compareOp .Lt) (rI0 fun i j=>.bl (decide (i<j))):=Lq fun _ _ _ _ _ _ _ q=>lt_int q
theorem nO:OpR X (compareOp .LtE) (rI0 fun i j=>.bl (decide (i<=j))):=Lq fun _ _ _ _ _ _ _ q=>le_int q
theorem f7:OpR X (compareOp .Gt) (rI0 fun i j=>.bl (decide (j<i))):=Lq fun _ _ _ _ _ _ _ q=>gt_int q
theorem uq:OpR X (compareOp .In) (fun x y H Q=>∃ i j,x=.str i/\y=.str j/\Q (.bl (!(Builtin.Str.occurrences j i 0 j.length 1).isEmpty)) H):=by
 intro ae s σ H x y v u Q I rx ry h;obtain ⟨i,j,rfl,rfl,q⟩:=h;obtain ⟨t,rfl⟩:=rx;obtain ⟨t',rfl⟩:=ry;exact in_str (aU I q rfl)
theorem f9:OpR X (compareOp .Is) (fun x y H Q=>y=.non/\Q (.bl (decide (x=.non))) H):=by
 intro ae s σ H x y v u Q I rx ry h;obtain ⟨rfl,q⟩:=h;cases ry;refine is_none_gen (aU I q ?_);cases x<;>first
  | (cases rx; rfl)
  | (obtain ⟨t,rfl⟩:=rx; rfl)
theorem JZ:OpR X (compareOp .IsNot) (fun x y H Q=>y=.non/\Q (.bl (!decide (x=.non))) H):=by
 intro ae s σ H x y v u Q I rx ry h;obtain ⟨rfl,q⟩:=h;cases ry;refine isnot_none_gen (aU I q ?_);cases x<;>first
  | (cases rx; rfl)
  | (obtain ⟨t,rfl⟩:=rx; rfl)
theorem OpR.or {f:Value->Value->Sem Value} {r r':R2} (h:OpR X f r) (h':OpR X f r'):OpR X f (fun x y H Q=>r x y H Q\/r' x y H Q):=by
 intro ae s σ H x y v u Q I rx ry q;rcases q with q | q
 ·exact h ae s σ H x y v u Q I rx ry q
 ·exact h' ae s σ H x y v u Q I rx ry q
theorem cZ (b:Expr) {op:CmpOp} (h:op≠.In:=by decide) (h2:op≠.NotIn:=by decide):behindInMarks op b=false:=by
 have e1:(op==CmpOp.In)=false:=by cases op<;>first | rfl | exact absurd rfl h
 have e2:(op==CmpOp.NotIn)=false:=by cases op<;>first | rfl | exact absurd rfl h2
 cases b<;>simp [behindInMarks,e1,e2]
theorem gw {op:CmpOp} {r:R2} (ho:OpR X (compareOp op) r) (ha:PE X a ta) (hb:PE X b tb) (hm:behindInMarks op b=false):PE X (.Compare a [op] [b] pos) (tOp r ta tb):=by
 intro ae s σ H Q I h;exact wpAny_Compare1 (LG ha hb I h fun v u s2 x y H2 I2 rx ry q=>ho ae s2 σ H2 x y v u Q I2 rx ry q) hm
inductive CH (Q:Bool->Hp->Prop) (x:V) (H':Hp):Prop
 | mk (k):(x=.bl k)->(Q k H')->CH Q x H'
noncomputable def Kr (t:TE):TT:=fun σ H Q=>t σ H fun x H'=>CH Q x H'
theorem c7 {op:CmpOp} {r:R2} (ho:OpR X (compareOp op) r) (ha:PE X a ta) (hb:PE X b tb) (hm:behindInMarks op b=false):PT X (.Compare a [op] [b] pos) (Kr (tOp r ta tb)):=by
 intro ae s σ H Q I h;refine wpAny_isTrue_Compare1 (thn (ha ae s σ H _ I h) fun v s1 ⟨x,H1,I1,r1,q1⟩=>thn (hb ae s1 σ H1 _ I1 q1) fun u s2 ⟨y,H2,I2,r2,q2⟩ =>
  thn (ho ae s2 σ H2 x y v u _ I2 r1 r2 q2) fun c s3 ⟨z,H3,I3,r3,k,e,q3⟩=>?_) hm
 subst e;cases r3;exact wpAny_truthy_bool ⟨H3,I3,q3⟩
inductive xB (r':R2) (tc:TE) (σ:St) (Q:VK) (y:V) (z:V) (H3:Hp):Prop
 | mk (k):(z=.bl k)->((if k=true then tc σ H3 fun w' H4=>r' y w' H4 Q else Q (.bl false) H3))->xB r' tc σ Q y z H3
noncomputable def Hq (r r':R2) (ta tb tc:TE):TE:=fun σ H Q=>ta σ H fun x H1=>tb σ H1 fun y H2=>r x y H2 fun z H3=>xB r' tc σ Q y z H3
theorem Ij {op Ng:CmpOp} {r r':R2} (ho:OpR X (compareOp op) r) (sC:OpR X (compareOp Ng) r') (ha:PE X a ta) (hb:PE X b tb) (hc:PE X c tc)
  (hm:lastMarks [op,Ng] [b,c]=false:=by with_unfolding_all rfl):PE X (.Compare a [op,Ng] [b,c] pos) (Hq r r' ta tb tc):=by
 intro ae s σ H Q I h;refine Compare_chain (thn (ha ae s σ H _ I h) fun v s1 ⟨x,H1,I1,r1,q1⟩=>chain_link (thn (hb ae s1 σ H1 _ I1 q1) fun u s2 ⟨y,H2,I2,r2,q2⟩ =>
  thn (ho ae s2 σ H2 x y v u _ I2 r1 r2 q2) fun d s3 ⟨z,H3,I3,r3,k,e,q3⟩=>?_)) hm
 subst e;cases r3;refine wpAny_truthy_bool ?_;cases k with
 | false=>exact ite_ff ⟨.bl false,H3,I3,rfl,q3⟩
 | true=>exact ite_tt (chain_last (thn (hc ae s3 σ H3 _ I3 q3) fun w' s4 ⟨z',H4,I4,r4,q4⟩=>sC ae s4 σ H4 y z' u w' Q I4 r2 r4 q4))
theorem p9 {op Ng:CmpOp} {r r':R2} (ho:OpR X (compareOp op) r) (sC:OpR X (compareOp Ng) r') (ha:PE X a ta) (hb:PE X b tb) (hc:PE X c tc)
  (hm:lastMarks [op,Ng] [b,c]=false:=by with_unfolding_all rfl):PT X (.Compare a [op,Ng] [b,c] pos) (Kr (Hq r r' ta tb tc)):=by
 intro ae s σ H Q I h;refine isTrue_chain (thn (ha ae s σ H _ I h) fun v s1 ⟨x,H1,I1,r1,q1⟩=>test_link (thn (hb ae s1 σ H1 _ I1 q1) fun u s2 ⟨y,H2,I2,r2,q2⟩ =>
  thn (ho ae s2 σ H2 x y v u _ I2 r1 r2 q2) fun d s3 ⟨z,H3,I3,r3,k,e,q3⟩=>?_)) hm
 subst e;cases r3;refine wpAny_truthy_bool ?_;cases k with
 | false =>
  obtain ⟨k',e',q'⟩:=q3;cases e';exact ite_ff ⟨H3,I3,q'⟩
 | true =>
  refine ite_tt (test_last (thn (hc ae s3 σ H3 _ I3 q3) fun w' s4 ⟨z',H4,I4,r4,q4⟩=>thn (sC ae s4 σ H4 y z' u w' _ I4 r2 r4 q4) fun d' s5 ⟨z2,H5,I5,r5,k2,e2,q5⟩=>?_));subst e2;cases r5;exact wpAny_truthy_bool ⟨H5,I5,q5⟩
noncomputable def Ob (K:Frag) (x:V) (H:Hp) (k:Bool):Prop :=
 match x with
 | .non=>k=false
 | .bl b=>k=b
 | .int i=>k=(i != 0)
 | .str y=>y.length<=sizeLine/\k=((y.length:Int) != 0)
 | .byt y=>y.size<=sizeLine/\k=((y.size:Int) != 0)
 | .ref p=>(∃ xs,SqL K H p xs/\k=!xs.isEmpty)\/(∃ xs,SqT K H p xs/\k=!xs.isEmpty)\/∃ aT,H p=some (.dK aT)/\k=!aT.isEmpty
 | _=>False
theorem Ab {κ:Type} {aT:List (κ×V)} {vs:List (κ×Value)} (r:KV aT vs):(!vs.isEmpty)=!aT.isEmpty:=by
 cases r<;>rfl
theorem pM {xs:List V} {its:List Value} (r:aI xs its):(!its.toArray.isEmpty)=!xs.isEmpty:=by
 cases r<;>simp
theorem jS:(sizeLine:Nat)<2 ^ 63:=by rw [sizeLine_eq]; decide
theorem ML:Rh X (fun x H Q=>∃ k,Ob X.K x H k/\Q k H):=by
 intro ae s σ H x v Q I rx h;obtain ⟨k,e,q⟩:=h;have hl:=jS;have hs:sizeLine=16777216:=sizeLine_eq;cases x with
 | non =>
  cases rx;have e':k=false:=e;subst e';exact truthy_none ⟨H,I,q⟩
 | bl b =>
  cases rx;have e':k=b:=e;subst e';exact wpAny_truthy_bool ⟨H,I,q⟩
 | int i =>
  obtain ⟨t,rfl⟩:=rx;have e':k=(i != 0):=e;subst e';exact PySem.P.truthy_int ⟨H,I,q⟩
 | str y =>
  obtain ⟨t,rfl⟩:=rx;obtain ⟨hy,e'⟩:y.length<=sizeLine/\k=((y.length:Int) != 0):=e;subst e';exact PySem.P.truthy_str (by omega) ⟨H,I.tok _,q⟩
 | byt y =>
  obtain ⟨t,rfl⟩:=rx;obtain ⟨hy,e'⟩:y.size<=sizeLine/\k=((y.size:Int) != 0):=e;subst e';exact PySem.W.truthy_bytes (by omega) ⟨H,I.tok _,q⟩
 | ref p =>
  cases rx;have e':(∃ xs,SqL X.K H p xs/\k=!xs.isEmpty)\/(∃ xs,SqT X.K H p xs/\k=!xs.isEmpty)\/∃ aT,H p=some (.dK aT)/\k=!aT.isEmpty:=e;rcases e' with ⟨xs,hx,e'⟩ | ⟨xs,hx,e'⟩ | ⟨aT,hx,e'⟩
  ·subst e';obtain ⟨its,r,pl,hz⟩:=I.list hx;have cI:=r.length;exact wpAny_truthy_list pl.isList (by simp only [Xk]; omega) ⟨H,I.tok _,by rw [pM r]; exact q⟩
  ·subst e';obtain ⟨its,r,pl,hz⟩:=I.tuple hx;have cI:=r.length;exact truthy_tuple pl (by simp only [Xk]; omega) ⟨H,I.tok _,by rw [pM r]; exact q⟩
  ·subst e';obtain ⟨hz,hS,vs,r,m⟩:aT.length<=sizeLine/\(p==sysModules)=false/\∃ vs,KV aT vs/\s.heap.DictOf (ci X.prog X.w) p vs:=I.hok p _ hx;have cI:aT.length=vs.length:=Paired.length r;exact wpAny_truthy_dict hS m (by omega) ⟨H,I.tok _,by rw [Ab r]; exact q⟩
 | _=>exact (show False from e).elim
theorem qF (ha:PE X a ta) (he:∀ whole,isTrue a X.env whole=(do let v <- whole; standAt a.pos; holding [v] (truthy v))) :
  PT X a (fun σ H Q=>ta σ H fun x H'=>∃ k,Ob X.K x H' k/\Q k H'):=by
 intro ae s σ H Q I h;exact isTrue_plain (thn (ha ae s σ H _ I h) fun v s1 ⟨x,H1,I1,r1,q1⟩=>ML ae s1 σ H1 x v Q I1 r1 q1) (he _)
theorem Be:OpR X (binaryOp .Add) (fun x y H Q=>∃ i j,x=.str i/\y=.str j/\i.length+j.length<=sizeLine/\Q (.str (i++j)) H):=by
 intro ae s σ H x y v u Q I rx ry h;obtain ⟨i,j,rfl,rfl,hz,q⟩:=h;obtain ⟨t,rfl⟩:=rx;obtain ⟨t',rfl⟩:=ry;exact add_str (fun t' tk=>⟨.str (i++j),H,I.tok _,⟨_,rfl⟩,q⟩) hz
theorem fT {x:V} {us:List Value} (r:aI [x] us):∃ u,us=[u]/\a7 x u:=by
 cases r with
 | cons r1 r2=>cases r2; exact ⟨_,rfl,r1⟩
theorem OQ {x y:V} {us:List Value} (r:aI [x,y] us):∃ u w',us=[u,w']/\a7 x u/\a7 y w':=by
 cases r with
 | cons r1 r2 =>
  cases r2 with
  | cons r3 r4=>cases r4; exact ⟨_,_,rfl,r1,r3⟩
theorem DQ:d8 X (.type "int") (fun xs H Q=>(∃ i,xs=[.int i]/\Q (.int i) H)\/∃ k,xs=[.bl k]/\Q (.int (if k then 1 else 0)) H):=by
 intro ae s σ H xs us Q I r h;rcases h with ⟨i,rfl,q⟩ | ⟨k,rfl,q⟩
 ·obtain ⟨u,rfl,t,rfl⟩:=fT r;exact call_int_int ⟨.int i,H,I,⟨_,rfl⟩,q⟩
 ·obtain ⟨u,rfl,r1⟩:=fT r;cases r1;exact call_int_bool ⟨.int (if k then 1 else 0),H,I.tok _,⟨_,rfl⟩,q⟩
theorem aK:d8 X (.type "str") (fun xs H Q=>∃ i,xs=[.int i]/\i.natAbs.log2<1920/\Q (.str (toString i)) H):=by
 intro ae s σ H xs us Q I r h;obtain ⟨i,rfl,hz,q⟩:=h;obtain ⟨u,rfl,t,rfl⟩:=fT r;exact PySem.P.str_of_int hz ⟨.str _,H,I.tok _,⟨_,rfl⟩,q⟩
theorem xk:d8 X (.builtin "ord") (fun xs H Q=>∃ x,xs=[.str x]/\x.length=1/\Q (.int (x.cps.getD 0 0:Nat)) H):=by
 intro ae s σ H xs us Q I r h;obtain ⟨x,rfl,hz,q⟩:=h;obtain ⟨u,rfl,t,rfl⟩:=fT r;exact ord_of_one hz ⟨.int _,H,I.tok _,⟨_,rfl⟩,q⟩
end
open PySem PySem.Spec PyProof.Rows
structure AW (h:Heap) (x dx C:Addr) (mA:Str->Option Value):Prop where
 obj:h.get? x=some (Ym C dx)
 ns:h.Ns1 dx mA
 ne:dx≠x
theorem DI {h:Heap} {dx:Addr} {mA:Str->Option Value} (n:h.Ns1 dx mA):∃ od,h.get? dx=some od/\∀ name,YY name od=some (mA name):=by
 obtain ⟨o,es,ep,ho,hd,hk,_,hm⟩:=n;exists o,ho,fun name=>?_
 have e:=hm name;unfold nsFind findBy at e;rw [<- Array.find?_toList] at e;unfold YY;rw [hd];dsimp only
 split
 ·rename_i y q
  rw [q] at e;exact congrArg some e
 ·rename_i q
  rw [q] at e;have a:es.toList.any (·.refKey)=false:=by
   rw [aax];intro y hy;obtain ⟨z,t,hkey⟩:=hk y (Array.mem_toList_iff.mp hy);simp [DictEntry.refKey,hkey]
  have a':¬ es.toList.any (·.refKey)=true:=by rw [a]; exact Xq
  rw [if_neg a'];exact congrArg some e
theorem AW.look {h:Heap} {x dx C:Addr} {mA:Str->Option Value} (I:AW h x dx C mA):∃ od,PySem.W.InstAt h x (Ym C dx) C (some od)/\∀ name,YY name od=some (mA name) :=
 let ⟨od,ho,hl⟩:=DI I.ns
 ⟨od,⟨I.obj,rfl,rfl,ho⟩,hl⟩
section
variable {prog:Program} {w:World} {A:Around} {E:Value->Shared->Prop} {s:Shared} {K:Frag} {x dx C f:Addr} {mA:Str->Option Value} {name:Str} {v:Value}
theorem JT {expr:Bool} {Q:Value->Shared->Prop} (X:K.In s.heap) (I:AW s.heap x dx C mA) (hg:YA K C name=true) (hh:YJ K C=true)
  (ha:findIn K (.ref C) name=some none) (hv:mA name=some v) (UV:aaC v=true) (h:Q v { s with toks:=s.toks+1 }) :
  wpAny (model prog w) A (getAttr (.ref x) name expr) Q E s:=by
 obtain ⟨od,J,hl⟩:=I.look;exact PySem.W.get_value X J (YW hg).1 (PySem.W.findObj_own hh ha rfl (by rw [hl,hv])) UV h
theorem FC {pl:Sem Bool} {Q:Value×List Value->Shared->Prop} (X:K.In s.heap) (I:AW s.heap x dx C mA) (hg:YA K C name=true)
  (hf:findIn K (.ref C) name=some (some (.ref f))) (ht:Zo K (.ref f)=true) (hv:mA name=none) (h:Q (.ref f,[.ref x]) s) :
  wpAny (model prog w) A (getMethod (.ref x) name pl) Q E s:=by
 obtain ⟨od,J,hl⟩:=I.look;exact PySem.W.method_fn X J (YW hg).1 (YW hg).2 hf (beq_iff_eq.mp ht) (by show (YY name od).map (·.isSome)=some false; rw [hl,hv]; rfl) h
theorem Jd {ns:List Str} {Q:Unit->Shared->Prop} (X:K.In s.heap) (I:AW s.heap x dx C mA)
  (hs:findIn K (.ref C) "__setattr__"=some (some (.builtin "object.__setattr__"))) (hp:Zg K C=true) (ht:Zr K C name=some none) (hh:YJ K C=true)
  (hw:PySem.Within mA ns) (hsz:ns.length<=sizeLine)
  (h:∀ h',AW h' x dx C (fun y=>if y=name then some v else mA y)->Heap.SameBut dx s.heap h'->Q Unit.unit { s with heap:=h',toks:=s.toks+2 }) :
  wpAny (model prog w) A (setAttr (.ref x) name v) Q E s:=by
 obtain ⟨od,J,hl⟩:=I.look;refine PySem.W.set_plain X J hs (PySem.W.osa_open (s:={ s with toks:=s.toks+1 }) (r:=none) X J hp ht fun b=>?_);obtain ⟨cd,hc,QI⟩:=PySem.W.any_some hh;have hx:s.heap.get? x=some ⟨.ref C,some dx,.plain,#[]⟩:=I.obj;refine wpAny_bind (wpAny_pure (wpAny_bind (wpAny_bind (wpAny_loadPart hx (wpAny_bind (PySem.W.Looks.here (s:={ s with toks:=s.toks+1 }) (PySem.W.looks_clsIn X hc) ?_))))));rw [QI];refine wpAny_pure (a:=some dx) (wpAny_bind (wpAny_pure (wpAny_bind ?_)));refine wpAny_nsSet1 (s:={ s with toks:=s.toks+1 }) I.ns fun h' QF IG=>?_
 obtain ⟨oD,esD,epD,hoD,hdD,hcD⟩:=QF.count (PySem.Within.cons name v hw);refine wpAny_bind (wpAny_lookBehind hoD (by rw [hdD]; exact pastItsLine_dict (XC hcD (by rw [W9]; omega))) ?_);exact wpAny_pure (h _ ⟨(IG.2 _ (Ne.symm I.ne)).trans I.obj,QF,I.ne⟩ IG)
theorem FD {R:Result->Shared->Prop} {vs:List Value} {kw:List (Str×Value)} (X:K.In s.heap) (hm:Zs K C=true)
  (hi:findIn K (.ref C) "__init__"=some (some (.ref f))) (hf:PySem.W.typeIn K (.ref f)=some (.type "function"))
  (h:codeAny (model prog w) (A.under (.builtin "type.__call__" ⟨.ref C::vs,kw⟩)) (.call (.ref f) ⟨.ref (s.heap.objs.size+1)::vs,kw⟩) (PySem.W.InitBack (s.heap.objs.size+1) R)
   { s with heap:=(s.heap.push X8).push (Ym C s.heap.objs.size) }) :
  codeAny (model prog w) A (.call (.ref C) ⟨vs,kw⟩) R s:=by
 obtain ⟨hh,g,d,t,os⟩:=s;exact PySem.W.make_core (PySem.W.makes_of X hm) (PySem.W.looks_findIn X hi) (fun self=>PySem.W.bind_fn X self hf) (.inl rfl) h
end
noncomputable def jw (f:Str) (v:V):List (Str×V)->List (Str×V)
 | []=>[(f,v)]
 | (g,x)::r=>if g=f then (g,v)::r else (g,x)::jw f v r
theorem oj (f g:Str) (v:V):∀ fs:List (Str×V),(jw f v fs).lookup g=if g=f then some v else fs.lookup g
 | []=>by
  show YC g [(f,v)]=_
  by_cases h:g=f
  ·have hb:(g==f)=true:=beq_iff_eq.mpr h;simp only [YC,hb,if_pos h]
  ·have hb:(g==f)=false:=beq_eq_false_iff_ne.mpr h;simp only [YC,hb,if_neg h]
 | (k,x)::r=>by
  have ih:=oj f g v r;rw [show jw f v ((k,x)::r)=(if k=f then (k,v)::r else (k,x)::jw f v r) from rfl]
  by_cases hk:k=f
  ·rw [if_pos hk]
   by_cases h:g=k
   ·have hb:(g==k)=true:=beq_iff_eq.mpr h;simp only [YC,hb,if_pos (h.trans hk)]
   ·have hb:(g==k)=false:=beq_eq_false_iff_ne.mpr h;simp only [YC,hb,if_neg (fun e:g=f=>h (e.trans hk.symm))]
  ·rw [if_neg hk]
   by_cases h:g=k
   ·have hb:(g==k)=true:=beq_iff_eq.mpr h;simp only [YC,hb,if_neg (fun e:g=f=>hk (h.symm.trans e))]
   ·have hb:(g==k)=false:=beq_eq_false_iff_ne.mpr h;simp only [YC,hb];exact ih
theorem ml (f:Str) (v:V):∀ fs:List (Str×V),f∈(jw f v fs).map (·.1)/\∀ g,g∈fs.map (·.1)->g∈(jw f v fs).map (·.1)
 | []=>⟨by simp [jw],fun g h=>by simp at h⟩
 | (k,x)::r=>by
  obtain ⟨i1,i2⟩:=ml f v r;rw [show jw f v ((k,x)::r)=(if k=f then (k,v)::r else (k,x)::jw f v r) from rfl]
  by_cases hk:k=f
  ·rw [if_pos hk];subst hk;exists by simp,fun g h=>by simpa using h
  ·rw [if_neg hk];exists ?_,fun g h=>?_
   ·rw [Xp];exact Xg _ i1
   ·rw [Xp] at h ⊢;rcases Xa.mp h with e | e
    ·exact Xa.mpr (.inl e)
    ·exact Xg _ (i2 g e)
theorem om (f:Str) (v:V):∀ fs:List (Str×V),(jw f v fs).length<=fs.length+1
 | []=>by simp [jw]
 | (k,x)::r=>by
  have ih:=om f v r;rw [show jw f v ((k,x)::r)=(if k=f then (k,v)::r else (k,x)::jw f v r) from rfl]
  by_cases hk:k=f
  ·rw [if_pos hk,W9,W9]; omega
  ·rw [if_neg hk,W9,W9]; omega
theorem mv.some_of {v:V} {o:Option Value} (r:mv (some v) o):∃ u,o=some u/\a7 v u:=by
 cases o with
 | none=>exact (show False from r).elim
 | some u=>exact ⟨u,rfl,r⟩
theorem mv.none_of {o:Option Value} (r:mv none o):o=none:=by
 cases o with
 | none=>rfl
 | some u=>exact (show False from r).elim
theorem Ea {v:V} {u:Value} (r:a7 v u):aaC u=true:=by
 cases v with
 | non=>cases (show u=Value.none from r); rfl
 | bl b=>cases (show u=Value.bool b from r); rfl
 | int i=>obtain ⟨t,e⟩:=(show ∃ t,u=Value.int i t from r); cases e; rfl
 | str x=>obtain ⟨t,e⟩:=(show ∃ t,u=Value.str x t from r); cases e; rfl
 | byt b=>obtain ⟨t,e⟩:=(show ∃ t,u=Value.bytes b t from r); cases e; rfl
 | flt b=>obtain ⟨t,e⟩:=(show ∃ t,u=Value.float b t from r); cases e; rfl
 | ref a=>cases (show u=Value.ref a from r); rfl
 | ty n=>cases (show u=Value.type n from r); rfl
section
variable {P:Program} {w:World} {H H':Hp} {h h':Heap} {a C dx:Addr} {fs Uq:List (Str×V)}
theorem oT (hok:HOk P w H h) (e:H a=some (.ins C dx fs)):∃ mA,AW h a dx C mA/\(∀ f,mv (fs.lookup f) (mA f))/\PySem.Within mA (fs.map (·.1))/\fs.length<=1000/\H dx=some (.own a):=by
 obtain ⟨d,z,ne,ob,mA,n,r,q⟩:=(show bW P w H h a (.ins C dx fs) from hok a _ e);exists mA,⟨ob,n,ne⟩,r,q,z,d
end
structure Cls (K:Frag) (C:Addr):Prop where
 pg:YA K C Str.empty=true
 hd:YJ K C=true
 po:Zg K C=true
 sa:findIn K (.ref C) "__setattr__"=some (some (.builtin "object.__setattr__"))
theorem Cls.get {K:Frag} {C:Addr} (c:Cls K C) (f:Str):YA K C f=true:=c.pg
noncomputable def jQ (K:Frag) (C:Addr) (f:Str):Prop:=findIn K (.ref C) f=some none
theorem jQ.taker {K:Frag} {C:Addr} {f:Str} (n:jQ K C f):Zr K C f=some none:=by
 unfold Zr;rw [show findIn K (.ref C) f=some none from n]
 rfl
structure Con (K:Frag) (C:Addr) (f:Str) (v:V) (u:Value):Prop where
 at_:findIn K (.ref C) f=some (some u)
 rel:a7 v u
 get:aay K u "__get__"=some none
 cp:PySem.W.copiedNames.contains f=false
structure DK (K:Frag) (C:Addr) (m:Str) (f:Addr):Prop where
 at_:findIn K (.ref C) m=some (some (.ref f))
 fn:Zo K (.ref f)=true
 kp:keepIn K (.ref f)=true
section
variable {X:Cx} {ae:List (Addr×Obj)} {σ:St} {H:Hp} {s:Shared} {a C dx:Addr} {fs:List (Str×V)} {f:Str} {v:V} {A:Around} {E:Value->Shared->Prop}
theorem AK {b:Bool} {Q:Value->Shared->Prop} (I:Inv X ae σ H s) (e:H a=some (.ins C dx fs)) (c:Cls X.K C) (n:jQ X.K C f) (l:fs.lookup f=some v)
  (h:∀ u s',Inv X ae σ H s'->a7 v u->Q u s'):wpAny (model X.prog X.w) A (getAttr (.ref a) f b) Q E s:=by
 obtain ⟨mA,O,r,_,_,_⟩:=oT I.hok e;obtain ⟨u,hu,ru⟩:=mv.some_of (v:=v) (o:=mA f) (by rw [<- l]; exact r f);exact JT I.kIn O (c.get f) c.hd n hu (Ea ru) (h u _ (I.tok _) ru)
theorem qA {m:Str} {g:Addr} {pl:Sem Bool} {Q:Value×List Value->Shared->Prop} (I:Inv X ae σ H s) (e:H a=some (.ins C dx fs)) (c:Cls X.K C) (k:DK X.K C m g) (l:fs.lookup m=none)
  (h:Q (.ref g,[.ref a]) s):wpAny (model X.prog X.w) A (getMethod (.ref a) m pl) Q E s:=by
 obtain ⟨mA,O,r,_,_,_⟩:=oT I.hok e;have hn:mA m=none:=mv.none_of (by rw [<- l]; exact r m);exact FC I.kIn O (c.get m) k.at_ k.fn hn h
theorem By {y:V} {u:Value} {Q:Unit->Shared->Prop} (I:Inv X ae σ H s) (e:H a=some (.ins C dx fs)) (c:Cls X.K C) (n:jQ X.K C f) (hl:fs.length<1000) (ry:a7 y u)
  (h:∀ s',Inv X ae σ (upd H a (.ins C dx (jw f y fs))) s'->Q Unit.unit s'):wpAny (model X.prog X.w) A (setAttr (.ref a) f u) Q E s:=by
 obtain ⟨mA,O,r,wi,_,ho⟩:=oT I.hok e;have hz:(fs.map (·.1)).length<=sizeLine:=by rw [W8,sizeLine_eq]; omega
 refine Jd I.kIn O c.sa c.po n.taker c.hd wi hz fun h' O' sb=>h _ ?_
 have hd:∃ o,h'.get? dx=some o:=let ⟨o,_,_,e',_⟩:=O'.ns; ⟨o,e'⟩;refine I.write (x:=a) (e:=dx) (by rw [e]; exact True.intro) (.inr ho) (fun b q hb z=>(sb.2 b hb).trans z) hd ?_;exists by rw [aj O.ne]; exact ho,?_,O.ne,O'.obj,_,O'.ns,fun g=>?_,fun g hg=>?_
 ·have:=om f y fs; omega
 ·show mv ((jw f y fs).lookup g) (if g=f then some u else mA g);rw [oj]
  by_cases q:g=f
  ·rw [if_pos q,if_pos q]; exact ry
  ·rw [if_neg q,if_neg q]; exact r g
 ·by_cases q:g=f
  ·rw [q]; exact (ml f y fs).1
  ·refine (ml f y fs).2 g (wi g fun z=>hg ?_);show (if g=f then some u else mA g)=none;rw [if_neg q]; exact z
theorem Inv.made (I:Inv X ae σ H s):Inv X ae σ (upd (upd H s.heap.objs.size (.own (s.heap.objs.size+1))) (s.heap.objs.size+1) (.ins C s.heap.objs.size []))
  { s with heap:=(s.heap.push X8).push (Ym C s.heap.objs.size) }:=by
 have e1:(s.heap.push X8).get? s.heap.objs.size=some X8:=Heap.get?_push_size s.heap rfl;have e2:((s.heap.push X8).push (Ym C s.heap.objs.size)).get? (s.heap.objs.size+1)=some (Ym C s.heap.objs.size):=by
  have:=Heap.get?_push_size (s.heap.push X8) (o:=Ym C s.heap.objs.size) rfl
  rwa [Heap.size_push] at this
 have e3:(s.heap.push X8).Ns s.heap.objs.size (fun _=>none):=⟨X8,#[],_,e1,rfl,(fun e he=>absurd he (by simp)),fun _=>rfl⟩;have I1:=I.laid (a:=s.heap.objs.size) (o:=.own (s.heap.objs.size+1)) (h':=s.heap.push X8) (t':=s.toks) (fun b u q=>Heap.get?_push_of_some _ q) (Xc _) ⟨_,e1⟩;refine I1.laid (a:=s.heap.objs.size+1) (o:=.ins C s.heap.objs.size []) (t':=s.toks) (fun b u q=>Heap.get?_push_of_some _ q) (aar (Heap.size_push _ _)) ?_;have ne:s.heap.objs.size≠s.heap.objs.size+1:=XR (YB _);exists by rw [aj ne,ac],Xj _,ne,e2,fun _=>none,(Heap.Ns1.of_empty e3).at fun o q=>Heap.get?_push_of_some _ q,fun _=>True.intro,fun y hy=>absurd rfl hy
theorem J2 {prog:Program} {w:World} {env:Env} {e:Expr} {f:Str} {pos:Pos} {s:Shared} {Q:Value->Shared->Prop} (hb:attributeBase e f env (eval e env)=eval e env)
  (h:wpAny (model prog w) A (eval e env) (fun o s₁=>wpAny (model prog w) A (getAttr o f true) Q E s₁) E s):wpAny (model prog w) A (eval (.Attribute e f pos) env) Q E s :=
 Attribute_any_ h (by rw [arm_eval_Attribute,hb])
end
inductive EV (K:Frag) (f:Str) (Q:VK) (x:V) (H1:Hp):Prop
 | mk (a C dx fs v):(x=.ref a)->(H1 a=some (.ins C dx fs))->(Cls K C)->(jQ K C f)->(fs.lookup f=some v)->(Q v H1)->EV K f Q x H1
noncomputable def QX (K:Frag) (ta:TE) (f:Str):TE:=fun σ H Q=>ta σ H fun x H1=>EV K f Q x H1
inductive FE (K:Frag) (f:Str) (D:jx) (σ:St) (y:V) (x:V) (H2:Hp):Prop
 | mk (a C dx fs):(x=.ref a)->(H2 a=some (.ins C dx fs))->(Cls K C)->(jQ K C f)->(fs.length<1000)->(D.nx σ (upd H2 a (.ins C dx (jw f y fs))))->FE K f D σ y x H2
noncomputable def Rj (K:Frag) (ta tv:TE) (f:Str):TS:=fun D σ H=>tv σ H fun y H1=>ta σ H1 fun x H2=>FE K f D σ y x H2
section
variable {X:Cx} {o e value:Expr} {f:Str} {pos yo tpos:Pos} {ta tv:TE}
theorem Mx (he:PE X e ta) (hb:attributeBase e f X.env (eval e X.env)=eval e X.env):PE X (.Attribute e f pos) (QX X.K ta f):=by
 intro ae s σ H Q I h;refine J2 hb (thn (he ae s σ H _ I h) fun u s1 ⟨x,H1,I1,rx,a,C,dx,fs,v,ex,ea,c,n,l,q⟩=>?_);subst ex;obtain rfl:u=Value.ref a:=rx;exact AK I1 ea c n l fun u' s2 I2 ru=>⟨v,H1,I2,ru,q⟩
theorem ij (ha:PE X o ta) (hv:PE X value tv) (hs:swapsWith value (some (.Attribute o f yo)) pos.line X.env=pure false):PS X (.Assign [.Attribute o f yo] value pos) (Rj X.K ta tv f):=by
 intro ae s σ H D I h;refine plainObj_wpAny_Assign_Attribute (thn (hv ae s σ H _ I h) fun u s1 ⟨y,H1,I1,ry,q⟩=>thn (ha ae s1 σ H1 _ I1 q) fun ov s2 ⟨x,H2,I2,rx,a,C,dx,fs,ex,ea,c,n,l,q2⟩=>?_) hs;subst ex;obtain rfl:ov=Value.ref a:=rx;exact By I2 ea c n l ry fun s3 I3=>⟨σ,_,I3,q2⟩
end
section
variable {X:Cx} {ae:List (Addr×Obj)} {σ:St} {H:Hp} {s:Shared} {A:Around} {E:Value->Shared->Prop} {Q:Value->Shared->Prop} {c:Value} {b:Bool}
inductive j2 (K:Frag) (H:Hp):V->Value->Prop where
 | non:j2 K H .non (.type "NoneType")
 | bl (x:Bool):j2 K H (.bl x) (.type "bool")
 | int (i:Int):j2 K H (.int i) (.type "int")
 | str (x:Str):j2 K H (.str x) (.type "str")
 | flt (x:UInt64):j2 K H (.flt x) (.type "float")
 | lst {a:Addr} {xs:List V} (e:H a=some (.lst xs)):j2 K H (.ref a) (.type "list")
 | frz {a:Addr} {o:Obj} {xs:List V} (e:H a=some (.frz o (.lst xs))):j2 K H (.ref a) (.type "list")
 | tup {a:Addr} {xs:List V} (e:H a=some (.tup xs)):j2 K H (.ref a) (.type "tuple")
 | dK {a:Addr} {aT:List (Key×V)} (e:H a=some (.dK aT)):j2 K H (.ref a) (.type "dict")
 | dT {a:Addr} {aT:List (List Key×V)} (e:H a=some (.dT aT)):j2 K H (.ref a) (.type "dict")
 | ins {a C dx:Addr} {fs:List (Str×V)} (e:H a=some (.ins C dx fs)) (cl:Cls K C) (ha:findIn K (.ref C) "__class__"=some (some (.builtin "object.__class__")))
   (hn:aay K (.builtin "object.__class__") "__get__"=some (some (.builtin "getset_descriptor.__get__"))) (htk:PySem.W.takesIn K (.builtin "object.__class__")=some true)
   (hm:PySem.W.mroIn K C (.type "object")=some true):j2 K H (.ref a) (.ref C)
theorem DF {x:V} {u t:Value} (I:Inv X ae σ H s) (rx:a7 x u) (ty:j2 X.K H x t) (e:aac X.K t c=some b) (h:∀ tk,Q (.bool b) { s with toks:=tk }) :
  wpAny (model X.prog X.w) A (call (.builtin "isinstance") [u,c]) Q E s:=by
 cases ty with
 | non=>cases (show u=Value.none from rx); exact X4 PySem.W.kitx_none I.kIn True.intro e (fun z=>nomatch z) h
 | bl y=>cases (show u=Value.bool y from rx); exact X4 PySem.W.kitx_bool I.kIn True.intro e (fun z=>nomatch z) h
 | int i=>obtain ⟨t,q⟩:=(show ∃ t,u=Value.int i t from rx); cases q; exact X4 PySem.W.kitx_int I.kIn True.intro e (fun z=>nomatch z) h
 | str y=>obtain ⟨t,q⟩:=(show ∃ t,u=Value.str y t from rx); cases q; exact X4 PySem.W.kitx_str I.kIn True.intro e (fun z=>nomatch z) h
 | flt y=>obtain ⟨t,q⟩:=(show ∃ t,u=Value.float y t from rx); cases q; exact X4 PySem.W.kitx_float I.kIn True.intro e (fun z=>nomatch z) h
 | @lst a xs ea =>
  cases (show u=Value.ref a from rx);obtain ⟨_,_,n,_,h1⟩:=(show bW X.prog X.w H s.heap a (.lst xs) from I.hok a _ ea);exact X4 aaz I.kIn ⟨_,h1,rfl⟩ e (fun z=>nomatch z) h
 | @frz a ob xs ea =>
  cases (show u=Value.ref a from rx);obtain ⟨_,_,_,n,_,h1⟩:=(show bW X.prog X.w H s.heap a (.frz ob (.lst xs)) from I.hok a _ ea);exact X4 aaz I.kIn ⟨_,h1,rfl⟩ e (fun z=>nomatch z) h
 | @tup a xs ea =>
  cases (show u=Value.ref a from rx);obtain ⟨_,_,_,p,_⟩:=(show bW X.prog X.w H s.heap a (.tup xs) from I.hok a _ ea);obtain ⟨o,h1,h2,_⟩:=p;exact X4 PySem.W.kitx_tuple I.kIn ⟨o,h1,h2⟩ e (fun z=>nomatch z) h
 | @dK a aT ea =>
  cases (show u=Value.ref a from rx);obtain ⟨_,_,vs,_,p⟩:=(show bW X.prog X.w H s.heap a (.dK aT) from I.hok a _ ea);obtain ⟨o,es,ep,h1,h2,_⟩:=p;exact X4 aaA I.kIn ⟨o,h1,h2.1⟩ e (fun z=>nomatch z) h
 | @dT a aT ea =>
  cases (show u=Value.ref a from rx);obtain ⟨_,_,xs,_,o,es,ep,h1,h2,_⟩:=(show bW X.prog X.w H s.heap a (.dT aT) from I.hok a _ ea);exact X4 aaA I.kIn ⟨o,h1,h2.1⟩ e (fun z=>nomatch z) h
 | @ins a C dx fs ea cl ha hn htk hm =>
  cases (show u=Value.ref a from rx);obtain ⟨mA,O,_⟩:=oT I.hok ea;obtain ⟨od,J,_⟩:=O.look;exact X4 (PySem.W.kitx_own (cl.get _) cl.hd ha hn htk hm) I.kIn J e (fun z=>nomatch z) h
end
open PySem PySem.Spec PyProof.Rows
structure d7 (k:Nat) (A:Around):Prop where
 hd:A.handled=none
 dp:A.depth+3*k+5<recursionLimit
 un:A.units+16*k+200<cLine
 gd:A.guards=some []
theorem d7.mono {j k:Nat} {A:Around} (r:d7 k A) (h:j<=k):d7 j A:=⟨r.hd,by have:=r.dp; omega,by have:=r.un; omega,r.gd⟩
theorem d7.deeper {k:Nat} {A:Around} (r:d7 (k+1) A) (env:Env):d7 k (A.deeper env) :=
 ⟨r.hd,by have:=r.dp; show A.depth+1+3*k+5<_; omega,by have:=r.un; show A.units+3+16*k+200<_; omega,r.gd⟩
theorem zU {A:Around} {C:Addr} {us:List Value} {kw:List (Str×Value)}:(A.under (.builtin "type.__call__" ⟨.ref C::us,kw⟩)).depth=A.depth+1:=by
 first | rfl | simp [Around.under,Code.weight,Code.isCreation,Code.isGuard,Code.isCaller,Code.frames,Code.isFrame,guardIds]
theorem zN {A:Around} {C:Addr} {us:List Value} {kw:List (Str×Value)}:(A.under (.builtin "type.__call__" ⟨.ref C::us,kw⟩)).units=A.units+1:=by
 first | rfl | simp [Around.under,Code.cUnits,Code.frames,Code.isFrame]
theorem d7.make {k:Nat} {A:Around} (r:d7 (k+1) A) (C:Addr) (us:List Value) (kw:List (Str×Value)):d7 k (A.under (.builtin "type.__call__" ⟨.ref C::us,kw⟩)) :=
 ⟨r.hd,by have:=r.dp; rw [zU]; omega,by have:=r.un; rw [zN]; omega,by first | exact r.gd | (simpa [Around.under,Code.guards,Code.isGuard,guardIds,pushGuards] using r.gd)⟩
theorem d7.depth {k:Nat} {A:Around} (r:d7 k A):A.depth<recursionLimit:=by have:=r.dp; omega
theorem d7.units {k:Nat} {A:Around} (r:d7 k A):A.units+64<cLine:=by have:=r.un; omega
theorem d7.units0 {k:Nat} {A:Around} (r:d7 k A):A.units<cLine:=by have:=r.un; omega
noncomputable def Jv:TA:=fun _ H Q=>Q [] H
noncomputable def Kt (ta:TE) (tr:TA):TA:=fun σ H Q=>ta σ H fun x H1=>tr σ H1 fun xs H2=>Q (x::xs) H2
section
variable {X:Cx} {e:Expr} {es:List Expr} {te:TE} {t:TA} {pos:Pos}
theorem aq:PA X [] Jv:=fun _ _ _ _ H Q I h=>Calls.spliced_nil ⟨[],H,I,.nil,h⟩
theorem ak (ha:PE X e te) (hr:PA X es t) (hs:starEach (e::es) X.env=(false,eval e X.env)::starEach es X.env:=by exact bo rfl):PA X (e::es) (Kt te t):=by
 intro pos ae s σ H Q I h;rw [hs];show wpAny _ _ (spliced ((false,eval e X.env)::backTo pos (starEach es X.env))) _ _ s;refine Calls.spliced_cons (thn (ha ae s σ H _ I h) fun u s1 ⟨x,H1,I1,r1,q1⟩=>?_);exact thn (hr pos ae s1 σ H1 _ I1 q1) fun us s2 ⟨xs,H2,I2,r2,q2⟩=>⟨x::xs,H2,I2,.cons r1 r2,q2⟩
inductive FY (Q:VK) (xs:List V) (H1:Hp):Prop
 | mk:(xs.length<=sizeLine)->(∀ p,H1 p=none->Q (.ref p) (upd H1 p (.tup xs)))->FY Q xs H1
noncomputable def Q6 (t:TA):TE:=fun σ H Q=>t σ H fun xs H1=>FY Q xs H1
inductive Hg (Q:VK) (xs:List V) (H1:Hp):Prop
 | mk:(xs.length<=sizeLine)->(∀ p,H1 p=none->Q (.ref p) (upd H1 p (.lst xs)))->Hg Q xs H1
noncomputable def Rc (t:TA):TE:=fun σ H Q=>t σ H fun xs H1=>Hg Q xs H1
theorem mq {x1} (h:PA X es t):PE X (.Tuple es x1 pos) (Q6 t):=by
 intro ae s σ H Q I hq;refine wpAny_Tuple_spliced (thn (h pos ae s σ H _ I hq) fun us s1 ⟨xs,H1,I1,r,z,q⟩=>⟨by rw [<- r.length]; exact z,?_⟩);have hf:H1 s1.heap.objs.size=none:=I1.hok.fresh (Xc _);exists .ref s1.heap.objs.size,upd H1 s1.heap.objs.size (.tup xs),I1.laid (t':=s1.toks) (fun b u e=>Heap.get?_push_of_some _ e) (Xc _) ?_,rfl,q _ hf;exists z,us,r,⟨_,Heap.get?_push_size _ rfl,rfl,_,rfl⟩,_,Heap.get?_push_size _ rfl,rfl
theorem gS (h:PA X es t):PE X (.List es pos) (Rc t):=by
 intro ae s σ H Q I hq;refine wpAny_List_spliced (thn (h pos ae s σ H _ I hq) fun us s1 ⟨xs,H1,I1,r,z,q⟩=>⟨by rw [<- r.length]; exact z,?_⟩);have hf:H1 s1.heap.objs.size=none:=I1.hok.fresh (Xc _);exists .ref s1.heap.objs.size,upd H1 s1.heap.objs.size (.lst xs),I1.laid (t':=s1.toks) (fun b u e=>Heap.get?_push_of_some _ e) (Xc _) ?_,rfl,q _ hf;exists z,us,0,r,Heap.get?_push_size _ rfl
end
abbrev Sp:=List V->Hp->VK->XK->Prop
abbrev CXT:=List Env->Hp->Shared->XK->Value->Shared->Prop
structure Bl (P:Program) (w:World) (K:Frag) (mg:Str->Option Value) (base:Heap) (A:Around) (outer:List Env) (s:Shared) (H:Hp):Prop where
 frames:A.frames=some outer
 mod:Mod K mg base
 bs:∀ b o,base.get? b=some o->s.heap.get? b=some o/\H b=none
 bsz:base.objs.size<=s.heap.objs.size
 funs:s.heap.FunFrames base outer
 frf:∀ b∈frs outer,H b=none
 hok:HOk P w H s.heap
 bare:AllBare s.gens
noncomputable def CE (outer:List Env) (P:Program) (w:World) (H:Hp) (s:Shared) (Q:VK) (u:Value) (s':Shared):Prop :=
 ∃ v H',s'.os=s.os/\AllBare s'.gens/\Un (frs outer) [] H H' s.heap s'.heap/\HOk P w H' s'.heap/\a7 v u/\Q v H'
noncomputable def CR (CX:CXT) (outer:List Env) (P:Program) (w:World) (H:Hp) (s:Shared) (Q:VK) (E:XK) (r:Result) (s':Shared):Prop :=
 match r with
 | .ok (.ret u)=>CE outer P w H s Q u s'
 | .ok _=>False
 | .error e=>CX outer H s E e s'
structure eI (P:Program) (w:World) (K:Frag) (mg:Str->Option Value) (base:Heap) (CX:CXT) (k:Nat) (f:Addr) (fd:FuncData) (ps:List Str) (sp:Sp):Prop where
 len:∀ vs H Q E,sp vs H Q E->vs.length=ps.length
 run:∀ (A:Around) (outer:List Env) (s:Shared) (H:Hp) (args:Args) (us:List Value) (vs:List V) (Q:VK) (E:XK),d7 k A->Bl P w K mg base A outer s H->BindsTo s fd args (ps.zip us)->aI vs us->sp vs H Q E ->
  codeAny (model P w) A (.call (.ref f) args) (CR CX outer P w H s Q E) s
theorem eI.imp {P:Program} {w:World} {K:Frag} {mg:Str->Option Value} {base:Heap} {CX:CXT} {k:Nat} {f:Addr} {fd:FuncData} {ps:List Str} {sp Pt:Sp} (F:eI P w K mg base CX k f fd ps sp)
  (h:∀ vs H Q E,Pt vs H Q E->sp vs H Q E):eI P w K mg base CX k f fd ps Pt :=
 ⟨fun vs H Q E q=>F.len vs H Q E (h _ _ _ _ q),fun A outer s H args us vs Q E hr he hb hv hs=>F.run A outer s H args us vs Q E hr he hb hv (h _ _ _ _ hs)⟩
theorem Bl.make {P:Program} {w:World} {K:Frag} {mg:Str->Option Value} {base:Heap} {A:Around} {outer:List Env} {s:Shared} {H:Hp} (e:Bl P w K mg base A outer s H) (C:Addr) (us:List Value) (kw:List (Str×Value)) :
  Bl P w K mg base (A.under (.builtin "type.__call__" ⟨.ref C::us,kw⟩)) outer s H:=⟨by first | exact e.frames | (simpa [Around.under,Code.envs,Code.isFrame,pushEnvs] using e.frames),e.mod,e.bs,e.bsz,e.funs,e.frf,e.hok,e.bare⟩
section
variable {X:Cx} {ae:List (Addr×Obj)} {σ:St} {H:Hp} {s s':Shared}
theorem Inv.env0 (I:Inv X ae σ H s):Bl X.prog X.w X.K X.mg X.base X.A X.stack s H :=
 ⟨I.ok.frames,I.ok.mod,I.bs,XC I.ok.bsz I.sz,I.stack,I.stkFree,I.hok,I.bare⟩
theorem Inv.after {Q:VK} {u:Value} (I:Inv X ae σ H s) (h:CE X.stack X.prog X.w H s Q u s'):EP X ae σ Q u s':=by
 obtain ⟨v,H',os,bare,un,hok,r,q⟩:=h;obtain ⟨hh,g,d,t,UU⟩:=s';obtain rfl:UU=s.os:=os;exists v,H',I.call (h':=hh) (g':=g) (d':=d) (t':=t) (ch:=[]) un hok bare (fun b z=>absurd z (by simp)),r,q
end
noncomputable def Kz (sp:Sp) (dvs:List V) (E:XK) (t:TA):TE:=fun σ H Q=>t σ H fun vs H1=>sp (vs++dvs) H1 Q E
inductive CZ (C:Addr) (m:Str) (sp:Sp) (dvs:List V) (E:XK) (t:TA) (σ:St) (Q:VK) (x:V) (H1:Hp):Prop
 | mk (a dx fs):(x=.ref a)->(H1 a=some (.ins C dx fs))->(fs.lookup m=none)->(t σ H1 fun vs H2=>sp (x::(vs++dvs)) H2 Q E)->CZ C m sp dvs E t σ Q x H1
noncomputable def KW (C:Addr) (m:Str) (sp:Sp) (dvs:List V) (E:XK) (ta:TE) (t:TA):TE:=fun σ H Q=>ta σ H fun x H1=>CZ C m sp dvs E t σ Q x H1
noncomputable def N9 (C:Addr) (sp:Sp) (dvs:List V) (E:XK) (t:TA):TE:=fun σ H Q=>t σ H fun vs H1=>∀ x dx,H1 x=none->H1 dx=none->dx≠x ->
 sp (.ref x::(vs++dvs)) (upd (upd H1 dx (.own x)) x (.ins C dx [])) (fun v H2=>v=.non/\Q (.ref x) H2) E
noncomputable def cH (K:Frag) (fd:FuncData) (ps:List Str) (ds:List Value):Prop :=
 ∀ (s:Shared) (us:List Value),K.In s.heap->(us++ds).length=ps.length->BindsTo s fd ⟨us,[]⟩ (ps.zip (us++ds))
theorem cH.all {K:Frag} {fd:FuncData} {ps:List Str} (h:∀ us:List Value,us.length=ps.length->bindArgs fd ⟨us,[]⟩=pure (ps.zip us)):cH K fd ps []:=fun s us _ hl=>by
 rw [XB] at hl ⊢;exact .of_eq (h us hl)
noncomputable def jJ (CX:CXT) (X:Cx) (E:XK):Prop:=∀ (ae:List (Addr×Obj)) (σ:St) (H:Hp) (s:Shared) (e:Value) (s':Shared),Inv X ae σ H s->CX X.stack H s E e s'->X.xe e s'
section
variable {X:Cx} {CX:CXT} {k:Nat} {f C:Addr} {fd:FuncData} {ps:List Str} {sp:Sp} {dvs:List V} {ds:List Value} {E:XK} {x m:Str} {p pos apos:Pos} {e o:Expr} {es:List Expr} {ta:TE} {t:TA}
theorem rE {ae:List (Addr×Obj)} {σ:St} {H:Hp} {s:Shared} {Q:VK} {us:List Value} {vs:List V} (F:eI X.prog X.w X.K X.mg X.base CX k f fd ps sp) (hr:d7 k X.A) (hb:cH X.K fd ps ds) (hd:aI dvs ds) (hx:jJ CX X E)
  (I:Inv X ae σ H s) (r:aI vs us) (h:sp (vs++dvs) H Q E):wpAny (model X.prog X.w) X.A (call (.ref f) us) (EP X ae σ Q) X.xe s:=by
 have r2:aI (vs++dvs) (us++ds):=r.append hd;have hl:(us++ds).length=ps.length:=by rw [<- r2.length]; exact F.len _ _ _ _ h
 refine wpAny_call (codeAny_mono (F.run X.A X.stack s H ⟨us,[]⟩ (us++ds) (vs++dvs) Q E hr I.env0 (hb s us I.kIn hl) r2 h) fun r s' hq=>?_);cases r with
 | error e=>exact hx ae σ H s e s' I hq
 | ok fl =>
  cases fl with
  | ret u=>exact I.after hq
  | next=>exact False.elim hq
  | brk=>exact False.elim hq
  | cont=>exact False.elim hq
theorem eQ (F:eI X.prog X.w X.K X.mg X.base CX k f fd ps sp) (hr:d7 k X.A) (hg:Gl X x) (hm:X.mg x=some (.ref f)) (hk:keepIn X.K (.ref f)=true) (hb:cH X.K fd ps ds) (hd:aI dvs ds) (hx:jJ CX X E)
  (ha:PA X (e::es) t) (hdb:(x==("__debug__":Str))=false:=by decide) (he:starEach (e::es) X.env=(false,eval e X.env)::starEach es X.env:=by exact bo rfl) (hpl:(backTo pos (starEach es X.env)).any (·.1)=false:=by exact cG rfl) :
  PE X (.Call (.Name x p) (e::es) [] pos) (Kz sp dvs E t):=by
 intro ae s σ H Q I h;refine wpAny_Call_Name_kw (vB I hg hm ?_ hdb);refine aas (h₀:=X.base) I.ok.mod.kin hk (thn (ha pos ae s σ H _ I h) fun us s1 ⟨vs,H1,I1,r,q⟩=>⟨I1.kIn,?_⟩) he hpl;exact rE F hr hb hd hx I1 r q
theorem iH {pl:Sem Bool} (he:PE X o ta) (c:Cls X.K C) (hm:DK X.K C m f) (F:eI X.prog X.w X.K X.mg X.base CX k f fd ps sp) (hr:d7 k X.A) (hb:cH X.K fd ps ds) (hd:aI dvs ds) (hx:jJ CX X E) (ha:PA X (e::es) t)
  (hst:starEach (e::es) X.env=(false,eval e X.env)::starEach es X.env:=by exact bo rfl) (hpl:(backTo pos (starEach es X.env)).any (·.1)=false:=by exact cG rfl)
  (ht:eval (.Call (.Attribute o m apos) (e::es) [] pos) X.env=(do
   let ov <- eval o X.env
   standAt apos.atName
   let (f,first) <- holding [ov] (getMethod ov m pl)
   callWith pos f first (backTo pos (starEach (e::es) X.env)) (backToKw pos (keywordEach [] X.env))):=by rfl) :
  PE X (.Call (.Attribute o m apos) (e::es) [] pos) (KW C m sp dvs E ta t):=by
 intro ae s σ H Q I h;refine aad (pl:=pl) (thn (he ae s σ H _ I h) fun u s1 ⟨x,H1,I1,rx,a,dx,fs,ex,ea,l,q⟩=>?_) ht;subst ex;obtain rfl:u=Value.ref a:=rx;refine qA I1 ea c hm l ?_;refine aas (first:=[.ref a]) (h₀:=X.base) I.ok.mod.kin hm.kp (thn (ha pos ae s1 σ H1 _ I1 q) fun us s2 ⟨vs,H2,I2,r,q2⟩=>⟨I2.kIn,?_⟩) hst hpl;exact rE (us:=.ref a::us) (vs:=.ref a::vs) F hr hb hd hx I2 (.cons rfl r) q2
theorem EG {pl:Sem Bool} (he:PE X o ta) (c:Cls X.K C) (hm:DK X.K C m f) (F:eI X.prog X.w X.K X.mg X.base CX k f fd ps sp) (hr:d7 k X.A) (hb:cH X.K fd ps ds) (hd:aI dvs ds) (hx:jJ CX X E)
  (ht:eval (.Call (.Attribute o m apos) [] [] pos) X.env=(do
   let ov <- eval o X.env
   standAt apos.atName
   let (f,first) <- holding [ov] (getMethod ov m pl)
   callWith pos f first (backTo pos (starEach [] X.env)) (backToKw pos (keywordEach [] X.env))):=by rfl) :
  PE X (.Call (.Attribute o m apos) [] [] pos) (KW C m sp dvs E ta Jv):=by
 intro ae s σ H Q I h;refine aad (pl:=pl) (thn (he ae s σ H _ I h) fun u s1 ⟨x,H1,I1,rx,a,dx,fs,ex,ea,l,q⟩=>?_) ht;subst ex;obtain rfl:u=Value.ref a:=rx;refine qA I1 ea c hm l ?_;exact aao (first:=[.ref a]) I1.kIn hm.kp (rE (us:=[.ref a]) (vs:=[.ref a]) F hr hb hd hx I1 (.cons rfl .nil) q)
structure Mk (K:Frag) (C f:Addr):Prop where
 makes:Zs K C=true
 init:findIn K (.ref C) "__init__"=some (some (.ref f))
 fn:Zo K (.ref f)=true
 kp:keepIn K (.ref C)=true
theorem Hr {ae:List (Addr×Obj)} {σ:St} {H:Hp} {s:Shared} {Q:VK} {us:List Value} {vs:List V} (M:Mk X.K C f) (F:eI X.prog X.w X.K X.mg X.base CX k f fd ps sp) (hr:d7 (k+1) X.A) (hb:cH X.K fd ps ds) (hd:aI dvs ds)
  (hx:jJ CX X E) (I:Inv X ae σ H s) (r:aI vs us)
  (h:∀ x dx,H x=none->H dx=none->dx≠x->sp (.ref x::(vs++dvs)) (upd (upd H dx (.own x)) x (.ins C dx [])) (fun v H2=>v=.non/\Q (.ref x) H2) E) :
  wpAny (model X.prog X.w) X.A (call (.ref C) us) (EP X ae σ Q) X.xe s:=by
 have hq:=h (s.heap.objs.size+1) s.heap.objs.size (I.hok.fresh (Nat.le_succ _)) (I.hok.fresh (Xc _)) (XR (YB _));have I2:=Inv.made (C:=C) I;have r2:aI (V.ref (s.heap.objs.size+1)::(vs++dvs)) (Value.ref (s.heap.objs.size+1)::(us++ds)):=.cons rfl (r.append hd);have hl:(Value.ref (s.heap.objs.size+1)::us++ds).length=ps.length:=by
  have e:=r2.length;rw [F.len _ _ _ _ hq] at e;exact e.symm
 refine wpAny_call (FD (f:=f) I.kIn M.makes M.init (beq_iff_eq.mp M.fn) (codeAny_mono (F.run _ X.stack _ _ ⟨Value.ref (s.heap.objs.size+1)::us,[]⟩ (Value.ref (s.heap.objs.size+1)::(us++ds)) _ _ E (hr.make C us [])
  (I2.env0.make C us []) (hb _ (Value.ref (s.heap.objs.size+1)::us) I2.kIn hl) r2 hq) fun r s' PD=>?_))
 cases r with
 | error e=>exact hx ae σ _ _ e s' I2 PD
 | ok fl =>
  cases fl with
  | ret u =>
   obtain ⟨v,H',I3,rv,ev,q3⟩:=I2.after PD;subst ev;exists rv,⟨V.ref (s.heap.objs.size+1),H',I3,rfl,q3⟩
  | next=>exact False.elim PD
  | brk=>exact False.elim PD
  | cont=>exact False.elim PD
theorem Gy (M:Mk X.K C f) (F:eI X.prog X.w X.K X.mg X.base CX k f fd ps sp) (hr:d7 (k+1) X.A) (hg:Gl X x) (hm:X.mg x=some (.ref C)) (hb:cH X.K fd ps ds) (hd:aI dvs ds) (hx:jJ CX X E)
  (hdb:(x==("__debug__":Str))=false:=by decide):PE X (.Call (.Name x p) [] [] pos) (N9 C sp dvs E Jv):=by
 intro ae s σ H Q I h;refine wpAny_Call_Name_kw (vB I hg hm ?_ hdb);exact aao I.kIn M.kp (Hr (us:=[]) M F hr hb hd hx I .nil h)
end
section
variable {X:Cx} {CX:CXT} {k:Nat} {f C:Addr} {fd:FuncData} {ps ks:List Str} {sp:Sp} {E:XK} {x m:Str} {p pos apos kpos:Pos} {e o:Expr} {es:List Expr} {kws:List Keyword} {te ta:TE} {t tk:TA} {nm:Option Str}
structure Q0 (K:Frag) (fd:FuncData) (ps ks:List Str) (g:List Value->List Value->List Value) (gV:List V->List V->List V):Prop where
 to:∀ (s:Shared) (us ws:List Value),K.In s.heap->(g us ws).length=ps.length->BindsTo s fd ⟨us,ks.zip ws⟩ (ps.zip (g us ws))
 rel:∀ {vs:List V} {us:List Value} {zs:List V} {ws:List Value},aI vs us->aI zs ws->aI (gV vs zs) (g us ws)
variable {g:List Value->List Value->List Value} {gV:List V->List V->List V}
end
structure aA (N P:List Str) (sc:Scope):Prop where
 kind:sc.kind=.function
 co:sc.isCoroutine=false
 gen:sc.isGenerator=false
 nd:N.Nodup
 pre:N.take P.length=P
 par:∀ x∈P,sc.names.lookup x=some .local\/sc.names.lookup x=some .cell
 nofree:∀ y∈sc.names,y.2≠.free
theorem ur {kindOf:Str->Option NameKind} {x:Str}:∀ {binds:List (Str×Value)} {m:Str->Option Value},(∀ v,(x,v)∉binds)->bindL kindOf binds m x=m x
 | [],_,_=>rfl
 | (n,v)::r,m,h=>by
  unfold bindL;rw [ur fun w hw=>h w (Xg _ hw)]
  split
  ·have:x≠n:=by rintro rfl; exact h v Xl
   simp [this]
  ·rfl
theorem uC {kindOf:Str->Option NameKind} {x:Str}:∀ {binds:List (Str×Value)} {m:Str->Option Value},(∀ v,(x,v)∉binds)->bindC kindOf binds m x=m x
 | [],_,_=>rfl
 | (n,v)::r,m,h=>by
  unfold bindC;rw [uC fun w hw=>h w (Xg _ hw)]
  split
  ·rfl
  ·have:x≠n:=by rintro rfl; exact h v Xl
   simp [this]
theorem tY {kindOf:Str->Option NameKind} {x:Str} {v:Value}:∀ {P:List Str} {vs:List Value} {i:Nat} {m:Str->Option Value},P.Nodup->P[i]?=some x->vs[i]?=some v->kindOf x=some .local ->
  bindL kindOf (P.zip vs) m x=some v
 | [],_,_,_,_,h,_,_=>by simp at h
 | _::_,[],_,_,_,_,h,_=>by simp at h
 | p::P,w::vs,0,m,nd,h1,h2,hk=>by
  simp at h1 h2; subst h1; subst h2;show bindL kindOf ((p,w)::P.zip vs) m p=_;unfold bindL;rw [ur fun v hv=>(XH.mp nd).1 (Yv hv).1,if_pos hk];simp
 | p::P,w::vs,i+1,m,nd,h1,h2,hk=>by
  show bindL kindOf ((p,w)::P.zip vs) m x=_;unfold bindL;exact tY (i:=i) (XH.mp nd).2 (by simpa using h1) (by simpa using h2) hk
theorem tm {kindOf:Str->Option NameKind} {x:Str} {v:Value}:∀ {P:List Str} {vs:List Value} {i:Nat} {m:Str->Option Value},P.Nodup->P[i]?=some x->vs[i]?=some v->kindOf x≠some .local ->
  bindC kindOf (P.zip vs) m x=some v
 | [],_,_,_,_,h,_,_=>by simp at h
 | _::_,[],_,_,_,_,h,_=>by simp at h
 | p::P,w::vs,0,m,nd,h1,h2,hk=>by
  simp at h1 h2; subst h1; subst h2;show bindC kindOf ((p,w)::P.zip vs) m p=_;unfold bindC;rw [uC fun v hv=>(XH.mp nd).1 (Yv hv).1,if_neg hk];simp
 | p::P,w::vs,i+1,m,nd,h1,h2,hk=>by
  show bindC kindOf ((p,w)::P.zip vs) m x=_;unfold bindC;exact tm (i:=i) (XH.mp nd).2 (by simpa using h1) (by simpa using h2) hk
noncomputable def nX (N:List Str) (vs:List V):St:=vs.map some++XG (N.length - vs.length) none
noncomputable def Dp (CX:CXT) (P:Program) (w:World) (K:Frag) (mg:Str->Option Value) (base:Heap) (N:List Str) (qual:Str) (scope:Scope) (f:Addr) (cd:Value) (A:Around) (outer:List Env) (s:Shared) (H:Hp) (E:XK):Cx where
 prog:=P
 w:=w
 K:=K
 mg:=mg
 base:=base
 A:=A.deeper (envOfC qual scope s.heap.objs.size f cd)
 N:=N
 s₀:=s
 H₀:=H
 env:=envOfC qual scope s.heap.objs.size f cd
 outer:=outer
 stack:=envOfC qual scope s.heap.objs.size f cd::outer
 ex:=[]
 calm:=true
 fn:=fun _=>true
 pn:=[]
 xe:=fun e s'=>wpAny (model P w) (A.deeper (envOfC qual scope s.heap.objs.size f cd)) (leaving (envOfC qual scope s.heap.objs.size f cd) e) (fun _ PB=>CX outer H s E e PB) (fun e' PB=>CX outer H s E e' PB) s'
theorem xN {sc:Scope} {n:Nat} {x:Str} (h:sc.names.lookup x=some .cell):∃ c,(cellsFrom n sc.names []).lookup x=some c:=by
 have q:=Zx sc.names n [] (.inl h);exact Option.isSome_iff_exists.mp q
theorem DW {CX:CXT} {P:Program} {w:World} {K:Frag} {mg:Str->Option Value} {base:Heap} {N ps:List Str} {qual:Str} {scope:Scope} {f:Addr} {cd:Value} {A:Around} {outer:List Env} {s s1:Shared} {H:Hp} {E:XK} {us:List Value} {vs:List V}
  (S:aA N ps scope) (hd:A.handled=none) (e0:Bl P w K mg base A outer s H) (hl:vs.length=ps.length) (r:aI vs us)
  (x:InCallC s s.heap.objs.size (bindL (envOfC qual scope s.heap.objs.size f cd).kindOf (ps.zip us) fun _=>none) (cellsFrom (s.heap.objs.size+1) scope.names []) (bindC (envOfC qual scope s.heap.objs.size f cd).kindOf (ps.zip us) fun _=>none) s1) :
  Inv (Dp CX P w K mg base N qual scope f cd A outer s H E) [] (nX N vs) H s1:=by
 have hpl:ps.length<=N.length:=by have:=congrArg List.length S.pre; rw [XO] at this; omega
 obtain ⟨h1,tk,rfl,hk⟩:=x.done;have noA:∀ b:Addr,b∉(Dp CX P w K mg base N qual scope f cd A outer s H E).ex:=fun b z=>absurd (show b∈([]:List Addr) from z) (by simp)
 refine ⟨⟨e0.mod,S.kind,rfl,rfl,Xc _,fun y z c h1 h2=>?_,fun y hy=>?_,fun y c _ h=>?_,fun _=>hd,Around.frames_deeper e0.frames,.inr ⟨rfl,rfl⟩,fun b z=>absurd z (noA b),e0.bs,e0.bsz,fun b _ _=>noA b,fun b z=>absurd z (noA b),e0.funs,e0.frf⟩,
  rfl,e0.bare,Un.kept hk,⟨_,x.toInCall.ns,fun i y v h1 h2 h3=>?_⟩,fun y c h=>⟨_,x.cell y c h⟩,e0.hok.fresh (Xc _),fun y c h=>?_,fun p hp=>absurd (show p∈([]:List (Addr×Obj)) from hp) (by simp),e0.hok.kept hk,?_⟩
 ·exact name_of_addr x.apart (PySem.mem_of_lookup h1) (PySem.mem_of_lookup h2)
 ·have hy:scope.names.lookup y=some .cell\/scope.names.lookup y=some .free:=hy;rcases hy with hy | hy
  ·exact xN hy
  ·exact absurd rfl (S.nofree _ (PySem.mem_of_lookup hy))
 ·exact XI (x.above y c (PySem.mem_of_lookup h))
 ·have hi:i<vs.length:=by
   unfold nX at h2
   by_cases hi:i<vs.length
   ·exact hi
   ·rw [Ze (by simpa using hi)] at h2;rw [List.getElem?_replicate] at h2
    split at h2<;>cases h2
  have ha:vs[i]?=some v:=by
   unfold nX at h2;rw [Yk (by simpa using hi),XE] at h2;cases e:vs[i]? with
   | none=>rw [e] at h2; cases h2
   | some a=>rw [e] at h2; cases h2; rfl
  obtain ⟨u,hu,rv⟩:=r.get ha;have hp:ps[i]?=some y:=by
   rw [<- S.pre,List.getElem?_take_of_lt (by omega)]; exact h1
  have ndP:ps.Nodup:=by rw [<- S.pre]; exact S.nd.sublist (Zh _ _)
  exists u,rv,?_;rcases S.par y (Xh hp) with k | k
  ·exact .inl ⟨k,tY ndP hp hu k⟩
  ·obtain ⟨c,e⟩:=xN (n:=s.heap.objs.size+1) k;refine .inr ⟨.inl k,c,e,?_⟩;have q:=x.cell y c e;rw [tm ndP hp hu (by show scope.names.lookup y≠_; rw [k]; decide)] at q;exact q
 ·exact e0.hok.fresh (XI (x.above y c (PySem.mem_of_lookup h)))
 ·unfold nX;show _=N.length;rw [W7,W8,YO];omega
theorem On {CX:CXT} {P:Program} {w:World} {K:Frag} {mg:Str->Option Value} {base:Heap} {k:Nat} {f:Addr} {name qual:Str} {params:Arguments} {body:List Stmt} {scope:Scope} {dV kV doc pm gm ct oc:Value} {an od:Option Addr}
  {osl:Array (Option Value)} {N ps:List Str} {sp:Sp} (lk:K.lookup f=some ⟨oc,od,.func (PySem.W.fnOf name qual params body scope dV kV doc pm an gm ct),osl⟩) (hcd:PySem.W.codeIn K gm qual=true) (S:aA N ps scope)
  (len:∀ vs H Q E,sp vs H Q E->vs.length=ps.length)
  (hbody:∀ (A:Around) (outer:List Env) (s:Shared) (H:Hp) (vs:List V) (Q:VK) (E:XK),d7 k (A.deeper (envOfC qual scope s.heap.objs.size f gm))->sp vs H Q E ->
   ∃ t,PSs (Dp CX P w K mg base N qual scope f gm A outer s H E) body t/\t { nx:=fun _ H'=>Q .non H',rt:=Q } (nX N vs) H) :
  eI P w K mg base CX (k+1) f (PySem.W.fnOf name qual params body scope dV kV doc pm an gm ct) ps sp:=by
 exists len,fun A outer s H args us vs Q E hr e0 hb r hsp=>?_
 have hl:=len _ _ _ _ hsp;have KX:K.In s.heap:=e0.mod.kin.keeps fun b o e=>(e0.bs b o e).1
 have lim:s.heap.NoLimit:=e0.mod.nolimit.keeps fun b o e=>(e0.bs b o e).1
 have hkind:∀ y∈ps.zip us,scope.names.lookup y.1=some .local\/(scope.names.lookup y.1=some .cell/\((cellsFrom (s.heap.objs.size+1) scope.names []).lookup y.1).isSome=true):=fun ⟨n,v⟩ hy=>by
  rcases S.par n (Yv hy).1 with q | q
  ·exact .inl q
  ·exact .inr ⟨q,Zx _ _ _ (.inl q)⟩
 refine codeAny_call_function hr.depth (KX _ _ lk) rfl S.co S.gen rfl (PySem.W.codeRec_of KX hcd) (hb _ _ _ _ ?_);refine wpAny_newFunctionEnv_cells S.kind hkind fun env he s1 x=>?_
 subst he;exists lim.keeps x.toInCall.keep,codeAny_func ?_;obtain ⟨t,ht,hq⟩:=hbody A outer s H vs Q E (hr.deeper _) hsp;have I:Inv (Dp CX P w K mg base N qual scope f gm A outer s H E) [] (nX N vs) H s1:=DW S hr.hd e0 hl r x;refine wpAny_mono (ht [] s1 (nX N vs) H _ I hq) (fun fl s' hs=>?_) fun e s' hs=>hs
 have fin:∀ {σ':St} {H':Hp} {v:V} {u:Value},Inv (Dp CX P w K mg base N qual scope f gm A outer s H E) [] σ' H' s'->a7 v u->Q v H'->CE outer P w H s Q u s' :=
  fun {σ' H' v u} J rv q=>⟨v,H',J.os,J.bare,J.base,J.hok,rv,q⟩
 cases fl with
 | ret u =>
  obtain ⟨v,σ',H',J,rv,q⟩:=hs;exact fin J rv q
 | next =>
  obtain ⟨σ',H',J,q⟩:=hs;exact fin (v:=V.non) (u:=Value.none) J rfl q
 | brk =>
  obtain ⟨_,_,_,q⟩:=hs;exact False.elim q
 | cont =>
  obtain ⟨_,_,_,q⟩:=hs;exact False.elim q
open PySem PySem.Spec PyProof.Rows
section
variable {X:Cx} {x:Str} {p pos:Pos} {e:Expr} {es:List Expr} {t:TA} {id T:String} {r:List V->Hp->VK->Prop}
noncomputable def tCB (r:List V->Hp->VK->Prop) (t:TA):TE:=fun σ H Q=>t σ H fun vs H1=>r vs H1 Q
theorem cP (hc:d8 X (.builtin id) r) (hg:Gl X x) (hm:X.mg x=none) (hv:bootBuiltins x=some (.builtin id)) (ha:PA X (e::es) t) (hn:x ≠ "__name__":=by decide) (hdb:(x==("__debug__":Str))=false:=by decide)
  (he:starEach (e::es) X.env=(false,eval e X.env)::starEach es X.env:=by exact bo rfl) (hpl:(backTo pos (starEach es X.env)).any (·.1)=false:=by exact cG rfl):PE X (.Call (.Name x p) (e::es) [] pos) (tCB r t):=by
 intro ae s σ H Q I h;refine wpAny_Call_Name_kw (gQ I hg hm hv ?_ hn hdb);exact PyProof.Rows.callWith_builtin1 (thn (ha pos ae s σ H _ I h) fun us s1 ⟨vs,H1,I1,r1,q1⟩=>hc ae s1 σ H1 vs us Q I1 r1 q1) he hpl
theorem fN (hc:d8 X (.type T) r) (hg:Gl X x) (hm:X.mg x=none) (hv:bootBuiltins x=some (.type T)) (ha:PA X (e::es) t) (hn:x ≠ "__name__":=by decide) (hdb:(x==("__debug__":Str))=false:=by decide)
  (he:starEach (e::es) X.env=(false,eval e X.env)::starEach es X.env:=by exact bo rfl) (hpl:(backTo pos (starEach es X.env)).any (·.1)=false:=by exact cG rfl):PE X (.Call (.Name x p) (e::es) [] pos) (tCB r t):=by
 intro ae s σ H Q I h;refine wpAny_Call_Name_kw (gQ I hg hm hv ?_ hn hdb);exact XU (thn (ha pos ae s σ H _ I h) fun us s1 ⟨vs,H1,I1,r1,q1⟩=>hc ae s1 σ H1 vs us Q I1 r1 q1) he hpl
end
end L2
namespace HT
open PySem PyProof.Rows
section
open PySem.SeqAt
open PySem.AutoSeq1 (wpAny_loadPart')
open PySem.MeetsSeq PySem.MeetsSeq2 PySem.MeetsSeq3
end
section
variable {prog:Program} {w:World} {A:Around} {E:Value->Shared->Prop} {s:Shared}
theorem cat_tup {t b:Addr} {vs ws:List Value} {Q:Value->Shared->Prop} (ht:IsTup s.heap t vs.toArray) (hb:IsTup s.heap b ws.toArray) (hv:vs≠[])
  (h1:ws=[]->Q (.ref t) s) (h2:ws≠[]->Q (.ref s.heap.objs.size) { s with heap:=s.heap.push { cls:=.type "tuple",data:=.seq (vs++ws).toArray } })
  (hsz:vs.length+ws.length<=sizeLine):wpAny (model prog w) A (binaryOp .Add (.ref t) (.ref b)) Q E s:=by
 obtain ⟨⟨cls,dd,data,sl⟩,ho,hc,n,hd⟩:=id ht;obtain ⟨⟨Pz,rL,KY,Nz⟩,Ew,IR,n2,Iy⟩:=id hb;simp only at hc hd IR Iy;subst hc hd IR Iy;have e:vs.toArray++ws.toArray=(vs++ws).toArray:=by simp
 by_cases hw:ws=[]
 ·exact concat_meets ⟨_,ho,rfl⟩ ⟨_,Ew,rfl⟩ noFill_tuple_add seq_tuple_add YL YI (YG _ _)
   (tuple_addW1 t b vs.toArray ws.toArray n n2 dd rL sl Nz (by simpa using hv) (by simp [hw])) ⟨ho,Ew,h1 hw⟩
 ·refine concat_meets ⟨_,ho,rfl⟩ ⟨_,Ew,rfl⟩ noFill_tuple_add seq_tuple_add YL YI (YG _ _)
   (tuple_addW2 t b vs.toArray ws.toArray n n2 dd rL sl Nz (by simpa using hv) (by simpa using hw) (by rw [Xk,Xk]; exact hsz)) ⟨ho,Ew,?_⟩
  rw [e];exact h2 hw
noncomputable def sIx (n d:Nat):Option Int->Nat
 | none=>d
 | some v=>if v<0 then (v+(n:Int)).toNat else min v.toNat n
theorem sIx_none (n d:Nat):sIx n d none=d:=rfl
theorem sIx_nat (n d k:Nat):sIx n d (some (k:Int))=min k n:=by
 show (if (k:Int)<0 then ((k:Int)+(n:Int)).toNat else min (k:Int).toNat n)=min k n;rw [if_neg (by omega),Yn]
theorem LD (n d:Nat) (hd:d<=n) (o:Option Int):sIx n d o<=n:=by
 cases o with
 | none=>exact hd
 | some v =>
  show (if v<0 then (v+(n:Int)).toNat else min v.toNat n)<=n
  by_cases hv:v<0
  ·rw [if_pos hv]; omega
  ·rw [if_neg hv]; exact Nat.min_le_right _ _
theorem Co (v:Int) (n d:Nat):(if v<0 then max (v+(n:Int)) 0 else min v (n:Int))=((sIx n d (some v):Nat):Int):=by
 show (if v<0 then max (v+(n:Int)) 0 else min v (n:Int))=(((if v<0 then (v+(n:Int)).toNat else min v.toNat n):Nat):Int)
 by_cases hv:v<0
 ·simp only [if_pos hv]; omega
 ·simp only [if_neg hv]; omega
theorem zS (lo hi:Option Int) (n:Nat):Builtin.Slice.sliceAdjust lo hi 1 (n:Int)=(((sIx n 0 lo:Nat):Int),((sIx n n hi:Nat):Int)):=by
 have h1:¬ ((1:Int)<0):=by omega
 unfold Builtin.Slice.sliceAdjust;simp only [h1,if_false];refine Prod.ext ?_ ?_
 ·cases lo with
  | none=>rfl
  | some v=>exact Co v n 0
 ·cases hi with
  | none=>rfl
  | some v=>exact Co v n n
theorem An (i j:Nat):Builtin.Slice.slicePlaces (i:Int) (j:Int) 1=j - i:=by
 unfold Builtin.Slice.slicePlaces;have h1:(1:Int) > 0:=by omega
 simp only [h1,if_true,Int.ediv_one]
 split<;>omega
theorem qe {v:Value} {o:Option Int} {Q:Option Int->Shared->Prop} (p:IsPart v o) (h:Q o s):wpAny (model prog w) A (Builtin.Slice.slicePartIndex v) Q E s:=by
 cases p with
 | none=>exact slicePart_none h
 | int i t=>exact slicePart_int h
theorem gU {sl:Addr} {vl vu:Value} {lo hi:Option Int} {n:Nat} {Q:Int×Int×Nat->Shared->Prop} (hs:s.heap.IsSliceOf sl vl vu .none) (pl:IsPart vl lo) (pu:IsPart vu hi)
  (h:Q (((sIx n 0 lo:Nat):Int),1,sIx n n hi - sIx n 0 lo) s):wpAny (model prog w) A (Builtin.Slice.sliceApplied (.ref sl) (pure (n:Int))) Q E s:=by
 obtain ⟨os,hos,hcs,hds⟩:=id hs;unfold Builtin.Slice.sliceApplied Builtin.Slice.sliceFields;refine wpAny_bind (wpAny_bind (wpAny_field hos hds (x:=vl) rfl (wpAny_bind (wpAny_field hos hds (x:=vu) rfl (wpAny_bind (wpAny_field hos hds (x:=.none) rfl (wpAny_pure ?_)))))));refine wpAny_bind (slicePart_none ?_);show wpAny _ _ (if ((1:Int)==0)=true then _ else _) _ _ s;rw [if_neg (by decide)];refine wpAny_bind (qe pl (wpAny_bind (qe pu (wpAny_bind (wpAny_pure ?_)))));show wpAny _ _ (match Builtin.Slice.sliceAdjust lo hi 1 (n:Int) with | (lo,hi)=>pure (lo,(1:Int),Builtin.Slice.slicePlaces lo hi 1)) _ _ s;rw [zS lo hi n];show wpAny _ _ (pure (((sIx n 0 lo:Nat):Int),(1:Int),Builtin.Slice.slicePlaces ((sIx n 0 lo:Nat):Int) ((sIx n n hi:Nat):Int) 1)) _ _ s;rw [An];exact wpAny_pure h
theorem Fe (xs:Array Value) (i k:Nat):((Yh k).filterMap fun (m:Nat)=>xs[((i:Int)+(m:Int)*1).toNat]?).toArray=((xs.toList.drop i).take k).toArray:=by
 have e:(fun (m:Nat)=>xs[((i:Int)+(m:Int)*1).toNat]?)=fun m=>xs[i+m]?:=by
  funext m
  have:((i:Int)+(m:Int)*1).toNat=i+m:=by omega
  rw [this]
 rw [e]
 have:=pick_run xs i k
 rw [List.filterMap_map] at this;have e2:((fun x=>xs[x]?) ∘ fun x=>i+x)=fun m=>xs[i+m]?:=rfl
 rw [e2] at this;rw [this]
theorem getItem_tuple_cut {t sl:Addr} {items:Array Value} {vl vu:Value} {lo hi:Option Int} {Q:Value->Shared->Prop} (ht:IsTup s.heap t items) (hs:s.heap.IsSliceOf sl vl vu .none) (pl:IsPart vl lo) (pu:IsPart vu hi)
  (hw:¬ (sIx items.size 0 lo=0/\sIx items.size items.size hi=items.size))
  (h:Q (.ref s.heap.objs.size) { s with heap:=s.heap.push { cls:=.type "tuple",data:=.seq ((items.toList.drop (sIx items.size 0 lo)).take (sIx items.size items.size hi - sIx items.size 0 lo)).toArray } })
  (hsz:items.size<=sizeLine):wpAny (model prog w) A (getItem (.ref t) (.ref sl)) Q E s:=by
 have htake:sizeOk (.seq ((items.toList.drop (sIx items.size 0 lo)).take (sIx items.size items.size hi - sIx items.size 0 lo)).toArray):=by
  show ((items.toList.drop (sIx items.size 0 lo)).take (sIx items.size items.size hi - sIx items.size 0 lo)).toArray.size<=sizeLine;rw [Xk,XO,Yp,XS];omega
 have hj:sIx items.size items.size hi<=items.size:=LD _ _ (Xc _) hi;obtain ⟨os,hos,hcs,hds⟩:=id hs;have hTs:s.TypeIs (.ref sl) "slice":=⟨os,hos,hcs⟩;unfold getItem
 try with_reducible refine wpAny_holding ?_
 first | refine wpAny_bind (wpAny_pure ?_) | skip
 refine wpAny_bind (wpAny_sequenceKey ht.typeIs (by decide) ?_);refine wpAny_bind (wpAny_callSpecial?_slot (name:=Xx "__getitem__") ht.typeIs Yl
  (wpAny_call_entry Yl ht.typeIs entry_tuple_getitem ?_ (args_tuple_getitem _ _)))
 show wpAny _ _ (Builtin.Tuple.tupleItemsOf (.ref t) >>= _) _ _ s;refine wpAny_bind (tupleItemsOf_ ht ?_);refine wpAny_bind (wpAny_typeOf hTs ?_);rw [if_pos (by decide)];refine wpAny_bind (gU hs pl pu ?_);have hno:¬ ((((sIx items.size 0 lo:Nat):Int)==0&&(1:Int)==1&&(sIx items.size items.size hi - sIx items.size 0 lo)==items.size)=true):=by
  intro q;rw [XT,XT] at q;have q1:((sIx items.size 0 lo:Nat):Int)=0:=eq_of_beq q.1.1;have q2:sIx items.size items.size hi - sIx items.size 0 lo=items.size:=eq_of_beq q.2;exact hw ⟨by omega,by omega⟩
 show wpAny _ _ (if (((sIx items.size 0 lo:Nat):Int)==0&&(1:Int)==1&&(sIx items.size items.size hi - sIx items.size 0 lo)==items.size)=true then _ else _) _ _ s;rw [if_neg hno,Fe]
 first
  | exact wpAny_bind (m:=Builtin.Tuple.tupleExact _) (wpAny_newObj_type (wpAny_pure ⟨_,rfl,wpAny_pure h⟩) htake)
  | exact wpAny_bind (m:=Builtin.Tuple.tupleExact _) (wpAny_newObj_type (wpAny_bind (wpAny_pure (wpAny_pure ⟨_,rfl,wpAny_pure h⟩))) htake)
  | exact wpAny_bind (wpAny_bind (m:=Builtin.Tuple.tupleExact _) (wpAny_newObj_type (wpAny_pure (wpAny_pure ⟨_,rfl,wpAny_pure h⟩)) htake))
  | exact wpAny_bind (wpAny_bind (m:=Builtin.Tuple.tupleExact _) (wpAny_newObj_type (wpAny_pure ⟨_,rfl,wpAny_pure h⟩) htake))
end
end HT
namespace L2
open PySem PySem.Spec PyProof.Rows
abbrev TO:=St->Hp->(Option Int->Hp->Prop)->Prop
noncomputable def PO (X:Cx) (e:Option Expr) (t:TO):Prop :=
 ∀ (ae:List (Addr×Obj)) (s:Shared) (σ:St) (H:Hp) (Q:Option Int->Hp->Prop),Inv X ae σ H s->t σ H Q ->
  wpAny (model X.prog X.w) X.A (evalPart e X.env) (fun u s'=>∃ o H',Inv X ae σ H' s'/\IsPart u o/\Q o H') X.xe s
noncomputable def Ji:TO:=fun _ H Q=>Q none H
inductive Cm (Q:Option Int->Hp->Prop) (x:V) (H1:Hp):Prop
 | mk (i):(x=.int i)->(Q (some i) H1)->Cm Q x H1
noncomputable def OC (t:TE):TO:=fun σ H Q=>t σ H fun x H1=>Cm Q x H1
section
variable {X:Cx} {e:Expr} {te:TE} {lo hi:Option Expr} {tl th:TO} {pos p2:Pos}
theorem cb:PO X none Ji:=by
 intro ae s σ H Q I h;rw [evalPart_none];exact wpAny_pure ⟨none,H,I,.none,h⟩
theorem bJ (h:PE X e te):PO X (some e) (OC te):=by
 intro ae s σ H Q I hw;rw [evalPart_some];refine thn (h ae s σ H _ I hw) fun u s1 ⟨x,H1,I1,r1,q1⟩=>?_
 obtain ⟨i,rfl,q⟩:=q1;obtain ⟨t,rfl⟩:=r1;exists some i,H1,I1,.int i t,q
noncomputable def SlR (X:Cx) (r:V->Option Int->Option Int->Hp->VK->Prop):Prop :=
 ∀ (ae:List (Addr×Obj)) (s:Shared) (σ:St) (H:Hp) (x:V) (v vl vu:Value) (lo hi:Option Int) (sl:Addr) (Q:VK),Inv X ae σ H s->a7 x v->s.heap.IsSliceOf sl vl vu .none->IsPart vl lo->IsPart vu hi->r x lo hi H Q ->
  ∃ T id,typeLookup (.type T) "__getitem__"=pure (some (.builtin id))/\s.TypeIs v T/\wpAny (model X.prog X.w) X.A (getItem v (.ref sl)) (EP X ae σ Q) X.xe s
theorem SlR.or {r r':V->Option Int->Option Int->Hp->VK->Prop} (h:SlR X r) (h':SlR X r'):SlR X (fun x lo hi H Q=>r x lo hi H Q\/r' x lo hi H Q):=by
 intro ae s σ H x v vl vu lo hi sl Q I rx hs pl pu q;rcases q with q | q
 ·exact h ae s σ H x v vl vu lo hi sl Q I rx hs pl pu q
 ·exact h' ae s σ H x v vl vu lo hi sl Q I rx hs pl pu q
noncomputable def tSl (r:V->Option Int->Option Int->Hp->VK->Prop) (te:TE) (tl th:TO):TE:=fun σ H Q=>te σ H fun x H1=>tl σ H1 fun l H2=>th σ H2 fun u H3=>r x l u H3 Q
theorem bj {r:V->Option Int->Option Int->Hp->VK->Prop} (hr:SlR X r) (he:PE X e te) (hl:PO X lo tl) (hu:PO X hi th):PE X (.Subscript e (.Slice lo hi none p2) pos) (tSl r te tl th):=by
 intro ae s σ H Q I h;refine Subscript_ (thn (he ae s σ H _ I h) fun v s1 ⟨x,H1,I1,r1,q1⟩=>?_);refine wpAny_Slice (thn (hl ae s1 σ H1 _ I1 q1) fun vl s2 ⟨l,H2,I2,pl,q2⟩=>thn (hu ae s2 σ H2 _ I2 q2) fun vu s3 ⟨u,H3,I3,pu,q3⟩=>?_);rw [evalPart_none];refine wpAny_pure ?_;have I4:Inv X ae σ H3 { s3 with heap:=s3.heap.push { cls:=.type "slice",data:=.fields #[vl,vu,.none] } }:=I3.kept (t':=s3.toks) fun b ob q=>Heap.get?_push_of_some _ q
 obtain ⟨T,id,hT,ht,hg⟩:=hr ae { s3 with heap:=s3.heap.push { cls:=.type "slice",data:=.fields #[vl,vu,.none] } } σ H3 x v vl vu l u s3.heap.objs.size Q I4 r1 (Heap.IsSliceOf.new ..) pl pu q3;show wpAny (model X.prog X.w) X.A (subscriptTail e (.Slice lo hi none p2) v (.ref s3.heap.objs.size)) (EP X ae σ Q) X.xe { s3 with heap:=s3.heap.push { cls:=.type "slice",data:=.fields #[vl,vu,.none] } };exact tail_any (ops:=[.ref s3.heap.objs.size,v]) ht hT hg (by with_unfolding_all rfl)
noncomputable def io (xs:List V) (lo hi:Option Int):List V:=(xs.drop (HT.sIx xs.length 0 lo)).take (HT.sIx xs.length xs.length hi - HT.sIx xs.length 0 lo)
theorem nY (xs:List V) (lo hi:Option Int):(io xs lo hi).length<=xs.length:=by
 unfold io;rw [XO,Yp];omega
inductive L7 (K:Frag) (x:V) (lo:Option Int) (hi:Option Int) (H:Hp) (Q:VK):Prop
 | mk (a xs):(x=.ref a)->(SqT K H a xs)->(¬ (HT.sIx xs.length 0 lo=0/\HT.sIx xs.length xs.length hi=xs.length))->(∀ p,H p=none->Q (.ref p) (upd H p (.tup (io xs lo hi))))->L7 K x lo hi H Q
theorem iG:SlR X (L7 X.K):=by
 intro ae s σ H x v vl vu lo hi sl Q I rx hs pl pu h;obtain ⟨a,xs,rfl,hx,hw,q⟩:=h;cases rx;obtain ⟨its,r,ht,hz⟩:=I.tuple hx;have cI:its.toArray.size=xs.length:=by rw [Xk]; exact r.length.symm
 exists "tuple",_,PyProof.Rows.slot_tuple_getitem.lookup,ht.typeIs,?_;refine HT.getItem_tuple_cut ht hs pl pu (by rw [cI]; exact hw) ?_ (by rw [cI]; exact hz);rw [cI];exists .ref s.heap.objs.size,_,I.laid (t':=s.toks) (o:=.tup (io xs lo hi)) (fun b ob q=>Heap.get?_push_of_some _ q) (Xc _) ?_,rfl,q _ (I.hok.fresh (Xc _));exists XC (nY xs lo hi) hz,_,(r.drop (HT.sIx xs.length 0 lo)).take (HT.sIx xs.length xs.length hi - HT.sIx xs.length 0 lo),IsTup.new _ _,_,Heap.get?_push_size _ rfl,rfl
inductive Gh (K:Frag) (x:V) (y:V) (H:Hp) (Q:VK):Prop
 | mk (a b xs ys):(x=.ref a)->(y=.ref b)->(SqT K H a xs)->(SqT K H b ys)->(xs≠[])->(xs.length+ys.length<=sizeLine)->((ys=[]->Q (.ref a) H))->((ys≠[]->∀ p,H p=none->Q (.ref p) (upd H p (.tup (xs++ys)))))->Gh K x y H Q
theorem aI.nil_iff {xs:List V} {us:List Value} (r:aI xs us):us=[]↔xs=[]:=by
 cases r with
 | nil=>simp
 | cons _ _=>simp
theorem dF:OpR X (binaryOp .Add) (Gh X.K):=by
 intro ae s σ H x y v u Q I rx ry h;obtain ⟨a,b,xs,ys,rfl,rfl,ha,hb,hx,hz,q1,q2⟩:=h;cases rx;cases ry;obtain ⟨its,r1,p1,_⟩:=I.tuple ha;obtain ⟨jW,r2,p2,_⟩:=I.tuple hb;refine HT.cat_tup p1 p2 (fun z=>hx (r1.nil_iff.mp z)) (fun z=>⟨.ref a,H,I,rfl,q1 (r2.nil_iff.mp z)⟩) (fun z=>?_) (by rw [<- r1.length,<- r2.length]; exact hz);exists .ref s.heap.objs.size,_,I.laid (t':=s.toks) (o:=.tup (xs++ys)) (fun b ob q=>Heap.get?_push_of_some _ q) (Xc _) ?_,rfl,q2 (fun w=>z (r2.nil_iff.mpr w)) _ (I.hok.fresh (Xc _));exists by rw [W7]; exact hz,_,r1.append r2,IsTup.new _ _,_,Heap.get?_push_size _ rfl,rfl
end
open PySem PySem.Spec PyProof.Rows
noncomputable def ixN (n:Nat) (i:Int):Option Nat:=if 0<=i then (if i<n then some i.toNat else none) else if -(n:Int)<=i then some (i+n).toNat else none
noncomputable def atI {α:Type} (xs:List α) (i:Int):Option α:=(ixN xs.length i).bind fun j=>xs[j]?
theorem Cr {n:Nat} {i:Int} {j:Nat} (h:ixN n i=some j):seqIndex? i n=some j/\j<n/\-(n:Int)<=i/\i<n:=by
 unfold ixN at h
 by_cases h0:0<=i
 ·rw [if_pos h0] at h
  by_cases h1:i<n
  ·rw [if_pos h1] at h;have e:i.toNat=j:=Option.some.inj h;exists by rw [seqIndex_of h0 h1,e],by omega,by omega,h1
  ·rw [if_neg h1] at h; cases h
 ·rw [if_neg h0] at h
  by_cases h1:-(n:Int)<=i
  ·rw [if_pos h1] at h;have e:(i+n).toNat=j:=Option.some.inj h;exists by rw [seqIndex_neg (by omega) h1,e],by omega,h1,by omega
  ·rw [if_neg h1] at h; cases h
theorem vq {α:Type} {xs:List α} {i:Int} {v:α} (h:atI xs i=some v):∃ j,seqIndex? i xs.length=some j/\xs[j]?=some v/\j<xs.length/\-(xs.length:Int)<=i/\i<xs.length:=by
 unfold atI at h;cases e:ixN xs.length i with
 | none=>rw [e] at h; cases h
 | some j =>
  rw [e] at h;obtain ⟨h1,h2,h3,h4⟩:=Cr e;exists j,h1,h,h2,h3,h4
theorem eO {α:Type} {xs:List α} {j:Nat} {v:α} (h:xs[j]?=some v):atI xs (j:Int)=some v:=by
 have hj:j<xs.length:=(Xv.mp h).1;have e:ixN xs.length (j:Int)=some j:=by
  unfold ixN;rw [if_pos (by omega),if_pos (by omega)]; simp
 unfold atI; rw [e]; exact h
noncomputable def JX (b:Expr):Prop:=∀ o i,subscripted b false o i=operate [o,i] (getItem o i)
noncomputable def IxR (X:Cx) (r:R2):Prop :=
 ∀ (value slice:Expr) (ae:List (Addr×Obj)) (s:Shared) (σ:St) (H:Hp) (x y:V) (v u:Value) (Q:VK),Inv X ae σ H s->a7 x v->a7 y u->r x y H Q ->
  subscripted slice false v u=operate [v,u] (getItem v u)->wpAny (model X.prog X.w) X.A (subscriptTail value slice v u) (EP X ae σ Q) X.xe s
noncomputable def MtR (X:Cx) (id:String) (r:V->List V->Hp->VK->Prop):Prop :=
 ∀ (ae:List (Addr×Obj)) (s:Shared) (σ:St) (H:Hp) (x:V) (xs:List V) (v:Value) (us:List Value) (Q:VK),Inv X ae σ H s->a7 x v->aI xs us->r x xs H Q ->
  wpAny (model X.prog X.w) X.A (call (.builtin id) (v::us)) (EP X ae σ Q) X.xe s
section
variable {X:Cx} {a b:Expr} {ta tb:TE} {pos:Pos}
theorem aZ {r:R2} (hr:IxR X r) (ha:PE X a ta) (hb:PE X b tb) (hs:JX b):PE X (.Subscript a b pos) (tOp r ta tb):=by
 intro ae s σ H Q I h;exact Subscript_ (LG ha hb I h fun v u s2 x y H2 I2 rx ry q=>hr a b ae s2 σ H2 x y v u Q I2 rx ry q (hs _ _))
inductive Lk (K:Frag) (x:V) (y:V) (H:Hp) (Q:VK):Prop
 | mk (p xs i v):(x=.ref p)->(y=.int i)->(SqL K H p xs)->(atI xs i=some v)->(Q v H)->Lk K x y H Q
inductive Li (K:Frag) (x:V) (y:V) (H:Hp) (Q:VK):Prop
 | mk (p xs i v):(x=.ref p)->(y=.int i)->(SqT K H p xs)->(atI xs i=some v)->(Q v H)->Li K x y H Q
inductive OX (x:V) (y:V) (H:Hp) (Q:VK):Prop
 | mk (z i c):(x=.str z)->(y=.int i)->(z.length<=sizeLine)->(atI z.cps.toList i=some c)->(Q (.str ⟨#[c]⟩) H)->OX  x y H Q
theorem aD:IxR X (Lk X.K):=by
 intro value slice ae s σ H x y v u Q I rx ry h hs;obtain ⟨p,xs,i,z,rfl,rfl,hq,he,q⟩:=h;cases rx;obtain ⟨t,rfl⟩:=ry;obtain ⟨its,r,pl,hz⟩:=I.list hq;obtain ⟨j,h1,h2,h3,h4,h5⟩:=vq he;obtain ⟨w,ew,So⟩:=r.get h2;have hl:=r.length;have hn:=jS;have fin:EP X ae σ Q w s:=⟨z,H,I,So,q⟩
 by_cases h0:0<=i
 ·have hj:i.toNat=j:=by
   rw [seqIndex_of h0 h5] at h1;exact Option.some.inj h1
  exact item_listR pl.isList h0 (by omega) (by rw [hj]; simpa using ew) fin hs
 ·have hj:(i+(its.toArray.size:Int)).toNat=j:=by
   rw [seqIndex_neg (by omega) h4] at h1;rw [Xk,<- hl];exact Option.some.inj h1
  exact subscriptTail_builtinR (x:=w) pl.isList.typeIs slot_list_getitem.lookup
   (wpAny_getItem_list_neg (Q:=fun r s'=>r=w/\EP X ae σ Q r s') pl.isList (by omega) (by rw [Xk]<;>omega) (by omega) (by rw [hj]; simpa using ew) ⟨rfl,fin⟩) hs
theorem cV:IxR X (Li X.K):=by
 intro value slice ae s σ H x y v u Q I rx ry h hs;obtain ⟨p,xs,i,z,rfl,rfl,hq,he,q⟩:=h;cases rx;obtain ⟨t,rfl⟩:=ry;obtain ⟨its,r,pl,hz⟩:=I.tuple hq;obtain ⟨j,h1,h2,h3,h4,h5⟩:=vq he;obtain ⟨w,ew,So⟩:=r.get h2;have hl:=r.length;have hn:=jS;have fin:EP X ae σ Q w s:=⟨z,H,I,So,q⟩;exact subscriptTail_builtinR (x:=w) pl.typeIs slot_tuple_getitem.lookup
  (getItem_tuple (j:=j) (Q:=fun r s'=>r=w/\EP X ae σ Q r s') pl (by omega) (by omega) (by rw [Xk,<- hl]; exact h1) (by simpa using ew) ⟨rfl,fin⟩) hs
theorem Ib:IxR X OX:=by
 intro value slice ae s σ H x y v u Q I rx ry h hs;obtain ⟨z,i,c,rfl,rfl,hz,he,q⟩:=h;obtain ⟨t,rfl⟩:=rx;obtain ⟨t',rfl⟩:=ry;obtain ⟨j,h1,h2,h3,h4,h5⟩:=vq he;have hl:z.cps.toList.length=z.length:=by simp [Str.length]
 rw [hl] at h1 h4 h5;have hn:=jS;exact tail_any (typeIs_str s z t) slot_str_getitem.lookup (getItem_str (c:=c) (by
  have e1:decide (i< -(2 ^ 63:Int))=false:=decide_eq_false (by omega);have e2:decide (i ≥ 2 ^ 63)=false:=decide_eq_false (by omega);rw [e1,e2,aaM]) (by rw [h1]; simpa using h2) ⟨.str ⟨#[c]⟩,H,I.tok _,⟨_,rfl⟩,q⟩) hs
theorem Al (its:List Value) (n j:Nat) (u:Value):Obj.mapSeq (·.setIfInBounds j u) { cls:=.type "list",data:=.seq its.toArray n }={ cls:=.type "list",data:=.seq (its.set j u).toArray n }:=by
 simp [Obj.mapSeq]
theorem Inv.lst {ae:List (Addr×Obj)} {σ:St} {H:Hp} {s:Shared} {p:Addr} {xs:List V} (I:Inv X ae σ H s) (h:H p=some (.lst xs)) :
  ∃ (its:List Value) (n:Nat),aI xs its/\s.heap.get? p=some { cls:=.type "list",data:=.seq its.toArray n }/\xs.length<=sizeLine:=by
 obtain ⟨z,its,n,r,e⟩:=I.hok p _ h;exists its,n,r,e,z
theorem Inv.lstUpd {ae:List (Addr×Obj)} {σ:St} {H:Hp} {s:Shared} {p:Addr} {xs ys:List V} {its its':List Value} {n n':Nat} {f:Obj->Obj} (I:Inv X ae σ H s) (h:H p=some (.lst xs))
  (ho:s.heap.get? p=some { cls:=.type "list",data:=.seq its.toArray n }) (hf:f { cls:=.type "list",data:=.seq its.toArray n }={ cls:=.type "list",data:=.seq its'.toArray n' }) (r:aI ys its') (hz:ys.length<=sizeLine) (t:Nat) :
  Inv X ae σ (upd H p (.lst ys)) { s with heap:=s.heap.update p f,toks:=t }:=by
 have e:(s.heap.update p f).get? p=some { cls:=.type "list",data:=.seq its'.toArray n' }:=by
  rw [Heap.get?_update_self f ho (by rw [hf]<;>rfl),hf]
 refine I.write (x:=p) (e:=p) (by rw [h]; trivial) (.inl rfl) (fun b u hb q=>(Heap.get?_update_other _ _ (Ne.symm hb)).trans q) ⟨_,e⟩ ?_;exists hz,its',n',r,e
inductive KI (o:V) (i:V) (v:V) (H:Hp) (Q:Hp->Prop):Prop
 | mk (p xs k j):(o=.ref p)->(i=.int k)->(H p=some (.lst xs))->(ixN xs.length k=some j)->(Q (upd H p (.lst (xs.set j v))))->KI  o i v H Q
theorem iX:NH X KI:=by
 intro ae s σ H o i v ov iv u Q I ro ri rv h;obtain ⟨p,xs,k,j,rfl,rfl,hp,hj,q⟩:=h;cases ro;obtain ⟨t,rfl⟩:=ri;obtain ⟨its,n,r,ho,hz⟩:=I.lst hp;obtain ⟨h1,h2,h3,h4⟩:=Cr hj;have hl:=r.length;have hn:=jS;have I':Inv X ae σ (upd H p (.lst (xs.set j v))) { s with heap:=s.heap.update p (Obj.mapSeq (·.setIfInBounds j u)) } :=
  I.lstUpd hp ho (Al its n j u) (r.set rv j) (by rw [aaH]; exact hz) s.toks
 by_cases h0:0<=k
 ·have hk:k.toNat=j:=by
   rw [seqIndex_of h0 h4] at h1;exact Option.some.inj h1
  exact PySem.W.ki_setAt ho h0 (by omega) (by rw [Xk,<- hl]; exact h4) (by rw [hk]; exact ⟨_,I',q⟩)
 ·have hk:(k+(its.toArray.size:Int)).toNat=j:=by
   rw [seqIndex_neg (by omega) h3] at h1;rw [Xk,<- hl];exact Option.some.inj h1
  exact PySem.W.ki_setBack ho (by omega) (by rw [Xk,<- hl]; exact h3) (by omega) (by rw [hk]; exact ⟨_,I',q⟩)
theorem we (lo hi:Option Int) (n:Nat):(sliceBounds lo hi none n).1=((HT.sIx n 0 lo:Nat):Int)/\(sliceBounds lo hi none n).2.1=((HT.sIx n n hi:Nat):Int)/\(sliceBounds lo hi none n).2.2=1:=by
 exists ?_,?_,rfl
 ·cases lo with
  | none=>simp [sliceBounds,HT.sIx]
  | some i =>
   simp only [sliceBounds,HT.sIx,aaD,show (1:Int) > 0 by decide,if_true]
   by_cases h:i<0
   ·simp only [h,if_true]<;>omega
   ·simp only [h,if_false]<;>omega
 ·cases hi with
  | none=>simp [sliceBounds,HT.sIx]
  | some i =>
   simp only [sliceBounds,HT.sIx,aaD,show (1:Int) > 0 by decide,if_true]
   by_cases h:i<0
   ·simp only [h,if_true]<;>omega
   ·simp only [h,if_false]<;>omega
theorem rX (its:List Value) (lo hi:Option Int):slicePick its.toArray lo hi none=((its.drop (HT.sIx its.length 0 lo)).take (HT.sIx its.length its.length hi - HT.sIx its.length 0 lo)).toArray:=by
 obtain ⟨h1,h2,h3⟩:=we lo hi its.toArray.size;unfold slicePick;rw [h1,h2,h3];simp only [sliceRange_one,pick_run,Xk]<;>rfl
inductive O9 (K:Frag) (x:V) (lo:Option Int) (hi:Option Int) (H:Hp) (Q:VK):Prop
 | mk (a xs):(x=.ref a)->(SqL K H a xs)->(∀ p,H p=none->Q (.ref p) (upd H p (.lst (io xs lo hi))))->O9 K x lo hi H Q
theorem gz:SlR X (O9 X.K):=by
 intro ae s σ H x v vl vu lo hi sl Q I rx hs pl pu h;obtain ⟨a,xs,rfl,hx,q⟩:=h;cases rx;obtain ⟨its,r,ht,hz⟩:=I.list hx;have cI:=r.length;exists "list",_,slot_list_getitem.lookup,ht.isList.typeIs,?_;refine wpAny_getItem_list_slice ht.isList hs pl pu .none (by simp) ?_ (by rw [Xk]<;>omega);rw [rX,<- cI];exists .ref s.heap.objs.size,_,I.laid (t':=s.toks) (o:=.lst (io xs lo hi)) (fun b ob q=>Heap.get?_push_of_some _ q) (Xc _) ?_,rfl,q _ (I.hok.fresh (Xc _));exists XC (nY xs lo hi) hz,_,0,(r.drop (HT.sIx xs.length 0 lo)).take (HT.sIx xs.length xs.length hi - HT.sIx xs.length 0 lo),Heap.get?_push_size _ rfl
noncomputable def jF:V->Bool
 | .non=>true
 | .bl _=>true
 | .int _=>true
 | .str _=>true
 | _=>false
noncomputable def eqV:V->V->Bool
 | .non,.non=>true
 | .bl a,.bl b=>a==b
 | .bl a,.int b=>(if a then 1 else 0)==b
 | .int a,.bl b=>a==(if b then 1 else 0)
 | .int a,.int b=>a==b
 | .str a,.str b=>a==b
 | _,_=>false
theorem LR {A:Around} {s:Shared} {y x:V} {u v:Value} (ry:a7 y u) (rx:a7 x v) (fy:jF y=true) (fx:jF x=true):SeqAt.EqAt A s u v (eqV y x):=by
 cases y with
 | non =>
  cases ry;cases x with
  | non=>cases rx; exact SeqAt.EqAt.same _
  | bl b=>cases rx; exact SeqAt.EqAt.none_bool b
  | int b=>obtain ⟨t,rfl⟩:=rx; exact SeqAt.EqAt.none_int b t
  | str b=>obtain ⟨t,rfl⟩:=rx; exact SeqAt.EqAt.none_str b t
  | _=>exact absurd (show false=true from fx) Xq
 | bl a =>
  cases ry;cases x with
  | non=>cases rx; exact SeqAt.EqAt.bool_none a
  | bl b=>cases rx; exact SeqAt.EqAt.bool_bool a b
  | int b=>obtain ⟨t,rfl⟩:=rx; exact SeqAt.EqAt.bool_int a b t
  | str b=>obtain ⟨t,rfl⟩:=rx; exact SeqAt.EqAt.bool_str a b t
  | _=>exact absurd (show false=true from fx) Xq
 | int a =>
  obtain ⟨t',rfl⟩:=ry;cases x with
  | non=>cases rx; exact SeqAt.EqAt.int_none a t'
  | bl b=>cases rx; exact SeqAt.EqAt.int_bool a t' b
  | int b=>obtain ⟨t,rfl⟩:=rx; exact SeqAt.EqAt.int_int a t' b t
  | str b=>obtain ⟨t,rfl⟩:=rx; exact SeqAt.EqAt.int_str a t' b t
  | _=>exact absurd (show false=true from fx) Xq
 | str a =>
  obtain ⟨t',rfl⟩:=ry;cases x with
  | non=>cases rx; exact SeqAt.EqAt.str_none a t'
  | bl b=>cases rx; exact SeqAt.EqAt.str_bool a t' b
  | int b=>obtain ⟨t,rfl⟩:=rx; exact SeqAt.EqAt.str_int a t' b t
  | str b=>obtain ⟨t,rfl⟩:=rx; exact SeqAt.EqAt.str_str a t' b t
  | _=>exact absurd (show false=true from fx) Xq
 | _=>exact absurd (show false=true from fy) Xq
noncomputable def eqU (x:V) (u:Value):Bool:=match u with
 | .none=>eqV .non x
 | .bool b=>eqV (.bl b) x
 | .int i _=>eqV (.int i) x
 | .str z _=>eqV (.str z) x
 | _=>false
theorem GU {x y:V} {u:Value} (r:a7 y u) (f:jF y=true):eqU x u=eqV y x:=by
 cases y with
 | non=>cases r; rfl
 | bl b=>cases r; rfl
 | int i=>obtain ⟨t,rfl⟩:=r; rfl
 | str z=>obtain ⟨t,rfl⟩:=r; rfl
 | _=>exact absurd (show false=true from f) Xq
theorem kb {x:V}:∀ {xs:List V} {us:List Value},aI xs us->xs.all jF=true->us.any (eqU x)=xs.any fun y=>eqV y x
 | _,_,.nil,_=>rfl
 | y::xs,u::us,.cons r t,f=>by
  rw [aam,XT] at f;rw [YM,YM,GU r f.1,kb t f.2]
theorem iT {A:Around} {s:Shared} {x:V} {v:Value} (rx:a7 x v) (fx:jF x=true):∀ {xs:List V} {us:List Value},aI xs us->xs.all jF=true->∀ u∈us,SeqAt.EqAt A s u v (eqU x u)
 | _,_,.nil,_=>fun u hu=>by cases hu
 | y::xs,u::us,.cons r t,f=>fun u' hu=>by
  rw [aam,XT] at f;rcases Xa.mp hu with rfl | hu
  ·rw [GU r f.1]; exact LR r rx f.1 fx
  ·exact iT rx fx t f.2 u' hu
noncomputable def inV (x:V) (xs:List V):Bool:=xs.any fun y=>eqV y x
inductive rIn (K:Frag) (neg:Bool) (x:V) (y:V) (H:Hp) (Q:VK):Prop
 | mk (p xs):(y=.ref p)->((SqL K H p xs\/SqT K H p xs))->(jF x=true)->(xs.all jF=true)->(Q (.bl (if neg then !inV x xs else inV x xs)) H)->rIn K neg x y H Q
theorem bz:OpR X (compareOp .In) (rIn X.K false):=by
 intro ae s σ H x y v u Q I rx ry h;obtain ⟨p,xs,rfl,hq,fx,fs,q⟩:=h;cases ry;rcases hq with hq | hq
 ·obtain ⟨its,r,pl,hz⟩:=I.list hq;refine SeqAt.in_listAt (eqU x) pl.isList (fun w hw=>iT rx fx r fs w (by simpa using hw)) ⟨.bl _,H,I,rfl,?_⟩;rw [show its.toArray.any (eqU x)=its.any (eqU x) by simp,kb r fs];exact q
 ·obtain ⟨its,r,pl,hz⟩:=I.tuple hq;refine SeqAt.in_tupleAt (eqU x) pl (fun w hw=>iT rx fx r fs w (by simpa using hw)) ⟨.bl _,H,I,rfl,?_⟩;rw [show its.toArray.any (eqU x)=its.any (eqU x) by simp,kb r fs];exact q
theorem vR:OpR X (compareOp .NotIn) (rIn X.K true):=by
 intro ae s σ H x y v u Q I rx ry h;obtain ⟨p,xs,rfl,hq,fx,fs,q⟩:=h;cases ry;rcases hq with hq | hq
 ·obtain ⟨its,r,pl,hz⟩:=I.list hq;refine SeqAt.notIn_listAt (eqU x) pl.isList (fun w hw=>iT rx fx r fs w (by simpa using hw)) ⟨.bl _,H,I,rfl,?_⟩;rw [show its.toArray.any (eqU x)=its.any (eqU x) by simp,kb r fs];exact q
 ·obtain ⟨its,r,pl,hz⟩:=I.tuple hq;refine SeqAt.notIn_tupleAt (eqU x) pl (fun w hw=>iT rx fx r fs w (by simpa using hw)) ⟨.bl _,H,I,rfl,?_⟩;rw [show its.toArray.any (eqU x)=its.any (eqU x) by simp,kb r fs];exact q
theorem bq:d8 X (.builtin "len") (fun xs H Q=>∃ p ys,xs=[.ref p]/\(SqL X.K H p ys\/SqT X.K H p ys)/\Q (.int ys.length) H):=by
 intro ae s σ H xs us Q I r h;obtain ⟨p,ys,rfl,hq,q⟩:=h;obtain ⟨u,rfl,rx⟩:=fT r;cases rx;have hn:=jS;rcases hq with hq | hq
 ·obtain ⟨its,r',pl,hz⟩:=I.list hq;have cI:=r'.length;exact Calls.call_len_list pl.isList (by simp only [Xk]<;>omega) ⟨.int ys.length,H,I.tok _,⟨s.toks+1,by rw [Xk,cI]⟩,q⟩
 ·obtain ⟨its,r',pl,hz⟩:=I.tuple hq;have cI:=r'.length;exact len_tuple pl (by simp only [Xk]<;>omega) ⟨.int ys.length,H,I.tok _,⟨s.toks+1,by rw [Xk,cI]⟩,q⟩
theorem dY:d8 X (.builtin "len") (fun xs H Q=>∃ z,xs=[.str z]/\z.length<=sizeLine/\Q (.int z.length) H):=by
 intro ae s σ H xs us Q I r h;obtain ⟨z,rfl,hz,q⟩:=h;obtain ⟨u,rfl,t,rfl⟩:=fT r;have hn:=jS;exact len_str (by omega) ⟨.int z.length,H,I.tok _,⟨_,rfl⟩,q⟩
theorem d8.or {f:Value} {r r':List V->Hp->VK->Prop} (h:d8 X f r) (h':d8 X f r'):d8 X f (fun xs H Q=>r xs H Q\/r' xs H Q):=by
 intro ae s σ H xs us Q I rs q;rcases q with q | q
 ·exact h ae s σ H xs us Q I rs q
 ·exact h' ae s σ H xs us Q I rs q
theorem aY:d8 X (.type "list") (fun xs H Q=>∃ p ys,xs=[.ref p]/\(SqL X.K H p ys\/SqT X.K H p ys)/\∀ l,H l=none->Q (.ref l) (upd H l (.lst ys))):=by
 intro ae s σ H xs us Q I r h;obtain ⟨p,ys,rfl,hq,q⟩:=h;obtain ⟨u,rfl,rx⟩:=fT r;cases rx;have fin:∀ (its:List Value),aI ys its->ys.length<=sizeLine->∀ (h':Heap) (c':Nat),(∀ b o',s.heap.get? b=some o'->h'.get? b=some o') ->
   h'.get? s.heap.objs.size=some { cls:=.type "list",dict:=none,data:=.seq its.toArray c',slots:=#[] }->EP X ae σ Q (.ref s.heap.objs.size) { s with heap:=h' }:=fun its r' hz h' c' kp e =>
  ⟨.ref s.heap.objs.size,_,I.laid (t':=s.toks) kp (Xc _) (show bW X.prog X.w _ h' _ (.lst ys) from ⟨hz,its,c',r',e⟩),rfl,q _ (I.hok.fresh (Xc _))⟩
 rcases hq with hq | hq
 ·obtain ⟨its,r',pl,hz⟩:=I.list hq;have cI:=r'.length;obtain ⟨o,ho,hc,n,hd⟩:=pl.isList;exact call_list_seq p (.inl rfl) ho hc hd (fun h' c' kp e=>fin its r' hz h' c' kp e) (by simp only [Xk]<;>omega)
 ·obtain ⟨its,r',pl,hz⟩:=I.tuple hq;have cI:=r'.length;obtain ⟨o,ho,hc,n,hd⟩:=pl;exact call_list_seq p (.inr rfl) ho hc hd (fun h' c' kp e=>fin its r' hz h' c' kp e) (by simp only [Xk]<;>omega)
theorem aH:d8 X (.type "tuple") (fun xs H Q=>∃ p ys,xs=[.ref p]/\((SqL X.K H p ys/\∀ l,H l=none->Q (.ref l) (upd H l (.tup ys)))\/(SqT X.K H p ys/\Q (.ref p) H))):=by
 intro ae s σ H xs us Q I r h;obtain ⟨p,ys,rfl,h⟩:=h;obtain ⟨u,rfl,rx⟩:=fT r;cases rx;rcases h with ⟨hq,q⟩ | ⟨hq,q⟩
 ·obtain ⟨its,r',pl,hz⟩:=I.list hq;have cI:=r'.length;refine call_tuple_list pl.isList (fun h' kp=>?_) (by simp only [Xk]<;>omega);have I1:Inv X ae σ H { s with heap:=h' }:=I.kept (t':=s.toks) kp;have I2:Inv X ae σ (upd H h'.objs.size (.tup ys)) { s with heap:=h'.push { cls:=.type "tuple",data:=.seq its.toArray } } :=
   I1.laid (t':=s.toks) (fun b o e=>Heap.get?_push_of_some _ e) (Xc _) (show bW X.prog X.w _ _ _ (.tup ys) from ⟨hz,its,r',IsTup.new _ _,_,Heap.get?_push_size _ rfl,rfl⟩)
  exists .ref h'.objs.size,_,I2,rfl,q _ (I1.hok.fresh (Xc _))
 ·obtain ⟨its,r',pl,hz⟩:=I.tuple hq;exact call_tuple_same pl ⟨.ref p,H,I,rfl,q⟩
noncomputable def tyV (K:Frag) (T:String) (x:V) (H:Hp):Prop:=match x with
 | .str _=>T = "str"
 | .int _=>T = "int"
 | .ref p=>(T = "list"/\∃ xs,SqL K H p xs)\/(T = "tuple"/\∃ o,K.lookup p=some o/\o.cls=.type "tuple"/\o.dict=none) \/
   (T = "dict"/\((∃ aT,H p=some (.dK aT))\/∃ aT,H p=some (.dT aT)))\/(T = "set"/\∃ S n,H p=some (.set S n))
 | _=>False
theorem F7 {ae:List (Addr×Obj)} {σ:St} {H:Hp} {s:Shared} {T:String} {x:V} {v:Value} (I:Inv X ae σ H s) (r:a7 x v) (ty:tyV X.K T x H) :
  s.TypeIs v T/\∀ a,v=.ref a->∃ ob,s.heap.get? a=some ob/\ob.dict=none:=by
 cases x with
 | str z =>
  obtain ⟨t,rfl⟩:=r;cases (show T = "str" from ty);exists typeIs_str s z t,fun _ e=>nomatch e
 | int i =>
  obtain ⟨t,rfl⟩:=r;cases (show T = "int" from ty);exists typeIs_int s i t,fun _ e=>nomatch e
 | ref p =>
  cases r;rcases ty with ⟨rfl,xs,hq⟩ | ⟨rfl,o,hk,hc,hd⟩ | ⟨rfl,hk⟩ | ⟨rfl,S,n,hk⟩
  ·obtain ⟨its,_,pl,_⟩:=I.list hq;exists pl.isList.typeIs,fun a e=>?_
   cases e;obtain ⟨o,n,e,c,hd,_⟩:=pl;exists o,e,hd
  ·exists ⟨o,I.kIn p o hk,hc⟩,fun a e=>?_
   cases e;exists o,I.kIn _ o hk,hd
  ·have z:∃ o,s.heap.get? p=some o/\o.ExactDict:=by
    rcases hk with ⟨aT,hk⟩ | ⟨aT,hk⟩
    ·obtain ⟨_,_,_,_,o,_,_,e,ex,_⟩:=I.hok p _ hk;exists o,e,ex
    ·obtain ⟨_,_,_,_,o,_,_,e,ex,_⟩:=I.hok p _ hk;exists o,e,ex
   obtain ⟨o,e,ex⟩:=z;exists ⟨o,e,ex.1⟩,fun a e2=>?_
   cases e2;exists o,e,ex.2.1
  ·obtain ⟨o,_,_,_,e,ex,_⟩:=I.hok p _ hk;exists ⟨o,e,ex.1⟩,fun a e2=>?_
   cases e2;exists o,e,ex.2.1
 | _=>exact False.elim ty
inductive EB (K:Frag) (T:String) (r:V->List V->Hp->VK->Prop) (Q:VK) (x:V) (H1:Hp):Prop
 | mk:(tyV K T x H1)->(r x [] H1 Q)->EB K T r Q x H1
noncomputable def Q7 (K:Frag) (T:String) (r:V->List V->Hp->VK->Prop) (to:TE):TE:=fun σ H Q=>to σ H fun x H1=>EB K T r Q x H1
inductive Ks (K:Frag) (T:String) (r:V->List V->Hp->VK->Prop) (t:TA) (σ:St) (Q:VK) (x:V) (H1:Hp):Prop
 | mk:(tyV K T x H1)->(t σ H1 fun xs H2=>r x xs H2 Q)->Ks K T r t σ Q x H1
noncomputable def tBM (K:Frag) (T:String) (r:V->List V->Hp->VK->Prop) (to:TE) (t:TA):TE:=fun σ H Q=>to σ H fun x H1=>Ks K T r t σ Q x H1
variable {o e:Expr} {es:List Expr} {to:TE} {t:TA} {name:Str} {apos dk:Pos} {T id:String} {r:V->List V->Hp->VK->Prop}
theorem jO (pa:PlainAttrs T) (slot:Slot T name id) (hty:typeOf (.builtin id)=pure (.type "method_descriptor")) (hm:MtR X id r) (ho:PE X o to)
  (hbase:attributeBase o name X.env (eval o X.env)=eval o X.env:=by rfl) (hline:(apos.endLine==dk.line)=true:=by rfl):PE X (.Call (.Attribute o name apos) [] [] dk) (Q7 X.K T r to):=by
 intro ae s σ H Q I h;refine wpAny_Call_method0_late hbase hline (thn (ho ae s σ H _ I h) fun v s1 ⟨x,H1,I1,r1,ty,q1⟩=>?_);obtain ⟨h1,h2⟩:=F7 I1 r1 ty;exists T,id,pa,slot,hty,h1,h2,Calls.callWith_builtin rfl (PySem.evalArgs_none (hm ae s1 σ H1 x [] v [] Q I1 r1 .nil q1))
theorem CC (pa:PlainAttrs T) (slot:Slot T name id) (hty:typeOf (.builtin id)=pure (.type "method_descriptor")) (hm:MtR X id r) (ho:PE X o to) (ha:PA X (e::es) t)
  (hbase:attributeBase o name X.env (eval o X.env)=eval o X.env:=by rfl)
  (hfew:((backTo dk (starEach (e::es) X.env)).all (fun x=>!x.1)&&(backToKw dk (keywordEach [] X.env)).all (fun x=>x.1.isSome)
  &&decide ((e::es).length+([]:List Keyword).length+(if ([]:List Keyword).isEmpty then 0 else 1)<30))=true:=by exact vY rfl rfl)
  (hline:(apos.endLine==dk.line)=true:=by rfl) (hs:starEach (e::es) X.env=(false,eval e X.env)::starEach es X.env:=by exact bo rfl) (hplain:(backTo dk (starEach es X.env)).any (·.1)=false:=by exact cG rfl) :
  PE X (.Call (.Attribute o name apos) (e::es) [] dk) (tBM X.K T r to t):=by
 intro ae s σ H Q I h;refine wpAny_Call_method_late hbase hfew hline rfl (thn (ho ae s σ H _ I h) fun v s1 ⟨x,H1,I1,r1,ty,q1⟩=>?_);obtain ⟨h1,h2⟩:=F7 I1 r1 ty;exists T,id,pa,slot,hty,h1,h2,?_;have hA:=ha dk ae s1 σ H1 _ I1 q1;rw [hs] at hA ⊢;refine Calls.callWith_builtin (by show (false||(backTo dk (starEach es X.env)).any (·.1))=false; rw [hplain]<;>rfl) (Calls.evalArgs_plain ?_);exact thn hA fun us s2 ⟨vs,H2,I2,r2,q2⟩=>hm ae s2 σ H2 x vs v us Q I2 r1 r2 q2
end
open PySem PySem.Spec PyProof.Rows
noncomputable def MtM (X:Cx) (id:String) (r:V->List V->Hp->VK->Prop):Prop :=
 ∀ (ae:List (Addr×Obj)) (s:Shared) (σ:St) (H:Hp) (x:V) (xs:List V) (v:Value) (us:List Value) (Q:VK),Inv X ae σ H s->a7 x v->aI xs us->r x xs H Q ->
  wpAny (model X.prog X.w) X.A (call (.builtin id) (v::us)) (EP X ae σ Q) X.xe s
theorem aI.one:∀ {x:V} {us:List Value},aI [x] us->∃ u,us=[u]/\a7 x u
 | _,_,.cons r .nil=>⟨_,rfl,r⟩
theorem aI.zero:∀ {us:List Value},aI [] us->us=[]
 | _,.nil=>rfl
theorem aI.dropLast {xs:List V} {us:List Value} (h:aI xs us):aI xs.dropLast us.dropLast:=by
 induction h with
 | nil=>exact .nil
 | cons r t ih =>
  cases t with
  | nil=>exact .nil
  | cons q t'=>exact .cons r ih
theorem aI.reverse {xs:List V} {us:List Value} (h:aI xs us):aI xs.reverse us.reverse:=by
 induction h with
 | nil=>exact .nil
 | cons r t ih=>rw [XY,XY]; exact aI.append ih (.cons r .nil)
theorem aI.rep {xs:List V} {us:List Value} (h:aI xs us):∀ k:Nat,aI (XG k xs).flatten (XG k us).flatten
 | 0=>.nil
 | k+1=>by
  rw [Yg,Yg,Yx,Yx];exact aI.append h (aI.rep h k)
theorem A5 {α:Type} (l:List α):l.eraseIdx (l.length - 1)=l.dropLast:=by
 induction l with
 | nil=>rfl
 | cons a r ih =>
  cases r with
  | nil=>rfl
  | cons b r =>
   have e:(a::b::r).length - 1=((b::r).length - 1)+1:=by
    have h1:(a::b::r).length=r.length+2:=rfl;have h2:(b::r).length=r.length+1:=rfl;omega
   rw [e,List.eraseIdx_cons_succ,ih]
   all_goals rfl
theorem uJ (its:List Value):∀ (k:Nat) (ar:List Value),
  aaI (fun x1 x2=>x1++x2) ar.toArray (XG k its.toArray)=(ar++(XG k its).flatten).toArray
 | 0,ar=>by simp
 | k+1,ar=>by
  have e:ar.toArray++its.toArray=(ar++its).toArray:=by simp
  have e2:(ar++its)++(XG k its).flatten=ar++(XG (k+1) its).flatten:=by
   rw [Yg,Yx,Xs]
  rw [<- e2,<- uJ its k (ar++its),<- e,Yg,List.foldl_cons]
section
variable {X:Cx} {ae:List (Addr×Obj)} {σ:St} {H:Hp} {s:Shared} {l b:Addr} {xs ys zs:List V}
theorem Inv.lset {its its':List Value} {n:Nat} {f:Array Value->Array Value} {t':Nat} (I:Inv X ae σ H s) (hH:H l=some (.lst xs))
  (e:s.heap.get? l=some { cls:=.type "list",data:=.seq its.toArray n }) (hf:f its.toArray=its'.toArray) (hv:aI ys its') (hz:ys.length<=sizeLine) :
  Inv X ae σ (upd H l (.lst ys)) { s with heap:=s.heap.update l (Obj.mapSeq f),toks:=t' }:=by
 have q:=PySem.IsL.update e f;rw [hf] at q;refine I.write (x:=l) (e:=l) (by rw [hH]; exact trivial) (.inl rfl) (fun b' u hb hu=>(Heap.get?_update_other s.heap (Obj.mapSeq f) (Ne.symm hb)).trans hu) ⟨_,q⟩ ?_;exists hz,its',_,hv,q
theorem Inv.lnew {its:List Value} {t':Nat} (I:Inv X ae σ H s) (hv:aI ys its) (hz:ys.length<=sizeLine) :
  Inv X ae σ (upd H s.heap.objs.size (.lst ys)) { s with heap:=s.heap.push { cls:=.type "list",data:=.seq its.toArray },toks:=t' } :=
 I.laid (fun _ _ q=>Heap.get?_push_of_some _ q) (Xc _) ⟨hz,its,0,hv,Heap.get?_push_size _ rfl⟩
theorem Inv.fresh (I:Inv X ae σ H s):H s.heap.objs.size=none:=I.hok.fresh (Xc _)
theorem Inv.lstM (I:Inv X ae σ H s) (hH:H l=some (.lst xs)):xs.length<=sizeLine/\∃ (its:List Value) (n:Nat),aI xs its/\xs.length=its.length/\s.heap.get? l=some { cls:=.type "list",data:=.seq its.toArray n }:=by
 obtain ⟨z,its,n,r,e⟩:=I.hok l _ hH;exists z,its,n,r,r.length,e
theorem pq {n:Nat} (h:n<=sizeLine):Builtin.List.listTooLong n=false:=by
 unfold Builtin.List.listTooLong;exact decide_eq_false (by omega)
end
section
variable {X:Cx}
inductive Cb (x:V) (vs:List V) (H:Hp) (Q:VK):Prop
 | mk (l xs y):(x=.ref l)->(vs=[y])->(H l=some (.lst xs))->(xs.length<sizeLine)->(Q .non (upd H l (.lst (xs++[y]))))->Cb  x vs H Q
theorem tJ:MtM X "list.append" Cb:=by
 intro ae s σ H x vs v us Q I rx rv h;obtain ⟨l,xs,y,rfl,rfl,hH,hz,q⟩:=h;cases rx;obtain ⟨u,rfl,ru⟩:=rv.one;obtain ⟨z,its,n,r,hl,e⟩:=I.lstM hH;refine call_meets F.slot_list_append ⟨_,e,rfl⟩ F.entry_list_append (F.args_list_append_2 _ _) (PySem.list_append l its.toArray n u (by rw [Xk]; omega)) ⟨e,?_⟩;exists .non,_,I.lset (its':=its++[u]) hH e (by simp) (r.append (.cons ru .nil)) ?_,rfl,q;rw [W7,Xu];omega
inductive wm (x:V) (vs:List V) (H:Hp) (Q:VK):Prop
 | mk (l b xs zs):(x=.ref l)->(vs=[.ref b])->(H l=some (.lst xs))->(H b=some (.lst zs))->(xs.length+zs.length<=sizeLine)->(Q .non (upd H l (.lst (xs++zs))))->wm  x vs H Q
theorem dm:MtM X "list.extend" wm:=by
 intro ae s σ H x vs v us Q I rx rv h;obtain ⟨l,b,xs,zs,rfl,rfl,hH,hB,hz,q⟩:=h;cases rx;obtain ⟨u,rfl,ru⟩:=rv.one;cases ru;obtain ⟨z,its,n,r,hl,e⟩:=I.lstM hH;obtain ⟨z2,jW,n2,r2,ou,e2⟩:=I.lstM hB;have hsz:its.toArray.size+jW.toArray.size<=sizeLine:=by rw [Xk,Xk]; omega
 have hlong:¬ (!its.toArray.isEmpty&&Builtin.List.listTooLong (its.toArray.size+jW.toArray.size))=true:=by
  rw [pq hsz,aaK];exact Xq
 refine call_meets F.slot_list_extend ⟨_,e,rfl⟩ F.entry_list_extend (F.args_list_extend_2 _ _)
  (AutoSeq1.list_extend_list_list_0 l its.toArray n b jW.toArray n2 hlong (by rw [Xk]; omega) (by omega)) ⟨e,e2,?_⟩
 exists .non,_,I.lset (its':=its++jW) hH e (by simp) (r.append r2) ?_,rfl,q;rw [W7];omega
inductive N4 (x:V) (vs:List V) (H:Hp) (Q:VK):Prop
 | mk (l xs y):(x=.ref l)->(vs=[])->(H l=some (.lst xs))->(xs[xs.length - 1]?=some y)->(Q y (upd H l (.lst xs.dropLast)))->N4  x vs H Q
theorem jV:MtM X "list.pop" N4:=by
 intro ae s σ H x vs v us Q I rx rv h;obtain ⟨l,xs,y,rfl,rfl,hH,hy,q⟩:=h;cases rx;have hus:=rv.zero;subst hus;obtain ⟨z,its,n,r,hl,e⟩:=I.lstM hH;obtain ⟨u,hu,ru⟩:=r.get hy;have Vp:its.toArray[its.toArray.size - 1]?=some u:=by
  show its.toArray[its.length - 1]?=some u;rw [<- Array.getElem?_toList,<- hl];exact hu
 refine call_meets F.slot_list_pop ⟨_,e,rfl⟩ F.entry_list_pop (F.args_list_pop_1 _) (MeetsSeq.list_pop_last l its.toArray n u Vp (by rw [Xk]; omega)) ⟨e,?_⟩;exists y,_,I.lset (its':=its.dropLast) hH e ?_ r.dropLast ?_,ru,q
 ·show its.toArray.eraseIdxIfInBounds (its.toArray.size - 1)=its.dropLast.toArray;rw [Xk,List.eraseIdxIfInBounds_toArray,A5]
 ·rw [List.length_dropLast];omega
inductive LC (x:V) (y:V) (H:Hp) (Q:VK):Prop
 | mk (l b xs zs):(x=.ref l)->(y=.ref b)->(H l=some (.lst xs))->(H b=some (.lst zs))->(xs.length+zs.length<=sizeLine)->(∀ p,H p=none->Q (.ref p) (upd H p (.lst (xs++zs))))->LC  x y H Q
theorem bQ:OpR X (binaryOp .Add) LC:=by
 intro ae s σ H x y v u Q I rx ry h;obtain ⟨l,b,xs,zs,rfl,rfl,hH,hB,hz,q⟩:=h;cases rx;cases ry;obtain ⟨z,its,n,r,hl,e⟩:=I.lstM hH;obtain ⟨z2,jW,n2,r2,ou,e2⟩:=I.lstM hB;refine PySem.P.add_list e e2 ?_ (by rw [Xk,Xk]; omega);have ea:its.toArray++jW.toArray=(its++jW).toArray:=by simp
 rw [ea];exists .ref _,_,I.lnew (t':=s.toks) (r.append r2) (by rw [W7]; omega),rfl,q _ I.fresh
inductive NN (x:V) (y:V) (H:Hp) (Q:VK):Prop
 | mk (l k xs):(x=.ref l)->(y=.int k)->(H l=some (.lst xs))->(-(2 ^ 63)<=k)->(k<2 ^ 63)->(xs.length*k.toNat<=sizeLine)->(∀ p,H p=none->Q (.ref p) (upd H p (.lst (XG k.toNat xs).flatten)))->NN  x y H Q
theorem Jw {α:Type} (xs:List α) (k:Nat):(XG k xs).flatten.length=k*xs.length:=by
 induction k with
 | zero=>simp
 | succ k ih=>rw [Yg,Yx,W7,ih,Nat.succ_mul,Nat.add_comm]
theorem FN:OpR X (binaryOp .Mult) NN:=by
 intro ae s σ H x y v u Q I rx ry h;obtain ⟨l,k,xs,rfl,rfl,hH,h1,h2,hz,q⟩:=h;cases rx;obtain ⟨t,rfl⟩:=ry;obtain ⟨z,its,n,r,hl,e⟩:=I.lstM hH;have cI:its.toArray.size*k.toNat<=sizeLine:=by rw [Xk,<- hl]; exact hz
 have hcap:¬ its.toArray.size*k.toNat > (2 ^ 63 - 1) / 8:=by
  have:(sizeLine:Nat)<=(2 ^ 63 - 1) / 8:=by decide
  omega
 have hfit:¬ (!Builtin.List.listFitsIndex k)=true:=by
  rw [fitsIndex_both h1 h2];exact Xq
 have hlong:¬ Builtin.List.listTooLong (its.toArray.size*k.toNat)=true:=by
  rw [pq cI];exact Xq
 have hnew:aaI (fun x1 x2=>x1++x2) #[] (XG (if its.toArray.isEmpty=true then 0 else k.toNat) its.toArray)=(XG k.toNat its).flatten.toArray:=by
  have f0:∀ m:Nat,aaI (fun x1 x2=>x1++x2) #[] (XG m its.toArray)=(XG m its).flatten.toArray:=fun m=>by
   have:=uJ its m []
   rw [Xz] at this;exact this
  rw [f0];cases its with
  | nil=>simp
  | cons a r'=>rw [if_neg (by simp)]
 refine wpAny_binaryOp_repeat_ref (T := "list") (U := "int") (by decide) ⟨_,e,rfl⟩ (fun s'=>typeIs_int s' k t) noFill_list_mul F.fills_int_mul F.slot_int_rmul repeat_list F.slot_int_index.lookup
  (call_meets F.slot_int_rmul (typeIs_int s k t) F.entry_int_rmul (F.args_int_rmul_2 _ _) (int___rmul___int_list k t l its.toArray n)
   ⟨e,rfl,⟨_,e,rfl⟩,call_meets F.slot_list_mul ⟨_,e,rfl⟩ F.entry_list_mul (F.args_list_mul_2 _ _) (AutoListH.list___mul___list_int_3 l its.toArray n k t hfit hcap hlong) ⟨e,?_⟩⟩)
 rw [hnew];exists .ref _,_,I.lnew (t':=s.toks) (r.rep k.toNat) (by rw [Jw,Nat.mul_comm]; exact hz),rfl,q _ I.fresh
end
section
variable {prog:Program} {w:World} {A:Around} {E:Value->Shared->Prop} {s:Shared}
end
section
variable {X:Cx}
end
end L2
namespace Att
open PySem PySem.W PySem.Calls PyProof.Rows
theorem oE {P:Params} {h:Heap}:∀ (ns:List Int) (vs:List Value),WellAll P h vs (ns.map WData.int)->IntsAre vs ns:=by
 intro ns
 induction ns with
 | nil =>
  intro vs w;rw [XZ] at w;cases w;exact .nil
 | cons n ns ih =>
  intro vs w;rw [Xp] at w;cases w with
  | cons a b =>
   cases a;exact .cons _ _ (ih _ b)
theorem DU {l:OpenLaw} {n:Nat} (hn:l.most=some n) {P:Params} {h:Heap} {args:List WData} {vals:List Value}
  (hpre:l.row.toRowW.claim.pre args=true) (jY:WellAll P h vals args) :
  ∃ a vs ns,vals=[Value.ref a]/\args=[WData.list (ns.map WData.int)]/\h.get? a=some { cls:=.type "list",data:=.seq vs.toArray }/\IntsAre vs ns/\ns.length<=n:=by
 have hsh:WShape.hasAll [] args [.list .int]=true:=(pre_splitW hpre).1;have hc:l.pre.holds [] { args:=args }=true:=(pre_splitW hpre).2;obtain ⟨d,r,rfl,h1,h2⟩:=hasAllW_cons hsh;obtain rfl:=hasAllW_nil h2;obtain ⟨xs,rfl,h3⟩:=hasW_list h1;obtain ⟨ns,rfl⟩:=items_int h3;have cI:ns.length<=n:=by
  unfold OpenLaw.pre at hc;have h4:(WTm.not (.lt (.lit (.int (n:Int))) (.len (.arg 0)))).holds [] { args:=[.list (ns.map .int)] }=true:=by
   have h4:=(holds_andW hc).1;rw [hn] at h4;exact h4
  have h5:=condW_of h4 (w_not (w_lt w_lit (w_len_list (w_arg rfl))));rw [W8] at h5;refine Nat.le_of_not_lt fun q=>?_
  have q':(n:Int)<((ns.length:Nat):Int):=by omega
  first
   | (rw [decide_eq_true q'] at h5; exact absurd h5 (by decide))
   | (simp at h5; omega)
 cases jY with
 | cons w1 w2 =>
  cases w2;cases w1 with
  | list ho hall=>exact ⟨_,_,ns,rfl,rfl,ho,oE ns _ hall,cI⟩
theorem DY (l:OpenLaw) (args:List WData):l.row.toRowW.claim.post args (.bool true) args=true :=
 postW_of (r:=l.row.toRowW) (X:=(true==true))
  (show WShape.has [] (.bool true) .bool=true by first | rfl | decide | simp [WShape.has,WShape.arms,WShape.armsAll])
  (show (WTm.eq .res (.lit (.bool true))).value [] { args:=args,res:=some (.bool true),after:=args }=some (.bool (true==true)) from w_eq_bool (w_res rfl) w_lit) rfl
theorem attach_call {l:OpenLaw} {n:Nat} {q:Program} {loose:List Str} {XP:(Str->Option Value)->Heap->Prop} {YP:World->Heap->Prop} {d:DefRec}
  (hn:l.most=some n) (hdf:d.params.defaults=[])
  (call:∀ (w:World) (s₀ s₁:Shared) (mg mb:Str->Option Value) (fa:Addr) (o:Obj) (pm cd doc:Value) (a:Addr) (vs:List Value) (ns:List Int),
   Ground q loose [] XP w s₀ mg mb s₁.heap->YP w s₁.heap ->
   s₁.heap.get? fa=some o->o.data=.func (docDef d.name d.params d.body d.scope pm cd doc)->s₁.heap.CodeRec cd d.name->mg d.name=some (.ref fa) ->
   s₁.heap.get? a=some { cls:=.type "list",data:=.seq vs.toArray }->IntsAre vs ns->ns.length<=n->s₁.gens=#[] ->
   codeAny (model l.prog w) callerA (.call (.ref fa) ⟨[.ref a],[]⟩) (fun r s'=>r=.ok (.ret (.bool true))/\OldK s₁.heap s'.heap/\s'.os=s₁.os/\AllBare s'.gens) s₁) :
  WalkO q loose XP YP l.row.toRowW d [] (fun f vs=>PySem.call f vs):=by
 intro w s₀ s₁ mg mb G Y fa o pm cd doc dV kV ho hd hcd hD hmg hg args vals as hpre hlay QM jY hlo;obtain rfl:dV=.none:=Dflts.none hD hdf;obtain rfl:kV=.none:=Dflts.noKw hD;obtain ⟨a,vs,ns,rfl,rfl,hobj,hints,cI⟩:=DU hn hpre jY;refine enter_call (codeAny_mono (call w s₀ s₁ mg mb fa o pm cd doc a vs ns G Y ho (fd_plain hd) hcd hmg hobj hints cI hg) fun r s' hq=>?_);obtain ⟨rfl,h2,h3,h4⟩:=hq;exists .inl ⟨.bool true,.bool true,[],rfl,fun _=>rfl,.bool true,DY l _,fun _=>⟨List.Pairwise.nil,fun _ hm=>(nomatch hm)⟩⟩,h2,h3,h4
section
variable {prog:Program} {w:World} {A:Around} {E:Value->Shared->Prop} {s:Shared} {K:Frag}
end
end Att
namespace L2
open PySem PySem.Spec PyProof.Rows
theorem um:∀ {vs:List Value} {ns:List Int},IntsAre vs ns->aI (ns.map V.int) vs
 | _,_,.nil=>.nil
 | _,_,.cons n t h=>.cons ⟨t,rfl⟩ (um h)
noncomputable def MI (H:Hp):Prop:=∀ b,H b=none\/∃ o xs,H b=some (.frz o (.lst xs))
theorem ED {P:Program} {w:World} {K:Frag} {mg mb:Str->Option Value} {CX:CXT} {k:Nat} {fa a:Addr} {fd:FuncData} {x:Str} {sp:Sp} {s₁:Shared} {vs:List Value} {ns:List Int}
  (KX:K.In s₁.heap) (hns:s₁.heap.Ns mainGlobals mg) (hb:s₁.heap.Ns builtinsNs mb) (hbb:∀ x:Str,x ≠ "__name__"->mb x=bootBuiltins x) (hlim:s₁.heap.NoLimit) (hg:s₁.gens=#[])
  (ha:s₁.heap.get? a=some { cls:=.type "list",data:=.seq vs.toArray }) (hi:IntsAre vs ns) (hl:ns.length<=sizeLine) (hr:d7 k callerA)
  (F:∀ base:Heap,K.In base->base.Ns mainGlobals mg->eI P w K mg base CX k fa fd [x] sp) (hbind:∀ (s:Shared) (u:Value),BindsTo s fd ⟨[u],[]⟩ [(x,u)])
  (hsp:∀ H:Hp,MI H->SqL K H a (ns.map V.int)->sp [.ref a] H (fun v _=>v=.bl true) fun _ _ _=>False)
  (hCX:∀ H e s',CX [] H s₁ (fun _ _ _=>False) e s'->False) :
  codeAny (model P w) callerA (.call (.ref fa) ⟨[.ref a],[]⟩) (fun r s'=>r=.ok (.ret (.bool true))/\OldK s₁.heap s'.heap/\s'.os=s₁.os/\AllBare s'.gens) s₁:=by
 have rv:=um hi;have lenV:=hi.length
 -- from an abstract heap in which nothing but the script may be tracked
 have core:∀ H:Hp,MI H->SqL K H a (ns.map V.int)->HOk P w H s₁.heap->(∀ b,H b≠none->b=a)->(H a≠none->K.lookup a=none) ->
   codeAny (model P w) callerA (.call (.ref fa) ⟨[.ref a],[]⟩) (fun r s'=>r=.ok (.ret (.bool true))/\OldK s₁.heap s'.heap/\s'.os=s₁.os/\AllBare s'.gens) s₁:=by
  intro H hO hS hok hA hK;have base_of:∀ {b:Addr} {o:Obj},s₁.heap.get? b=some o->H b=none->(vA s₁.heap H).get? b=some o:=fun e n=>Gw e n
  have noA:∀ {b:Addr} {o:Obj} {es:Array DictEntry} {ep:Nat},s₁.heap.get? b=some o->o.data=.dict es ep->H b=none:=fun {b o es ep} e d=>by
   cases q:H b with
   | none=>rfl
   | some u =>
    have e':b=a:=hA b (by rw [q]; simp);subst e';rw [ha] at e; cases e;have d':Data.seq vs.toArray _=Data.dict es ep:=d;cases d'
  have nsK:∀ {b:Addr} {m:Str->Option Value},s₁.heap.Ns b m->(vA s₁.heap H).Ns b m:=fun {b m} ⟨o,es,ep,e,d,r⟩=>⟨o,es,ep,base_of e (noA e d),d,r⟩
  have hKb:K.In (vA s₁.heap H):=fun b o e=>base_of (KX b o e) (by
   cases q:H b with
   | none=>rfl
   | some u =>
    have e':b=a:=hA b (by rw [q]; simp);subst e';rw [hK (by rw [q]; simp)] at e; cases e)
  have hM:Mod K mg (vA s₁.heap H):=⟨hKb,nsK hns,⟨mb,nsK hb,hbb⟩,let ⟨mc,h1,h2⟩:=hlim; ⟨mc,nsK h1,h2⟩⟩;have e0:Bl P w K mg (vA s₁.heap H) callerA [] s₁ H:=⟨rfl,hM,fun b o e=>Jj e,aar (Db _ _),trivial,fun b hb=>absurd (show b∈([]:List Addr) from hb) (by simp),hok,.of_eq hg⟩;refine codeAny_mono ((F _ hKb (nsK hns)).run callerA [] s₁ H ⟨[.ref a],[]⟩ [.ref a] [.ref a] _ _ hr e0 (hbind s₁ (.ref a)) (.cons rfl .nil) (hsp H hO hS)) fun r s' h=>?_
  cases r with
  | error e=>exact (hCX H e s' h).elim
  | ok fl =>
   cases fl with
   | next=>exact False.elim h
   | brk=>exact False.elim h
   | cont=>exact False.elim h
   | ret u =>
    obtain ⟨v,H',os,bare,un,RV,r',q⟩:=h;have q':v=.bl true:=q;subst q';obtain rfl:u=Value.bool true:=r';exists rfl,OldK.of_keep fun b o e=>?_,os,bare
    cases q:H b with
    | none=>exact un.keep b o e q (by intro z; exact absurd (show b∈([]:List Addr) from z) (by simp)) (by simp)
    | some u =>
     rcases hO b with z | ⟨ob,xs,z⟩
     ·rw [q] at z; cases z
     ·have z2:=un.frzs b ob _ z;obtain ⟨e1,_⟩:=hok b _ z;obtain ⟨e2,_⟩:=RV b _ z2;rw [e] at e1; cases e1;exact e2
 cases hk:K.lookup a with
 | some o =>
  -- the script is one of the module's own objects
  have e:=KX a o hk;rw [ha] at e;cases e;refine core (fun _=>none) (fun _=>.inl rfl) (.inr ⟨_,vs.toArray,_,hk,rfl,rfl,rfl,by rw [Xk,lenV]; exact hl,by simpa using rv⟩) (fun b u z=>by have z':(none:Option HO)=some u:=z; cases z') (fun b z=>absurd rfl z) fun z=>absurd rfl z
 | none =>
  refine core (fun b=>if b=a then some (.frz { cls:=.type "list",data:=.seq vs.toArray } (.lst (ns.map V.int))) else none) (fun b=>?_) (.inl (.inr ⟨{ cls:=.type "list",data:=.seq vs.toArray },if_pos rfl⟩)) (fun b u z=>?_) (fun b z=>?_) fun _=>hk
  ·by_cases hb:b=a
   ·exact .inr ⟨_,_,if_pos hb⟩
   ·exact .inl (if_neg hb)
  ·by_cases hb:b=a
   ·have z':=(if_pos hb).symm.trans z;cases z';subst hb;exists ha,by rw [W8]; exact hl,vs,_,rv,ha
   ·have z':=(if_neg hb).symm.trans z;cases z'
  ·by_cases hb:b=a
   ·exact hb
   ·exact absurd (if_neg hb) z
theorem walk_of {l:Zt} {n k:Nat} {q:Program} {loose:List Str} {XP:(Str->Option Value)->Heap->Prop} {YP:World->Heap->Prop} {d:DefRec} {K:Params->Frag} {CX:World->CXT} {sp:World->Sp} {x:Str}
  (hn:l.most=some n) (QF:n<=sizeLine) (hdf:d.params.defaults=[]) (hr:d7 k callerA)
  (hY:∀ (w:World) (h:Heap),YP w h->(K w.params).In h)
  (F:∀ (w:World) (mg:Str->Option Value) (fa:Addr) (h:Heap),(K w.params).In h->h.Ns mainGlobals mg->mg d.name=some (.ref fa) ->
   ∃ fd:FuncData,(∀ (s:Shared) (u:Value),BindsTo s fd ⟨[u],[]⟩ [(x,u)]) /\
    ∀ base:Heap,(K w.params).In base->base.Ns mainGlobals mg->eI l.prog w (K w.params) mg base (CX w) k fa fd [x] (sp w))
  (hsp:∀ (w:World) (H:Hp) (a:Addr) (ns:List Int),ns.length<=n->MI H->SqL (K w.params) H a (ns.map V.int)->sp w [.ref a] H (fun v _=>v=.bl true) fun _ _ _=>False)
  (hCX:∀ (w:World) (H:Hp) (s:Shared) (e:Value) (s':Shared),CX w [] H s (fun _ _ _=>False) e s'->False) :
  aaN q loose XP YP l.row.toRowW d [] (fun f vs=>PySem.call f vs):=by
 refine Att.attach_call hn hdf fun w s₀ s₁ mg mb fa o pm cd doc a vs ns G Y ho hd hcd hmg hobj hints cI hg=>?_
 have KX:=hY w _ Y;obtain ⟨fd,hb,hF⟩:=F w mg fa _ KX G.T.g hmg;exact ED KX G.T.g G.T.b G.T.builtins G.T.nolimit hg hobj hints (XC cI QF) hr hF hb (fun H hO hS=>hsp w H a ns cI hO hS) fun H e s'=>hCX w H s₁ e s'
end L2
/- THE LAST THEOREM (shape; LID,My.* are yours):
  My.Adr: a structure of the addresses that your layer names (classes,functions); My.Txt K t: a structure (Prop) of the equations over K;
  My.txt_mk:{K} {implicit addresses ..} (e1:nsIn K mainGlobals "law"=some (some (.ref f))) (e2:K.lookup f=some ⟨oc,od,.func (fnOf "law" "law" params body scope dV kV doc pm an gm ct),sl⟩) (e3:codeIn K gm "law"=true) ..:∃ t,My.Txt K t
(the tactic k_is has no namespace: write k_is) -/
namespace L2
open PySem PySem.Spec PyProof.Rows
noncomputable def defArgs (s:Stmt):Arguments:=match s with
 | .FunctionDef _ a _ _ _ _ _ _ _ _=>a
 | _=>{ posonlyargs:=[],args:=[],vararg:=none,kwonlyargs:=[],kw_defaults:=[],kwarg:=none,defaults:=[] }
noncomputable def defBody (s:Stmt):List Stmt:=match s with
 | .FunctionDef _ _ b _ _ _ _ _ _ _=>b
 | _=>[]
noncomputable def defScope (s:Stmt):Scope:=match s with
 | .FunctionDef _ _ _ _ _ _ sc _ _ _=>sc
 | _=>{ kind:=.function,names:=[],isGenerator:=false,isCoroutine:=false }
abbrev CX0:CXT:=fun _ _ _ _ _ _=>False
abbrev E0:XK:=fun _ _ _=>False
theorem dU {X:Cx}:jJ CX0 X E0:=fun _ _ _ _ _ _ _ h=>h.elim
structure Fun (K:Frag) (x qual:Str) (st:Stmt) (f:Addr) (fd:FuncData):Prop where
 ex:∃ (oc:Value) (od:Option Addr) (kV doc pm:Value) (an:Option Addr) (gm ct:Value) (osl:Array (Option Value)),
  fd=PySem.W.fnOf x qual (defArgs st) (defBody st) (defScope st) .none kV doc pm an gm ct/\K.lookup f=some ⟨oc,od,.func fd,osl⟩/\PySem.W.codeIn K gm qual=true
 kp:keepIn K (.ref f)=true
section
variable {P:Program} {w:World} {K:Frag} {mg:Str->Option Value} {base:Heap}
theorem Fun.ok {x qual:Str} {st:Stmt} {f:Addr} {fd:FuncData} {N ps:List Str} {k:Nat} {sp:Sp} (F:Fun K x qual st f fd) (S:aA N ps (defScope st)) (len:∀ vs H Q E,sp vs H Q E->vs.length=ps.length)
  (hbody:∀ (gm:Value) (A:Around) (outer:List Env) (s:Shared) (H:Hp) (vs:List V) (Q:VK) (E:XK),d7 k (A.deeper (envOfC qual (defScope st) s.heap.objs.size f gm))->sp vs H Q E ->
   ∃ t,PSs (Dp CX0 P w K mg base N qual (defScope st) f gm A outer s H E).nox (defBody st) t/\t { nx:=fun _ H'=>Q .non H',rt:=Q } (nX N vs) H):eI P w K mg base CX0 (k+1) f fd ps sp:=by
 obtain ⟨oc,od,kV,doc,pm,an,gm,ct,osl,rfl,lk,hcd⟩:=F.ex;refine On lk hcd S len fun A outer s H vs Q E hr hsp=>?_
 obtain ⟨t,h,q⟩:=hbody gm A outer s H vs Q E hr hsp;exists t,h.nox,q
theorem Fun.binds {x qual:Str} {st:Stmt} {f:Addr} {fd:FuncData} {ps:List Str} (F:Fun K x qual st f fd)
  (h:∀ (kV doc pm:Value) (an:Option Addr) (gm ct:Value) (us:List Value),us.length=ps.length->bindArgs (PySem.W.fnOf x qual (defArgs st) (defBody st) (defScope st) .none kV doc pm an gm ct) ⟨us,[]⟩=pure (ps.zip us)):cH K fd ps []:=by
 obtain ⟨oc,od,kV,doc,pm,an,gm,ct,osl,rfl,lk,hcd⟩:=F.ex;exact .all (h kV doc pm an gm ct)
theorem Ik {x qual:Str} {st:Stmt} {f:Addr} {oc:Value} {od an:Option Addr} {osl:Array (Option Value)} {kV doc pm gm ct:Value} (l:K.lookup f=some ⟨oc,od,.func (PySem.W.fnOf x qual (defArgs st) (defBody st) (defScope st) .none kV doc pm an gm ct),osl⟩)
  (c:PySem.W.codeIn K gm qual=true) (k:keepIn K (.ref f)=true):Fun K x qual st f (PySem.W.fnOf x qual (defArgs st) (defBody st) (defScope st) .none kV doc pm an gm ct):=⟨⟨oc,od,kV,doc,pm,an,gm,ct,osl,rfl,l,c⟩,k⟩
end
theorem KF {A:Around} {k:Nat} (hr:d7 k A):A.units+1<cLine:=Y0 (Nat.add_le_add_left (by decide:1<=64) _) hr.units
theorem ap {n:Nat} (h:n<=1000):n<sizeLine:=Y0 h (by decide)
section
variable {X:Cx}
theorem pv (i:Nat) {x:Str} {pos:Pos} (hN:X.N[i]?=some x:=by rfl) (hv:Vis X.env.scope x:=by first | exact Yi rfl | exact Yz (Yi rfl) | exact Yz (Yz rfl)) (hd:(x==("__debug__":Str))=false:=by decide)
  (hcd:(x==("__classdict__":Str))=false:=by decide):PE X (.Name x pos) (JR i):=Mn hN hv hd hcd
end
theorem fI {A B:Prop} (h:B):if false=true then A else B:=by
 rw [if_neg Xq];exact h
theorem dO {A B:Prop} (h:A):if true=true then A else B:=by
 rw [if_pos rfl];exact h
theorem au {c A B:Prop} [Decidable c] (h1:c->A) (h2:¬ c->B):if c then A else B:=by
 by_cases h:c
 ·rw [if_pos h];exact h1 h
 ·rw [if_neg h];exact h2 h
noncomputable def av (H H':Hp):Prop:=∀ b o,H b=some o->H' b=some o
theorem av.refl (H:Hp):av H H:=fun _ _ h=>h
theorem av.trans {H H1 H2:Hp} (a:av H H1) (b:av H1 H2):av H H2:=fun c o h=>b c o (a c o h)
theorem av.free {H H':Hp} (e:av H H') {l:Addr} (h:H' l=Option.none):H l=Option.none:=by
 cases q:H l with
 | none=>rfl
 | some o =>
  rw [e l o q] at h;cases h
open PySem PySem.Spec PyProof.Rows
section
variable {prog:Program} {w:World} {A:Around} {R:Result->Shared->Prop} {s:Shared}
theorem xE {elt target iter:Expr} {ifs:List Expr} {scope:Scope} {pos:Pos} {it ar:Value} {env:Env} (I:Nat->Shared->Prop)
  (turn:∀ n s,I n s->wpAny (model prog w) A (pyNext it) (fun r s₁=>match r with
   | none=>R (.ok .next) s₁
   | some v=>wpAny (model prog w) A (letOwnedTupleGo target it v) (fun _ s₁'=>wpAny (model prog w) A (assign target env v) (fun _ s₂ =>
     wpAny (model prog w) A (forIn ifs true fun c r=>if r=true then do let ok <- isTrue c env (eval c env); pure (ForInStep.yield ok) else pure (ForInStep.yield r)) (fun ok s₃ =>
      if ok=true then wpAny (model prog w) A (eval elt env) (fun x s₄ =>
       wpAny (model prog w) A (call (.builtin "list.append") [ar,x]) (fun _ s₅=>∃ m,m<n/\I m s₅) (fun _ _=>False) s₄) (fun _ _=>False) s₃
      else ∃ m,m<n/\I m s₃) (fun _ _=>False) s₂) (fun _ _=>False) s₁') (fun _ _=>False) s₁) (fun _ _=>False) s)
  (n:Nat) (h:I n s) :
  codeAny (model prog w) A (.compLoop (.ListComp elt [⟨target,iter,ifs,0⟩] scope pos) 0 it ar env) R s:=by
 refine codeAny_loop rfl I (fun n s hI=>?_) n h;show wpAny _ A ((compTurn (.ListComp elt [⟨target,iter,ifs,0⟩] scope pos) 0 it ar env).onRaise (fun x=>do noteFrame x env; theTreesLotGoes x)) _ _ s;refine wpAny_noted ?_;rw [compTurn_list];refine wpAny_bind (wpAny_standAt (wpAny_bind (wpAny_mono (turn n s hI) (fun r s₁ h₁=>?_) fun _ _ h'=>h'.elim)));cases r with
 | none=>exact wpAny_pure h₁
 | some v =>
  refine wpAny_bind (wpAny_mono h₁ (fun _ s₁' h₁'=>?_) fun _ _ h'=>h'.elim);refine wpAny_bind (wpAny_mono h₁' (fun _ s₂ h₂=>wpAny_bind (wpAny_mono h₂ (fun ok s₃ h₃=>?_) fun _ _ h'=>h'.elim)) fun _ _ h'=>h'.elim);cases ok with
  | false=>exact wpAny_pure ⟨rfl,h₃⟩
  | true =>
   exact wpAny_bind (wpAny_bind (wpAny_mono h₃ (fun x s₄ h₄=>wpAny_bind (wpAny_mono h₄ (fun _ s₅ h₅=>wpAny_pure (wpAny_pure ⟨rfl,h₅⟩)) fun _ _ h'=>h'.elim)) fun _ _ h'=>h'.elim))
end
noncomputable def clo (env:Env):List (Str×NameKind)->List (Str×Addr)->List (Str×Addr)
 | [],cs=>cs
 | (n,k)::r,cs=>if k==.free then (match env.cells.lookup n with
  | some c=>clo env r ((n,c)::cs)
  | none=>clo env r cs) else clo env r cs
theorem i6 {scope:Scope} {env:Env} (h:∀ x∈scope.names,x.2=.free->∃ c,env.cells.lookup x.1=some c):closureFor scope env=pure (clo env scope.names []):=by
 have go:∀ (l:List (Str×NameKind)) (cs:List (Str×Addr)),(∀ x∈l,x.2=.free->∃ c,env.cells.lookup x.1=some c) ->
   (forIn (m:=Sem) l cs fun x r=>if (x.2==NameKind.free)=true then do let c <- cellOf env x.1; pure (ForInStep.yield ((x.1,c)::r)) else pure (ForInStep.yield r))=pure (clo env l cs):=by
  intro l
  induction l with
  | nil=>intro cs _; rfl
  | cons x r ih =>
   intro cs hx;obtain ⟨n,k⟩:=x;rw [List.forIn_cons];unfold clo;cases hk:k==NameKind.free with
   | true =>
    obtain ⟨c,hc⟩:=hx (n,k) Xl (by simpa using hk);simp only [hk,if_true,cellOf,hc];exact ih _ fun y hy=>hx y (Xg _ hy)
   | false =>
    simp only [hk,Zd,if_false];exact ih _ fun y hy=>hx y (Xg _ hy)
 have e:=go scope.names [] h;unfold closureFor;exact congrArg (fun t:Sem (List (Str×Addr))=>t >>= fun r=>pure r) e
theorem iE {env:Env}:∀ (l:List (Str×NameKind)) (cs:List (Str×Addr)),(∀ p∈cs,env.cells.lookup p.1=some p.2)->∀ p∈clo env l cs,env.cells.lookup p.1=some p.2
 | [],cs,h,p,hp=>h p hp
 | (n,k)::r,cs,h,p,hp=>by
  unfold clo at hp
  split at hp
  ·split at hp
   ·next c hc =>
    refine iE r _ (fun q hq=>?_) p hp;rcases Xa.mp hq with e | hq
    ·subst e; exact hc
    ·exact h q hq
   ·exact iE r cs h p hp
  ·exact iE r cs h p hp
theorem kh {env:Env}:∀ (l:List (Str×NameKind)) (cs:List (Str×Addr)),∀ p∈cs,p∈clo env l cs
 | [],_,_,hp=>hp
 | (n,k)::r,cs,p,hp=>by
  unfold clo
  split
  ·split
   ·exact kh r _ p (Xg _ hp)
   ·exact kh r _ p hp
  ·exact kh r _ p hp
theorem o4 {env:Env} {x:Str} {c:Addr} (hc:env.cells.lookup x=some c):∀ (l:List (Str×NameKind)) (cs:List (Str×Addr)),(x,NameKind.free)∈l->(x,c)∈clo env l cs
 | [],_,h=>nomatch h
 | (n,k)::r,cs,h=>by
  unfold clo;rcases Xa.mp h with e | h
  ·cases e;simp only [beq_self_eq_true,if_true,hc];exact kh r _ _ Xl
  ·split
   ·split
    ·exact o4 hc r _ h
    ·exact o4 hc r _ h
   ·exact o4 hc r _ h
theorem gL {cs:List (Str×Addr)} {f:Str->Option Addr} (h:∀ p∈cs,f p.1=some p.2) {x:Str} {c:Addr} (e:cs.lookup x=some c):f x=some c:=h _ (PySem.mem_of_lookup e)
theorem rq {x:Str} {c:Addr}:∀ {cs:List (Str×Addr)},(∀ p∈cs,p.1=x->p.2=c)->(x,c)∈cs->cs.lookup x=some c
 | [],_,h=>nomatch h
 | (n,d)::r,ha,h=>by
  rw [Zp];cases e:x==n with
  | true =>
   have e':x=n:=by simpa using e
   have:=ha (n,d) Xl e'.symm
   simp at this ⊢;exact this
  | false =>
   rcases Xa.mp h with z | h
   ·cases z; simp at e
   ·exact rq (fun p hp=>ha p (Xg _ hp)) h
theorem qY {env:Env} {names:List (Str×NameKind)} {x:Str} {c:Addr} (hc:env.cells.lookup x=some c) (h:(x,NameKind.free)∈names):(clo env names []).lookup x=some c :=
 rq (fun p hp e=>by have:=iE names [] (fun _ z=>nomatch z) p hp; rw [e,hc] at this; exact (Option.some.inj this).symm) (o4 hc names [] h)
noncomputable def slots (ρ:List (Option Nat)) (σ:St):St:=ρ.map fun o=>o.bind fun j=>(σ[j]?).join
noncomputable def blk (X:Cx) (scope:Scope) (N':List Str) (C:Addr) (s₀:Shared) (H₀:Hp) (ex:List Addr):Cx :=
 { X with N:=N',s₀:=s₀,H₀:=H₀,env:=compEnvC scope (clo X.env scope.names []) C X.env,outer:=X.stack,stack:=X.stack,ex:=ex,fn:=fun _=>false,pn:=[],xe:=fun _ _=>False }
structure bL (X:Cx) (scope:Scope) (N':List Str) (ρ:List (Option Nat)) (m:Nat):Prop where
 kind:scope.kind=.function
 nocell:∀ x∈scope.names,x.2≠.cell
 names:∀ x∈scope.names,x.2=.local->scope.names.lookup x.1=some .local
 frees:∀ x∈scope.names,x.2=.free->X.env.kindOf x.1=some .cell\/X.env.kindOf x.1=some .free
 len:ρ.length=N'.length
 own:∀ (i j:Nat),ρ[i]?=some (some j)->m<=i
 slot:∀ (i j:Nat) (x:Str),ρ[i]?=some (some j)->N'[i]?=some x->X.N[j]?=some x/\(x,NameKind.free)∈scope.names
 slotNoLocal:∀ (i j:Nat) (x:Str),ρ[i]?=some (some j)->N'[i]?=some x->(relabel scope X.env).names.lookup x≠some .local
theorem fE {env:Env}:∀ {names:List (Str×NameKind)} {x:Str} {k:NameKind},(names.map fun (n,k)=>if (k==NameKind.free&&env.scope.kind==.function&&env.kindOf n==some .cell) then (n,NameKind.cell) else (n,k)).lookup x=some k->(k=.cell\/k=.free)->(∀ y∈names,y.2≠.cell)->(x,NameKind.free)∈names
 | [],_,_,h,_,_=>by simp at h
 | (n,k0)::r,x,k,h,hk,hn=>by
  rw [Xp] at h
  by_cases hc:(k0==NameKind.free&&env.scope.kind==.function&&env.kindOf n==some .cell)=true
  ·simp only [hc,if_true,Zp] at h;cases e:x==n with
   | true =>
    have e':x=n:=by simpa using e
    have VA:k0=.free:=by simp [XT] at hc; exact hc.1.1
    subst e'; subst VA;exact Xl
   | false =>
    rw [e] at h;exact Xg _ (fE h hk fun y hy=>hn y (Xg _ hy))
  ·simp only [hc,Zd,if_false,Zp] at h;cases e:x==n with
   | true =>
    rw [e] at h;have e':x=n:=by simpa using e
    subst e';have h':k0=k:=by simpa using h
    subst h';rcases hk with z | z
    ·exact absurd z (hn (x,k0) Xl)
    ·subst z; exact Xl
   | false =>
    rw [e] at h;exact Xg _ (fE h hk fun y hy=>hn y (Xg _ hy))
theorem uu {ρ:List (Option Nat)} {σ:St} {i:Nat} {v:V} (h:(slots ρ σ)[i]?=some (some v)):∃ j,ρ[i]?=some (some j)/\σ[j]?=some (some v):=by
 unfold slots at h;rw [XE] at h;cases e:ρ[i]? with
 | none=>rw [e] at h; cases h
 | some o =>
  rw [e] at h;cases o with
  | none=>simp at h
  | some j =>
   exists j,rfl,?_;simp at h;cases q:σ[j]? with
   | none=>rw [q] at h; simp at h
   | some z=>rw [q] at h; simp at h; rw [h]
section
variable {X:Cx} {ae:List (Addr×Obj)} {σ:St} {H:Hp} {s:Shared} {scope:Scope} {N':List Str} {ρ:List (Option Nat)} {m:Nat}
theorem DS (I:Inv X ae σ H s) (B:bL X scope N' ρ m) {fp:List Addr} (hfp:∀ b∈fp,mH X ae H b) {C D:Addr} {h1:Heap} {tk:Nat} {oD:Obj} {mC:Str->Option Value} (hC:s.heap.objs.size<=C) (hD:s.heap.objs.size<=D) (hDC:D≠C)
  (hfs:∀ b∈fp,b<s.heap.objs.size) (old:∀ b o,s.heap.get? b=some o->h1.get? b=some o) (hns:h1.Ns C mC) (hoD:h1.get? D=some oD) (hdD:∀ v,oD.data≠.cell v) :
  Inv (blk X scope N' C s H fp) [(D,oD)] (slots ρ σ) H { s with heap:=h1,toks:=tk }:=by
 have hcl:∀ x c,(clo X.env scope.names []).lookup x=some c->X.env.cells.lookup x=some c:=fun x c e=>gL (f:=fun y=>X.env.cells.lookup y) (iE scope.names [] fun _ z=>nomatch z) e
 have nofs:∀ b,s.heap.objs.size<=b->b∉frs X.stack:=fun b hb z=>by
  rcases Xa.mp (I.stkSub b z) with e | z
  ·exact absurd (XF I.lt hb) (by rw [e]; exact X3 _)
  ·exact I.nofs hb z
 have lk:∀ x,((relabel scope X.env).names.lookup x=some .cell\/(relabel scope X.env).names.lookup x=some .free)->(x,NameKind.free)∈scope.names:=fun x hx=>by
  rcases hx with hx | hx
  ·exact fE hx (.inl rfl) B.nocell
  ·exact fE hx (.inr rfl) B.nocell
 refine ⟨⟨I.ok.mod,B.kind,I.ok.glob,I.ok.blt,hC,fun x y c h1 h2=>I.ok.inj x y c (hcl x c h1) (hcl y c h2),fun x hx=>?_,fun x c hf _=>absurd hf Xq,I.ok.hd,I.ok.frames,.inl rfl,fun b hb=>⟨XR (XF (hfs b hb) hC),fun x c e=>(hfp b hb).2.2.2.2.1 x c (hcl x c e)⟩,I.bs,XC I.ok.bsz I.sz,fun b o e hb=>?_,fun b hb z=>?_,I.stack,I.stkFree⟩,
  rfl,I.bare,Un.kept old,⟨mC,hns,fun i x v h1 h2 h3=>?_⟩,fun x c e=>?_,I.hok.fresh hC,fun x c e=>I.freeC x c (hcl x c e),fun p hp=>?_,I.hok.kept old,?_⟩
 ·have hm:=lk x hx;obtain ⟨c,hc⟩:=I.ok.has x (B.frees _ hm rfl);exists c,qY hc hm
 ·rcases (hfp b hb).2.2.2.1 with z | z
  ·exact I.ok.noex b o e z
  ·exact absurd (XF (Heap.lt_size (I.ok.bs b o e).1) z) (X3 _)
 ·rcases Xa.mp (I.stkSub b z) with e | z
  ·exact (hfp b hb).2.1 e
  ·exact (hfp b hb).2.2.1 z
 ·obtain ⟨j,hj,hσ⟩:=uu h2;obtain ⟨hN,hm⟩:=B.slot i j x hj h1;have hk:=B.frees _ hm rfl;obtain ⟨m0,WC,hl⟩:=I.loc;obtain ⟨u,r,l⟩:=hl j x v hN hσ (hk.elim (fun z=>.inr (.inl z)) fun z=>.inr (.inr z));rcases l with ⟨z,_⟩ | ⟨_,c,hc,hcell⟩
  ·rcases hk with q | q
   ·rw [q] at z; cases z
   ·rw [q] at z; cases z
  ·exists u,r,.inr ⟨?_,c,qY hc hm,?_⟩
   ·rcases h3 with z | z | z
    ·-- a free name is no local of the block
     exfalso
     have q:(relabel scope X.env).names.lookup x=some .local:=z;exact (B.slotNoLocal i j x hj h1 q)
    ·exact .inl z
    ·exact .inr z
   ·obtain ⟨o,ho,hd⟩:=hcell;exists o,old _ _ ho,hd
 ·obtain ⟨v,o,ho,hd⟩:=I.cell x c (hcl x c e);exists v,o,old _ _ ho,hd
 ·have e:p=(D,oD):=by
   have Lc:p∈([]:List (Addr×Obj))++[(D,oD)]:=hp;simpa using Lc
  subst e;exists hoD,I.hok.fresh hD,hDC,nofs D hD,hdD
 ·show (slots ρ σ).length=N'.length;unfold slots;rw [W8];exact B.len
end
noncomputable def PTs (Y:Cx) (ifs:List Expr) (t:TT):Prop :=
 ∀ (ae:List (Addr×Obj)) (s:Shared) (σ:St) (H:Hp) (Q:Bool->Hp->Prop),Inv Y ae σ H s->t σ H Q ->
  wpAny (model Y.prog Y.w) Y.A (forIn ifs true fun c r=>if r=true then do let ok <- isTrue c Y.env (eval c Y.env); pure (ForInStep.yield ok) else pure (ForInStep.yield r)) (TP Y ae σ Q) Y.xe s
noncomputable def FU:TT:=fun _ H Q=>Q true H
theorem bH {Y:Cx}:PTs Y [] FU:=fun _ _ _ H _ I h=>wpAny_tests_nil ⟨H,I,h⟩
theorem ie {Y:Cx} {c:Expr} {t:TT} (h:PT Y c t):PTs Y [c] t:=fun ae s σ H Q I q=>wpAny_tests_one (h ae s σ H Q I q)
noncomputable def nU (J:It) (m:Nat) (g:TG) (tt:TT) (te:TE) (σ':St) (Z:List V->Hp->Prop) (H1:Hp):Prop :=
 ∃ W:Nat->Nat->List V->Hp->Prop,(∃ k,W 0 k [] H1)/\∀ i k ar H,W i k ar H->ar.length<=sizeLine /\
  ((J.stop i H/\Z ar H)\/(J.go i H/\∀ x H',J.yld i H x H'->g x σ' H' fun σ2 H2=>(σ2.drop m=σ'.drop m/\σ2.length=σ'.length) /\
    tt σ2 H2 fun b H3=>if b=true then te σ2 H3 fun v H4=>ar.length<sizeLine/\∃ k',k'<k/\W (i+1) k' (ar++[v]) H4 else ∃ k',k'<k/\W (i+1) k' ar H3))
noncomputable def Km (wi:TI) (ρ:List (Option Nat)) (m:Nat) (g:TG) (tt:TT) (te:TE):TE:=fun σ H Q=>wi σ H fun J H1 =>
 nU J m g tt te (slots ρ σ) (fun ar H=>∀ D,H D=none->Q (.ref D) (upd H D (.lst ar))) H1
theorem F6 {σ σ':St} {m:Nat} (h:σ.drop m=σ'.drop m) {i:Nat} (hi:m<=i):σ[i]?=σ'[i]?:=by
 have e:(σ.drop m)[i - m]?=(σ'.drop m)[i - m]?:=by rw [h]
 rw [YH,YH] at e
 rwa [show m+(i - m)=i by omega] at e
section
variable {X:Cx} {ae:List (Addr×Obj)} {σ:St} {H2:Hp} {s2:Shared} {scope:Scope} {N':List Str} {ρ:List (Option Nat)} {m:Nat} {elt tg iter:Expr} {ifs:List Expr} {g:TG} {tt:TT} {te:TE} {pos:Pos}
theorem Cd (hc:X.calm=true) (B:bL X scope N' ρ m) (hg:∀ C s₀ H₀ ex,PG (blk X scope N' C s₀ H₀ ex) tg g) (ht:∀ C s₀ H₀ ex,PTs (blk X scope N' C s₀ H₀ ex) ifs tt) (he:∀ C s₀ H₀ ex,PE (blk X scope N' C s₀ H₀ ex) elt te)
  {J:It} {fp:List Addr} {it:Addr} {tn:Nat->Heap->Prop} {Z:List V->Hp->Prop} (I:Inv X ae σ H2 s2) (T:sf X.prog X.w X.K tg J fp it tn) (st:tn 0 s2.heap) (hfp:∀ b∈fp,mH X ae H2 b) (hL:nU J m g tt te (slots ρ σ) Z H2)
  {RR:Value->Addr->Result->Shared->Prop} {E:Value->Shared->Prop}
  (fin:∀ (D C:Addr) (H':Hp) (ar:List V) (s':Shared) (mC:Str->Option Value),s'.heap.Ns C mC->Inv X ae σ (upd H' D (.lst ar)) s'->mH X ae (upd H' D (.lst ar)) C->H' D=none->Z ar H'->RR (.ref D) C (.ok .next) s') :
  wpAny (model X.prog X.w) X.A (newList []) (fun ar s₃=>wpAny (model X.prog X.w) X.A (newFunctionEnv scope X.env.globals (clo X.env scope.names []) [] X.env.qual none .none (some X.env)) (fun cenv s₄ =>
   codeAny (model X.prog X.w) X.A (.compStart (.ListComp elt [⟨tg,iter,ifs,0⟩] scope pos) 0 (.ref it) ar { cenv with scope:=relabel scope X.env }) (RR ar cenv.locals) s₄) E s₃) E s2:=by
 refine wpAny_newObj_type (wpAny_newFunctionEnv B.nocell (by intro y hy; simp at hy) (fun h₁ hns₁ hsb₁=>?_) B.kind);dsimp only at hns₁ hsb₁ ⊢;generalize hHp:s2.heap.push { cls:=.type "list",dict:=none,data:=.seq ([]:List Value).toArray }=Hp2 at hns₁ hsb₁ ⊢;have hCe:Hp2.objs.size=s2.heap.objs.size+1:=by rw [<- hHp,Heap.size_push]
 have hDC:s2.heap.objs.size≠Hp2.objs.size:=by rw [hCe]; exact XR (YB _)
 have hCle:s2.heap.objs.size<=Hp2.objs.size:=by rw [hCe]; exact Nat.le_succ _
 have below:∀ b,b<s2.heap.objs.size->b≠Hp2.objs.size/\b≠s2.heap.objs.size:=fun b hb=>⟨by rw [hCe]; exact XR (Zi hb),XR hb⟩
 have old:∀ b o,s2.heap.get? b=some o->h₁.get? b=some o:=fun b o e=>hsb₁.extBut b o (below b (Heap.lt_size e)).1 (Heap.get?_push_of_some _ (hHp ▸ Heap.get?_push_of_some _ e))
 have hfs:∀ b∈fp,b<s2.heap.objs.size:=fun b hb=>let ⟨o,e,_⟩:=T.obj 0 _ st b hb; Heap.lt_size e
 generalize hDn:s2.heap.objs.size=D at *;generalize hCn:Hp2.objs.size=C at *;have hacc:h₁.get? D=some { cls:=.type "list",data:=.seq ([]:List Value).toArray }:=hsb₁.extBut _ _ hDC (Heap.get?_push_of_some _ (by rw [<- hHp,<- hDn]; exact Heap.get?_push_size _ rfl));have st₁:tn 0 h₁:=T.keep _ _ _ st fun b _ o e=>old b o e
 obtain ⟨W,⟨k0,w0⟩,turn⟩:=hL;have cellLt:∀ x c,(clo X.env scope.names []).lookup x=some c->c<s2.heap.objs.size:=fun x c e=>by
  have e':X.env.cells.lookup x=some c:=gL (f:=fun y=>X.env.cells.lookup y) (iE scope.names [] fun _ z=>nomatch z) e;obtain ⟨v,o,ho,_⟩:=I.cell x c e';exact Heap.lt_size ho
 have stat:∀ {H':Hp} {o:Obj},(∀ b∈fp,H' b=none)->∀ b∈fp,mH (blk X scope N' C s2 H2 fp) [(D,o)] H' b:=fun {H' o} hn b hb=>by
  obtain ⟨_,f1,f2,_,f4,_⟩:=hfp b hb;exists hn b hb,(below b (hfs b hb)).1,fun z=>?_,.inl hb,fun x c e=>f4 x c (gL (f:=fun y=>X.env.cells.lookup y) (iE scope.names [] fun _ z=>nomatch z) e),fun p hp=>?_
  ·rcases Xa.mp (I.stkSub b z) with e | z
   ·exact f1 e
   ·exact f2 z
  ·have e:p=(D,o):=by
    have Lc:p∈([]:List (Addr×Obj))++[(D,o)]:=hp;simpa using Lc
   subst e;exact Ne.symm (below b (hfs b hb)).2
 have loop:∀ s₃:Shared,s₃={ s2 with heap:=h₁,toks:=s2.toks+([]:List (Str×Value)).length } ->
   codeAny (model X.prog X.w) X.A (.compLoop (.ListComp elt [⟨tg,iter,ifs,0⟩] scope pos) 0 (.ref it) (.ref D) (compEnvC scope (clo X.env scope.names []) C X.env)) (RR (.ref D) C) s₃:=by
  rintro s₃ rfl
  have I₁:Inv (blk X scope N' C s2 H2 fp) [(D,{ cls:=.type "list",data:=.seq ([]:List Value).toArray })] (slots ρ σ) H2 { s2 with heap:=h₁,toks:=s2.toks+([]:List (Str×Value)).length } :=
   DS I B hfp (by rw [hDn]; exact hCle) (by rw [hDn]; exact Xc _) hDC (fun b hb=>by rw [hDn]; exact hfs b hb) old hns₁ hacc (fun v z=>by cases z)
  refine xE (fun n s'=>∃ (i:Nat) (ar:List V) (H':Hp) (its:List Value) (kk:Nat),Inv (blk X scope N' C s2 H2 fp) [(D,{ cls:=.type "list",data:=.seq its.toArray kk })] (slots ρ σ) H' s'/\aI ar its/\tn i s'.heap/\(∀ b∈fp,H' b=none)/\W i n ar H') ?_ k0
   ⟨0,[],H2,[],_,I₁,.nil,st₁,fun b hb=>(hfp b hb).1,w0⟩
  rintro n s3 ⟨i,ar,H3,its,kk,I3,rv,st3,fr3,w3⟩
  obtain ⟨cI,cs⟩:=turn i n ar H3 w3;rcases cs with ⟨stop,z⟩ | ⟨go,step⟩
  ·refine thn (T.done (blk X scope N' C s2 H2 fp) rfl rfl rfl hc i _ s3 (slots ρ σ) H3 (fun _ _=>False) I3 (stat fr3) st3 stop) fun r s4 ⟨hr,I4⟩=>?_
   subst hr;obtain ⟨eD,nD,_,_,_⟩:=I4.pin (D,_) (Xy _ (Xi.mpr rfl));obtain ⟨mC,hnsC,_⟩:=I4.loc;have Ez:H2 D=none:=I.hok.fresh (by rw [hDn]; exact Xc _);have u:Un (frs X.stack) fp H2 (upd H3 D (.lst ar)) s2.heap s4.heap :=
    ⟨I4.base.keep,I4.base.slot,fun b o e n hx=>by rw [aj (below b (by rw [<- hDn]; exact Heap.lt_size e)).2]; exact I4.base.free b o e n hx,I4.base.there,
     fun b xs e=>by rw [aj (ay e Ez)]; exact I4.base.tups b xs e,fun b o u e=>by rw [aj (ay e Ez)]; exact I4.base.frzs b o u e,
     fun b ps e=>by rw [aj (ay e Ez)]; exact I4.base.tbls b ps e⟩
   have hok:HOk X.prog X.w (upd H3 D (.lst ar)) s4.heap:=fun b o e=>by
    by_cases hb:b=D
    ·subst hb;rw [ac] at e; cases e;exists cI,its,kk,rv,eD
    ·rw [aj hb] at e;exact (I4.hok b o e).stay (fun c v _ q=>q) (fun c q=>by rw [aj (ay q nD)]; exact q) fun c xs q=>by rw [aj (ay q nD)]; exact q
   have IX:Inv X ae σ (upd H3 D (.lst ar)) s4:=Inv.call' (ch:=fp) I I4.os u hok I4.bare fun b hb=>⟨(hfp b hb).2.2.2.1,(hfp b hb).2.1,(hfp b hb).2.2.2.2.1,(hfp b hb).2.2.2.2.2⟩
   have nC:(upd H3 D (.lst ar)) C=none:=by rw [aj (Ne.symm hDC)]; exact I4.free
   exact fin D C H3 ar s4 mC hnsC IX (I.fpOk (by rw [hDn]; exact hCle) nC) nD z
  ·refine thn (T.item (blk X scope N' C s2 H2 fp) rfl rfl rfl hc i _ s3 (slots ρ σ) H3 (fun _ _=>False) I3 (stat fr3) st3 go) fun r s4 ⟨u,hr,h4⟩=>?_
   subst hr;refine thn h4 fun _ s5 ⟨x,H5,I5,r5,y5,Lf,RT⟩=>?_
   have RM:=I5.pinned (stat RT) (T.obj _ _ Lf);refine thn (hg C s2 H2 fp _ s5 (slots ρ σ) H5 x u _ RM r5 (step x H5 y5)) fun _ s6 ⟨σ6,H6,I6,⟨d6,l6⟩,q6⟩=>?_
   refine thn (ht C s2 H2 fp _ s6 σ6 H6 _ I6 q6) fun b s7 ⟨H7,I7,q7⟩=>?_
   have TY:∀ (j:Nat) v,(slots ρ σ)[j]?=some (some v)->σ6[j]?=some (some v):=fun j v e=>by
    obtain ⟨k,hk,_⟩:=uu e;rw [F6 d6 (B.own j k hk)];exact e
   have kept:∀ {H8:Hp} {s8:Shared},Inv (blk X scope N' C s2 H2 fp) ([(D,{ cls:=.type "list",data:=.seq its.toArray kk })]++mY fp s5.heap) σ6 H8 s8 ->
     (∀ b∈fp,∀ o,s5.heap.get? b=some o->s8.heap.get? b=some o)/\∀ b∈fp,H8 b=none:=fun {H8 s8} I8 =>
    ⟨fun b hb o e=>(I8.pin (b,o) (Xy _ (Xy _ (fY hb e)))).1,fun b hb=>by
     obtain ⟨o,e,d⟩:=T.obj _ _ Lf b hb;exact (I8.pin (b,o) (Xy _ (Xy _ (fY hb e)))).2.1⟩
   cases b with
   | false =>
    rw [if_neg Xq] at q7 ⊢;obtain ⟨k',hk,w7⟩:=q7;exists k',hk,i+1,ar,H7,its,kk,I7.unpinned.weak l6.symm TY,rv,T.keep _ _ _ Lf (kept I7).1,(kept I7).2,w7
   | true =>
    rw [if_pos rfl] at q7 ⊢;refine thn (he C s2 H2 fp _ s7 σ6 H7 _ I7 q7) fun xv s8 ⟨v,H8,I8,r8,q8⟩=>?_
    obtain ⟨hlt,k',hk,w8⟩:=q8;obtain ⟨eD,nD,neD,nfD,_⟩:=I8.pin (D,_) (Xy _ (XD _ (Xi.mpr rfl)));have hsz:its.toArray.size<=sizeLine:=by rw [Xk,<- rv.length]; exact cI
    refine wpAny_list_append_plain (hsz:=hsz) ⟨kk,eD⟩ fun h₉ hl₉ hs₉=>?_
    obtain ⟨RY,e9⟩:=hl₉;have VW:Inv (blk X scope N' C s2 H2 fp) [] σ6 H8 s8:=I8.pins_of fun p hp=>nomatch hp
    have I9:Inv (blk X scope N' C s2 H2 fp) [] σ6 H8 { s8 with heap:=h₉,toks:=s8.toks }:=VW.turned (it:=D) (fun b o hb e=>hs₉.extBut b o hb e) nD hDC (.inr (aar hDn))
     (fun x c e z=>by have q:=cellLt x c e; rw [hDn,z] at q; exact X3 _ q) fun p hp=>nomatch (show p∈([]:List (Addr×Obj)) from hp)
    have UP:h₉.get? D=some { cls:=.type "list",data:=.seq (its++[xv]).toArray RY }:=by rw [e9,List.push_toArray]
    have VB:Inv (blk X scope N' C s2 H2 fp) [(D,{ cls:=.type "list",data:=.seq (its++[xv]).toArray RY })] (slots ρ σ) H8 { s8 with heap:=h₉,toks:=s8.toks } :=
     (I9.weak l6.symm TY).pins_of fun p hp=>by
      have e:p=(D,_):=Xi.mp hp;subst e;exists UP,nD,hDC,nfD,fun v z=>by cases z
    exists k',hk,i+1,ar++[v],H8,its++[xv],RY,VB,rv.append (.cons r8 .nil),T.keep _ _ _ Lf fun b hb o e=>?_,(kept I8).2,w8
    exact hs₉.extBut b o (below b (hfs b hb)).2 ((kept I8).1 b hb o e)
 exact codeAny_compStart_list (loop _ rfl) (T.self _ 0 _ _ _ st₁ (loop _ rfl))
theorem bF {wi:TI} (B:bL X scope N' ρ m) (hc:X.calm=true) (hi:PI X tg iter wi) (hg:∀ C s₀ H₀ ex,PG (blk X scope N' C s₀ H₀ ex) tg g) (ht:∀ C s₀ H₀ ex,PTs (blk X scope N' C s₀ H₀ ex) ifs tt) (he:∀ C s₀ H₀ ex,PE (blk X scope N' C s₀ H₀ ex) elt te)
  (hs:∀ x,foldedSetIterable iter X.env x=pure x:=by intro _; rfl):PE X (.ListComp elt [⟨tg,iter,ifs,0⟩] scope pos) (Km wi ρ m g tt te):=by
 intro ae s σ H Q I h;rw [eval_ListComp];refine wpAny_comprehension_free (use:=none) rfl hs (i6 fun x hx hf=>I.ok.has x.1 (B.frees x hx hf)) B.kind B.names (thn (hi ae s σ H _ I h) fun v s1 h1=>thn h1 fun itv s2 h2=>?_);obtain ⟨it,fp,tn,J,H2,e,I2,T,Le,f2,hL⟩:=h2;subst e;refine Cd (RR:=fun ar C=>compPost (model X.prog X.w) X.A X.xe none (EP X ae σ Q) ar C) hc B hg ht he I2 T Le f2 hL fun D C H' ar s' mC hns IX fC nD z=>?_
 exists mC,hns,fun h' IS=>⟨.ref D,_,IX.turned (t':=s'.toks) (it:=C) (fun b o hb e=>IS.extBut b o hb e) fC.1 fC.2.1 fC.2.2.2.1 fC.2.2.2.2.1 fC.2.2.2.2.2,rfl,z D nD⟩
theorem iB {wi:TI} {i:Nat} {y:Str} {py spos:Pos} (B:bL X scope N' ρ m) (hN:X.N.Nodup) (Nt:X.N[i]?=some y) (hy:Loc X.env.scope y) (hc:X.calm=true) (hi:PI X tg iter wi) (hg:∀ C s₀ H₀ ex,PG (blk X scope N' C s₀ H₀ ex) tg g) (ht:∀ C s₀ H₀ ex,PTs (blk X scope N' C s₀ H₀ ex) ifs tt) (he:∀ C s₀ H₀ ex,PE (blk X scope N' C s₀ H₀ ex) elt te)
  (hsw:swapsWith (.ListComp elt [⟨tg,iter,ifs,0⟩] scope pos) (some (.Name y py)) spos.line X.env=pure true:=by rfl)
  (hs:∀ x,foldedSetIterable iter X.env x=pure x:=by intro _; rfl) (hf:X.fn y=true\/X.env.scope.names.lookup y=some .local:=by first | exact .inl rfl | exact .inr rfl | assumption) :
  PS X (.Assign [.Name y py] (.ListComp elt [⟨tg,iter,ifs,0⟩] scope pos) spos) (MF (Km wi ρ m g tt te) (tX i)):=by
 intro ae s σ H D I h;rw [exec_Assign_Name_used _ _ _ _ hsw];refine wpAny_bind (wpAny_standAt (wpAny_bind ?_));show wpAny _ X.A (do let _ <- comprehension (.ListComp elt [⟨tg,iter,ifs,0⟩] scope pos) scope X.env _ (newList []) false (eval iter X.env) (some (assign (.Name y py) X.env))) _ _ s;refine wpAny_bind (wpAny_mono (wpAny_comprehension_free (use:=some (assign (.Name y py) X.env)) (Q:=fun _ s'=>SP X ae D .next s') rfl hs (i6 fun x hx hf=>I.ok.has x.1 (B.frees x hx hf)) B.kind B.names
  (thn (hi ae s σ H _ I h) fun v s1 h1=>thn h1 fun itv s2 h2=>?_)) (fun _ s' hq=>wpAny_pure (wpAny_pure hq)) fun _ _ e=>e)
 obtain ⟨it,fp,tn,J,H2,e,I2,T,Le,f2,hL⟩:=h2;subst e;refine Cd (RR:=fun ar C=>compPost (model X.prog X.w) X.A X.xe (some (assign (.Name y py) X.env)) (fun _ s'=>SP X ae D .next s') ar C) hc B hg ht he I2 T Le f2 hL fun Dl C H' ar s' mC hns IX fC nD z=>?_
 show wpAny _ X.A (assign (.Name y py) X.env (.ref Dl)) _ _ _;obtain ⟨oC,es,ep,hoC,hdC,hrC⟩:=id hns;have Wc:Inv X (ae++mY [C] s'.heap) σ (upd H' Dl (.lst ar)) s':=IX.pinned (fp:=[C]) (fun b hb=>by rw [Xi.mp hb]; exact fC) fun b hb=>by
  rw [Xi.mp hb];exists oC,hoC,fun v q=>by rw [hdC] at q; cases q
 refine wpAny_assign_Name (pG Wc hN Nt hy (v:=.ref Dl) rfl (fun PB SD=>?_) hf);have pC:=SD.pin (C,oC) (Xy _ (Xy _ (fY (Xi.mpr rfl) hoC)));exists mC,⟨oC,es,ep,pC.1,hdC,hrC⟩,fun h' IS=>?_
 exists _,_,SD.unpinned.turned (t':=PB.toks) (it:=C) (fun b o hb e=>IS.extBut b o hb e) fC.1 fC.2.1 fC.2.2.2.1 fC.2.2.2.2.1 fC.2.2.2.2.2,z Dl nD
end
open PySem PySem.Spec PyProof.Rows
mutual
inductive RdD (K:Frag) (H:Hp):V->PyData->Prop
 | non:RdD K H .non .none
 | bl (b:Bool):RdD K H (.bl b) (.bool b)
 | int (i:Int):RdD K H (.int i) (.int i)
 | str (x:Str):RdD K H (.str x) (.str x)
 | lst {a:Addr} {xs:List V} {ds:List PyData}:SqL K H a xs->iJ K H xs ds->RdD K H (.ref a) (.list ds)
 | tup {a:Addr} {xs:List V} {ds:List PyData}:SqT K H a xs->iJ K H xs ds->RdD K H (.ref a) (.tuple ds)
inductive iJ (K:Frag) (H:Hp):List V->List PyData->Prop
 | nil:iJ K H [] []
 | cons {x:V} {xs:List V} {d:PyData} {ds:List PyData}:RdD K H x d->iJ K H xs ds->iJ K H (x::xs) (d::ds)
end
section
variable {X:Cx} {ae:List (Addr×Obj)} {σ:St} {H:Hp} {s:Shared}
mutual
theorem RdD.reads (I:Inv X ae σ H s):∀ {x:V} {d:PyData} {u:Value},RdD X.K H x d->a7 x u->∃ as,Reads s.heap u d as
 | _,_,_,.non,r=>by cases r; exact ⟨_,.none⟩
 | _,_,_,.bl b,r=>by cases r; exact ⟨_,.bool b⟩
 | _,_,_,.int i,r=>by obtain ⟨t,rfl⟩:=r; exact ⟨_,.int i t⟩
 | _,_,_,.str x,r=>by obtain ⟨t,rfl⟩:=r; exact ⟨_,.str x t⟩
 | _,_,_,.lst h q,r=>by
  cases r;obtain ⟨its,rv,p,_⟩:=I.list h;obtain ⟨as,ra⟩:=iJ.reads I q rv;obtain ⟨o,ho,hc,n,hd⟩:=p.isList;exists _,.list ho hc hd (by simpa using ra)
 | _,_,_,.tup h q,r=>by
  cases r;obtain ⟨its,rv,p,_⟩:=I.tuple h;obtain ⟨as,ra⟩:=iJ.reads I q rv;obtain ⟨o,ho,hc,n,hd⟩:=p;exists _,.tuple ho hc hd (by simpa using ra)
theorem iJ.reads (I:Inv X ae σ H s):∀ {xs:List V} {ds:List PyData} {us:List Value},iJ X.K H xs ds->aI xs us->∃ as,ReadsAll s.heap us ds as
 | _,_,_,.nil,.nil=>⟨_,.nil⟩
 | _,_,_,.cons q r,.cons q' r'=>by
  obtain ⟨as,ra⟩:=RdD.reads I q q';obtain ⟨bs,rb⟩:=iJ.reads I r r';exists _,.cons ra rb
end
end
section
variable {X:Cx}
inductive Pb (K:Frag) (neg:Bool) (x:V) (y:V) (H:Hp) (Q:VK):Prop
 | mk (d e):(RdD K H x d)->(RdD K H y e)->(SeqAt.shaped d=true)->(SeqAt.shaped e=true)->(Q (.bl (if neg then !PyData.eqv d e else PyData.eqv d e)) H)->Pb K neg x y H Q
theorem yH (hu:X.A.units+64<cLine):OpR X (compareOp .NotEq) (Pb X.K true):=by
 intro ae s σ H x y v u Q I rx ry h;obtain ⟨d,e,hd,he,sd,se,q⟩:=h;obtain ⟨as,ra⟩:=hd.reads I rx;obtain ⟨bs,rb⟩:=he.reads I ry;exact ne_dataH ra rb sd se hu (aU I q rfl)
inductive KK (K:Frag) (xs:List V) (H:Hp) (Q:VK):Prop
 | mk (a d):(xs=[.ref a])->(RdD K H (.ref a) d)->(d.showable=true)->(d.hasDict=false)->(d.depth<=60)->(d.shown.length<=sizeLine)->(Q (.str d.shown) H)->KK K xs H Q
theorem uF (hu:X.A.units+64<cLine) (hg:X.A.guards=some []):d8 X (.builtin "repr") (KK X.K):=by
 intro ae s σ H xs us Q I r h;obtain ⟨a,d,rfl,hd,hs,hn,hp,hz,q⟩:=h;obtain ⟨u,rfl,ru⟩:=fT r;cases ru;obtain ⟨as,ra⟩:=hd.reads I rfl;exact repr_of_reads' ra hs (PyData.noDict_hsm hn) hg (by omega) (fun b o e=>e) (fun h' u tk k=>⟨.str d.shown,H,I.kept k,⟨u,rfl⟩,q⟩) hz
inductive zA (K:Frag) (x:V) (y:V) (H:Hp) (Q:VK):Prop
 | mk (a b ys):(x=.ref a)->(y=.ref b)->(SqT K H a [])->(SqT K H b ys)->(Q (.ref b) H)->zA K x y H Q
theorem cO:OpR X (binaryOp .Add) (zA X.K):=by
 intro ae s σ H x y v u Q I rx ry h;obtain ⟨a,b,ys,rfl,rfl,ha,hb,q⟩:=h;cases rx;cases ry;obtain ⟨its,r1,p1,_⟩:=I.tuple ha;obtain ⟨jW,r2,p2,_⟩:=I.tuple hb;cases r1;obtain ⟨⟨cls,dd,data,sl⟩,ho,hc,n,hd⟩:=id p1;obtain ⟨⟨Pz,rL,KY,Nz⟩,Ew,IR,n2,Iy⟩:=id p2;simp only at hc hd IR Iy;subst hc hd IR Iy;exact concat_meets ⟨_,ho,rfl⟩ ⟨_,Ew,rfl⟩ noFill_tuple_add seq_tuple_add YL YI (YG _ _)
  (tuple_addW0 a b _ jW.toArray n n2 dd rL sl Nz rfl) ⟨ho,Ew,⟨.ref b,H,I,rfl,q⟩⟩
inductive N8 (K:Frag) (xs:List V) (H:Hp) (Q:VK):Prop
 | mk (x T t b):(xs=[x,.ty T])->(j2 K H x t)->(aac K t (.type T)=some b)->(Q (.bl b) H)->N8 K xs H Q
theorem f8:d8 X (.builtin "isinstance") (N8 X.K):=by
 intro ae s σ H xs us Q I r h;obtain ⟨x,T,t,b,rfl,ht,hk,q⟩:=h;obtain ⟨u,c,rfl,ru,rc⟩:=OQ r;cases (show c=Value.type T from rc);exact DF I ru ht hk fun tk=>⟨.bl b,H,I.tok tk,rfl,q⟩
inductive OJ (x:V) (lo:Option Int) (hi:Option Int) (H:Hp) (Q:VK):Prop
 | mk (z):(x=.str z)->(z.length<=sizeLine)->(Q (.str (Txt.slice z lo hi)) H)->OJ  x lo hi H Q
theorem CP {v:Value} {o:Option Int} (p:IsPart v o):∃ l:Option (Int×Tok),v=partValue l/\l.map (·.1)=o:=by
 cases p with
 | none=>exact ⟨none,rfl,rfl⟩
 | int i t=>exact ⟨some (i,t),rfl,rfl⟩
theorem LH:SlR X OJ:=by
 intro ae s σ H x v vl vu lo hi sl Q I rx hs pl pu h;obtain ⟨z,rfl,hz,q⟩:=h;obtain ⟨t,rfl⟩:=rx;obtain ⟨l,rfl,rfl⟩:=CP pl;obtain ⟨u,rfl,rfl⟩:=CP pu;obtain ⟨o,ho,hc,hd⟩:=hs;exists "str",_,F.slot_str_getitem.lookup,typeIs_str _ _ _,wpAny_getItem_str_slice (l:=l) (u:=u) (st:=none) ⟨o,ho,hc,hd⟩ rfl ?_;exact post_val_or_str ⟨XC (Txt.slice_le z _ _) hz,fun t' k=>⟨.str (Txt.slice z (l.map (·.1)) (u.map (·.1))),H,I.tok k,⟨t',rfl⟩,q⟩⟩
end
noncomputable def Its (z:Str):It:=⟨fun i _=>i<z.cps.size,fun i H x H'=>H'=H/\∃ c,z.cps[i]?=some c/\x=.str ⟨#[c]⟩,fun i _=>z.cps.size<=i⟩
theorem AX {P:Program} {w:World} {K:Frag} {tg:Expr} (it:Addr) (z:Str) (t:Tok):sf P w K tg (Its z) [it] it (fun i h=>h.IsStrIter it "str_ascii_iterator" z t i) where
 mem:=by simp
 obj:=fun i h st b hb=>by
  have e:b=it:=by simpa using hb
  subst e;obtain ⟨o,e,c,d⟩:=st;exists o,e,fun v z=>by rw [d] at z; cases z
 keep:=fun i h h' st k=>let ⟨o,e,r⟩:=st; ⟨o,k it (by simp) o e,r⟩
 item:=by
  intro X hP hw hK hc i ae s σ H E I hf st hg;subst hP hw hK;have hi:i<z.cps.size:=hg;obtain ⟨f0,f1,f2,f3,f4,f5⟩:=hf it (by simp);refine wpAny_pyNext_ascii_item st (c:=z.cps[i]) (by simp [hi]) fun h' iK sb=>?_
  have I1:Inv X ae σ H { s with heap:=h',toks:=s.toks+1 }:=I.turned (t':=s.toks+1) (fun b o hb e=>(sb.2 b hb).trans e) f0 f1 f3 f4 f5;obtain ⟨o,e,c,d⟩:=id iK;exists _,rfl,pZ (s:={ s with heap:=h',toks:=s.toks+1 }) e c d (by decide) ⟨.str ⟨#[z.cps[i]]⟩,H,I1,⟨_,rfl⟩,⟨rfl,z.cps[i],by simp [hi],rfl⟩,iK,fun b hb=>(hf b hb).1⟩
 done:=by
  intro X hP hw hK hc i ae s σ H E I hf st hg;subst hP hw hK;have hi:z.cps.size<=i:=hg;obtain ⟨f0,f1,f2,f3,f4,f5⟩:=hf it (by simp);exact wpAny_pyNext_ascii_end (I.ok.hd hc) st (by simp [hi]) fun h' eb=>⟨rfl,I.turned (t':=s.toks) (fun b o hb e=>eb b o hb e) f0 f1 f3 f4 f5⟩
 self:=fun _ _ _ _ _ st h=>wpAny_pyIter_striter_ascii st h
theorem Dy {P:Program} {w:World} {K:Frag} {tg:Expr} (it:Addr) (z:Str) (t:Tok):sf P w K tg (Its z) [it] it (fun i h=>h.IsStrIter it "str_iterator" z t i) where
 mem:=by simp
 obj:=fun i h st b hb=>by
  have e:b=it:=by simpa using hb
  subst e;obtain ⟨o,e,c,d⟩:=st;exists o,e,fun v z=>by rw [d] at z; cases z
 keep:=fun i h h' st k=>let ⟨o,e,r⟩:=st; ⟨o,k it (by simp) o e,r⟩
 item:=by
  intro X hP hw hK hc i ae s σ H E I hf st hg;subst hP hw hK;have hi:i<z.cps.size:=hg;obtain ⟨f0,f1,f2,f3,f4,f5⟩:=hf it (by simp);refine wpAny_pyNext_wide_item st (c:=z.cps[i]) (by simp [hi]) fun h' iK sb=>?_
  have I1:Inv X ae σ H { s with heap:=h',toks:=s.toks+1 }:=I.turned (t':=s.toks+1) (fun b o hb e=>(sb.2 b hb).trans e) f0 f1 f3 f4 f5;obtain ⟨o,e,c,d⟩:=id iK;exists _,rfl,pZ (s:={ s with heap:=h',toks:=s.toks+1 }) e c d (by decide) ⟨.str ⟨#[z.cps[i]]⟩,H,I1,⟨_,rfl⟩,⟨rfl,z.cps[i],by simp [hi],rfl⟩,iK,fun b hb=>(hf b hb).1⟩
 done:=by
  intro X hP hw hK hc i ae s σ H E I hf st hg;subst hP hw hK;have hi:z.cps.size<=i:=hg;obtain ⟨f0,f1,f2,f3,f4,f5⟩:=hf it (by simp);exact wpAny_pyNext_wide_end (I.ok.hd hc) st (by simp [hi]) fun h' eb=>⟨rfl,I.turned (t':=s.toks) (fun b o hb e=>eb b o hb e) f0 f1 f3 f4 f5⟩
 self:=fun _ _ _ _ _ st h=>wpAny_pyIter_striter_wide st h
section
variable {X:Cx} {tg:Expr}
inductive EF (R:It->Hp->Prop) (x:V) (H1:Hp):Prop
 | mk (z):(x=.str z)->(R (Its z) H1)->EF R x H1
noncomputable def QS (tl:TE):TI:=fun σ H R=>tl σ H fun x H1=>EF R x H1
theorem vC {l:Expr} {tl:TE} (hl:PE X l tl):PI X tg l (QS tl):=by
 intro ae s σ H R I h;refine thn (hl ae s σ H _ I h) fun v s1 ⟨x,H1,I1,r1,q1⟩=>?_
 obtain ⟨z,e,q⟩:=q1;subst e;obtain ⟨t,rfl⟩:=r1;have fp:∀ b∈[s1.heap.objs.size],mH X ae H1 b:=fun b hb=>by
  have e:b=s1.heap.objs.size:=by simpa using hb
  subst e;exact I1.fpOk (Xc _) (I1.hok.fresh (Xc _))
 cases ha:z.cps.all (·<128)
 ·exact wpAny_pyIter_wide ha ⟨s1.heap.objs.size,[s1.heap.objs.size],_,_,H1,rfl,I1.kept (t':=s1.toks) fun b o e=>Heap.get?_push_of_some _ e,Dy _ z t,⟨_,Heap.get?_push_size _ rfl,rfl,rfl⟩,fp,q⟩
 ·exact wpAny_pyIter_ascii ha ⟨s1.heap.objs.size,[s1.heap.objs.size],_,_,H1,rfl,I1.kept (t':=s1.toks) fun b o e=>Heap.get?_push_of_some _ e,AX _ z t,⟨_,Heap.get?_push_size _ rfl,rfl,rfl⟩,fp,q⟩
theorem xJ (hc:X.calm=true):d8 X (.builtin "all") (fun xs H Q=>∃ p bs,xs=[.ref p]/\SqL X.K H p (List.map V.bl bs)/\Q (.bl (bs.all id)) H):=by
 intro ae s σ H xs us Q I r h;obtain ⟨p,bs,rfl,hq,q⟩:=h;obtain ⟨u,rfl,ru⟩:=fT r;cases ru;obtain ⟨its,rv,pl,hz⟩:=I.list hq;have vb:∀ (i:Nat) v,its[i]?=some v->∃ b,bs[i]?=some b/\v=.bool b:=fun i v e=>by
  have hl:=rv.length;rw [W8] at hl;have hi:i<its.length:=(Xv.mp e).1;have hb:bs[i]?=some bs[i]:=XA (by omega);obtain ⟨u',e',r'⟩:=rv.get (i:=i) (x:=.bl bs[i]) (by rw [XE,hb]; rfl);rw [e] at e';cases e';exists _,hb,r'
 obtain ⟨ol,hol,RZ⟩:=pl.isList;refine call_all_walk (wpAny_pyIter_list pl.isList ⟨s.heap.objs.size,_,_,_,_,_,(fun i=>(bs[i]?).getD false),rfl,Walks.list (prog:=X.prog) (w:=X.w) (A:=X.A.in1) (I.ok.hd hc) s.heap.objs.size p (XR (Heap.lt_size hol)) its.toArray,⟨⟨_,Heap.get?_push_size _ rfl,rfl,rfl⟩,⟨ol,Heap.get?_push_of_some _ hol,RZ⟩⟩,?_,fun h' tk k=>?_⟩)
 ·intro i v s' Q' E' hP hQ;obtain ⟨b,hb,rfl⟩:=vb i v (by simpa using hP);have SN:Q' ((bs[i]?).getD false) s':=hQ;rw [hb] at SN;exact wpAny_pure SN
 ·have e:(Yh its.toArray.size).all (fun i=>(bs[i]?).getD false)=bs.all id:=by
   have hl:its.toArray.size=bs.length:=by rw [Xk,<- rv.length,W8]
   rw [hl,Yu,X2,X2]
   constructor
   ·intro a x hx;obtain ⟨i,hi,rfl⟩:=YT.mp hx
    have:=a i (Yj.mpr hi)
    rw [XA hi] at this;exact this
   ·intro a i hi;have Nt:=Yj.mp hi;rw [XA Nt];exact a _ (aaE Nt)
  rw [e];exists .bl (bs.all id),H,I.kept fun b o hb=>k b o (fun z=>?_) (Heap.get?_push_of_some _ hb),rfl,q
  have z':b=s.heap.objs.size:=by simpa using z
  exact absurd (Heap.lt_size hb) (by rw [z']; exact X3 _)
end
open PySem PySem.Spec PyProof.Rows
noncomputable def ko (fs scope:Scope):List (Str×NameKind):=scope.names.map fun (n,k)=>if (k==NameKind.free&&fs.kind==.function&&fs.names.lookup n==some .cell) then (n,NameKind.cell) else (n,k)
noncomputable def O4 (fs:Scope) (N:List Str) (scope:Scope) (N':List Str) (ρ:List (Option Nat)) (m:Nat):Bool :=
 (scope.kind==.function)&&scope.names.all (fun x=>x.2 != .cell)&&scope.names.all (fun x=>x.2 != .local||scope.names.lookup x.1==some .local)
 &&scope.names.all (fun x=>x.2 != .free||fs.names.lookup x.1==some .cell||fs.names.lookup x.1==some .free)&&(ρ.length==N'.length)
 &&(Yh ρ.length).all fun i=>match ρ[i]?,N'[i]? with
   | some (some j),some x=>decide (m<=i)&&N[j]?==some x&&scope.names.any (fun y=>y.1==x&&y.2==.free)&&(ko fs scope).lookup x != some .local
   | some (some _),none=>false
   | _,_=>true
theorem bL.of {X:Cx} {fs scope:Scope} {N N':List Str} {ρ:List (Option Nat)} {m:Nat} (hs:X.env.scope=fs) (hN:X.N=N) (h:O4 fs N scope N' ρ m=true):bL X scope N' ρ m:=by
 unfold O4 at h;simp only [XT] at h;obtain ⟨⟨⟨⟨⟨h1,h2⟩,h3⟩,h4⟩,h5⟩,h6⟩:=h;have RB:∀ (i j:Nat),ρ[i]?=some (some j)->∃ x,N'[i]?=some x/\m<=i/\N[j]?=some x/\(x,NameKind.free)∈scope.names/\(ko fs scope).lookup x≠some .local:=fun i j e=>by
  have hi:i<ρ.length:=(Xv.mp e).1;have q:=X2.mp h6 i (Yj.mpr hi);rw [e] at q;cases e2:N'[i]? with
  | none=>rw [e2] at q; cases q
  | some x =>
   rw [e2] at q;simp only [XT,decide_eq_true_eq,beq_iff_eq,bne_iff_ne,List.any_eq_true] at q;obtain ⟨⟨⟨q1,q2⟩,⟨y,hy,q3,q4⟩⟩,q5⟩:=q;exists x,rfl,q1,q2,?_,q5;obtain ⟨a,b⟩:=y;simp only at q3 q4;subst q3 q4;exact hy
 exists by simpa using h1,fun x hx=>by simpa using X2.mp h2 x hx,fun x hx hl=>?_,fun x hx hf=>?_,by simpa using h5,fun i j e=>?_,fun i j x e e2=>?_,fun i j x e e2=>?_
 ·have q:=X2.mp h3 x hx;simpa [hl] using q
 ·have q:=X2.mp h4 x hx;show X.env.scope.names.lookup x.1=_\/X.env.scope.names.lookup x.1=_;rw [hs];simpa [hf] using q
 ·obtain ⟨_,_,q,_⟩:=RB i j e; exact q
 ·obtain ⟨y,q1,_,q2,q3,_⟩:=RB i j e;rw [e2] at q1; cases q1;exists by rw [hN]; exact q2,q3
 ·obtain ⟨y,q1,_,_,_,q4⟩:=RB i j e;rw [e2] at q1; cases q1;have e3:(relabel scope X.env).names=ko fs scope:=by
   unfold relabel ko Env.kindOf;rw [hs]
  rw [e3];exact q4
section
variable {X:Cx} {K:Frag}
theorem j6 (h:X.K=K):IxR X (Lk K):=h ▸ aD
theorem eP (h:X.K=K):IxR X (Li K):=h ▸ cV
theorem jh {pos:Pos} {es:List Expr} {k:Nat} {t:TGs} {n:Nat} (hK:X.K=K) (hc:X.calm=true) (h:PGs X es t)
  (hn:(assignEach es X.env).length=n:=by rfl) (hst:(assignEach es X.env).findIdx? (·.1)=none:=by rfl):PG X (.Tuple es k pos) (LN K n t):=hK ▸ ff hc h hn hst
end
section
variable {m:Nat} {g:TG} {tt:TT} {te:TE} {σ':St} {Z:List V->Hp->Prop} {H1:Hp} {K:Frag}
noncomputable def NxT (n:Nat) (Pv:Nat->List V->Hp->Prop) (i:Nat) (ar:List V) (v:V) (H:Hp):Prop:=ar.length<sizeLine/\∃ k',k'<n - i/\(k'=n - (i+1)/\i+1<=n/\(ar++[v]).length<=i+1/\Pv (i+1) (ar++[v]) H)
noncomputable def NxF (n:Nat) (Pv:Nat->List V->Hp->Prop) (i:Nat) (ar:List V) (H:Hp):Prop:=∃ k',k'<n - i/\(k'=n - (i+1)/\i+1<=n/\ar.length<=i+1/\Pv (i+1) ar H)
theorem nxT {n:Nat} {Pv:Nat->List V->Hp->Prop} {i:Nat} {ar:List V} {v:V} {H:Hp} (hn:n<=1000) (hi:i<n) (hl:ar.length<=i) (p:Pv (i+1) (ar++[v]) H):NxT n Pv i ar v H :=
 ⟨ap (by omega),n - (i+1),by omega,rfl,hi,by rw [W7,Xu]; omega,p⟩
theorem nxF {n:Nat} {Pv:Nat->List V->Hp->Prop} {i:Nat} {ar:List V} {H:Hp} (hi:i<n) (hl:ar.length<=i) (p:Pv (i+1) ar H):NxF n Pv i ar H :=
 ⟨n - (i+1),by omega,rfl,hi,by omega,p⟩
theorem o5 {J:It} (n:Nat) (hn:n<=1000) (Pv:Nat->List V->Hp->Prop) (h0:Pv 0 [] H1)
  (hs:∀ i ar H,i<n->ar.length<=i->Pv i ar H->J.go i H/\∀ x H',J.yld i H x H'->g x σ' H' fun σ2 H2=>(σ2.drop m=σ'.drop m/\σ2.length=σ'.length)/\tt σ2 H2 fun b H3=>if b=true then te σ2 H3 fun v H4=>NxT n Pv i ar v H4 else NxF n Pv i ar H3)
  (hd:∀ ar H,Pv n ar H->ar.length<=n->J.stop n H/\Z ar H):nU J m g tt te σ' Z H1:=by
 exists fun i k ar H=>k=n - i/\i<=n/\ar.length<=i/\Pv i ar H,⟨n,by simp,Xj _,Xc _,h0⟩,?_
 rintro i k ar H ⟨rfl,hi,la,p⟩
 exists XI (ap (by omega)),?_
 by_cases hlt:i<n
 ·exact .inr (hs i ar H hlt la p)
 ·have e:i=n:=by omega
  subst e;exact .inl (hd ar H p la)
theorem iz {lo:Int} (n:Nat) (hn:n<=1000) (Pv:Nat->List V->Hp->Prop) (h0:Pv 0 [] H1)
  (hs:∀ i ar H,i<n->ar.length<=i->Pv i ar H->g (.int (lo+i)) σ' H fun σ2 H2=>(σ2.drop m=σ'.drop m/\σ2.length=σ'.length)/\tt σ2 H2 fun b H3=>if b=true then te σ2 H3 fun v H4=>NxT n Pv i ar v H4 else NxF n Pv i ar H3)
  (hd:∀ ar H,Pv n ar H->ar.length<=n->Z ar H):nU (Itr lo n) m g tt te σ' Z H1 :=
 o5 n hn Pv h0 (fun i ar H hi la p=>⟨hi,fun x H' y=>by obtain ⟨e,y⟩:=y; subst e y; exact hs i ar _ hi la p⟩) fun ar H p la=>⟨Xc _,hd ar H p la⟩
theorem iV {z:Str} (n:Nat) (hz:n=z.cps.size) (hn:n<=1000) (Pv:Nat->List V->Hp->Prop) (h0:Pv 0 [] H1)
  (hs:∀ i ar H c,i<n->ar.length<=i->z.cps[i]?=some c->Pv i ar H->g (.str ⟨#[c]⟩) σ' H fun σ2 H2=>(σ2.drop m=σ'.drop m/\σ2.length=σ'.length)/\tt σ2 H2 fun b H3=>if b=true then te σ2 H3 fun v H4=>NxT n Pv i ar v H4 else NxF n Pv i ar H3)
  (hd:∀ ar H,Pv n ar H->ar.length<=n->Z ar H):nU (Its z) m g tt te σ' Z H1 :=
 o5 n hn Pv h0 (fun i ar H hi la p=>⟨show i<z.cps.size by omega,fun x H' y=>by obtain ⟨e,c,hc,y⟩:=y; subst e y; exact hs i ar _ c hi la hc p⟩) fun ar H p la=>⟨show z.cps.size<=n by omega,hd ar H p la⟩
theorem cF {a:Addr} {xs:List V} (n:Nat) (hz:n=xs.length) (hn:n<=1000) (Pv:Nat->List V->Hp->Prop) (h0:Pv 0 [] H1) (hq:∀ i ar H,Pv i ar H->SqT K H a xs)
  (hs:∀ i ar H x,i<n->ar.length<=i->xs[i]?=some x->Pv i ar H->g x σ' H fun σ2 H2=>(σ2.drop m=σ'.drop m/\σ2.length=σ'.length)/\tt σ2 H2 fun b H3=>if b=true then te σ2 H3 fun v H4=>NxT n Pv i ar v H4 else NxF n Pv i ar H3)
  (hd:∀ ar H,Pv n ar H->ar.length<=n->Z ar H):nU (Itt K a) m g tt te σ' Z H1 :=
 o5 n hn Pv h0 (fun i ar H hi la p=>by
  have hx:xs[i]?=some (xs[i]'(by omega)):=XA (by omega);exact ⟨⟨xs,_,hq i ar H p,hx⟩,fun x H' y=>by obtain ⟨e,y⟩:=y; subst e; exact hs i ar _ x hi la (y xs (hq i ar _ p)) p⟩) fun ar H p la=>⟨⟨xs,hq n ar H p,by omega⟩,hd ar H p la⟩
end
theorem bA {σ:St} {H:Hp} {A B:Hp->Prop} (h:A H):FU σ H (fun b H3=>if b=true then A H3 else B H3):=by
 show if true=true then A H else B H
 exact dO h
end L2
namespace PySem
open Sem (wp)
section
variable {prog:Program} {w:World} {A:Around} {E:Value->Shared->Prop} {h:Heap} {g:Array GenState} {d:Drawn} {t:Nat} {os:OsState} {a:Addr} {items:Array Value} {n:Nat} {sl:Array (Option Value)}
end
end PySem
namespace L2
open PySem PySem.Spec PyProof.Rows
section
variable {prog:Program} {w:World} {A:Around} {R:Result->Shared->Prop} {dd it tp:Addr} {items:List Value} {ps:List (Str×Value)}
end
open PySem PySem.Spec PyProof.Rows
section
variable {X:Cx}
inductive O8 (x:V) (y:V) (H:Hp) (Q:VK):Prop
 | mk (p aT z v):(x=.ref p)->(y=.str z)->(H p=some (.dK aT))->((aT.find? fun kv=>decide (kv.1=Sum.inr z)).map (·.2)=some v)->(Q v H)->O8  x y H Q
theorem CU {k:Key} {v:V}:∀ {aT:List (Key×V)} {vs:List (Key×Value)},KV aT vs->(aT.find? fun kv=>decide (kv.1=k)).map (·.2)=some v->∃ u,valueAt vs k=some u/\a7 v u
 | _,_,.nil,h=>by simp at h
 | _,_,.cons (a:=a) (b:=b) r t,h=>by
  unfold valueAt;rw [X9] at h ⊢
  by_cases e:a.1=k
  ·have e':b.1=k:=r.1.symm.trans e;rw [decide_eq_true e] at h;rw [decide_eq_true e'];have h':a.2=v:=by simpa using h
   exists b.2,rfl,h' ▸ r.2
  ·have e':¬ b.1=k:=fun z=>e (r.1.trans z)
   rw [decide_eq_false e] at h;rw [decide_eq_false e'];exact CU t h
theorem cw:IxR X O8:=by
 intro value slice ae s σ H x y v u Q I rx ry h hs;obtain ⟨p,aT,z,w',rfl,rfl,hp,hv,q⟩:=h;cases rx;obtain ⟨t,rfl⟩:=ry;obtain ⟨_,_,vs,rel,dd⟩:=(show bW X.prog X.w H s.heap p (.dK aT) from I.hok p _ hp);obtain ⟨u',e,ru⟩:=CU rel hv;have fin:EP X ae σ Q u' { s with toks:=s.toks+1 }:=⟨w',H,I.tok _,ru,q⟩;exact subscriptTail_builtinR (x:=u') dd.typeIs PySem.F.slot_dict_getitem.lookup (wpAny_getItem_of (Q:=fun r s'=>r=u'/\EP X ae σ Q r s') (knd:=ci X.prog X.w) (k:=Sum.inr z) (nP _ _ _ _) dd.mapOf e ⟨rfl,fin⟩) hs
end
end L2
namespace PySem
open Sem (wp)
section
variable {prog:Program} {w:World} {A:Around} {E:Value->Shared->Prop} {s:Shared}
end
structure ZA (z TI TO i1 i2:Addr) (f1 f2:List Addr):Prop where
 TIz:TI≠z
 TOz:TO≠z
 i1z:i1≠z
 i2z:i2≠z
 TITO:TI≠TO
 TIi1:TI≠i1
 TIi2:TI≠i2
 TOi1:TO≠i1
 TOi2:TO≠i2
 i12:i1≠i2
 z1:z∉f1
 z2:z∉f2
 t1:TO∉f1
 t2:TO∉f2
 m1:i1∉f2
 m2:i2∉f1
section
variable {prog:Program} {w:World} {A:Around} {E:Value->Shared->Prop} {s:Shared}
 {z TI TO i1 i2:Addr} {f1 f2:List Addr} {n1 n2 k1 k2:Nat} {P1 P2:Nat->Value->Prop} {S1 S2:Nat->Heap->Prop} {a b:Value}
 {z TI TO i1 i2:Addr} {f1 f2:List Addr} {n1 n2 k1 k2:Nat} {P1 P2:Nat->Value->Prop} {S1 S2:Nat->Heap->Prop} {a b:Value}
end
open Sem (wp)
end PySem
namespace L2
open PySem PySem.Spec PyProof.Rows
section
variable {X:Cx} {ae:List (Addr×Obj)} {σ:St} {H:Hp} {s:Shared} {a:Addr} {xs ys:List V} {h':Heap}
theorem Inv.turnedL {t':Nat} {its:List Addr} (I:Inv X ae σ H s) (k:∀ b o,b∉its->s.heap.get? b=some o->h'.get? b=some o) (hf:∀ b∈its,mH X ae H b) :
  Inv X ae σ H { s with heap:=h',toks:=t' }:=by
 have nit:∀ b u,H b=some u->b∉its:=fun b u e z=>by rw [(hf b z).1] at e; cases e
 refine I.step (g':=s.gens) (d':=s.drawn) (ch:=its) (fun b hb=>⟨(hf b hb).2.2.2.1,(hf b hb).2.1,(hf b hb).2.2.2.2.1,(hf b hb).2.2.2.2.2⟩) (fun b o _ _ hc e _=>k b o hc e) (fun b o _ _ hc e _=>⟨o.slots,k b o hc e⟩) (fun _ _ _ _ n=>n)
  (fun b o hc e=>⟨o,k b o hc e⟩) (fun _ _ e=>e) (fun _ _ _ e=>e) (fun b ps e=>⟨#[],by rw [e]; simp⟩) (fun m hm=>?_) (fun b u e=>?_) I.bare
 ·obtain ⟨o,es,ep,ho,r⟩:=hm;exists o,es,ep,k _ o (fun z=>(hf _ z).2.1 rfl) ho,r
 ·refine (I.hok b u e).stay (fun c v hc q=>k c v ?_ q) (fun _ q=>q) fun _ _ q=>q
  rcases hc with z | z
  ·rw [z]; exact nit b u e
  ·exact nit c _ z
end
structure ZN (z TI TO i1 i2:Addr):Prop where
 TIz:TI≠z
 TOz:TO≠z
 i1z:i1≠z
 i2z:i2≠z
 TITO:TI≠TO
 TIi1:TI≠i1
 TIi2:TI≠i2
 TOi1:TO≠i1
 TOi2:TO≠i2
 i12:i1≠i2
section
variable {X:Cx}
end
open PySem PySem.Spec PyProof.Rows
section
variable {κ:Type} [DecidableEq κ]
noncomputable def yQ (aT:List (κ×V)) (k:κ):Option V:=(aT.find? fun kv=>decide (kv.1=k)).map (·.2)
noncomputable def jc (aT:List (κ×V)) (k:κ) (v:V):List (κ×V) :=
 if (aT.any fun kv=>decide (kv.1=k))=true then aT.map (fun kv=>if kv.1=k then (kv.1,v) else kv) else aT++[(k,v)]
theorem wX {p:κ×V} {r:List (κ×V)} {k:κ} (e:p.1=k):yQ (p::r) k=some p.2:=by simp [yQ,X9,e]
theorem xT {p:κ×V} {r:List (κ×V)} {k:κ} (e:¬ p.1=k):yQ (p::r) k=yQ r k:=by simp [yQ,X9,e]
theorem xu (k:κ):∀ aT:List (κ×V),(aT.any fun kv=>decide (kv.1=k))=(yQ aT k).isSome
 | []=>rfl
 | p::r=>by
  rw [YM]
  by_cases e:p.1=k
  ·simp only [wX e,decide_eq_true e,Bool.true_or,Option.isSome_some]
  ·rw [xT e,decide_eq_false e,Bool.false_or]; exact xu k r
theorem iU (aT:List (κ×V)) (k:κ) (v:V):(jc aT k v).length<=aT.length+1:=by
 unfold jc
 split
 ·rw [W8]; omega
 ·rw [W7,W9,Xd]; omega
theorem mv.isSome_eq {o:Option V} {u:Option Value} (r:mv o u):o.isSome=u.isSome:=by
 cases o with
 | none=>cases u with
  | none=>rfl
  | some _=>exact (show False from r).elim
 | some _=>cases u with
  | none=>exact (show False from r).elim
  | some _=>rfl
theorem KV.any {aT:List (κ×V)} {vs:List (κ×Value)} (r:KV aT vs) (k:κ):(aT.any fun kv=>decide (kv.1=k))=vs.any fun kv=>decide (kv.1=k):=by
 unfold KV at r
 induction r with
 | nil=>rfl
 | cons h t ih=>rw [YM,YM,ih,h.1]
theorem KV.repl {aT:List (κ×V)} {vs:List (κ×Value)} (r:KV aT vs) (k:κ) {y:V} {u:Value} (ry:a7 y u) :
  KV (aT.map fun kv=>if kv.1=k then (kv.1,y) else kv) (vs.map fun kv=>if kv.1=k then (kv.1,u) else kv):=by
 unfold KV at r ⊢
 induction r with
 | nil=>exact .nil
 | @cons p q ps qs h t ih =>
  rw [Xp,Xp];refine .cons ?_ ih;obtain ⟨h1,h2⟩:=h
  by_cases e:p.1=k
  ·rw [if_pos e,if_pos (h1.symm.trans e)]; exact ⟨h1,ry⟩
  ·rw [if_neg e,if_neg (fun z=>e (h1.trans z))]; exact ⟨h1,h2⟩
theorem KV.put {aT:List (κ×V)} {vs:List (κ×Value)} (r:KV aT vs) (k:κ) {y:V} {u:Value} (ry:a7 y u):KV (jc aT k y) (stored vs k u):=by
 unfold jc stored;rw [r.any k]
 by_cases e:(vs.any fun kv=>decide (kv.1=k))=true
 ·rw [if_pos e,if_pos e]; exact r.repl k ry
 ·rw [if_neg e,if_neg e]; exact Paired.snoc r ⟨rfl,ry⟩
theorem KV.length {aT:List (κ×V)} {vs:List (κ×Value)} (r:KV aT vs):aT.length=vs.length:=Paired.length r
end
theorem EK {P:Program} {w:World} {k:Key} {u:Value} (r:a7 (kV k) u):(ci P w).is k u=true:=by
 cases k with
 | inl i=>obtain ⟨t,e⟩:=(show ∃ t,u=Value.int i t from r); subst e; exact xX P w i t
 | inr x=>obtain ⟨t,e⟩:=(show ∃ t,u=Value.str x t from r); subst e; exact nP P w x t
theorem uw {P:Program} {w:World}:∀ {ks:List Key} {us:List Value},aI (ks.map kV) us->ItemsAre (ci P w) ks us
 | [],_,r=>by rw [XZ] at r; cases r; exact .nil
 | k::ks,_,r=>by
  rw [Xp] at r;cases r with
  | cons h t=>exact .cons (EK h) (uw t)
abbrev KT (H:Hp):List (List Key×V)->List (List Key×Addr×Value)->Prop:=Paired fun p q=>p.1=q.1/\H q.2.1=some (.tup (p.1.map kV))/\a7 p.2 q.2.2
theorem KT.val {H:Hp} {aT:List (List Key×V)} {xs:List (List Key×Addr×Value)} (r:KT H aT xs) (k:List Key):mv (yQ aT k) ((atKey xs k).map (·.2)):=by
 induction r with
 | nil=>exact True.intro
 | @cons p q ps qs h t ih =>
  obtain ⟨h1,_,h2⟩:=h
  by_cases e:p.1=k
  ·have e':q.1=k:=h1.symm.trans e;have b:atKey (q::qs) k=some q.2:=by simp [atKey,X9,e']
   rw [wX e,b]; exact h2
  ·have e':¬ q.1=k:=fun z=>e (h1.trans z)
   have b:atKey (q::qs) k=atKey qs k:=by simp [atKey,X9,e']
   rw [xT e,b]; exact ih
theorem KT.repl {H:Hp} {aT:List (List Key×V)} {xs:List (List Key×Addr×Value)} (r:KT H aT xs) (k:List Key) {y:V} {u:Value} (ry:a7 y u) :
  KT H (aT.map fun kv=>if kv.1=k then (kv.1,y) else kv) (xs.map (putAt k u)):=by
 induction r with
 | nil=>exact .nil
 | @cons p q ps qs h t ih =>
  rw [Xp,Xp];refine .cons ?_ ih;obtain ⟨h1,h2,h3⟩:=h;unfold putAt
  by_cases e:p.1=k
  ·rw [if_pos e,if_pos (h1.symm.trans e)]; exact ⟨h1,h2,ry⟩
  ·rw [if_neg e,if_neg (fun z=>e (h1.trans z))]; exact ⟨h1,h2,h3⟩
theorem KT.put {H:Hp} {aT:List (List Key×V)} {xs:List (List Key×Addr×Value)} (r:KT H aT xs) (k:List Key) {b:Addr} {y:V} {u:Value} (hb:H b=some (.tup (k.map kV))) (ry:a7 y u) :
  KT H (jc aT k y) (storedH xs k b u):=by
 have e:(aT.any fun kv=>decide (kv.1=k))=(atKey xs k).isSome:=by
  rw [xu,(r.val k).isSome_eq,Option.isSome_map]
 unfold jc storedH;rw [e]
 by_cases q:(atKey xs k).isSome=true
 ·rw [if_pos q,if_pos q]; exact r.repl k ry
 ·rw [if_neg q,if_neg q]; exact Paired.snoc r ⟨rfl,hb,ry⟩
theorem KT.keeps {H H':Hp} {aT:List (List Key×V)} {xs:List (List Key×Addr×Value)} (r:KT H aT xs) (ht:∀ b ys,H b=some (.tup ys)->H' b=some (.tup ys)):KT H' aT xs :=
 Paired.mapP r fun _ _ z=>⟨z.1,ht _ _ z.2.1,z.2.2⟩
section
variable {P:Program} {w:World} {H:Hp} {h:Heap} {a:Addr}
theorem KC {u:HO} (ok:HOk P w H h) (e:Rd H a u):bW P w H h a u:=e.ok ok
theorem N6 {aT:List (Key×V)} (ok:HOk P w H h) (e:Rd H a (.dK aT)):aT.length<=sizeLine/\(a==sysModules)=false/\∃ vs,KV aT vs/\h.DictOf (ci P w) a vs :=
 show bW P w H h a (.dK aT) from KC ok e
theorem Ko {aT:List (Key×V)} (ok:HOk P w H h) (e:H a=some (.dK aT)):aT.length<=sizeLine/\(a==sysModules)=false/\∃ vs,KV aT vs/\h.DictOf (ci P w) a vs:=N6 ok (.inl e)
theorem Gf {ks:List Key} (ok:HOk P w H h) (e:H a=some (.tup (ks.map kV))):(tupleKind (ci P w)).is h ks a:=by
 obtain ⟨_,its,r,⟨o,h1,h2,n,h3⟩,_⟩:=(show bW P w H h a (.tup (ks.map kV)) from ok a _ e);exists o,its.toArray,n,h1,h2,h3,by simpa using uw r
theorem Oa {aT:List (List Key×V)} (ok:HOk P w H h) (e:Rd H a (.dT aT)):aT.length<=sizeLine/\(a==sysModules)=false /\
  ∃ xs,KT H aT xs/\h.DictOfH (tupleKind (ci P w)) a xs:=by
 obtain ⟨z,y,xs,r,o,es,ep,h1,h2,h3,h4,h5⟩:=(show bW P w H h a (.dT aT) from KC ok e);exists z,y,xs,r,o,es,ep,h1,h2,h3,h4,fun x hx=>?_,h5
 have all:∀ {l:List (List Key×V)} {m:List (List Key×Addr×Value)},KT H l m->∀ x∈m,(tupleKind (ci P w)).is h x.1 x.2.1:=by
  intro l m q
  induction q with
  | nil=>intro x hx; exact nomatch hx
  | @cons p q ps qs hq t ih =>
   intro x hx;rcases Xa.mp hx with e | hx
   ·subst e;exact Gf ok (by rw [<- hq.1]; exact hq.2.1)
   ·exact ih x hx
 exact all r x hx
theorem Ow {aT:List (List Key×V)} (ok:HOk P w H h) (e:H a=some (.dT aT)):aT.length<=sizeLine/\(a==sysModules)=false /\
  ∃ xs,KT H aT xs/\h.DictOfH (tupleKind (ci P w)) a xs:=Oa ok (.inl e)
end
noncomputable def DX (H:Hp) (a:Addr) (y v:V) (H':Hp):Prop :=
 (∃ aT k,H a=some (.dK aT)/\y=kV k/\aT.length<sizeLine/\H'=upd H a (.dK (jc aT k v))) \/
 ∃ aT k b,H a=some (.dT aT)/\y=.ref b/\H b=some (.tup (k.map kV))/\aT.length<sizeLine/\H'=upd H a (.dT (jc aT k v))
theorem DX.k {H:Hp} {a:Addr} {aT:List (Key×V)} {k:Key} {v:V} (e:H a=some (.dK aT)) (hl:aT.length<sizeLine):DX H a (kV k) v (upd H a (.dK (jc aT k v))):=.inl ⟨aT,k,e,rfl,hl,rfl⟩
section
variable {X:Cx} {ae:List (Addr×Obj)} {σ:St} {H:Hp} {s:Shared} {a:Addr} {y v:V} {u r:Value} {o:Option V} {A:Around} {E:Value->Shared->Prop}
theorem Inv.big (I:Inv X ae σ H s):sysModules<s.heap.objs.size:=by
 have h:mainGlobals<s.heap.objs.size:=(I.mod.glob.keeps I.bk).lt;exact Nat.lt_trans (by decide) h
theorem vW {h':Heap} {t':Nat} {ob:HO} (I:Inv X ae σ H s) (mu:Mut (H a)) (hs:Heap.SameBut a s.heap h') (he:∃ q,h'.get? a=some q) (new:bW X.prog X.w (upd H a ob) h' a ob) :
  Inv X ae σ (upd H a ob) { s with heap:=h',toks:=t' } :=
 I.write (x:=a) (e:=a) mu (.inl rfl) (fun b q hb z=>(hs.2 b hb).trans z) he new
theorem EC {P:Program} {w:World} {H':Hp} {h':Heap} {aT:List (Key×V)} {vs:List (Key×Value)} (z:aT.length<=sizeLine) (hd:(a==sysModules)=false) (rel:KV aT vs) (dd:h'.DictOf (ci P w) a vs) :
  bW P w H' h' a (.dK aT):=⟨z,hd,vs,rel,dd⟩
theorem DR {H':Hp} {Q:Unit->Shared->Prop} (hu:A.units+1<cLine) (I:Inv X ae σ H s) (g:DX H a y v H') (ry:a7 y u) (rv:a7 v r) (h:∀ s',Inv X ae σ H' s'->Q Unit.unit s') :
  wpAny (model X.prog X.w) A (setItem (.ref a) u r) Q E s:=by
 rcases g with ⟨aT,k,e,ey,l,eH⟩ | ⟨aT,k,b,e,ey,eb,l,eH⟩
 ·subst ey eH;obtain ⟨z,hd,vs,rel,dd⟩:=Ko I.hok e;have hz:vs.length<=sizeLine:=by rw [<- rel.length]; exact z
  have hl:(jc aT k v).length<=sizeLine:=by have:=iU aT k v; omega
  refine wpAny_setItem_pairs (hsz:=hz) (EK ry) dd fun h' M5 hs=>h _ ?_
  have he:∃ q,h'.get? a=some q:=let ⟨q,_,_,hq,_⟩:=M5; ⟨q,hq⟩;exact vW I (by rw [e]; exact True.intro) hs he (EC hl hd (rel.put k rv) M5)
 ·subst ey eH;cases (show u=Value.ref b from ry);obtain ⟨z,hd,xs,rel,dd⟩:=Ow I.hok e;have hz:xs.length<=sizeLine:=by rw [<- Paired.length rel]; exact z
  have hl:(jc aT k v).length<=sizeLine:=by have:=iU aT k v; omega
  refine wpAny_setItem_heap (hsz:=hz) (tupleKind_room_in1 hu) (Gf I.hok eb) dd fun h' M5 hs=>h _ ?_
  obtain ⟨q,es,ep,hq,h2,h3,h4,_,h5⟩:=M5;refine vW I (by rw [e]; exact True.intro) hs ⟨q,hq⟩ ⟨hl,hd,_,(rel.put k eb rv).keeps fun c ys ec=>?_,q,es,ep,hq,h2,h3,h4,h5⟩;rw [aj (eX ec e (fun z=>nomatch z))];exact ec
end
section
variable {X:Cx} {ae:List (Addr×Obj)} {σ:St} {H:Hp} {s:Shared} {a:Addr} {aT:List (Key×V)} {k:Key} {u:Value} {A:Around} {E:Value->Shared->Prop}
end
inductive C1 (D:jx) (σ:St) (v:V) (x:V) (y:V) (H3:Hp):Prop
 | mk (a H4):(x=.ref a)->(DX H3 a y v H4)->(D.nx σ H4)->C1 D σ v x y H3
noncomputable def Oy (td ty tv:TE):TS:=fun D σ H=>tv σ H fun v H1=>td σ H1 fun x H2=>ty σ H2 fun y H3=>C1 D σ v x y H3
section
variable {X:Cx} {o i e value:Expr} {pos yo tpos:Pos} {td ty tv:TE}
theorem Cc (hu:X.A.units+1<cLine) (ho:PE X o td) (hi:PE X i ty) (hv:PE X value tv) (hs:swapsWith value (some (.Subscript o i yo)) pos.line X.env=pure false) :
  PS X (.Assign [.Subscript o i yo] value pos) (Oy td ty tv):=by
 intro ae s σ H D I h;refine wpAny_Assign_Subscript (thn (hv ae s σ H _ I h) fun r s1 ⟨v,H1,I1,rv,q1⟩=>thn (ho ae s1 σ H1 _ I1 q1) fun u s2 ⟨x,H2,I2,rx,q2⟩=>thn (hi ae s2 σ H2 _ I2 q2) fun iv s3 ⟨y,H3,I3,ry,a,H4,ex,g,q3⟩=>?_) hs;subst ex;obtain rfl:u=Value.ref a:=rx;exact DR hu I3 g ry rv fun s4 I4=>⟨σ,H4,I4,q3⟩
end
theorem Fi {P:Program} {w:World} {H:Hp} (h:Heap) (hb:sysModules<h.objs.size):bW P w H (h.push { cls:=.type "dict",data:=.dict #[] }) h.objs.size (.dK []) :=
 ⟨Xj _,beq_eq_false_iff_ne.mpr (Ne.symm (XR hb)),[],.nil,Heap.DictOf.new h⟩
section
variable {X:Cx} {pos:Pos}
end
noncomputable def AI:List (TE×TE)->St->Hp->(List (V×V)->Hp->Prop)->Prop
 | [],_,H,Q=>Q [] H
 | (tk,tv)::r,σ,H,Q=>tk σ H fun x H1=>tv σ H1 fun y H2=>AI r σ H2 fun ps H3=>Q ((x,y)::ps) H3
abbrev VV:List (V×V)->List (Value×Value)->Prop:=Paired fun p q=>a7 p.1 q.1/\a7 p.2 q.2
noncomputable def PPs (X:Cx) (pos:Pos) (keys:List (Option Expr)) (values:List Expr) (trs:List (TE×TE)):Prop :=
 ∀ (ae:List (Addr×Obj)) (s:Shared) (σ:St) (H:Hp) (Q:List (V×V)->Hp->Prop),Inv X ae σ H s->AI trs σ H Q ->
  wpAny (model X.prog X.w) X.A (evalPairs (pairTrees keys values X.env pos)) (fun vs s'=>∃ ps H',Inv X ae σ H' s'/\VV ps vs/\Q ps H') X.xe s
theorem J0 {X:Cx} {pos:Pos}:PPs X pos [] [] []:=fun ae s σ H Q I h=>pairTrees_nil_walk ⟨[],H,I,.nil,h⟩
theorem gX {X:Cx} {pos:Pos} {k v:Expr} {ks:List (Option Expr)} {vs:List Expr} {tk tv:TE} {trs:List (TE×TE)} (hk:PE X k tk) (hv:PE X v tv) (hr:PPs X pos ks vs trs) :
  PPs X pos (some k::ks) (v::vs) ((tk,tv)::trs):=fun ae s σ H Q I h =>
 pairTrees_cons_walk (thn (hk ae s σ H _ I h) fun u s1 ⟨x,H1,I1,rx,q1⟩=>thn (hv ae s1 σ H1 _ I1 q1) fun w2 s2 ⟨y,H2,I2,ry,q2⟩ =>
  thn (hr ae s2 σ H2 _ I2 q2) fun ws s3 ⟨ps,H3,I3,rel,q3⟩=>⟨(x,y)::ps,H3,I3,.cons ⟨rx,ry⟩ rel,q3⟩)
noncomputable def mR (aT more:List (Key×V)):List (Key×V):=more.foldl (fun ar kv=>jc ar kv.1 kv.2) aT
theorem KV.merge:∀ {more:List (Key×V)} {rs:List (Key×Value)} {aT:List (Key×V)} {vs:List (Key×Value)},KV more rs->KV aT vs->KV (mR aT more) (merged vs rs):=by
 intro more rs aT vs r;unfold KV at r
 induction r generalizing aT vs with
 | nil=>intro q; exact q
 | @cons p q ps qs h t ih =>
  intro r0;have e:KV (jc aT p.1 p.2) (stored vs q.1 q.2):=by
   have:=r0.put p.1 h.2
   rw [<- h.1]; exact this
  exact ih e
theorem jB:∀ (more aT:List (Key×V)),(mR aT more).length<=aT.length+more.length
 | [],aT=>by show aT.length<=aT.length+0; omega
 | p::r,aT=>by
  have h1:=jB r (jc aT p.1 p.2);have h2:=iU aT p.1 p.2;show (mR (jc aT p.1 p.2) r).length<=_;rw [W9]; omega
theorem qP {P:Program} {w:World}:∀ {aT:List (Key×V)} {ws:List (Value×Value)},VV (aT.map fun kv=>(kV kv.1,kv.2)) ws->∃ rs,Carries (ci P w) ws rs/\KV aT rs
 | [],_,r=>by rw [XZ] at r; cases r; exact ⟨[],True.intro,.nil⟩
 | p::aT,_,r=>by
  rw [Xp] at r;cases r with
  | @cons a b as bs h t =>
   obtain ⟨rs,c,q⟩:=qP (P:=P) (w:=w) t;obtain ⟨b1,b2⟩:=b;exists (p.1,b2)::rs,⟨EK h.1,rfl,c⟩,.cons ⟨rfl,h.2⟩ q
noncomputable def Ot (trs:List (TE×TE)):TE:=fun σ H Q=>∀ p,H p=none->AI trs σ (upd H p (.dK [])) fun ps H2=>H2 p=some (.dK [])/\∃ aT:List (Key×V),ps=aT.map (fun kv=>(kV kv.1,kv.2))/\aT.length<=15/\Q (.ref p) (upd H2 p (.dK (mR [] aT)))
theorem JC {X:Cx} {pos:Pos} {keys:List (Option Expr)} {values:List Expr} {trs:List (TE×TE)} (h:PPs X pos keys values trs) (hall:keys.all (·.isSome)=true) (hl:keys.length=values.length) (h0:keys≠[])
  (VP:keys.length<=15):PE X (.Dict keys values pos) (Ot trs):=by
 intro ae s σ H Q I q;have hn:=I.hok.fresh (Xc s.heap.objs.size);have I1:=I.laid (a:=s.heap.objs.size) (o:=.dK []) (h':=s.heap.push { cls:=.type "dict",data:=.dict #[] }) (t':=s.toks) (fun _ _ q=>Heap.get?_push_of_some _ q) (Xc _) (Fi s.heap I.big);refine wpAny_Dict_walk (knd:=ci X.prog X.w) hall hl h0 VP (thn (h ae _ σ _ _ I1 (q _ hn)) fun ws s2 ⟨ps,H2,I2,rel,e,aT,ep,lk,q2⟩=>?_);subst ep;obtain ⟨rs,c,rk⟩:=qP (P:=X.prog) (w:=X.w) rel;obtain ⟨z,hd,WP,r0,dd⟩:=Ko I2.hok e;cases r0;exists rs,c,dd,fun h' M5 hs=>⟨.ref s.heap.objs.size,_,?_,rfl,q2⟩
 have hz:(mR [] aT).length<=sizeLine:=by
  have h1:=jB aT [];rw [Xd] at h1;rw [sizeLine_eq]; omega
 have he:∃ q,h'.get? s.heap.objs.size=some q:=let ⟨q,_,_,hq,_⟩:=M5; ⟨q,hq⟩;exact vW I2 (by rw [e]; exact True.intro) hs he (EC hz hd (rk.merge .nil) M5)
structure M1 (X:Cx) (o:Expr) (m:Str) (apos:Pos) (e:Expr) (dk:Pos):Prop where
 base:attributeBase o m X.env (eval o X.env)=eval o X.env
 few:((backTo dk (starEach [e] X.env)).all (fun x=>!x.1)&&(backToKw dk (keywordEach [] X.env)).all (fun x=>x.1.isSome)
 &&decide (([e]:List Expr).length+([]:List Keyword).length+(if ([]:List Keyword).isEmpty then 0 else 1)<30))=true
 line:(apos.endLine==dk.line)=true
 trees:backTo dk (starEach [e] X.env)=[(false,eval e X.env)]
structure M2 (X:Cx) (o:Expr) (m:Str) (apos:Pos) (e f:Expr) (dk:Pos):Prop where
 base:attributeBase o m X.env (eval o X.env)=eval o X.env
 few:((backTo dk (starEach [e,f] X.env)).all (fun x=>!x.1)&&(backToKw dk (keywordEach [] X.env)).all (fun x=>x.1.isSome)
 &&decide (([e,f]:List Expr).length+([]:List Keyword).length+(if ([]:List Keyword).isEmpty then 0 else 1)<30))=true
 line:(apos.endLine==dk.line)=true
 trees:backTo dk (starEach [e,f] X.env)=[(false,eval e X.env),(false,eval f X.env)]
section
variable {X:Cx} {ae:List (Addr×Obj)} {σ:St} {H:Hp} {s:Shared} {a:Addr} {y d:V} {u r:Value} {o:Option V} {A:Around} {E:Value->Shared->Prop}
end
section
variable {X:Cx} {o e f:Expr} {apos dk:Pos} {td ty tx:TE}
end
section
variable {X:Cx} {ae:List (Addr×Obj)} {σ:St} {H:Hp} {s:Shared} {a:Addr} {aT:List (Key×V)} {A:Around} {E:Value->Shared->Prop}
end
section
variable {X:Cx} {ae:List (Addr×Obj)} {σ:St} {H:Hp} {s:Shared} {a:Addr} {y:V} {u:Value} {A:Around} {E:Value->Shared->Prop}
end
section
variable {X:Cx}
end
section
variable {κ:Type} [DecidableEq κ]
end
open PySem PySem.Spec PyProof.Rows
section
variable {m:Nat} {g:TG} {tt:TT} {te:TE} {σ':St} {Z:List V->Hp->Prop} {H1:Hp} {K:Frag}
theorem lX {a:Addr} {xs:List V} (n:Nat) (hz:n=xs.length) (hn:n<=1000) (Pv:Nat->List V->Hp->Prop) (h0:Pv 0 [] H1) (hq:∀ i ar H,Pv i ar H->SqL K H a xs)
  (hs:∀ i ar H x,i<n->ar.length<=i->xs[i]?=some x->Pv i ar H->g x σ' H fun σ2 H2=>(σ2.drop m=σ'.drop m/\σ2.length=σ'.length)/\tt σ2 H2 fun b H3=>if b=true then te σ2 H3 fun v H4=>NxT n Pv i ar v H4 else NxF n Pv i ar H3)
  (hd:∀ ar H,Pv n ar H->ar.length<=n->Z ar H):nU (Itl K a) m g tt te σ' Z H1 :=
 o5 n hn Pv h0 (fun i ar H hi la p=>by
  have hx:xs[i]?=some (xs[i]'(by omega)):=XA (by omega);exact ⟨⟨xs,_,hq i ar H p,hx⟩,fun x H' y=>by obtain ⟨e,y⟩:=y; subst e; exact hs i ar _ x hi la (y xs (hq i ar _ p)) p⟩) fun ar H p la=>⟨⟨xs,hq n ar H p,by omega⟩,hd ar H p la⟩
end
section
variable {X:Cx}
end
theorem kg {t u:L2.TS} {D:jx} {σ:St} {H:Hp} (J:St->Hp->Prop) (h1:∀ NX:St->Hp->Prop,(∀ σ H,J σ H->NX σ H)->t { D with nx:=NX } σ H) (h2:∀ σ H,J σ H->u D σ H):am t u D σ H:=h1 _ h2
open PySem PySem.Spec PyProof.Rows
section
variable {X:Cx}
structure KD (K:Frag) (w:World) (a:Addr) (aT:List (Str×Str)):Prop where
 ex:∃ es n,K.lookup a=some ⟨.type "dict",none,.dict es n,#[]⟩/\KeysLit w.params es.toList
 at_:∀ p∈aT,∃ t,PySem.W.nsIn K a p.1=some (some (.str p.2 t))
end
end L2
namespace PySem
open Sem (wp)
namespace F
theorem no_tuple_reversed:typeLookup (.type "tuple") "__reversed__"=pure none:=by rw [typeLookup_type,builtinLookup_eq_fast]; kernel_rfl
theorem fU:Manifest.owners.lookup (String.ofList ['d','e','s','r','e','v','e','r'].reverse)=some Manifest.sig_reversed:=by kernel_rfl
theorem jP:Slot "reversed" "__init__" "object.__init__" :=
 .of (owner := "object") (n := "__init__") (by rw [typeLookup_type,builtinLookup_eq_fast]; kernel_rfl) () () ()
  (by first | exact .inl () | exact .inr ()) (by rw [isSubtype_type]; kernel_rfl)
theorem slot_reversed_next:Slot "reversed" "__next__" "reversed.__next__" :=
 .of (owner := "reversed") (n := "__next__") (by rw [typeLookup_type,builtinLookup_eq_fast]; kernel_rfl) () () ()
  (by first | exact .inl () | exact .inr ()) (by rw [isSubtype_type]; kernel_rfl)
theorem slot_reversed_iter:Slot "reversed" "__iter__" "reversed.__iter__" :=
 .of (owner := "reversed") (n := "__iter__") (by rw [typeLookup_type,builtinLookup_eq_fast]; kernel_rfl) () () ()
  (by first | exact .inl () | exact .inr ()) (by rw [isSubtype_type]; kernel_rfl)
theorem entry_reversed_next:entryFor table "reversed.__next__"=some Builtin.«reversed.__next__»:=entryFor_of_tree (by kernel_rfl)
theorem args_reversed_next_1 (a:Value):argsOk "reversed.__next__" ⟨[a],[]⟩:=by
 unfold argsOk; rw [signature?_of (id := "reversed.__next__") (n:=['_','_','t','x','e','n','_','_']) (o:=['d','e','s','r','e','v','e','r']) (by kernel_rfl) fU]; kernel_rfl
theorem args_reversed_iter_1 (a:Value):argsOk "reversed.__iter__" ⟨[a],[]⟩:=by
 unfold argsOk; rw [signature?_of (id := "reversed.__iter__") (n:=['_','_','r','e','t','i','_','_']) (o:=['d','e','s','r','e','v','e','r']) (by kernel_rfl) fU]; kernel_rfl
theorem entry_reversed_iter:entryFor table "reversed.__iter__"=some Builtin.«dict_keyiterator.__iter__» :=
 entryFor_alias (id' := "dict_keyiterator.__iter__") (by kernel_rfl) (by first | rfl | decide +kernel | (unfold String.splitOn; simp +decide [String.splitOnAux])) () (by kernel_rfl)
theorem called_reversed:TypeCalled "reversed" "reversed.__new__" "object.__init__" :=
 ⟨(),(),⟨_,_,mro_reversed⟩,made_reversed,(),by rw [isSubtype_type]; kernel_rfl,jP⟩
theorem no_lri_len:typeLookup (.type "list_reverseiterator") "__len__"=pure none:=by rw [typeLookup_type,builtinLookup_eq_fast]; kernel_rfl
theorem no_reversed_len:typeLookup (.type "reversed") "__len__"=pure none:=by rw [typeLookup_type,builtinLookup_eq_fast]; kernel_rfl
end F
section
variable {prog:Program} {w:World} {A:Around} {E:Value->Shared->Prop} {s:Shared}
noncomputable def vF (t:Addr) (i:Int):Obj:={ cls:=.type "reversed",data:=.fields #[.ref t,rawInt i] }
theorem jL (t:Addr) (items:Array Value) (hz:¬ (items.size:Int) ≥ 2 ^ 63) :
  Meets (Builtin.«reversed.__new__» ⟨[.type "reversed",.ref t],[]⟩) (fun _ R s=>Yw s.heap t items /\
   R (.ok (.ret (.ref s.heap.objs.size))) { s with heap:=s.heap.push (vF t ((items.size:Int) - 1)),toks:=s.toks+1+1 }) :=
 .of_wp fun prog w A R s h=>by
  obtain ⟨ht,h⟩:=h;have hT:s.TypeIs (.ref t) "tuple":=ht.typeIs;unfold Builtin.«reversed.__new__»;refine wpAny_bind (wpAny_of_eq (newClass_reversed _) ?_)
  try dsimp only
  refine wpAny_bind (wpAny_of_eq (a:=Unit.unit) (by first | rfl | kernel_rfl) ?_);refine wpAny_bind (wpAny_of_eq (a:=Unit.unit) (by first | rfl | kernel_rfl) ?_)
  try dsimp only
  refine wpAny_bind (wpAny_specialOf hT F.no_tuple_reversed ?_)
  try dsimp only
  refine wpAny_bind ?_;show wpAny _ _ (isInstance (.ref t) (.type "dict") >>= _) _ _ _;refine wpAny_bind (wpAny_isInstance hT F.sub_tuple_dict ?_);rw [if_neg (by decide)];refine wpAny_bind (wpAny_specialOf hT F.slot_tuple_getitem.lookup ?_);dsimp only;rw [if_pos ()];refine wpAny_pure ?_;rw [if_neg (by decide)];refine wpAny_bind (Zy ht (by omega) ?_);refine wpAny_bind (wpAny_of_eq (a:=some ((items.size:Nat):Int)) rfl ?_);dsimp only;unfold Builtin.SmallTypes.newRecord;exact wpAny_bind (wpAny_newObj_type (wpAny_pure ⟨_,rfl,h⟩))
theorem jz {t:Addr} {items:Array Value} {Q:Value->Shared->Prop} (ht:Yw s.heap t items) (hz:¬ (items.size:Int) ≥ 2 ^ 63)
  (h:Q (.ref s.heap.objs.size) { s with heap:=s.heap.push (vF t ((items.size:Int) - 1)),toks:=s.toks+1+1 }):wpAny (model prog w) A (call (.type "reversed") [.ref t]) Q E s:=by
 refine callType_new F.called_reversed (by decide) (F.typeCall_reversed_1 _) (F.newCall_reversed_1 _) (fun obj=>F.args_object_init_2 obj _) F.entry_reversed_new (jL t items hz) ⟨ht,?_⟩;exists ⟨_,Heap.get?_push_size _ rfl,rfl⟩,h
noncomputable def Heap.IsRvt (h:Heap) (a t:Addr) (i:Int):Prop:=∃ o,h.get? a=some o/\o.cls=.type "reversed"/\o.data=.fields #[.ref t,rawInt i]
theorem Heap.IsRvt.typeIs {a l:Addr} {i:Int} (x:s.heap.IsRvt a l i):s.TypeIs (.ref a) "reversed":=let ⟨o,ho,hc,_⟩:=x; ⟨o,ho,hc⟩
theorem Heap.IsRvt.at {h h':Heap} {a l:Addr} {i:Int} (x:h.IsRvt a l i) (e:∀ o,h.get? a=some o->h'.get? a=some o):h'.IsRvt a l i:=let ⟨o,ho,r⟩:=x; ⟨o,e _ ho,r⟩
theorem oz {it t:Addr} {i:Nat} {items:Array Value} {x:Value} {Q:Option Value->Shared->Prop} (hit:s.heap.IsRvt it t (i:Int)) (ht:Yw s.heap t items) (hb:(i:Int)<2 ^ 63) (hx:items[i]?=some x)
  (hQ:∀ h' tk,h'.IsRvt it t ((i:Int) - 1)->Heap.SameBut it s.heap h'->Q (some x) { s with heap:=h',toks:=tk }):wpAny (model prog w) A (pyNext (.ref it)) Q E s:=by
 obtain ⟨o,ho,hc,hd⟩:=id hit;have hT:s.TypeIs (.ref t) "tuple":=ht.typeIs;unfold pyNext;refine wpAny_bind (wpAny_attempt (wpAny_callSpecial?_slot (name:=Xx "__next__") hit.typeIs F.slot_reversed_next
  (wpAny_call_entry F.slot_reversed_next hit.typeIs F.entry_reversed_next ?_ (F.args_reversed_next_1 _))))
 unfold Builtin.«reversed.__next__»;refine wpAny_bind (wpAny_of_eq (a:=(Value.ref it,[])) rfl ?_)
 try dsimp only
 refine wpAny_bind (wpAny_field ho hd (x:=.ref t) rfl ?_);refine wpAny_bind (wpAny_field ho hd (x:=rawInt (i:Int)) rfl ?_);show wpAny _ _ (if (i:Int)<0 then _ else _) _ _ s;rw [if_neg (by omega)];refine wpAny_bind (wpAny_specialOf hT F.slot_tuple_getitem.lookup ?_);rw [if_neg (by simp)];refine wpAny_bind (wpAny_mkInt ?_);have hi:i<items.size:=(Array.getElem?_eq_some_iff.mp hx).1;refine wpAny_bind (wpAny_attempt (PyProof.Rows.getItem_tuple ht (by omega) hb (j:=i) (by simp [seqIndex?]; omega) hx ?_));dsimp only;refine wpAny_bind (wpAny_field ho hd (x:=rawInt (i:Int)) rfl ?_);show wpAny _ _ (setField (.ref it) 1 (rawInt ((i:Int) - 1)) >>= _) _ _ _;refine wpAny_bind (wpAny_setField ho hd (by simp) ?_);refine wpAny_pure ⟨x,rfl,wpAny_pure (hQ _ _ ?_ (Heap.SameBut.update ..))⟩;exact ⟨_,Heap.get?_update_self _ ho (Obj.isFreed_of_fields (Obj.data_mapFields hd _)),(Obj.cls_mapFields ..).trans hc,by
  rw [Obj.data_mapFields hd]; simp⟩
theorem qR {it t:Addr} {Q:Option Value->Shared->Prop} (hh:A.handled=none) (hit:s.heap.IsRvt it t (-1))
  (hQ:∀ h',Heap.ExtBut it s.heap h'->Q none { s with heap:=h' }):wpAny (model prog w) A (pyNext (.ref it)) Q E s:=by
 obtain ⟨o,ho,hc,hd⟩:=id hit;unfold pyNext;refine wpAny_bind (wpAny_attempt (wpAny_callSpecial?_slot (name:=Xx "__next__") hit.typeIs F.slot_reversed_next
  (wpAny_call_entry F.slot_reversed_next hit.typeIs F.entry_reversed_next ?_ (F.args_reversed_next_1 _))))
 unfold Builtin.«reversed.__next__»;refine wpAny_bind (wpAny_of_eq (a:=(Value.ref it,[])) rfl ?_)
 try dsimp only
 refine wpAny_bind (wpAny_field ho hd (x:=.ref t) rfl ?_);refine wpAny_bind (wpAny_field ho hd (x:=rawInt (-1)) rfl ?_);show wpAny _ _ (if (-1:Int)<0 then _ else _) _ _ s;rw [if_pos (by decide)];refine wpAny_bind (wpAny_rule ?_);refine wpAny_bind ?_;show wpAny _ _ (setField (.ref it) 1 (rawInt (-1)) >>= fun _=>setField (.ref it) 0 .none) _ _ _;refine wpAny_bind (wpAny_setField ho hd (by simp) ?_);have Ew:=Heap.get?_update_self (Obj.mapFields fun f=>f.set! 1 (rawInt (-1))) ho (Obj.isFreed_of_fields (Obj.data_mapFields hd _));refine wpAny_setField Ew (Obj.data_mapFields hd _) (by simp) ?_;have eb:Heap.ExtBut it s.heap ((s.heap.update it (Obj.mapFields fun x=>x.setIfInBounds 1 (rawInt (-1)))).update it (Obj.mapFields fun x=>x.setIfInBounds 0 Value.none)):=fun b o hb e=>(Heap.get?_update_other _ _ (Ne.symm hb)).trans ((Heap.get?_update_other _ _ (Ne.symm hb)).trans e)
 refine wpAny_bind ?_;show wpAny _ _ (newExc (.type "StopIteration") [] >>= _) _ _ _;refine wpAny_bind ?_;simp only [newExc,newTuple];refine wpAny_bind (wpAny_newObj_type ?_ (by size_fits));refine wpAny_bind (m:=firstArgMember _ _) (wpAny_of_eq (a:=Value.none) (by first | rfl | (simp only [firstArgMember]; rfl)) ?_);refine wpAny_newObj_type ?_ (by size_fits);simp only [raiseNew];refine wpAny_bind (wpAny_handled ?_)
 first | rw [show A.in1.handled=none from hh] | rw [hh]
 refine wpAny_bind (wpAny_pure (wpAny_throw ?_));refine wpAny_bind (wpAny_isInstance (T := "StopIteration") (b:=true) ⟨_,Heap.get?_push_size _ rfl,rfl⟩ isSubtype_stop ?_);exact wpAny_pure (hQ _ ((eb.push _).push _))
theorem AY {it t:Addr} {i:Int} {Q:Value->Shared->Prop} (hit:s.heap.IsRvt it t i) (h:Q (.ref it) s):wpAny (model prog w) A (pyIter (.ref it)) Q E s:=by
 refine wpAny_pyIter_slot hit.typeIs F.slot_reversed_iter (wpAny_call_entry F.slot_reversed_iter hit.typeIs F.entry_reversed_iter ?_ (F.args_reversed_iter_1 _));show wpAny _ _ (ret (.ref it)) _ _ s;exact wpAny_pure ⟨_,rfl, "reversed",_,hit.typeIs,F.slot_reversed_next.lookup,h⟩
end
theorem Walks.tupRev {prog:Program} {w:World} {A:Around} (hh:A.handled=none) (I t:Addr) (hne:t≠I) (items:Array Value) (hz:items.size<=sizeLine) :
  Walks prog w A I [I,t] [I] items.size (fun i v=>items[items.size - 1 - i]?=some v) (fun i h=>i<=items.size/\h.IsRvt I t ((items.size:Int) - 1 - (i:Int))/\Yw h t items) where
 sub:=fun b hb=>by simp at hb; simp [hb]
 frame:=fun _ _ _ x hk=>⟨x.1,x.2.1.at fun o e=>hk I (by simp) o e,let ⟨o,e,r⟩:=x.2.2; ⟨o,hk t (by simp) o e,r⟩⟩
 item:=fun i s Q E hi x hQ=>by
  have e:(items.size:Int) - 1 - (i:Int)=((items.size - 1 - i:Nat):Int):=by omega
  have hit:=x.2.1;rw [e] at hit;have hx:items[items.size - 1 - i]?=some (items[items.size - 1 - i]'(by omega)):=YF (by omega);have hs:sizeLine=16777216:=sizeLine_eq;refine oz hit x.2.2 (by omega) hx fun h' tk Qh IS=>?_
  have e2:((items.size - 1 - i:Nat):Int) - 1=(items.size:Int) - 1 - ((i+1:Nat):Int):=by omega
  rw [e2] at Qh;exact hQ _ h' tk hx ⟨hi,Qh,x.2.2.extBut IS.extBut hne⟩ fun b o hb eo=>IS.extBut b o (fun h=>hb (by simp [h])) eo
 done:=fun s Q E x hQ=>by
  have e:(items.size:Int) - 1 - (items.size:Int)=-1:=by omega
  have hit:=x.2.1;rw [e] at hit;exact qR hh hit fun h' UY=>hQ h' s.toks fun b o hb eo=>UY b o (fun h=>hb (by simp [h])) eo
 self:=fun _ _ _ _ x hQ=>AY x.2.1 hQ
open Sem (wp)
namespace F
theorem slot_lri_hint:Slot "list_reverseiterator" "__length_hint__" "list_reverseiterator.__length_hint__" :=
 .of (owner := "list_reverseiterator") (n := "__length_hint__") (by rw [typeLookup_type,builtinLookup_eq_fast]; kernel_rfl) () () ()
  (by first | exact .inl () | exact .inr ()) (by rw [isSubtype_type]; kernel_rfl)
theorem slot_reversed_hint:Slot "reversed" "__length_hint__" "reversed.__length_hint__" :=
 .of (owner := "reversed") (n := "__length_hint__") (by rw [typeLookup_type,builtinLookup_eq_fast]; kernel_rfl) () () ()
  (by first | exact .inl () | exact .inr ()) (by rw [isSubtype_type]; kernel_rfl)
theorem entry_reversed_hint:entryFor table "reversed.__length_hint__"=some Builtin.«reversed.__length_hint__»:=entryFor_of_tree (by kernel_rfl)
theorem args_reversed_hint_1 (a:Value):argsOk "reversed.__length_hint__" ⟨[a],[]⟩:=by
 unfold argsOk; rw [signature?_of (id := "reversed.__length_hint__") (n:=['_','_','t','n','i','h','_','h','t','g','n','e','l','_','_']) (o:=['d','e','s','r','e','v','e','r']) (by kernel_rfl) fU]; kernel_rfl
end F
section
variable {prog:Program} {w:World} {A:Around} {E:Value->Shared->Prop} {s:Shared}
theorem Gc {it l:Addr} {i:Int} {Q:Bool->Shared->Prop} (hit:s.heap.IsRevIter it l i) (h:∀ b tk,Q b { s with toks:=tk }):wpAny (model prog w) A (Builtin.List.listLengthHint (.ref it)) Q E s:=by
 unfold Builtin.List.listLengthHint;refine wpAny_bind (wpAny_specialOf hit.typeIs F.no_lri_len ?_);dsimp only;refine wpAny_ite_split (fun hab=>absurd hab ()) (fun _=>?_);refine wpAny_ite_split (fun hab=>absurd hab (by decide)) (fun _=>?_);refine wpAny_bind (wpAny_specialOf hit.typeIs F.slot_lri_hint.lookup ?_);dsimp only;generalize hid:("list_reverseiterator.__length_hint__":String)=id0;rw [show splitId id0=some ("list_reverseiterator", "__length_hint__") from by subst hid; decide +kernel];subst hid;dsimp only;refine wpAny_bind (wpAny_isInstance (T := "list_reverseiterator") (b:=true) hit.typeIs (by rw [isSubtype_type]; kernel_rfl) ?_);refine wpAny_ite_split (fun hab=>absurd hab (by decide)) (fun _=>?_);refine wpAny_ite_split (fun _=>?_) (fun hab=>absurd () hab);refine wpAny_ite_split (fun hab=>absurd hab ()) (fun _=>?_);exact wpAny_pure (h _ s.toks)
theorem Ia {it t:Addr} {items:Array Value} {Q:Bool->Shared->Prop} (hit:s.heap.IsRvt it t ((items.size:Int) - 1)) (ht:Yw s.heap t items) (hz:items.size<=sizeLine) (h:∀ b tk,Q b { s with toks:=tk }):wpAny (model prog w) A (Builtin.List.listLengthHint (.ref it)) Q E s:=by
 have hsz:sizeLine=16777216:=sizeLine_eq;obtain ⟨o,ho,hc,hd⟩:=id hit;unfold Builtin.List.listLengthHint;refine wpAny_bind (wpAny_specialOf hit.typeIs F.no_reversed_len ?_);dsimp only;refine wpAny_ite_split (fun hab=>absurd hab ()) (fun _=>?_);refine wpAny_ite_split (fun hab=>absurd hab (by decide)) (fun _=>?_);refine wpAny_bind (wpAny_specialOf hit.typeIs F.slot_reversed_hint.lookup ?_);dsimp only;generalize hid:("reversed.__length_hint__":String)=id0;rw [show splitId id0=some ("reversed", "__length_hint__") from by subst hid; decide +kernel];subst hid;dsimp only;refine wpAny_bind (wpAny_isInstance (T := "reversed") (b:=true) hit.typeIs (by rw [isSubtype_type]; kernel_rfl) ?_);refine wpAny_ite_split (fun hab=>absurd hab (by decide)) (fun _=>?_);refine wpAny_ite_split (fun hab=>absurd hab ()) (fun _=>?_);refine wpAny_bind (wpAny_rule ?_);refine wpAny_bind (wpAny_of_eq (F.slot_reversed_hint.bind _) ?_);dsimp only;refine wpAny_bind (wpAny_attempt (wpAny_call_entry F.slot_reversed_hint hit.typeIs F.entry_reversed_hint ?_ (F.args_reversed_hint_1 _)));unfold Builtin.«reversed.__length_hint__»;refine wpAny_bind (wpAny_of_eq (a:=Value.ref it) rfl ?_);refine wpAny_bind (wpAny_field ho hd (x:=.ref t) rfl ?_);rw [if_neg (show ¬ ((Value.ref t==Value.none)=true) from Xq)];refine wpAny_bind (Zy ht (by omega) ?_);refine wpAny_bind (wpAny_of_eq (a:=some ((items.size:Nat):Int)) rfl ?_);dsimp only;refine wpAny_bind (wpAny_field (s:={ s with toks:=s.toks+1+1 }) ho hd (x:=rawInt ((items.size:Int) - 1)) rfl ?_);show wpAny _ _ (if ((items.size:Nat):Int)<(items.size:Int) - 1+1 then _ else _) _ _ _;rw [if_neg (by omega)];unfold retInt;refine wpAny_bind (wpAny_mkInt (wpAny_pure ⟨_,rfl,?_⟩));dsimp only;refine wpAny_bind (wpAny_of_eq (a:=some ((items.size:Int) - 1+1)) rfl ?_);dsimp only;refine wpAny_ite_split (fun hab=>absurd hab (by simp [Builtin.List.listFitsIndex]; omega)) (fun _=>?_);refine wpAny_ite_split (fun hab=>absurd hab (by omega)) (fun _=>?_);refine wpAny_ite_split (fun hab=>absurd hab (by simp [Builtin.List.listTooLong]; omega)) (fun _=>?_);exact wpAny_pure (h _ _)
end
section
variable {prog:Program} {w:World} {A:Around} {s:Shared} {R:Result->Shared->Prop}
variable {I:Addr} {fp wr:List Addr} {n:Nat} {P:Nat->Value->Prop} {St:Nat->Heap->Prop}
theorem xA (W:Walks prog w A.in1 I fp wr n P St) {T:String} (hT:s.TypeIs (.ref I) T) (h2:(Value.type T==Value.type "list")=false) (h3:(Value.type T==Value.type "tuple")=false) (S:Addr) (res:Value) (c₀:Nat) (hst:St 0 s.heap) (hSf:S∉fp) (hI:I∈fp)
  (hint:∀ (E:Value->Shared->Prop) (Q:Bool->Shared->Prop),(∀ b tk,Q b { s with toks:=tk })->wpAny (model prog w) A.in1 (Builtin.List.listLengthHint (.ref I)) Q E s)
  (hS:s.heap.get? S=some { cls:=.type "list",data:=.seq #[] c₀ })
  (hR:∀ h' tk wK c',(∀ b o,b∉S::wr->s.heap.get? b=some o->h'.get? b=some o)->h'.get? S=some { cls:=.type "list",dict:=none,data:=.seq wK c',slots:=#[] }->ItemsOf P wK n->R (.ok (.ret res)) { s with heap:=h',toks:=tk }) (hn:n<=sizeLine) :
  wpAny (model prog w) A.in1 (Builtin.List.listExtendWith (.ref S) (.ref I) res)
   (fun fin s'=>match fin with | .done f=>R (.ok f) s' | .again c'=>c'.quiet=true/\codeAny (model prog w) A c' R s') (fun e s'=>R (.error e) s') s:=by
 have hSI:S≠I:=fun e=>hSf (e ▸ hI)
 have key:∀ (h:Heap) (c₁ tk:Nat),St 0 h->(∀ b o,b≠S->s.heap.get? b=some o->h.get? b=some o) ->
   h.get? S=some { cls:=.type "list",data:=.seq #[] c₁ }->codeAny (model prog w) A (.builtin "list.extend.loop" ⟨[.ref S,.ref I,res],[]⟩) R { s with heap:=h,toks:=tk }:=by
  intro h c₁ tk hit hk hS₁;refine codeAny_extend_loopS W.toS hn S hSf res n 0 _ #[] c₁ rfl (Xj _) hit hS₁ (ItemsOf.nil _) fun s' wK c' hm R4 hacc=>?_
  rw [Moved.eq_with hm];exact hR s'.heap s'.toks wK c' (fun b o hb e=>hm.heap b o hb (hk b o (fun z=>hb (z ▸ Xl)) e)) R4 hacc
 unfold Builtin.List.listExtendWith;refine wpAny_bind (wpAny_typeOf hT ?_);have h1:Builtin.List.listSameRef (.ref S) (.ref I)=false:=by simp [Builtin.List.listSameRef,hSI]
 simp only [h1,h2,h3,aaM,Zd,if_false];refine wpAny_bind (W.self 0 _ _ _ hst ?_);refine wpAny_bind (wpAny_holding (hint _ _ fun b tk=>?_));refine wpAny_ite_split (fun _=>?_) (fun _=>wpAny_pure ⟨plainId_quiet F.plain_extend_loop _,key _ c₀ _ hst (fun b o _ e=>e) hS⟩);refine wpAny_bind (wpAny_rule ?_);refine wpAny_bind ?_;show wpAny _ _ (updateSeq S (·.push .none) >>= fun _=>updateSeq S (·.pop)) _ _ _;refine wpAny_bind (wpAny_updateSeq hS rfl ?_);have hS₂:=Heap.get?_update_self (Obj.mapSeq (·.push Value.none)) hS rfl;refine wpAny_updateSeq (hz:=by seq_fits) hS₂ rfl ?_;have hS₃:=Heap.get?_update_self (Obj.mapSeq (·.pop)) hS₂ rfl;have oth:∀ b o,b≠S->s.heap.get? b=some o->((s.heap.update S (Obj.mapSeq (·.push Value.none))).update S (Obj.mapSeq (·.pop))).get? b=some o :=
  fun b o hb e=>(Heap.get?_update_other _ _ (Ne.symm hb)).trans ((Heap.get?_update_other _ _ (Ne.symm hb)).trans e)
 exact wpAny_pure ⟨plainId_quiet F.plain_extend_loop _,key _ _ _ (W.frame 0 _ _ hst fun b hb o e=>oth b o (fun z=>hSf (z ▸ hb)) e) oth hS₃⟩
end
section
variable {prog:Program} {w:World} {A:Around} {E:Value->Shared->Prop} {s:Shared}
variable {I:Addr} {fp wr:List Addr} {n:Nat} {P:Nat->Value->Prop} {St:Nat->Heap->Prop}
theorem iS {Q:Value->Shared->Prop} (W:Walks prog w A.in1.in1 I fp wr n P St) {T:String} (hT:s.TypeIs (.ref I) T) (h2:(Value.type T==Value.type "list")=false) (h3:(Value.type T==Value.type "tuple")=false) (hst:St 0 s.heap) (hfp:∀ b∈fp,b<s.heap.objs.size) (hI:I∈fp)
  (hint:∀ (h:Heap),St 0 h->∀ (E:Value->Shared->Prop) (Q:Bool->Shared->Prop),(∀ b tk,Q b { s with heap:=h,toks:=tk })->wpAny (model prog w) A.in1.in1 (Builtin.List.listLengthHint (.ref I)) Q E { s with heap:=h })
  (hQ:∀ h' tk wK c',(∀ b o,b∉wr->s.heap.get? b=some o->h'.get? b=some o)->h'.get? s.heap.objs.size=some { cls:=.type "list",dict:=none,data:=.seq wK c',slots:=#[] }->ItemsOf P wK n->Q (.ref s.heap.objs.size) { s with heap:=h',toks:=tk }) (hn:n<=sizeLine) :
  wpAny (model prog w) A (call (.type "list") [.ref I]) Q E s:=by
 have hSf:s.heap.objs.size∉fp:=fun hm=>X3 _ (hfp _ hm)
 refine callType_codes (Q₁:=fun obj s₁=>obj=.ref s.heap.objs.size/\s₁={ s with heap:=s.heap.push { cls:=.type "list",data:=.seq #[] } }) F.called_list (F.typeCall_list_1 _) F.entry_list_init
  (code_list_new _ ⟨rfl,rfl⟩) fun obj s₁ h₁=>?_
 obtain ⟨rfl,rfl⟩:=h₁;have hS:(s.heap.push { cls:=.type "list",data:=.seq #[] }).get? s.heap.objs.size=some { cls:=.type "list",data:=.seq #[] }:=Heap.get?_push_size _ rfl;exists ⟨_,hS,rfl⟩,F.args_list_init_2 _ _,?_;have Na:St 0 (s.heap.push { cls:=.type "list",data:=.seq #[] }):=W.frame 0 _ _ hst fun b _ o e=>Heap.get?_push_of_some _ e
 show wpAny _ A.in1.in1 (do let old <- Builtin.List.listItems (.ref s.heap.objs.size); Builtin.List.listUpdate (.ref s.heap.objs.size) (fun _=>#[]); letGo old.toList.reverse; Builtin.List.listExtendWith (.ref s.heap.objs.size) (.ref I) .none) _ _ _;refine wpAny_bind ?_;unfold Builtin.List.listItems;refine wpAny_bind (wpAny_seqItems hS rfl (wpAny_pure ?_));show wpAny _ A.in1.in1 (updateSeq s.heap.objs.size (fun _=>#[]) >>= fun _=>letGo (#[]:Array Value).toList.reverse >>= fun _=>Builtin.List.listExtendWith (.ref s.heap.objs.size) (.ref I) .none) _ _ _;refine wpAny_bind (wpAny_updateSeq hS rfl ?_);have hS₂:=Heap.get?_update_self (Obj.mapSeq (fun _=>(#[]:Array Value))) hS rfl;have oth:∀ b o,b≠s.heap.objs.size->(s.heap.push { cls:=.type "list",data:=.seq #[] }).get? b=some o->((s.heap.push { cls:=.type "list",data:=.seq #[] }).update s.heap.objs.size (Obj.mapSeq (fun _=>(#[]:Array Value)))).get? b=some o :=
  fun b o hb e=>(Heap.get?_update_other _ _ (Ne.symm hb)).trans e
 have Le:=W.frame 0 _ _ Na fun b hb o e=>oth b o (fun z=>hSf (z ▸ hb)) e
 have wy:({ s with heap:=((s.heap.push { cls:=.type "list",data:=.seq #[] }).update s.heap.objs.size (Obj.mapSeq (fun _=>(#[]:Array Value)))) }:Shared).TypeIs (.ref I) T:=by
  obtain ⟨o,e,c⟩:=hT;exists o,oth I o (fun z=>hSf (z ▸ hI)) (Heap.get?_push_of_some _ e),c
 refine wpAny_bind (wpAny_letGo ?_);refine xA (A:=A.in1) W wy h2 h3 _ .none _ Le hSf hI (fun E Q q=>hint _ Le E Q q) hS₂ (fun h' tk wK c' hk R4 hacc=>?_) hn;exists rfl,hQ h' tk wK c' (fun b o hb e=>hk b o (fun z=>(Xa.mp z).elim (fun z2=>absurd (Heap.lt_size e) (by rw [z2]; exact X3 _)) hb) (oth b o (fun z2=>absurd (Heap.lt_size e) (by rw [z2]; exact X3 _)) (Heap.get?_push_of_some _ e))) R4 hacc
end
end PySem
namespace L2
open PySem PySem.Spec PyProof.Rows
theorem Dw:bootBuiltins "list"=some (.type "list"):=()
theorem jD:bootBuiltins "reversed"=some (.type "reversed"):=()
theorem Dz {its:List Value} {ar:Array Value} (h:ItemsOf (fun i v=>its.toArray[its.toArray.size - 1 - i]?=some v) ar its.toArray.size):ar=its.reverse.toArray:=by
 obtain ⟨h1,h2⟩:=h
 apply Array.ext_getElem?
 intro i
 by_cases hi:i<ar.size
 ·have e:=h2 i ar[i] (YF hi);rw [YF hi,<- e];have Tj:i<its.length:=by rw [h1] at hi; simpa using hi
  simp only [List.getElem?_toArray,Xk];rw [YQ Tj]
 ·rw [Zz (by omega),Zz (by rw [h1] at hi; simpa using hi)]
section
variable {X:Cx}
inductive qr (K:Frag) (Q:VK) (x:V) (H1:Hp):Prop
 | mk (a xs):(x=.ref a)->((SqL K H1 a xs\/SqT K H1 a xs))->(∀ l,H1 l=none->Q (.ref l) (upd H1 l (.lst xs.reverse)))->qr K Q x H1
noncomputable def Ft (K:Frag) (te:TE):TE:=fun σ H Q=>te σ H fun x H1=>qr K Q x H1
theorem jK {e:Expr} {te:TE} {p1 p2 p3 p4:Pos} (hc:X.calm=true) (hgl:Gl X "list") (hml:X.mg "list"=none) (hgr:Gl X "reversed") (hmr:X.mg "reversed"=none) (he:PE X e te)
  (SQ:starEach [.Call (.Name "reversed" p2) [e] [] p3] X.env=(false,eval (.Call (.Name "reversed" p2) [e] [] p3) X.env)::starEach [] X.env:=by exact bo rfl) (IG:starEach [e] X.env=(false,eval e X.env)::starEach [] X.env:=by exact bo rfl) :
  PE X (.Call (.Name "list" p1) [.Call (.Name "reversed" p2) [e] [] p3] [] p4) (Ft X.K te):=by
 intro ae s σ H Q I h;refine wpAny_Call_Name_kw (gQ I hgl hml Dw ?_);refine XU ?_ SQ rfl;rw [SQ];show wpAny _ _ (spliced ((false,eval (.Call (.Name "reversed" p2) [e] [] p3) X.env)::[])) _ _ s;refine Calls.spliced_cons ?_;refine wpAny_Call_Name_kw (gQ I hgr hmr jD ?_);refine XU ?_ IG rfl;rw [IG];show wpAny _ _ (spliced ((false,eval e X.env)::[])) _ _ s;refine Calls.spliced_cons (thn (he ae s σ H _ I h) fun u s1 ⟨x,H1,I1,r1,q1⟩=>?_);obtain ⟨a,xs,rfl,hq,q⟩:=q1;cases r1;refine Calls.spliced_nil ?_;have hh:=I1.ok.hd hc;have hszl:sizeLine=16777216:=sizeLine_eq;have fin:∀ (its:List Value) (o:Obj),aI xs its->xs.length<=sizeLine->∀ (h':Heap) (tk c':Nat) (ar:Array Value),(∀ b o',b∉[s1.heap.objs.size]->(s1.heap.push o).get? b=some o'->h'.get? b=some o') ->
   h'.get? (s1.heap.push o).objs.size=some { cls:=.type "list",dict:=none,data:=.seq ar c',slots:=#[] }->ItemsOf (fun i v=>its.toArray[its.toArray.size - 1 - i]?=some v) ar its.toArray.size->EP X ae σ Q (.ref (s1.heap.push o).objs.size) { s1 with heap:=h',toks:=tk }:=by
  intro its o r' hz h' tk c' ar kp e hit;have ea:=Dz hit;subst ea;exists .ref (s1.heap.push o).objs.size,_,I1.laid (t':=tk) (fun b u eb=>kp b u (fun z=>?_) (Heap.get?_push_of_some _ eb)) (by rw [Heap.size_push]; omega) (show bW X.prog X.w _ h' _ (.lst xs.reverse) from ⟨by rw [XX]; exact hz,its.reverse,c',r'.reverse,e⟩),rfl,q _ (I1.hok.fresh (by rw [Heap.size_push]; omega));rw [Xi.mp z] at eb;exact absurd (Heap.lt_size eb) (X3 _)
 rcases hq with hq | hq
 ·obtain ⟨its,r',pl,hz⟩:=I1.list hq;have cI:=r'.length;refine call_reversed_list pl.isList ?_;refine Calls.spliced_nil ?_;have hal:a<s1.heap.objs.size:=by obtain ⟨o,ho,_⟩:=pl.isList; exact Heap.lt_size ho
  have hit:(s1.heap.push (revObj a ((its.toArray.size:Int) - 1))).IsRevIter s1.heap.objs.size a ((its.toArray.size:Int) - 1):=⟨_,Heap.get?_push_size _ rfl,rfl,rfl⟩;have ou:(s1.heap.push (revObj a ((its.toArray.size:Int) - 1))).IsList a its.toArray:=by obtain ⟨o,ho,r⟩:=pl.isList; exact ⟨o,Heap.get?_push_of_some _ ho,r⟩
  have z0:(its.toArray.size:Int) - 1 - ((0:Nat):Int)=(its.toArray.size:Int) - 1:=by omega
  refine iS (T := "list_reverseiterator") (Walks.listRev (A:=X.A.in1.in1) hh s1.heap.objs.size a (XR hal) its.toArray) ⟨_,Heap.get?_push_size _ rfl,rfl⟩ (by decide) (by decide) ⟨Xj _,by rw [z0]; exact hit,ou⟩ (fun b hb=>?_) (by simp) (fun hp st E Q qq=>?_) (fun h' tk ar c' kp e hi=>fin its _ r' hz h' tk c' ar kp e hi) (by simp only [Xk]; omega)
  ·rw [Heap.size_push];simp only [Xa,Xe,or_false] at hb;rcases hb with hb | hb
   ·rw [hb]; exact YB _
   ·rw [hb]; exact Zi hal
  ·exact Gc (s:={ s1 with heap:=hp }) st.2.1 qq
 ·obtain ⟨its,r',pl,hz⟩:=I1.tuple hq;have cI:=r'.length;have M8:its.toArray.size<=sizeLine:=by simp only [Xk]; omega
  refine jz pl (by omega) ?_;refine Calls.spliced_nil ?_;have hal:=pl.lt;have hit:(s1.heap.push (vF a ((its.toArray.size:Int) - 1))).IsRvt s1.heap.objs.size a ((its.toArray.size:Int) - 1):=⟨_,Heap.get?_push_size _ rfl,rfl,rfl⟩;have z0:(its.toArray.size:Int) - 1 - ((0:Nat):Int)=(its.toArray.size:Int) - 1:=by omega
  refine iS (s:={ s1 with heap:=s1.heap.push (vF a ((its.toArray.size:Int) - 1)),toks:=s1.toks+1+1 }) (T := "reversed") (Walks.tupRev (A:=X.A.in1.in1) hh s1.heap.objs.size a (XR hal) its.toArray M8) ⟨_,Heap.get?_push_size _ rfl,rfl⟩ (by decide) (by decide) ⟨Xj _,by rw [z0]; exact hit,pl.push _⟩ (fun b hb=>?_) (by simp) (fun hp st E Q qq=>?_) (fun h' tk ar c' kp e hi=>fin its _ r' hz h' tk c' ar kp e hi) M8
  ·rw [Heap.size_push];simp only [Xa,Xe,or_false] at hb;rcases hb with hb | hb
   ·rw [hb]; exact YB _
   ·rw [hb]; exact Zi hal
  ·have h1:=st.2.1;rw [z0] at h1;exact Ia (s:={ s1 with heap:=hp,toks:=s1.toks+1+1 }) h1 st.2.2 M8 qq
end
open PySem PySem.Spec PyProof.Rows
noncomputable def Itv (K:Frag) (a:Addr) (n:Nat):It :=
 ⟨fun i H=>i<n/\∃ xs,SqL K H a xs/\xs.length=n,fun i H x H'=>H'=H/\∀ xs,SqL K H a xs->xs[n - 1 - i]?=some x,fun i _=>i=n⟩
theorem HI {P:Program} {w:World} {K:Frag} {tg:Expr} (a it:Addr) (n:Nat):sf P w K tg (Itv K a n) [it] it (fun i h=>h.IsRevIter it a ((n:Int) - 1 - (i:Int))) where
 mem:=by simp
 obj:=fun i h st b hb=>by
  have e:b=it:=by simpa using hb
  subst e;obtain ⟨o,e,c,d⟩:=st;exists o,e,fun v z=>by rw [d] at z; cases z
 keep:=fun i h h' st k=>st.at fun o e=>k it (by simp) o e
 item:=by
  intro X hP hw hK hc i ae s σ H E I hf st hg;subst hP hw hK;obtain ⟨hi,xs,hq,hn⟩:=hg;obtain ⟨its,rv,p,hz⟩:=I.list hq;have hx:xs[n - 1 - i]?=some (xs[n - 1 - i]'(by omega)):=XA (by omega);obtain ⟨u,hu,ru⟩:=rv.get hx;obtain ⟨f0,f1,f2,f3,f4,f5⟩:=hf it (by simp);have e:(n:Int) - 1 - (i:Int)=((n - 1 - i:Nat):Int):=by omega
  have Na:=st;rw [e] at Na;refine wpAny_pyNext_rev_item Na p.isList (x:=u) (by simpa using hu) fun h' iK sb=>?_
  have e2:((n - 1 - i:Nat):Int) - 1=(n:Int) - 1 - ((i+1:Nat):Int):=by omega
  rw [e2] at iK;have I1:Inv X ae σ H { s with heap:=h' }:=I.turned (t':=s.toks) (fun b o hb e=>(sb.2 b hb).trans e) f0 f1 f3 f4 f5;obtain ⟨o,eo,c,d⟩:=id iK;exists u,rfl,pZ (s:={ s with heap:=h' }) eo c d (by decide) ⟨_,H,I1,ru,⟨rfl,fun ys hy=>by rw [I.list_inj hy hq]; exact hx⟩,iK,fun b hb=>(hf b hb).1⟩
 done:=by
  intro X hP hw hK hc i ae s σ H E I hf st hg;subst hP hw hK;obtain ⟨f0,f1,f2,f3,f4,f5⟩:=hf it (by simp);have Wu:i=n:=hg;have e:(n:Int) - 1 - (i:Int)=-1:=by omega
  have Na:=st;rw [e] at Na;exact wpAny_pyNext_rev_end (I.ok.hd hc) Na fun h' eb=>⟨rfl,I.turned (t':=s.toks) (fun b o hb e=>eb b o hb e) f0 f1 f3 f4 f5⟩
 self:=fun _ _ _ _ _ st h=>wpAny_pyIter_revIter st h
section
variable {X:Cx} {tg:Expr}
inductive Gb (K:Frag) (R:It->Hp->Prop) (x:V) (H1:Hp):Prop
 | mk (a xs):(x=.ref a)->(SqL K H1 a xs)->(R (Itv K a xs.length) H1)->Gb K R x H1
noncomputable def QZ (K:Frag) (te:TE):TI:=fun σ H R=>te σ H fun x H1=>Gb K R x H1
theorem Mi {e:Expr} {te:TE} {p pos:Pos} (hg:Gl X "reversed") (hm:X.mg "reversed"=none) (he:PE X e te)
  (hs:starEach [e] X.env=(false,eval e X.env)::starEach [] X.env:=by exact bo rfl):PI X tg (.Call (.Name "reversed" p) [e] [] pos) (QZ X.K te):=by
 intro ae s σ H R I h;refine wpAny_Call_Name_kw (gQ I hg hm jD ?_);refine XU ?_ hs rfl;rw [hs];show wpAny _ _ (spliced ((false,eval e X.env)::[])) _ _ s;refine Calls.spliced_cons (thn (he ae s σ H _ I h) fun u s1 ⟨x,H1,I1,r1,q1⟩=>?_);obtain ⟨a,xs,rfl,hq,q⟩:=q1;cases r1;refine Calls.spliced_nil ?_;obtain ⟨its,r',pl,hz⟩:=I1.list hq;have cI:=r'.length;refine call_reversed_list pl.isList ?_;have hit:(s1.heap.push (revObj a ((its.toArray.size:Int) - 1))).IsRevIter s1.heap.objs.size a ((its.toArray.size:Int) - 1):=⟨_,Heap.get?_push_size _ rfl,rfl,rfl⟩;refine wpAny_pyIter_revIter (s:={ s1 with heap:=s1.heap.push (revObj a ((its.toArray.size:Int) - 1)) }) hit ?_;exists s1.heap.objs.size,[s1.heap.objs.size],_,_,H1,rfl,I1.kept (t':=s1.toks) fun b o e=>Heap.get?_push_of_some _ e,HI a _ xs.length,?_,fun b hb=>?_,q
 ·have z:(xs.length:Int) - 1 - ((0:Nat):Int)=(its.toArray.size:Int) - 1:=by simp only [Xk]; omega
  show Heap.IsRevIter _ _ _ ((xs.length:Int) - 1 - ((0:Nat):Int));rw [z];exact hit
 ·have e:b=s1.heap.objs.size:=by simpa using hb
  subst e;exact I1.fpOk (Xc _) (I1.hok.fresh (Xc _))
end
theorem JQ {K:Frag} {a:Addr} {xs:List V} {g:TG} {tb:TS} {D:jx} {σ:St} {H:Hp} (Pv:Nat->St->Hp->Prop) (h0:Pv 0 σ H) (hl:∀ i σ H,i<=xs.length->Pv i σ H->SqL K H a xs)
  (hs:∀ i x σ H,xs.reverse[i]?=some x->Pv i σ H->g x σ H fun σ2 H2=>tb { D with nx:=Pv (i+1),ct:=Pv (i+1),bk:=D.nx } σ2 H2) (hd:∀ σ H,Pv xs.length σ H->D.nx σ H) :
  ∃ W:Nat->Nat->St->Hp->Prop,(∃ m,W 0 m σ H)/\∀ i m σ H,W i m σ H ->
   ((Itv K a xs.length).stop i H/\D.nx σ H)\/((Itv K a xs.length).go i H/\∃ N:St->Hp->Prop,(∀ σ' H',N σ' H'->∃ m',m'<m/\W (i+1) m' σ' H')/\∀ x H',(Itv K a xs.length).yld i H x H'->g x σ H' fun σ2 H2=>tb { D with nx:=N,ct:=N,bk:=D.nx } σ2 H2):=by
 exists fun i m σ H=>m=xs.length - i/\i<=xs.length/\Pv i σ H,⟨xs.length,by simp,Xj _,h0⟩,?_
 rintro i m σ H ⟨rfl,hi,p⟩
 have q:=hl i σ H hi p
 by_cases hlt:i<xs.length
 ·refine .inr ⟨⟨hlt,xs,q,rfl⟩,Pv (i+1),fun σ' H' p'=>⟨xs.length - (i+1),by omega,rfl,hlt,p'⟩,fun x H' y=>?_⟩;obtain ⟨e,y⟩:=y;subst e;exact hs i x σ _ (by rw [YQ hlt]; exact y xs q) p
 ·have e:i=xs.length:=by omega
  subst e;exact .inl ⟨rfl,hd σ H p⟩
end L2
namespace PySem
section
variable {prog:Program} {w:World} {A:Around} {R:Result->Shared->Prop} {I:Addr} {fp wr:List Addr} {G:Array GenState->Array GenState->Prop} {n:Nat} {P:Nat->Value->Prop} {St:Nat->Shared->Prop}
end
end PySem
namespace PySem
section
variable {prog:Program} {w:World} {A:Around} {E:Value->Shared->Prop} {s:Shared}
end
end PySem
namespace L2
open PySem PySem.Spec PyProof.Rows
section
variable {X:Cx}
inductive Dr (K:Frag) (Q:VK) (x:V) (H1:Hp):Prop
 | mk (a) (ts:List Str):(x=.ref a)->(SqL K H1 a (ts.map V.str))->(ts.Nodup)->(ts.length<=1000)->(Q (.int ts.length) H1)->Dr K Q x H1
end
end L2
namespace PySem
open Sem (wp)
open AutoSeq1 (wpAny_loadPart')
end PySem
namespace L2
open PySem PySem.Spec PyProof.Rows
theorem qT:bootBuiltins "enumerate"=some (.type "enumerate"):=()
section
variable {X:Cx}
end
open PySem PySem.Spec PyProof.Rows
section
variable {X:Cx} {tg:Expr}
end
section
variable {m:Nat} {g:TG} {tt:TT} {te:TE} {σ':St} {Z:List V->Hp->Prop} {H1:Hp} {K:Frag}
end
end L2
namespace K6
open PySem L2
noncomputable def Tk (H H':Hp):Prop:=∀ b xs,H b=some (.tup xs)->H' b=some (.tup xs)
theorem Tk.trans {H H1 H2:Hp} (a:Tk H H1) (b:Tk H1 H2):Tk H H2:=fun c xs h=>b c xs (a c xs h)
theorem ao {H H':Hp} (g:av H H'):Tk H H':=fun b xs h=>g b _ h
theorem ad {H:Hp} {p:Addr} (h:H p=none) (o:HO):av H (upd H p o):=fun b u q=>by rw [aj (ay q h)]; exact q
theorem aR {H:Hp} {p:Addr} (h:H p=none) (o:HO):Tk H (upd H p o):=ao (ad h o)
theorem aW {H:Hp} {p:Addr} {xs:List V} (h:H p=some (.lst xs)) (o:HO):Tk H (upd H p o):=fun b ys e=>by rw [aj (eX e h (fun z=>by cases z))]; exact e
noncomputable def Ext (tp:Addr) (H H':Hp):Prop:=∀ b o,b≠tp->H b=some o->H' b=some o
theorem Ext.refl (tp:Addr) (H:Hp):Ext tp H H:=fun _ _ _ h=>h
theorem Ext.trans {tp:Addr} {H H1 H2:Hp} (a:Ext tp H H1) (b:Ext tp H1 H2):Ext tp H H2:=fun c o n h=>b c o n (a c o n h)
theorem av.ext {tp:Addr} {H H':Hp} (a:av H H'):Ext tp H H':=fun c o _ h=>a c o h
theorem Ext.upd {tp:Addr} {H:Hp} {o:HO}:Ext tp H (L2.upd H tp o):=fun b u n h=>by rw [aj n]; exact h
theorem CQ {H H':Hp} {t:Addr} {ys:List V} (g:Ext t H H') (h:H t=some (.lst ys)):Tk H H':=fun b xs e=>g b _ (eX e h (fun z=>by cases z)) e
noncomputable def TT (K:Frag) (H:Hp) (a:Addr) (xs:List V):Prop:=H a=some (.tup xs)\/False
theorem TT.mono {K:Frag} {H H':Hp} (t:Tk H H') {a:Addr} {xs:List V} (h:TT K H a xs):TT K H' a xs:=h.imp (t _ _) id
theorem TT.sq {K:Frag} {H:Hp} {a:Addr} {xs:List V} (h:TT K H a xs):SqT K H a xs:=h.elim SqT.of False.elim
theorem TT.hp {K:Frag} {H:Hp} {a:Addr} {xs:List V} (h:TT K H a xs):H a=some (.tup xs):=h.elim id False.elim
mutual
inductive DT (K:Frag) (H:Hp):V->PyData->Prop
 | int (i:Int):DT K H (.int i) (.int i)
 | str (x:Str):DT K H (.str x) (.str x)
 | tup {a:Addr} {xs:List V} {ds:List PyData}:TT K H a xs->DTs K H xs ds->DT K H (.ref a) (.tuple ds)
inductive DTs (K:Frag) (H:Hp):List V->List PyData->Prop
 | nil:DTs K H [] []
 | cons {x:V} {xs:List V} {d:PyData} {ds:List PyData}:DT K H x d->DTs K H xs ds->DTs K H (x::xs) (d::ds)
end
mutual
theorem DT.mono {K:Frag} {H H':Hp} (e:Tk H H'):∀ {v:V} {d:PyData},DT K H v d->DT K H' v d
 | _,_,.int i=>.int i
 | _,_,.str x=>.str x
 | _,_,.tup h r=>.tup (h.mono e) (DTs.mono e r)
theorem DTs.mono {K:Frag} {H H':Hp} (e:Tk H H'):∀ {v:List V} {d:List PyData},DTs K H v d->DTs K H' v d
 | _,_,.nil=>.nil
 | _,_,.cons h r=>.cons (DT.mono e h) (DTs.mono e r)
end
mutual
theorem DT.rd {K:Frag} {H:Hp}:∀ {v:V} {d:PyData},DT K H v d->RdD K H v d
 | _,_,.int i=>.int i
 | _,_,.str x=>.str x
 | _,_,.tup h r=>.tup h.sq (DTs.rd r)
theorem DTs.rd {K:Frag} {H:Hp}:∀ {v:List V} {d:List PyData},DTs K H v d->iJ K H v d
 | _,_,.nil=>.nil
 | _,_,.cons h r=>.cons (DT.rd h) (DTs.rd r)
end
theorem DTs.len {K:Frag} {H:Hp}:∀ {v:List V} {d:List PyData},DTs K H v d->v.length=d.length
 | _,_,.nil=>rfl
 | _,_,.cons h r=>by rw [W9,W9,DTs.len r]
theorem DTs.snoc {K:Frag} {H:Hp} {x:V} {d:PyData} (q:DT K H x d):∀ {v:List V} {ds:List PyData},DTs K H v ds->DTs K H (v++[x]) (ds++[d])
 | _,_,.nil=>.cons q .nil
 | _,_,.cons h r=>.cons h (DTs.snoc q r)
theorem DTs.append {K:Frag} {H:Hp}:∀ {v v':List V} {ds IU:List PyData},DTs K H v ds->DTs K H v' IU->DTs K H (v++v') (ds++IU)
 | _,_,_,_,.nil,q=>q
 | _,_,_,_,.cons h r,q=>.cons h (DTs.append r q)
theorem DTs.take {K:Frag} {H:Hp}:∀ (i:Nat) {v:List V} {ds:List PyData},DTs K H v ds->DTs K H (v.take i) (ds.take i)
 | 0,_,_,_=>by rw [X7,X7]; exact .nil
 | i+1,_,_,.nil=>.nil
 | i+1,_,_,.cons h r=>.cons h (DTs.take i r)
theorem DTs.drop {K:Frag} {H:Hp}:∀ (i:Nat) {v:List V} {ds:List PyData},DTs K H v ds->DTs K H (v.drop i) (ds.drop i)
 | 0,_,_,q=>q
 | i+1,_,_,.nil=>.nil
 | i+1,_,_,.cons h r=>DTs.drop i r
noncomputable def top (i:Nat):Stmt:=PySem.Challenge.pw_everyfork_k08_shown_and_read.main.body.getD i (.Pass ⟨0,0,0,0⟩)
abbrev eE:Stmt:=top 8
abbrev nh:Stmt:=top 9
abbrev jn:Stmt:=top 10
abbrev mU:Stmt:=top 14
abbrev gH:Stmt:=top 15
abbrev im:Stmt:=top 16
abbrev mQ:Stmt:=top 22
abbrev eU:Stmt:=top 23
abbrev jU:Stmt:=top 24
abbrev qX:Stmt:=top 25
abbrev gN:Stmt:=top 26
abbrev mx:Stmt:=top 27
abbrev rj:Stmt:=top 28
abbrev gj:Stmt:=top 29
abbrev fX:Stmt:=top 30
abbrev jI:Stmt:=top 31
abbrev yK:Stmt:=top 33
abbrev gy:Stmt:=top 35
abbrev qc:Stmt:=top 36
abbrev ii:Stmt:=top 37
abbrev i7:Stmt:=top 38
abbrev dq:Stmt:=top 39
abbrev kn:Stmt:=top 40
abbrev qK:Stmt:=top 42
abbrev qh:Stmt:=top 43
abbrev jm:Stmt:=top 44
abbrev eZ:Stmt:=top 45
abbrev j4:Stmt:=top 46
abbrev jq:Stmt:=top 47
abbrev js:Stmt:=top 48
abbrev fV:Stmt:=top 49
abbrev oU:Stmt:=top 50
abbrev lj:Stmt:=top 51
abbrev kJ:Stmt:=top 52
abbrev iP:Stmt:=top 53
abbrev eS:Stmt:=top 54
abbrev kW:Stmt:=top 55
abbrev cT:Stmt:=top 56
abbrev vz:Stmt:=top 57
abbrev jb:Stmt:=top 58
abbrev ee:Stmt:=top 59
abbrev bD:Stmt:=top 60
abbrev j9:Stmt:=top 61
abbrev bM:Stmt:=top 62
abbrev CO:Stmt:=top 63
theorem pB:bootBuiltins "isinstance"=some (.builtin "isinstance"):=()
theorem KJ:bootBuiltins "int"=some (.type "int"):=()
theorem dJ:bootBuiltins "str"=some (.type "str"):=()
theorem bU:bootBuiltins "tuple"=some (.type "tuple"):=()
theorem dR:bootBuiltins "list"=some (.type "list"):=()
theorem KR:bootBuiltins "all"=some (.builtin "all"):=()
theorem KU:bootBuiltins "ord"=some (.builtin "ord"):=()
theorem hJ:bootBuiltins "len"=some (.builtin "len"):=()
theorem mX:bootBuiltins "repr"=some (.builtin "repr"):=()
noncomputable def PL:List Str:=["num", "text", "row"]
structure G0 (mg:Str->Option Value):Prop where
 isi:mg "isinstance"=none
 int:mg "int"=none
 bool:mg "bool"=none
 str:mg "str"=none
 tuple:mg "tuple"=none
 list:mg "list"=none
 dict:mg "dict"=none
 all:mg "all"=none
 ord:mg "ord"=none
 len:mg "len"=none
 repr:mg "repr"=none
 range:mg "range"=none
structure Cal (P:Program) (w:World) (K:Frag) (mg:Str->Option Value) (base:Heap) (k:Nat) (x:Str) (ps:List Str) (sp:Sp):Prop where
 ex:∃ g gd,eI P w K mg base CX0 k g gd ps sp/\cH K gd ps []/\keepIn K (.ref g)=true/\mg x=some (.ref g)
theorem dD {X:Cx} {k:Nat} {x:Str} {ps:List Str} {sp:Sp} {e:Expr} {es:List Expr} {t:TA} {p pos:Pos} (D:Cal X.prog X.w X.K X.mg X.base k x ps sp) (hr:d7 k X.A) (hg:Gl X x) (ha:PA X (e::es) t) (hdb:(x==("__debug__":Str))=false:=by decide)
  (he:starEach (e::es) X.env=(false,eval e X.env)::starEach es X.env:=by exact bo rfl) (hpl:(backTo pos (starEach es X.env)).any (·.1)=false:=by exact cG rfl):PE X (.Call (.Name x p) (e::es) [] pos) (Kz sp [] E0 t):=by
 obtain ⟨g,gd,G,b,kp,m⟩:=D.ex;exact eQ G hr hg m kp b .nil dU ha hdb he hpl
open PySem L2
abbrev Fld:=Str×Str
abbrev Rec:=Str×List Fld
noncomputable def b8 (H:Hp) (v:V) (p:Fld):Prop:=∃ a,v=.ref a/\H a=some (.tup [.str p.1,.str p.2])
noncomputable def bK (H:Hp) (v:V) (fs:List Fld):Prop:=∃ a xs,v=.ref a/\H a=some (.tup xs)/\Paired (b8 H) xs fs
noncomputable def ka (H:Hp) (v:V) (r:Rec):Prop:=∃ a y,v=.ref a/\H a=some (.tup [.str r.1,y])/\bK H y r.2
noncomputable def gi (H:Hp) (v:V) (R:List Rec):Prop:=∃ a xs,v=.ref a/\H a=some (.tup xs)/\Paired (ka H) xs R
theorem b8.mono {H H':Hp} (t:Tk H H') {v:V} {p:Fld} (h:b8 H v p):b8 H' v p:=let ⟨a,e,q⟩:=h; ⟨a,e,t _ _ q⟩
theorem bK.mono {H H':Hp} (t:Tk H H') {v:V} {p:List Fld} (h:bK H v p):bK H' v p:=let ⟨a,xs,e,q,r⟩:=h; ⟨a,xs,e,t _ _ q,Paired.mapP r fun _ _ z=>z.mono t⟩
theorem ka.mono {H H':Hp} (t:Tk H H') {v:V} {p:Rec} (h:ka H v p):ka H' v p:=let ⟨a,y,e,q,r⟩:=h; ⟨a,y,e,t _ _ q,r.mono t⟩
theorem gi.mono {H H':Hp} (t:Tk H H') {v:V} {p:List Rec} (h:gi H v p):gi H' v p:=let ⟨a,xs,e,q,r⟩:=h; ⟨a,xs,e,t _ _ q,Paired.mapP r fun _ _ z=>z.mono t⟩
theorem aG {α β:Type} {F:α->β->Prop}:∀ {l:List α} {m:List β},Paired F l m->∀ (j:Nat) a,l[j]?=some a->∃ b,m[j]?=some b/\F a b
 | _,_,.nil,_,_,h=>by simp at h
 | _,_,.cons h t,0,_,h1=>by simp at h1; subst h1; exact ⟨_,rfl,h⟩
 | _,_,.cons h t,j+1,_,h1=>by
  obtain ⟨b,e,q⟩:=aG t j _ (by simpa using h1);exists b,by simpa using e,q
noncomputable def look (R:List Rec) (k:Str):List Fld:=((R.find? fun r=>decide (r.1=k)).map (·.2)).getD []
noncomputable def ve (R:List Rec):Nat->Str->Prop
 | 0,_=>False
 | n+1,k=>(k∈PL)\/(k∉PL/\k∈R.map (·.1)/\(1<=(look R k).length/\(look R k).length<=3)/\∀ p∈look R k,ve R n p.2)
theorem eqS {k x:Str} (c:decide (V.str k=V.str x)=true):k=x:=V.str.inj (of_decide_eq_true c)
theorem neS {k x:Str} (c:¬ decide (V.str k=V.str x)=true):¬ k=x:=fun e=>c (decide_eq_true (congrArg V.str e))
theorem at0 {α:Type} (x:α) (ys:List α):atI (x::ys) 0=some x:=eO (j:=0) (show (x::ys)[0]?=some x from rfl)
theorem Ms {α:Type} {xs:List α} {j:Nat} {v:α} (h:xs[j]?=some v):atI xs (0+(j:Int))=some v:=by rw [aat]; exact eO h
end K6
namespace L2
open PySem PySem.Spec PyProof.Rows
section
variable {X:Cx}
inductive Lo (K:Frag) (neg:Bool) (x:V) (y:V) (H:Hp) (Q:VK):Prop
 | mk (a b xs):(x=.ref a)->(y=.ref b)->(SqL K H a xs)->(SqL K H b [])->(Q (.bl (if neg then !xs.isEmpty else xs.isEmpty)) H)->Lo K neg x y H Q
theorem w4 (hu:X.A.units<cLine):OpR X (compareOp .Eq) (Lo X.K false):=by
 intro ae s σ H x y v u Q I rx ry h;obtain ⟨a,b,xs,rfl,rfl,ha,hb,q⟩:=h;cases rx;cases ry;obtain ⟨i1,r1,p1,_⟩:=I.list ha;obtain ⟨i2,r2,p2,_⟩:=I.list hb;cases r2;cases r1 with
 | nil=>exact SeqAt.eq_listAt (e:=fun _=>true) p1.isList p2.isList rfl hu (fun j h1 h2=>absurd h1 (by simp)) (aU I q rfl)
 | cons r rr=>exact SeqAt.eq_list_lengthsAt p1.isList p2.isList (by simp) hu (aU I q rfl)
theorem hV (hu:X.A.units<cLine):OpR X (compareOp .NotEq) (Lo X.K true):=by
 intro ae s σ H x y v u Q I rx ry h;obtain ⟨a,b,xs,rfl,rfl,ha,hb,q⟩:=h;cases rx;cases ry;obtain ⟨i1,r1,p1,_⟩:=I.list ha;obtain ⟨i2,r2,p2,_⟩:=I.list hb;cases r2;cases r1 with
 | nil=>exact SeqAt.RcNeAt.lists (e:=fun _=>true) p1.isList p2.isList rfl hu (fun j h1 h2=>absurd h1 (by simp)) _ _ _ _ (aU I q rfl)
 | cons r rr=>exact SeqAt.RcNeAt.lists_lengths p1.isList p2.isList (by simp) hu _ _ _ _ (aU I q rfl)
end
end L2
namespace K6
open PySem L2
theorem Cy {R:List Rec} {k:Str} (h:k∈R.map (·.1)):∃ rest,(R.filter fun r=>decide (r.1=k)).map (·.2)=look R k::rest:=by
 induction R with
 | nil=>simp at h
 | cons r rs ih =>
  by_cases e:r.1=k
  ·exists (rs.filter fun r=>decide (r.1=k)).map (·.2),?_;rw [aaF,if_pos (decide_eq_true e),Xp];unfold look;rw [X9,decide_eq_true e]
   rfl
  ·have h':k∈rs.map (·.1):=by
    rcases Xa.mp h with z | z
    ·exact absurd z.symm e
    ·exact z
   obtain ⟨rest,q⟩:=ih h';exists rest,?_;rw [aaF,if_neg (by simp [e]),q];unfold look;rw [X9,decide_eq_false e]
noncomputable def Tp (H:Hp) (tp:Addr):Prop:=∃ sc k r ns,H tp=some (.lst [.ref sc,.int k,.int r])/\H sc=some (.lst (List.map V.int ns))
theorem Tp.same {H H':Hp} {tp:Addr} (t:Tp H tp) (g:av H H'):Tp H' tp:=by
 obtain ⟨sc,k,r,ns,h1,h2⟩:=t;exists sc,k,r,ns,g _ _ h1,g _ _ h2
theorem Tp.ne {H:Hp} {tp:Addr} (t:Tp H tp) {b:Addr} {xs:List V} (h:H b=some (.tup xs)):b≠tp:=by
 obtain ⟨sc,k,r,ns,h1,h2⟩:=t;exact eX h h1 (fun z=>by cases z)
noncomputable def TS (tp:Addr) (H H':Hp):Prop:=∀ sc k r,H tp=some (.lst [.ref sc,.int k,.int r])->∃ k' r',H' tp=some (.lst [.ref sc,.int k',.int r'])
theorem TS.refl (tp:Addr) (H:Hp):TS tp H H:=fun _ k r h=>⟨k,r,h⟩
theorem TS.trans {tp:Addr} {H H1 H2:Hp} (a:TS tp H H1) (b:TS tp H1 H2):TS tp H H2:=fun sc k r h=>by
 obtain ⟨k',r',e⟩:=a sc k r h;exact b sc k' r' e
theorem av.ts {tp:Addr} {H H':Hp} (g:av H H'):TS tp H H':=fun sc k r h=>⟨k,r,g _ _ h⟩
section
variable {P:Program} {w:World} {K:Frag} {mg:Str->Option Value} {base:Heap} {f g:Addr} {fd gd:FuncData}
inductive Bm (K:Frag) (vs:List V) (H:Hp) (Q:VK) (bu:XK):Prop
 | mk (a ns):(vs=[.ref a])->(SqL K H a (List.map V.int ns))->(∀ t H',av H H'->Tp H' t->Q (.ref t) H')->Bm K vs H Q bu
theorem L5:aA ["_law_script"] ["_law_script"] (defScope qK):=ZU 0
theorem GO (ns:List Int) (lo hi:Option Int):∃ ms:List Int,io (ns.map V.int) lo hi=ms.map V.int:=by
 unfold io;rw [W8,<- List.map_drop,<- aan];exists _,rfl
theorem Jp (T:G0 mg) (F:Zc "_law_tape" qK):Zb 1 ["_law_script"] (Bm K):=by
 refine F.ok L5 (fun vs H Q E h=>?_) (fun gm A outer s H vs Q E hr h=>?_)
 ·obtain ⟨a,ns,rfl,_⟩:=h
  rfl
 obtain ⟨a,ns,rfl,hS,q⟩:=h;exists _,dW (jH (gS (ak (bj gz (pv 0) cb (bJ af)) (ak af (ak af aq))))),?_;obtain ⟨ms,em⟩:=GO ns none (some 63);exists _,rfl,_,rfl,a,_,rfl,hS,fun p hp=>?_
 exists zl3,fun t ht=>?_
 refine q t _ ((ad hp _).trans (ad ht _)) ⟨p,0,0,ms,ac,?_⟩;rw [aj (fun z=>by rw [<- z,ac] at ht; cases ht),ac,em]
theorem dX {α:Type} {xs:List α} {i:Int} (h0:0<=i) (h1:i<xs.length):∃ v,v∈xs/\xs[i.toNat]?=some v/\atI xs i=some v:=by
 have hi:i.toNat<xs.length:=by omega
 have e:xs[i.toNat]?=some xs[i.toNat]:=XA hi;exists _,aaE hi,e,?_;have q:=eO e
 rwa [show ((i.toNat:Nat):Int)=i by omega] at q
theorem uQ (a:Int):-(2 ^ 64)<a % 2147483629/\a % 2147483629<2 ^ 64:=by
 have h1:=Ye a (show (2147483629:Int)≠0 by decide);have h2:=X5 a (show (0:Int)<2147483629 by decide)
 constructor<;>omega
theorem ze:O2 10 18:=⟨by decide,by decide,by decide⟩
theorem qm {i j:Int} (h1:-(2 ^ 64)<j) (h2:j<2 ^ 64):JS i j:=.inr ⟨h1,h2⟩
inductive bS (vs:List V) (H:Hp) (Q:VK) (bu:XK):Prop
 | mk (tp many):(vs=[.ref tp,.int many])->(Tp H tp)->(0<many)->(many<=1000)->(∀ (v:Int) (H':Hp),0<=v->v<many->Ext tp H H'->Tp H' tp->TS tp H H'->Q (.int v) H')->bS  vs H Q bu
theorem mt:aA ["_law_tape_here", "_law_many", "_law_cell", "_law_mixed", "_law_found"] ["_law_tape_here", "_law_many"] (defScope qh):=ZU 0
theorem EN (T:G0 mg) (F:Zc "_law_draw" qh):Zb 1 ["_law_tape_here", "_law_many"] bS:=by
 refine F.ok mt (fun vs H Q E h=>?_) (fun gm A outer s H vs Q E hr h=>?_)
 ·obtain ⟨tp,many,rfl,_⟩:=h
  rfl
 obtain ⟨tp,many,rfl,ht,Ix,VN,q⟩:=h;obtain ⟨sc,k,r,ns,h1,h2⟩:=ht;have hne:sc≠tp:=eX h2 h1 (fun z=>by injection z with z; cases ns<;>cases z);refine ⟨_,br (gJ (cu cN (aZ aD (pv 0) af (fun _ _=>rfl)) af) (pz (pv 0) af iX))
  (br (uM (c7 aJ (aZ aD (pv 0) af (fun _ _=>rfl)) af (cZ _))
   (br (fk (i:=2) mt.nd rfl (Yi rfl) af)
    (br (uM (c7 f7 (cP bq rfl T.len hJ (ak (aZ aD (pv 0) af (fun _ _=>rfl)) aq)) af (cZ _))
     (dW (fk (i:=2) mt.nd rfl (Yi rfl) (aZ aD (aZ aD (pv 0) af (fun _ _=>rfl)) (cu iA (aZ aD (pv 0) af (fun _ _=>rfl)) (cP bq rfl T.len hJ (ak (aZ aD (pv 0) af (fun _ _=>rfl)) aq))) (fun _ _=>rfl)))) j3)
    (br (uM (c7 kK (pv 2) (cu uY af af) (cZ _))
     (br (fk (i:=3) mt.nd rfl (Yi rfl) (cu iA (cu cN (cu cN (cu qO (cu iA (pv 2) af) af) (cu qO (aZ aD (pv 0) af (fun _ _=>rfl)) af)) af) af))
      (br (fk (i:=3) mt.nd rfl (Yi rfl) (cu iA (cu qO (pv 3) (cu cN (pv 3) af)) af))
       (dW (jH (cu iA (cu iA (cu qO (pv 3) af) af) (pv 1)))))) j3)
    (dW (gJ (cu bi (pv 2) (cu uY af af)) (pz (pv 0) af iX))))))
   j3)
  (br (fk (i:=4) mt.nd rfl (Yi rfl) (cu iA (aZ aD (pv 0) af (fun _ _=>rfl)) (pv 1)))
  (br (gJ (cu JD (aZ aD (pv 0) af (fun _ _=>rfl)) (pv 1)) (pz (pv 0) af iX))
  (dW (jH (pv 4)))))),?_⟩
 have X1:Ext tp H (upd H tp (.lst [.ref sc,.int (k+1),.int r])):=Ext.upd;have e1:(upd H tp (.lst [.ref sc,.int (k+1),.int r])) tp=some (.lst [.ref sc,.int (k+1),.int r]):=ac;have e2:(upd H tp (.lst [.ref sc,.int (k+1),.int r])) sc=some (.lst (List.map V.int ns)):=X1 _ _ hne h2;exists _,rfl,tp,_,_,_,rfl,rfl,SqL.of h1,rfl,_,_,rfl,rfl,_,rfl,tp,_,_,_,rfl,rfl,h1,rfl,?_;exists _,rfl,tp,_,_,_,rfl,rfl,SqL.of e1,rfl,rfl,_,rfl,?_;have fin:∀ {k' r' v:Int} {H':Hp},H' tp=some (.lst [.ref sc,.int k',.int r'])->Ext tp H H'->0<=v->v<many->Q (.int v) H':=fun {k' r' v H'} a b c d=>q v H' c d b ⟨sc,k',r',ns,a,b _ _ hne h2⟩ (fun IN k2 r2 e=>by rw [h1] at e; cases e; exact ⟨_,_,a⟩)
 -- the tail: from any state with the tape
 refine au (fun c=>?_) (fun c=>?_)
 ·exists _,rfl,tp,_,_,_,rfl,rfl,SqL.of e1,rfl,sc,_,rfl,.inl (SqL.of e2),_,_,rfl,rfl,_,rfl,?_;refine au (fun c2=>?_) (fun c2=>?_)
  ·have hl:0<ns.length:=by simpa using of_decide_eq_true c2
   have hb:=X5 (k+1) (show (0:Int)<ns.length by omega);have ha:=Ye (k+1) (show (ns.length:Int)≠0 by omega);obtain ⟨v,hv,_,hat⟩:=dX (xs:=List.map V.int ns) (i:=(k+1) % ((List.map V.int ns).length:Nat)) (by rw [W8]; exact ha) (by rw [W8]; exact hb);obtain ⟨cell,_,rfl⟩:=Xr.mp hv;exists _,rfl,tp,_,_,_,rfl,rfl,SqL.of e1,rfl,_,rfl,tp,_,_,_,rfl,rfl,SqL.of e1,rfl,_,rfl,tp,_,_,_,rfl,rfl,SqL.of e1,rfl,sc,_,rfl,.inl (SqL.of e2),_,_,rfl,rfl,?_,?_
   ·show (0:Int)<((List.map V.int ns).length:Nat);rw [W8]; omega
   exists sc,_,_,_,rfl,rfl,SqL.of e2,hat,?_;exists _,rfl,_,_,rfl,rfl,ze,_,_,rfl,rfl,_,rfl,?_;refine au (fun c3=>?_) (fun c3=>?_)
   ·exists _,rfl,_,_,rfl,rfl,(by show (0:Int)<2147483647; decide),_,_,rfl,rfl,qm (by decide) (by decide),_,rfl,tp,_,_,_,rfl,rfl,SqL.of e1,rfl,_,_,rfl,rfl,qm (by decide) (by decide),_,_,rfl,rfl,_,_,rfl,rfl,_,_,rfl,rfl,(by show (0:Int)<2147483629; decide),?_;exists _,rfl,_,rfl,_,_,rfl,rfl,_,_,rfl,rfl,?_,_,_,rfl,rfl,(by show (0:Int)<2147483587; decide),_,rfl,_,_,rfl,rfl,qm (by decide) (by decide),_,_,rfl,rfl,(by show (0:Int)<2147483563; decide),_,rfl,_,_,rfl,rfl,Ix,?_
    ·exact .inl (uQ _)
    ·exact fin e1 X1 (Ye _ (by omega)) (X5 _ Ix)
   ·exists _,rfl,_,_,rfl,rfl,ze,_,_,rfl,rfl,_,rfl,tp,_,_,_,rfl,rfl,e1,rfl,?_;have e3:(upd (upd H tp (.lst [.ref sc,.int (k+1),.int r])) tp (.lst [.ref sc,.int (k+1),.int (cell - 10 ^ 18)])) tp=some (.lst [.ref sc,.int (k+1),.int (cell - 10 ^ 18)]):=ac;exists _,rfl,tp,_,_,_,rfl,rfl,SqL.of e3,rfl,_,rfl,_,_,rfl,rfl,Ix,_,rfl,tp,_,_,_,rfl,rfl,SqL.of e3,rfl,_,rfl,_,_,rfl,rfl,⟨Ix,by omega⟩,_,rfl,tp,_,_,_,rfl,rfl,e3,rfl,_,rfl,?_;exact fin ac ((X1.trans Ext.upd).trans Ext.upd) (Ye _ (by omega)) (X5 _ Ix)
  ·exists _,rfl,_,_,rfl,rfl,ze,_,_,rfl,rfl,_,rfl,?_;refine au (fun c3=>?_) (fun c3=>absurd (show decide ((0:Int)<10 ^ (18:Int).toNat)=true by decide) c3)
   ·exists _,rfl,_,_,rfl,rfl,(by show (0:Int)<2147483647; decide),_,_,rfl,rfl,qm (by decide) (by decide),_,rfl,tp,_,_,_,rfl,rfl,SqL.of e1,rfl,_,_,rfl,rfl,qm (by decide) (by decide),_,_,rfl,rfl,_,_,rfl,rfl,_,_,rfl,rfl,(by show (0:Int)<2147483629; decide),?_;exists _,rfl,_,rfl,_,_,rfl,rfl,_,_,rfl,rfl,?_,_,_,rfl,rfl,(by show (0:Int)<2147483587; decide),_,rfl,_,_,rfl,rfl,qm (by decide) (by decide),_,_,rfl,rfl,(by show (0:Int)<2147483563; decide),_,rfl,_,_,rfl,rfl,Ix,?_
    ·exact .inl (uQ _)
    ·exact fin e1 X1 (Ye _ (by omega)) (X5 _ Ix)
 ·have e3:=e1;exists _,rfl,tp,_,_,_,rfl,rfl,SqL.of e3,rfl,_,rfl,_,_,rfl,rfl,Ix,_,rfl,tp,_,_,_,rfl,rfl,SqL.of e3,rfl,_,rfl,_,_,rfl,rfl,⟨Ix,by omega⟩,_,rfl,tp,_,_,_,rfl,rfl,e3,rfl,_,rfl,?_;exact fin ac (X1.trans Ext.upd) (Ye _ (by omega)) (X5 _ Ix)
end
open PySem L2
structure Go (tp:Addr) (H H':Hp):Prop where
 x:Ext tp H H'
 t:Tp H' tp
 y:TS tp H H'
theorem Go.trans {tp:Addr} {H H1 H2:Hp} (a:Go tp H H1) (b:Go tp H1 H2):Go tp H H2:=⟨a.x.trans b.x,b.t,a.y.trans b.y⟩
theorem Go.refl {tp:Addr} {H:Hp} (t:Tp H tp):Go tp H H:=⟨Ext.refl _ _,t,TS.refl _ _⟩
theorem Go.same {tp:Addr} {H H':Hp} (t:Tp H tp) (g:av H H'):Go tp H H':=⟨av.ext g,t.same g,av.ts g⟩
theorem Go.new {tp p:Addr} {H H1:Hp} (a:Go tp H H1) (h:H1 p=none) (o:HO):Go tp H (upd H1 p o):=a.trans (Go.same a.t (ad h o))
theorem Tp.nt {H:Hp} {tp p:Addr} (t:Tp H tp) (h:H p=none):p≠tp:=by obtain ⟨_,_,_,_,e,_⟩:=t; exact (ay e h).symm
theorem Go.free {tp p:Addr} {H H1:Hp} (a:Go tp H H1) (t:Tp H tp) (h:H1 p=none):H p=none:=by
 cases e:H p with
 | none=>rfl
 | some o =>
  have:=a.x p o (a.t.nt h) e
  rw [h] at this; cases this
noncomputable def bg:List Str:=["a", "ab", "abc", "b", "ba", "let", "end", "var", "add", "abcdefgh", "record", "x"]
noncomputable def pk (v s:Nat) (m:Nat):Str:=bg.getD ((v+s*m) % 12) ""
theorem Gm:∀ v:Fin 12,∀ s∈([1,5,7,11]:List Nat),((Yh 5).map (pk v.val s)).Nodup:=()
theorem Je {v s n:Nat} (hv:v<12) (hs:s∈([1,5,7,11]:List Nat)) (hn:n<=5):((Yh n).map (pk v s)).Nodup:=by
 have h:=Gm ⟨v,hv⟩ s hs;have e:(Yh n).map (pk v s)=((Yh 5).map (pk v s)).take n:=by
  rw [<- aan,List.take_range,Zu hn]
 rw [e];exact h.sublist (Zh _ _)
section
variable {P:Program} {w:World} {K:Frag} {mg:Str->Option Value} {base:Heap} {f g:Addr} {fd gd:FuncData}
abbrev dP:List Str:=["_law_tape_here", "_law_many"]
abbrev nN:List Str:=["_law_tape_here", "_law_many", "_law_pool", "_law_start", "_law_step"]
abbrev nNb:List Str:=["_law_k", "_law_pool", "_law_start", "_law_step"]
theorem oY:aA nN dP (defScope jm):=ZU 0
theorem QY:nNb.Nodup:=()
inductive jt (vs:List V) (H:Hp) (Q:VK) (bu:XK):Prop
 | mk (tp many):(vs=[.ref tp,.int many])->(Tp H tp)->(0<=many)->(many<=5)->(∀ r (l:List Str) H',Go tp H H'->H r=none->H' r=some (.lst (l.map V.str))->l.length=many.toNat->(∀ z∈l,z∈bg)->l.Nodup->Q (.ref r) H')->jt  vs H Q bu
theorem EE (T:G0 mg) (F:Zc "_law_names" jm) (D:Za 1 "_law_draw" dP bS):Zb 2 dP jt:=by
 obtain ⟨g,gd,Gd,bG,kG,mG⟩:=D.ex;refine F.ok oY (fun vs H Q E h=>?_) (fun gm A outer s H vs Q E hr h=>?_)
 ·obtain ⟨tp,many,rfl,_⟩:=h
  rfl
 obtain ⟨tp,many,rfl,ht,Ix,VN,q⟩:=h;exists _,(Z2 (@fk _ _ 2 _ _ _ _ oY.nd rfl (Yz rfl) (ZD (@ak _ _ _ _ _ (@ag _ _ _ _) (@ak _ _ _ _ _ (@ag _ _ _ _) (@ak _ _ _ _ _ (@ag _ _ _ _) (@ak _ _ _ _ _ (@ag _ _ _ _) (@ak _ _ _ _ _ (@ag _ _ _ _) (@ak _ _ _ _ _ (@ag _ _ _ _) (@ak _ _ _ _ _ (@ag _ _ _ _) (@ak _ _ _ _ _ (@ag _ _ _ _) (@ak _ _ _ _ _ (@ag _ _ _ _) (@ak _ _ _ _ _ (@ag _ _ _ _) (@ak _ _ _ _ _ (@ag _ _ _ _) (@ak _ _ _ _ _ (@ag _ _ _ _) (@aq _) rfl) rfl) rfl) rfl) rfl) rfl) rfl) rfl) rfl) rfl) rfl) rfl)) rfl (.inl rfl)) (br (fk (i:=3) oY.nd rfl (Yz rfl) (eQ Gd hr rfl mG kG bG .nil dU (ak (pv 0) (ak af aq)))) (br (fk (i:=4) oY.nd rfl (Yz rfl) (aZ aD (gS (ak af (ak af (ak af (ak af aq))))) (eQ Gd hr rfl mG kG bG .nil dU (ak (pv 0) (ak af aq))) (fun _ _=>rfl))) (dW (jH (bF (N':=nNb) (ρ:=[none,some 2,some 3,some 4]) (m:=1) (bL.of (fs:=defScope jm) (N:=nN) rfl rfl ()) rfl (el rfl T.range (ak (pv 1) aq)) (fun _ _ _ _=>dS (i:=0) QY rfl (Yi rfl)) (fun _ _ _ _=>bH) (fun _ _ _ _=>aZ (j6 (K:=K) rfl) (pv 1) (cu iA (cu cN (pv 2) (cu qO (pv 3) (pv 0))) af) (fun _ _=>rfl)))))))),?_;show let v1:L2.TS:=_; let v2:=am _ v1; let v3:=am _ v2; (am _ v3) _ _ _;intro v1 v2 v3;exists Q2,fun p hp=>?_
 have G1:Go tp H (upd H p (.lst (bg.map V.str))):=(Go.refl ht).new hp _;have e1:(upd H p (.lst (bg.map V.str))) p=some (.lst (bg.map V.str)):=ac;have hpt:p≠tp:=ht.nt hp;exists _,rfl,tp,12,rfl,G1.t,by decide,by decide,fun v2 H2 a0 a1 x2 t2 y2=>?_
 have G2:=G1.trans ⟨x2,t2,y2⟩;have e2:=x2 _ _ hpt e1;exists zl4,fun p3 lD=>?_
 have G3:=G2.new lD (.lst [.int 1,.int 5,.int 7,.int 11]);exists _,rfl,tp,4,rfl,G3.t,by decide,by decide,fun v4 H4 b0 b1 x4 t4 y4=>?_
 have G4:=G3.trans ⟨x4,t4,y4⟩;have e4:=x4 _ _ hpt (ad lD (.lst [.int 1,.int 5,.int 7,.int 11]) _ _ e2);obtain ⟨st,hst,_,hat⟩:=dX (xs:=[V.int 1,V.int 5,V.int 7,V.int 11]) (i:=v4) b0 b1;have stp:∃ si:Int,st=.int si/\0<=si/\si<=11/\si.toNat∈([1,5,7,11]:List Nat):=by
  rcases Xa.mp hst with e | hst
  ·exists 1,e,by decide,by decide,by decide
  rcases Xa.mp hst with e | hst
  ·exists 5,e,by decide,by decide,by decide
  rcases Xa.mp hst with e | hst
  ·exists 7,e,by decide,by decide,by decide
  ·exists 11,Xi.mp hst,by decide,by decide,by decide
 obtain ⟨si,rfl,s0,s1,s2⟩:=stp;exists p3,_,_,_,rfl,rfl,SqL.of (x4 _ _ (G2.t.nt lD) ac),hat,?_;exists _,rfl,many,rfl,by omega,by omega,iz many.toNat (by omega) (fun j ar H'=>H'=H4/\∃ l:List Str,ar=l.map V.str/\l.length=j/\l=(Yh j).map (pk v2.toNat si.toNat)/\∀ z∈l,z∈bg) ⟨rfl,[],rfl,rfl,rfl,fun _ z=>nomatch z⟩ (fun j ar H' hj la z=>?_) (fun ar H' z la Dk hDk=>?_)
 ·obtain ⟨rfl,l,rfl,hl,hlk,hpl⟩:=z;exists ⟨rfl,rfl⟩,bA ?_;have m0:=Ye (v2+si*(0+(j:Int))) (show (12:Int)≠0 by decide);have m1:=X5 (v2+si*(0+(j:Int))) (show (0:Int)<12 by decide);obtain ⟨u,hu,hnat,Iv⟩:=dX (xs:=bg.map V.str) (i:=(v2+si*(0+(j:Int))) % 12) m0 m1;obtain ⟨zz,hzz,rfl⟩:=Xr.mp hu;exists _,rfl,_,rfl,_,rfl,_,rfl,_,_,rfl,rfl,?_,_,_,rfl,rfl,_,_,rfl,rfl,(by show (0:Int)<12; decide),p,_,_,_,rfl,rfl,SqL.of e4,Iv,nxT (by omega) hj la ⟨rfl,l++[zz],by simp,by simp [hl],?_,fun y hy=>?_⟩
  ·exact qm (by omega) (by omega)
  ·rw [List.range_succ,Xb,<- hlk]
   congr 1
   show [zz]=[pk v2.toNat si.toNat j];have ei:((v2+si*(0+(j:Int))) % 12).toNat=(v2.toNat+si.toNat*j) % 12:=by
    have e1:((v2.toNat+si.toNat*j:Nat):Int)=v2+si*(0+(j:Int)):=by
     rw [aaJ,Int.natCast_mul,aap a0,aap s0,aat]
    rw [<- e1];omega
   rw [ei,XE] at hnat;obtain ⟨y,hy,hyz⟩:=XQ.mp hnat;cases hyz;unfold pk;rw [List.getD_eq_getElem?_getD,hy]
   rfl
  ·rcases Xm.mp hy with hy | hy
   ·exact hpl y hy
   ·rw [Xi.mp hy]; exact hzz
 ·obtain ⟨rfl,l,rfl,hl,hlk,hpl⟩:=z;exact q Dk l _ (G4.new hDk _) (G4.free ht hDk) ac hl hpl (by rw [hlk]; exact Je (by omega) s2 (by omega))
end
open PySem L2
theorem Go.upd {tp p:Addr} {H H1:Hp} (a:Go tp H H1) (t:Tp H tp) (h:H p=none) (o:HO):Go tp H (L2.upd H1 p o):=by
 obtain ⟨sc,k,r,ns,h1,h2⟩:=id t;have pt:tp≠p:=ay h1 h;have ps:sc≠p:=ay h2 h;have st:sc≠tp:=eX h2 h1 (fun z=>by injection z with z; cases ns<;>cases z);obtain ⟨k',r',e⟩:=a.y sc k r h1;exists fun b u n q=>?_,⟨sc,k',r',ns,by rw [aj pt]; exact e,by rw [aj ps]; exact a.x _ _ st h2⟩,fun IN k2 r2 q=>?_
 ·rw [aj (ay q h)];exact a.x _ _ n q
 ·obtain ⟨k3,r3,e3⟩:=a.y IN k2 r2 q;exists k3,r3,by rw [aj pt]; exact e3
noncomputable def d4 (R:List Rec):Prop:=∀ (i:Nat) r,R[i]?=some r->r.1∈bg/\((1<=r.2.length/\r.2.length<=3)/\(r.2.map (·.1)).Nodup/\∀ p∈r.2,p.1∈bg)/\∀ p∈r.2,p.2∈PL\/∃ (j:Nat) (r':Rec),j<i/\R[j]?=some r'/\r'.1=p.2
theorem HJ:∀ {l r:List Str},l.Nodup->((l.zip r).map (·.1)).Nodup
 | [],_,_=>by simp
 | _::_,[],_=>by simp
 | a::l,b::r,h=>by
  rw [List.zip_cons_cons,Xp,XH];rw [XH] at h;exists fun z=>h.1 ?_,HJ h.2
  obtain ⟨p,hp,e⟩:=Xr.mp z;have e':p.1=a:=e;rw [<- e'];exact (Yv hp).1
theorem Ca:∀ z∈bg,z∉PL:=()
theorem ve.mono {R:List Rec}:∀ {n m:Nat} {k:Str},n<=m->ve R n k->ve R m k
 | 0,_,_,_,h=>h.elim
 | n+1,0,_,h,_=>by omega
 | n+1,m+1,k,h,d=>by
  rcases d with a | ⟨a,b,c,d⟩
  ·exact .inl a
  ·exact .inr ⟨a,b,c,fun p hp=>ve.mono (by omega) (d p hp)⟩
theorem JO {R:List Rec} {i:Nat} {r:Rec} (h:R[i]?=some r):∃ j r',j<=i/\R[j]?=some r'/\r'.1=r.1/\look R r.1=r'.2:=by
 induction R generalizing i with
 | nil=>simp at h
 | cons a rs ih =>
  by_cases e:a.1=r.1
  ·exists 0,a,Xj _,rfl,e,?_;unfold look;rw [X9,decide_eq_true e]
   rfl
  ·cases i with
   | zero =>
    simp at h;exact absurd (congrArg (·.1) h) e
   | succ i =>
    obtain ⟨j,r',h1,h2,h3,h4⟩:=ih (i:=i) (by simpa using h);exists j+1,r',by omega,by simpa using h2,h3,?_
    rw [<- h4];unfold look;rw [X9,decide_eq_false e]
theorem d4.deep {R:List Rec} (g:d4 R):∀ (i:Nat) {r:Rec},R[i]?=some r->ve R (i+2) r.1:=by
 intro i
 induction i using Nat.strongRecOn with
 | ind i ih =>
  intro r h;obtain ⟨j,r',h1,h2,h3,h4⟩:=JO h;obtain ⟨a,b,c⟩:=g j r' h2;refine .inr ⟨Ca _ (g i r h).1,Xr.mpr ⟨r,Xh h,rfl⟩,by rw [h4]; exact b.1,fun p hp=>?_⟩;rw [h4] at hp;rcases c p hp with z | ⟨j',r2,l,e1,e2⟩
  ·exact .inl z
  ·rw [<- e2];exact (ih j' (by omega) e1).mono (by omega)
theorem d4.snoc {R:List Rec} (g:d4 R) {r:Rec} (h:r.1∈bg/\((1<=r.2.length/\r.2.length<=3)/\(r.2.map (·.1)).Nodup/\∀ p∈r.2,p.1∈bg)/\∀ p∈r.2,p.2∈PL\/∃ (j:Nat) (r':Rec),j<R.length/\R[j]?=some r'/\r'.1=p.2):d4 (R++[r]):=by
 intro i s hs
 by_cases hi:i<R.length
 ·rw [Yk hi] at hs;obtain ⟨a,b,c⟩:=g i s hs;exists a,b,fun p hp=>?_
  rcases c p hp with z | ⟨j,r',l,e1,e2⟩
  ·exact .inl z
  ·exact .inr ⟨j,r',l,by rw [Yk (by omega)]; exact e1,e2⟩
 ·have:i=R.length:=by
   have:=(Xv.mp hs).1
   simp at this;omega
  subst this;rw [Ze (Xc _),Nat.sub_self] at hs;simp at hs;subst hs;obtain ⟨a,b,c⟩:=h;exists a,b,fun p hp=>?_
  rcases c p hp with z | ⟨j,r',l,e1,e2⟩
  ·exact .inl z
  ·exact .inr ⟨j,r',l,by rw [Yk l]; exact e1,e2⟩
section
variable {P:Program} {w:World} {K:Frag} {mg:Str->Option Value} {base:Heap} {f g:Addr} {fd gd:FuncData}
abbrev LB:List Str:=["_law_tape_here", "_law_records_here", "_law_name", "_law_kinds", "_law_fields"]
abbrev nC1:List Str:=["_law_k", "_law_tape_here"]
abbrev nC2:List Str:=["_law_k", "_law_fields", "_law_kinds"]
theorem o9:aA LB ["_law_tape_here"] (defScope eZ):=ZU 0
theorem Ri:nC1.Nodup:=()
theorem Ra:nC2.Nodup:=()
inductive BR (vs:List V) (H:Hp) (Q:VK) (bu:XK):Prop
 | mk (tp):(vs=[.ref tp])->(Tp H tp)->(∀ v R H',Go tp H H'->gi H' v R->R.length<=3->d4 R->(R.map (·.1)).Nodup->Q v H')->BR  vs H Q bu
theorem Ja (T:G0 mg) (F:Zc "_law_records" eZ) (D:Za 1 "_law_draw" dP bS) (DN:Za 2 "_law_names" dP jt):Zb 3 ["_law_tape_here"] BR:=by
 obtain ⟨g,gd,Gd,bG,kG,mG⟩:=D.ex;obtain ⟨g2,Ws,GN,bN,kN,mN⟩:=DN.ex;refine F.ok o9 (fun vs H Q E h=>?_) (fun gm A outer s H vs Q E hr h=>?_)
 ·obtain ⟨tp,rfl,_⟩:=h
  rfl
 obtain ⟨tp,rfl,ht,q⟩:=h;refine ⟨_,br (fk (i:=1) o9.nd rfl (Yi rfl) (gS aq))
  (br (FG PassesOwn.never rfl (fD (eQ GN hr rfl mN kN bN .nil dU (ak (pv 0) (ak (aZ aD (gS (ak af (ak af (ak af (ak af aq))))) (eQ Gd (hr.mono (by omega)) rfl mG kG bG .nil dU (ak (pv 0) (ak af aq))) (fun _ _=>rfl)) aq)))) (dS (i:=2) o9.nd rfl (Yi rfl))
   (br (fk (i:=3) o9.nd rfl (Yz rfl) (bF (N':=nC1) (ρ:=[none,some 0]) (m:=1) (bL.of (fs:=defScope eZ) (N:=LB) rfl rfl ()) rfl (el rfl T.range (ak (cu cN af (eQ Gd (hr.mono (by omega)) rfl mG kG bG .nil dU (ak (pv 0) (ak af aq)))) aq))
     (fun _ _ _ _=>dS (i:=0) Ri rfl (Yi rfl)) (fun _ _ _ _=>bH) (fun _ _ _ _=>aZ (j6 (K:=K) rfl) (gS (ak ag (ak ag (ak ag aq)))) (eQ Gd (hr.mono (by omega)) rfl mG kG bG .nil dU (ak (pv 1) (ak af aq))) (fun _ _=>rfl))))
   (br (uM (PW.pt (gO (c7 (hV hr.units0) (pv 1) (gS aq) (cZ _)) (fB (c7 f7 (eQ Gd (hr.mono (by omega)) rfl mG kG bG .nil dU (ak (pv 0) (ak af aq))) af (cZ _)))))
     (dW (gJ (aZ cV (aZ aD (pv 1) (eQ Gd (hr.mono (by omega)) rfl mG kG bG .nil dU (ak (pv 0) (ak (cP bq rfl T.len hJ (ak (pv 1) aq)) aq))) (fun _ _=>rfl)) af (fun _ _=>rfl)) (pz (pv 3) af iX))) j3)
   (br (fk (i:=4) o9.nd rfl (Yz rfl) (eQ GN hr rfl mN kN bN .nil dU (ak (pv 0) (ak (cP bq rfl T.len hJ (ak (pv 3) aq)) aq))))
   (dW (C2 (CC Xw Zl Zm tJ (pv 1) (ak (mq (ak (pv 2) (ak (fN aH rfl T.tuple bU (ak
     (bF (N':=nC2) (ρ:=[none,some 4,some 3]) (m:=1) (bL.of (fs:=defScope eZ) (N:=LB) rfl rfl ()) rfl (el rfl T.range (ak (cP bq rfl T.len hJ (ak (pv 3) aq)) aq))
      (fun _ _ _ _=>dS (i:=0) Ra rfl (Yi rfl)) (fun _ _ _ _=>bH) (fun _ _ _ _=>mq (ak (aZ (j6 (K:=K) rfl) (pv 1) (pv 0) (fun _ _=>rfl)) (ak (aZ (j6 (K:=K) rfl) (pv 2) (pv 0) (fun _ _=>rfl)) aq)))) aq)) aq))) aq))))))))
  (dW (jH (fN aH rfl T.tuple bU (ak (pv 1) aq))))),?_⟩
 exists zl0,fun rl hrl=>?_
 have G1:Go tp H (L2.upd H rl (.lst [])):=(Go.refl ht).new hrl _;have hrt:rl≠tp:=ht.nt hrl;exists _,rfl,zl4,fun p3 lD=>?_
 have G3:=G1.new lD (.lst [.int 0,.int 1,.int 2,.int 3]);exists _,rfl,tp,4,rfl,G3.t,by decide,by decide,fun v4 H4 b0 b1 x4 t4 y4=>?_
 have G4:=G3.trans ⟨x4,t4,y4⟩;obtain ⟨st,hst,_,hat⟩:=dX (xs:=[V.int 0,V.int 1,V.int 2,V.int 3]) (i:=v4) b0 b1;have stp:∃ si:Int,st=.int si/\0<=si/\si<=3:=by
  rcases Xa.mp hst with e | hst
  ·exists 0,e,by decide,by decide
  rcases Xa.mp hst with e | hst
  ·exists 1,e,by decide,by decide
  rcases Xa.mp hst with e | hst
  ·exists 2,e,by decide,by decide
  ·exists 3,Xi.mp hst,by decide,by decide
 obtain ⟨si,rfl,s0,s1⟩:=stp;have PZ:H4 rl=some (.lst []):=x4 _ _ hrt (ad lD _ _ _ ac);exists p3,_,_,_,rfl,rfl,SqL.of (x4 _ _ (G1.t.nt lD) ac),hat,tp,si,rfl,t4,s0,by omega,fun an l H5 g5 No han hl hpl hnd=>?_
 have G5:=G4.trans g5;have anH:H an=none:=G4.free ht No;have hra:rl≠an:=ay PZ No;have RQ:H5 rl=some (.lst []):=g5.x _ _ hrt PZ;have Kd:an≠tp:=t4.nt No;exists an,rfl,⟨_,SqL.of han⟩,hU (xs:=l.map V.str) (fun i σ H'=>∃ m2 m3 m4 xs R,σ=[some (.ref tp),some (.ref rl),m2,m3,m4]/\Go tp H H'/\H' an=some (.lst (l.map V.str))/\H' rl=some (.lst xs)/\Paired (ka H') xs R/\R.length=i/\R.map (·.1)=l.take i/\d4 R) ⟨none,none,none,[],[],rfl,G5,han,RQ,.nil,rfl,by simp,fun i r e=>by simp at e⟩ (fun i σ H' _ p=>?_) (fun i x σ H' hx p=>?_) (fun σ H' p=>?_)
 ·obtain ⟨_,_,_,_,_,_,_,e,_⟩:=p;exact SqL.of e
 ·obtain ⟨m2,m3,m4,xs,R,rfl,GA,hnA,hlA,pA,lA,nA,gA⟩:=p;rw [XE] at hx;obtain ⟨nm,hnm,rfl⟩:=XQ.mp hx;have P0:i<3:=by
   have:=(Xv.mp hnm).1
   omega
  exists _,rfl,tp,3,rfl,GA.t,by decide,by decide,fun v8 H8 d0 d1 x8 t8 y8=>?_
  have G8:Go tp H' H8:=⟨x8,t8,y8⟩;exists _,_,rfl,rfl,_,rfl,by omega,by omega,iz (1+v8).toNat (by omega) (fun j ar H9=>Go tp H' H9/\∃ ks:List Str,ar=ks.map V.str/\ks.length=j/\∀ x∈ks,x∈PL) ⟨G8,[],rfl,rfl,fun _ z=>nomatch z⟩ (fun j ar H9 hj la z=>?_) (fun ar H9 z la Dk hDk=>?_)
  ·obtain ⟨G9,ks,rfl,hks,Ke⟩:=z;exists ⟨rfl,rfl⟩,bA ?_;exists zl3,fun p hp=>⟨_,rfl,tp,3,rfl,(G9.new hp _).t,by decide,by decide,fun oK UT e0 e1 x10 Ue Vi=>?_⟩
   obtain ⟨u,hu,_,Iv⟩:=dX (xs:=PL.map V.str) (i:=oK) e0 e1;obtain ⟨z,hz,rfl⟩:=Xr.mp hu;exists p,_,_,_,rfl,rfl,SqL.of (x10 _ _ (G9.t.nt hp) ac),Iv,nxT (by omega) hj la ⟨(G9.new hp _).trans ⟨x10,Ue,Vi⟩,ks++[z],by simp,by simp [hks],fun y hy=>?_⟩;rcases Xm.mp hy with hy | hy
   ·exact Ke y hy
   ·rw [Xi.mp hy]; exact hz
  ·obtain ⟨G9,ks,rfl,hks,Ke⟩:=z;have GB:=G9.new hDk (.lst (ks.map V.str));have eB:(L2.upd H9 Dk (.lst (ks.map V.str))) Dk=some (.lst (ks.map V.str)):=ac;have hDt:Dk≠tp:=G9.t.nt hDk;have hDn:H' Dk=none:=G9.free GA.t hDk;dsimp only [tX];refine kg (fun σ Sa=>∃ (wz:List Str),σ=[some (.ref tp),some (.ref rl),some (.str nm),some (.ref Dk),m4]/\Go tp H' Sa/\Sa Dk=some (.lst (wz.map V.str))/\1<=wz.length/\wz.length<=3/\∀ x∈wz,x∈PL\/∃ (j:Nat) (r':Rec),j<R.length/\R[j]?=some r'/\r'.1=x) (fun NX hNX=>?_) (fun σ Sa jj=>?_)
   ·have plainJ:∀ {Hx:Hp},Go tp H' Hx->Hx Dk=some (.lst (ks.map V.str))->NX [some (.ref tp),some (.ref rl),some (.str nm),some (.ref Dk),m4] Hx:=fun {Hx} a c=>hNX _ _ ⟨ks,rfl,a,c,by omega,by omega,fun x hx=>.inl (Ke x hx)⟩
    exists _,rfl,zl0,fun pe hpe=>?_
    have GC:=GB.new hpe (.lst []);have eC:=ad hpe (.lst []) _ _ eB;have eL:=GC.x _ _ hrt hlA;exists rl,pe,xs,rfl,rfl,SqL.of eL,SqL.of ac,_,rfl,?_;refine au (fun c1=>?_) (fun c1=>plainJ GC eC);have lx:0<xs.length:=by
     cases xs with
     | nil=>exact absurd c1 (by decide)
     | cons _ _=>simp
    have lxR:=Paired.length pA;exists _,rfl,tp,3,rfl,GC.t,by decide,by decide,fun wN WQ _ _ x11 QN Vy=>⟨_,_,rfl,rfl,_,rfl,?_⟩
    have GE:=GC.trans ⟨x11,QN,Vy⟩;have TD:=x11 _ _ hDt eC;refine au (fun c2=>?_) (fun c2=>plainJ GE TD);exists _,rfl,_,rfl,_,rfl,rl,xs,rfl,.inl (SqL.of (GE.x _ _ hrt hlA)),tp,_,rfl,QN,by omega,by omega,fun ym Wz f0 f1 x12 UD Wd=>?_
    have GF:=GE.trans ⟨x12,UD,Wd⟩;obtain ⟨u,hu,B5,B6⟩:=dX (xs:=xs) (i:=ym) f0 f1;obtain ⟨rc,hrc,cc,yy,rfl,hcc,_⟩:=aG pA _ u B5;have Wa:=x12 _ _ hDt TD;have R5:=GF.x _ _ (GA.t.ne hcc) hcc;exists rl,_,_,_,rfl,rfl,SqL.of (GF.x _ _ hrt hlA),B6,cc,_,_,_,rfl,rfl,SqT.of R5,rfl,_,rfl,Dk,_,_,0,rfl,rfl,Wa,?_,?_
    ·unfold ixN;rw [if_pos (by decide),W8,if_pos (by omega)]
     rfl
    ·refine hNX _ _ ⟨ks.set 0 rc.1,rfl,GF.upd GA.t hDn _,?_,by simp; omega,by simp; omega,fun x hx=>?_⟩
     ·rw [ac,List.map_set]
     ·rcases List.mem_or_eq_of_mem_set hx with hx | rfl
      ·exact .inl (Ke x hx)
      ·exact .inr ⟨ym.toNat,rc,by omega,hrc,rfl⟩
   ·obtain ⟨wz,rfl,GJ,eJ,l1,l3,hkk⟩:=jj;exists _,rfl,_,rfl,Dk,_,rfl,.inl (SqL.of eJ),tp,_,rfl,GJ.t,by omega,by rw [W8]; omega,fun fl lf V4 SX Wm hfl hlf hplf hndf=>?_
    have Uc:lf.length=wz.length:=by rw [hlf,W8,Yn]
    have GK:=GJ.trans SX;have eD:=SX.x _ _ hDt eJ;have eL:=GK.x _ _ hrt hlA;have eN:=GK.x _ _ Kd hnA;have hzl:(lf.zip wz).length=wz.length:=by rw [List.length_zip]; omega
    exists _,rfl,.inl ⟨rfl,_,SqL.of eL⟩,_,rfl,_,rfl,Dk,_,rfl,.inl (SqL.of eD),_,rfl,by rw [W8]; omega,by rw [W8]; omega,iz (((wz.map V.str).length:Nat):Int).toNat (by rw [W8]; omega) (fun j ar H'=>av V4 H'/\Paired (b8 H') ar ((lf.zip wz).take j)) ⟨av.refl _,.nil⟩ (fun j ar Td hj la z=>?_) (fun ar Td z la D2 Ez=>?_)
    ·obtain ⟨Pr,pa⟩:=z;have VD:j<wz.length:=by
      rw [W8] at hj;simpa using hj
     have hk:wz[j]?=some wz[j]:=XA VD;have hf:lf[j]?=some (lf[j]'(by omega)):=XA (by omega);exists ⟨rfl,rfl⟩,bA ?_;exists _,rfl,_,rfl,fl,_,_,_,rfl,rfl,SqL.of (Pr _ _ hfl),Ms (by rw [XE,hf]; rfl),_,rfl,_,rfl,Dk,_,_,_,rfl,rfl,SqL.of (Pr _ _ eD),Ms (by rw [XE,hk]; rfl),zl2,fun p hp=>nxT (by rw [W8]; omega) hj la ⟨Pr.trans (ad hp _),?_⟩
     have ez:(lf.zip wz)[j]?=some (lf[j]'(by omega),wz[j]):=by
      rw [List.getElem?_zip_eq_some];exists hf,hk
     rw [Xn,ez];exact Paired.snoc (Paired.mapP pa fun _ _ z=>z.mono (aR hp _)) ⟨p,rfl,ac⟩
    ·obtain ⟨Pr,pa⟩:=z;have Uj:Paired (b8 Td) ar (lf.zip wz):=by
      rw [W8,Yn,<- hzl,Xo] at pa;exact pa
     have S8:=ad Ez (.lst ar);exists D2,ar,rfl,.inl ⟨SqL.of ac,fun tq htq=>⟨zl2,fun tr htr=>?_⟩⟩;have TF:=ad htq (.tup ar);have SM:=ad htr (.tup [.str nm,.ref tq]);have gAll:=((Pr.trans S8).trans TF).trans SM;have TK:=gAll _ _ eL;exists rl,xs,_,rfl,rfl,TK,ap (by rw [Paired.length pA,lA]; omega),?_;have kL:=aW TK (.lst (xs++[.ref tr]));have Tc:=(ao SM).trans kL;have GZ:=(GA.trans GK).trans (Go.same GK.t gAll);have kA:Tk H' (L2.upd _ rl (.lst (xs++[.ref tr]))):=fun b ys e=>kL _ _ (gAll _ _ (GK.x _ _ (GA.t.ne e) e))
     exists _,_,_,xs++[.ref tr],R++[(nm,lf.zip wz)],rfl,GZ.upd ht hrl _,?_,ac,?_,by simp [lA],by rw [Xb,nA,Xn,hnm]; rfl,?_
     ·rw [aj hra.symm];exact gAll _ _ eN
     ·refine Paired.snoc (Paired.mapP pA fun _ _ z=>z.mono kA) ⟨tr,.ref tq,rfl,kL _ _ ac,tq,ar,rfl,Tc _ _ ac,?_⟩;exact Paired.mapP Uj fun _ _ z=>z.mono ((ao (S8.trans TF)).trans Tc)
     ·refine gA.snoc ⟨hpl nm (Xh hnm),⟨⟨by show 1<=(lf.zip wz).length; omega,by show (lf.zip wz).length<=3; omega⟩,HJ hndf,fun p hp=>hplf _ (Yv hp).1⟩,fun p hp=>?_⟩;exact hkk _ (Yv hp).2
 ·obtain ⟨m2,m3,m4,xs,R,rfl,GA,hnA,hlA,pA,lA,nA,gA⟩:=p;exists _,rfl,rl,xs,rfl,.inl ⟨SqL.of hlA,fun p hp=>?_⟩;refine q (.ref p) R _ (GA.new hp _) ⟨p,xs,rfl,ac,Paired.mapP pA fun _ _ z=>z.mono (aR hp _)⟩ ?_ gA ?_
  ·rw [lA,W8,hl];omega
  ·rw [nA,W8,Xo];exact hnd
end
open PySem L2
noncomputable def TXT:List Str:=["", "a", "b a", "~ !", "ab&"]
end K6
namespace HT
open PySem PySem.Spec PyProof.Rows
section
variable {prog:Program} {w:World} {A:Around} {E:Value->Shared->Prop} {s:Shared}
theorem getItem_tuple_whole {t sl:Addr} {items:Array Value} {vl vu:Value} {lo hi:Option Int} {Q:Value->Shared->Prop} (ht:IsTup s.heap t items) (hs:s.heap.IsSliceOf sl vl vu .none) (pl:IsPart vl lo) (pu:IsPart vu hi)
  (hw:sIx items.size 0 lo=0/\sIx items.size items.size hi=items.size) (h:Q (.ref t) s):wpAny (model prog w) A (getItem (.ref t) (.ref sl)) Q E s:=by
 obtain ⟨os,hos,hcs,hds⟩:=id hs;have hTs:s.TypeIs (.ref sl) "slice":=⟨os,hos,hcs⟩;unfold getItem
 try with_reducible refine wpAny_holding ?_
 first | refine wpAny_bind (wpAny_pure ?_) | skip
 refine wpAny_bind (wpAny_sequenceKey ht.typeIs (by decide) ?_);refine wpAny_bind (wpAny_callSpecial?_slot (name:=Xx "__getitem__") ht.typeIs Yl
  (wpAny_call_entry Yl ht.typeIs entry_tuple_getitem ?_ (args_tuple_getitem _ _)))
 show wpAny _ _ (Builtin.Tuple.tupleItemsOf (.ref t) >>= _) _ _ s;refine wpAny_bind (tupleItemsOf_ ht ?_);refine wpAny_bind (wpAny_typeOf hTs ?_);rw [if_pos (by decide)];refine wpAny_bind (gU hs pl pu ?_);have hyes:(((sIx items.size 0 lo:Nat):Int)==0&&(1:Int)==1&&(sIx items.size items.size hi - sIx items.size 0 lo)==items.size)=true:=by
  rw [hw.1,hw.2];simp
 show wpAny _ _ (if (((sIx items.size 0 lo:Nat):Int)==0&&(1:Int)==1&&(sIx items.size items.size hi - sIx items.size 0 lo)==items.size)=true then _ else _) _ _ s;rw [if_pos hyes];refine wpAny_bind ?_;unfold Builtin.Tuple.tupleIsExact;refine wpAny_bind (wpAny_typeOf ht.typeIs (wpAny_pure ?_));rw [if_pos (by decide)];refine wpAny_bind (wpAny_rule ?_);exact wpAny_pure ⟨_,rfl,wpAny_pure h⟩
end
end HT
namespace L2
open PySem PySem.Spec PyProof.Rows
section
variable {X:Cx}
inductive Mg (K:Frag) (x:V) (lo:Option Int) (hi:Option Int) (H:Hp) (Q:VK):Prop
 | mk (a xs):(x=.ref a)->(SqT K H a xs)->((HT.sIx xs.length 0 lo=0/\HT.sIx xs.length xs.length hi=xs.length))->(Q (.ref a) H)->Mg K x lo hi H Q
theorem fF:SlR X (Mg X.K):=by
 intro ae s σ H x v vl vu lo hi sl Q I rx hs pl pu h;obtain ⟨a,xs,rfl,hx,hw,q⟩:=h;cases rx;obtain ⟨its,r,ht,hz⟩:=I.tuple hx;have cI:its.toArray.size=xs.length:=by rw [Xk]; exact r.length.symm
 exists "tuple",_,PyProof.Rows.slot_tuple_getitem.lookup,ht.typeIs,?_;exact HT.getItem_tuple_whole ht hs pl pu (by rw [cI]; exact hw) ⟨.ref a,H,I,rfl,q⟩
inductive HN (K:Frag) (xs:List V) (H:Hp) (Q:VK):Prop
 | mk (x d):(xs=[x])->(RdD K H x d)->(d.showable=true)->(d.hasDict=false)->(d.depth<=60)->(d.shown.length<=sizeLine)->(Q (.str d.shown) H)->HN K xs H Q
theorem d9 (hu:X.A.units+64<cLine) (hg:X.A.guards=some []):d8 X (.builtin "repr") (HN X.K):=by
 intro ae s σ H xs us Q I r h;obtain ⟨x,d,rfl,hd,hs,hn,hp,hz,q⟩:=h;cases hd with
 | non =>
  obtain ⟨u,rfl,ru⟩:=fT r;cases ru;exact PySem.P.repr_of_none ⟨.str (PyData.shown .none),H,I.tok _,⟨s.toks,by simp only [PyData.shown]⟩,q⟩
 | bl b =>
  obtain ⟨u,rfl,ru⟩:=fT r;cases ru;exact PySem.P.repr_of_bool ⟨.str (PyData.shown (.bool b)),H,I.tok _,⟨s.toks,by simp only [PyData.shown]⟩,q⟩
 | int i =>
  obtain ⟨u,rfl,ru⟩:=fT r;obtain ⟨t,rfl⟩:=ru;exact PySem.P.repr_of_int (by simpa [PyData.showable] using hs) ⟨.str (PyData.shown (.int i)),H,I.tok _,⟨s.toks,by simp only [PyData.shown]⟩,q⟩
 | str z =>
  obtain ⟨u,rfl,ru⟩:=fT r;obtain ⟨t,rfl⟩:=ru;exact PySem.P.repr_of_str ⟨.str (PyData.shown (.str z)),H,I.tok _,⟨s.toks,by simp only [PyData.shown]⟩,q⟩ (by simpa only [PyData.shown] using hz)
 | lst h ra=>exact uF hu hg ae s σ H _ us Q I r ⟨_,_,rfl,.lst h ra,hs,hn,hp,hz,q⟩
 | tup h ra=>exact uF hu hg ae s σ H _ us Q I r ⟨_,_,rfl,.tup h ra,hs,hn,hp,hz,q⟩
theorem ek {K:Frag} {H:Hp} {a b:Addr} {xs ys:List V} {Q:VK} (ha:H a=some (.tup xs)) (hb:H b=some (.tup ys)) (hl:xs.length+ys.length<=1000)
  (q:∀ p H',av H H'->H' p=some (.tup (xs++ys))->Q (.ref p) H'):Gh K (.ref a) (.ref b) H Q\/zA K (.ref a) (.ref b) H Q:=by
 cases xs with
 | nil=>exact .inr ⟨a,b,ys,rfl,rfl,SqT.of ha,SqT.of hb,q b H (av.refl _) hb⟩
 | cons x r =>
  refine .inl ⟨a,b,_,_,rfl,rfl,SqT.of ha,SqT.of hb,by simp,XI (ap hl),fun e=>?_,fun e p hp=>?_⟩
  ·subst e;exact q a H (av.refl _) (by rw [XB]; exact ha)
  ·exact q p _ (fun c o e=>by rw [aj (ay e hp)]; exact e) ac
end
end L2
namespace K6
open PySem L2
mutual
noncomputable def W:PyData->Nat
 | .list xs=>WS xs+3
 | .tuple xs=>WS xs+3
 | .none=>4
 | .bool _=>5
 | .int i=>(PyData.shown (.int i)).length
 | .str x=>(PyData.shown (.str x)).length
 | .dict _=>0
noncomputable def WS:List PyData->Nat
 | []=>0
 | x::xs=>W x+2+WS xs
end
theorem qW (t:Str) (r:List Str):piled (t::r)=t.length+2+piled r:=by simp [piled]
theorem xI (ts:List Str):(tupleText ts).length<=piled ts+3:=by
 unfold tupleText;rw [strLen_append,strLen_append];have e1:(("(":Str)).length=1:=by decide
 have e2:(Xx (if ts.length==1 then ",)" else ")")).length<=2:=by split<;>decide
 have e3:(Str.join ", " ts).length<=piled ts:=by
  cases ts with
  | nil=>exact XC (show (Str.join ", " []).length<=0 by decide) (Xj _)
  | cons x r =>
   have:=join_length_add (x::r) (by simp)
   omega
 rw [e1];have Ui:=e2;omega
theorem pK:∀ (ts:List Str) (k:Nat) (ar:Str),(textFrom k ar ts).length<=ar.length+piled ts
 | [],_,ar=>by simp [textFrom,piled]
 | t::r,k,ar=>by
  have h2:=pK r (k+1) (ar++(if k > 0 then ", " else "":String)++t);have e:(Xx (if k > 0 then ", " else "")).length<=2:=by split<;>decide
  rw [strLen_append,strLen_append] at h2;unfold textFrom;rw [qW];omega
theorem zR (ts:List Str):(listText ts).length<=piled ts+3:=by
 unfold listText;rw [strLen_append]
 have:=pK ts 0 "["
 have e1:(("[":Str)).length=1:=by decide
 have e2:(("]":Str)).length=1:=by decide
 have WK:=e1;have Ui:=e2;omega
mutual
theorem xH:∀ d:PyData,d.hasDict=false->d.shown.length<=W d
 | .none,_=>by simp only [W,PyData.shown]; decide
 | .bool b,_=>by cases b<;>simp only [W,PyData.shown]<;>decide
 | .int i,_=>by simp only [W]; exact Xc _
 | .str x,_=>by simp only [W]; exact Xc _
 | .list xs,h=>by
  have:=i4 xs (by simpa [PyData.hasDict] using h)
  simp only [W,PyData.shown];exact XC (zR _) (by omega)
 | .tuple xs,h=>by
  have:=i4 xs (by simpa [PyData.hasDict] using h)
  simp only [W,PyData.shown];exact XC (xI _) (by omega)
 | .dict _,h=>by simp [PyData.hasDict] at h
theorem i4:∀ ds:List PyData,PyData.hasDictAll ds=false->piled (PyData.shownAll ds)<=WS ds
 | [],_=>by simp [PyData.shownAll,piled]
 | x::xs,h=>by
  have h':x.hasDict=false/\PyData.hasDictAll xs=false:=by simpa [PyData.hasDictAll] using h
  have h1:=xH x h'.1;have h2:=i4 xs h'.2;simp only [PyData.shownAll,qW,WS];omega
end
structure a9 (m b:Nat) (d:PyData):Prop where
 sh:d.showable=true
 nd:d.hasDict=false
 dp:d.depth<=m
 sz:W d<=b
structure a8 (m b:Nat) (ds:List PyData):Prop where
 sh:PyData.showableAll ds=true
 nd:PyData.hasDictAll ds=false
 dp:PyData.depthAll ds<=m
 sz:WS ds<=b
theorem a9.mono {m b m' b':Nat} {d:PyData} (h:a9 m b d) (h1:m<=m') (h2:b<=b'):a9 m' b' d:=⟨h.sh,h.nd,XC h.dp h1,XC h.sz h2⟩
theorem a8.mono {m b m' b':Nat} {d:List PyData} (h:a8 m b d) (h1:m<=m') (h2:b<=b'):a8 m' b' d:=⟨h.sh,h.nd,XC h.dp h1,XC h.sz h2⟩
theorem a8.nil:a8 0 0 []:=⟨by simp [PyData.showableAll],by simp [PyData.hasDictAll],by simp [PyData.depthAll],by simp [WS]⟩
theorem a8.cons {m b c:Nat} {d:PyData} {ds:List PyData} (h:a9 m b d) (r:a8 m c ds):a8 m (b+2+c) (d::ds):=by
 have h1:=h.dp;have h2:=r.dp;have h3:=h.sz;have h4:=r.sz;exists by simp [PyData.showableAll,h.sh,r.sh],by simp [PyData.hasDictAll,h.nd,r.nd],by simp only [PyData.depthAll]; omega,by simp only [WS]; omega
theorem a8.tup {m b:Nat} {ds:List PyData} (h:a8 m b ds):a9 (m+1) (b+3) (.tuple ds):=by
 have h1:=h.dp;have h2:=h.sz;exists by simp only [PyData.showable]; exact h.sh,by simp only [PyData.hasDict]; exact h.nd,by simp only [PyData.depth]; omega,by simp only [W]; omega
end K6
namespace L2
open PySem
theorem OS (xs:List V) (k:Nat) (h:k<=xs.length):io xs none (some (k:Int))=xs.take k:=by
 unfold io;rw [HT.sIx_none,HT.sIx_nat,Zu h,aae,Nat.sub_zero]
theorem Ds (xs:List V) (k:Nat):io xs (some (k:Int)) none=xs.drop k:=by
 unfold io;rw [HT.sIx_none,HT.sIx_nat]
 by_cases h:k<=xs.length
 ·rw [Zu h,aaa (by rw [Yp]; omega)]
 ·rw [Nat.min_eq_right (by omega),Zq,List.take_nil,List.drop_eq_nil_of_le (by omega)]
end L2
namespace K6
open PySem L2
inductive E where
 | num (i:Int) | text (z:Str) | var (x:Str) | of_ (e:E) (f:Str) | with_ (e:E) (f:Str) (g:E) | new (r:Str) (es:List E)
 | add (a b:E) | sub (a b:E) | times (n:Int) (e:E) | div (e:E) (n:Int) | rest (e:E) (n:Int) | len (e:E) | at_ (a b:E)
 | rows (es:List E) | put (a b c:E) | more (a b:E) | signs (e:E)
inductive C where
 | less (a b:E) | same (a b:E) | and_ (c d:C) | or_ (c d:C) | not_ (c:C)
inductive S where
 | let_ (x:Str) (e:E) | say (w:Str) (c:C) | if_ (c:C) (a b:List S) | while_ (c:C) (a:List S) | call (x f:Str) (es:List E) | give (e:E)
mutual
noncomputable def E.d:E->PyData
 | .num i=>.tuple [.str "num",.int i]
 | .text z=>.tuple [.str "text",.str z]
 | .var x=>.tuple [.str "var",.str x]
 | .of_ e f=>.tuple [.str "of",e.d,.str f]
 | .with_ e f g=>.tuple [.str "with",e.d,.str f,g.d]
 | .new r es=>.tuple [.str "new",.str r,.tuple (E.ds es)]
 | .add a b=>.tuple [.str "add",a.d,b.d]
 | .sub a b=>.tuple [.str "sub",a.d,b.d]
 | .times n e=>.tuple [.str "times",.int n,e.d]
 | .div e n=>.tuple [.str "div",e.d,.int n]
 | .rest e n=>.tuple [.str "rest",e.d,.int n]
 | .len e=>.tuple [.str "len",e.d]
 | .at_ a b=>.tuple [.str "at",a.d,b.d]
 | .rows es=>.tuple [.str "rows",.tuple (E.ds es)]
 | .put a b c=>.tuple [.str "put",a.d,b.d,c.d]
 | .more a b=>.tuple [.str "more",a.d,b.d]
 | .signs e=>.tuple [.str "signs",e.d]
noncomputable def E.ds:List E->List PyData
 | []=>[]
 | e::r=>e.d::E.ds r
end
noncomputable def C.d:C->PyData
 | .less a b=>.tuple [.str "less",a.d,b.d]
 | .same a b=>.tuple [.str "same",a.d,b.d]
 | .and_ c d=>.tuple [.str "and",c.d,d.d]
 | .or_ c d=>.tuple [.str "or",c.d,d.d]
 | .not_ c=>.tuple [.str "not",c.d]
mutual
noncomputable def S.d:S->PyData
 | .let_ x e=>.tuple [.str "let",.str x,e.d]
 | .say w c=>.tuple [.str "say",.str w,c.d]
 | .if_ c a b=>.tuple [.str "if",c.d,.tuple (S.ds a),.tuple (S.ds b)]
 | .while_ c a=>.tuple [.str "while",c.d,.tuple (S.ds a)]
 | .call x f es=>.tuple [.str "call",.str x,.str f,.tuple (E.ds es)]
 | .give e=>.tuple [.str "give",e.d]
noncomputable def S.ds:List S->List PyData
 | []=>[]
 | s::r=>s.d::S.ds r
end
theorem E.ds_snoc:∀ (es:List E) (e:E),E.ds (es++[e])=E.ds es++[e.d]
 | [],e=>by simp [E.ds]
 | a::r,e=>by simp [E.ds,E.ds_snoc r e]
theorem E.ds_len:∀ es:List E,(E.ds es).length=es.length
 | []=>rfl
 | a::r=>by simp [E.ds,E.ds_len r]
theorem S.ds_snoc:∀ (es:List S) (e:S),S.ds (es++[e])=S.ds es++[e.d]
 | [],e=>by simp [S.ds]
 | a::r,e=>by simp [S.ds,S.ds_snoc r e]
theorem S.ds_app:∀ a b:List S,S.ds (a++b)=S.ds a++S.ds b
 | [],b=>rfl
 | s::r,b=>by simp [S.ds,S.ds_app r b]
theorem S.ds_len:∀ es:List S,(S.ds es).length=es.length
 | []=>rfl
 | a::r=>by simp [S.ds,S.ds_len r]
noncomputable def NUM:List Int:=[0,1,-1,2,3,7,1000000,-1000000,-4,-3,-2,4,99]
mutual
noncomputable def Ok (R:List Rec) (V:List Fld):E->Str->Prop
 | .num i,k=>k = "num"/\i∈NUM
 | .text z,k=>k = "text"/\z∈TXT
 | .var x,k=>(x,k)∈V
 | .of_ e f,k=>∃ r,Ok R V e r/\(f,k)∈look R r
 | .with_ e f g,k=>k∉PL/\Ok R V e k/\∃ k',(f,k')∈look R k/\Ok R V g k'
 | .new r es,k=>k=r/\r∉PL/\1<=(look R r).length/\OkL R V es ((look R r).map (·.2))
 | .add a b,k=>k = "num"/\Ok R V a "num"/\Ok R V b "num"
 | .sub a b,k=>k = "num"/\Ok R V a "num"/\Ok R V b "num"
 | .times n e,k=>k = "num"/\n∈NUM/\Ok R V e "num"
 | .div e n,k=>k = "num"/\(n∈NUM/\2<=n/\n<=99)/\Ok R V e "num"
 | .rest e n,k=>k = "num"/\(n∈NUM/\2<=n/\n<=99)/\Ok R V e "num"
 | .len e,k=>k = "num"/\(Ok R V e "row"\/Ok R V e "text")
 | .at_ a b,k=>k = "num"/\(Ok R V a "row"\/Ok R V a "text")/\Ok R V b "num"
 | .rows es,k=>k = "row"/\es.length<=8/\OkN R V es
 | .put a b c,k=>k = "row"/\Ok R V a "row"/\Ok R V b "num"/\Ok R V c "num"
 | .more a b,k=>k = "row"/\Ok R V a "row"/\Ok R V b "num"
 | .signs e,k=>k = "row"/\Ok R V e "text"
noncomputable def OkL (R:List Rec) (V:List Fld):List E->List Str->Prop
 | [],[]=>True
 | e::es,k::ks=>Ok R V e k/\OkL R V es ks
 | _,_=>False
noncomputable def OkN (R:List Rec) (V:List Fld):List E->Prop
 | []=>True
 | e::es=>Ok R V e "num"/\OkN R V es
end
theorem OkL.snoc {R:List Rec} {V:List Fld} {e:E} {k:Str} (h:Ok R V e k):∀ {es:List E} {ks:List Str},OkL R V es ks->OkL R V (es++[e]) (ks++[k])
 | [],[],_=>by simp only [Xz,OkL]; exact ⟨h,trivial⟩
 | a::r,b::s,q=>by
  simp only [OkL] at q;simp only [Xf,OkL];exists q.1,OkL.snoc h q.2
 | [],_::_,q=>by simp only [OkL] at q
 | _::_,[],q=>by simp only [OkL] at q
theorem OkN.snoc {R:List Rec} {V:List Fld} {e:E} (h:Ok R V e "num"):∀ {es:List E},OkN R V es->OkN R V (es++[e])
 | [],_=>by simp only [Xz,OkN]; exact ⟨h,trivial⟩
 | a::r,q=>by
  simp only [OkN] at q;simp only [Xf,OkN];exists q.1,OkN.snoc h q.2
open PySem L2
theorem Paired.take' {α β:Type} {F:α->β->Prop}:∀ (i:Nat) {l:List α} {m:List β},Paired F l m->Paired F (l.take i) (m.take i)
 | 0,_,_,_=>by rw [X7,X7]; exact .nil
 | i+1,_,_,.nil=>.nil
 | i+1,_,_,.cons h t=>.cons h (Paired.take' i t)
theorem Paired.drop' {α β:Type} {F:α->β->Prop}:∀ (i:Nat) {l:List α} {m:List β},Paired F l m->Paired F (l.drop i) (m.drop i)
 | 0,_,_,h=>h
 | i+1,_,_,.nil=>.nil
 | i+1,_,_,.cons h t=>Paired.drop' i t
theorem Paired.app' {α β:Type} {F:α->β->Prop}:∀ {a c:List α} {b d:List β},Paired F a b->Paired F c d->Paired F (a++c) (b++d)
 | _,_,_,_,.nil,q=>q
 | _,_,_,_,.cons h t,q=>.cons h (Paired.app' t q)
abbrev cX:=Str×List Fld×List Fld×Str
noncomputable def iF (H:Hp) (v:V) (h:cX):Prop:=∃ a p q,v=.ref a/\H a=some (.tup [.str h.1,p,q,.str h.2.2.2])/\bK H p h.2.1/\bK H q h.2.2.1
theorem iF.mono {H H':Hp} (t:Tk H H') {v:V} {p:cX} (h:iF H v p):iF H' v p:=let ⟨a,y,z,e,q,r,s⟩:=h; ⟨a,y,z,e,t _ _ q,r.mono t,s.mono t⟩
noncomputable def KS (R:List Rec):List Str:=PL++R.map (·.1)
structure HOk (R:List Rec) (h:cX):Prop where
 nm:h.1∈bg
 p2:h.2.1.length<=2
 l1:1<=(h.2.1++h.2.2.1).length
 l5:(h.2.1++h.2.2.1).length<=5
 nd:((h.2.1++h.2.2.1).map (·.1)).Nodup
 vs:∀ p∈h.2.1++h.2.2.1,p.1∈bg/\p.2∈KS R
 gv:h.2.2.2∈KS R
structure I0 (R:List Rec) (HS:List cX):Prop where
 l1:1<=HS.length
 l3:HS.length<=3
 nd:(HS.map (·.1)).Nodup
 ok:∀ h∈HS,HOk R h
theorem Go.tk {tp:Addr} {H H':Hp} (g:Go tp H H') (t:Tp H tp):Tk H H':=fun b ys e=>g.x _ _ (t.ne e) e
noncomputable def WD:List Str:=(["num", "text", "var", "of", "with", "new", "add", "sub", "times", "div", "rest", "len", "at", "rows", "put", "more", "signs", "less", "same", "and", "or", "not", "let", "say", "if", "while", "call", "give", "x", "main"]:List Str)++bg++TXT++PL
theorem J1:∀ z∈WD,(PyData.str z).showable=true/\(PyData.str z).hasDict=false/\(PyData.str z).depth=0/\W (.str z)<=12:=()
theorem nW {z:Str} (h:z∈WD):a9 0 12 (.str z):=by
 obtain ⟨a,b,c,d⟩:=J1 z h;exists a,b,by omega,d
theorem FJ:∀ z∈NUM,(PyData.int z).showable=true/\(PyData.int z).hasDict=false/\(PyData.int z).depth=0/\W (.int z)<=12:=()
theorem nI {z:Int} (h:z∈NUM):a9 0 12 (.int z):=by
 obtain ⟨a,b,c,d⟩:=FJ z h;exists a,b,by omega,d
theorem dg {z:Str} (h:z∈bg):z∈WD:=by
 unfold WD;simp only [Xm];exact .inl (.inl (.inr h))
theorem Mz {z:Str} (h:z∈TXT):z∈WD:=by
 unfold WD;simp only [Xm];exact .inl (.inr h)
theorem nz {m:Nat}:a8 m 0 []:=a8.nil.mono (Xj _) (Xc _)
mutual
noncomputable def E.na:E->Bool
 | .num _=>true
 | .text _=>true
 | .var _=>true
 | .of_ e _=>e.na
 | .with_ e _ g=>e.na&&g.na
 | .new _ es=>E.nas es
 | .add a b=>a.na&&b.na
 | .sub a b=>a.na&&b.na
 | .times _ e=>e.na
 | .div e _=>e.na
 | .rest e _=>e.na
 | .len e=>e.na
 | .at_ _ _=>false
 | .rows es=>E.nas es
 | .put _ _ _=>false
 | .more a b=>a.na&&b.na
 | .signs e=>e.na
noncomputable def E.nas:List E->Bool
 | []=>true
 | e::r=>e.na&&E.nas r
end
theorem E.nas_snoc {e:E} (h:e.na=true):∀ {es:List E},E.nas es=true->E.nas (es++[e])=true
 | [],_=>by simp [E.nas,h]
 | a::r,q=>by
  simp only [E.nas,XT] at q;simp only [Xf,E.nas,XT];exists q.1,E.nas_snoc h q.2
abbrev km (v:V) (hl vl:Addr) (g:Str) (n:Int) (b:Bool):List (Key×V):=[(.inr "records",v),(.inr "heads",.ref hl),(.inr "variables",.ref vl),(.inr "gives",.str g),(.inr "left",.int n),(.inr "reach",.bl b)]
structure Ff (tp:Addr) (H:Hp) (R:List Rec) (HS:List cX) (Vs:List Fld) (v:V) (hl vl:Addr):Prop where
 rs:gi H v R
 ht:hl≠tp
 vt:vl≠tp
 hh:∃ hs,H hl=some (.lst hs)/\Paired (iF H) hs HS
 vv:∃ vs,H vl=some (.lst vs)/\Paired (b8 H) vs Vs
noncomputable def kU (tp:Addr) (H:Hp) (kd:Addr) (R:List Rec) (HS:List cX) (Vs:List Fld) (g:Str) (n:Int) (b:Bool):Prop :=
 ∃ v hl vl,H kd=some (.dK (km v hl vl g n b))/\Ff tp H R HS Vs v hl vl
theorem Ff.mono {tp kd:Addr} {H H':Hp} {R:List Rec} {HS:List cX} {Vs:List Fld} {v:V} {hl vl:Addr} (t:Tk H H') (e:∀ b o,b≠tp->b≠kd->H b=some o->H' b=some o) (hk:hl≠kd) (vk:vl≠kd) (h:Ff tp H R HS Vs v hl vl):Ff tp H' R HS Vs v hl vl:=by
 obtain ⟨a,b,c,⟨hs,d1,d2⟩,⟨vs,e1,e2⟩⟩:=h;exists a.mono t,b,c,⟨hs,e _ _ b hk d1,Paired.mapP d2 fun _ _ z=>z.mono t⟩,⟨vs,e _ _ c vk e1,Paired.mapP e2 fun _ _ z=>z.mono t⟩
theorem kU.ne {tp kd:Addr} {H:Hp} {R:List Rec} {HS:List cX} {Vs:List Fld} {g:Str} {n:Int} {b:Bool} (h:kU tp H kd R HS Vs g n b) (t:Tp H tp):kd≠tp:=by
 obtain ⟨v,hl,vl,e,_⟩:=h;obtain ⟨_,_,_,_,e2,_⟩:=t;exact eX e e2 (fun z=>by cases z)
theorem kU.go {tp kd:Addr} {H H':Hp} {R:List Rec} {HS:List cX} {Vs:List Fld} {g:Str} {n:Int} {b:Bool} (h:kU tp H kd R HS Vs g n b) (t:Tp H tp) (G:Go tp H H'):kU tp H' kd R HS Vs g n b:=by
 have kt:=h.ne t;obtain ⟨v,hl,vl,e,D⟩:=h;obtain ⟨hs,d1,_⟩:=D.hh;obtain ⟨vs,e1,_⟩:=D.vv;exists v,hl,vl,G.x _ _ kt e,D.mono (kd:=kd) (G.tk t) (fun b o q _=>G.x b o q) (eX d1 e (fun z=>by cases z)) (eX e1 e (fun z=>by cases z))
structure Env (R:List Rec) (Vs:List Fld):Prop where
 rl:R.length<=3
 g:d4 R
 nd:(R.map (·.1)).Nodup
 vn:∀ p∈Vs,p.1∈bg
 vl:Vs.length<=5
theorem Do (r:Rec) (R:List Rec) (k:Str):look (r::R) k=if r.1=k then r.2 else look R k:=by
 unfold look;rw [X9]
 by_cases q:r.1=k
 ·rw [if_pos q,decide_eq_true q]; rfl
 ·rw [if_neg q,decide_eq_false q]
theorem kF:∀ {R:List Rec},(R.map (·.1)).Nodup->∀ r∈R,look R r.1=r.2
 | [],_,r,h=>nomatch h
 | a::rs,nd,r,h=>by
  rw [Xp,XH] at nd;rw [Do];rcases Xa.mp h with rfl | h
  ·rw [if_pos rfl]
  ·have:¬ a.1=r.1:=fun e=>nd.1 (by rw [e]; exact Xr.mpr ⟨r,h,rfl⟩)
   rw [if_neg this];exact kF nd.2 r h
theorem vd {R:List Rec} (g:d4 R) (hl:R.length<=3):∀ k∈KS R,ve R 4 k:=by
 intro k hk;rcases Xm.mp hk with h | h
 ·exact .inl h
 ·obtain ⟨r,hr,rfl⟩:=Xr.mp h;obtain ⟨i,hi,e⟩:=YT.mp hr;exact (g.deep i (r:=r) (by rw [XA hi,e])).mono (by omega)
theorem ck {R:List Rec} (g:d4 R) {r:Rec} (hr:r∈R):r.1∈bg/\((1<=r.2.length/\r.2.length<=3)/\(r.2.map (·.1)).Nodup/\∀ p∈r.2,p.1∈bg)/\∀ p∈r.2,p.2∈KS R:=by
 obtain ⟨i,hi,e⟩:=YT.mp hr;obtain ⟨h1,h2,h3⟩:=g i r (by rw [XA hi,e]);exists h1,h2,fun p hp=>?_
 rcases h3 p hp with z | ⟨j,r',_,e1,e2⟩
 ·exact XD _ z
 ·exact Xy _ (Xr.mpr ⟨r',Xh e1,e2⟩)
section
variable {P:Program} {w:World} {K:Frag} {mg:Str->Option Value} {base:Heap} {f g:Addr} {fd gd:FuncData}
inductive BI (vs:List V) (H:Hp) (Q:VK) (bu:XK):Prop
 | mk (tp v R):(vs=[.ref tp,v])->(Tp H tp)->(gi H v R)->(R.length<=3)->(∀ k H',Go tp H H'->k∈KS R->Q (.str k) H')->BI  vs H Q bu
abbrev xw:List Str:=["_law_tape_here", "_law_records_here", "_law_some"]
abbrev og:List Str:=["_law_record"]
theorem uW:og.Nodup:=()
theorem uc:aA xw ["_law_tape_here", "_law_records_here"] (defScope j4):=ZU 0
theorem JI (T:G0 mg) (F:Zc "_law_kind" j4) (aF:Za 1 "_law_draw" dP bS):Zb 2 ["_law_tape_here", "_law_records_here"] BI:=by
 refine F.ok uc (fun vs H Q E h=>?_) (fun gm A outer s H vs Q E hr h=>?_)
 ·obtain ⟨tp,v,R,rfl,_⟩:=h
  rfl
 obtain ⟨tp,v,R,rfl,ht,hR,hRl,q⟩:=h;exists _,(Z2 (ZA 2 uc.nd (ZE bQ (ZD (Z1 ag (Z1 ag (Z1 ag (Z0 ag))))) (bF (N':=og) (ρ:=[none]) (m:=1) (bL.of (fs:=defScope j4) (N:=xw) rfl rfl ()) rfl (bI (pv 1)) (fun _ _ _ _=>(ZO 0 uW)) (fun _ _ _ _=>bH) (fun _ _ _ _=>(aZ (eP (K:=K) rfl) (pv 0) af (fun _ _=>rfl)))))) (Z3 (Z7 (Z5 aD (pv 2) (Z6 aF (Z1 (pv 0) (Z0 (ZI (Z0 (pv 2)))))))))),?_;show let v1:L2.TS:=_; (am _ v1) _ _ _;intro v1;obtain ⟨rA,rxs,rfl,hrA,rrs⟩:=hR;exists zl4,fun l1 jX=>?_
 have P3:=ad jX (.lst ((["num", "num", "text", "row"]:List Str).map V.str));exists _,rfl,rA,rfl,⟨_,SqT.of (P3 _ _ hrA)⟩,cF rxs.length rfl (by rw [Paired.length rrs]; omega) (fun j ar H'=>H'=upd H l1 (.lst ((["num", "num", "text", "row"]:List Str).map V.str))/\ar=((R.map (·.1)).take j).map V.str) ⟨rfl,rfl⟩ (fun j ar H' p=>by obtain ⟨rfl,_⟩:=p; exact SqT.of (P3 _ _ hrA)) (fun j ar H' u hj la hu p=>?_) (fun ar H' p la D hD=>?_)
 ·obtain ⟨rfl,rfl⟩:=p;obtain ⟨r,er,a1,y1,rfl,oN,_⟩:=aG rrs j u hu;exists ⟨rfl,rfl⟩,bA ⟨_,rfl,a1,_,_,_,rfl,rfl,SqT.of (P3 _ _ oN),rfl,nxT (by rw [Paired.length rrs]; omega) hj la ⟨rfl,?_⟩⟩;have Vm:(R.map (·.1))[j]?=some r.1:=by rw [XE,er]; rfl
  rw [Xn,Vm,Xb]
  rfl
 obtain ⟨rfl,rfl⟩:=p;rw [Paired.length rrs,<- W8 (f:=fun r:Rec=>r.1),Xo];have gD:=ad hD (.lst ((R.map (·.1)).map V.str));have klen:((["num", "num", "text", "row"]:List Str).map V.str).length+((R.map (·.1)).map V.str).length<=7:=by
  rw [W8,W8,W8];show 4+_<=7;omega
 exists l1,D,_,_,rfl,rfl,gD _ _ ac,ac,XI (ap (by omega)),fun lp hlp=>?_
 have gp:=ad hlp (.lst ((["num", "num", "text", "row"]:List Str).map V.str++(R.map (·.1)).map V.str));have G1:=Go.same ht ((P3.trans gD).trans gp);have hlt:lp≠tp:=(ht.same (P3.trans gD)).nt hlp;exists _,rfl,_,rfl,_,rfl,lp,_,rfl,.inl (SqL.of ac),tp,_,rfl,G1.t,?_,?_,fun i H2 i0 i1 x2 t2 y2=>?_
 ·rw [W7,W8];show (0:Int)<((4+_:Nat):Int);omega
 ·rw [W7];omega
 ·obtain ⟨u,hu,_,hat⟩:=dX i0 i1;rw [<- Xb] at hu;obtain ⟨k,hk,rfl⟩:=Xr.mp hu;exists lp,_,_,_,rfl,rfl,SqL.of (x2 _ _ hlt ac),hat,q k _ (G1.trans ⟨x2,t2,y2⟩) ?_;rcases Xm.mp hk with h | h
  ·refine XD _ ?_
   have:∀ k∈(["num", "num", "text", "row"]:List Str),k∈PL:=by decide
   exact this k h
  ·exact Xy _ h
inductive vJ (vs:List V) (H:Hp) (Q:VK) (bu:XK):Prop
 | mk (tp v R):(vs=[.ref tp,v])->(Tp H tp)->(gi H v R)->(R.length<=3)->(∀ r hs HS H',Go tp H H'->H r=none->H' r=some (.lst hs)->Paired (iF H') hs HS->I0 R HS->Q (.ref r) H')->vJ  vs H Q bu
abbrev ue:List Str:=["_law_tape_here", "_law_records_here", "_law_heads_here", "_law_name", "_law_names_here", "_law_many", "_law_pairs"]
abbrev kM:List Str:=["_law_one", "_law_tape_here", "_law_records_here"]
theorem rQ:kM.Nodup:=()
theorem eG:aA ue ["_law_tape_here", "_law_records_here"] (defScope jq):=ZU 0
theorem Hy (T:G0 mg) (F:Zc "_law_heads" jq) (aF:Za 1 "_law_draw" dP bS) (ju:Za 2 "_law_names" dP jt) (yd:Za 2 "_law_kind" ["_law_tape_here", "_law_records_here"] BI) :
  Zb 3 ["_law_tape_here", "_law_records_here"] vJ:=by
 refine F.ok eG (fun vs H Q E h=>?_) (fun gm A outer s H vs Q E hr h=>?_)
 ·obtain ⟨tp,v,R,rfl,_⟩:=h
  rfl
 obtain ⟨tp,v,R,rfl,ht,hR,hRl,q⟩:=h;exists _,(Z2 (ZA 2 eG.nd (ZD aq)) (Z2 (ZM (fD (Z6 ju (Z1 (pv 0) (Z0 (ZE cN af (Z6 aF (Z1 (pv 0) (Z0 af)))))))) (ZO 3 eG.nd) (Z2 (ZA 4 eG.nd (Z6 ju (Z1 (pv 0) (Z0 af)))) (Z2 (ZA 5 eG.nd (Z6 aF (Z1 (pv 0) (Z0 af)))) (Z2 (iB (i:=6) (N':=kM) (ρ:=[none,some 0,some 1]) (m:=1) (bL.of (fs:=defScope jq) (N:=ue) rfl rfl ()) eG.nd rfl (Yi rfl) rfl (fD (bj gz (pv 4) cb (bJ (cu cN (cu cN (pv 5) af) (dD aF (hr.mono (by omega)) rfl (ak (pv 0) (ak af aq))))))) (fun _ _ _ _=>(ZO 0 rQ)) (fun _ _ _ _=>bH) (fun _ _ _ _=>(mq (ak (pv 0) (ak (dD yd (hr.mono (by omega)) rfl (ak (pv 1) (ak (pv 2) aq))) aq))))) (Z3 (ZL (ZG (pv 2) (Z0 (ZF (Z1 (pv 3) (Z1 (ZK aH T.tuple bU (Z0 (@bj _ _ _ _ _ _ _ _ _ _ gz (pv 6) cb (bJ (pv 5))))) (Z1 (ZK aH T.tuple bU (Z0 (@bj _ _ _ _ _ _ _ _ _ _ gz (pv 6) (bJ (pv 5)) cb))) (Z0 (Z6 yd (Z1 (pv 0) (Z0 (pv 1))))))))))))))))) (Z3 (Z7 (pv 2))))),?_;show let v1:L2.TS:=_; let v2:=am _ v1; let v3:=am _ v2; let v4:=am _ v3; let v5:=am (gW _ _ v4) _; (am _ v5) _ _ _;intro v1 v2 v3 v4 v5;exists zl0,fun rl hrl=>?_
 have G1:Go tp H (L2.upd H rl (.lst [])):=(Go.refl ht).new hrl _;have hrt:rl≠tp:=ht.nt hrl;exists _,rfl,_,rfl,tp,3,rfl,G1.t,by decide,by decide,fun v4 H4 b0 b1 x4 t4 y4=>?_
 have G4:=G1.trans ⟨x4,t4,y4⟩;have PZ:H4 rl=some (.lst []):=x4 _ _ hrt ac;exists _,_,rfl,rfl,tp,_,rfl,t4,by omega,by omega,fun an l H5 g5 No han hl hpl hnd=>?_
 have G5:=G4.trans g5;have hra:rl≠an:=ay PZ No;have RQ:H5 rl=some (.lst []):=g5.x _ _ hrt PZ;have Kd:an≠tp:=t4.nt No;have IA:l.length<=3:=by omega
 have jX:1<=l.length:=by omega
 exists an,rfl,⟨_,SqL.of han⟩,hU (xs:=l.map V.str) (fun i σ H'=>∃ m3 m4 m5 m6 xs HS,σ=[some (.ref tp),some v,some (.ref rl),m3,m4,m5,m6]/\Go tp H H'/\H' an=some (.lst (l.map V.str))/\H' rl=some (.lst xs)/\Paired (iF H') xs HS/\HS.map (·.1)=l.take i/\∀ h∈HS,HOk R h) ⟨none,none,none,none,[],[],rfl,G5,han,RQ,.nil,by simp,fun _ z=>nomatch z⟩ (fun i σ H' _ p=>?_) (fun i x σ H' hx p=>?_) (fun σ H' p=>?_)
 ·obtain ⟨_,_,_,_,_,_,_,_,e,_⟩:=p;exact SqL.of e
 ·obtain ⟨m3,m4,m5,m6,xs,HS,rfl,GA,hnA,hlA,pA,nA,oA⟩:=p;rw [XE] at hx;obtain ⟨nm,hnm,rfl⟩:=XQ.mp hx;have P0:i<3:=by
   have:=(Xv.mp hnm).1
   omega
  have xl:xs.length=i:=by
   rw [Paired.length pA,<- W8 (f:=fun h:cX=>h.1),nA,XO]
   have:=(Xv.mp hnm).1
   omega
  exists _,rfl,tp,5,rfl,GA.t,by decide,by decide,fun nl ln H6 G6 SY hnl hln hpln hndn=>?_
  have lnl:ln.length=5:=by rw [hln]; rfl
  have hnt:nl≠tp:=GA.t.nt SY;exists _,rfl,tp,3,rfl,G6.t,by decide,by decide,fun mn H7 Wj WW x7 t7 y7=>?_
  have G7:Go tp H' H7:=G6.trans ⟨x7,t7,y7⟩;have Sq:=x7 _ _ hnt hnl;exists _,rfl,_,rfl,_,_,rfl,rfl,_,rfl,tp,3,rfl,t7,by decide,by decide,fun ex H8 Wk WA x8 t8 y8=>?_
  have G8:=G7.trans ⟨x8,t8,y8⟩;have R6:=x8 _ _ hnt Sq;obtain ⟨mN,rfl⟩:∃ mN:Nat,mn=mN:=⟨mn.toNat,by omega⟩;obtain ⟨eN,rfl⟩:∃ eN:Nat,ex=eN:=⟨ex.toNat,by omega⟩;exists _,_,rfl,rfl,_,rfl,nl,_,rfl,SqL.of R6,fun ps hps=>?_
  have en:((mN:Int)+1+(eN:Int))=((mN+1+eN:Nat):Int):=by omega
  have ec:io (ln.map V.str) none (some ((mN:Int)+1+(eN:Int)))=(ln.take (mN+1+eN)).map V.str:=by
   rw [en,OS _ _ (by rw [W8]; omega),aan]
  rw [ec];have G9:=G8.new hps (.lst ((ln.take (mN+1+eN)).map V.str));have hpt:ps≠tp:=G8.t.nt hps;have hnn:(ln.take (mN+1+eN)).length=mN+1+eN:=by rw [XO]; omega
  exists ps,rfl,⟨_,SqL.of ac⟩,lX (xs:=(ln.take (mN+1+eN)).map V.str) (mN+1+eN) (by rw [W8]; omega) (by omega) (fun j ar H2=>Go tp (L2.upd H8 ps (.lst ((ln.take (mN+1+eN)).map V.str))) H2/\∃ fs:List Fld,Paired (b8 H2) ar fs/\fs.map (·.1)=(ln.take (mN+1+eN)).take j/\∀ p∈fs,p.2∈KS R) ⟨Go.refl G9.t,[],.nil,by simp,fun _ z=>nomatch z⟩ (fun j ar H2 p=>SqL.of (p.1.x _ _ hpt ac)) (fun j ar H2 x hj la hx p=>?_) (fun ar H2 p la D hD=>?_)
  ·obtain ⟨GB,fs,pf,ef,kf⟩:=p;rw [XE] at hx;obtain ⟨one,hone,rfl⟩:=XQ.mp hx;have G9B:=G9.trans GB;exists ⟨rfl,rfl⟩,bA ⟨_,rfl,_,rfl,_,rfl,tp,v,R,rfl,GB.t,hR.mono ((GA.trans G9B).tk ht),hRl,fun kk H3 G3 hkk=>⟨zl2,fun pp hpp=>nxT (by omega) hj la ⟨(GB.trans G3).new hpp _,fs++[(one,kk)],?_,?_,fun y hy=>?_⟩⟩⟩
   ·exact Paired.snoc (Paired.mapP pf fun _ _ z=>z.mono ((G3.tk GB.t).trans (aR hpp _))) ⟨pp,rfl,ac⟩
   ·rw [Xb,ef,Xn,hone]; rfl
   ·rcases Xm.mp hy with hy | hy
    ·exact kf y hy
    ·rw [Xi.mp hy]; exact hkk
  ·obtain ⟨GB,fs,pf,ef,kf⟩:=p;have RI:fs.map (·.1)=ln.take (mN+1+eN):=by rw [ef,aaa (by omega)]
   have lf:fs.length=mN+1+eN:=by rw [<- W8 (f:=fun p:Fld=>p.1),RI,hnn]
   have lacc:=Paired.length pf;have GD:=(G9.trans GB).new hD (.lst ar);have hDt:D≠tp:=GB.t.nt hD;have pfD:=Paired.mapP pf fun _ _ z=>b8.mono (aR hD (.lst ar)) z
   have eD:(L2.upd H2 D (.lst ar)) D=some (.lst ar):=ac;have hlD:=GD.x _ _ hrt hlA;have hnD:=GD.x _ _ Kd hnA;exists _,rfl,.inl ⟨rfl,_,SqL.of hlD⟩,_,rfl,_,rfl,_,rfl,_,rfl,D,_,rfl,SqL.of eD,fun c1 UJ=>?_
   have e1:io ar none (some (mN:Int))=ar.take mN:=OS _ _ (by omega);have e2:io ar (some (mN:Int)) none=ar.drop mN:=Ds _ _;rw [e1];have s1:=ad UJ (.lst (ar.take mN));exists c1,_,rfl,.inl ⟨SqL.of ac,fun c2 IR=>?_⟩;have s2:=ad IR (.tup (ar.take mN));exists _,rfl,_,rfl,_,rfl,D,_,rfl,SqL.of (s2 _ _ (s1 _ _ eD)),fun c3 VS=>?_
   rw [e2];have s3:=ad VS (.lst (ar.drop mN));exists c3,_,rfl,.inl ⟨SqL.of ac,fun c4 Um=>?_⟩;have s4:=ad Um (.tup (ar.drop mN));have sA:=((s1.trans s2).trans s3).trans s4;have GE:=GD.trans (Go.same GD.t sA);exists _,rfl,_,rfl,tp,v,R,rfl,GE.t,hR.mono ((GA.trans GE).tk ht),hRl,fun gk H3 G3 hgk=>⟨zl4,fun tr htr=>?_⟩
   have GF:=(GE.trans G3).new htr (.tup [.str nm,.ref c2,.ref c4,.str gk]);have hlF:=GF.x _ _ hrt hlA;exists rl,xs,_,rfl,rfl,hlF,ap (by omega),?_;have kL:=aW hlF (.lst (xs++[.ref tr]));have GZ:=GA.trans GF;have kG:Tk (L2.upd H2 D (.lst ar)) H3:=(ao sA).trans (G3.tk GE.t);have kH:Tk H3 (L2.upd (L2.upd H3 tr (.tup [.str nm,.ref c2,.ref c4,.str gk])) rl (.lst (xs++[.ref tr]))):=(aR htr _).trans kL;exists _,_,_,_,xs++[.ref tr],HS++[(nm,fs.take mN,fs.drop mN,gk)],rfl,GZ.upd ht hrl _,?_,ac,?_,?_,fun h hh=>?_
   ·rw [aj hra.symm];exact GF.x _ _ Kd hnA
   ·have kA:Tk H' (L2.upd _ rl (.lst (xs++[.ref tr]))):=(GF.tk GA.t).trans kL;refine Paired.snoc (Paired.mapP pA fun _ _ z=>z.mono kA) ⟨tr,.ref c2,.ref c4,rfl,kL _ _ ac,⟨c2,ar.take mN,rfl,?_,?_⟩,⟨c4,ar.drop mN,rfl,?_,?_⟩⟩
    ·exact kH _ _ (G3.tk GE.t _ _ (s4 _ _ (s3 _ _ ac)))
    ·exact Paired.mapP (Paired.take' mN pfD) fun _ _ z=>z.mono (kG.trans kH)
    ·exact kH _ _ (G3.tk GE.t _ _ ac)
    ·exact Paired.mapP (Paired.drop' mN pfD) fun _ _ z=>z.mono (kG.trans kH)
   ·rw [Xb,nA,Xn,hnm]; rfl
   ·rcases Xm.mp hh with hh | hh
    ·exact oA h hh
    ·rw [Xi.mp hh];have eA:fs.take mN++fs.drop mN=fs:=aaf _ _;exists hpl nm (Xh hnm),?_,?_,?_,?_,fun p hp=>?_,hgk
     ·show (fs.take mN).length<=2;rw [XO]; omega
     ·show 1<=(fs.take mN++fs.drop mN).length;rw [eA]; omega
     ·show (fs.take mN++fs.drop mN).length<=5;rw [eA]; omega
     ·show ((fs.take mN++fs.drop mN).map (·.1)).Nodup;rw [eA,RI];exact hndn.sublist (Zh _ _)
     ·have Lc:p∈fs:=by
       have jG:p∈fs.take mN++fs.drop mN:=hp
       rwa [eA] at jG
      have:p.1∈ln.take (mN+1+eN):=by rw [<- RI]; exact Xr.mpr ⟨p,Lc,rfl⟩
      exists hpln _ (List.mem_of_mem_take this),kf p Lc
 ·obtain ⟨m3,m4,m5,m6,xs,HS,rfl,GA,hnA,hlA,pA,nA,oA⟩:=p;exists _,rfl,?_;rw [W8,Xo] at nA;have hl:HS.length=l.length:=by rw [<- W8 (f:=fun h:cX=>h.1),nA]
  exact q rl xs HS _ GA hrl hlA pA ⟨by omega,by omega,by rw [nA]; exact hnd,oA⟩
end
open PySem L2
noncomputable def lbf:Nat->Nat
 | 0=>0
 | m+1=>3*lbf m+42
theorem Og:∀ v∈([V.int 0,V.int 1,V.int (-1),V.int 2,V.int 3,V.int 7,V.int (10 ^ (6:Int).toNat),V.int (-(10 ^ (6:Int).toNat))]:List V),∃ i,v=V.int i/\i∈NUM/\-1000000<=i/\i<=1000000:=by
 intro v h;simp only [Xa,Xe,or_false] at h;rcases h with h | h | h | h | h | h | h | h<;>subst h<;>exact ⟨_,rfl,(),by decide,by decide⟩
theorem NJ:∀ v∈([V.str "",V.str "a",V.str "b a",V.str "~ !",V.str "ab&"]:List V),∃ z,v=V.str z/\z∈TXT:=by
 intro v h;simp only [Xa,Xe,or_false] at h;rcases h with h | h | h | h | h<;>subst h<;>exact ⟨_,rfl,()⟩
theorem Jy {m:Nat}:42<=lbf (m+1):=by unfold lbf; omega
theorem ld {m b c:Nat} {x y:PyData} (h:a9 m b x) (k:a9 m c y):a9 (m+1) (b+c+7) (.tuple [x,y]):=(a8.cons h (a8.cons k nz)).tup.mono (Xc _) (by omega)
theorem eV {m b c d:Nat} {x y z:PyData} (h:a9 m b x) (k:a9 m c y) (l:a9 m d z):a9 (m+1) (b+c+d+9) (.tuple [x,y,z]):=(a8.cons h (a8.cons k (a8.cons l nz))).tup.mono (Xc _) (by omega)
theorem B9 {m b c d e:Nat} {x y z t:PyData} (h:a9 m b x) (k:a9 m c y) (l:a9 m d z) (n:a9 m e t):a9 (m+1) (b+c+d+e+11) (.tuple [x,y,z,t]):=(a8.cons h (a8.cons k (a8.cons l (a8.cons n nz)))).tup.mono (Xc _) (by omega)
theorem a9.up {m m' b:Nat} {d:PyData} (h:a9 m b d) (q:m<=m'):a9 m' b d:=h.mono q (Xc _)
theorem kI {m b:Nat}:∀ {es:List E},(∀ e∈es,a9 m b e.d)->a8 m (es.length*(b+2)) (E.ds es)
 | [],_=>nz.mono (Xc _) (Xj _)
 | e::r,h=>by
  have h1:=h e Xl;have h2:=kI (es:=r) fun j hj=>h j (Xg _ hj)
  exact (a8.cons h1 h2).mono (Xc _) (by rw [W9,YD]; omega)
theorem wd (z:Str) (h:decide (z∈WD)=true):a9 0 12 (.str z):=nW (of_decide_eq_true h)
section
variable {P:Program} {w:World} {K:Frag} {mg:Str->Option Value} {base:Heap} {f g:Addr} {fd gd:FuncData}
inductive ip (K:Frag) (m:Nat) (vs:List V) (H:Hp) (Q:VK) (bu:XK):Prop
 | mk (tp kd k R HS Vs gv n b):(vs=[.ref tp,.ref kd,.str k])->(Tp H tp)->(kU tp H kd R HS Vs gv n b)->(Env R Vs)->(ve R m k)->(∀ u e H',Go tp H H'->DT K H' u e.d->Ok R Vs e k->e.na=true->a9 (2*m) (lbf m) e.d->Q u H')->ip K m vs H Q bu
abbrev pLf:List Str:=["_law_tape_here", "_law_kit_here", "_law_kind_here"]
abbrev kE:List Str:=["_law_tape_here", "_law_kit_here", "_law_kind_here", "_law_some", "_law_fields"]
abbrev ot:List Str:=["_law_name", "_law_own", "_law_tape_here", "_law_kit_here"]
theorem kD:ot.Nodup:=()
abbrev nT:List Str:=["_law_record", "_law_kind_here"]
theorem vS:nT.Nodup:=()
abbrev nZ:List Str:=["_law_name", "_law_own", "_law_kind_here"]
theorem lB:nZ.Nodup:=()
theorem mj:aA kE ["_law_tape_here", "_law_kit_here", "_law_kind_here"] (defScope fV):=ZU 0
theorem Jx {m:Nat} (T:G0 mg) (F:Zc "_law_leaf" fV) (aF:Za 1 "_law_draw" dP bS) (d5:Za (m+1) "_law_leaf" pLf (ip K m)) :
  Zb (m+2) pLf (ip K (m+1)):=by
 refine ZR F mj
 ·obtain ⟨tp,kd,k,R,HS,Vs,gv,n,b,rfl,_⟩:=h
  rfl
 obtain ⟨tp,kd,k,R,HS,Vs,gv,n,b,rfl,ht,bn,env,hk,q⟩:=h;exists _,(Z2 (iB (i:=3) (N':=nZ) (ρ:=[none,none,some 2]) (m:=2) (bL.of (fs:=defScope fV) (N:=kE) rfl rfl ()) mj.nd rfl (Yi rfl) rfl (fD (aZ cw (pv 1) ag (fun _ _=>rfl))) (fun _ _ _ _=>(jh (n:=2) (K:=K) rfl rfl (aE (ZO 0 lB) (aE (ZO 1 lB) b9)))) (fun _ _ _ _=>(ie (c7 aJ (pv 1) (pv 2) (cZ _)))) (fun _ _ _ _=>(pv 0))) (Z2 (ZB (PW.pt (gO (Z8 (hV hr.units0) (pv 3) (ZD aq)) (fB (Z8 f7 (Z6 aF (Z1 (pv 0) (Z0 af))) af)))) (Z3 (Z7 (ZF (Z1 ag (Z0 (Z5 aD (pv 3) (Z6 aF (Z1 (pv 0) (Z0 (ZI (Z0 (pv 3))))))))))))) (Z2 (ZB (Z8 aJ (pv 2) ag) (Z3 (Z7 (ZF (Z1 ag (Z0 (Z5 aD (ZD (Z1 af (Z1 af (Z1 (@gh _ _ _ _ _ _ dH af) (Z1 af (Z1 af (Z1 af (Z1 (ZE uY af af) (Z0 (@gh _ _ _ _ _ _ dH (ZE uY af af))))))))))) (Z6 aF (Z1 (pv 0) (Z0 af)))))))))) (Z2 (ZB (Z8 aJ (pv 2) ag) (Z3 (Z7 (ZF (Z1 ag (Z0 (Z5 aD (ZD (Z1 ag (Z1 ag (Z1 ag (Z1 ag (Z0 ag)))))) (Z6 aF (Z1 (pv 0) (Z0 af)))))))))) (Z2 (ZB (Z8 aJ (pv 2) ag) (Z3 (Z7 (ZF (Z1 ag (Z0 (ZF aq))))))) (Z2 (iB (i:=4) (N':=nT) (ρ:=[none,some 2]) (m:=1) (bL.of (fs:=defScope fV) (N:=kE) rfl rfl ()) mj.nd rfl (Yi rfl) rfl (bI (aZ cw (pv 1) ag (fun _ _=>rfl))) (fun _ _ _ _=>(ZO 0 vS)) (fun _ _ _ _=>(ie (c7 aJ (aZ (eP (K:=K) rfl) (pv 0) af (fun _ _=>rfl)) (pv 1) (cZ _)))) (fun _ _ _ _=>(aZ (eP (K:=K) rfl) (pv 0) af (fun _ _=>rfl)))) (Z3 (Z7 (ZF (Z1 ag (Z1 (pv 2) (Z0 (ZK aH T.tuple bU (Z0 (bF (N':=ot) (ρ:=[none,none,some 0,some 1]) (m:=2) (bL.of (fs:=defScope fV) (N:=kE) rfl rfl ()) rfl (bI (aZ aD (pv 4) af (fun _ _=>rfl))) (fun _ _ _ _=>(jh (n:=2) (K:=K) rfl rfl (aE (ZO 0 kD) (aE (ZO 1 kD) b9)))) (fun _ _ _ _=>bH) (fun _ _ _ _=>(dD d5 (hr.mono (by omega)) rfl (ak (pv 2) (ak (pv 3) (ak (pv 1) aq)))))))))))))))))))),?_;show let v1:L2.TS:=_; let v2:=am _ v1; let v3:L2.TS:=_; let v4:=am (bf _ v3 _) v2; let v5:L2.TS:=_; let v6:=am (bf _ v5 _) v4; let v7:L2.TS:=_; let v8:=am (bf _ v7 _) v6; let v9:L2.TS:=_; let oK:=am (bf _ v9 _) v8; (am _ oK) _ _ _;intro v1 v2 v3 v4 v5 v6 v7 v8 v9 oK;have kt:=bn.ne ht;obtain ⟨v,hl,vl,hkd,KD⟩:=id bn;obtain ⟨vs,hvl,pvs⟩:=KD.vv;have lvs:=Paired.length pvs;have lV:=env.vl;have lp:=Jy (m:=m);exists _,rfl,kd,_,_,_,rfl,rfl,hkd,rfl,vl,rfl,⟨_,SqL.of hvl⟩,lX (xs:=vs) vs.length rfl (by omega) (fun i ar H'=>H'=H/\∃ ss:List Str,ar=ss.map V.str/\∀ z∈ss,(z,k)∈Vs) ⟨rfl,[],rfl,fun _ z=>nomatch z⟩ (fun i ar H' p=>by rw [p.1]; exact SqL.of hvl) (fun i ar H' x hi la hx p=>?_) (fun ar H' p la D hD=>?_)
 ·obtain ⟨rfl,ss,rfl,hss⟩:=p;obtain ⟨fl,hfl,c,rfl,hc⟩:=aG pvs i x hx;exists c,_,rfl,SqT.of hc,rfl,_,_,rfl,_,_,rfl,rfl,⟨rfl,rfl⟩,⟨_,rfl,_,rfl,rfl,_,rfl,?_⟩;refine au (fun d1=>?_) (fun d1=>?_)
  ·exists _,rfl,nxT (by omega) hi la ⟨rfl,ss++[fl.1],by simp,fun z hz=>?_⟩;rcases Xm.mp hz with hz | hz
   ·exact hss z hz
   ·rw [Xi.mp hz,<- eqS d1];exact Xh hfl
  ·exact nxF hi la ⟨rfl,ss,rfl,hss⟩
 obtain ⟨rfl,ss,rfl,hss⟩:=p;have gD:=ad hD (.lst (ss.map V.str));have G1:=Go.same ht gD;have hDt:D≠tp:=ht.nt hD;have eD:(upd H' D (.lst (ss.map V.str))) D=some (.lst (ss.map V.str)):=ac;have sl:ss.length<=5:=by rw [W8] at la; omega
 dsimp only [tX];refine kg (fun σ H1=>σ=[some (.ref tp),some (.ref kd),some (.str k),some (.ref D),none]/\Go tp H' H1) (fun NX hNX=>?_) (fun σ H1 jj=>?_)
 ·exists _,rfl,zl0,fun pe hpe=>?_
  have G2:=G1.new hpe (.lst []);have Qq:=ad hpe (.lst []) _ _ eD;exists D,pe,_,rfl,rfl,SqL.of Qq,SqL.of ac,_,rfl,?_;refine au (fun c1=>?_) (fun c1=>hNX _ _ ⟨rfl,G2⟩);have sp:0<ss.length:=by
   cases ss with
   | nil=>exact absurd c1 (by decide)
   | cons _ _=>simp
  exists _,rfl,tp,3,rfl,G2.t,by decide,by decide,fun v3 H3 _ _ x3 t3 y3=>⟨_,_,rfl,rfl,_,rfl,?_⟩
  have G3:=G2.trans ⟨x3,t3,y3⟩;refine au (fun c2=>?_) (fun c2=>hNX _ _ ⟨rfl,G3⟩);have To:=x3 _ _ hDt Qq;exists _,rfl,_,rfl,_,rfl,D,_,rfl,.inl (SqL.of To),tp,_,rfl,t3,by rw [W8]; omega,by rw [W8]; omega,fun v4 H4 f0 f1 x4 t4 y4=>?_
  obtain ⟨u,hu,_,hat⟩:=dX (xs:=ss.map V.str) (i:=v4) f0 f1;obtain ⟨z,hz,rfl⟩:=Xr.mp hu;exists D,_,_,_,rfl,rfl,SqL.of (x4 _ _ hDt To),hat,zl2,fun p hp=>?_
  have hzV:=hss z hz;refine q (.ref p) (.var z) _ ((G3.trans ⟨x4,t4,y4⟩).new hp _) (.tup (.inl ac) (.cons (.str _) (.cons (.str _) .nil))) hzV rfl ?_;exact (ld (wd "var" ()) (nW (dg (env.vn _ hzV)))).mono (by omega) (by omega)
 obtain ⟨rfl,G2⟩:=jj;have MU:=G2.x _ _ kt hkd;have Wt:=bn.go ht G2;exists _,rfl,rfl,_,rfl,?_;refine au (fun c1=>?_) (fun c1=>?_)
 ·exists _,rfl,_,_,rfl,rfl,⟨by decide,by decide,by decide⟩,_,_,rfl,rfl,⟨by decide,by decide,by decide⟩,_,rfl,zl8,fun lc hlc=>?_
  have G3:=G2.new hlc (.lst [V.int 0,V.int 1,V.int (-1),V.int 2,V.int 3,V.int 7,V.int (10 ^ (6:Int).toNat),V.int (-(10 ^ (6:Int).toNat))]);exists _,rfl,tp,8,rfl,G3.t,by decide,by decide,fun v1 H3 v0 v2 x1 t1 y1=>?_
  obtain ⟨u,hu,_,hat⟩:=dX (xs:=[V.int 0,V.int 1,V.int (-1),V.int 2,V.int 3,V.int 7,V.int (10 ^ (6:Int).toNat),V.int (-(10 ^ (6:Int).toNat))]) (i:=v1) v0 v2;obtain ⟨i,rfl,hi,WO,Tj⟩:=Og u hu;exists lc,_,_,_,rfl,rfl,SqL.of (x1 _ _ (G2.t.nt hlc) ac),hat,zl2,fun p hp=>?_
  refine q (.ref p) (.num i) _ ((G3.trans ⟨x1,t1,y1⟩).new hp _) (.tup (.inl ac) (.cons (.str _) (.cons (.int _) .nil))) ⟨eqS c1,hi⟩ rfl ?_;exact (ld (wd "num" ()) (nI hi)).mono (by omega) (by omega)
 exists _,rfl,rfl,_,rfl,?_;refine au (fun c2=>?_) (fun c2=>?_)
 ·exists zl5,fun lc hlc=>?_
  have G3:=G2.new hlc (.lst [V.str "",V.str "a",V.str "b a",V.str "~ !",V.str "ab&"]);exists _,rfl,tp,5,rfl,G3.t,by decide,by decide,fun v1 H3 v0 v2 x1 t1 y1=>?_
  obtain ⟨u,hu,_,hat⟩:=dX (xs:=[V.str "",V.str "a",V.str "b a",V.str "~ !",V.str "ab&"]) (i:=v1) v0 v2;obtain ⟨z,rfl,hz⟩:=NJ u hu;exists lc,_,_,_,rfl,rfl,SqL.of (x1 _ _ (G2.t.nt hlc) ac),hat,zl2,fun p hp=>?_
  refine q (.ref p) (.text z) _ ((G3.trans ⟨x1,t1,y1⟩).new hp _) (.tup (.inl ac) (.cons (.str _) (.cons (.str _) .nil))) ⟨eqS c2,hz⟩ rfl ?_;exact (ld (wd "text" ()) (nW (Mz hz))).mono (by omega) (by omega)
 exists _,rfl,rfl,_,rfl,?_;refine au (fun c3=>?_) (fun c3=>?_)
 ·exists zl0,fun p1 h1=>⟨zl2,fun p hp=>?_⟩
  refine q (.ref p) (.rows []) _ ((G2.new h1 _).new hp _) (.tup (.inl ac) (.cons (.str _) (.cons (.tup (.inl (ad hp _ _ _ ac)) (by simp only [E.ds]; exact .nil)) .nil))) ⟨eqS c3,by simp,by simp only [OkN]⟩ rfl ?_;have n0:a9 1 3 (.tuple []):=(nz (m:=0)).tup;show a9 _ _ (.tuple [.str "rows",.tuple (E.ds [])]);simp only [E.ds];exact (ld ((wd "rows" ()).up (Xj 1)) n0).mono (by omega) (by omega)
 have n1:=neS c1;have n2:=neS c2;have n3:=neS c3;obtain ⟨npl,kin,hl13,hf⟩:k∉PL/\k∈R.map (·.1)/\(1<=(look R k).length/\(look R k).length<=3)/\∀ p∈look R k,ve R m p.2:=by
  rcases hk with hk | ⟨z0,z1,z2,z3⟩
  ·rcases Xa.mp hk with e | hk
   ·exact absurd e n1
   rcases Xa.mp hk with e | hk
   ·exact absurd e n2
   ·exact absurd (Xi.mp hk) n3
  ·exists z0,z1,z2,z3
 obtain ⟨r0,jA,MZ⟩:=Xr.mp kin;have kP:k∈bg:=by rw [<- MZ]; exact (ck env.g jA).1
 obtain ⟨rest,hrest⟩:=Cy kin;obtain ⟨bR,rxs,rfl,hbR,rs⟩:=KD.rs;have lrx:rxs.length<=3:=by rw [Paired.length rs]; exact env.rl
 have Pg:=G2.tk ht _ _ hbR;exists _,rfl,kd,_,_,_,rfl,rfl,MU,rfl,bR,rfl,⟨rxs,SqT.of Pg⟩,cF (xs:=rxs) rxs.length rfl (by omega) (fun i ar H3=>H3=H1/\Paired (bK H1) ar (((R.take i).filter fun r=>decide (r.1=k)).map (·.2))) ⟨rfl,.nil⟩ (fun i ar H3 p=>by rw [p.1]; exact SqT.of Pg) (fun i ar H3 x hi la hx p=>?_) (fun ar H3 p la D2 Ez=>?_)
 ·obtain ⟨rfl,pr⟩:=p;obtain ⟨rc,hrc,hra⟩:=aG rs i x hx;obtain ⟨cc,yy,rfl,hcc,hff⟩:=hra.mono (G2.tk ht);exists ⟨rfl,rfl⟩,⟨_,rfl,cc,_,_,_,rfl,rfl,SqT.of hcc,rfl,_,rfl,rfl,_,rfl,?_⟩;have step:((R.take (i+1)).filter fun r=>decide (r.1=k)).map (·.2)=((R.take i).filter fun r=>decide (r.1=k)).map (·.2)++(if rc.1=k then [rc.2] else []):=by
   rw [Xn,hrc,aau,Xb]
   by_cases e:rc.1=k
   ·simp [e]
   ·simp [e]
  refine au (fun d1=>?_) (fun d1=>?_)
  ·exists _,rfl,cc,_,_,_,rfl,rfl,SqT.of hcc,rfl,nxT (by omega) hi la ⟨rfl,?_⟩;rw [step,if_pos (eqS d1)];exact Paired.snoc pr hff
  ·refine nxF hi la ⟨rfl,?_⟩;rw [step,if_neg (neS d1),XB];exact pr
 obtain ⟨rfl,pr⟩:=p;rw [Paired.length rs,Xo,hrest] at pr;obtain ⟨y0,ys,rfl,hy0⟩:∃ y0 ys,ar=y0::ys/\bK H3 y0 (look R k):=by
  cases pr with
  | cons r _=>exact ⟨_,_,rfl,r⟩
 obtain ⟨b2,fx,rfl,uR,fs⟩:=hy0;have gM:=ad Ez (.lst (.ref b2::ys));have G3:=G2.trans (Go.same G2.t gM);have Qq:(upd H3 D2 (.lst (.ref b2::ys))) D2=some (.lst (.ref b2::ys)):=ac;have lfx:=Paired.length fs;have tM:=G2.t.same gM;have hb2M:=gM _ _ uR;exists _,rfl,_,rfl,D2,_,_,_,rfl,rfl,SqL.of Qq,at0 _ _,b2,rfl,⟨fx,SqT.of hb2M⟩,cF (xs:=fx) fx.length rfl (by omega) (fun i ar H4=>Go tp (upd H3 D2 (.lst (.ref b2::ys))) H4/\∃ es:List E,DTs K H4 ar (E.ds es)/\OkL R Vs es (((look R k).take i).map (·.2))/\E.nas es=true/\∀ e∈es,a9 (2*m) (lbf m) e.d) ⟨Go.refl tM,[],by simp only [E.ds]; exact .nil,by simp only [X7,XZ,OkL],by simp only [E.nas],fun _ z=>nomatch z⟩ (fun i ar H4 p=>SqT.of (p.1.tk tM _ _ hb2M)) (fun i ar H4 x hi la hx p=>?_) (fun ar H4 p la D3 VL=>?_)
 ·obtain ⟨G4,es,des,oks,nas,ns⟩:=p;obtain ⟨fl,hfl,cf,rfl,hcf⟩:=aG fs i x hx;exists cf,_,rfl,SqT.of (G4.tk tM _ _ (gM _ _ hcf)),rfl,_,_,rfl,_,_,rfl,rfl,⟨rfl,rfl⟩,bA ⟨_,rfl,_,rfl,_,rfl,tp,kd,fl.2,R,HS,Vs,gv,n,b,rfl,G4.t,bn.go ht (G3.trans G4),env,hf fl (Xh hfl),fun u e H5 G5 de oe ne ni=>nxT (by omega) hi la ⟨G4.trans G5,es++[e],?_,?_,E.nas_snoc ne nas,fun y hy=>?_⟩⟩
  ·rw [E.ds_snoc];exact DTs.snoc de (des.mono (G5.tk G4.t))
  ·rw [Xn,hfl,Xb];exact OkL.snoc oe oks
  ·rcases Xm.mp hy with hy | hy
   ·exact ns y hy
   ·rw [Xi.mp hy]; exact ni
 ·obtain ⟨G4,es,des,oks,nas,ns⟩:=p;rw [lfx,Xo] at oks;have les:es.length<=3:=by rw [<- E.ds_len,<- des.len]; omega
  exists D3,_,rfl,.inl ⟨SqL.of ac,fun l ou=>⟨zl3,fun p hp=>?_⟩⟩;have sA:=(ad VL (.lst ar)).trans (ad ou (.tup ar));have sB:=ad hp (.tup [.str "new",.str k,.ref l]);have G5:=(G3.trans G4).trans (Go.same G4.t (sA.trans sB));refine q (.ref p) (.new k es) _ G5 (.tup (.inl ac) (.cons (.str _) (.cons (.str _) (.cons (.tup (.inl (sB _ _ ac)) (des.mono (ao (sA.trans sB)))) .nil)))) ⟨rfl,npl,hl13.1,oks⟩ nas ?_;have nt:=(kI ns).tup;have h1:es.length*(lbf m+2)<=3*(lbf m+2):=X0 _ les;refine (eV ((wd "new" ()).up (Xj _)) ((nW (dg kP)).up (Xj _)) nt).mono (by omega) ?_;show _<=3*lbf m+42;omega
end
open PySem L2
noncomputable def bm:Nat->Nat
 | 0=>lbf 4
 | d+1=>3*bm d+60
theorem u7:∀ d:Nat,42<=bm d
 | 0=>by decide
 | d+1=>by have:=u7 d; unfold bm; omega
section
variable {P:Program} {w:World} {K:Frag} {mg:Str->Option Value} {base:Heap} {f g:Addr} {fd gd:FuncData}
inductive spE (K:Frag) (d:Nat) (vs:List V) (H:Hp) (Q:VK) (bu:XK):Prop
 | mk (tp kd k R HS Vs gv n b):(vs=[.ref tp,.ref kd,.str k,.int (d:Int)])->(Tp H tp)->(kU tp H kd R HS Vs gv n b)->(Env R Vs)->(k∈KS R)->(∀ u e H',Go tp H H'->DT K H' u e.d->Ok R Vs e k->(b=false->e.na=true)->a9 (8+2*d) (bm d) e.d->Q u H')->spE K d vs H Q bu
inductive spT (K:Frag) (k:Str) (d:Nat) (vs:List V) (H:Hp) (Q:VK) (bu:XK):Prop
 | mk (tp kd R HS Vs gv n b):(vs=[.ref tp,.ref kd,.int ((d:Int)+1)])->(Tp H tp)->(kU tp H kd R HS Vs gv n b)->(Env R Vs)->(∀ u e H',Go tp H H'->DT K H' u e.d->Ok R Vs e k->(b=false->e.na=true)->a9 (8+2*(d+1)) (bm (d+1)) e.d->Q u H')->spT K k d vs H Q bu
abbrev pEx:List Str:=["_law_tape_here", "_law_kit_here", "_law_kind_here", "_law_deep"]
abbrev pTx:List Str:=["_law_tape_here", "_law_kit_here", "_law_deep"]
theorem w3 {i:Int} (h0:0<=i) (h1:i<3):∃ z:Str,atI ((["add", "sub", "times"]:List Str).map V.str) i=some (.str z)/\((i=2/\z = "times")\/(¬ i=2/\(z = "add"\/z = "sub"))):=by
 have:i=0\/i=1\/i=2:=by omega
 rcases this with h | h | h<;>subst h
 ·exists "add",(),.inr ⟨by decide,.inl rfl⟩
 ·exists "sub",(),.inr ⟨by decide,.inr rfl⟩
 ·exists "times",(),.inl ⟨rfl,rfl⟩
theorem w2 {i:Int} (h0:0<=i) (h1:i<2):∃ z:Str,atI ((["div", "rest"]:List Str).map V.str) i=some (.str z)/\(z = "div"\/z = "rest"):=by
 have:i=0\/i=1:=by omega
 rcases this with h | h<;>subst h
 ·exists "div",(),.inl rfl
 ·exists "rest",(),.inr rfl
theorem wrt {i:Int} (h0:0<=i) (h1:i<2):∃ z:Str,atI ((["row", "text"]:List Str).map V.str) i=some (.str z)/\(z = "row"\/z = "text"):=by
 have:i=0\/i=1:=by omega
 rcases this with h | h<;>subst h
 ·exists "row",(),.inl rfl
 ·exists "text",(),.inr rfl
theorem d3 {i:Int} (h0:0<=i) (h1:i<3):∃ z:Int,atI ([V.int 2,V.int 3,V.int 99]:List V) i=some (.int z)/\z∈NUM/\2<=z/\z<=99:=by
 have:i=0\/i=1\/i=2:=by omega
 rcases this with h | h | h<;>subst h
 ·exists 2,(),by decide,by decide,by decide
 ·exists 3,(),by decide,by decide,by decide
 ·exists 99,(),by decide,by decide,by decide
theorem MK {v:Int} (h0:0<=v) (h1:v<9):v - 4∈NUM/\-1000000<=v - 4/\v - 4<=1000000:=by
 have:v=0\/v=1\/v=2\/v=3\/v=4\/v=5\/v=6\/v=7\/v=8:=by omega
 rcases this with h | h | h | h | h | h | h | h | h<;>subst h<;>exact ⟨by decide,by decide,by decide⟩
theorem bmS (d:Nat):bm (d+1)=3*bm d+60:=rfl
abbrev Jh:List Str:=["_law_tape_here", "_law_kit_here", "_law_deep", "_law_way", "_law_word", "_law_first", "_law_row_here"]
theorem iQ:aA Jh ["_law_tape_here", "_law_kit_here", "_law_deep"] (defScope oU):=ZU 0
theorem Mq {d:Nat} (T:G0 mg) (F:Zc "_law_num" oU) (aF:Za 1 "_law_draw" dP bS) (dA:Za (2*d+6) "_law_e" pEx (spE K d)) :
  Zb (2*d+7) pTx (spT K "num" d):=by
 refine ZR F iQ
 ·obtain ⟨tp,kd,R,HS,Vs,gv,n,b,rfl,_⟩:=h
  rfl
 obtain ⟨tp,kd,R,HS,Vs,gv,n,b,rfl,ht,bn,env,q⟩:=h;have kNum:Xx "num"∈KS R:=XD _ (by decide);have kText:Xx "text"∈KS R:=XD _ (by decide);have kRow:Xx "row"∈KS R:=XD _ (by decide);have yq:((d:Int)+1 - 1)=(d:Int):=by omega
 have callE:∀ {H1:Hp} {k:Str} {Q':VK},Go tp H H1->k∈KS R->(∀ u e H2,Go tp H1 H2->Go tp H H2->DT K H2 u e.d->Ok R Vs e k->(b=false->e.na=true)->a9 (8+2*d) (bm d) e.d->Q' u H2)->spE K d [.ref tp,.ref kd,.str k,.int ((d:Int)+1 - 1)] H1 Q' E0 :=
  fun {H1 k Q'} G1 hk q'=>⟨tp,kd,k,R,HS,Vs,gv,n,b,by rw [yq],G1.t,bn.go ht G1,env,hk,fun u e H2 G2 a1 a2 a3 a4=>q' u e H2 G2 (G1.trans G2) a1 a2 a3 a4⟩
 exists _,(Z2 (ZA 3 iQ.nd (Z6 aF (Z1 (pv 0) (Z0 af)))) (Z2 (ZB (Z8 kK (pv 3) af) (Z2 (ZA 4 iQ.nd (Z5 aD (ZD (Z1 ag (Z1 ag (Z0 ag)))) (pv 3))) (Z2 (ZA 5 iQ.nd (Z6 dA (Z1 (pv 0) (Z1 (pv 1) (Z1 ag (Z0 (ZE bi (pv 2) af))))))) (Z3 (Z7 (ZF (Z1 (pv 4) (Z1 (@dE _ _ _ _ _ _ _ _ (Z8 aJ (pv 3) af) (ZE bi (Z6 aF (Z1 (pv 0) (Z0 af))) af) (Z6 dA (Z1 (pv 0) (Z1 (pv 1) (Z1 ag (Z0 (ZE bi (pv 2) af))))))) (Z0 (pv 5)))))))))) (Z2 (ZB (Z8 kK (pv 3) af) (Z3 (Z7 (ZF (Z1 (Z5 aD (ZD (Z1 ag (Z0 ag))) (ZE bi (pv 3) af)) (Z1 (Z6 dA (Z1 (pv 0) (Z1 (pv 1) (Z1 ag (Z0 (ZE bi (pv 2) af)))))) (Z0 (Z5 aD (ZD (Z1 af (Z1 af (Z0 af)))) (Z6 aF (Z1 (pv 0) (Z0 af))))))))))) (Z2 (ZA 6 iQ.nd (Z6 dA (Z1 (pv 0) (Z1 (pv 1) (Z1 (Z5 aD (ZD (Z1 ag (Z0 ag))) (Z6 aF (Z1 (pv 0) (Z0 af)))) (Z0 (ZE bi (pv 2) af))))))) (Z2 (ZB (PW.pt (cK (Z8 aJ (pv 3) af) (cm (dI (di (Z5 cw (pv 1) ag)))))) (Z3 (Z7 (ZF (Z1 ag (Z0 (pv 6))))))) (Z3 (Z7 (ZF (Z1 ag (Z1 (pv 6) (Z0 (Z6 dA (Z1 (pv 0) (Z1 (pv 1) (Z1 ag (Z0 (ZE bi (pv 2) af))))))))))))))))),?_;show let v1:L2.TS:=_; let v2:L2.TS:=_; let v3:=am (bf _ v2 _) v1; let v4:=am _ v3; let v5:L2.TS:=_; let v6:=am (bf _ v5 _) v4; let v7:L2.TS:=_; let v8:=am _ v7; let v9:=am _ v8; let oK:=am (bf _ v9 _) v6; (am _ oK) _ _ _;intro v1 v2 v3 v4 v5 v6 v7 v8 v9 oK;have bp:=u7 d;have kt:=bn.ne ht;obtain ⟨v,hl,vl,hkd,KD⟩:=id bn;exists _,rfl,tp,8,rfl,ht,by decide,by decide,fun way H1 w0 w1 x1 t1 y1=>?_
 have G1:Go tp H H1:=⟨x1,t1,y1⟩;exists _,rfl,_,_,rfl,rfl,_,rfl,?_;refine au (fun c1=>?_) (fun c1=>?_)
 ·have RH:way<3:=of_decide_eq_true c1;obtain ⟨rM,hat,hw⟩:=w3 w0 RH;exists zl3,fun lw hlw=>⟨_,rfl,lw,_,_,_,rfl,rfl,SqL.of ac,hat,?_⟩
  have G2:=G1.new hlw (.lst ((["add", "sub", "times"]:List Str).map V.str));exists _,rfl,_,rfl,_,rfl,_,_,rfl,rfl,callE G2 kNum fun u1 e1 H3 TU G3 rK ox lE oS=>?_
  exists _,rfl,_,rfl,rfl,_,rfl,?_;refine au (fun c2=>?_) (fun c2=>?_)
  ·have Su:way=2:=V.int.inj (of_decide_eq_true c2);have ew:rM = "times":=by
    rcases hw with ⟨_,z⟩ | ⟨z,_⟩
    ·exact z
    ·exact absurd Su z
   subst ew;exists _,rfl,tp,9,rfl,G3.t,by decide,by decide,fun v4 H4 a0 a1 x4 t4 y4=>⟨_,_,rfl,rfl,_,rfl,zl3,fun p hp=>?_⟩
   obtain ⟨m1,m2,m3⟩:=MK a0 a1;have G4:Go tp H3 H4:=⟨x4,t4,y4⟩;refine q (.ref p) (.times (v4 - 4) e1) _ ((G3.trans G4).new hp _) (.tup (.inl ac) (.cons (.str _) (.cons (.int _) (.cons (rK.mono ((G4.tk G3.t).trans (aR hp _))) .nil)))) ⟨rfl,m1,ox⟩ lE ?_;exact (eV ((wd "times" ()).up (Xj _)) ((nI m1).up (Xj _)) oS).mono (by omega) (by rw [bmS]; omega)
  ·have ew:rM = "add"\/rM = "sub":=by
    rcases hw with ⟨z,_⟩ | ⟨_,z⟩
    ·exact absurd (decide_eq_true (congrArg V.int z)) c2
    ·exact z
   exists _,rfl,_,rfl,_,rfl,_,_,rfl,rfl,callE G3 kNum fun u2 e2 H4 RW G4 yj uS wO wL=>⟨_,rfl,zl3,fun p hp=>?_⟩
   have C9:=rK.mono ((RW.tk G3.t).trans (aR hp (.tup [.str rM,u2,u1])));have rL:=yj.mono (aR hp (.tup [.str rM,u2,u1]));rcases ew with rfl | rfl
   ·refine q (.ref p) (.add e2 e1) _ (G4.new hp _) (.tup (.inl ac) (.cons (.str _) (.cons rL (.cons C9 .nil)))) ⟨rfl,uS,ox⟩ (fun z=>by simp only [E.na,lE z,wO z,YN]) ?_;exact (eV ((wd "add" ()).up (Xj _)) wL oS).mono (by omega) (by rw [bmS]; omega)
   ·refine q (.ref p) (.sub e2 e1) _ (G4.new hp _) (.tup (.inl ac) (.cons (.str _) (.cons rL (.cons C9 .nil)))) ⟨rfl,uS,ox⟩ (fun z=>by simp only [E.na,lE z,wO z,YN]) ?_;exact (eV ((wd "sub" ()).up (Xj _)) wL oS).mono (by omega) (by rw [bmS]; omega)
 have RH:¬ way<3:=fun z=>c1 (decide_eq_true z)
 exists _,rfl,_,_,rfl,rfl,_,rfl,?_;refine au (fun c2=>?_) (fun c2=>?_)
 ·have Su:way<5:=of_decide_eq_true c2;obtain ⟨rM,hat,hw⟩:=w2 (i:=way - 3) (by omega) (by omega);exists zl2,fun lw hlw=>⟨_,rfl,_,_,rfl,rfl,lw,_,_,_,rfl,rfl,SqL.of ac,hat,?_⟩
  have G2:=G1.new hlw (.lst ((["div", "rest"]:List Str).map V.str));exists _,rfl,_,rfl,_,rfl,_,_,rfl,rfl,callE G2 kNum fun u1 e1 H3 TU G3 rK ox lE oS=>?_
  exists zl3,fun li hli=>?_
  have G4:=G3.new hli (.lst [V.int 2,V.int 3,V.int 99]);exists _,rfl,tp,3,rfl,G4.t,by decide,by decide,fun v5 H5 a0 a1 x5 t5 y5=>?_
  obtain ⟨dn,Iv,m1,m2,m3⟩:=d3 a0 a1;exists li,_,_,_,rfl,rfl,SqL.of (x5 _ _ (G3.t.nt hli) ac),Iv,zl3,fun p hp=>?_
  have G5:Go tp H3 H5:=((Go.refl G3.t).new hli (.lst [V.int 2,V.int 3,V.int 99])).trans ⟨x5,t5,y5⟩;have C9:=rK.mono ((G5.tk G3.t).trans (aR hp (.tup [.str rM,u1,.int dn])));have nn:=(eV (m:=8+2*d) ((wd "times" ()).up (Xj _)) oS ((nI m1).up (Xj _)));rcases hw with rfl | rfl
  ·refine q (.ref p) (.div e1 dn) _ ((G3.trans G5).new hp _) (.tup (.inl ac) (.cons (.str _) (.cons C9 (.cons (.int _) .nil)))) ⟨rfl,⟨m1,m2,m3⟩,ox⟩ lE ?_;exact (eV ((wd "div" ()).up (Xj _)) oS ((nI m1).up (Xj _))).mono (by omega) (by rw [bmS]; omega)
  ·refine q (.ref p) (.rest e1 dn) _ ((G3.trans G5).new hp _) (.tup (.inl ac) (.cons (.str _) (.cons C9 (.cons (.int _) .nil)))) ⟨rfl,⟨m1,m2,m3⟩,ox⟩ lE ?_;exact (eV ((wd "rest" ()).up (Xj _)) oS ((nI m1).up (Xj _))).mono (by omega) (by rw [bmS]; omega)
 exists _,rfl,_,rfl,zl2,fun lk hlk=>?_
 have G2:=G1.new hlk (.lst ((["row", "text"]:List Str).map V.str));exists _,rfl,tp,2,rfl,G2.t,by decide,by decide,fun v3 H3 a0 a1 x3 t3 y3=>?_
 obtain ⟨kk,hat,hkk⟩:=wrt a0 a1;have G3:=G2.trans ⟨x3,t3,y3⟩;have kkS:kk∈KS R:=by rcases hkk with rfl | rfl; exact kRow; exact kText
 exists lk,_,_,_,rfl,rfl,SqL.of (x3 _ _ (G1.t.nt hlk) ac),hat,_,rfl,_,_,rfl,rfl,callE G3 kkS fun u1 e1 H4 RW G4 rK ox lE oS=>?_
 have orow:Ok R Vs e1 "row"\/Ok R Vs e1 "text":=by rcases hkk with rfl | rfl; exact .inl ox; exact .inr ox
 have len:∀ p,H4 p=none->Q (.ref p) (upd H4 p (.tup [.str "len",u1])):=fun p hp=>by
  refine q (.ref p) (.len e1) _ (G4.new hp _) (.tup (.inl ac) (.cons (.str _) (.cons (rK.mono (aR hp _)) .nil))) ⟨rfl,orow⟩ lE ?_;exact (ld ((wd "len" ()).up (Xj _)) oS).mono (by omega) (by rw [bmS]; omega)
 exists _,rfl,rfl,_,rfl,?_;refine au (fun c3=>dO ⟨_,rfl,zl2,len⟩) (fun c3=>?_);exists _,rfl,kd,_,_,_,rfl,rfl,G4.x _ _ kt hkd,rfl,_,rfl,?_;refine au (fun c4=>⟨_,rfl,zl2,len⟩) (fun c4=>?_);have hb:b=true:=by
  cases b with
  | true=>rfl
  | false=>exact absurd rfl c4
 exists _,rfl,_,rfl,_,rfl,_,rfl,_,_,rfl,rfl,callE G4 kNum fun u2 e2 H5 Ey G5 yj uS wO wL=>⟨zl3,fun p hp=>?_⟩
 refine q (.ref p) (.at_ e1 e2) _ (G5.new hp _) (.tup (.inl ac) (.cons (.str _) (.cons (rK.mono ((Ey.tk G4.t).trans (aR hp _))) (.cons (yj.mono (aR hp _)) .nil)))) ⟨rfl,orow,uS⟩ (fun z=>by rw [hb] at z; cases z) ?_;exact (eV ((wd "at" ()).up (Xj _)) oS wL).mono (by omega) (by rw [bmS]; omega)
abbrev CY:List Str:=["_law_tape_here", "_law_kit_here", "_law_deep", "_law_way", "_law_row_here", "_law_place"]
abbrev q9:List Str:=["_law_k", "_law_tape_here", "_law_kit_here", "_law_deep"]
theorem xq:q9.Nodup:=()
theorem kQ:aA CY ["_law_tape_here", "_law_kit_here", "_law_deep"] (defScope lj):=ZU 0
theorem Mh {d:Nat} (T:G0 mg) (F:Zc "_law_row" lj) (aF:Za 1 "_law_draw" dP bS) (dA:Za (2*d+6) "_law_e" pEx (spE K d)) :
  Zb (2*d+7) pTx (spT K "row" d):=by
 refine ZR F kQ
 ·obtain ⟨tp,kd,R,HS,Vs,gv,n,b,rfl,_⟩:=h
  rfl
 obtain ⟨tp,kd,R,HS,Vs,gv,n,b,rfl,ht,bn,env,q⟩:=h;have kNum:Xx "num"∈KS R:=XD _ (by decide);have kText:Xx "text"∈KS R:=XD _ (by decide);have kRow:Xx "row"∈KS R:=XD _ (by decide);have yq:((d:Int)+1 - 1)=(d:Int):=by omega
 have callE:∀ {H1:Hp} {k:Str} {Q':VK},Go tp H H1->k∈KS R->(∀ u e H2,Go tp H1 H2->Go tp H H2->DT K H2 u e.d->Ok R Vs e k->(b=false->e.na=true)->a9 (8+2*d) (bm d) e.d->Q' u H2)->spE K d [.ref tp,.ref kd,.str k,.int ((d:Int)+1 - 1)] H1 Q' E0 :=
  fun {H1 k Q'} G1 hk q'=>⟨tp,kd,k,R,HS,Vs,gv,n,b,by rw [yq],G1.t,bn.go ht G1,env,hk,fun u e H2 G2 a1 a2 a3 a4=>q' u e H2 G2 (G1.trans G2) a1 a2 a3 a4⟩
 exists _,(Z2 (ZA 3 kQ.nd (Z6 aF (Z1 (pv 0) (Z0 af)))) (Z2 (ZB (Z8 aJ (pv 3) af) (Z3 (Z7 (ZF (Z1 ag (Z0 (Z6 dA (Z1 (pv 0) (Z1 (pv 1) (Z1 ag (Z0 (ZE bi (pv 2) af)))))))))))) (Z2 (ZB (Z8 aJ (pv 3) af) (Z3 (Z7 (ZF (Z1 ag (Z0 (ZK aH T.tuple bU (Z0 (bF (N':=q9) (ρ:=[none,some 0,some 1,some 2]) (m:=1) (bL.of (fs:=defScope lj) (N:=CY) rfl rfl ()) rfl (el rfl T.range (ak (dD aF (hr.mono (by omega)) rfl (ak (pv 0) (ak af aq))) aq)) (fun _ _ _ _=>(ZO 0 xq)) (fun _ _ _ _=>bH) (fun _ _ _ _=>(dD dA (hr.mono (by omega)) rfl (ak (pv 1) (ak (pv 2) (ak ag (ak (cu bi (pv 3) af) aq))))))))))))))) (Z2 (ZA 4 kQ.nd (Z6 dA (Z1 (pv 0) (Z1 (pv 1) (Z1 ag (Z0 (ZE bi (pv 2) af))))))) (Z2 (ZB (PW.pt (cK (Z8 aJ (pv 3) af) (cm (dI (di (Z5 cw (pv 1) ag)))))) (Z3 (Z7 (ZF (Z1 ag (Z1 (pv 4) (Z0 (Z6 dA (Z1 (pv 0) (Z1 (pv 1) (Z1 ag (Z0 (ZE bi (pv 2) af))))))))))))) (Z2 (ZA 5 kQ.nd (Z6 dA (Z1 (pv 0) (Z1 (pv 1) (Z1 ag (Z0 (ZE bi (pv 2) af))))))) (Z3 (Z7 (ZF (Z1 ag (Z1 (pv 4) (Z1 (pv 5) (Z0 (Z6 dA (Z1 (pv 0) (Z1 (pv 1) (Z1 ag (Z0 (ZE bi (pv 2) af))))))))))))))))))),?_;show let v1:L2.TS:=_; let v2:=am _ v1; let v3:L2.TS:=_; let v4:=am (bf _ v3 _) v2; let v5:=am _ v4; let v6:L2.TS:=_; let v7:=am (bf _ v6 _) v5; let v8:L2.TS:=_; let v9:=am (bf _ v8 _) v7; (am _ v9) _ _ _;intro v1 v2 v3 v4 v5 v6 v7 v8 v9;have bp:=u7 d;have kt:=bn.ne ht;obtain ⟨v,hl,vl,hkd,KD⟩:=id bn;exists _,rfl,tp,4,rfl,ht,by decide,by decide,fun way H1 w0 w1 x1 t1 y1=>?_
 have G1:Go tp H H1:=⟨x1,t1,y1⟩;exists _,rfl,rfl,_,rfl,?_;refine au (fun c1=>?_) (fun c1=>?_)
 ·exists _,rfl,_,rfl,_,rfl,_,_,rfl,rfl,callE G1 kText fun u1 e1 H3 TU G3 rK ox lE oS=>⟨zl2,fun p hp=>?_⟩
  refine q (.ref p) (.signs e1) _ (G3.new hp _) (.tup (.inl ac) (.cons (.str _) (.cons (rK.mono (aR hp _)) .nil))) ⟨rfl,ox⟩ lE ?_;exact (ld ((wd "signs" ()).up (Xj _)) oS).mono (by omega) (by rw [bmS]; omega)
 exists _,rfl,rfl,_,rfl,?_;refine au (fun c2=>?_) (fun c2=>?_)
 ·exists _,rfl,tp,3,rfl,t1,by decide,by decide,fun v3 H3 a0 a1 x3 t3 y3=>?_
  have G3:=G1.trans ⟨x3,t3,y3⟩;exists _,rfl,by omega,by omega,iz v3.toNat (by omega) (fun j ar H'=>Go tp H3 H'/\∃ es:List E,DTs K H' ar (E.ds es)/\es.length=j/\OkN R Vs es/\(b=false->E.nas es=true)/\∀ e∈es,a9 (8+2*d) (bm d) e.d) ⟨Go.refl t3,[],by simp only [E.ds]; exact .nil,rfl,by simp only [OkN],fun _=>by simp only [E.nas],fun _ z=>nomatch z⟩ (fun j ar H' hj la p=>?_) (fun ar H' p la D hD=>?_)
  ·obtain ⟨G4,es,des,les,oks,nas,ns⟩:=p;exists ⟨rfl,rfl⟩,bA ⟨_,rfl,_,rfl,_,rfl,_,_,rfl,rfl,callE (G3.trans G4) kNum fun u1 e1 H5 Ey G5 rK ox lE oS=>nxT (by omega) hj la ⟨G4.trans Ey,es++[e1],?_,by simp [les],OkN.snoc ox oks,fun z=>E.nas_snoc (lE z) (nas z),fun y hy=>?_⟩⟩
   ·rw [E.ds_snoc];exact DTs.snoc rK (des.mono (Ey.tk G4.t))
   ·rcases Xm.mp hy with hy | hy
    ·exact ns y hy
    ·rw [Xi.mp hy]; exact oS
  ·obtain ⟨G4,es,des,les,oks,nas,ns⟩:=p;have l2:es.length<=2:=by omega
   exists D,_,rfl,.inl ⟨SqL.of ac,fun l ou=>⟨zl2,fun p hp=>?_⟩⟩;have sA:=(ad hD (.lst ar)).trans (ad ou (.tup ar));have sB:=ad hp (.tup [.str "rows",.ref l]);have G5:=(G3.trans G4).trans (Go.same G4.t (sA.trans sB));refine q (.ref p) (.rows es) _ G5 (.tup (.inl ac) (.cons (.str _) (.cons (.tup (.inl (sB _ _ ac)) (des.mono (ao (sA.trans sB)))) .nil))) ⟨rfl,by omega,oks⟩ nas ?_;have nt:=(kI ns).tup;have h1:es.length*(bm d+2)<=2*(bm d+2):=X0 _ l2;exact (ld ((wd "rows" ()).up (Xj _)) nt).mono (by omega) (by rw [bmS]; omega)
 exists _,rfl,_,rfl,_,rfl,_,_,rfl,rfl,callE G1 kRow fun u1 e1 H4 RW G4 rK ox lE oS=>?_
 have more:∀ u2 e2 H5,Go tp H4 H5->Go tp H H5->DT K H5 u2 e2.d->Ok R Vs e2 "num"->(b=false->e2.na=true)->a9 (8+2*d) (bm d) e2.d->∀ p,H5 p=none->Q (.ref p) (upd H5 p (.tup [.str "more",u1,u2])):=fun u2 e2 H5 Ey G5 yj uS wO wL p hp=>by
  refine q (.ref p) (.more e1 e2) _ (G5.new hp _) (.tup (.inl ac) (.cons (.str _) (.cons (rK.mono ((Ey.tk G4.t).trans (aR hp _))) (.cons (yj.mono (aR hp _)) .nil)))) ⟨rfl,ox,uS⟩ (fun z=>by simp only [E.na,lE z,wO z,YN]) ?_;exact (eV ((wd "more" ()).up (Xj _)) oS wL).mono (by omega) (by rw [bmS]; omega)
 exists _,rfl,rfl,_,rfl,?_;refine au (fun c3=>dO ⟨_,rfl,_,rfl,_,rfl,_,rfl,_,_,rfl,rfl,callE G4 kNum fun u2 e2 H5 Ey G5 yj uS wO wL=>⟨zl3,more u2 e2 H5 Ey G5 yj uS wO wL⟩⟩) (fun c3=>?_);exists _,rfl,kd,_,_,_,rfl,rfl,G4.x _ _ kt hkd,rfl,_,rfl,?_;refine au (fun c4=>⟨_,rfl,_,rfl,_,rfl,_,rfl,_,_,rfl,rfl,callE G4 kNum fun u2 e2 H5 Ey G5 yj uS wO wL=>⟨zl3,more u2 e2 H5 Ey G5 yj uS wO wL⟩⟩) (fun c4=>?_);have hb:b=true:=by
  cases b with
  | true=>rfl
  | false=>exact absurd rfl c4
 exists _,rfl,_,rfl,_,rfl,_,_,rfl,rfl,callE G4 kNum fun u2 e2 H5 Ey G5 yj uS wO wL=>?_
 exists _,rfl,_,rfl,_,rfl,_,rfl,_,rfl,_,_,rfl,rfl,callE G5 kNum fun u3 e3 H6 TQ G6 UF U0 Wn VO=>⟨zl4,fun p hp=>?_⟩
 refine q (.ref p) (.put e1 e2 e3) _ (G6.new hp _) (.tup (.inl ac) (.cons (.str _) (.cons (rK.mono (((Ey.trans TQ).tk G4.t).trans (aR hp _))) (.cons (yj.mono ((TQ.tk G5.t).trans (aR hp _))) (.cons (UF.mono (aR hp _)) .nil))))) ⟨rfl,ox,uS,U0⟩ (fun z=>by rw [hb] at z; cases z) ?_;exact (B9 ((wd "put" ()).up (Xj _)) oS wL VO).mono (by omega) (by rw [bmS]; omega)
end
open PySem L2
theorem LE:∀ d:Nat,bm 0<=bm d
 | 0=>Xc _
 | d+1=>by have:=LE d; rw [show bm (d+1)=3*bm d+60 from rfl]; omega
noncomputable def PO (R:List Rec) (k:Str) (p:Fld):Prop:=p.1∈R.map (·.1)/\(p.2,k)∈look R p.1
section
variable {P:Program} {w:World} {K:Frag} {mg:Str->Option Value} {base:Heap} {f g:Addr} {fd gd:FuncData}
theorem ky {k:Nat} {ps:List Str} {sp:Sp} (no:∀ vs H Q E,¬ sp vs H Q E):eI P w K mg base CX0 k f fd ps sp :=
 ⟨fun vs H Q E h=>absurd h (no vs H Q E),fun A outer s H args us vs Q E _ _ _ _ h=>absurd h (no vs H Q E)⟩
abbrev xG:List Str:=["_law_tape_here", "_law_kit_here", "_law_kind_here", "_law_deep", "_law_some", "_law_name", "_law_fields", "_law_field", "_law_own"]
abbrev qt:List Str:=["_law_record", "_law_kind_here"]
theorem tV:qt.Nodup:=()
abbrev pX:List Str:=["_law_field", "_law_own", "_law_kind_here", "_law_name"]
theorem jk:pX.Nodup:=()
theorem cY:aA xG ["_law_tape_here", "_law_kit_here", "_law_kind_here", "_law_deep"] (defScope kJ):=ZU 0
theorem N2 {r1 r2 r3:Nat} (h1:r1<=5) (h2:r2<=5) (h3:r3<=5) (T:G0 mg) (F:Zc "_law_e" kJ) (aF:Za 1 "_law_draw" dP bS) (d5:Za 5 "_law_leaf" pLf (ip K 4)) (dA:Cal P w K mg base r1 "_law_e" pEx (fun _ _ _ _=>False)) (wC:Cal P w K mg base r2 "_law_num" pTx (fun _ _ _ _=>False)) (wG:Cal P w K mg base r3 "_law_row" pTx (fun _ _ _ _=>False)) :
  Zb 6 pEx (spE K 0):=by
 refine ZR F cY
 ·obtain ⟨tp,kd,k,R,HS,Vs,gv,n,b,rfl,_⟩:=h
  rfl
 obtain ⟨tp,kd,k,R,HS,Vs,gv,n,b,rfl,ht,bn,env,hk,q⟩:=h;exists _,(Z2 (ZB (PW.pt (cK (Z8 aJ (pv 3) af) (cm (Z8 aJ (Z6 aF (Z1 (pv 0) (Z0 af))) af)))) (Z3 (Z7 (Z6 d5 (Z1 (pv 0) (Z1 (pv 1) (Z0 (pv 2)))))))) (Z2 (ZA 4 cY.nd (ZD aq)) (Z2 (ZM (bI (Z5 cw (pv 1) ag)) (ff rfl (aE (dS (i:=5) cY.nd rfl (Yz rfl)) (aE (ZO 6 cY.nd) b9))) (Z3 (ZL (ZH Xw XJ XM dm (pv 4) (Z0 (bF (N':=pX) (ρ:=[none,none,some 2,some 5]) (m:=2) (bL.of (fs:=defScope kJ) (N:=xG) rfl rfl ()) rfl (bI (pv 6)) (fun _ _ _ _=>(jh (n:=2) (K:=K) rfl rfl (aE (ZO 0 jk) (aE (ZO 1 jk) b9)))) (fun _ _ _ _=>(ie (c7 aJ (pv 1) (pv 2) (cZ _)))) (fun _ _ _ _=>(mq (ak (pv 3) (ak (pv 0) aq)))))))))) (Z2 (ZB (PW.pt (gO (Z8 (hV hr.units0) (pv 4) (ZD aq)) (fB (Z8 aJ (Z6 aF (Z1 (pv 0) (Z0 af))) af)))) (Z2 (@gJ _ _ _ _ _ _ (Z5 aD (pv 4) (Z6 aF (Z1 (pv 0) (Z0 (ZI (Z0 (pv 4))))))) (ff rfl (aE (dS (i:=5) cY.nd rfl (Yz rfl)) (aE (ZO 7 cY.nd) b9))) rfl rfl rfl) (Z3 (Z7 (ZF (Z1 ag (Z1 (Z6 dA (Z1 (pv 0) (Z1 (pv 1) (Z1 (pv 5) (Z0 (ZE bi (pv 3) af)))))) (Z0 (pv 7))))))))) (Z2 (ZB (Z8 aJ (pv 2) ag) (Z3 (Z7 (Z6 wC (Z1 (pv 0) (Z1 (pv 1) (Z0 (pv 3)))))))) (Z2 (ZB (Z8 aJ (pv 2) ag) (Z3 (Z7 (Z6 wG (Z1 (pv 0) (Z1 (pv 1) (Z0 (pv 3)))))))) (Z2 (iB (i:=6) (N':=qt) (ρ:=[none,some 2]) (m:=1) (bL.of (fs:=defScope kJ) (N:=xG) rfl rfl ()) cY.nd rfl (Yi rfl) rfl (bI (aZ cw (pv 1) ag (fun _ _=>rfl))) (fun _ _ _ _=>(ZO 0 tV)) (fun _ _ _ _=>(ie (c7 aJ (aZ (eP (K:=K) rfl) (pv 0) af (fun _ _=>rfl)) (pv 1) (cZ _)))) (fun _ _ _ _=>(aZ (eP (K:=K) rfl) (pv 0) af (fun _ _=>rfl)))) (Z2 (ZB (Z8 (w4 hr.units0) (pv 6) (ZD aq)) (Z3 (Z7 (Z6 d5 (Z1 (pv 0) (Z1 (pv 1) (Z0 (pv 2)))))))) (Z2 (@gJ _ _ _ _ _ _ (Z5 cV (Z5 aD (pv 6) af) (Z6 aF (Z1 (pv 0) (Z0 (ZI (Z0 (Z5 aD (pv 6) af))))))) (ff rfl (aE (ZO 7 cY.nd) (aE (ZO 8 cY.nd) b9))) rfl rfl rfl) (Z3 (Z7 (ZF (Z1 ag (Z1 (Z6 dA (Z1 (pv 0) (Z1 (pv 1) (Z1 (pv 2) (Z0 (ZE bi (pv 3) af)))))) (Z1 (pv 7) (Z0 (Z6 dA (Z1 (pv 0) (Z1 (pv 1) (Z1 (pv 8) (Z0 (ZE bi (pv 3) af)))))))))))))))))))))),?_;show let v1:L2.TS:=_; let v2:=am _ v1; let v3:L2.TS:=_; let v4:=am (bf _ v3 _) v2; let v5:=am _ v4; let v6:L2.TS:=_; let v7:=am (bf _ v6 _) v5; let v8:L2.TS:=_; let v9:=am (bf _ v8 _) v7; let oK:L2.TS:=_; let wN:=am _ oK; let ym:=am (bf _ wN _) v9; let IH:L2.TS:=_; let IL:=am (gW _ _ IH) ym; let IK:=am _ IL; let IE:L2.TS:=_; (am (bf _ IE _) IK) _ _ _;intro v1 v2 v3 v4 v5 v6 v7 v8 v9 oK wN ym IH IL IK IE;exists _,rfl,rfl,_,rfl,?_;refine au (fun c1=>dO ⟨_,rfl,_,rfl,_,rfl,tp,kd,k,R,HS,Vs,gv,n,b,rfl,ht,bn,env,vd env.g env.rl k hk,fun u e H' G a1 a2 a3 a4=>q u e H' G a1 a2 (fun _=>a3) a4⟩) (fun c1=>absurd (by decide) c1)
theorem QO {d:Nat} (T:G0 mg) (F:Zc "_law_e" kJ) (aF:Za 1 "_law_draw" dP bS) (d5:Za 5 "_law_leaf" pLf (ip K 4)) (dA:Za (2*d+6) "_law_e" pEx (spE K d)) (wC:Za (2*d+7) "_law_num" pTx (spT K "num" d)) (wG:Za (2*d+7) "_law_row" pTx (spT K "row" d)) :
  eI P w K mg base CX0 (2*(d+1)+6) f fd pEx (spE K (d+1)):=by
 refine ZR F cY
 ·obtain ⟨tp,kd,k,R,HS,Vs,gv,n,b,rfl,_⟩:=h
  rfl
 obtain ⟨tp,kd,k,R,HS,Vs,gv,n,b,rfl,ht,bn,env,hk,q⟩:=h;have yq:(((d+1:Nat):Int) - 1)=(d:Int):=by omega
 have Iy:((d+1:Nat):Int)=(d:Int)+1:=by omega
 have callE:∀ {H1:Hp} {k:Str} {Q':VK},Go tp H H1->k∈KS R->(∀ u e H2,Go tp H1 H2->Go tp H H2->DT K H2 u e.d->Ok R Vs e k->(b=false->e.na=true)->a9 (8+2*d) (bm d) e.d->Q' u H2)->spE K d [.ref tp,.ref kd,.str k,.int (((d+1:Nat):Int) - 1)] H1 Q' E0 :=
  fun {H1 k Q'} G1 hk q'=>⟨tp,kd,k,R,HS,Vs,gv,n,b,by rw [yq],G1.t,bn.go ht G1,env,hk,fun u e H2 G2 a1 a2 a3 a4=>q' u e H2 G2 (G1.trans G2) a1 a2 a3 a4⟩
 have leaf:∀ {H1:Hp},Go tp H H1->ip K 4 [.ref tp,.ref kd,.str k] H1 Q E0:=fun {H1} G1 =>
  ⟨tp,kd,k,R,HS,Vs,gv,n,b,rfl,G1.t,bn.go ht G1,env,vd env.g env.rl k hk,fun u e H' G a1 a2 a3 a4=>q u e H' (G1.trans G) a1 a2 (fun _=>a3) (a4.mono (by omega) (LE (d+1)))⟩
 exists _,(Z2 (ZB (PW.pt (cK (Z8 aJ (pv 3) af) (cm (Z8 aJ (Z6 aF (Z1 (pv 0) (Z0 af))) af)))) (Z3 (Z7 (Z6 d5 (Z1 (pv 0) (Z1 (pv 1) (Z0 (pv 2)))))))) (Z2 (ZA 4 cY.nd (ZD aq)) (Z2 (ZM (bI (Z5 cw (pv 1) ag)) (ff rfl (aE (dS (i:=5) cY.nd rfl (Yz rfl)) (aE (ZO 6 cY.nd) b9))) (Z3 (ZL (ZH Xw XJ XM dm (pv 4) (Z0 (bF (N':=pX) (ρ:=[none,none,some 2,some 5]) (m:=2) (bL.of (fs:=defScope kJ) (N:=xG) rfl rfl ()) rfl (bI (pv 6)) (fun _ _ _ _=>(jh (n:=2) (K:=K) rfl rfl (aE (ZO 0 jk) (aE (ZO 1 jk) b9)))) (fun _ _ _ _=>(ie (c7 aJ (pv 1) (pv 2) (cZ _)))) (fun _ _ _ _=>(mq (ak (pv 3) (ak (pv 0) aq)))))))))) (Z2 (ZB (PW.pt (gO (Z8 (hV hr.units0) (pv 4) (ZD aq)) (fB (Z8 aJ (Z6 aF (Z1 (pv 0) (Z0 af))) af)))) (Z2 (@gJ _ _ _ _ _ _ (Z5 aD (pv 4) (Z6 aF (Z1 (pv 0) (Z0 (ZI (Z0 (pv 4))))))) (ff rfl (aE (dS (i:=5) cY.nd rfl (Yz rfl)) (aE (ZO 7 cY.nd) b9))) rfl rfl rfl) (Z3 (Z7 (ZF (Z1 ag (Z1 (Z6 dA (Z1 (pv 0) (Z1 (pv 1) (Z1 (pv 5) (Z0 (ZE bi (pv 3) af)))))) (Z0 (pv 7))))))))) (Z2 (ZB (Z8 aJ (pv 2) ag) (Z3 (Z7 (Z6 wC (Z1 (pv 0) (Z1 (pv 1) (Z0 (pv 3)))))))) (Z2 (ZB (Z8 aJ (pv 2) ag) (Z3 (Z7 (Z6 wG (Z1 (pv 0) (Z1 (pv 1) (Z0 (pv 3)))))))) (Z2 (iB (i:=6) (N':=qt) (ρ:=[none,some 2]) (m:=1) (bL.of (fs:=defScope kJ) (N:=xG) rfl rfl ()) cY.nd rfl (Yi rfl) rfl (bI (aZ cw (pv 1) ag (fun _ _=>rfl))) (fun _ _ _ _=>(ZO 0 tV)) (fun _ _ _ _=>(ie (c7 aJ (aZ (eP (K:=K) rfl) (pv 0) af (fun _ _=>rfl)) (pv 1) (cZ _)))) (fun _ _ _ _=>(aZ (eP (K:=K) rfl) (pv 0) af (fun _ _=>rfl)))) (Z2 (ZB (Z8 (w4 hr.units0) (pv 6) (ZD aq)) (Z3 (Z7 (Z6 d5 (Z1 (pv 0) (Z1 (pv 1) (Z0 (pv 2)))))))) (Z2 (@gJ _ _ _ _ _ _ (Z5 cV (Z5 aD (pv 6) af) (Z6 aF (Z1 (pv 0) (Z0 (ZI (Z0 (Z5 aD (pv 6) af))))))) (ff rfl (aE (ZO 7 cY.nd) (aE (ZO 8 cY.nd) b9))) rfl rfl rfl) (Z3 (Z7 (ZF (Z1 ag (Z1 (Z6 dA (Z1 (pv 0) (Z1 (pv 1) (Z1 (pv 2) (Z0 (ZE bi (pv 3) af)))))) (Z1 (pv 7) (Z0 (Z6 dA (Z1 (pv 0) (Z1 (pv 1) (Z1 (pv 8) (Z0 (ZE bi (pv 3) af)))))))))))))))))))))),?_;show let v1:L2.TS:=_; let v2:=am _ v1; let v3:L2.TS:=_; let v4:=am (bf _ v3 _) v2; let v5:=am _ v4; let v6:L2.TS:=_; let v7:=am (bf _ v6 _) v5; let v8:L2.TS:=_; let v9:=am (bf _ v8 _) v7; let oK:L2.TS:=_; let wN:=am _ oK; let ym:=am (bf _ wN _) v9; let IH:L2.TS:=_; let IL:=am (gW _ _ IH) ym; let IK:=am _ IL; let IE:L2.TS:=_; (am (bf _ IE _) IK) _ _ _;intro v1 v2 v3 v4 v5 v6 v7 v8 v9 oK wN ym IH IL IK IE;have bp:=u7 d;have kt:=bn.ne ht;obtain ⟨v,hl,vl,hkd,KD⟩:=id bn;obtain ⟨bR,rxs,rfl,hbR,rs⟩:=KD.rs;have lrx:rxs.length<=3:=by rw [Paired.length rs]; exact env.rl
 exists _,rfl,rfl,_,rfl,?_;refine au (fun c1=>absurd (V.int.inj (of_decide_eq_true c1)) (by omega)) (fun c1=>?_);exists _,rfl,tp,3,rfl,ht,by decide,by decide,fun v1 H1 _ _ x1 t1 y1=>⟨rfl,_,rfl,?_⟩
 have G1:Go tp H H1:=⟨x1,t1,y1⟩;refine au (fun c2=>⟨_,rfl,_,rfl,_,rfl,leaf G1⟩) (fun c2=>?_);exists zl0,fun sl hsl=>?_
 have G2:=G1.new hsl (.lst []);have hst:sl≠tp:=t1.nt hsl;have Rl:H sl=none:=G1.free ht hsl;have MU:=G2.x _ _ kt hkd;have Qg:=G2.tk ht _ _ hbR;have Sv:(upd H1 sl (.lst [])) sl=some (.lst []):=ac;have hks:kd≠sl:=ay hkd Rl;refine ⟨_,rfl,kd,_,_,_,rfl,rfl,MU,rfl,bR,rfl,⟨rxs,SqT.of Qg⟩,fH (xs:=rxs) (fun i σ H'=>∃ m5 m6 ys fs,σ=[some (.ref tp),some (.ref kd),some (.str k),some (.int ((d+1:Nat):Int)),some (.ref sl),m5,m6,none,none]/\Ext sl (upd H1 sl (.lst [])) H'/\H' sl=some (.lst ys)/\Paired (b8 H') ys fs/\(∀ p∈fs,PO R k p)/\ys.length<=3*i)
   ⟨none,none,[],[],rfl,Ext.refl _ _,Sv,.nil,(fun _ z=>nomatch z),by simp⟩ (fun i σ H' _ p=>?_) (fun i x σ H' hx p=>?_) (fun σ H' p=>?_)⟩
 ·obtain ⟨_,_,_,_,_,x3,_⟩:=p;exact SqT.of (CQ x3 Sv _ _ Qg)
 ·obtain ⟨m5,m6,ys,fs,rfl,x3,hys,pfs,ofs,lys⟩:=p;have k3:=(G2.tk ht).trans (CQ x3 Sv);obtain ⟨r,Lb,hra⟩:=aG rs i x hx;obtain ⟨c,y,rfl,hc,b2,fx,rfl,uR,ffs⟩:=hra.mono k3;have rm:=Xh Lb;have i3:i<3:=by have:=(Xv.mp Lb).1; have:=env.rl; omega
  have lfx:fx.length<=3:=by rw [Paired.length ffs]; exact (ck env.g rm).2.1.1.2
  exists c,_,rfl,SqT.of hc,rfl,_,_,rfl,_,_,rfl,rfl,?_;exists _,rfl,.inl ⟨rfl,_,SqL.of hys⟩,_,rfl,b2,rfl,⟨fx,SqT.of uR⟩,cF (xs:=fx) fx.length rfl (by omega) (fun j ar H2=>av H' H2/\∃ gs:List Fld,Paired (b8 H2) ar gs/\∀ p∈gs,p.1=r.1/\(p.2,k)∈r.2) ⟨av.refl _,[],.nil,fun _ z=>nomatch z⟩ (fun j ar H2 p=>SqT.of (p.1 _ _ uR)) (fun j ar H2 x hj la hx p=>?_) (fun ar H2 p la D hD=>?_)
  ·obtain ⟨g2,gs,pgs,ogs⟩:=p;obtain ⟨fl,hfl,cf,rfl,hcf⟩:=aG ffs j x hx;exists cf,_,rfl,SqT.of (g2 _ _ hcf),rfl,_,_,rfl,_,_,rfl,rfl,⟨rfl,rfl⟩,⟨_,rfl,_,rfl,rfl,_,rfl,?_⟩;refine au (fun d1=>?_) (fun d1=>nxF hj la ⟨g2,gs,pgs,ogs⟩);exists _,rfl,_,rfl,zl2,fun pp hpp=>nxT (by omega) hj la ⟨g2.trans (ad hpp _),gs++[(r.1,fl.1)],Paired.snoc (Paired.mapP pgs fun _ _ z=>z.mono (aR hpp _)) ⟨pp,rfl,ac⟩,fun z hz=>?_⟩
   rcases Xm.mp hz with hz | hz
   ·exact ogs z hz
   ·rw [Xi.mp hz];exists rfl,?_
    have:=Xh hfl
    rw [<- eqS d1];exact this
  ·obtain ⟨g2,gs,pgs,ogs⟩:=p;have gD:=ad hD (.lst ar);have IM:=(g2.trans gD) _ _ hys;have kL:=aW IM (.lst (ys++ar));exists sl,D,ys,ar,rfl,rfl,IM,ac,XI (ap (by omega)),_,_,ys++ar,fs++gs,rfl,(x3.trans (av.ext (g2.trans gD))).trans Ext.upd,ac,?_,fun p hp=>?_,by rw [W7]; omega
   ·exact Paired.app' (Paired.mapP pfs fun _ _ z=>z.mono ((ao (g2.trans gD)).trans kL)) (Paired.mapP pgs fun _ _ z=>z.mono ((ao gD).trans kL))
   ·rcases Xm.mp hp with hp | hp
    ·exact ofs p hp
    ·obtain ⟨e1,e2⟩:=ogs p hp;exists by rw [e1]; exact Xr.mpr ⟨r,rm,rfl⟩,?_
     rw [e1,kF env.nd r rm];exact e2
 obtain ⟨m5,m6,ys,fs,rfl,x3,hys,pfs,ofs,lys⟩:=p;have G3:Go tp H H':=by
  obtain ⟨sc,kk,rr,ns,a1,a2⟩:=id G2.t;have hsc:sc≠sl:=fun z=>by
   obtain ⟨UZ,k',r',W1,b1,b2⟩:=id ht;obtain ⟨k2,r2,b3⟩:=G2.y UZ k' r' b1;rw [b3] at a1;cases a1;exact ay b2 Rl z
  exists fun bb o hn hb=>x3 _ _ (ay hb Rl) (G2.x _ _ hn hb),⟨sc,kk,rr,ns,x3 _ _ hst.symm a1,x3 _ _ hsc a2⟩,fun IN k2 r2 e2=>?_
  obtain ⟨k3,r3,e3⟩:=G2.y IN k2 r2 e2;exists k3,r3,x3 _ _ hst.symm e3
 have Wb:ys.length<=9:=by omega
 dsimp only;refine kg (fun σ H4=>∃ m5 m7,σ=[some (.ref tp),some (.ref kd),some (.str k),some (.int ((d+1:Nat):Int)),some (.ref sl),m5,m6,m7,none]/\Go tp H H4) (fun NX hNX=>?_) (fun σ H4 jj=>?_)
 ·exists _,rfl,zl0,fun pe hpe=>?_
  have G4:=G3.new hpe (.lst []);have PP:=ad hpe (.lst []) _ _ hys;exists sl,pe,_,rfl,rfl,SqL.of PP,SqL.of ac,_,rfl,?_;refine au (fun c3=>?_) (fun c3=>hNX _ _ ⟨_,_,rfl,G4⟩);have yp:0<ys.length:=by
   cases ys with
   | nil=>exact absurd c3 (by decide)
   | cons _ _=>simp
  exists _,rfl,tp,4,rfl,G4.t,by decide,by decide,fun v5 H5 _ _ x5 t5 y5=>⟨rfl,_,rfl,?_⟩
  have G5:=G4.trans ⟨x5,t5,y5⟩;refine au (fun c4=>?_) (fun c4=>hNX _ _ ⟨_,_,rfl,G5⟩);have SB:=x5 _ _ hst PP;exists _,rfl,_,rfl,_,rfl,sl,_,rfl,.inl (SqL.of SB),tp,_,rfl,t5,by omega,by omega,fun v6 H6 f0 f1 x6 t6 y6=>?_
  have G6:=G5.trans ⟨x6,t6,y6⟩;obtain ⟨u,hu,B5,B6⟩:=dX (xs:=ys) (i:=v6) f0 f1;obtain ⟨pr,hpr,hpa⟩:=aG pfs _ u B5;have k6:Tk H' H6:=(aR hpe _).trans (fun bb zs e=>x6 _ _ (t5.ne (x5 _ _ (G4.t.ne e) e)) (x5 _ _ (G4.t.ne e) e));obtain ⟨cp,rfl,hcp⟩:=hpa.mono k6;obtain ⟨o1,o2⟩:=ofs pr (Xh hpr);exists sl,_,_,_,rfl,rfl,SqL.of (x6 _ _ hst SB),B6,cp,_,rfl,SqT.of hcp,rfl,_,_,rfl,_,_,rfl,rfl,?_;exists _,rfl,_,rfl,_,rfl,_,rfl,_,_,rfl,rfl,callE G6 (Xy _ o1) fun u1 e1 H7 WY G7 rK ox lE oS=>⟨_,rfl,zl3,fun p hp=>?_⟩
  obtain ⟨r0,jA,MZ⟩:=Xr.mp o1;have pP:pr.2∈bg:=by
   have e2:=o2;rw [<- MZ,kF env.nd r0 jA] at e2;exact (ck env.g jA).2.1.2.2 _ e2
  refine q (.ref p) (.of_ e1 pr.2) _ (G7.new hp _) (.tup (.inl ac) (.cons (.str _) (.cons (rK.mono (aR hp _)) (.cons (.str _) .nil)))) ⟨pr.1,ox,o2⟩ lE ?_;exact (eV ((wd "of" ()).up (Xj _)) oS ((nW (dg pP)).up (Xj _))).mono (by omega) (by rw [bmS]; omega)
 obtain ⟨WL,m7,rfl,G4⟩:=jj;exists _,rfl,rfl,_,rfl,?_;refine au (fun c3=>?_) (fun c3=>?_)
 ·exists _,rfl,_,rfl,_,rfl,tp,kd,R,HS,Vs,gv,n,b,(by rw [Iy]; rfl),G4.t,bn.go ht G4,env,fun u e H5 G a1 a2 a3 a4=>q u e H5 (G4.trans G) a1 (by rw [eqS c3]; exact a2) a3 a4
 exists _,rfl,rfl,_,rfl,?_;refine au (fun c4=>?_) (fun c4=>?_)
 ·exists _,rfl,_,rfl,_,rfl,tp,kd,R,HS,Vs,gv,n,b,(by rw [Iy]; rfl),G4.t,bn.go ht G4,env,fun u e H5 G a1 a2 a3 a4=>q u e H5 (G4.trans G) a1 (by rw [eqS c4]; exact a2) a3 a4
 have Tx:=G4.tk ht _ _ hbR;exists _,rfl,kd,_,_,_,rfl,rfl,G4.x _ _ kt hkd,rfl,bR,rfl,⟨rxs,SqT.of Tx⟩,cF (xs:=rxs) rxs.length rfl (by omega) (fun i ar H3=>H3=H4/\Paired (bK H4) ar (((R.take i).filter fun r=>decide (r.1=k)).map (·.2))) ⟨rfl,.nil⟩ (fun i ar H3 p=>by rw [p.1]; exact SqT.of Tx) (fun i ar H3 x hi la hx p=>?_) (fun ar H3 p la D2 Ez=>?_)
 ·obtain ⟨rfl,pr⟩:=p;obtain ⟨rc,hrc,hra⟩:=aG rs i x hx;obtain ⟨cc,yy,rfl,hcc,hff⟩:=hra.mono (G4.tk ht);exists ⟨rfl,rfl⟩,⟨_,rfl,cc,_,_,_,rfl,rfl,SqT.of hcc,rfl,_,rfl,rfl,_,rfl,?_⟩;have step:((R.take (i+1)).filter fun r=>decide (r.1=k)).map (·.2)=((R.take i).filter fun r=>decide (r.1=k)).map (·.2)++(if rc.1=k then [rc.2] else []):=by
   rw [Xn,hrc,aau,Xb]
   by_cases e:rc.1=k
   ·simp [e]
   ·simp [e]
  refine au (fun d1=>?_) (fun d1=>?_)
  ·exists _,rfl,cc,_,_,_,rfl,rfl,SqT.of hcc,rfl,nxT (by omega) hi la ⟨rfl,?_⟩;rw [step,if_pos (eqS d1)];exact Paired.snoc pr hff
  ·refine nxF hi la ⟨rfl,?_⟩;rw [step,if_neg (neS d1),XB];exact pr
 obtain ⟨rfl,pr⟩:=p;rw [Paired.length rs,Xo] at pr;have gD:=ad Ez (.lst ar);have G5:=G4.trans (Go.same G4.t gD);exists _,rfl,zl0,fun pe hpe=>?_
 have gE:=ad hpe (.lst []);have G6:=G5.trans (Go.same G5.t gE);have eD:(upd (upd H3 D2 (.lst ar)) pe (.lst [])) D2=some (.lst ar):=gE _ _ ac;have gDE:=gD.trans gE;exists D2,pe,ar,rfl,rfl,SqL.of eD,SqL.of ac,_,rfl,?_;refine au (fun c5=>⟨_,rfl,_,rfl,_,rfl,leaf G6⟩) (fun c5=>?_);have hDt:D2≠tp:=G4.t.nt Ez;obtain ⟨kin,npl⟩:k∈R.map (·.1)/\k∉PL:=by
  cases SE:(R.filter fun r=>decide (r.1=k)) with
  | nil =>
   rw [SE] at pr;cases pr;exact absurd (by decide) c5
  | cons r0 rr =>
   have hm:r0∈R.filter fun r=>decide (r.1=k):=by rw [SE]; exact Xl
   obtain ⟨h1,h2⟩:=YE.mp hm;have h3:r0.1=k:=of_decide_eq_true h2;exists Xr.mpr ⟨r0,h1,h3⟩,by rw [<- h3]; exact Ca _ (ck env.g h1).1
 obtain ⟨rest,hrest⟩:=Cy kin;rw [hrest] at pr;obtain ⟨y0,ys',rfl,hy0⟩:∃ y0 ys,ar=y0::ys/\bK H3 y0 (look R k):=by
  cases pr with
  | cons r _=>exact ⟨_,_,rfl,r⟩
 obtain ⟨b2,fx,rfl,uR,Tz⟩:=hy0;obtain ⟨r0,jA,MZ⟩:=Xr.mp kin;have lk:look R k=r0.2:=by rw [<- MZ]; exact kF env.nd r0 jA
 obtain ⟨_,⟨⟨W5,WV⟩,_,fP⟩,fK⟩:=ck env.g jA;have lfx:fx.length=r0.2.length:=by rw [Paired.length Tz,lk]
 exists _,rfl,D2,_,_,_,rfl,rfl,SqL.of eD,at0 _ _,_,rfl,_,rfl,D2,_,_,_,rfl,rfl,SqL.of eD,at0 _ _,b2,fx,rfl,.inr (SqT.of (gDE _ _ uR)),tp,_,rfl,G6.t,by omega,by omega,fun v7 H7 f0 f1 x7 t7 y7=>?_
 have G7:=G6.trans ⟨x7,t7,y7⟩;have k7:Tk H3 H7:=(ao gDE).trans (fun bb zs e=>x7 _ _ (G6.t.ne e) e);obtain ⟨u,hu,B5,B6⟩:=dX (xs:=fx) (i:=v7) f0 f1;obtain ⟨fl,hfl,hfa⟩:=aG Tz _ u B5;obtain ⟨cf,rfl,hcf⟩:=hfa.mono k7;have hfm:=Xh hfl;have MT:=hfm;rw [lk] at MT;exists b2,_,_,_,rfl,rfl,SqT.of (k7 _ _ uR),B6,cf,_,rfl,SqT.of hcf,rfl,_,_,rfl,_,_,rfl,rfl,?_;exists _,rfl,_,rfl,_,rfl,_,rfl,_,_,rfl,rfl,callE G7 hk fun u1 e1 H8 WI G8 rK ox lE oS=>?_
 exists _,rfl,_,rfl,_,rfl,_,rfl,_,rfl,_,_,rfl,rfl,callE G8 (fK fl MT) fun u2 e2 H9 U2 G9 yj uS wO wL=>⟨zl4,fun p hp=>?_⟩
 refine q (.ref p) (.with_ e1 fl.1 e2) _ (G9.new hp _) (.tup (.inl ac) (.cons (.str _) (.cons (rK.mono ((U2.tk G8.t).trans (aR hp _))) (.cons (.str _) (.cons (yj.mono (aR hp _)) .nil))))) ⟨npl,ox,fl.2,hfm,uS⟩ (fun z=>by simp only [E.na,lE z,wO z,YN]) ?_;exact (B9 ((wd "with" ()).up (Xj _)) oS ((nW (dg (fP _ MT))).up (Xj _)) wL).mono (by omega) (by rw [bmS]; omega)
end
end K6
namespace L2
open PySem
theorem gq {K:Frag} {H:Hp} {a:Addr} {xs:List V} {k:Nat} {Q:VK} (ha:H a=some (.tup xs)) (q:∀ p H',av H H'->H' p=some (.tup (xs.drop k))->Q (.ref p) H') :
  L7 K (.ref a) (some (k:Int)) none H Q\/Mg K (.ref a) (some (k:Int)) none H Q:=by
 by_cases h:HT.sIx xs.length 0 (some (k:Int))=0
 ·refine .inr ⟨a,xs,rfl,SqT.of ha,⟨h,HT.sIx_none _ _⟩,q a H (av.refl _) ?_⟩;rw [HT.sIx_nat] at h;rw [ha]
  by_cases hk:k=0
  ·subst hk; rfl
  ·have:xs.length=0:=by omega
   have e:xs=[]:=List.eq_nil_of_length_eq_zero this;subst e;rw [List.drop_nil]
 ·refine .inl ⟨a,xs,rfl,SqT.of ha,fun z=>h z.1,fun p hp=>q p _ (fun c o e=>by rw [aj (ay e hp)]; exact e) ?_⟩;rw [Ds];exact ac
end L2
namespace K6
open PySem L2
noncomputable def isS:List PyData->Bool
 | .str _::_=>true
 | _=>false
mutual
noncomputable def cD:PyData->Nat
 | .tuple ds=>(if isS ds=true then 1 else 0)+cDs ds
 | _=>0
noncomputable def cDs:List PyData->Nat
 | []=>0
 | d::r=>cD d+cDs r
end
mutual
noncomputable def zD:PyData->Nat
 | .tuple ds=>1+zDs ds
 | _=>1
noncomputable def zDs:List PyData->Nat
 | []=>0
 | d::r=>zD d+zDs r
end
mutual
noncomputable def Fit:PyData->Prop
 | .tuple ds=>ds.length<=1000/\cn ds
 | _=>True
noncomputable def cn:List PyData->Prop
 | []=>True
 | d::r=>Fit d/\cn r
end
theorem wn:∀ a b:List PyData,cDs (a++b)=cDs a+cDs b
 | [],b=>by simp [cDs]
 | d::r,b=>by simp only [Xf,cDs,wn r b]; omega
theorem oV:∀ a b:List PyData,zDs (a++b)=zDs a+zDs b
 | [],b=>by simp [zDs]
 | d::r,b=>by simp only [Xf,zDs,oV r b]; omega
theorem xC:∀ {a b:List PyData},cn a->cn b->cn (a++b)
 | [],b,_,h=>h
 | d::r,b,q,h=>by
  simp only [cn] at q;simp only [Xf,cn];exists q.1,xC q.2 h
theorem uA:∀ {a b:List PyData},cn (a++b)->cn a
 | [],b,_=>by simp only [cn]
 | d::r,b,q=>by
  simp only [Xf,cn] at q;simp only [cn];exists q.1,uA q.2
theorem sS:∀ {a:List PyData} {d:PyData},cn (a++[d])->Fit d
 | [],d,q=>by simp only [Xz,cn] at q; exact q.1
 | e::r,d,q=>by
  simp only [Xf,cn] at q;exact sS q.2
theorem FP (d:PyData):1<=zD d:=by
 cases d<;>simp only [zD]<;>omega
theorem vL:∀ ds:List PyData,ds.length<=zDs ds
 | []=>Xj _
 | d::r=>by
  have:=FP d
  have:=vL r
  simp only [W9,zDs];omega
theorem DTs.snoc_inv {K:Frag} {H:Hp}:∀ {zs:List V} {y:V} {ds:List PyData},DTs K H (zs++[y]) ds->∃ es e,ds=es++[e]/\DTs K H zs es/\DT K H y e
 | [],y,_,.cons h .nil=>⟨[],_,rfl,.nil,h⟩
 | z::zs,y,_,.cons h r=>by
  obtain ⟨es,e,rfl,a,b⟩:=DTs.snoc_inv r;exists _::es,e,rfl,.cons h a,b
noncomputable def NoS (K:Frag) (H:Hp) (x:V):Prop:=∃ t,j2 K H x t/\aac K t (.type "str")=some false
theorem DT.head {K:Frag} {H:Hp} {x:V} {d:PyData} (h:DT K H x d):(∃ z,x=.str z/\d=.str z)\/(NoS K H x/\∀ r,isS (d::r)=false):=by
 cases h with
 | int i=>exact .inr ⟨⟨_,.int i,rfl⟩,fun r=>rfl⟩
 | str z=>exact .inl ⟨z,rfl,rfl⟩
 | tup a b=>exact .inr ⟨⟨_,.tup a.hp,rfl⟩,fun r=>rfl⟩
mutual
theorem df {R:List Rec} {Vs:List Fld} (env:Env R Vs):∀ (e:E) (k:Str),Ok R Vs e k->Fit e.d
 | .num i,k,h=>by simp only [E.d,Fit,cn]; simp
 | .text i,k,h=>by simp only [E.d,Fit,cn]; simp
 | .var i,k,h=>by simp only [E.d,Fit,cn]; simp
 | .of_ e f,k,h=>by
  simp only [Ok] at h;obtain ⟨r,h,_⟩:=h;simp only [E.d,Fit,cn];exists by simp,trivial,df env e _ h,trivial,trivial
 | .with_ e f g,k,h=>by
  simp only [Ok] at h;obtain ⟨_,h1,k',_,h2⟩:=h;simp only [E.d,Fit,cn];exists by simp,trivial,df env e _ h1,trivial,df env g _ h2,trivial
 | .new r es,k,h=>by
  simp only [Ok] at h;obtain ⟨_,_,h0,h1⟩:=h;simp only [E.d,Fit,cn];obtain ⟨h2,h3⟩:=F4 env es _ h1;have hr:(look R r).length<=3:=by
   by_cases hm:r∈R.map (·.1)
   ·obtain ⟨r0,jA,MZ⟩:=Xr.mp hm;rw [<- MZ,kF env.nd r0 jA];exact (ck env.g jA).2.1.1.2
   ·have:look R r=[]:=by
     unfold look;rw [List.find?_eq_none.mpr (fun x hx=>?_)]
     ·rfl
     ·simp only [decide_eq_true_eq];exact fun e=>hm (Xr.mpr ⟨x,hx,e⟩)
    rw [this]; simp
  rw [W8] at h3;exists by simp,trivial,trivial,⟨by rw [E.ds_len]; omega,h2⟩,trivial
 | .add a b,k,h=>by
  simp only [Ok] at h;simp only [E.d,Fit,cn];exists by simp,trivial,df env a _ h.2.1,df env b _ h.2.2,trivial
 | .sub a b,k,h=>by
  simp only [Ok] at h;simp only [E.d,Fit,cn];exists by simp,trivial,df env a _ h.2.1,df env b _ h.2.2,trivial
 | .times n e,k,h=>by
  simp only [Ok] at h;simp only [E.d,Fit,cn];exists by simp,trivial,trivial,df env e _ h.2.2,trivial
 | .div e n,k,h=>by
  simp only [Ok] at h;simp only [E.d,Fit,cn];exists by simp,trivial,df env e _ h.2.2,trivial,trivial
 | .rest e n,k,h=>by
  simp only [Ok] at h;simp only [E.d,Fit,cn];exists by simp,trivial,df env e _ h.2.2,trivial,trivial
 | .len e,k,h=>by
  simp only [Ok] at h;simp only [E.d,Fit,cn];exists by simp,trivial,?_,trivial
  rcases h.2 with h | h
  ·exact df env e _ h
  ·exact df env e _ h
 | .at_ a b,k,h=>by
  simp only [Ok] at h;simp only [E.d,Fit,cn];exists by simp,trivial,?_,df env b _ h.2.2,trivial
  rcases h.2.1 with h | h
  ·exact df env a _ h
  ·exact df env a _ h
 | .rows es,k,h=>by
  simp only [Ok] at h;simp only [E.d,Fit,cn];exists by simp,trivial,⟨by rw [E.ds_len]; omega,Ga env es h.2.2⟩,trivial
 | .put a b c,k,h=>by
  simp only [Ok] at h;simp only [E.d,Fit,cn];exists by simp,trivial,df env a _ h.2.1,df env b _ h.2.2.1,df env c _ h.2.2.2,trivial
 | .more a b,k,h=>by
  simp only [Ok] at h;simp only [E.d,Fit,cn];exists by simp,trivial,df env a _ h.2.1,df env b _ h.2.2,trivial
 | .signs e,k,h=>by
  simp only [Ok] at h;simp only [E.d,Fit,cn];exists by simp,trivial,df env e _ h.2,trivial
theorem F4 {R:List Rec} {Vs:List Fld} (env:Env R Vs):∀ (es:List E) (ks:List Str),OkL R Vs es ks->cn (E.ds es)/\es.length=ks.length
 | [],[],_=>by simp only [E.ds,cn]; exact ⟨trivial,rfl⟩
 | e::es,k::ks,h=>by
  simp only [OkL] at h;obtain ⟨a,b⟩:=F4 env es ks h.2;simp only [E.ds,cn,W9];exists ⟨df env e k h.1,a⟩,by omega
 | [],_::_,h=>by simp only [OkL] at h
 | _::_,[],h=>by simp only [OkL] at h
theorem Ga {R:List Rec} {Vs:List Fld} (env:Env R Vs):∀ (es:List E),OkN R Vs es->cn (E.ds es)
 | [],_=>by simp only [E.ds,cn]
 | e::es,h=>by
  simp only [OkN] at h;simp only [E.ds,cn];exists df env e _ h.1,Ga env es h.2
end
mutual
theorem KP:∀ d:PyData,d.hasDict=false->zD d<=W d+1
 | .tuple ds,h=>by
  have:=FI ds (by simpa only [PyData.hasDict] using h)
  simp only [zD,W];omega
 | .list _,_=>by simp only [zD,W]; omega
 | .none,_=>by simp only [zD,W]; omega
 | .bool _,_=>by simp only [zD,W]; omega
 | .int i,_=>by simp only [zD,W]; omega
 | .str z,_=>by simp only [zD,W]; omega
 | .dict _,h=>by simp [PyData.hasDict] at h
theorem FI:∀ ds:List PyData,PyData.hasDictAll ds=false->zDs ds<=WS ds
 | [],_=>Xc _
 | d::r,h=>by
  have h':d.hasDict=false/\PyData.hasDictAll r=false:=by simpa [PyData.hasDictAll] using h
  have h1:=KP d h'.1;have h2:=FI r h'.2;simp only [zDs,WS];omega
end
section
variable {P:Program} {w:World} {K:Frag} {mg:Str->Option Value} {base:Heap} {f g:Addr} {fd gd:FuncData}
inductive uX (K:Frag) (vs:List V) (H:Hp) (Q:VK) (bu:XK):Prop
 | mk (u d):(vs=[u])->(DT K H u d)->(Fit d)->(zD d<=1000000)->(∀ H',av H H'->Q (.int (cD d)) H')->uX K vs H Q bu
noncomputable def JF (K:Frag) (u:V) (d:PyData) (l:Addr) (H0:Hp) (m:Nat) (σ:St) (H':Hp):Prop :=
 ∃ c ys ds m3,σ=[some u,some (.int ((c:Nat):Int)),some (.ref l),m3]/\Ext l H0 H'/\H' l=some (.lst ys)/\DTs K H' ys ds/\cn ds/\c+cDs ds=cD d/\m=zDs ds/\zDs ds<=zD d
abbrev uK:List Str:=["_law_e_here", "_law_count_here", "_law_left", "_law_one"]
abbrev kr:List Str:=["_law_part"]
theorem sv:kr.Nodup:=()
theorem fR:aA uK ["_law_e_here"] (defScope js):=ZU 0
theorem HW (T:G0 mg) (F:Zc "_law_count" js):Zb 1 ["_law_e_here"] (uX K):=by
 refine ZR F fR
 ·obtain ⟨u,d,rfl,_⟩:=h
  rfl
 obtain ⟨u,d,rfl,hu,hfit,hz,q⟩:=h;exists _,(Z2 (ZA 1 fR.nd af) (Z2 (ZA 2 fR.nd (ZD (Z0 (pv 0)))) (Z2 (iL PassesOwn.never (Z8 (hV hr.units0) (pv 2) (ZD aq)) (Z2 (ZA 3 fR.nd (jO Xw Yb Yc jV (pv 2))) (Z2 (ZB (PW.pt (gO (di (ZJ f8 T.isi pB (Z1 (pv 3) (Z0 (iq (v:=.ty "tuple") rfl T.tuple bU rfl))))) (gO (Z8 f7 (ZI (Z0 (pv 3))) af) (fB (di (ZJ f8 T.isi pB (Z1 (Z4 (pv 3)) (Z0 (iq (v:=.ty "str") rfl T.str dJ rfl))))))))) (Z3 (ZA 1 fR.nd (ZE cN (pv 1) af)))) (Z3 (ZB (di (ZJ f8 T.isi pB (Z1 (pv 3) (Z0 (iq (v:=.ty "tuple") rfl T.tuple bU rfl))))) (Z3 (ZL (ZH Xw XJ XM dm (pv 2) (Z0 (bF (N':=kr) (ρ:=[none]) (m:=1) (bL.of (fs:=defScope js) (N:=uK) rfl rfl ()) rfl (bI (bj (iG.or fF) (pv 3) (bJ (fN DQ rfl T.int KJ (ak (wc (gw f7 (cP bq rfl T.len hJ (ak (pv 3) aq)) af (cZ _)) (wb (cP f8 rfl T.isi pB (ak (aZ cV (pv 3) af (fun _ _=>rfl)) (ak (iq (v:=.ty "str") rfl T.str dJ rfl) aq))))) aq))) cb)) (fun _ _ _ _=>(ZO 0 sv)) (fun _ _ _ _=>bH) (fun _ _ _ _=>(pv 0)))))))))))) (Z3 (Z7 (pv 1)))))),?_;show let v1:L2.TS:=_; let v2:=bf _ v1 _; let v3:L2.TS:=_; let v4:=am (bf _ v3 _) v2; let v5:=am _ v4; let v6:=am (lG _ v5) _; let v7:=am _ v6; (am _ v7) _ _ _;intro v1 v2 v3 v4 v5 v6 v7;exists _,rfl,zl1,fun l hl=>?_
 have g0:=ad hl (.lst [u]);have Qn:(upd H l (.lst [u])) l=some (.lst [u]):=ac;exists JF K u d l (upd H l (.lst [u])),⟨_,0,[u],[d],none,rfl,Ext.refl _ _,Qn,.cons (hu.mono (ao g0)) .nil,by simp only [cn]; exact ⟨hfit,trivial⟩,by simp [cDs],rfl,by simp [zDs]⟩,?_
 rintro m σ H' ⟨c,ys,ds,m3,rfl,x1,hy,dy,fy,ec,em,ez⟩
 exists _,rfl,zl0,fun e he=>⟨l,e,ys,rfl,rfl,SqL.of (ad he _ _ _ hy),SqL.of ac,_,rfl,?_⟩
 have ge:=ad he (.lst []);have PY:=ge _ _ hy;refine au (fun cc=>?_) (fun cc=>?_)
 ·obtain ⟨zs,y,rfl⟩:∃ zs y,ys=zs++[y]:=by
   rcases YR ys with rfl | ⟨zs,y,e⟩
   ·exact absurd cc (by decide)
   ·exists zs,y,by rw [e,YS]
  obtain ⟨es,e1,rfl,dz,d1⟩:=dy.snoc_inv;exists fun σ' H'=>∃ m',m'<m/\JF K u d l (upd H l (.lst [u])) m' σ' H',fun _ _ z=>z,?_
  exists _,rfl,.inl ⟨rfl,_,SqL.of PY⟩,l,_,y,rfl,rfl,PY,by simp,?_
  rw [X6];have kT:Tk H' (upd (upd H' e (.lst [])) l (.lst zs)):=(ao ge).trans (aW PY _);have x2:Ext l (upd H l (.lst [u])) (upd (upd H' e (.lst [])) l (.lst zs)):=(x1.trans (av.ext ge)).trans Ext.upd;have IM:(upd (upd H' e (.lst [])) l (.lst zs)) l=some (.lst zs):=ac;have Ee:=dz.mono kT;have d2:=d1.mono kT;have fz:=uA fy;have f1:=sS fy;rw [wn] at ec;rw [oV] at em ez;simp only [cDs,zDs,aav] at ec em ez;generalize hH:(upd (upd H' e (.lst [])) l (.lst zs))=H2 at x2 IM Ee d2;have plainR:cD e1=0->∃ m',m'<m/\JF K u d l (upd H l (.lst [u])) m' [some u,some (.int ((c:Nat):Int)),some (.ref l),some y] H2:=fun e0=>by
   have:=FP e1
   exists zDs es,by omega,c,zs,es,_,rfl,x2,IM,Ee,fz,by omega,rfl,by omega
  cases d2 with
  | int i=>exact ⟨_,rfl,_,_,_,false,rfl,.int i,rfl,_,rfl,fI ⟨_,rfl,_,_,_,false,rfl,.int i,rfl,_,rfl,fI (plainR (by simp only [cD]))⟩⟩
  | str z=>exact ⟨_,rfl,_,_,_,false,rfl,.str z,rfl,_,rfl,fI ⟨_,rfl,_,_,_,false,rfl,.str z,rfl,_,rfl,fI (plainR (by simp only [cD]))⟩⟩
  | @tup a xs IU ha dx =>
  have M3:=ha.hp;simp only [Fit] at f1;simp only [cD] at ec;simp only [zD] at em ez;have lx:=dx.len;have zl:=vL es;have Wi:=vL IU
  -- the parts k on come to the list
  have fin:∀ (k c':Nat),c'+(cDs es+cDs (IU.drop k))=cD d->cn (IU.drop k)->zDs (IU.drop k)<=zDs IU->∀ (p:Addr) (H3:Hp),av H2 H3->H3 p=some (.tup (xs.drop k))->nU (Itt K p) 1 (tX 0) FU (JR 0) [none] (fun ar H4=>∀ D,H4 D=none->(fun (u':V) (H5:Hp)=>wm (.ref l) [u'] H5 fun _ H6=>∃ m',m'<m/\JF K u d l (upd H l (.lst [u])) m' [some u,some (.int ((c':Nat):Int)),some (.ref l),some (.ref a)] H6) (.ref D) (upd H4 D (.lst ar))) H3:=by
   intro k c' hc hf hzk p H3 g3 lD;refine cF (xs:=xs.drop k) (xs.drop k).length rfl (by rw [Yp]; omega) (fun i ar H4=>H4=H3/\ar=(xs.drop k).take i) ⟨rfl,rfl⟩ (fun i ar H4 p'=>by rw [p'.1]; exact SqT.of lD) (fun i ar H4 x hi la hx p'=>?_) (fun ar H4 p' la D hD=>?_)
   ·obtain ⟨rfl,rfl⟩:=p';exists ⟨rfl,rfl⟩,bA ⟨_,rfl,nxT (by rw [Yp]; omega) hi la ⟨rfl,by rw [Xn,hx]; rfl⟩⟩
   ·obtain ⟨rfl,rfl⟩:=p';rw [Xo];have gD:=ad hD (.lst (xs.drop k));have g4:=g3.trans gD;have PP:=g4 _ _ IM;have kL:=aW PP (.lst (zs++xs.drop k));have lz:=Ee.len;exists l,D,zs,xs.drop k,rfl,rfl,PP,ac,?_,?_
    ·rw [Yp,sizeLine_eq];omega
    ·exists zDs es+zDs (IU.drop k),by omega,c',zs++xs.drop k,es++IU.drop k,_,rfl,(x2.trans (av.ext g4)).trans Ext.upd,ac,?_,xC fz hf,by rw [wn]; exact hc,by rw [oV],by rw [oV]; omega
     exact DTs.append (Ee.mono ((ao g4).trans kL)) ((dx.drop k).mono ((ao g4).trans kL))
  exists _,rfl,_,_,_,true,rfl,.tup M3,rfl,_,rfl,dO ?_;exists _,rfl,a,xs,rfl,.inr ha.sq,_,_,rfl,rfl,_,rfl,?_;cases dx with
  | nil =>
   refine fI ⟨_,rfl,_,_,_,true,rfl,.tup M3,rfl,_,rfl,dO ?_⟩;exists _,rfl,.inl ⟨rfl,_,SqL.of IM⟩,_,rfl,_,rfl,a,[],rfl,.inr ha.sq,_,_,rfl,rfl,_,rfl,fI (.inr ⟨false,rfl,_,rfl,?_⟩);refine gq (k:=0) M3 fun p H3 g3 lD=>⟨p,rfl,⟨_,SqT.of lD⟩,fin 0 c (by simpa [isS,cDs] using ec) f1.2 (Xc _) p H3 g3 lD⟩
  | @cons x0 xr e0 er h0 Ny =>
  rcases h0.head with ⟨z,rfl,rfl⟩ | ⟨⟨ty,hty,hks⟩,hno⟩
  ·refine au (fun c5=>?_) (fun c5=>absurd (by simp) c5);exists _,rfl,a,_,_,_,rfl,rfl,ha.sq,at0 _ _,_,_,_,true,rfl,.str z,rfl,_,rfl,dO ?_;exists _,rfl,_,_,rfl,rfl,?_;exists _,rfl,_,_,_,true,rfl,.tup M3,rfl,_,rfl,dO ?_;exists _,rfl,.inl ⟨rfl,_,SqL.of IM⟩,_,rfl,_,rfl,a,_,rfl,.inr ha.sq,_,_,rfl,rfl,_,rfl,?_;refine au (fun c6=>?_) (fun c6=>absurd (by simp) c6);exists _,rfl,a,_,_,_,rfl,rfl,ha.sq,at0 _ _,_,_,_,true,rfl,.str z,rfl,.inr ⟨true,rfl,_,rfl,?_⟩;refine gq (k:=1) M3 fun p H3 g3 lD=>⟨p,rfl,⟨_,SqT.of lD⟩,?_⟩
   have ef:(c:Int)+1=((c+1:Nat):Int):=by omega
   have UK:cn er:=by
    have:=f1.2
    simp only [cn] at this;exact this.2
   have:=fin 1 (c+1) (by simp only [isS,cDs,cD,if_true] at ec; simp only [YX,aae]; omega) UK (by simp only [YX,aae,zDs]; omega) p H3 g3 lD
   rw [<- ef] at this;exact this
  ·refine au (fun c5=>?_) (fun c5=>absurd (by simp) c5);exists _,rfl,a,_,_,_,rfl,rfl,ha.sq,at0 _ _,_,_,_,false,rfl,hty,hks,_,rfl,fI ?_;exists _,rfl,_,_,_,true,rfl,.tup M3,rfl,_,rfl,dO ?_;exists _,rfl,.inl ⟨rfl,_,SqL.of IM⟩,_,rfl,_,rfl,a,_,rfl,.inr ha.sq,_,_,rfl,rfl,_,rfl,?_;refine au (fun c6=>?_) (fun c6=>absurd (by simp) c6);exists _,rfl,a,_,_,_,rfl,rfl,ha.sq,at0 _ _,_,_,_,false,rfl,hty,hks,.inr ⟨false,rfl,_,rfl,?_⟩;refine gq (k:=0) M3 fun p H3 g3 lD=>⟨p,rfl,⟨_,SqT.of lD⟩,fin 0 c (by rw [hno] at ec; simpa using ec) f1.2 (Xc _) p H3 g3 lD⟩
 ·have e0:ys=[]:=by
   cases ys with
   | nil=>rfl
   | cons _ _=>exact absurd (by rfl) cc
  subst e0;cases dy;exists _,rfl,?_;have Vw:c=cD d:=by simpa [cDs] using ec
  rw [Vw];refine q _ fun bb o hb=>?_
  exact ge _ _ (x1 _ _ (ay hb hl) (g0 _ _ hb))
end
open PySem L2
structure Gk (tp kd:Addr) (H H':Hp):Prop where
 x:∀ b o,b≠tp->b≠kd->H b=some o->H' b=some o
 k:Tk H H'
 t:Tp H' tp
 y:TS tp H H'
 f:∀ p,H' p=none->H p=none
theorem Gk.trans {tp kd:Addr} {H H1 H2:Hp} (a:Gk tp kd H H1) (b:Gk tp kd H1 H2):Gk tp kd H H2:=⟨fun c o n m h=>b.x c o n m (a.x c o n m h),a.k.trans b.k,b.t,a.y.trans b.y,fun p h=>a.f p (b.f p h)⟩
theorem Gk.of_go {tp kd:Addr} {H H':Hp} {o:HO} (hk:H kd=some o) (t:Tp H tp) (G:Go tp H H'):Gk tp kd H H':=⟨fun b o n _ h=>G.x b o n h,G.tk t,G.t,G.y,fun p h=>G.free t h⟩
theorem Gk.new {tp kd p:Addr} {H H1:Hp} (a:Gk tp kd H H1) (h:H1 p=none) (o:HO):Gk tp kd H (upd H1 p o):=by
 have g:=ad h o;exact a.trans ⟨fun b o' _ _ q=>g b o' q,ao g,a.t.same g,av.ts g,fun q e=>g.free e⟩
theorem Gk.same {tp kd:Addr} {H H1 H2:Hp} (a:Gk tp kd H H1) (g:av H1 H2):Gk tp kd H H2:=a.trans ⟨fun b o' _ _ q=>g b o' q,ao g,a.t.same g,av.ts g,fun q e=>g.free e⟩
theorem wls {i:Int} (h0:0<=i) (h1:i<2):∃ z:Str,atI ((["less", "same"]:List Str).map V.str) i=some (.str z)/\(z = "less"\/z = "same"):=by
 have:i=0\/i=1:=by omega
 rcases this with h | h<;>subst h
 ·exists "less",(),.inl rfl
 ·exists "same",(),.inr rfl
theorem wao {i:Int} (h0:0<=i) (h1:i<2):∃ z:Str,atI ((["and", "or"]:List Str).map V.str) i=some (.str z)/\(z = "and"\/z = "or"):=by
 have:i=0\/i=1:=by omega
 rcases this with h | h<;>subst h
 ·exists "and",(),.inl rfl
 ·exists "or",(),.inr rfl
noncomputable def OkC (R:List Rec) (Vs:List Fld):C->Prop
 | .less a b=>Ok R Vs a "num"/\a.na=true/\Ok R Vs b "num"/\b.na=true
 | .same a b=>Ok R Vs a "num"/\a.na=true/\Ok R Vs b "num"/\b.na=true
 | .and_ c d=>OkC R Vs c/\OkC R Vs d
 | .or_ c d=>OkC R Vs c/\OkC R Vs d
 | .not_ c=>OkC R Vs c
noncomputable def bc:Nat->Nat
 | 0=>2*bm 2+40
 | d+1=>(2*bm 2+40)+bc d+40
theorem Mc:∀ d:Nat,bc 0<=bc d
 | 0=>Xc _
 | d+1=>by have:=Mc d; rw [show bc (d+1)=(2*bm 2+40)+bc d+40 from rfl]; omega
noncomputable def eu (tp:Addr) (H:Hp) (kd:Addr) (R:List Rec) (HS:List cX) (Vs:List Fld) (v:V) (hl vl:Addr) (g:Str) (n:Int) (b:Bool):Prop:=H kd=some (.dK (km v hl vl g n b))/\Ff tp H R HS Vs v hl vl
theorem eu.at_ {tp kd:Addr} {H:Hp} {R:List Rec} {HS:List cX} {Vs:List Fld} {v:V} {hl vl:Addr} {g:Str} {n:Int} {b:Bool} (h:eu tp H kd R HS Vs v hl vl g n b):kU tp H kd R HS Vs g n b:=⟨v,hl,vl,h.1,h.2⟩
theorem eu.ne {tp kd:Addr} {H:Hp} {R:List Rec} {HS:List cX} {Vs:List Fld} {v:V} {hl vl:Addr} {g:Str} {n:Int} {b:Bool} (h:eu tp H kd R HS Vs v hl vl g n b) (t:Tp H tp):kd≠tp:=h.at_.ne t
theorem eu.hk {tp kd:Addr} {H:Hp} {R:List Rec} {HS:List cX} {Vs:List Fld} {v:V} {hl vl:Addr} {g:Str} {n:Int} {b:Bool} (h:eu tp H kd R HS Vs v hl vl g n b):hl≠kd/\vl≠kd:=by
 obtain ⟨hs,d1,_⟩:=h.2.hh;obtain ⟨vs,e1,_⟩:=h.2.vv;exists eX d1 h.1 (fun z=>by cases z),eX e1 h.1 (fun z=>by cases z)
theorem eu.go {tp kd:Addr} {H H':Hp} {R:List Rec} {HS:List cX} {Vs:List Fld} {v:V} {hl vl:Addr} {g:Str} {n:Int} {b:Bool} (h:eu tp H kd R HS Vs v hl vl g n b) (t:Tp H tp) (G:Go tp H H'):eu tp H' kd R HS Vs v hl vl g n b :=
 ⟨G.x _ _ (h.ne t) h.1,h.2.mono (kd:=kd) (G.tk t) (fun b o q _=>G.x b o q) h.hk.1 h.hk.2⟩
theorem eu.gk {tp kd:Addr} {H H':Hp} {R:List Rec} {HS:List cX} {Vs:List Fld} {v:V} {hl vl:Addr} {g:Str} {n n':Int} {b b':Bool} (h:eu tp H kd R HS Vs v hl vl g n b) (G:Gk tp kd H H') (e:H' kd=some (.dK (km v hl vl g n' b'))):eu tp H' kd R HS Vs v hl vl g n' b' :=
 ⟨e,h.2.mono (kd:=kd) G.k G.x h.hk.1 h.hk.2⟩
section
variable {P:Program} {w:World} {K:Frag} {mg:Str->Option Value} {base:Heap} {f g:Addr} {fd gd:FuncData}
inductive fM (K:Frag) (vs:List V) (H:Hp) (Q:VK) (bu:XK):Prop
 | mk (tp kd k R HS Vs v hl vl gv n b rb):(vs=[.ref tp,.ref kd,.str k,.bl rb])->(Tp H tp)->(eu tp H kd R HS Vs v hl vl gv n b)->(Env R Vs)->(k∈KS R)->(∀ u e H',Gk tp kd H H'->eu tp H' kd R HS Vs v hl vl gv n rb->DT K H' u e.d->Ok R Vs e k->(rb=false->e.na=true)->a9 12 (bm 2) e.d->Q u H')->fM K vs H Q bu
abbrev pBd:List Str:=["_law_tape_here", "_law_kit_here", "_law_kind_here", "_law_reach"]
abbrev xY:List Str:=["_law_tape_here", "_law_kit_here", "_law_kind_here", "_law_reach", "_law_e_here"]
theorem iy:aA xY ["_law_tape_here", "_law_kit_here", "_law_kind_here", "_law_reach"] (defScope iP):=ZU 0
theorem zL (T:G0 mg) (F:Zc "_law_bounded" iP) (Eg:Za 1 "_law_count" ["_law_e_here"] (uX K)) (d5:Za 5 "_law_leaf" pLf (ip K 4)) (dA:Za 10 "_law_e" pEx (spE K 2)) :
  Zb 11 pBd (fM K):=by
 refine ZR F iy
 ·obtain ⟨tp,kd,k,R,HS,Vs,v,hl,vl,gv,n,b,rb,rfl,_⟩:=h
  rfl
 obtain ⟨tp,kd,k,R,HS,Vs,v,hl,vl,gv,n,b,rb,rfl,ht,bn,env,hk,q⟩:=h;exists _,(Z2 (Cc (KF hr) (pv 1) ag (pv 3) (bO rfl)) (Z2 (ZA 4 iy.nd (Z6 dA (Z1 (pv 0) (Z1 (pv 1) (Z1 (pv 2) (Z0 af)))))) (Z2 (ZB (Z8 f7 (Z6 Eg (Z0 (pv 4))) af) (Z3 (ZA 4 iy.nd (Z6 d5 (Z1 (pv 0) (Z1 (pv 1) (Z0 (pv 2)))))))) (Z3 (Z7 (pv 4)))))),?_;show let v1:L2.TS:=_; let v2:=am (bf _ v1 _) _; let v3:=am _ v2; (am _ v3) _ _ _;intro v1 v2 v3;have kt:=bn.ne ht;obtain ⟨hkd,KD⟩:=id bn;exists _,rfl,_,rfl,kd,_,rfl,DX.k (k:=Sum.inr "reach") hkd (by show 6<sizeLine; decide),?_;have wH:jc (km v hl vl gv n b) (Sum.inr "reach") (.bl rb)=km v hl vl gv n rb:=rfl;rw [wH];obtain ⟨hs,d1,_⟩:=KD.hh;obtain ⟨vs,e1,_⟩:=KD.vv;have G1:Gk tp kd H (upd H kd (.dK (km v hl vl gv n rb))):=by
  obtain ⟨sc,kk,rr,ns,a1,a2⟩:=id ht;have hsc:sc≠kd:=eX a2 hkd (fun z=>by cases z);exists fun bb o _ n2 hb=>by rw [aj n2]; exact hb,fun bb xs hb=>by rw [aj (eX hb hkd (fun z=>by cases z))]; exact hb,⟨sc,kk,rr,ns,by rw [aj kt.symm]; exact a1,by rw [aj hsc]; exact a2⟩,fun IN k2 r2 e2=>⟨k2,r2,by rw [aj kt.symm]; exact e2⟩,fun p hp=>?_
  by_cases e:p=kd
  ·rw [e,ac] at hp; cases hp
  ·rw [aj e] at hp; exact hp
 have K1:eu tp (upd H kd (.dK (km v hl vl gv n rb))) kd R HS Vs v hl vl gv n rb:=⟨ac,KD.mono (kd:=kd) G1.k G1.x (eX d1 hkd (fun z=>by cases z)) (eX e1 hkd (fun z=>by cases z))⟩;exists _,rfl,_,rfl,_,rfl,tp,kd,k,R,HS,Vs,gv,n,rb,rfl,G1.t,K1.at_,env,hk,fun u e H2 G2 de oe ne ni=>?_
 have GA:=G1.trans (Gk.of_go (ac (a:=kd)) G1.t G2);have zz:zD e.d<=1000000:=by
  have h1:=KP e.d ni.nd;have h2:=ni.sz;have h3:bm 2<=100000:=by decide
  omega
 exists _,rfl,u,e.d,rfl,de,df env e k oe,zz,fun H3 g3=>?_
 have G3:=G2.trans (Go.same G2.t g3);have GB:=GA.same g3;exists _,_,rfl,rfl,_,rfl,?_;refine au (fun c1=>?_) (fun c1=>?_)
 ·exists _,rfl,_,rfl,_,rfl,tp,kd,k,R,HS,Vs,gv,n,rb,rfl,G3.t,(K1.go G1.t G3).at_,env,vd env.g env.rl k hk,fun u4 e4 H4 G4 a1 a2 a3 a4=>⟨_,rfl,?_⟩
  have K3:=K1.go G1.t (G3.trans G4);obtain ⟨Uv,_⟩:=K1.go G1.t G3;exact q u4 e4 H4 (GB.trans (Gk.of_go Uv G3.t G4)) K3 a1 a2 (fun _=>a3) (a4.mono (by decide) (LE 2))
 ·exists _,rfl,q u e H3 GB (K1.go G1.t G3) (de.mono (ao g3)) oe ne ni
inductive Bq (K:Frag) (d:Nat) (vs:List V) (H:Hp) (Q:VK) (bu:XK):Prop
 | mk (tp kd R HS Vs v hl vl gv n b):(vs=[.ref tp,.ref kd,.int (d:Int)])->(Tp H tp)->(eu tp H kd R HS Vs v hl vl gv n b)->(Env R Vs)->(∀ u c H',Gk tp kd H H'->(∃ b',eu tp H' kd R HS Vs v hl vl gv n b')->DT K H' u c.d->OkC R Vs c->a9 (13+d) (bc d) c.d->Q u H')->Bq K d vs H Q bu
inductive DP (K:Frag) (d:Nat) (vs:List V) (H:Hp) (Q:VK) (E:XK):Prop
 | mk (d'):(d'<=d)->(Bq K d' vs H Q E)->DP K d vs H Q E
abbrev rP:List Str:=["_law_tape_here", "_law_kit_here", "_law_deep", "_law_way", "_law_word", "_law_first"]
theorem dh:aA rP ["_law_tape_here", "_law_kit_here", "_law_deep"] (defScope eS):=ZU 0
theorem Ct {d r:Nat} {spC:Sp} (wM:11<=r) (up:∀ d',d'<d->∀ vs H Q E,Bq K d' vs H Q E->spC vs H Q E) (T:G0 mg) (F:Zc "_law_condition" eS) (aF:Za 1 "_law_draw" dP bS) (dN:Za 11 "_law_bounded" pBd (fM K)) (cr:Cal P w K mg base r "_law_condition" pTx spC) :
  Zb (r+1) pTx (DP K d):=by
 refine ZR F dh
 ·obtain ⟨d',_,tp,kd,R,HS,Vs,v,hl,vl,gv,n,b,rfl,_⟩:=h
  rfl
 obtain ⟨d',QI,tp,kd,R,HS,Vs,v,hl,vl,gv,n,b,rfl,ht,bn,env,q⟩:=h;exists _,(Z2 (ZA 3 dh.nd (Z6 aF (Z1 (pv 0) (Z0 af)))) (Z2 (ZB (PW.pt (cK (Z8 aJ (pv 2) af) (cm (Z8 kK (pv 3) af)))) (Z2 (ZA 4 dh.nd (Z5 aD (ZD (Z1 ag (Z0 ag))) (ZE iA (pv 3) af))) (Z2 (ZA 5 dh.nd (Z6 dN (Z1 (pv 0) (Z1 (pv 1) (Z1 ag (Z0 dj)))))) (Z3 (Z7 (ZF (Z1 (pv 4) (Z1 (pv 5) (Z0 (Z6 dN (Z1 (pv 0) (Z1 (pv 1) (Z1 ag (Z0 dj)))))))))))))) (Z2 (ZB (Z8 aJ (pv 3) af) (Z3 (Z7 (ZF (Z1 ag (Z0 (Z6 cr (Z1 (pv 0) (Z1 (pv 1) (Z0 (ZE bi (pv 2) af))))))))))) (Z2 (ZA 5 dh.nd (Z6 cr (Z1 (pv 0) (Z1 (pv 1) (Z0 af))))) (Z3 (Z7 (ZF (Z1 (Z5 aD (ZD (Z1 ag (Z0 ag))) (ZE bi (pv 3) af)) (Z1 (pv 5) (Z0 (Z6 cr (Z1 (pv 0) (Z1 (pv 1) (Z0 (ZE bi (pv 2) af))))))))))))))),?_;show let v1:L2.TS:=_; let v2:=am _ v1; let v3:L2.TS:=_; let v4:=am (bf _ v3 _) v2; let v5:L2.TS:=_; let v6:=am _ v5; let v7:=am _ v6; let v8:=am (bf _ v7 _) v4; (am _ v8) _ _ _;intro v1 v2 v3 v4 v5 v6 v7 v8;have kNum:Xx "num"∈KS R:=XD _ (by decide);have kt:=bn.ne ht;obtain ⟨kdd,KD⟩:=id bn;exists _,rfl,tp,6,rfl,ht,by decide,by decide,fun way H1 w0 w1 x1 t1 y1=>?_
 have G1:Go tp H H1:=⟨x1,t1,y1⟩;exists _,rfl,rfl,_,rfl,?_;cases d' with
 | zero =>
 refine au (fun c1=>dO ?_) (fun c1=>absurd (by decide) c1);exists zl2,fun lw hlw=>?_
 obtain ⟨rM,hat,hw⟩:=wls (i:=way % 2) (Ye _ (by decide)) (X5 _ (by decide));exists _,rfl,_,_,rfl,rfl,(by show (0:Int)<2; decide),lw,_,_,_,rfl,rfl,SqL.of ac,hat,?_;have G2:=G1.new hlw (.lst ((["less", "same"]:List Str).map V.str));have K2:=bn.go ht G2;exists _,rfl,_,rfl,tp,kd, "num",R,HS,Vs,v,hl,vl,gv,n,b,false,rfl,G2.t,K2,env,kNum,fun u1 e1 H3 G3 K3 rK ox lE oS=>?_
 exists _,rfl,_,rfl,_,rfl,_,rfl,tp,kd, "num",R,HS,Vs,v,hl,vl,gv,n,false,false,rfl,G3.t,K3,env,kNum,fun u2 e2 H4 G4 K4 yj uS wO wL=>⟨zl3,fun p hp=>?_⟩
 have GA:=((Gk.of_go kdd ht G2).trans (G3.trans G4)).new hp (.tup [.str rM,u1,u2]);have C9:=rK.mono (G4.k.trans (aR hp (.tup [.str rM,u1,u2])));have rL:=yj.mono (aR hp (.tup [.str rM,u1,u2]));have K5:=K4.go G4.t ((Go.refl G4.t).new hp (.tup [.str rM,u1,u2]));have nn:∀ z:Str,z∈WD->a9 (13+0) (bc 0) (.tuple [.str z,e1.d,e2.d]):=fun z hz=>(eV ((nW hz).up (Xj 12)) oS wL).mono (by omega) (by have:=Mc (0); have:bc 0=2*bm 2+40:=rfl; omega)
 rcases hw with rfl | rfl
 ·exact q (.ref p) (.less e1 e2) _ GA ⟨_,K5⟩ (.tup (.inl ac) (.cons (.str _) (.cons C9 (.cons rL .nil)))) ⟨ox,lE rfl,uS,wO rfl⟩ (nn "less" ())
 ·exact q (.ref p) (.same e1 e2) _ GA ⟨_,K5⟩ (.tup (.inl ac) (.cons (.str _) (.cons C9 (.cons rL .nil)))) ⟨ox,lE rfl,uS,wO rfl⟩ (nn "same" ())
 | succ dd =>
 have yq:(((dd+1:Nat):Int) - 1)=(dd:Int):=by omega
 refine au (fun c1=>absurd (V.int.inj (of_decide_eq_true c1)) (by omega)) (fun c1=>?_);exists _,rfl,_,_,rfl,rfl,_,rfl,?_;refine au (fun c2=>?_) (fun c2=>?_)
 ·exists zl2,fun lw hlw=>?_
  obtain ⟨rM,hat,hw⟩:=wls (i:=way % 2) (Ye _ (by decide)) (X5 _ (by decide));exists _,rfl,_,_,rfl,rfl,(by show (0:Int)<2; decide),lw,_,_,_,rfl,rfl,SqL.of ac,hat,?_;have G2:=G1.new hlw (.lst ((["less", "same"]:List Str).map V.str));have K2:=bn.go ht G2;exists _,rfl,_,rfl,tp,kd, "num",R,HS,Vs,v,hl,vl,gv,n,b,false,rfl,G2.t,K2,env,kNum,fun u1 e1 H3 G3 K3 rK ox lE oS=>?_
  exists _,rfl,_,rfl,_,rfl,_,rfl,tp,kd, "num",R,HS,Vs,v,hl,vl,gv,n,false,false,rfl,G3.t,K3,env,kNum,fun u2 e2 H4 G4 K4 yj uS wO wL=>⟨zl3,fun p hp=>?_⟩
  have GA:=((Gk.of_go kdd ht G2).trans (G3.trans G4)).new hp (.tup [.str rM,u1,u2]);have C9:=rK.mono (G4.k.trans (aR hp (.tup [.str rM,u1,u2])));have rL:=yj.mono (aR hp (.tup [.str rM,u1,u2]));have K5:=K4.go G4.t ((Go.refl G4.t).new hp (.tup [.str rM,u1,u2]));have nn:∀ z:Str,z∈WD->a9 (13+(dd+1)) (bc (dd+1)) (.tuple [.str z,e1.d,e2.d]):=fun z hz=>(eV ((nW hz).up (Xj 12)) oS wL).mono (by omega) (by have:=Mc ((dd+1)); have:bc 0=2*bm 2+40:=rfl; omega)
  rcases hw with rfl | rfl
  ·exact q (.ref p) (.less e1 e2) _ GA ⟨_,K5⟩ (.tup (.inl ac) (.cons (.str _) (.cons C9 (.cons rL .nil)))) ⟨ox,lE rfl,uS,wO rfl⟩ (nn "less" ())
  ·exact q (.ref p) (.same e1 e2) _ GA ⟨_,K5⟩ (.tup (.inl ac) (.cons (.str _) (.cons C9 (.cons rL .nil)))) ⟨ox,lE rfl,uS,wO rfl⟩ (nn "same" ())
 have Su:¬ way<3:=fun z=>c2 (decide_eq_true z)
 have K1:=bn.go ht G1;have PQ:=Gk.of_go kdd ht G1;exists _,rfl,rfl,_,rfl,?_;refine au (fun c3=>?_) (fun c3=>?_)
 ·exists _,rfl,_,rfl,_,rfl,_,_,rfl,rfl,up dd (by omega) _ _ _ _ ⟨tp,kd,R,HS,Vs,v,hl,vl,gv,n,b,(show [V.ref tp,V.ref kd,V.int (((dd+1:Nat):Int) - 1)]=_ by rw [yq]),G1.t,K1,env,fun u1 c4 H3 G3 K3 dc oc nc=>⟨zl2,fun p hp=>?_⟩⟩;obtain ⟨b',K3⟩:=K3;refine q (.ref p) (.not_ c4) _ ((PQ.trans G3).new hp _) ⟨b',K3.go G3.t ((Go.refl G3.t).new hp _)⟩ (.tup (.inl ac) (.cons (.str _) (.cons (dc.mono (aR hp _)) .nil))) oc ?_;exact (ld ((wd "not" ()).up (Xj _)) nc).mono (by omega) (by rw [show bc (dd+1)=(2*bm 2+40)+bc dd+40 from rfl]; omega)
 have Wh:¬ way=3:=fun z=>c3 (decide_eq_true (congrArg V.int z))
 exists _,rfl,_,rfl,up 0 (by omega) _ _ _ _ ⟨tp,kd,R,HS,Vs,v,hl,vl,gv,n,b,rfl,G1.t,K1,env,fun u1 c4 H3 G3 K3 dc oc nc=>?_⟩;obtain ⟨b',K3⟩:=K3;obtain ⟨rM,hat,hw⟩:=wao (i:=way - 4) (by omega) (by omega);exists zl2,fun lw hlw=>⟨_,rfl,_,_,rfl,rfl,lw,_,_,_,rfl,rfl,SqL.of ac,hat,?_⟩
 have G4:=(Go.refl G3.t).new hlw (.lst ((["and", "or"]:List Str).map V.str));have K4:=K3.go G3.t G4;obtain ⟨US,_⟩:=id K3;have SZ:=(PQ.trans G3).trans (Gk.of_go US G3.t G4);exists _,rfl,_,rfl,_,rfl,_,rfl,_,_,rfl,rfl,up dd (by omega) _ _ _ _ ⟨tp,kd,R,HS,Vs,v,hl,vl,gv,n,b',(show [V.ref tp,V.ref kd,V.int (((dd+1:Nat):Int) - 1)]=_ by rw [yq]),G4.t,K4,env,fun u2 c5 H5 G5 K5 VM ST Vq=>⟨zl3,fun p hp=>?_⟩⟩;obtain ⟨b5,K5⟩:=K5;have GA:=(SZ.trans G5).new hp (.tup [.str rM,u1,u2]);have K6:=K5.go G5.t ((Go.refl G5.t).new hp (.tup [.str rM,u1,u2]));have C9:=dc.mono (((G4.tk G3.t).trans G5.k).trans (aR hp (.tup [.str rM,u1,u2])));have rL:=VM.mono (aR hp (.tup [.str rM,u1,u2]));have nn:∀ z:Str,z∈WD->a9 (13+(dd+1)) (bc (dd+1)) (.tuple [.str z,c4.d,c5.d]):=fun z hz=>(eV (m:=13+dd) ((nW hz).up (Xj _)) (nc.up (by omega)) Vq).mono (by omega) (by rw [show bc (dd+1)=(2*bm 2+40)+bc dd+40 from rfl,show bc 0=2*bm 2+40 from rfl]; omega)
 rcases hw with rfl | rfl
 ·exact q (.ref p) (.and_ c4 c5) _ GA ⟨_,K6⟩ (.tup (.inl ac) (.cons (.str _) (.cons C9 (.cons rL .nil)))) ⟨oc,ST⟩ (nn "and" ())
 ·exact q (.ref p) (.or_ c4 c5) _ GA ⟨_,K6⟩ (.tup (.inl ac) (.cons (.str _) (.cons C9 (.cons rL .nil)))) ⟨oc,ST⟩ (nn "or" ())
end
open PySem L2
mutual
noncomputable def S.cnt:S->Nat
 | .if_ _ a b=>1+S.cnts a+S.cnts b
 | .while_ _ a=>1+S.cnts a
 | _=>1
noncomputable def S.cnts:List S->Nat
 | []=>0
 | s::r=>s.cnt+S.cnts r
end
mutual
noncomputable def OkS (R:List Rec) (HS:List cX) (Vs:List Fld) (gv:Str):S->Prop
 | .let_ x e=>∃ k,(x,k)∈Vs/\Ok R Vs e k
 | .say w c=>w∈bg/\OkC R Vs c
 | .if_ c a b=>OkC R Vs c/\eT R HS Vs gv a/\eT R HS Vs gv b
 | .while_ c a=>OkC R Vs c/\eT R HS Vs gv a
 | .call x f es=>∃ h∈HS,h.1=f/\(x,h.2.2.2)∈Vs/\OkL R Vs es (h.2.1.map (·.2))
 | .give e=>Ok R Vs e gv
noncomputable def eT (R:List Rec) (HS:List cX) (Vs:List Fld) (gv:Str):List S->Prop
 | []=>True
 | s::r=>OkS R HS Vs gv s/\eT R HS Vs gv r
end
theorem S.cnts_snoc:∀ (ss:List S) (s:S),S.cnts (ss++[s])=S.cnts ss+s.cnt
 | [],s=>by simp [S.cnts]
 | a::r,s=>by simp only [Xf,S.cnts,S.cnts_snoc r s]; omega
theorem S.cnts_app:∀ a b:List S,S.cnts (a++b)=S.cnts a+S.cnts b
 | [],b=>by simp [S.cnts]
 | s::r,b=>by simp only [Xf,S.cnts,S.cnts_app r b]; omega
theorem eT.snoc {R:List Rec} {HS:List cX} {Vs:List Fld} {gv:Str} {s:S} (h:OkS R HS Vs gv s):∀ {ss:List S},eT R HS Vs gv ss->eT R HS Vs gv (ss++[s])
 | [],_=>by simp only [Xz,eT]; exact ⟨h,trivial⟩
 | a::r,q=>by
  simp only [eT] at q;simp only [Xf,eT];exists q.1,eT.snoc h q.2
theorem eT.app {R:List Rec} {HS:List cX} {Vs:List Fld} {gv:Str}:∀ {a b:List S},eT R HS Vs gv a->eT R HS Vs gv b->eT R HS Vs gv (a++b)
 | [],b,_,q=>q
 | s::r,b,h,q=>by
  simp only [eT] at h;simp only [Xf,eT];exists h.1,eT.app h.2 q
theorem S.cnt_pos (s:S):1<=s.cnt:=by cases s<;>simp only [S.cnt]<;>omega
noncomputable def BS:Nat:=bc 2+200
noncomputable def mS (dp:Nat):Nat:=17+2*dp
noncomputable def NS (dp:Nat) (s:S):Prop:=a9 (mS dp) (s.cnt*BS - 2) s.d
theorem Ov:200<=BS:=()
theorem fS {dp:Nat}:∀ {ss:List S},(∀ s∈ss,NS dp s)->a8 (mS dp) (S.cnts ss*BS) (S.ds ss)
 | [],_=>by simp only [S.ds]; exact nz.mono (Xc _) (Xj _)
 | s::r,h=>by
  have h1:=h s Xl;have h2:=fS (ss:=r) fun j hj=>h j (Xg _ hj)
  have h3:1*BS<=s.cnt*BS:=X0 _ s.cnt_pos;have h4:=Ov;simp only [S.ds];refine (a8.cons h1 h2).mono (Xc _) ?_;simp only [S.cnts];rw [YD];omega
theorem ns1 {dp m b:Nat} {s:S} (h1:s.cnt=1) (h:a9 m b s.d) (hm:m<=mS dp) (hb:b+2<=BS):NS dp s:=by
 unfold NS;rw [h1,Nat.one_mul];exact h.mono hm (by omega)
structure Ii (R:List Rec) (HS:List cX) (Vs:List Fld) (gv:Str):Prop where
 env:Env R Vs
 hs:I0 R HS
 vk:∀ p∈Vs,p.2∈KS R
 v1:1<=Vs.length
 gk:gv∈KS R
theorem Gk.upd {tp kd p:Addr} {H H1:Hp} (a:Gk tp kd H H1) (t:Tp H tp) (h:H p=none) {ys:List V} (h1:H1 p=some (.lst ys)) (o:HO):Gk tp kd H (L2.upd H1 p o):=by
 obtain ⟨sc,k,r,ns,e1,e2⟩:=id t;obtain ⟨k',r',e3⟩:=a.y sc k r e1;obtain ⟨IN,k2,r2,Sm,f1,f2⟩:=id a.t
 have:IN=sc:=by rw [e3] at f1; cases f1; rfl
 subst this;have pt:tp≠p:=ay e1 h;have ps:IN≠p:=ay e2 h;exists fun b u n m q=>by rw [aj (ay q h)]; exact a.x _ _ n m q,fun b xs q=>by rw [aj (ay q h)]; exact a.k _ _ q,⟨IN,k2,r2,Sm,by rw [aj pt]; exact f1,by rw [aj ps]; exact f2⟩,fun s3 k3 r3 q=>?_,fun q e=>?_
 ·obtain ⟨k4,r4,e4⟩:=a.y s3 k3 r3 q;exists k4,r4,by rw [aj pt]; exact e4
 ·by_cases z:q=p
  ·rw [z]; exact h
  ·rw [aj z] at e; exact a.f q e
section
variable {P:Program} {w:World} {K:Frag} {mg:Str->Option Value} {base:Heap} {f g:Addr} {fd gd:FuncData}
inductive BW (K:Frag) (dp:Nat) (vs:List V) (H:Hp) (Q:VK) (bu:XK):Prop
 | mk (tp kd R HS Vs v hl vl gv n b):(vs=[.ref tp,.ref kd,.int (dp:Int)])->(Tp H tp)->(eu tp H kd R HS Vs v hl vl gv n b)->(Ii R HS Vs gv)->(0<=n)->(∀ u s H' n',Gk tp kd H H'->(∃ b',eu tp H' kd R HS Vs v hl vl gv n' b')->0<=n'->n'+(s.cnt:Int)=n+1->DT K H' u s.d->OkS R HS Vs gv s->NS dp s->Q u H')->BW K dp vs H Q bu
inductive lY (K:Frag) (dp:Nat) (vs:List V) (H:Hp) (Q:VK) (bu:XK):Prop
 | mk (tp kd R HS Vs v hl vl gv n b):(vs=[.ref tp,.ref kd,.int (dp:Int)])->(Tp H tp)->(eu tp H kd R HS Vs v hl vl gv n b)->(Ii R HS Vs gv)->(0<=n)->(∀ a xs ss H' n',Gk tp kd H H'->(∃ b',eu tp H' kd R HS Vs v hl vl gv n' b')->0<=n'->n'+(S.cnts ss:Int)=n->H' a=some (.tup xs)->DTs K H' xs (S.ds ss)->eT R HS Vs gv ss->(∀ s∈ss,NS dp s)->Q (.ref a) H')->lY K dp vs H Q bu
abbrev Gx:List Str:=["_law_tape_here", "_law_kit_here", "_law_deep", "_law_body_here", "_law_k"]
theorem mJ:aA Gx ["_law_tape_here", "_law_kit_here", "_law_deep"] (defScope kW):=ZU 0
theorem Ci {dp r:Nat} (M9:1<=r) (T:G0 mg) (F:Zc "_law_body" kW) (aF:Za 1 "_law_draw" dP bS) (sG:Cal P w K mg base r "_law_statement" pTx (BW K dp)):Zb (r+1) pTx (lY K dp):=by
 refine ZR F mJ
 ·obtain ⟨tp,kd,R,HS,Vs,v,hl,vl,gv,n,b,rfl,_⟩:=h
  rfl
 obtain ⟨tp,kd,R,HS,Vs,v,hl,vl,gv,n,b,rfl,ht,bn,env,hn,q⟩:=h;exists _,(Z2 (ZA 3 mJ.nd (ZD aq)) (Z2 (ZM (el rfl T.range (Z0 (Z6 aF (Z1 (pv 0) (Z0 af))))) (ZO 4 mJ.nd) (Z3 (ZB (Z8 f7 (Z5 cw (pv 1) ag) af) (Z2 (Cc (KF hr) (pv 1) ag (ZE bi (Z5 cw (pv 1) ag) af) (bO rfl)) (Z3 (ZL (ZG (pv 3) (Z0 (Z6 sG (Z1 (pv 0) (Z1 (pv 1) (Z0 (pv 2))))))))))))) (Z3 (Z7 (ZK aH T.tuple bU (Z0 (pv 3))))))),?_;show let v1:L2.TS:=_; let v2:L2.TS:=_; let v3:=am _ v2; let v4:=bf _ v3 _; let v5:=am (gW _ _ v4) v1; (am _ v5) _ _ _;intro v1 v2 v3 v4 v5;have kt:=bn.ne ht;exists zl0,fun bl hbl=>?_
 have G1:Go tp H (L2.upd H bl (.lst [])):=(Go.refl ht).new hbl _;have hbt:bl≠tp:=ht.nt hbl;have hbk:bl≠kd:=(ay bn.1 hbl).symm;exists _,rfl,tp,4,rfl,G1.t,by decide,by decide,fun many H2 m0 m1 x2 t2 y2=>?_
 have G2:=G1.trans ⟨x2,t2,y2⟩;have uR:H2 bl=some (.lst []):=x2 _ _ hbt ac;refine ⟨_,rfl,by omega,by omega,jr (lo:=0) (n:=many.toNat) (fun i σ H'=>∃ m4 ys ss n' b',σ=[some (.ref tp),some (.ref kd),some (.int (dp:Int)),some (.ref bl),m4]/\Gk tp kd H H'/\eu tp H' kd R HS Vs v hl vl gv n' b'/\0<=n'/\n'+(S.cnts ss:Int)=n/\H' bl=some (.lst ys)/\DTs K H' ys (S.ds ss)/\eT R HS Vs gv ss/\(∀ s∈ss,NS dp s)/\ys.length<=i)
  ⟨none,[],[],n,b,rfl,Gk.of_go bn.1 ht G2,bn.go ht G2,hn,by simp [S.cnts],uR,by simp only [S.ds]; exact .nil,by simp only [eT],(fun _ z=>nomatch z),Xj _⟩ (fun i σ H' hi p=>?_) (fun σ H' p=>?_)⟩
 ·obtain ⟨m4,ys,ss,n',b',rfl,G3,K3,PR,en,hys,dys,oss,nss,lys⟩:=p;exists _,rfl,kd,_,_,_,rfl,rfl,K3.1,rfl,_,_,rfl,rfl,_,rfl,?_;refine au (fun c1=>?_) (fun c1=>⟨_,ys,ss,n',b',rfl,G3,K3,PR,en,hys,dys,oss,nss,by omega⟩);have RH:0<n':=of_decide_eq_true c1;exists _,rfl,kd,_,_,_,rfl,rfl,K3.1,rfl,_,_,rfl,rfl,_,rfl,kd,_,rfl,DX.k (k:=Sum.inr "left") K3.1 (by show 6<sizeLine; decide),?_;have wH:jc (km v hl vl gv n' b') (Sum.inr "left") (.int (n' - 1))=km v hl vl gv (n' - 1) b':=rfl;rw [wH];have G4:Gk tp kd H' (upd H' kd (.dK (km v hl vl gv (n' - 1) b'))):=by
   obtain ⟨sc,kk,rr,ns,a1,a2⟩:=id G3.t;have hsc:sc≠kd:=eX a2 K3.1 (fun z=>by cases z);exists fun bb o _ n2 hb=>by rw [aj n2]; exact hb,fun bb xs hb=>by rw [aj (eX hb K3.1 (fun z=>by cases z))]; exact hb,⟨sc,kk,rr,ns,by rw [aj kt.symm]; exact a1,by rw [aj hsc]; exact a2⟩,fun IN k2 r2 e2=>⟨k2,r2,by rw [aj kt.symm]; exact e2⟩,fun p hp=>?_
   by_cases e:p=kd
   ·rw [e,ac] at hp; cases hp
   ·rw [aj e] at hp; exact hp
  have K4:eu tp (upd H' kd (.dK (km v hl vl gv (n' - 1) b'))) kd R HS Vs v hl vl gv (n' - 1) b':=K3.gk G4 ac;have PU:=G4.x _ _ hbt hbk hys;exists _,rfl,.inl ⟨rfl,_,SqL.of PU⟩,_,rfl,_,rfl,_,rfl,tp,kd,R,HS,Vs,v,hl,vl,gv,n' - 1,b',rfl,G4.t,K4,env,by omega,fun u s H5 n5 G5 K5 Qx We UQ Va V8=>?_
  obtain ⟨b5,K5⟩:=K5;have Nh:=G5.x _ _ hbt hbk PU;exists bl,ys,u,rfl,rfl,Nh,ap (by omega),?_;have G6:=(G3.trans G4).trans G5;have kL:=aW Nh (.lst (ys++[u]));have G7:=G6.upd ht hbl Nh (.lst (ys++[u]));exists _,ys++[u],ss++[s],n5,b5,rfl,G7,bn.gk G7 (by rw [aj hbk.symm]; exact K5.1),Qx,?_,ac,?_,eT.snoc Va oss,fun y hy=>?_,by rw [W7]; simp; omega
  ·rw [S.cnts_snoc];rw [aaJ];omega
  ·rw [S.ds_snoc];exact DTs.snoc (UQ.mono kL) (dys.mono ((G4.k.trans G5.k).trans kL))
  ·rcases Xm.mp hy with hy | hy
   ·exact nss y hy
   ·rw [Xi.mp hy]; exact V8
 ·obtain ⟨m4,ys,ss,n',b',rfl,G3,K3,PR,en,hys,dys,oss,nss,lys⟩:=p;exists _,rfl,bl,ys,rfl,.inl ⟨SqL.of hys,fun l ou=>?_⟩;have G4:=G3.new ou (.tup ys);exact q l ys ss _ n' G4 ⟨b',K3.go G3.t ((Go.refl G3.t).new ou _)⟩ PR en ac (dys.mono (aR ou _)) oss nss
abbrev gI:List Str:=["_law_tape_here", "_law_kit_here", "_law_deep", "_law_way", "_law_name", "_law_kind_here", "_law_condition_here", "_law_body_here", "_law_params", "_law_inner", "_law_some", "_law_args"]
abbrev gY:List Str:=["_law_one", "_law_own", "_law_tape_here", "_law_kit_here"]
theorem gt:gY.Nodup:=()
abbrev hX:List Str:=["_law_one", "_law_own", "_law_kind_here"]
theorem gG:hX.Nodup:=()
theorem aV:aA gI ["_law_tape_here", "_law_kit_here", "_law_deep"] (defScope cT):=ZU 0
theorem CK {dp r:Nat} {spB:Sp} (WU:14<=r) (up:∀ d',d'+1=dp->∀ vs H Q E,lY K d' vs H Q E->spB vs H Q E) (T:G0 mg) (F:Zc "_law_statement" cT) (aF:Za 1 "_law_draw" dP bS) (ju:Za 2 "_law_names" dP jt)
  (dN:Za 11 "_law_bounded" pBd (fM K)) (cr:Za 14 "_law_condition" pTx (DP K 2)) (jg:Cal P w K mg base r "_law_body" pTx spB):Zb (r+1) pTx (BW K dp):=by
 refine ZR F aV
 ·obtain ⟨tp,kd,R,HS,Vs,v,hl,vl,gv,n,b,rfl,_⟩:=h
  rfl
 obtain ⟨tp,kd,R,HS,Vs,v,hl,vl,gv,n,b,rfl,ht,bn,envS,hn,q⟩:=h;exists _,(Z2 (ZA 3 aV.nd (Z6 aF (Z1 (pv 0) (Z0 af)))) (Z2 (ZB (Z8 kK (pv 3) af) (Z2 (@gJ _ _ _ _ _ _ (Z5 aD (Z5 cw (pv 1) ag) (Z6 aF (Z1 (pv 0) (Z0 (ZI (Z0 (Z5 cw (pv 1) ag))))))) (ff rfl (aE (ZO 4 aV.nd) (aE (dS (i:=5) aV.nd rfl (Yz rfl)) b9))) rfl rfl rfl) (Z3 (Z7 (ZF (Z1 ag (Z1 (pv 4) (Z0 (Z6 dN (Z1 (pv 0) (Z1 (pv 1) (Z1 (pv 5) (Z0 dj))))))))))))) (Z2 (ZB (Z8 aJ (pv 3) af) (Z3 (Z7 (ZF (Z1 ag (Z1 (Z5 aD (Z6 ju (Z1 (pv 0) (Z0 af))) af) (Z0 (Z6 cr (Z1 (pv 0) (Z1 (pv 1) (Z0 af))))))))))) (Z2 (ZB (Z8 aJ (pv 3) af) (Z3 (Z7 (ZF (Z1 ag (Z0 (Z6 dN (Z1 (pv 0) (Z1 (pv 1) (Z1 (Z5 cw (pv 1) ag) (Z0 dj))))))))))) (Z2 (ZB (PW.pt (gO (Z8 kK (pv 3) af) (fB (Z8 f7 (pv 2) af)))) (Z2 (ZA 6 aV.nd (Z6 cr (Z1 (pv 0) (Z1 (pv 1) (Z0 af))))) (Z2 (ZA 7 aV.nd (Z6 jg (Z1 (pv 0) (Z1 (pv 1) (Z0 (ZE bi (pv 2) af)))))) (Z2 (ZB (Z8 aJ (pv 3) af) (Z3 (Z7 (ZF (Z1 ag (Z1 (pv 6) (Z0 (pv 7)))))))) (Z3 (Z7 (ZF (Z1 ag (Z1 (pv 6) (Z1 (pv 7) (Z0 (Z6 jg (Z1 (pv 0) (Z1 (pv 1) (Z0 (ZE bi (pv 2) af)))))))))))))))) (Z2 (ZM (fD (@bj _ _ _ _ _ _ _ _ _ _ gz (Z5 cw (pv 1) ag) (bJ (dD aF (hr.mono (by omega)) rfl (ak (pv 0) (ak (cP bq rfl T.len hJ (ak (aZ cw (pv 1) ag (fun _ _=>rfl)) aq)) aq)))) cb)) (ff rfl (aE (ZO 4 aV.nd) (aE (ZO 8 aV.nd) (aE (ZO 9 aV.nd) (aE (dS (i:=5) aV.nd rfl (Yz rfl)) b9))))) (Z2 (iB (i:=10) (N':=hX) (ρ:=[none,none,some 5]) (m:=2) (bL.of (fs:=defScope cT) (N:=gI) rfl rfl ()) aV.nd rfl (Yi rfl) rfl (fD (aZ cw (pv 1) ag (fun _ _=>rfl))) (fun _ _ _ _=>(jh (n:=2) (K:=K) rfl rfl (aE (ZO 0 gG) (aE (ZO 1 gG) b9)))) (fun _ _ _ _=>(ie (c7 aJ (pv 1) (pv 2) (cZ _)))) (fun _ _ _ _=>(pv 0))) (Z3 (ZB (Z8 (hV hr.units0) (pv 10) (ZD aq)) (Z2 (ZA 11 aV.nd (ZK aH T.tuple bU (Z0 (bF (N':=gY) (ρ:=[none,none,some 0,some 1]) (m:=2) (bL.of (fs:=defScope cT) (N:=gI) rfl rfl ()) rfl (bI (pv 8)) (fun _ _ _ _=>(jh (n:=2) (K:=K) rfl rfl (aE (ZO 0 gt) (aE (ZO 1 gt) b9)))) (fun _ _ _ _=>bH) (fun _ _ _ _=>(dD dN (hr.mono (by omega)) rfl (ak (pv 2) (ak (pv 3) (ak (pv 1) (ak dj aq)))))))))) (Z3 (Z7 (ZF (Z1 ag (Z1 (Z5 aD (pv 10) (Z6 aF (Z1 (pv 0) (Z0 (ZI (Z0 (pv 10))))))) (Z1 (pv 4) (Z0 (pv 11))))))))))))) (Z3 (Z7 (ZF (Z1 ag (Z1 ag (Z0 (Z6 cr (Z1 (pv 0) (Z1 (pv 1) (Z0 af)))))))))))))))),?_;show let v1:L2.TS:=_; let v2:L2.TS:=_; let v3:=am _ v2; let v4:=bf _ v3 _; let v5:=am _ v4; let v6:=am (gW _ _ v5) v1; let v7:L2.TS:=_; let v8:L2.TS:=_; let v9:=am (bf _ v8 _) v7; let oK:=am _ v9; let wN:=am _ oK; let ym:=am (bf _ wN _) v6; let IH:L2.TS:=_; let IL:=am (bf _ IH _) ym; let IK:L2.TS:=_; let IE:=am (bf _ IK _) IL; let Pp:L2.TS:=_; let Ph:=am _ Pp; let Qd:=am (bf _ Ph _) IE; (am _ Qd) _ _ _;intro v1 v2 v3 v4 v5 v6 v7 v8 v9 oK wN ym IH IL IK IE Pp Ph Qd;have env:=envS.env;have kt:=bn.ne ht;obtain ⟨vs,hvl,pvs⟩:=bn.2.vv;obtain ⟨hs,hhl,phs⟩:=bn.2.hh;have vt:=bn.2.vt;have hht:=bn.2.ht;have lvs:=Paired.length pvs;have lV:=env.vl;have WZ:=envS.v1;have lhs:=Paired.length phs;have WB:=envS.hs.l1;have WG:=envS.hs.l3;have b2v:bm 2<=16000:=by decide
 have bc2v:bc 2<=100000:=by decide
 have bcm:bc 1<=bc 2:=by decide
 have WH:2*bm 2+100<=bc 2:=by decide
 have eBS:BS=bc 2+200:=rfl;have Wp:17<=mS dp:=by unfold mS; omega
 have one:∀ {u:V} {s:S} {H':Hp},Gk tp kd H H'->(∃ b',eu tp H' kd R HS Vs v hl vl gv n b')->s.cnt=1->DT K H' u s.d->OkS R HS Vs gv s->NS dp s->Q u H':=fun {u s H'} a1 a2 a3 a4 a5 a6=>q u s H' n a1 a2 hn (by rw [a3]; rfl) a4 a5 a6
 exists _,rfl,tp,9,rfl,ht,by decide,by decide,fun way H1 w0 w1 x1 t1 y1=>?_
 have G1:Go tp H H1:=⟨x1,t1,y1⟩;have K1:=bn.go ht G1;have PQ:=Gk.of_go bn.1 ht G1;have Pk:=x1 _ _ vt hvl;have Qj:=x1 _ _ hht hhl;exists _,rfl,_,_,rfl,rfl,_,rfl,?_;refine au (fun c1=>?_) (fun c1=>?_)
 ·exists _,rfl,kd,_,_,_,rfl,rfl,K1.1,rfl,_,rfl,_,rfl,kd,_,_,_,rfl,rfl,K1.1,rfl,vl,vs,rfl,.inl (SqL.of Pk),tp,_,rfl,t1,by omega,by omega,fun v3 H3 f0 f1 x3 t3 y3=>?_
  have G3:=G1.trans ⟨x3,t3,y3⟩;obtain ⟨u,hu,B5,B6⟩:=dX (xs:=vs) (i:=v3) f0 f1;obtain ⟨fl,hfl,hfa⟩:=aG pvs _ u B5;obtain ⟨cf,rfl,hcf⟩:=hfa.mono (G3.tk ht);have hfm:=Xh hfl;exists vl,_,_,_,rfl,rfl,SqL.of (x3 _ _ vt Pk),B6,cf,_,rfl,SqT.of hcf,rfl,_,_,rfl,_,_,rfl,rfl,?_;exists _,rfl,_,rfl,_,rfl,_,rfl,tp,kd,fl.2,R,HS,Vs,v,hl,vl,gv,n,b,true,rfl,G3.t,bn.go ht G3,env,envS.vk fl hfm,fun u4 e4 H4 G4 K4 de oe ne ni=>⟨zl3,fun p hp=>?_⟩
  refine one (s:=.let_ fl.1 e4) (((Gk.of_go bn.1 ht G3).trans G4).new hp _) ⟨_,K4.go G4.t ((Go.refl G4.t).new hp _)⟩ rfl (.tup (.inl ac) (.cons (.str _) (.cons (.str _) (.cons (de.mono (aR hp _)) .nil)))) ⟨fl.2,hfm,oe⟩ ?_;exact ns1 rfl (eV ((wd "let" ()).up (Xj 12)) ((nW (dg (env.vn fl hfm))).up (Xj 12)) ni) (by omega) (by omega)
 exists _,rfl,rfl,_,rfl,?_;refine au (fun c2=>?_) (fun c2=>?_)
 ·exists _,rfl,tp,1,rfl,t1,by decide,by decide,fun nl ln H3 G3 SY hnl hln hpln _=>?_
  obtain ⟨z,rfl⟩:∃ z,ln=[z]:=by
   cases ln with
   | nil=>simp at hln
   | cons z r =>
    cases r with
    | nil=>exact ⟨z,rfl⟩
    | cons _ _=>simp at hln
  have Rz:=G1.trans G3;exists nl,_,_,_,rfl,rfl,SqL.of hnl,at0 _ _,_,rfl,_,rfl,2,Xc _,tp,kd,R,HS,Vs,v,hl,vl,gv,n,b,rfl,Rz.t,bn.go ht Rz,env,fun u4 c4 H4 G4 K4 dc oc nc=>⟨zl3,fun p hp=>?_⟩
  obtain ⟨b4,K4⟩:=K4;refine one (s:=.say z c4) (((Gk.of_go bn.1 ht Rz).trans G4).new hp _) ⟨_,K4.go G4.t ((Go.refl G4.t).new hp _)⟩ rfl (.tup (.inl ac) (.cons (.str _) (.cons (.str _) (.cons (dc.mono (aR hp _)) .nil)))) ⟨hpln z (Xi.mpr rfl),oc⟩ ?_;exact ns1 rfl (eV ((wd "say" ()).up (Xj _)) ((nW (dg (hpln z (Xi.mpr rfl)))).up (Xj _)) nc) (by omega) (by omega)
 exists _,rfl,rfl,_,rfl,?_;refine au (fun c3=>?_) (fun c3=>?_)
 ·exists _,rfl,_,rfl,_,rfl,kd,_,_,_,rfl,rfl,K1.1,rfl,tp,kd,gv,R,HS,Vs,v,hl,vl,gv,n,b,true,rfl,t1,K1,env,envS.gk,fun u4 e4 H4 G4 K4 de oe ne ni=>⟨zl2,fun p hp=>?_⟩
  refine one (s:=.give e4) ((PQ.trans G4).new hp _) ⟨_,K4.go G4.t ((Go.refl G4.t).new hp _)⟩ rfl (.tup (.inl ac) (.cons (.str _) (.cons (de.mono (aR hp _)) .nil))) oe ?_;exact ns1 rfl (ld ((wd "give" ()).up (Xj 12)) ni) (by omega) (by omega)
 dsimp only [KM];refine kg (fun σ H2=>σ=[some (.ref tp),some (.ref kd),some (.int (dp:Int)),some (.int way),none,none,none,none,none,none,none,none]/\H2=H1) (fun NX hNX=>?_) (fun σ H2 jj=>?_)
 ·exists _,rfl,_,_,rfl,rfl,_,rfl,?_;refine au (fun c4=>?_) (fun c4=>hNX _ _ ⟨rfl,rfl⟩);exists _,rfl,_,_,rfl,rfl,_,rfl,?_;refine au (fun c5=>?_) (fun c5=>hNX _ _ ⟨rfl,rfl⟩);have Wg:(0:Int)<(dp:Int):=of_decide_eq_true c5;obtain ⟨dd,rfl⟩:∃ dd,dp=dd+1:=⟨dp - 1,by omega⟩;have yq:(((dd+1:Nat):Int) - 1)=(dd:Int):=by omega
  exists _,rfl,_,rfl,1,by decide,tp,kd,R,HS,Vs,v,hl,vl,gv,n,b,rfl,t1,K1,env,fun u4 c4 H4 G4 K4 dc oc nc=>?_
  obtain ⟨b4,K4⟩:=K4;exists _,rfl,_,rfl,_,rfl,_,_,rfl,rfl,up dd (by omega) _ _ _ _ ⟨tp,kd,R,HS,Vs,v,hl,vl,gv,n,b4,(show [V.ref tp,V.ref kd,V.int (((dd+1:Nat):Int) - 1)]=_ by rw [yq]),G4.t,K4,envS,hn,fun aa xa sa H5 n5 G5 K5 Qx We haa dsa osa nsa=>?_⟩;obtain ⟨b5,K5⟩:=K5;have Tw:=(PQ.trans G4).trans G5;exists _,rfl,rfl,_,rfl,?_;refine au (fun c6=>?_) (fun c6=>?_)
  ·exists _,rfl,_,rfl,zl3,fun p hp=>?_
   have kp:=aR hp (.tup [.str "while",u4,.ref aa]);refine q (.ref p) (.while_ c4 sa) _ n5 (Tw.new hp _) ⟨b5,K5.go G5.t ((Go.refl G5.t).new hp _)⟩ Qx (by simp only [S.cnt]; omega) (.tup (.inl ac) (.cons (.str _) (.cons (dc.mono (G5.k.trans kp)) (.cons (.tup (.inl (kp _ _ haa)) (dsa.mono kp)) .nil)))) ⟨oc,osa⟩ ?_;have nt:=(fS nsa).tup;show a9 _ _ _;simp only [S.cnt,S.d];refine (eV (m:=mS dd+1) ((wd "while" ()).up (Xj _)) (nc.up (by unfold mS; omega)) nt).mono (by unfold mS; omega) ?_;rw [YD];omega
  ·exists _,rfl,_,rfl,_,rfl,_,rfl,_,rfl,_,_,rfl,rfl,up dd (by omega) _ _ _ _ ⟨tp,kd,R,HS,Vs,v,hl,vl,gv,n5,b5,(show [V.ref tp,V.ref kd,V.int (((dd+1:Nat):Int) - 1)]=_ by rw [yq]),G5.t,K5,envS,Qx,fun ab xb sb H6 n6 G6 K6 VU Wo hab dsb osb nsb=>⟨zl4,fun p hp=>?_⟩⟩;obtain ⟨b6,K6⟩:=K6;have kp:=aR hp (.tup [.str "if",u4,.ref aa,.ref ab]);refine q (.ref p) (.if_ c4 sa sb) _ n6 ((Tw.trans G6).new hp _) ⟨b6,K6.go G6.t ((Go.refl G6.t).new hp _)⟩ VU (by simp only [S.cnt]; omega) (.tup (.inl ac) (.cons (.str _) (.cons (dc.mono ((G5.k.trans G6.k).trans kp)) (.cons (.tup (.inl (kp _ _ (G6.k _ _ haa))) (dsa.mono (G6.k.trans kp))) (.cons (.tup (.inl (kp _ _ hab)) (dsb.mono kp)) .nil))))) ⟨oc,osa,osb⟩ ?_;have nt:=(fS nsa).tup;have Uz:=(fS nsb).tup;show a9 _ _ _;simp only [S.cnt,S.d];refine (B9 (m:=mS dd+1) ((wd "if" ()).up (Xj _)) (nc.up (by unfold mS; omega)) nt Uz).mono (by unfold mS; omega) ?_;rw [YD,YD];omega
 obtain ⟨rfl,rfl⟩:=jj;exists _,rfl,kd,_,_,_,rfl,rfl,K1.1,rfl,_,rfl,_,rfl,kd,_,_,_,rfl,rfl,K1.1,rfl,hl,hs,rfl,.inl (SqL.of Qj),tp,_,rfl,t1,by omega,by omega,fun vi H3 f0 f1 x3 t3 y3=>?_
 have G3:=G1.trans ⟨x3,t3,y3⟩;obtain ⟨iN,rfl⟩:∃ iN:Nat,vi=iN:=⟨vi.toNat,by omega⟩;exists _,rfl,hl,_,rfl,SqL.of (x3 _ _ hht Qj),fun ps hps=>?_
 rw [Ds];have gP:=ad hps (.lst (hs.drop iN));have G4:=G3.trans (Go.same G3.t gP);have K4:=bn.go ht G4;have SZ:=Gk.of_go bn.1 ht G4;have R7:=G4.x _ _ vt hvl;have Sj:=Paired.mapP (Paired.drop' iN phs) fun _ _ z=>iF.mono (G4.tk ht) z
 have Sg:=Paired.mapP pvs fun _ _ z=>b8.mono (G4.tk ht) z
 exists ps,rfl,⟨_,SqL.of ac⟩,hU (xs:=hs.drop iN) (fun i σ H'=>∃ m4 m5 m8 m9 Rv,σ=[some (.ref tp),some (.ref kd),some (.int (dp:Int)),some (.int way),m4,m5,none,none,m8,m9,Rv,none]/\av (L2.upd H3 ps (.lst (hs.drop iN))) H') ⟨none,none,none,none,none,rfl,av.refl _⟩ (fun i σ H' _ p=>?_) (fun i x σ H' hx p=>?_) (fun σ H' p=>?_)
 ·obtain ⟨_,_,_,_,_,_,gg⟩:=p;exact SqL.of (gg _ _ ac)
 ·obtain ⟨m4,m5,m8,m9,Rv,rfl,gg⟩:=p;have G5:=G4.trans (Go.same G4.t gg);have K5:=bn.go ht G5;obtain ⟨hd,hhd,hha⟩:=aG Sj i x hx;obtain ⟨ca,cp,cq,rfl,hca,pfl,qfl⟩:=hha.mono (ao gg);have hdm:hd∈HS:=List.mem_of_mem_drop (Xh hhd);have hok:=envS.hs.ok hd hdm;obtain ⟨pa,px,rfl,hpa,ppx⟩:=pfl;have lpx:px.length<=2:=by rw [Paired.length ppx]; exact hok.p2
  exists ca,_,rfl,SqT.of hca,rfl,_,_,rfl,_,_,rfl,_,_,rfl,_,_,rfl,rfl,?_;have PV:=gg _ _ R7;exists _,rfl,kd,_,_,_,rfl,rfl,K5.1,rfl,vl,rfl,⟨_,SqL.of PV⟩,lX (xs:=vs) vs.length rfl (by omega) (fun i ar H2=>H2=H'/\∃ ss:List Str,ar=ss.map V.str/\∀ z∈ss,(z,hd.2.2.2)∈Vs) ⟨rfl,[],rfl,fun _ z=>nomatch z⟩ (fun i ar H2 p=>by rw [p.1]; exact SqL.of PV) (fun i ar H2 x hi la hx p=>?_) (fun ar H2 p la D hD=>?_)
  ·obtain ⟨rfl,ss,rfl,hss⟩:=p;obtain ⟨fl,hfl,hfa⟩:=aG Sg i x hx;obtain ⟨c,rfl,hc⟩:=hfa.mono (ao gg);exists c,_,rfl,SqT.of hc,rfl,_,_,rfl,_,_,rfl,rfl,⟨rfl,rfl⟩,⟨_,rfl,_,rfl,rfl,_,rfl,?_⟩;refine au (fun d1=>?_) (fun d1=>nxF hi la ⟨rfl,ss,rfl,hss⟩);exists _,rfl,nxT (by omega) hi la ⟨rfl,ss++[fl.1],by simp,fun z hz=>?_⟩;rcases Xm.mp hz with hz | hz
   ·exact hss z hz
   ·rw [Xi.mp hz,<- eqS d1];exact Xh hfl
  obtain ⟨rfl,ss,rfl,hss⟩:=p;have sl:ss.length<=5:=by rw [W8] at la; omega
  have gD:=ad hD (.lst (ss.map V.str));exists _,rfl,zl0,fun pe hpe=>?_
  have gE:=ad hpe (.lst []);have gDE:=gD.trans gE;have eD:(upd (upd H2 D (.lst (ss.map V.str))) pe (.lst [])) D=some (.lst (ss.map V.str)):=gE _ _ ac;exists D,pe,_,rfl,rfl,SqL.of eD,SqL.of ac,_,rfl,?_;refine au (fun c6=>?_) (fun c6=>⟨_,_,_,_,_,rfl,gg.trans gDE⟩);have sp:0<ss.length:=by
   cases ss with
   | nil=>exact absurd c6 (by decide)
   | cons _ _=>simp
  have G6:=G5.trans (Go.same G5.t gDE);have K6:=bn.go ht G6;have U7:=Gk.of_go bn.1 ht G6;have hDt:D≠tp:=G5.t.nt hD;have hDk:D≠kd:=(ay K5.1 hD).symm;have PN:=gDE _ _ hpa;have Rr:=Paired.mapP ppx fun _ _ z=>b8.mono (ao gDE) z
  refine ⟨_,rfl,pa,rfl,⟨px,SqT.of PN⟩,cF (xs:=px) px.length rfl (by omega) (fun i ar H7=>Gk tp kd (upd (upd H2 D (.lst (ss.map V.str))) pe (.lst [])) H7/\(∃ b',eu tp H7 kd R HS Vs v hl vl gv n b')/\∃ es:List E,DTs K H7 ar (E.ds es)/\OkL R Vs es ((hd.2.1.take i).map (·.2))/\∀ e∈es,a9 12 (bm 2) e.d)
   ⟨Gk.of_go K6.1 G6.t (Go.refl G6.t),⟨b,K6⟩,[],by simp only [E.ds]; exact .nil,by simp only [X7,XZ,OkL],fun _ z=>nomatch z⟩ (fun i ar H7 p=>SqT.of (p.1.k _ _ PN)) (fun i ar H7 x hi la hx p=>?_) (fun ar H7 p la D2 Ez=>?_)⟩
  ·obtain ⟨G7,⟨b7,K7⟩,es,des,oks,ns⟩:=p;obtain ⟨fl,hfl,hfa⟩:=aG Rr i x hx;obtain ⟨cf,rfl,hcf⟩:=hfa.mono G7.k;have hfK:fl.2∈KS R:=(hok.vs fl (XD _ (Xh hfl))).2;exists cf,_,rfl,SqT.of hcf,rfl,_,_,rfl,_,_,rfl,rfl,⟨rfl,rfl⟩,bA ⟨_,rfl,_,rfl,_,rfl,tp,kd,fl.2,R,HS,Vs,v,hl,vl,gv,n,b7,true,rfl,G7.t,K7,env,hfK,fun u8 e8 H8 G8 K8 de oe ne ni=>nxT (by omega) hi la ⟨G7.trans G8,⟨_,K8⟩,es++[e8],?_,?_,fun y hy=>?_⟩⟩
   ·rw [E.ds_snoc];exact DTs.snoc de (des.mono G8.k)
   ·rw [Xn,hfl,Xb];exact OkL.snoc oe oks
   ·rcases Xm.mp hy with hy | hy
    ·exact ns y hy
    ·rw [Xi.mp hy]; exact ni
  ·obtain ⟨G7,⟨b7,K7⟩,es,des,oks,ns⟩:=p;rw [Paired.length ppx,Xo] at oks;have les:es.length<=2:=by rw [<- E.ds_len,<- des.len]; omega
   exists D2,_,rfl,.inl ⟨SqL.of ac,fun lt hlt=>?_⟩;have sA:=(ad Ez (.lst ar)).trans (ad hlt (.tup ar));have G8:=G7.same sA;have S4:=G8.x _ _ hDt hDk eD;have K8:eu tp (L2.upd (L2.upd H7 D2 (.lst ar)) lt (.tup ar)) kd R HS Vs v hl vl gv n b7:=K7.go G7.t (Go.same G7.t sA);exists _,rfl,_,rfl,_,rfl,D,_,rfl,.inl (SqL.of S4),tp,_,rfl,G8.t,by rw [W8]; omega,by rw [W8]; omega,fun vj H9 j0 j1 x9 t9 y9=>?_
   have G9:Go tp (L2.upd (L2.upd H7 D2 (.lst ar)) lt (.tup ar)) H9:=⟨x9,t9,y9⟩;obtain ⟨u,hu,_,hat⟩:=dX (xs:=ss.map V.str) (i:=vj) j0 j1;obtain ⟨z,hz,rfl⟩:=Xr.mp hu;exists D,_,_,_,rfl,rfl,SqL.of (x9 _ _ hDt S4),hat,_,rfl,_,rfl,zl4,fun p hp=>?_
   have k9:=(G9.tk G8.t).trans (aR hp (.tup [.str "call",.str z,.str hd.1,.ref lt]));refine one (s:=.call z hd.1 es) (((U7.trans G8).trans (Gk.of_go K8.1 G8.t G9)).new hp _) ⟨b7,(K8.go G8.t G9).go G9.t ((Go.refl G9.t).new hp _)⟩ rfl (.tup (.inl ac) (.cons (.str _) (.cons (.str _) (.cons (.str _) (.cons (.tup (.inl (k9 _ _ ac)) (des.mono ((ao sA).trans k9))) .nil))))) ⟨hd,hdm,rfl,hss z hz,oks⟩ ?_;have nt:=(kI ns).tup;have h1:es.length*(bm 2+2)<=2*(bm 2+2):=X0 _ les;exact ns1 rfl (B9 (m:=13) ((wd "call" ()).up (Xj _)) ((nW (dg (env.vn _ (hss z hz)))).up (Xj _)) ((nW (dg hok.nm)).up (Xj _)) nt) (by omega) (by omega)
 ·obtain ⟨m4,m5,m8,m9,Rv,rfl,gg⟩:=p;have G5:=G4.trans (Go.same G4.t gg);exists _,rfl,_,rfl,2,Xc _,tp,kd,R,HS,Vs,v,hl,vl,gv,n,b,rfl,G5.t,bn.go ht G5,env,fun u6 c6 H6 G6 K6 dc oc nc=>⟨zl3,fun p hp=>?_⟩
  obtain ⟨b6,K6⟩:=K6;refine one (s:=.say "x" c6) (((Gk.of_go bn.1 ht G5).trans G6).new hp _) ⟨_,K6.go G6.t ((Go.refl G6.t).new hp _)⟩ rfl (.tup (.inl ac) (.cons (.str _) (.cons (.str _) (.cons (dc.mono (aR hp _)) .nil)))) ⟨(),oc⟩ ?_;exact ns1 rfl (eV ((wd "say" ()).up (Xj _)) ((wd "x" ()).up (Xj _)) nc) (by omega) (by omega)
end
open PySem L2
theorem qL:∀ ss:List S,ss.length<=S.cnts ss
 | []=>Xj _
 | s::r=>by
  have:=s.cnt_pos
  have:=qL r
  simp only [W9,S.cnts];omega
abbrev cB:=cX×List S
noncomputable def lu (K:Frag) (H:Hp) (v:V) (F:cB):Prop:=∃ a p q bb xs,v=.ref a/\H a=some (.tup [.str F.1.1,p,q,.str F.1.2.2.2,.ref bb])/\bK H p F.1.2.1/\bK H q F.1.2.2.1/\H bb=some (.tup xs)/\DTs K H xs (S.ds F.2)
theorem lu.mono {K:Frag} {H H':Hp} (t:Tk H H') {v:V} {F:cB} (h:lu K H v F):lu K H' v F:=let ⟨a,p,q,bb,xs,e,h1,h2,h3,h4,h5⟩:=h; ⟨a,p,q,bb,xs,e,t _ _ h1,h2.mono t,h3.mono t,t _ _ h4,h5.mono t⟩
noncomputable def vg (K:Frag) (H:Hp) (v:V) (R:List Rec) (FS:List cB):Prop:=∃ a y z fx,v=.ref a/\H a=some (.tup [y,.ref z])/\gi H y R/\H z=some (.tup fx)/\Paired (lu K H) fx FS
theorem vg.mono {K:Frag} {H H':Hp} (t:Tk H H') {v:V} {R:List Rec} {FS:List cB} (h:vg K H v R FS):vg K H' v R FS:=let ⟨a,y,z,fx,e,h1,h2,h3,h4⟩:=h; ⟨a,y,z,fx,e,t _ _ h1,h2.mono t,t _ _ h3,Paired.mapP h4 fun _ _ q=>q.mono t⟩
structure FOk (R:List Rec) (HS:List cX) (F:cB):Prop where
 ok:eT R HS (F.1.2.1++F.1.2.2.1) F.1.2.2.2 F.2
 c8:S.cnts F.2<=8
 ns:∀ s∈F.2,NS 3 s
structure rT (R:List Rec) (HS:List cX) (FS:List cB):Prop where
 g:d4 R
 nd:(R.map (·.1)).Nodup
 rl:R.length<=3
 hs:I0 R HS
 eh:FS.map (·.1)=HS
 ok:∀ F∈FS,FOk R HS F
theorem CA {R:List Rec} {HS:List cX} {h:cX} (g:d4 R) (nd:(R.map (·.1)).Nodup) (rl:R.length<=3) (hs:I0 R HS) (hm:h∈HS):Ii R HS (h.2.1++h.2.2.1) h.2.2.2:=by
 have o:=hs.ok h hm;exists ⟨rl,g,nd,fun p hp=>(o.vs p hp).1,o.l5⟩,hs,fun p hp=>(o.vs p hp).2,o.l1,o.gv
theorem jN {α β:Type} {F:α->β->Prop}:∀ {l:List α} {m:List β},Paired F l m->∀ (j:Nat) b,m[j]?=some b->∃ a,l[j]?=some a/\F a b
 | _,_,.nil,_,_,h=>by simp at h
 | _,_,.cons h t,0,_,h1=>by simp at h1; subst h1; exact ⟨_,rfl,h⟩
 | _,_,.cons h t,j+1,_,h1=>by
  obtain ⟨b,e,q⟩:=jN t j _ (by simpa using h1);exists b,by simpa using e,q
section
variable {P:Program} {w:World} {K:Frag} {mg:Str->Option Value} {base:Heap} {f g:Addr} {fd gd:FuncData}
inductive Ge (vs:List V) (H:Hp) (Q:VK) (bu:XK):Prop
 | mk (v hl hs R HS) (i:Nat) (h:cX):(vs=[v,.ref hl,.int (i:Int)])->(gi H v R)->(H hl=some (.lst hs))->(Paired (iF H) hs HS)->(HS[i]?=some h)->(h.2.1.length+h.2.2.1.length<=1000)->(∀ kd vl xs H',av H H'->H kd=none->H vl=none->H' kd=some (.dK (km v hl vl h.2.2.2 8 true))->H' vl=some (.lst xs)->Paired (b8 H') xs (h.2.1++h.2.2.1)->Q (.ref kd) H')->Ge  vs H Q bu
abbrev pKt:List Str:=["_law_records_here", "_law_heads_here", "_law_f"]
abbrev Jg:List Str:=["_law_records_here", "_law_heads_here", "_law_f", "_law_head"]
theorem wZ:aA Jg ["_law_records_here", "_law_heads_here", "_law_f"] (defScope vz):=ZU 0
theorem MJ (T:G0 mg) (F:Zc "_law_kit" vz):Zb 1 pKt Ge:=by
 refine ZR F wZ
 ·obtain ⟨v,hl,hs,R,HS,i,h,rfl,_⟩:=h
  rfl
 obtain ⟨v,hl,hs,R,HS,i,h,rfl,hR,hhl,phs,hi,hln,q⟩:=h;exists _,(Z2 (ZA 3 wZ.nd (Z5 aD (pv 1) (pv 2))) (Z3 (Z7 (@JC _ _ _ _ _ (@gX _ _ _ _ _ _ _ _ _ ag (pv 0) (@gX _ _ _ _ _ _ _ _ _ ag (pv 1) (@gX _ _ _ _ _ _ _ _ _ ag (ZK aY T.list dR (Z0 (ZE (dF.or cO) (Z4 (pv 3)) (Z4 (pv 3))))) (@gX _ _ _ _ _ _ _ _ _ ag (Z4 (pv 3)) (@gX _ _ _ _ _ _ _ _ _ ag af (@gX _ _ _ _ _ _ _ _ _ ag dj J0)))))) rfl rfl (by simp) (by decide))))),?_;show let v1:L2.TS:=_; (am _ v1) _ _ _;intro v1;obtain ⟨x,hx,a,cp,cq,rfl,ha,⟨pa,px,rfl,hpa,ppx⟩,⟨qa,qx,rfl,hqa,pqx⟩⟩:=jN phs i h hi;exists _,rfl,_,rfl,hl,_,_,_,rfl,rfl,SqL.of hhl,eO hx,?_;refine fun pd hpd=>?_
 have g0:=ad hpd (.dK []);have wD:=g0 _ _ ha;exists _,rfl,_,rfl,_,rfl,a,_,_,_,rfl,rfl,SqT.of wD,rfl,_,rfl,a,_,_,_,rfl,rfl,SqT.of wD,rfl,?_;refine ek (g0 _ _ hpa) (g0 _ _ hqa) (by rw [Paired.length ppx,Paired.length pqx]; exact hln) fun pc H1 g1 hpc=>?_
 exists pc,_,rfl,.inr (SqT.of hpc),fun vl hvl=>?_
 have g2:=ad hvl (.lst (px++qx));have TJ:=(g0.trans g1).trans g2;have RX:=g2 _ _ (g1 _ _ (ac (H:=H) (a:=pd) (o:=.dK [])));exists _,rfl,a,_,_,_,rfl,rfl,SqT.of (TJ _ _ ha),rfl,RX,km v hl vl h.2.2.2 8 true,rfl,(by show 6<=15; decide),?_;have hvp:vl≠pd:=fun z=>by rw [z,g1 _ _ (ac (H:=H) (a:=pd) (o:=.dK []))] at hvl; cases hvl
 have gF:av H (upd (upd H1 vl (.lst (px++qx))) pd (.dK (mR [] (km v hl vl h.2.2.2 8 true)))):=fun b o e=>by rw [aj (ay e hpd)]; exact TJ _ _ e
 refine q pd vl (px++qx) _ gF hpd ((g0.trans g1).free hvl) ac (by rw [aj hvp]; exact ac) ?_;exact Paired.app' (Paired.mapP ppx fun _ _ z=>z.mono (ao gF)) (Paired.mapP pqx fun _ _ z=>z.mono (ao gF))
inductive lS (K:Frag) (vs:List V) (H:Hp) (Q:VK) (bu:XK):Prop
 | mk (tp):(vs=[.ref tp])->(Tp H tp)->(∀ v R HS FS H',Go tp H H'->vg K H' v R FS->rT R HS FS->Q v H')->lS K vs H Q bu
abbrev w6:List Str:=["_law_tape_here", "_law_records_here", "_law_heads_here", "_law_functions", "_law_f", "_law_kit_here"]
theorem dl:aA w6 ["_law_tape_here"] (defScope jb):=ZU 0
theorem Bi (T:G0 mg) (F:Zc "_law_program" jb) (yi:Za 3 "_law_records" ["_law_tape_here"] BR) (Ep:Za 3 "_law_heads" ["_law_tape_here", "_law_records_here"] vJ) (J7:Za 1 "_law_kit" pKt Ge) (jg:Za 22 "_law_body" pTx (lY K 3)) :
  Zb 23 ["_law_tape_here"] (lS K):=by
 refine ZR F dl
 ·obtain ⟨tp,rfl,_⟩:=h
  rfl
 obtain ⟨tp,rfl,ht,q⟩:=h;exists _,(Z2 (ZA 1 dl.nd (Z6 yi (Z0 (pv 0)))) (Z2 (ZA 2 dl.nd (Z6 Ep (Z1 (pv 0) (Z0 (pv 1))))) (Z2 (ZA 3 dl.nd (ZD aq)) (Z2 (ZM (el rfl T.range (Z0 (ZI (Z0 (pv 2))))) (ZO 4 dl.nd) (Z2 (ZA 5 dl.nd (Z6 J7 (Z1 (pv 1) (Z1 (pv 2) (Z0 (pv 4)))))) (Z3 (ZL (ZG (pv 3) (Z0 (ZE (dF.or cO) (Z5 aD (pv 2) (pv 4)) (ZF (Z0 (ZE (dF.or cO) (Z6 jg (Z1 (pv 0) (Z1 (pv 5) (Z0 af)))) (Z6 jg (Z1 (pv 0) (Z1 (pv 5) (Z0 af)))))))))))))) (Z3 (Z7 (ZF (Z1 (pv 1) (Z0 (ZK aH T.tuple bU (Z0 (pv 3)))))))))))),?_;show let v1:L2.TS:=_; let v2:L2.TS:=_; let v3:=am _ v2; let v4:=am (gW _ _ v3) v1; let v5:=am _ v4; let v6:=am _ v5; (am _ v6) _ _ _;intro v1 v2 v3 v4 v5 v6;exists _,rfl,tp,rfl,ht,fun rv R H1 G1 hR hRl hg hnd=>?_
 exists _,rfl,_,rfl,tp,rv,R,rfl,G1.t,hR,hRl,fun hl hs HS H2 G2 Qn hhl phs hsok=>?_
 have Np:=G1.trans G2;have hlt:hl≠tp:=G1.t.nt Qn;have S3:=hR.mono (G2.tk G1.t);have lhs:=Paired.length phs;have l3:=hsok.l3;exists zl0,fun fl hfl=>?_
 have G3:=Np.new hfl (.lst []);have hft:fl≠tp:=Np.t.nt hfl;have hfH:H fl=none:=Np.free ht hfl;have hfh:fl≠hl:=(ay hhl hfl).symm;have Qe:(L2.upd H2 fl (.lst [])) hl=some (.lst hs):=ad hfl _ _ _ hhl;refine ⟨_,rfl,hl,hs,rfl,.inl (SqL.of Qe),_,rfl,by omega,by omega,jr (lo:=0) (n:=((hs.length:Nat):Int).toNat) (fun i σ H'=>∃ m4 m5 fx FS,σ=[some (.ref tp),some rv,some (.ref hl),some (.ref fl),m4,m5]/\Go tp H H'/\Tk H2 H'/\H' hl=some (.lst hs)/\H' fl=some (.lst fx)/\Paired (lu K H') fx FS/\FS.map (·.1)=HS.take i/\∀ F∈FS,FOk R HS F)
  ⟨none,none,[],[],rfl,G3,aR hfl _,Qe,ac,.nil,by simp,fun _ z=>nomatch z⟩ (fun i σ H' hi p=>?_) (fun σ H' p=>?_)⟩
 ·obtain ⟨m4,m5,fx,FS,rfl,GA,kA,hhA,hfA,pFS,eFS,oFS⟩:=p;have Nt:i<HS.length:=by
   have:i<hs.length:=by simpa using hi
   omega
  have hhi:HS[i]?=some HS[i]:=XA Nt;generalize HS[i]=h at hhi;have hm:=Xh hhi;have hok:=hsok.ok h hm;have phA:=Paired.mapP phs fun _ _ z=>iF.mono kA z
  have hRA:=S3.mono kA;have envS:=CA hg hnd hRl hsok hm;have i0:(0+(i:Int))=(i:Int):=aat _;exists _,rfl,_,rfl,_,rfl,rv,hl,hs,R,HS,i,h,(show [rv,V.ref hl,V.int (0+(i:Int))]=_ by rw [i0]),hRA,hhA,phA,hhi,by have:=hok.l5; rw [W7] at this; omega,fun kd vl xs HB gB Qs Ug hkd hvl pxs=>?_
  have tB:=GA.t.same gB;have hkt:kd≠tp:=GA.t.nt Qs;have KB:eu tp HB kd R HS (h.2.1++h.2.2.1) rv hl vl h.2.2.2 8 true:=⟨hkd,hRA.mono (ao gB),hlt,GA.t.nt Ug,⟨hs,gB _ _ hhA,Paired.mapP phA fun _ _ z=>z.mono (ao gB)⟩,⟨xs,hvl,pxs⟩⟩;have hhk:hl≠kd:=ay hhA Qs;have hfk:fl≠kd:=ay hfA Qs;obtain ⟨x,hx,a,cp,cq,rfl,ha,pfl,qfl⟩:=jN phA i h hhi;exists _,rfl,.inl ⟨rfl,_,SqL.of (gB _ _ hfA)⟩,_,rfl,_,rfl,hl,_,_,_,rfl,rfl,SqL.of (gB _ _ hhA),Ms hx,?_;exists _,rfl,_,rfl,tp,kd,R,HS,_,rv,hl,vl,h.2.2.2,8,true,rfl,tB,KB,envS,by decide,fun a1 x1 s1 H3 n3 G3 K3 VH Wx oN d1 o1 ns1=>?_
  obtain ⟨b3,K3⟩:=K3;exists _,rfl,_,rfl,tp,kd,R,HS,_,rv,hl,vl,h.2.2.2,n3,b3,rfl,G3.t,K3,envS,VH,fun a2 x2 s2 H4 n4 G4 K4 W4 WN Vf d2 o2 Sm=>?_
  have l1:x1.length<=8:=by
   have e1:s1.length<=S.cnts s1:=qL s1;rw [d1.len,S.ds_len]; omega
  have l2:x2.length<=8:=by
   have e1:s2.length<=S.cnts s2:=qL s2;rw [d2.len,S.ds_len]; omega
  refine ek (G4.k _ _ oN) Vf (by omega) fun pc H5 g5 hpc=>?_
  exists zl1,fun p6 Py=>?_
  have g6:=ad Py (.tup [.ref pc]);have TW:Tk HB (upd H5 p6 (.tup [.ref pc])):=(G3.k.trans G4.k).trans (ao (g5.trans g6));refine ek (TW _ _ (gB _ _ ha)) ac (by show 4+1<=1000; decide) fun p7 H7 g7 UL=>?_
  have RE:=(g5.trans g6).trans g7;have GK:=(G3.trans G4).same RE;have Qb:=GK.x _ _ hft hfk (gB _ _ hfA);have R0:=GK.x _ _ hlt hhk (gB _ _ hhA);have GH:Go tp H H7:=by
   exists fun b o n e=>GK.x _ _ n (fun z=>?_) (gB _ _ (GA.x _ _ n e)),GK.t,GA.y.trans ((av.ts gB).trans GK.y)
   have:=GA.x _ _ n e
   rw [z,Qs] at this;cases this
  have lfx:fx.length<=3:=by
   rw [Paired.length pFS,<- W8 (f:=fun F:cB=>F.1),eFS,XO]; omega
  exists fl,fx,.ref p7,rfl,rfl,Qb,ap (by omega),?_;have kL:=aW Qb (.lst (fx++[.ref p7]));have k7:Tk HB H7:=TW.trans (ao g7);have kZ:=(ao gB).trans (k7.trans kL);exists _,_,fx++[.ref p7],FS++[(h,s1++s2)],rfl,GH.upd ht hfH _,kA.trans kZ,by rw [aj hfh.symm]; exact R0,ac,?_,?_,fun F hF=>?_
  ·refine Paired.snoc (Paired.mapP pFS fun _ _ z=>z.mono kZ) ⟨p7,cp,cq,pc,x1++x2,rfl,kL _ _ UL,pfl.mono kZ,qfl.mono kZ,kL _ _ ((g6.trans g7) _ _ hpc),?_⟩;show DTs K _ (x1++x2) (S.ds (s1++s2));rw [S.ds_app];exact (DTs.append (d1.mono (G4.k.trans (ao RE))) (d2.mono (ao RE))).mono kL
  ·rw [Xb,eFS,Xn,hhi]; rfl
  ·rcases Xm.mp hF with hF | hF
   ·exact oFS F hF
   ·rw [Xi.mp hF];exists eT.app o1 o2,?_,fun s IS=>?_
    ·show S.cnts (s1++s2)<=8;rw [S.cnts_app];omega
    ·rcases Xm.mp IS with h' | h'
     ·exact ns1 s h'
     ·exact Sm s h'
 ·obtain ⟨m4,m5,fx,FS,rfl,GA,kA,hhA,hfA,pFS,eFS,oFS⟩:=p;exists _,rfl,_,rfl,fl,fx,rfl,.inl ⟨SqL.of hfA,fun tt htt=>⟨zl2,fun p hp=>?_⟩⟩;have s1:=ad htt (.tup fx);have s2:=ad hp (.tup [rv,.ref tt]);have kS:=ao (s1.trans s2);rw [Yn,lhs,Xo] at eFS;exact q (.ref p) R HS FS _ (GA.trans (Go.same GA.t (s1.trans s2))) ⟨p,rv,tt,fx,rfl,ac,(S3.mono kA).mono kS,s2 _ _ ac,Paired.mapP pFS fun _ _ z=>z.mono kS⟩ ⟨hg,hnd,hRl,hsok,eFS,oFS⟩
theorem wV (T:G0 mg) (F:Zc "_law_leaf" fV) (b:cH K fd pLf []) (m:mg "_law_leaf"=some (.ref f)) (D:Za 1 "_law_draw" dP bS):∀ n:Nat,Zb (n+1) pLf (ip K n)
 | 0=>ky fun vs H Q E h=>by
  obtain ⟨tp,kd,k,R,HS,Vs,gv,n,b,_,_,_,_,h1,_⟩:=h;exact h1
 | n+1=>Jx T F D ⟨f,fd,wV T F b m D n,b,F.kp,m⟩
theorem Kl (T:G0 mg) (F:Zc "_law_e" kJ) (b:cH K fd pEx []) (m:mg "_law_e"=some (.ref f)) {f2:Addr} {Ka:FuncData} (F2:Fun K "_law_num" "_law_num" oU f2 Ka) (b2:cH K Ka pTx []) (m2:mg "_law_num"=some (.ref f2))
  {f3:Addr} {Qt:FuncData} (F3:Fun K "_law_row" "_law_row" lj f3 Qt) (b3:cH K Qt pTx []) (m3:mg "_law_row"=some (.ref f3)) (D:Za 1 "_law_draw" dP bS) (DL:Za 5 "_law_leaf" pLf (ip K 4)):∀ n:Nat,Zb (2*n+6) pEx (spE K n)
 | 0=>N2 (r1:=1) (r2:=1) (r3:=1) (by decide) (by decide) (by decide) T F D DL ⟨f,fd,ky (fun _ _ _ _ h=>h),b,F.kp,m⟩ ⟨f2,Ka,ky (fun _ _ _ _ h=>h),b2,F2.kp,m2⟩ ⟨f3,Qt,ky (fun _ _ _ _ h=>h),b3,F3.kp,m3⟩
 | n+1 =>
  have De:Za (2*n+6) "_law_e" pEx (spE K n):=⟨f,fd,Kl T F b m F2 b2 m2 F3 b3 m3 D DL n,b,F.kp,m⟩
  QO T F D DL De ⟨f2,Ka,Mq T F2 D De,b2,F2.kp,m2⟩ ⟨f3,Qt,Mh T F3 D De,b3,F3.kp,m3⟩
theorem wU (T:G0 mg) (F:Zc "_law_condition" eS) (b:cH K fd pTx []) (m:mg "_law_condition"=some (.ref f)) (D:Za 1 "_law_draw" dP bS) (DB:Za 11 "_law_bounded" pBd (fM K)):∀ n:Nat,Zb (n+12) pTx (DP K n)
 | 0=>Ct (r:=11) (spC:=fun _ _ _ _=>False) (Xc _) (fun d' h=>absurd h (Nat.not_lt_zero _)) T F D DB ⟨f,fd,ky (fun _ _ _ _ h=>h),b,F.kp,m⟩
 | n+1=>Ct (r:=n+12) (spC:=DP K n) (by omega) (fun d' h vs H Q E q=>⟨d',by omega,q⟩) T F D DB ⟨f,fd,wU T F b m D DB n,b,F.kp,m⟩
theorem xP (T:G0 mg) (F:Zc "_law_body" kW) (b:cH K fd pTx []) (m:mg "_law_body"=some (.ref f)) {f2:Addr} {Ka:FuncData} (F2:Fun K "_law_statement" "_law_statement" cT f2 Ka) (b2:cH K Ka pTx []) (m2:mg "_law_statement"=some (.ref f2))
  (D:Za 1 "_law_draw" dP bS) (DN:Za 2 "_law_names" dP jt) (DB:Za 11 "_law_bounded" pBd (fM K)) (DC:Za 14 "_law_condition" pTx (DP K 2)):∀ n:Nat,Zb (2*n+16) pTx (lY K n)
 | 0=>Ci (r:=15) (by decide) T F D ⟨f2,Ka,CK (r:=14) (spB:=fun _ _ _ _=>False) (Xc _) (fun d' h=>absurd h (by omega)) T F2 D DN DB DC ⟨f,fd,ky (fun _ _ _ _ h=>h),b,F.kp,m⟩,b2,F2.kp,m2⟩
 | n+1=>Ci (r:=2*n+17) (by omega) T F D ⟨f2,Ka,CK (r:=2*n+16) (spB:=lY K n) (by omega) (fun d' h vs H Q E q=>(Nat.succ.inj h) ▸ q) T F2 D DN DB DC ⟨f,fd,xP T F b m F2 b2 m2 D DN DB DC n,b,F.kp,m⟩,b2,F2.kp,m2⟩
end
end K6
namespace L2
open PySem PySem.Spec PyProof.Rows
theorem wv:∀ {ts:List Str} {us:List Value},aI (ts.map V.str) us->∃ l:List (Str×Tok),us=strValues l/\l.map (·.1)=ts
 | [],_,.nil=>⟨[],rfl,rfl⟩
 | t::ts,_,.cons r q=>by
  obtain ⟨k,rfl⟩:=r;obtain ⟨l,rfl,e⟩:=wv q;exists (t,k)::l,rfl,by rw [Xp,e]
theorem tH:∀ (l:List (Str×Tok)),aI ((l.map (·.1)).map V.str) (strValues l)
 | []=>.nil
 | p::r=>.cons ⟨p.2,rfl⟩ (tH r)
noncomputable def jl (sep:Str) (ts:List Str):Nat:=(ts.map (·.length)).sum+ts.length*sep.length
theorem CJ {sep:Str} {ts:List Str} (h:jl sep ts<=sizeLine):Builtin.Str.tooLong (ts.toArray.foldl (·+·.length+sep.length) 0)=false:=by
 rw [StrLaws.joinTotal];unfold Builtin.Str.tooLong;unfold jl at h;exact decide_eq_false (Nat.not_lt.mpr h)
section
variable {X:Cx}
inductive HH (K:Frag) (x:V) (vs:List V) (H:Hp) (Q:VK):Prop
 | mk (sep a) (ts:List Str):(x=.str sep)->(vs=[.ref a])->((SqL K H a (ts.map V.str)\/SqT K H a (ts.map V.str)))->(jl sep ts<=sizeLine)->(Q (.str (Str.join sep ts)) H)->HH K x vs H Q
theorem eR:MtR X "str.join" (HH X.K):=by
 intro ae s σ H x vs v us Q I rx rv h;obtain ⟨sep,a,ts,rfl,rfl,hq,hz,q⟩:=h;obtain ⟨t,rfl⟩:=rx;obtain ⟨u,rfl,ru⟩:=rv.one;cases ru;have fin:∀ (l:List (Str×Tok)),l.map (·.1)=ts->∀ (v:Value) (s':Shared),((∃ t' k,v=.str (Txt.join sep ts) t'/\s'={ s with toks:=k }))->EP X ae σ Q v s':=by
  rintro l hl v s' ⟨t',k,rfl,rfl⟩
  exists .str (Str.join sep ts),H,I.tok _,⟨t',?_⟩,q;show Value.str (Builtin.Str.glued sep ts) t'=_;rw [StrLaws.glued_eq_join]
 rcases hq with hq | hq
 ·obtain ⟨its,r,pl,_⟩:=I.list hq;obtain ⟨l,rfl,hl⟩:=wv r;refine call_meets F.slot_str_join (typeIs_str _ _ _) F.entry_str_join (F.args_str_join_2 _ _) (meets_str_join_list sep t a l (by rw [hl]; exact CJ hz)) ⟨pl.isList,?_⟩;refine post_join l ⟨by rw [hl]; exact joinFit_length (CJ hz),fun t' k=>?_⟩;exact fin l hl _ _ ⟨t',k,by rw [hl],rfl⟩
 ·obtain ⟨its,r,pl,_⟩:=I.tuple hq;obtain ⟨l,rfl,hl⟩:=wv r;obtain ⟨o,ho,hc,n,hd⟩:=id pl;refine call_meets F.slot_str_join (typeIs_str _ _ _) F.entry_str_join (F.args_str_join_2 _ _) (meets_str_join_tuple sep t a l (by rw [hl]; exact CJ hz)) ⟨⟨o,n,ho,hc,hd⟩,?_⟩;refine post_join l ⟨by rw [hl]; exact joinFit_length (CJ hz),fun t' k=>?_⟩;exact fin l hl _ _ ⟨t',k,by rw [hl],rfl⟩
inductive Gn (x:V) (vs:List V) (H:Hp) (Q:VK):Prop
 | mk (z y):(x=.str z)->(vs=[.str y])->((y.length==0)=false)->(z.length+2<=sizeLine)->(∀ D,H D=none->Q (.ref D) (upd H D (.lst ((Txt.split z y).map V.str))))->Gn  x vs H Q
theorem Hs:MtR X "str.split" Gn:=by
 intro ae s σ H x vs v us Q I rx rv h;obtain ⟨z,y,rfl,rfl,hy,hz,q⟩:=h;obtain ⟨t,rfl⟩:=rx;obtain ⟨u,rfl,k,rfl⟩:=rv.one;have hsl:=PyProof.Rows.split_le z y;have hx:z.length<=sizeLine:=by omega
 have fin:∀ (l:List (Str×Tok)) (tk:Nat),l.map (·.1)=Txt.split z y->EP X ae σ Q (.ref s.heap.objs.size) { s with heap:=s.heap.push { cls:=.type "list",data:=.seq (strValues l).toArray },toks:=tk }:=by
  intro l tk hl;have hf:H s.heap.objs.size=none:=I.hok.fresh (Xc _);exists .ref s.heap.objs.size,_,I.laid (t':=tk) (fun b u e=>Heap.get?_push_of_some _ e) (Xc _) (show bW X.prog X.w _ _ _ (.lst ((Txt.split z y).map V.str)) from ⟨?_,strValues l,0,by rw [<- hl]; exact tH l,Heap.get?_push_size _ rfl⟩),rfl,q _ hf;rw [W8];omega
 cases h1:(decide (z.length<y.length)||decide (Builtin.Str.strKind z<Builtin.Str.strKind y))
 ·cases hf:(Builtin.Str.occurrences z y 0 z.length (z.length+1)).isEmpty
  ·have e:Builtin.Str.partsBetween z (Builtin.Str.occurrences z y 0 z.length (z.length+1)) y.length=Txt.split z y:=((if_neg (ne_true_of_eq_false h1)).trans (if_neg (ne_true_of_eq_false hf))).symm;refine call_meets F.slot_str_split (typeIs_str _ _ _) F.entry_str_split (F.args_str_split_2 _ _) (meets_str_split_sep z y t k h1 hy hf hx (by rw [e]; omega)) ?_;rw [strsFrom_eq];exact fin _ _ ((numbered_texts _ _).trans e)
  ·exact call_meets F.slot_str_split (typeIs_str _ _ _) F.entry_str_split (F.args_str_split_2 _ _) (meets_str_split_not_found z y t k h1 hy hf) (fin [(z,t)] s.toks ((if_neg (ne_true_of_eq_false h1)).trans (if_pos hf)).symm)
 ·exact call_meets F.slot_str_split (typeIs_str _ _ _) F.entry_str_split (F.args_str_split_2 _ _) (meets_str_split_cannot_occur z y t k h1) (fin [(z,t)] s.toks (if_pos h1).symm)
theorem Dq:MtR X "str.startswith" (fun x vs H Q=>∃ z y,x=.str z/\vs=[.str y]/\Q (.bl (Txt.startswith z y)) H):=by
 intro ae s σ H x vs v us Q I rx rv h;obtain ⟨z,y,rfl,rfl,q⟩:=h;obtain ⟨t,rfl⟩:=rx;obtain ⟨u,rfl,k,rfl⟩:=rv.one;exact call_meets F.slot_str_startswith (typeIs_str _ _ _) F.entry_str_startswith (F.args_str_startswith_2 _ _) (gives_str_startswith z y t k).meets ⟨.bl (Txt.startswith z y),H,I,rfl,q⟩
theorem rO:d8 X (.type "int") (fun xs H Q=>∃ z n,xs=[.str z]/\z.length<=640/\PySem.intText? z=some n/\Q (.int n) H):=by
 intro ae s σ H xs us Q I r h;obtain ⟨z,n,rfl,hz,hn,q⟩:=h;obtain ⟨u,rfl,t,rfl⟩:=fT r;exact call_int_1 (PySem.W.KIN.gives_text hz hn).meets ⟨rfl,.int n,H,I.tok _,⟨_,rfl⟩,q⟩
end
end L2
namespace K6
open PySem
noncomputable def SPC:Str:=⟨#[32]⟩
theorem qw:∀ (x y:Str) (r:List Str),(Str.join SPC (x::y::r)).cps.toList=x.cps.toList++32::(Str.join SPC (y::r)).cps.toList:=fun x y r=>by
 show (x++SPC++Str.join SPC (y::r)).cps.toList=_;show ((x.cps++SPC.cps)++(Str.join SPC (y::r)).cps).toList=_;simp [SPC]
theorem Ho:∀ {a b:List Nat} {c d:List Nat},32∉a->32∉b->a++32::c=b++32::d->a=b/\c=d
 | [],[],c,d,_,_,h=>⟨rfl,(List.cons.inj h).2⟩
 | [],y::b,c,d,_,hb,h=>by
  have:=(List.cons.inj h).1
  exact absurd (by rw [<- this]; exact Xl ..) hb
 | x::a,[],c,d,ha,_,h=>by
  have:=(List.cons.inj h).1
  exact absurd (by rw [this]; exact Xl ..) ha
 | x::a,y::b,c,d,ha,hb,h=>by
  obtain ⟨h1,h2⟩:=List.cons.inj h;obtain ⟨e1,e2⟩:=Ho (fun z=>ha (Xg _ z)) (fun z=>hb (Xg _ z)) h2;exists by rw [h1,e1],e2
theorem xj:∀ {a b:List Str},a≠[]->b≠[]->(∀ z∈a,32∉z.cps.toList)->(∀ z∈b,32∉z.cps.toList)->Str.join SPC a=Str.join SPC b->a=b
 | [],_,h,_,_,_,_=>absurd rfl h
 | _,[],_,h,_,_,_=>absurd rfl h
 | [x],[y],_,_,_,_,h=>by rw [show x=y from h]
 | [x],y::y2::r,_,_,ha,_,h=>by
  have:=congrArg (fun z:Str=>z.cps.toList) h
  rw [show (Str.join SPC [x])=x from rfl] at this;simp only [qw] at this;exact absurd (by rw [this]; simp) (ha x (by simp))
 | x::x2::r,[y],_,_,_,hb,h=>by
  have:=congrArg (fun z:Str=>z.cps.toList) h
  rw [show (Str.join SPC [y])=y from rfl] at this;simp only [qw] at this;exact absurd (by rw [<- this]; simp) (hb y (by simp))
 | x::x2::r,y::y2::q,_,_,ha,hb,h=>by
  have:=congrArg (fun z:Str=>z.cps.toList) h
  simp only [qw] at this;obtain ⟨e1,e2⟩:=Ho (ha x (by simp)) (hb y (by simp)) this;have ex:x=y:=Str.ext' (aaG.mp e1);have et:=xj (a:=x2::r) (b:=y2::q) (by simp) (by simp) (fun z hz=>ha z (Xg _ hz)) (fun z hz=>hb z (Xg _ hz)) (Str.ext' (aaG.mp e2));rw [ex,et]
theorem zb {ws:List Str} (h:ws≠[]) (hs:∀ z∈ws,32∉z.cps.toList):Txt.split (Str.join SPC ws) SPC=ws:=by
 refine xj (fun z=>?_) h (StrLaws.split_free _ 32) hs (StrLaws.join_split _ _)
 have:=PyProof.Rows.split_pos (Str.join SPC ws) SPC
 rw [z] at this;simp at this
open L2
noncomputable def ns (i:Int):Str:=toString i
noncomputable def E.own:E->List Str
 | .num y1=>[ns y1]
 | .text y1=>("text":Str)::ns y1.length::(y1.cps.toList.map fun c:Nat=>ns (c:Int))
 | .var y1=>(["var",y1]:List Str)
 | .of_ y1 y2=>(["of",y2]:List Str)
 | .with_ y1 y2 y3=>(["with",y2]:List Str)
 | .new y1 y2=>(["new",y1,ns y2.length]:List Str)
 | .add y1 y2=>(["add"]:List Str)
 | .sub y1 y2=>(["sub"]:List Str)
 | .times y1 y2=>(["times",ns y1]:List Str)
 | .div y1 y2=>(["div",ns y2]:List Str)
 | .rest y1 y2=>(["rest",ns y2]:List Str)
 | .len y1=>(["len"]:List Str)
 | .at_ y1 y2=>(["at"]:List Str)
 | .rows y1=>(["rows",ns y1.length]:List Str)
 | .put y1 y2 y3=>(["put"]:List Str)
 | .more y1 y2=>(["more"]:List Str)
 | .signs y1=>(["signs"]:List Str)
noncomputable def E.inn:E->List E
 | .num y1=>[]
 | .text y1=>[]
 | .var y1=>[]
 | .of_ y1 y2=>[y1]
 | .with_ y1 y2 y3=>[y1,y3]
 | .new y1 y2=>y2
 | .add y1 y2=>[y1,y2]
 | .sub y1 y2=>[y1,y2]
 | .times y1 y2=>[y2]
 | .div y1 y2=>[y1]
 | .rest y1 y2=>[y1]
 | .len y1=>[y1]
 | .at_ y1 y2=>[y1,y2]
 | .rows y1=>y1
 | .put y1 y2 y3=>[y1,y2,y3]
 | .more y1 y2=>[y1,y2]
 | .signs y1=>[y1]
mutual
noncomputable def eW:E->List Str
 | .num y1=>([ns y1]:List Str)
 | .text y1=>(("text":Str)::ns y1.length::(y1.cps.toList.map fun c:Nat=>ns (c:Int)):List Str)
 | .var y1=>((["var",y1]:List Str):List Str)
 | .of_ y1 y2=>((["of",y2]:List Str):List Str)++eW y1
 | .with_ y1 y2 y3=>((["with",y2]:List Str):List Str)++(eW y1++eW y3)
 | .new y1 y2=>((["new",y1,ns y2.length]:List Str):List Str)++eWs y2
 | .add y1 y2=>((["add"]:List Str):List Str)++(eW y1++eW y2)
 | .sub y1 y2=>((["sub"]:List Str):List Str)++(eW y1++eW y2)
 | .times y1 y2=>((["times",ns y1]:List Str):List Str)++eW y2
 | .div y1 y2=>((["div",ns y2]:List Str):List Str)++eW y1
 | .rest y1 y2=>((["rest",ns y2]:List Str):List Str)++eW y1
 | .len y1=>((["len"]:List Str):List Str)++eW y1
 | .at_ y1 y2=>((["at"]:List Str):List Str)++(eW y1++eW y2)
 | .rows y1=>((["rows",ns y1.length]:List Str):List Str)++eWs y1
 | .put y1 y2 y3=>((["put"]:List Str):List Str)++(eW y1++(eW y2++eW y3))
 | .more y1 y2=>((["more"]:List Str):List Str)++(eW y1++eW y2)
 | .signs y1=>((["signs"]:List Str):List Str)++eW y1
noncomputable def eWs:List E->List Str
 | []=>[]
 | e::r=>eW e++eWs r
end
noncomputable def C.own:C->List Str
 | .less _ _=>["less"]
 | .same _ _=>["same"]
 | .and_ _ _=>["and"]
 | .or_ _ _=>["or"]
 | .not_ _=>["not"]
noncomputable def cW:C->List Str
 | .less y1 y2=>((["less"]:List Str):List Str)++(eW y1++eW y2)
 | .same y1 y2=>((["same"]:List Str):List Str)++(eW y1++eW y2)
 | .and_ y1 y2=>((["and"]:List Str):List Str)++(cW y1++cW y2)
 | .or_ y1 y2=>((["or"]:List Str):List Str)++(cW y1++cW y2)
 | .not_ y1=>((["not"]:List Str):List Str)++cW y1
theorem vh:∀ a b:List E,eWs (a++b)=eWs a++eWs b
 | [],b=>rfl
 | e::r,b=>by simp only [Xf,eWs,vh r b,Xs]
theorem CL (e:E):eW e=e.own++eWs e.inn:=by cases e<;>simp [eW,E.own,E.inn,eWs]
inductive Nd where
 | e (x:E) | c (x:C) | s (x:S)
noncomputable def Nd.d:Nd->PyData
 | .e x=>x.d
 | .c x=>x.d
 | .s x=>x.d
noncomputable def S.own:S->List Str
 | .let_ x _=>["let",x]
 | .say w _=>["say",w]
 | .if_ _ _ _=>["if"]
 | .while_ _ _=>["while"]
 | .call x f es=>["call",x,f,ns es.length]
 | .give _=>["give"]
noncomputable def S.inn:S->List Nd
 | .let_ _ e=>[.e e]
 | .say _ c=>[.c c]
 | .if_ c _ _=>[.c c]
 | .while_ c _=>[.c c]
 | .call _ _ es=>es.map .e
 | .give e=>[.e e]
noncomputable def C.inn:C->List Nd
 | .less y1 y2=>[.e y1,.e y2]
 | .same y1 y2=>[.e y1,.e y2]
 | .and_ y1 y2=>[.c y1,.c y2]
 | .or_ y1 y2=>[.c y1,.c y2]
 | .not_ y1=>[.c y1]
noncomputable def Nd.own:Nd->List Str
 | .e x=>x.own
 | .c x=>x.own
 | .s x=>x.own
noncomputable def Nd.inn:Nd->List Nd
 | .e x=>x.inn.map .e
 | .c x=>x.inn
 | .s x=>x.inn
noncomputable def hW:S->List Str
 | .let_ x e=>(["let",x]:List Str)++eW e
 | .say w c=>(["say",w]:List Str)++cW c
 | .if_ c _ _=>(["if"]:List Str)++cW c
 | .while_ c _=>(["while"]:List Str)++cW c
 | .call x f es=>(["call",x,f,ns es.length]:List Str)++eWs es
 | .give e=>(["give"]:List Str)++eW e
noncomputable def Nd.w:Nd->List Str
 | .e x=>eW x
 | .c x=>cW x
 | .s x=>hW x
noncomputable def nws:List Nd->List Str
 | []=>[]
 | n::r=>n.w++nws r
theorem fG:∀ a b:List Nd,nws (a++b)=nws a++nws b
 | [],b=>rfl
 | n::r,b=>by simp only [Xf,nws,fG r b,Xs]
theorem F9:∀ es:List E,nws (es.map .e)=eWs es
 | []=>rfl
 | e::r=>by simp only [Xp,nws,eWs,F9 r]; rfl
theorem Nd.w_eq (n:Nd):n.w=n.own++nws n.inn:=by
 cases n with
 | e x=>simp only [Nd.w,Nd.own,Nd.inn,F9]; exact CL x
 | c x=>cases x<;>simp [Nd.w,Nd.own,Nd.inn,C.own,C.inn,cW,nws]
 | s x=>cases x<;>simp [Nd.w,Nd.own,Nd.inn,S.own,S.inn,hW,nws,F9]
mutual
noncomputable def Wf:E->Prop
 | .num y1=>y1∈NUM
 | .text y1=>y1∈TXT
 | .var y1=>y1∈bg
 | .of_ y1 y2=>Wf y1/\y2∈bg
 | .with_ y1 y2 y3=>Wf y1/\y2∈bg/\Wf y3
 | .new y1 y2=>y1∈bg/\y2.length<=8/\Wfs y2
 | .add y1 y2=>Wf y1/\Wf y2
 | .sub y1 y2=>Wf y1/\Wf y2
 | .times y1 y2=>y1∈NUM/\Wf y2
 | .div y1 y2=>Wf y1/\(y2∈NUM/\2<=y2/\y2<=99)
 | .rest y1 y2=>Wf y1/\(y2∈NUM/\2<=y2/\y2<=99)
 | .len y1=>Wf y1
 | .at_ y1 y2=>Wf y1/\Wf y2
 | .rows y1=>y1.length<=8/\Wfs y1
 | .put y1 y2 y3=>Wf y1/\Wf y2/\Wf y3
 | .more y1 y2=>Wf y1/\Wf y2
 | .signs y1=>Wf y1
noncomputable def Wfs:List E->Prop
 | []=>True
 | e::r=>Wf e/\Wfs r
end
noncomputable def WfC:C->Prop
 | .less a b=>Wf a/\Wf b
 | .same a b=>Wf a/\Wf b
 | .and_ a b=>WfC a/\WfC b
 | .or_ a b=>WfC a/\WfC b
 | .not_ a=>WfC a
mutual
noncomputable def WfS:S->Prop
 | .let_ x e=>x∈bg/\Wf e
 | .say w c=>w∈bg/\WfC c
 | .if_ c a b=>WfC c/\jR a/\jR b
 | .while_ c a=>WfC c/\jR a
 | .call x f es=>x∈bg/\f∈bg/\es.length<=8/\Wfs es
 | .give e=>Wf e
noncomputable def jR:List S->Prop
 | []=>True
 | s::r=>WfS s/\jR r
end
noncomputable def Nd.wf:Nd->Prop
 | .e x=>Wf x
 | .c x=>WfC x
 | .s x=>WfS x
theorem lm:∀ {es:List E},Wfs es->∀ e∈es,Wf e
 | [],_,e,h=>nomatch h
 | a::r,q,e,h=>by
  simp only [Wfs] at q;rcases Xa.mp h with rfl | h
  ·exact q.1
  ·exact lm q.2 e h
theorem Nd.wf_inn {n:Nd} (h:n.wf):∀ x∈n.inn,x.wf:=by
 cases n with
 | e x =>
  intro y hy;obtain ⟨e,he,rfl⟩:=Xr.mp hy;have h':Wf x:=h;cases x<;>simp only [Wf] at h'<;>simp only [E.inn,Xa,Xe,or_false] at he<;>first
   | exact he.elim
   | exact lm h'.2.2 e he
   | exact lm h'.2 e he
   | (rcases he with rfl | rfl | rfl<;>first | exact h'.1 | exact h'.2.1 | exact h'.2.2)
   | (rcases he with rfl | rfl<;>first | exact h'.1 | exact h'.2 | exact h'.2.2)
   | (subst he; first | exact h' | exact h'.1 | exact h'.2)
 | c x =>
  intro y hy;have h':WfC x:=h;cases x<;>simp only [WfC] at h'<;>simp only [Nd.inn,C.inn,Xa,Xe,or_false] at hy<;>first
   | (rcases hy with rfl | rfl; exact h'.1; exact h'.2)
   | (subst hy; exact h')
 | s x =>
  intro y hy;have h':WfS x:=h;cases x<;>simp only [WfS] at h'<;>simp only [Nd.inn,S.inn,Xa,Xe,or_false] at hy<;>first
   | (subst hy; first | exact h' | exact h'.1 | exact h'.2)
   | (obtain ⟨e,he,rfl⟩:=Xr.mp hy; exact lm h'.2.2.2 e he)
theorem ug {R:List Rec} {Vs:List Fld} (env:Env R Vs) {r f k:Str} (h:(f,k)∈look R r):f∈bg:=by
 unfold look at h;cases e:R.find? fun x=>decide (x.1=r) with
 | none=>rw [e] at h; cases h
 | some x =>
  rw [e] at h;exact (ck env.g (Zj e)).2.1.2.2 _ h
theorem EZ {R:List Rec} {Vs:List Fld} (env:Env R Vs) {r:Str} (h:1<=(look R r).length):r∈bg/\(look R r).length<=3:=by
 unfold look at h ⊢;cases e:R.find? fun x=>decide (x.1=r) with
 | none=>rw [e] at h; simp at h
 | some x =>
  have hm:=ck env.g (Zj e);have hn:x.1=r:=by simpa using List.find?_some e
  exists hn ▸ hm.1,hm.2.1.1.2
mutual
theorem ce {R:List Rec} {Vs:List Fld} (env:Env R Vs):∀ (e:E) (k:Str),Ok R Vs e k->Wf e
 | .num y1,k,h=>by
  simp only [Ok] at h;simp only [Wf];exact h.2
 | .text y1,k,h=>by
  simp only [Ok] at h;simp only [Wf];exact h.2
 | .var y1,k,h=>by
  simp only [Ok] at h;simp only [Wf];exact env.vn _ h
 | .of_ y1 y2,k,h=>by
  simp only [Ok] at h;simp only [Wf];obtain ⟨r,h1,h2⟩:=h;exists ce env y1 r h1,ug env h2
 | .with_ y1 y2 y3,k,h=>by
  simp only [Ok] at h;simp only [Wf];obtain ⟨_,h1,k',h2,h3⟩:=h;exists ce env y1 _ h1,ug env h2,ce env y3 _ h3
 | .new y1 y2,k,h=>by
  simp only [Ok] at h;simp only [Wf];obtain ⟨_,_,h0,h1⟩:=h;obtain ⟨a,b⟩:=AB env y2 _ h1;obtain ⟨c1,c2⟩:=EZ env h0;rw [W8] at b;exists c1,by omega,a
 | .add y1 y2,k,h=>by
  simp only [Ok] at h;simp only [Wf];exists ce env y1 _ h.2.1,ce env y2 _ h.2.2
 | .sub y1 y2,k,h=>by
  simp only [Ok] at h;simp only [Wf];exists ce env y1 _ h.2.1,ce env y2 _ h.2.2
 | .times y1 y2,k,h=>by
  simp only [Ok] at h;simp only [Wf];exists h.2.1,ce env y2 _ h.2.2
 | .div y1 y2,k,h=>by
  simp only [Ok] at h;simp only [Wf];exists ce env y1 _ h.2.2,h.2.1
 | .rest y1 y2,k,h=>by
  simp only [Ok] at h;simp only [Wf];exists ce env y1 _ h.2.2,h.2.1
 | .len y1,k,h=>by
  simp only [Ok] at h;simp only [Wf];rcases h.2 with h | h
  ·exact ce env y1 _ h
  ·exact ce env y1 _ h
 | .at_ y1 y2,k,h=>by
  simp only [Ok] at h;simp only [Wf];exists ?_,ce env y2 _ h.2.2;rcases h.2.1 with h | h
  ·exact ce env y1 _ h
  ·exact ce env y1 _ h
 | .rows y1,k,h=>by
  simp only [Ok] at h;simp only [Wf];exists h.2.1,Ie env y1 h.2.2
 | .put y1 y2 y3,k,h=>by
  simp only [Ok] at h;simp only [Wf];exists ce env y1 _ h.2.1,ce env y2 _ h.2.2.1,ce env y3 _ h.2.2.2
 | .more y1 y2,k,h=>by
  simp only [Ok] at h;simp only [Wf];exists ce env y1 _ h.2.1,ce env y2 _ h.2.2
 | .signs y1,k,h=>by
  simp only [Ok] at h;simp only [Wf];exact ce env y1 _ h.2
theorem AB {R:List Rec} {Vs:List Fld} (env:Env R Vs):∀ (es:List E) (ks:List Str),OkL R Vs es ks->Wfs es/\es.length=ks.length
 | [],[],_=>by simp only [Wfs]; exact ⟨trivial,rfl⟩
 | e::es,k::ks,h=>by
  simp only [OkL] at h;obtain ⟨a,b⟩:=AB env es ks h.2;simp only [Wfs,W9];exists ⟨ce env e k h.1,a⟩,by omega
 | [],_::_,h=>by simp only [OkL] at h
 | _::_,[],h=>by simp only [OkL] at h
theorem Ie {R:List Rec} {Vs:List Fld} (env:Env R Vs):∀ (es:List E),OkN R Vs es->Wfs es
 | [],_=>by simp only [Wfs]
 | e::es,h=>by
  simp only [OkN] at h;simp only [Wfs];exists ce env e _ h.1,Ie env es h.2
end
theorem iO {R:List Rec} {Vs:List Fld} (env:Env R Vs):∀ (c:C),OkC R Vs c->WfC c
 | .less a b,h=>by simp only [OkC] at h; simp only [WfC]; exact ⟨ce env a _ h.1,ce env b _ h.2.2.1⟩
 | .same a b,h=>by simp only [OkC] at h; simp only [WfC]; exact ⟨ce env a _ h.1,ce env b _ h.2.2.1⟩
 | .and_ a b,h=>by simp only [OkC] at h; simp only [WfC]; exact ⟨iO env a h.1,iO env b h.2⟩
 | .or_ a b,h=>by simp only [OkC] at h; simp only [WfC]; exact ⟨iO env a h.1,iO env b h.2⟩
 | .not_ a,h=>by simp only [OkC] at h; simp only [WfC]; exact iO env a h
mutual
theorem Mv {R:List Rec} {HS:List cX} {Vs:List Fld} {gv:Str} (env:Ii R HS Vs gv):∀ (s:S),OkS R HS Vs gv s->WfS s
 | .let_ x e,h=>by
  simp only [OkS] at h;obtain ⟨k,h1,h2⟩:=h;simp only [WfS];exists env.env.vn _ h1,ce env.env e k h2
 | .say w c,h=>by simp only [OkS] at h; simp only [WfS]; exact ⟨h.1,iO env.env c h.2⟩
 | .if_ c a b,h=>by simp only [OkS] at h; simp only [WfS]; exact ⟨iO env.env c h.1,ll env a h.2.1,ll env b h.2.2⟩
 | .while_ c a,h=>by simp only [OkS] at h; simp only [WfS]; exact ⟨iO env.env c h.1,ll env a h.2⟩
 | .call x f es,h=>by
  simp only [OkS] at h;obtain ⟨hd,hm,hz,hx,ol⟩:=h;obtain ⟨a,b⟩:=AB env.env es _ ol;have hh:=env.hs.ok hd hm;have h2:=hh.p2;rw [W8] at b;simp only [WfS];exists env.env.vn _ hx,hz ▸ hh.nm,by omega,a
 | .give e,h=>by simp only [OkS] at h; simp only [WfS]; exact ce env.env e _ h
theorem ll {R:List Rec} {HS:List cX} {Vs:List Fld} {gv:Str} (env:Ii R HS Vs gv):∀ (ss:List S),eT R HS Vs gv ss->jR ss
 | [],_=>by simp only [jR]
 | s::r,h=>by simp only [eT] at h; simp only [jR]; exact ⟨Mv env s h.1,ll env r h.2⟩
end
noncomputable def FIX:List Str:=[("num":Str),("text":Str),("var":Str),("of":Str),("with":Str),("new":Str),("add":Str),("sub":Str),("times":Str),("div":Str),("rest":Str),("len":Str),("at":Str),("rows":Str),("put":Str),("more":Str),("signs":Str),("less":Str),("same":Str),("and":Str),("or":Str),("not":Str),("let":Str),("say":Str),("if":Str),("while":Str),("call":Str),("give":Str),("record":Str),("function":Str),("local":Str),("else":Str),("end":Str),("row":Str)]
noncomputable def WS8:List Str:=FIX++bg++NUM.map ns++((Yh 127).map fun i:Nat=>ns (i:Int))
theorem vQ:∀ z∈WS8,32∉z.cps.toList/\z.length<=10/\1<=z.length:=()
theorem vN {z:Str} (h:z∈FIX):z∈WS8:=by unfold WS8; simp only [Xm]; exact .inl (.inl (.inl h))
theorem cx {z:Str} (h:z∈bg):z∈WS8:=by unfold WS8; simp only [Xm]; exact .inl (.inl (.inr h))
theorem lI {i:Int} (h:i∈NUM):ns i∈WS8:=by unfold WS8; simp only [Xm]; exact .inl (.inr (Xr.mpr ⟨i,h,rfl⟩))
theorem ja {i:Nat} (h:i<127):ns (i:Int)∈WS8:=by unfold WS8; simp only [Xm]; exact .inr (Xr.mpr ⟨i,Yj.mpr h,rfl⟩)
theorem ma:∀ z∈TXT,z.length<=4/\∀ c∈z.cps.toList,c<127/\32<=c/\c≠37:=()
theorem MG {n:Nd} (h:n.wf):∀ z∈n.own,z∈WS8:=by
 intro z hz;have fx:∀ y∈FIX,z=y->z∈WS8:=fun y hy e=>by rw [e]; exact vN hy
 cases n with
 | e x =>
  have h':Wf x:=h;have rJ:z∈x.own:=hz;cases x with
  | text y1 =>
   simp only [Wf] at h';obtain ⟨l4,hc⟩:=ma y1 h';simp only [E.own,Xa,Xr] at rJ;rcases rJ with e | e | ⟨c,C7,e⟩
   ·exact fx _ () e
   ·rw [e]; exact ja (by omega)
   ·rw [<- e]; exact ja (hc c C7).1
  | _ =>
   simp only [Wf] at h';simp only [E.own,Xa,Xe,or_false] at rJ
   first
    | (rcases rJ with e | e | e
       ·exact fx _ () e
       ·rw [e]; exact cx h'.1
       ·rw [e]; exact ja (by omega))
    | (rcases rJ with e | e
       ·exact fx _ () e
       ·rw [e]; first | exact cx h' | exact cx h'.2 | exact cx h'.2.1 | exact lI h'.1 | exact lI h'.2.1 | exact ja (by omega))
    | (rw [rJ]; exact lI h')
    | exact fx _ () rJ
 | c x =>
  have rJ:z∈x.own:=hz;cases x<;>simp only [C.own,Xa,Xe,or_false] at rJ<;>exact fx _ () rJ
 | s x =>
  have h':WfS x:=h;have rJ:z∈x.own:=hz;cases x<;>simp only [WfS] at h'<;>simp only [S.own,Xa,Xe,or_false] at rJ<;>first
   | (rcases rJ with e | e | e | e
      ·exact fx _ () e
      ·rw [e]; exact cx h'.1
      ·rw [e]; exact cx h'.2.1
      ·rw [e]; exact ja (by omega))
   | (rcases rJ with e | e
      ·exact fx _ () e
      ·rw [e]; exact cx h'.1)
   | exact fx _ () rJ
end K6
namespace L2
open PySem PySem.Spec PyProof.Rows
section
variable {X:Cx} {o e:Expr} {apos dk:Pos} {td ty:TE}
structure KDv (K:Frag) (w:World) (a:Addr):Prop where
 ex:∃ es n,K.lookup a=some ⟨.type "dict",none,.dict es n,#[]⟩/\KeysLit w.params es.toList
 lo:(a==sysModules)=false
theorem yJ {a:Addr} (h:KDv X.K X.w a):OpR X (compareOp .In) (fun x y H Q=>∃ z r,x=.str z/\y=.ref a/\PySem.W.nsIn X.K a z=some r/\Q (.bl r.isSome) H):=by
 intro ae s σ H x y v u Q I rx ry hh;obtain ⟨z,r,rfl,rfl,e,q⟩:=hh;obtain ⟨t,rfl⟩:=rx;cases ry;obtain ⟨es,n,hl,hk⟩:=h.ex;have mo:=YU (prog:=X.prog) (w:=X.w) I.kIn hl hk;refine wpAny_in_of (strKind_is X.prog X.w z t) h.lo mo ⟨.bl r.isSome,H,I.tok _,?_,q⟩;rw [aag hl e]
 rfl
theorem Dg {a:Addr} (h:KDv X.K X.w a):IxR X (fun x y H Q=>∃ z u v,x=.ref a/\y=.str z/\PySem.W.nsIn X.K a z=some (some u)/\a7 v u/\Q v H):=by
 intro value slice ae s σ H x y v u Q I rx ry hh hs;obtain ⟨z,u',v',rfl,rfl,e,rv,q⟩:=hh;cases rx;obtain ⟨t,rfl⟩:=ry;obtain ⟨es,n,hl,hk⟩:=h.ex;have mo:=YU (prog:=X.prog) (w:=X.w) I.kIn hl hk;have fin:EP X ae σ Q u' { s with toks:=s.toks+1 }:=⟨v',H,I.tok _,rv,q⟩;exact subscriptTail_builtinR (x:=u') mo.typeIs PySem.F.slot_dict_getitem.lookup (wpAny_getItem_of (Q:=fun r s'=>r=_/\EP X ae σ Q r s') (strKind_is X.prog X.w z t) mo (aag hl e) ⟨rfl,fin⟩) hs
end
end L2
namespace K6
open PySem L2
theorem DT.open {K:Frag} {H:Hp} {u:V} {ds:List PyData} (h:DT K H u (.tuple ds)):∃ a xs,u=.ref a/\H a=some (.tup xs)/\DTs K H xs ds:=by
 cases h with
 | tup a b=>exact ⟨_,_,rfl,a.hp,b⟩
theorem DTs.open {K:Frag} {H:Hp} {xs:List V} {d:PyData} {ds:List PyData} (h:DTs K H xs (d::ds)):∃ x r,xs=x::r/\DT K H x d/\DTs K H r ds:=by
 cases h with
 | cons a b=>exact ⟨_,_,rfl,a,b⟩
theorem DT.str_inv {K:Frag} {H:Hp} {u:V} {z:Str} (h:DT K H u (.str z)):u=.str z:=by cases h; rfl
theorem DT.int_inv {K:Frag} {H:Hp} {u:V} {z:Int} (h:DT K H u (.int z)):u=.int z:=by cases h; rfl
noncomputable def LET:Str:=Xx "abcdefghijklmnopqrstuvwxyz"
noncomputable def NO:List Str:=["num", "text", "row", "gives", "rounds", "range"]
structure GN (K:Frag) (mg:Str->Option Value):Prop where
 pk:∃ a,mg "PLAIN_KINDS"=some (.ref a)/\∀ H,SqT K H a (PL.map V.str)
 nn:∃ a,mg "NO_NAMES"=some (.ref a)/\∀ H,SqT K H a (NO.map V.str)
 lt:∃ t,mg "LETTERS"=some (.str LET t)
noncomputable def tQ (c:Nat):Bool:=!(Builtin.Str.occurrences LET ⟨#[c]⟩ 0 LET.length 1).isEmpty
noncomputable def Kn (z:Str):Bool:=decide (1<=(z.length:Int))&&decide ((z.length:Int)<=8)&&(!inV (.str z) (NO.map V.str))&&z.cps.toList.all tQ
theorem Dx:∀ z∈bg,Kn z=true:=()
theorem Mb:(NO.map V.str).all jF=true:=by decide
theorem Eb (z:Str) (i:Nat) (c:Nat) (h:z.cps[i]?=some c):(z.cps.toList.take (i+1)).map tQ=(z.cps.toList.take i).map tQ++[tQ c]:=by
 rw [Xn,Xb]
 have:z.cps.toList[i]?=some c:=by simpa using h
 rw [this]; rfl
theorem kc {k:Str} {l:List Str}:inV (.str k) (l.map V.str)=decide (k∈l):=by
 induction l with
 | nil=>rfl
 | cons a r ih =>
  have e:inV (.str k) ((a::r).map V.str)=((a==k)||inV (.str k) (r.map V.str)):=rfl;rw [e,ih,Yu];simp only [Bool.or_eq_true,beq_iff_eq,decide_eq_true_eq,Xa]
  constructor
  ·rintro (h | h)
   ·exact .inl h.symm
   ·exact .inr h
  ·rintro (h | h)
   ·exact .inl h.symm
   ·exact .inr h
theorem az {t:Addr} {H H1:Hp} {o:HO} (h:H t=none) (g:av H H1):av H (upd H1 t o):=fun b u q=>by rw [aj (ay q h)]; exact g b u q
section
variable {P:Program} {w:World} {K:Frag} {mg:Str->Option Value} {base:Heap} {f g:Addr} {fd gd:FuncData}
noncomputable def jZ (i:Int):Bool:=decide (32<=i)&&decide (i<=126)&&decide (i≠37)
inductive Bn (vs:List V) (H:Hp) (Q:VK) (bu:XK):Prop
 | mk (i):(vs=[.int i])->(Q (.bl (jZ i)) H)->Bn  vs H Q bu
theorem Lj:aA ["number"] ["number"] (defScope eE):=ZU 0
theorem Jq (F:Zc "is_sign_number" eE):Zb 1 ["number"] Bn:=by
 refine F.ok Lj (fun vs H Q E h=>?_) (fun gm A outer s H vs Q E hr h=>?_)
 ·obtain ⟨i,rfl,_⟩:=h
  rfl
 obtain ⟨i,rfl,q⟩:=h;exists _,dW (jH (wc (Ij nO nO af (pv 0) af) (wb (gw kz (pv 0) af (cZ _))))),?_;exists _,rfl,_,_,rfl,rfl,_,rfl,?_;refine au (fun c1=>?_) (fun c1=>?_)
 ·exists _,_,rfl,rfl,_,rfl,?_;refine au (fun c2=>?_) (fun c2=>?_)
  ·exists _,rfl,rfl,?_;have e:jZ i=(!decide (V.int i=V.int 37)):=by
    unfold jZ;rw [c1,c2];simp
   rw [e] at q;exact q
  ·have e:jZ i=false:=by
    unfold jZ;rw [YK.mpr c2];simp
   rw [e] at q;exact q
 ·exists _,rfl,fI ?_;have e:jZ i=false:=by
   unfold jZ;rw [YK.mpr c1];simp
  rw [e] at q;exact q
abbrev tG:List Str:=["thing"]
abbrev kj:List Str:=["sign"]
theorem sj:kj.Nodup:=()
theorem A4:aA tG ["thing"] (defScope jn):=ZU 0
inductive qg (vs:List V) (H:Hp) (Q:VK) (bu:XK):Prop
 | mk (z):(vs=[.str z])->(z∈bg)->(∀ H',av H H'->Q (.bl true) H')->qg  vs H Q bu
theorem JM (T:G0 mg) (TN:GN K mg) (F:Zc "is_name" jn):Zb 1 ["thing"] qg:=by
 refine ZR F A4
 ·obtain ⟨z,rfl,_⟩:=h
  rfl
 obtain ⟨z,rfl,hz,q⟩:=h;obtain ⟨aN,mN,sN⟩:=TN.nn;obtain ⟨tL,mL⟩:=TN.lt;have nb:=Dx z hz;unfold Kn at nb;simp only [XT] at nb;obtain ⟨⟨⟨n1,n2⟩,n3⟩,n4⟩:=nb;have Wv:z.length<=8:=by have:=of_decide_eq_true n2; omega
 exists _,(Z2 (ZB (PW.pt (cK (dI (di (ZJ f8 T.isi pB (Z1 (pv 0) (Z0 (iq (v:=.ty "str") rfl T.str dJ rfl)))))) (cm (dI (p9 nO nO af (ZJ dY T.len hJ (Z0 (pv 0))) af))))) (Z3 (Z7 dj))) (Z3 (Z7 (wc (@gw _ _ _ _ _ _ _ _ vR (pv 0) (cg (v:=.ref aN) rfl mN rfl) rfl) (wb (ZJ (xJ rfl) T.all KR (Z0 (bF (N':=kj) (ρ:=[none]) (m:=1) (bL.of (fs:=defScope jn) (N:=tG) rfl rfl ()) rfl (vC (pv 0)) (fun _ _ _ _=>(ZO 0 sj)) (fun _ _ _ _=>bH) (fun _ _ _ _=>(gw uq (pv 0) (cg (v:=.str LET) rfl mL ⟨tL,rfl⟩) rfl)))))))))),?_;show let v1:L2.TS:=_; (am _ v1) _ _ _;intro v1;have rJ:z.length<=sizeLine:=by rw [sizeLine_eq]; omega
 exists _,rfl,_,_,_,true,rfl,.str z,rfl,_,rfl,fI ?_;exists _,rfl,z,rfl,rJ,_,_,rfl,rfl,_,rfl,?_;refine au (fun c1=>?_) (fun c1=>absurd n1 c1);exists _,_,rfl,rfl,_,rfl,?_;refine au (fun c2=>absurd c2 (by rw [n2]; decide)) (fun c2=>?_);exists _,rfl,aN,_,rfl,.inr (sN _),rfl,Mb,_,rfl,?_;refine au (fun c3=>?_) (fun c3=>absurd n3 c3);exists _,rfl,z,rfl,iV z.cps.size rfl (by show z.length<=_; omega) (fun i ar H'=>H'=H/\ar=((z.cps.toList.take i).map tQ).map V.bl) ⟨rfl,rfl⟩ (fun i ar H' c hi la hc p=>?_) (fun ar H' p la D hD=>?_)
 ·obtain ⟨rfl,rfl⟩:=p;exists ⟨rfl,rfl⟩,bA ?_;exists _,rfl,_,_,rfl,rfl,nxT (by show z.length<=_; omega) hi la ⟨rfl,?_⟩;rw [Eb z i c hc,Xb]
  rfl
 ·obtain ⟨rfl,rfl⟩:=p;have e:((z.cps.toList.take z.cps.size).map tQ).all id=true:=by
   rw [<- XS,Xo,Zn];exact n4
  exists D,_,rfl,SqL.of ac,?_;rw [e];exact q _ (ad hD _)
abbrev qQ:List Str:=["shaped", "word"]
abbrev jE:List Str:=["place", "shaped"]
theorem pD:jE.Nodup:=()
theorem nM:aA qQ ["shaped"] (defScope im):=ZU 0
end
section
variable {K:Frag} {H:Hp} {v:V} {z:Str}
theorem op0 {ds:List PyData} (h:DT K H v (.tuple (.str z::ds))):∃ a xs,v=.ref a/\H a=some (.tup (.str z::xs))/\DTs K H xs ds:=by
 obtain ⟨a,xs,rfl,ha,d⟩:=h.open;obtain ⟨x0,r0,rfl,h0,d1⟩:=d.open;obtain rfl:=h0.str_inv;exists a,r0,rfl,ha,d1
theorem op1 {d1:PyData} (h:DT K H v (.tuple [.str z,d1])):∃ a x1,v=.ref a/\H a=some (.tup [.str z,x1])/\DT K H x1 d1:=by
 obtain ⟨a,xs,rfl,ha,d⟩:=op0 h;obtain ⟨x1,r1,rfl,h1,d⟩:=d.open;cases d;exists a,x1,rfl,ha,h1
theorem op2 {d1 d2:PyData} (h:DT K H v (.tuple [.str z,d1,d2])):∃ a x1 x2,v=.ref a/\H a=some (.tup [.str z,x1,x2])/\DT K H x1 d1/\DT K H x2 d2:=by
 obtain ⟨a,xs,rfl,ha,d⟩:=op0 h;obtain ⟨x1,r1,rfl,h1,d⟩:=d.open;obtain ⟨x2,r2,rfl,h2,d⟩:=d.open;cases d;exists a,x1,x2,rfl,ha,h1,h2
theorem op3 {d1 d2 d3:PyData} (h:DT K H v (.tuple [.str z,d1,d2,d3])):∃ a x1 x2 x3,v=.ref a/\H a=some (.tup [.str z,x1,x2,x3])/\DT K H x1 d1/\DT K H x2 d2/\DT K H x3 d3:=by
 obtain ⟨a,xs,rfl,ha,d⟩:=op0 h;obtain ⟨x1,r1,rfl,h1,d⟩:=d.open;obtain ⟨x2,r2,rfl,h2,d⟩:=d.open;obtain ⟨x3,r3,rfl,h3,d⟩:=d.open;cases d;exists a,x1,x2,x3,rfl,ha,h1,h2,h3
end
open PySem L2
noncomputable def LIT:List (Str×Int):=[("call",3),("new",2),("rows",1)]
noncomputable def PL8:List (Str×List Int):=[("let",[2]),("say",[2]),("if",[1]),("while",[1]),("give",[1]),("num",[]),("text",[]),("var",[]),("of",[1]),("with",[1,3]),("add",[1,2]),("sub",[1,2]),("times",[2]),("div",[1]),("rest",[1]),("len",[1]),("at",[1,2]),("put",[1,2,3]),("more",[1,2]),("signs",[1]),("less",[1,2]),("same",[1,2]),("and",[1,2]),("or",[1,2]),("not",[1])]
structure GP8 (K:Frag) (w:World) (mg:Str->Option Value):Prop where
 sh:∃ aS,mg "SHAPES"=some (.ref aS)/\KDv K w aS/\∀ p∈PL8,∃ a b s n,PySem.W.nsIn K aS p.1=some (some (.ref a))/\(∀ H,SqT K H a [.str s,.int n,.ref b])/\∀ H,SqT K H b (p.2.map V.int)
 li:∃ aL,mg "LISTED"=some (.ref aL)/\KDv K w aL/\(∀ p∈LIT,∃ t,PySem.W.nsIn K aL p.1=some (some (.int p.2 t)))/\∀ p∈PL8,PySem.W.nsIn K aL p.1=some none
inductive oF (H:Hp):Str->List V->List Str->Prop
 | num {i:Int}:i∈NUM->oF H "num" [.int i] [ns i]
 | text {z:Str}:z∈TXT->oF H "text" [.str z] (("text":Str)::ns z.length::(z.cps.toList.map fun c:Nat=>ns (c:Int)))
 | one {z x:Str} {r:List V}:z∈(["let", "say", "var"]:List Str)->oF H z (.str x::r) [z,x]
 | two {z x:Str} {y:V} {r:List V}:z∈(["of", "with"]:List Str)->oF H z (y::.str x::r) [z,x]
 | tim {i:Int} {r:List V}:i∈NUM->oF H "times" (.int i::r) ["times",ns i]
 | div {z:Str} {i:Int} {y:V} {r:List V}:z∈(["div", "rest"]:List Str)->i∈NUM->oF H z (y::.int i::r) [z,ns i]
 | call {x g:Str} {al:Addr} {ys:List V}:H al=some (.tup ys)->ys.length<=8->oF H "call" [.str x,.str g,.ref al] ["call",x,g,ns ys.length]
 | new {x:Str} {al:Addr} {ys:List V}:H al=some (.tup ys)->ys.length<=8->oF H "new" [.str x,.ref al] ["new",x,ns ys.length]
 | rows {al:Addr} {ys:List V}:H al=some (.tup ys)->ys.length<=8->oF H "rows" [.ref al] ["rows",ns ys.length]
 | plain {z:Str} {r:List V}:z∈(["if", "while", "give", "add", "sub", "len", "at", "put", "more", "signs", "less", "same", "and", "or", "not"]:List Str)->oF H z r [z]
noncomputable def Mm (H:Hp) (z:Str) (rs L:List V):Prop :=
 (∃ ps:List Int,(z,ps)∈PL8/\L.length=ps.length/\ps.length<=3/\∀ (i:Nat) (p:Int),ps[i]?=some p->∃ y,atI (.str z::rs) p=some y/\L[i]?=some y) \/
 ∃ p al,(z,p)∈LIT/\atI (.str z::rs) p=some (.ref al)/\H al=some (.tup L)
theorem at1 {α:Type} (x y:α) (ys:List α):atI (x::y::ys) 1=some y:=eO (j:=1) rfl
theorem at2 {α:Type} (x y z:α) (ys:List α):atI (x::y::z::ys) 2=some z:=eO (j:=2) rfl
theorem qI:∀ es:List E,(es.map Nd.e).map Nd.d=E.ds es
 | []=>by simp only [XZ,E.ds]
 | e::r=>by simp only [Xp,E.ds,qI r]; rfl
theorem DTs.len8 {K:Frag} {H:Hp} {ys:List V} {es:List E} (h:DTs K H ys (E.ds es)):ys.length=es.length:=by rw [h.len,E.ds_len]
theorem bC {z:Str} {rs L:List V} {ps:List Int} (e:ps.map (fun p=>atI (.str z::rs) p)=L.map some) (i:Nat) (p:Int) (h:ps[i]?=some p):∃ y,atI (.str z::rs) p=some y/\L[i]?=some y:=by
 have h1:=congrArg (fun l=>l[i]?) e;simp only [XE,h,Option.map_some] at h1;cases hL:L[i]? with
 | none=>rw [hL] at h1; cases h1
 | some y=>rw [hL] at h1; exact ⟨y,Option.some.inj h1,rfl⟩
theorem CI {K:Frag} {H:Hp} {u:V} {n:Nd} (h:DT K H u n.d) (hw:n.wf):∃ a z rs L,u=.ref a/\H a=some (.tup (.str z::rs))/\oF H z rs n.own/\Mm H z rs L/\DTs K H L (n.inn.map Nd.d):=by
 cases n with
 | e x =>
  cases x with
  | num y1 =>
   simp only [Nd.d,E.d] at h;simp only [Nd.wf,Wf] at hw;obtain ⟨a,x1,rfl,ha,h1⟩:=op1 h;obtain rfl:=h1.int_inv;exists a,_,_,[],rfl,ha,.num hw,.inl ⟨[],(),rfl,by decide,bC rfl⟩,.nil
  | text y1 =>
   simp only [Nd.d,E.d] at h;simp only [Nd.wf,Wf] at hw;obtain ⟨a,x1,rfl,ha,h1⟩:=op1 h;obtain rfl:=h1.str_inv;exists a,_,_,[],rfl,ha,.text hw,.inl ⟨[],(),rfl,by decide,bC rfl⟩,.nil
  | var y1 =>
   simp only [Nd.d,E.d] at h;simp only [Nd.wf,Wf] at hw;obtain ⟨a,x1,rfl,ha,h1⟩:=op1 h;obtain rfl:=h1.str_inv;exists a,_,_,[],rfl,ha,.one (),.inl ⟨[],(),rfl,by decide,bC rfl⟩,.nil
  | of_ y1 y2 =>
   simp only [Nd.d,E.d] at h;simp only [Nd.wf,Wf] at hw;obtain ⟨a,x1,x2,rfl,ha,h1,h2⟩:=op2 h;obtain rfl:=h2.str_inv;exists a,_,_,[x1],rfl,ha,.two (),.inl ⟨[1],(),rfl,by decide,bC rfl⟩,(.cons h1 .nil)
  | with_ y1 y2 y3 =>
   simp only [Nd.d,E.d] at h;simp only [Nd.wf,Wf] at hw;obtain ⟨a,x1,x2,x3,rfl,ha,h1,h2,h3⟩:=op3 h;obtain rfl:=h2.str_inv;exists a,_,_,[x1,x3],rfl,ha,.two (),.inl ⟨[1,3],(),rfl,by decide,bC rfl⟩,(.cons h1 (.cons h3 .nil))
  | new y1 y2 =>
   simp only [Nd.d,E.d] at h;simp only [Nd.wf,Wf] at hw;obtain ⟨a,x1,x2,rfl,ha,h1,h2⟩:=op2 h;obtain rfl:=h1.str_inv;obtain ⟨al,ys,rfl,hal,dys⟩:=h2.open;have ly:=dys.len8;exists a,_,_,ys,rfl,ha,by simp only [Nd.own,E.own,<- ly]; exact .new hal (by omega),.inr ⟨2,al,(),rfl,hal⟩,by simp only [Nd.inn,E.inn,qI]; exact dys
  | add y1 y2 =>
   simp only [Nd.d,E.d] at h;simp only [Nd.wf,Wf] at hw;obtain ⟨a,x1,x2,rfl,ha,h1,h2⟩:=op2 h;exists a,_,_,[x1,x2],rfl,ha,.plain (),.inl ⟨[1,2],(),rfl,by decide,bC rfl⟩,(.cons h1 (.cons h2 .nil))
  | sub y1 y2 =>
   simp only [Nd.d,E.d] at h;simp only [Nd.wf,Wf] at hw;obtain ⟨a,x1,x2,rfl,ha,h1,h2⟩:=op2 h;exists a,_,_,[x1,x2],rfl,ha,.plain (),.inl ⟨[1,2],(),rfl,by decide,bC rfl⟩,(.cons h1 (.cons h2 .nil))
  | times y1 y2 =>
   simp only [Nd.d,E.d] at h;simp only [Nd.wf,Wf] at hw;obtain ⟨a,x1,x2,rfl,ha,h1,h2⟩:=op2 h;obtain rfl:=h1.int_inv;exists a,_,_,[x2],rfl,ha,.tim hw.1,.inl ⟨[2],(),rfl,by decide,bC rfl⟩,(.cons h2 .nil)
  | div y1 y2 =>
   simp only [Nd.d,E.d] at h;simp only [Nd.wf,Wf] at hw;obtain ⟨a,x1,x2,rfl,ha,h1,h2⟩:=op2 h;obtain rfl:=h2.int_inv;exists a,_,_,[x1],rfl,ha,.div () hw.2.1,.inl ⟨[1],(),rfl,by decide,bC rfl⟩,(.cons h1 .nil)
  | rest y1 y2 =>
   simp only [Nd.d,E.d] at h;simp only [Nd.wf,Wf] at hw;obtain ⟨a,x1,x2,rfl,ha,h1,h2⟩:=op2 h;obtain rfl:=h2.int_inv;exists a,_,_,[x1],rfl,ha,.div () hw.2.1,.inl ⟨[1],(),rfl,by decide,bC rfl⟩,(.cons h1 .nil)
  | len y1 =>
   simp only [Nd.d,E.d] at h;simp only [Nd.wf,Wf] at hw;obtain ⟨a,x1,rfl,ha,h1⟩:=op1 h;exists a,_,_,[x1],rfl,ha,.plain (),.inl ⟨[1],(),rfl,by decide,bC rfl⟩,(.cons h1 .nil)
  | at_ y1 y2 =>
   simp only [Nd.d,E.d] at h;simp only [Nd.wf,Wf] at hw;obtain ⟨a,x1,x2,rfl,ha,h1,h2⟩:=op2 h;exists a,_,_,[x1,x2],rfl,ha,.plain (),.inl ⟨[1,2],(),rfl,by decide,bC rfl⟩,(.cons h1 (.cons h2 .nil))
  | rows y1 =>
   simp only [Nd.d,E.d] at h;simp only [Nd.wf,Wf] at hw;obtain ⟨a,x1,rfl,ha,h1⟩:=op1 h;obtain ⟨al,ys,rfl,hal,dys⟩:=h1.open;have ly:=dys.len8;exists a,_,_,ys,rfl,ha,by simp only [Nd.own,E.own,<- ly]; exact .rows hal (by omega),.inr ⟨1,al,(),rfl,hal⟩,by simp only [Nd.inn,E.inn,qI]; exact dys
  | put y1 y2 y3 =>
   simp only [Nd.d,E.d] at h;simp only [Nd.wf,Wf] at hw;obtain ⟨a,x1,x2,x3,rfl,ha,h1,h2,h3⟩:=op3 h;exists a,_,_,[x1,x2,x3],rfl,ha,.plain (),.inl ⟨[1,2,3],(),rfl,by decide,bC rfl⟩,(.cons h1 (.cons h2 (.cons h3 .nil)))
  | more y1 y2 =>
   simp only [Nd.d,E.d] at h;simp only [Nd.wf,Wf] at hw;obtain ⟨a,x1,x2,rfl,ha,h1,h2⟩:=op2 h;exists a,_,_,[x1,x2],rfl,ha,.plain (),.inl ⟨[1,2],(),rfl,by decide,bC rfl⟩,(.cons h1 (.cons h2 .nil))
  | signs y1 =>
   simp only [Nd.d,E.d] at h;simp only [Nd.wf,Wf] at hw;obtain ⟨a,x1,rfl,ha,h1⟩:=op1 h;exists a,_,_,[x1],rfl,ha,.plain (),.inl ⟨[1],(),rfl,by decide,bC rfl⟩,(.cons h1 .nil)
 | c x =>
  cases x with
  | less y1 y2 =>
   simp only [Nd.d,C.d] at h;simp only [Nd.wf,WfC] at hw;obtain ⟨a,x1,x2,rfl,ha,h1,h2⟩:=op2 h;exists a,_,_,[x1,x2],rfl,ha,.plain (),.inl ⟨[1,2],(),rfl,by decide,bC rfl⟩,(.cons h1 (.cons h2 .nil))
  | same y1 y2 =>
   simp only [Nd.d,C.d] at h;simp only [Nd.wf,WfC] at hw;obtain ⟨a,x1,x2,rfl,ha,h1,h2⟩:=op2 h;exists a,_,_,[x1,x2],rfl,ha,.plain (),.inl ⟨[1,2],(),rfl,by decide,bC rfl⟩,(.cons h1 (.cons h2 .nil))
  | and_ y1 y2 =>
   simp only [Nd.d,C.d] at h;simp only [Nd.wf,WfC] at hw;obtain ⟨a,x1,x2,rfl,ha,h1,h2⟩:=op2 h;exists a,_,_,[x1,x2],rfl,ha,.plain (),.inl ⟨[1,2],(),rfl,by decide,bC rfl⟩,(.cons h1 (.cons h2 .nil))
  | or_ y1 y2 =>
   simp only [Nd.d,C.d] at h;simp only [Nd.wf,WfC] at hw;obtain ⟨a,x1,x2,rfl,ha,h1,h2⟩:=op2 h;exists a,_,_,[x1,x2],rfl,ha,.plain (),.inl ⟨[1,2],(),rfl,by decide,bC rfl⟩,(.cons h1 (.cons h2 .nil))
  | not_ y1 =>
   simp only [Nd.d,C.d] at h;simp only [Nd.wf,WfC] at hw;obtain ⟨a,x1,rfl,ha,h1⟩:=op1 h;exists a,_,_,[x1],rfl,ha,.plain (),.inl ⟨[1],(),rfl,by decide,bC rfl⟩,(.cons h1 .nil)
 | s x =>
  cases x with
  | let_ y1 y2 =>
   simp only [Nd.d,S.d] at h;simp only [Nd.wf,WfS] at hw;obtain ⟨a,x1,x2,rfl,ha,h1,h2⟩:=op2 h;obtain rfl:=h1.str_inv;exists a,_,_,[x2],rfl,ha,.one (),.inl ⟨[2],(),rfl,by decide,bC rfl⟩,(.cons h2 .nil)
  | say y1 y2 =>
   simp only [Nd.d,S.d] at h;simp only [Nd.wf,WfS] at hw;obtain ⟨a,x1,x2,rfl,ha,h1,h2⟩:=op2 h;obtain rfl:=h1.str_inv;exists a,_,_,[x2],rfl,ha,.one (),.inl ⟨[2],(),rfl,by decide,bC rfl⟩,(.cons h2 .nil)
  | if_ y1 y2 y3 =>
   simp only [Nd.d,S.d] at h;simp only [Nd.wf,WfS] at hw;obtain ⟨a,x1,x2,x3,rfl,ha,h1,h2,h3⟩:=op3 h;exists a,_,_,[x1],rfl,ha,.plain (),.inl ⟨[1],(),rfl,by decide,bC rfl⟩,(.cons h1 .nil)
  | while_ y1 y2 =>
   simp only [Nd.d,S.d] at h;simp only [Nd.wf,WfS] at hw;obtain ⟨a,x1,x2,rfl,ha,h1,h2⟩:=op2 h;exists a,_,_,[x1],rfl,ha,.plain (),.inl ⟨[1],(),rfl,by decide,bC rfl⟩,(.cons h1 .nil)
  | call y1 y2 y3 =>
   simp only [Nd.d,S.d] at h;simp only [Nd.wf,WfS] at hw;obtain ⟨a,x1,x2,x3,rfl,ha,h1,h2,h3⟩:=op3 h;obtain rfl:=h1.str_inv;obtain rfl:=h2.str_inv;obtain ⟨al,ys,rfl,hal,dys⟩:=h3.open;have ly:=dys.len8;exists a,_,_,ys,rfl,ha,by simp only [Nd.own,S.own,<- ly]; exact .call hal (by omega),.inr ⟨3,al,(),rfl,hal⟩,by simp only [Nd.inn,S.inn,qI]; exact dys
  | give y1 =>
   simp only [Nd.d,S.d] at h;simp only [Nd.wf,WfS] at hw;obtain ⟨a,x1,rfl,ha,h1⟩:=op1 h;exists a,_,_,[x1],rfl,ha,.plain (),.inl ⟨[1],(),rfl,by decide,bC rfl⟩,(.cons h1 .nil)
section
variable {P:Program} {w:World} {K:Frag} {mg:Str->Option Value} {base:Heap} {f g:Addr} {fd gd:FuncData}
inductive Fx (vs:List V) (H:Hp) (Q:VK) (bu:XK):Prop
 | mk (a z rs L):(vs=[.ref a])->(H a=some (.tup (.str z::rs)))->(Mm H z rs L)->(∀ r H',av H H'->H r=none->H' r=some (.lst L)->Q (.ref r) H')->Fx  vs H Q bu
theorem ME (TP:GP8 K w mg) (T:G0 mg) (F:Zc "inner_of" im):Zb 1 ["shaped"] Fx:=by
 obtain ⟨aS,mS_,kS,hS⟩:=TP.sh;obtain ⟨aL,mL,kL,hLs,hLn⟩:=TP.li;refine ZR F nM
 ·obtain ⟨a,z,rs,L,rfl,_⟩:=h
  rfl
 obtain ⟨a,z,rs,L,rfl,ha,h,q⟩:=h;exists _,(Z2 (ZA 1 nM.nd (Z4 (pv 0))) (Z2 (ZB (Z9 (yJ kL) (pv 1) (cg (v:=.ref aL) rfl mL rfl)) (Z3 (Z7 (ZK aY T.list dR (Z0 (Z5 cV (pv 0) (Z5 (Dg kL) (cg (v:=.ref aL) rfl mL rfl) (pv 1)))))))) (Z3 (Z7 (bF (N':=jE) (ρ:=[none,some 0]) (m:=1) (bL.of (fs:=defScope im) (N:=qQ) rfl rfl ()) rfl (bI (aZ cV (aZ (Dg kS) (cg (v:=.ref aS) rfl mS_ rfl) (pv 1) (fun _ _=>rfl)) af (fun _ _=>rfl))) (fun _ _ _ _=>(ZO 0 pD)) (fun _ _ _ _=>bH) (fun _ _ _ _=>(aZ (eP (K:=K) rfl) (pv 1) (pv 0) (fun _ _=>rfl)))))))),?_;show let v1:L2.TS:=_; let v2:L2.TS:=_; let v3:=am (bf _ v2 _) v1; (am _ v3) _ _ _;intro v1 v2 v3;exists _,rfl,a,_,_,_,rfl,rfl,SqT.of ha,at0 _ _,?_;rcases h with ⟨ps,hm,lL,lp,hp⟩ | ⟨p,al,hm,hp,hal⟩
 ·obtain ⟨aw,bw,sw,nw,g1,g2,g3⟩:=hS (z,ps) hm;exists _,rfl,_,none,rfl,rfl,hLn (z,ps) hm,_,rfl,fI ⟨_,rfl,_,_,.ref aw,rfl,rfl,g1,rfl,aw,_,_,_,rfl,rfl,g2 _,rfl,bw,rfl,⟨_,g3 _⟩,?_⟩;refine cF (xs:=ps.map V.int) ps.length (by rw [W8]) (by omega) (fun i ar H4=>H4=H/\ar=L.take i) ⟨rfl,rfl⟩ (fun i ar H4 p=>g3 _) (fun i ar H4 x hi la hx p=>?_) (fun ar H4 p la D hD=>?_)
  ·obtain ⟨rfl,rfl⟩:=p;rw [XE] at hx;obtain ⟨pp,hpp,rfl⟩:=XQ.mp hx;obtain ⟨y,PY,IM⟩:=hp i pp hpp;exists ⟨rfl,rfl⟩,bA ⟨_,rfl,_,rfl,a,_,_,_,rfl,rfl,SqT.of ha,PY,nxT (by omega) hi la ⟨rfl,by rw [Xn,IM]; rfl⟩⟩
  ·obtain ⟨rfl,rfl⟩:=p;rw [<- lL,Xo];exact q D _ (ad hD _) hD ac
 ·obtain ⟨t,ht⟩:=hLs (z,p) hm;exists _,rfl,_,_,rfl,rfl,ht,_,rfl,dO ⟨_,rfl,_,rfl,_,_,.int p,rfl,rfl,ht,⟨_,rfl⟩,a,_,_,_,rfl,rfl,SqT.of ha,hp,al,_,rfl,.inr (SqT.of hal),fun l ou=>q l _ (ad ou _) ou ac⟩
abbrev oq:List Str:=["shaped", "word"]
abbrev iM:List Str:=["sign"]
theorem oI:iM.Nodup:=()
theorem kY:aA oq ["shaped"] (defScope gy):=ZU 0
inductive L0 (vs:List V) (H:Hp) (Q:VK) (bu:XK):Prop
 | mk (a z rs ws):(vs=[.ref a])->(H a=some (.tup (.str z::rs)))->(oF H z rs ws)->(∀ r H',av H H'->H r=none->H' r=some (.lst (ws.map V.str))->Q (.ref r) H')->L0  vs H Q bu
theorem fL:∀ i∈NUM,i.natAbs.log2<1920:=()
theorem cS {n:Nat} (h:n<=1000):(n:Int).natAbs.log2<1920:=by
 rw [Int.natAbs_natCast];rcases Nat.eq_zero_or_pos n with rfl | hp
 ·decide
 ·exact (Nat.log2_lt (by omega)).mpr (Y0 h (XF (by decide:1000<2 ^ 10) (Nat.pow_le_pow_right (by decide) (by decide))))
theorem N1 (T:G0 mg) (F:Zc "own_words" gy):Zb 1 ["shaped"] L0:=by
 refine ZR F kY
 ·obtain ⟨a,z,rs,ws,rfl,_⟩:=h
  rfl
 obtain ⟨a,z,rs,ws,rfl,ha,h,q⟩:=h;exists _,(Z2 (ZA 1 kY.nd (Z4 (pv 0))) (Z2 (ZB (Z8 aJ (pv 1) ag) (Z3 (Z7 (ZD (Z0 (ZK aK T.str dJ (Z0 (Z4 (pv 0))))))))) (Z2 (ZB (Z8 aJ (pv 1) ag) (Z3 (Z7 (ZE bQ (ZD (Z1 (pv 1) (Z0 (ZK aK T.str dJ (Z0 (ZJ (dY.or bq) T.len hJ (Z0 (Z4 (pv 0))))))))) (bF (N':=iM) (ρ:=[none]) (m:=1) (bL.of (fs:=defScope gy) (N:=oq) rfl rfl ()) rfl (vC (aZ cV (pv 0) af (fun _ _=>rfl))) (fun _ _ _ _=>(ZO 0 oI)) (fun _ _ _ _=>bH) (fun _ _ _ _=>(fN aK rfl T.str dJ (ak (cP xk rfl T.ord KU (ak (pv 0) aq)) aq)))))))) (Z2 (ZB (Z9 bz (pv 1) (ZF (Z1 ag (Z1 ag (Z0 ag))))) (Z3 (Z7 (ZD (Z1 (pv 1) (Z0 (Z4 (pv 0)))))))) (Z2 (ZB (Z9 bz (pv 1) (ZF (Z1 ag (Z0 ag)))) (Z3 (Z7 (ZD (Z1 (pv 1) (Z0 (Z4 (pv 0)))))))) (Z2 (ZB (Z8 aJ (pv 1) ag) (Z3 (Z7 (ZD (Z1 (pv 1) (Z0 (ZK aK T.str dJ (Z0 (Z4 (pv 0)))))))))) (Z2 (ZB (Z9 bz (pv 1) (ZF (Z1 ag (Z0 ag)))) (Z3 (Z7 (ZD (Z1 (pv 1) (Z0 (ZK aK T.str dJ (Z0 (Z4 (pv 0)))))))))) (Z2 (ZB (Z8 aJ (pv 1) ag) (Z3 (Z7 (ZD (Z1 (pv 1) (Z1 (Z4 (pv 0)) (Z1 (Z4 (pv 0)) (Z0 (ZK aK T.str dJ (Z0 (ZI (Z0 (Z4 (pv 0)))))))))))))) (Z2 (ZB (Z8 aJ (pv 1) ag) (Z3 (Z7 (ZD (Z1 (pv 1) (Z1 (Z4 (pv 0)) (Z0 (ZK aK T.str dJ (Z0 (ZI (Z0 (Z4 (pv 0))))))))))))) (Z2 (ZB (Z8 aJ (pv 1) ag) (Z3 (Z7 (ZD (Z1 (pv 1) (Z0 (ZK aK T.str dJ (Z0 (ZJ (dY.or bq) T.len hJ (Z0 (Z4 (pv 0)))))))))))) (Z3 (Z7 (ZD (Z0 (pv 1))))))))))))))),?_;show let v1:L2.TS:=_; let v2:L2.TS:=_; let v3:=am (bf _ v2 _) v1; let v4:L2.TS:=_; let v5:=am (bf _ v4 _) v3; let v6:L2.TS:=_; let v7:=am (bf _ v6 _) v5; let v8:L2.TS:=_; let v9:=am (bf _ v8 _) v7; let oK:L2.TS:=_; let wN:=am (bf _ oK _) v9; let ym:L2.TS:=_; let IH:=am (bf _ ym _) wN; let IL:L2.TS:=_; let IK:=am (bf _ IL _) IH; let IE:L2.TS:=_; let Pp:=am (bf _ IE _) IK; let Ph:L2.TS:=_; let Qd:=am (bf _ Ph _) Pp; (am _ Qd) _ _ _;intro v1 v2 v3 v4 v5 v6 v7 v8 v9 oK wN ym IH IL IK IE Pp Ph Qd;exists _,rfl,a,_,_,_,rfl,rfl,SqT.of ha,at0 _ _,?_;cases h with
 | num hi =>
  exists _,rfl,rfl,_,rfl,ZQ ?_;exists _,rfl,a,_,_,_,rfl,rfl,SqT.of ha,rfl,_,rfl,fL _ hi,zl1,fun l hl=>q l _ (ad hl _) hl ac
 | @text z hz =>
  exists _,rfl,rfl,_,rfl,ZP ?_;exists _,rfl,rfl,_,rfl,ZQ ?_;obtain ⟨lz,cz⟩:=ma z hz;have rJ:z.length<=sizeLine:=by rw [sizeLine_eq]; omega
  exists _,rfl,_,rfl,a,_,_,_,rfl,rfl,SqT.of ha,rfl,.inl ⟨z,rfl,rJ,_,rfl,cS (by omega),zl2,fun l hl=>?_⟩;have g0:=ad hl (.lst [.str "text",.str (ns z.length)]);exists _,rfl,a,_,_,_,rfl,rfl,SqT.of (g0 _ _ ha),rfl,z,rfl,iV z.cps.size rfl (by show z.length<=_; omega) (fun i ar H'=>H'=upd H l (.lst [.str "text",.str (ns z.length)])/\ar=((z.cps.toList.take i).map fun c:Nat=>ns (c:Int)).map V.str) ⟨rfl,rfl⟩ (fun i ar H' c hi la hc p=>?_) (fun ar H' p la D hD=>?_)
  ·obtain ⟨rfl,rfl⟩:=p;exists ⟨rfl,rfl⟩,bA ?_;have C7:z.cps.toList[i]?=some c:=by simpa using hc
   have RA:=(cz c (Xh C7)).1;exists _,rfl,_,rfl,rfl,_,rfl,cS (show c<=1000 by omega),nxT (by show z.length<=_; omega) hi la ⟨rfl,?_⟩;rw [Xn,C7,Xb,Xb]
   rfl
  ·obtain ⟨rfl,rfl⟩:=p;have g1:=ad hD (.lst (((z.cps.toList.take z.cps.size).map fun c:Nat=>ns (c:Int)).map V.str));exists l,D,_,_,rfl,rfl,g1 _ _ ac,ac,XI (ap (by have:z.cps.size=z.length:=rfl; simp only [W8,XO,W9,Xd]; omega)),fun p hp=>?_
   refine q p _ ((g0.trans g1).trans (ad hp _)) ((g0.trans g1).free hp) ?_;rw [ac,<- XS,Xo]
   rfl
 | one hz =>
  simp only [Xa,Xe,or_false] at hz;rcases hz with rfl | rfl | rfl
  all_goals
   exists _,rfl,rfl,_,rfl,ZP ?_;exists _,rfl,rfl,_,rfl,ZP ?_;exists _,rfl,zl3,fun p0 wH=>⟨p0,_,rfl,.inr (SqT.of ac),rfl,rfl,_,rfl,ZQ ?_⟩
   have s0:=ad wH (.tup [.str "let",.str "say",.str "var"]);exists _,rfl,_,rfl,a,_,_,_,rfl,rfl,SqT.of (s0 _ _ ha),at1 _ _ _,zl2,fun l hl=>q l _ (s0.trans (ad hl _)) (s0.free hl) ac
 | two hz =>
  simp only [Xa,Xe,or_false] at hz;rcases hz with rfl | rfl
  all_goals
   exists _,rfl,rfl,_,rfl,ZP ?_;exists _,rfl,rfl,_,rfl,ZP ?_;exists _,rfl,zl3,fun p0 wH=>⟨p0,_,rfl,.inr (SqT.of ac),rfl,rfl,_,rfl,ZP ?_⟩
   have s0:=ad wH (.tup [.str "let",.str "say",.str "var"]);exists _,rfl,zl2,fun p1 hZ=>⟨p1,_,rfl,.inr (SqT.of ac),rfl,rfl,_,rfl,ZQ ?_⟩
   have s1:=s0.trans (ad hZ (.tup [.str "of",.str "with"]));exists _,rfl,_,rfl,a,_,_,_,rfl,rfl,SqT.of (s1 _ _ ha),at2 _ _ _ _,zl2,fun l hl=>q l _ (s1.trans (ad hl _)) (s1.free hl) ac
 | tim hi =>
  exists _,rfl,rfl,_,rfl,ZP ?_;exists _,rfl,rfl,_,rfl,ZP ?_;exists _,rfl,zl3,fun p0 wH=>⟨p0,_,rfl,.inr (SqT.of ac),rfl,rfl,_,rfl,ZP ?_⟩
  have s0:=ad wH (.tup [.str "let",.str "say",.str "var"]);exists _,rfl,zl2,fun p1 hZ=>⟨p1,_,rfl,.inr (SqT.of ac),rfl,rfl,_,rfl,ZP ?_⟩
  have s1:=s0.trans (ad hZ (.tup [.str "of",.str "with"]));exists _,rfl,rfl,_,rfl,ZQ ?_;exists _,rfl,_,rfl,a,_,_,_,rfl,rfl,SqT.of (s1 _ _ ha),at1 _ _ _,_,rfl,fL _ hi,zl2,fun l hl=>q l _ (s1.trans (ad hl _)) (s1.free hl) ac
 | div hz hi =>
  simp only [Xa,Xe,or_false] at hz;rcases hz with rfl | rfl
  all_goals
   exists _,rfl,rfl,_,rfl,ZP ?_;exists _,rfl,rfl,_,rfl,ZP ?_;exists _,rfl,zl3,fun p0 wH=>⟨p0,_,rfl,.inr (SqT.of ac),rfl,rfl,_,rfl,ZP ?_⟩
   have s0:=ad wH (.tup [.str "let",.str "say",.str "var"]);exists _,rfl,zl2,fun p1 hZ=>⟨p1,_,rfl,.inr (SqT.of ac),rfl,rfl,_,rfl,ZP ?_⟩
   have s1:=s0.trans (ad hZ (.tup [.str "of",.str "with"]));exists _,rfl,rfl,_,rfl,ZP ?_;exists _,rfl,zl2,fun p2 jG=>⟨p2,_,rfl,.inr (SqT.of ac),rfl,rfl,_,rfl,ZQ ?_⟩
   have s2:=s1.trans (ad jG (.tup [.str "div",.str "rest"]));exists _,rfl,_,rfl,a,_,_,_,rfl,rfl,SqT.of (s2 _ _ ha),at2 _ _ _ _,_,rfl,fL _ hi,zl2,fun l hl=>q l _ (s2.trans (ad hl _)) (s2.free hl) ac
 | @call x g al ys hal hn =>
  exists _,rfl,rfl,_,rfl,ZP ?_;exists _,rfl,rfl,_,rfl,ZP ?_;exists _,rfl,zl3,fun p0 wH=>⟨p0,_,rfl,.inr (SqT.of ac),rfl,rfl,_,rfl,ZP ?_⟩
  have s0:=ad wH (.tup [.str "let",.str "say",.str "var"]);exists _,rfl,zl2,fun p1 hZ=>⟨p1,_,rfl,.inr (SqT.of ac),rfl,rfl,_,rfl,ZP ?_⟩
  have s1:=s0.trans (ad hZ (.tup [.str "of",.str "with"]));exists _,rfl,rfl,_,rfl,ZP ?_;exists _,rfl,zl2,fun p2 jG=>⟨p2,_,rfl,.inr (SqT.of ac),rfl,rfl,_,rfl,ZP ?_⟩
  have s2:=s1.trans (ad jG (.tup [.str "div",.str "rest"]));exists _,rfl,rfl,_,rfl,ZQ ?_;exists _,rfl,_,rfl,a,_,_,_,rfl,rfl,SqT.of (s2 _ _ ha),rfl,_,rfl,a,_,_,_,rfl,rfl,SqT.of (s2 _ _ ha),rfl,_,rfl,a,_,_,_,rfl,rfl,SqT.of (s2 _ _ ha),rfl,al,_,rfl,.inr (SqT.of (s2 _ _ hal)),_,rfl,cS (by omega),zl4,fun l hl=>q l _ (s2.trans (ad hl _)) (s2.free hl) ac
 | @new x al ys hal hn =>
  exists _,rfl,rfl,_,rfl,ZP ?_;exists _,rfl,rfl,_,rfl,ZP ?_;exists _,rfl,zl3,fun p0 wH=>⟨p0,_,rfl,.inr (SqT.of ac),rfl,rfl,_,rfl,ZP ?_⟩
  have s0:=ad wH (.tup [.str "let",.str "say",.str "var"]);exists _,rfl,zl2,fun p1 hZ=>⟨p1,_,rfl,.inr (SqT.of ac),rfl,rfl,_,rfl,ZP ?_⟩
  have s1:=s0.trans (ad hZ (.tup [.str "of",.str "with"]));exists _,rfl,rfl,_,rfl,ZP ?_;exists _,rfl,zl2,fun p2 jG=>⟨p2,_,rfl,.inr (SqT.of ac),rfl,rfl,_,rfl,ZP ?_⟩
  have s2:=s1.trans (ad jG (.tup [.str "div",.str "rest"]));exists _,rfl,rfl,_,rfl,ZP ?_;exists _,rfl,rfl,_,rfl,ZQ ?_;exists _,rfl,_,rfl,a,_,_,_,rfl,rfl,SqT.of (s2 _ _ ha),rfl,_,rfl,a,_,_,_,rfl,rfl,SqT.of (s2 _ _ ha),rfl,al,_,rfl,.inr (SqT.of (s2 _ _ hal)),_,rfl,cS (by omega),zl3,fun l hl=>q l _ (s2.trans (ad hl _)) (s2.free hl) ac
 | @rows al ys hal hn =>
  exists _,rfl,rfl,_,rfl,ZP ?_;exists _,rfl,rfl,_,rfl,ZP ?_;exists _,rfl,zl3,fun p0 wH=>⟨p0,_,rfl,.inr (SqT.of ac),rfl,rfl,_,rfl,ZP ?_⟩
  have s0:=ad wH (.tup [.str "let",.str "say",.str "var"]);exists _,rfl,zl2,fun p1 hZ=>⟨p1,_,rfl,.inr (SqT.of ac),rfl,rfl,_,rfl,ZP ?_⟩
  have s1:=s0.trans (ad hZ (.tup [.str "of",.str "with"]));exists _,rfl,rfl,_,rfl,ZP ?_;exists _,rfl,zl2,fun p2 jG=>⟨p2,_,rfl,.inr (SqT.of ac),rfl,rfl,_,rfl,ZP ?_⟩
  have s2:=s1.trans (ad jG (.tup [.str "div",.str "rest"]));exists _,rfl,rfl,_,rfl,ZP ?_;exists _,rfl,rfl,_,rfl,ZP ?_;exists _,rfl,rfl,_,rfl,ZQ ?_;exists _,rfl,_,rfl,a,_,_,_,rfl,rfl,SqT.of (s2 _ _ ha),rfl,.inr ⟨al,_,rfl,.inr (SqT.of (s2 _ _ hal)),_,rfl,cS (by omega),zl2,fun l hl=>q l _ (s2.trans (ad hl _)) (s2.free hl) ac⟩
 | plain hz =>
  simp only [Xa,Xe,or_false] at hz;rcases hz with rfl | rfl | rfl | rfl | rfl | rfl | rfl | rfl | rfl | rfl | rfl | rfl | rfl | rfl | rfl
  all_goals
   exists _,rfl,rfl,_,rfl,ZP ?_;exists _,rfl,rfl,_,rfl,ZP ?_;exists _,rfl,zl3,fun p0 wH=>⟨p0,_,rfl,.inr (SqT.of ac),rfl,rfl,_,rfl,ZP ?_⟩
   have s0:=ad wH (.tup [.str "let",.str "say",.str "var"]);exists _,rfl,zl2,fun p1 hZ=>⟨p1,_,rfl,.inr (SqT.of ac),rfl,rfl,_,rfl,ZP ?_⟩
   have s1:=s0.trans (ad hZ (.tup [.str "of",.str "with"]));exists _,rfl,rfl,_,rfl,ZP ?_;exists _,rfl,zl2,fun p2 jG=>⟨p2,_,rfl,.inr (SqT.of ac),rfl,rfl,_,rfl,ZP ?_⟩
   have s2:=s1.trans (ad jG (.tup [.str "div",.str "rest"]));exists _,rfl,rfl,_,rfl,ZP ?_;exists _,rfl,rfl,_,rfl,ZP ?_;exists _,rfl,rfl,_,rfl,ZP ?_;exists _,rfl,zl1,fun l hl=>q l _ (s2.trans (ad hl _)) (s2.free hl) ac
end
open PySem L2
mutual
theorem cJ:∀ e:E,Wf e->(eW e).length<=W e.d
 | .num y1,h=>by
  simp only [Wf] at h;simp only [eW,E.d,W,WS,W9,W7,Xd];omega
 | .text y1,h=>by
  simp only [Wf] at h
  have:=(ma y1 h).1
  have e:y1.cps.size=y1.length:=rfl;have l:y1.cps.toList.length=y1.cps.size:=XS;simp only [eW,E.d,W,WS,W9,W8,l];omega
 | .var y1,h=>by
  simp only [Wf] at h;simp only [eW,E.d,W,WS,W9,W7,Xd];omega
 | .of_ y1 y2,h=>by
  simp only [Wf] at h;have i1:=cJ y1 (h.1);simp only [eW,E.d,W,WS,W9,W7,Xd];omega
 | .with_ y1 y2 y3,h=>by
  simp only [Wf] at h;have i1:=cJ y1 (h.1);have i3:=cJ y3 (h.2.2);simp only [eW,E.d,W,WS,W9,W7,Xd];omega
 | .new y1 y2,h=>by
  simp only [Wf] at h;have i2:=wg y2 (h.2.2);simp only [eW,E.d,W,WS,W9,W7,Xd];omega
 | .add y1 y2,h=>by
  simp only [Wf] at h;have i1:=cJ y1 (h.1);have i2:=cJ y2 (h.2);simp only [eW,E.d,W,WS,W9,W7,Xd];omega
 | .sub y1 y2,h=>by
  simp only [Wf] at h;have i1:=cJ y1 (h.1);have i2:=cJ y2 (h.2);simp only [eW,E.d,W,WS,W9,W7,Xd];omega
 | .times y1 y2,h=>by
  simp only [Wf] at h;have i2:=cJ y2 (h.2);simp only [eW,E.d,W,WS,W9,W7,Xd];omega
 | .div y1 y2,h=>by
  simp only [Wf] at h;have i1:=cJ y1 (h.1);simp only [eW,E.d,W,WS,W9,W7,Xd];omega
 | .rest y1 y2,h=>by
  simp only [Wf] at h;have i1:=cJ y1 (h.1);simp only [eW,E.d,W,WS,W9,W7,Xd];omega
 | .len y1,h=>by
  simp only [Wf] at h;have i1:=cJ y1 (h);simp only [eW,E.d,W,WS,W9,W7,Xd];omega
 | .at_ y1 y2,h=>by
  simp only [Wf] at h;have i1:=cJ y1 (h.1);have i2:=cJ y2 (h.2);simp only [eW,E.d,W,WS,W9,W7,Xd];omega
 | .rows y1,h=>by
  simp only [Wf] at h;have i1:=wg y1 (h.2);simp only [eW,E.d,W,WS,W9,W7,Xd];omega
 | .put y1 y2 y3,h=>by
  simp only [Wf] at h;have i1:=cJ y1 (h.1);have i2:=cJ y2 (h.2.1);have i3:=cJ y3 (h.2.2);simp only [eW,E.d,W,WS,W9,W7,Xd];omega
 | .more y1 y2,h=>by
  simp only [Wf] at h;have i1:=cJ y1 (h.1);have i2:=cJ y2 (h.2);simp only [eW,E.d,W,WS,W9,W7,Xd];omega
 | .signs y1,h=>by
  simp only [Wf] at h;have i1:=cJ y1 (h);simp only [eW,E.d,W,WS,W9,W7,Xd];omega
theorem wg:∀ es:List E,Wfs es->(eWs es).length<=WS (E.ds es)
 | [],_=>by simp [eWs]
 | e::r,h=>by
  simp only [Wfs] at h;have i1:=cJ e h.1;have i2:=wg r h.2;simp only [eWs,E.ds,WS,W7];omega
end
theorem nV:∀ c:C,WfC c->(cW c).length<=W c.d
 | .less a b,h=>by simp only [WfC] at h; have i1:=cJ a h.1; have i2:=cJ b h.2; simp only [cW,C.d,W,WS,W9,W7,Xd]; omega
 | .same a b,h=>by simp only [WfC] at h; have i1:=cJ a h.1; have i2:=cJ b h.2; simp only [cW,C.d,W,WS,W9,W7,Xd]; omega
 | .and_ a b,h=>by simp only [WfC] at h; have i1:=nV a h.1; have i2:=nV b h.2; simp only [cW,C.d,W,WS,W9,W7,Xd]; omega
 | .or_ a b,h=>by simp only [WfC] at h; have i1:=nV a h.1; have i2:=nV b h.2; simp only [cW,C.d,W,WS,W9,W7,Xd]; omega
 | .not_ a,h=>by simp only [WfC] at h; have i1:=nV a h; simp only [cW,C.d,W,WS,W9,W7,Xd]; omega
theorem HU (s:S) (h:WfS s):(hW s).length<=W s.d:=by
 cases s with
 | let_ x e=>simp only [WfS] at h; have i1:=cJ e h.2; simp only [hW,S.d,W,WS,W9,W7,Xd]; omega
 | say x c=>simp only [WfS] at h; have i1:=nV c h.2; simp only [hW,S.d,W,WS,W9,W7,Xd]; omega
 | if_ c a b=>simp only [WfS] at h; have i1:=nV c h.1; simp only [hW,S.d,W,WS,W9,W7,Xd]; omega
 | while_ c a=>simp only [WfS] at h; have i1:=nV c h.1; simp only [hW,S.d,W,WS,W9,W7,Xd]; omega
 | call x g es=>simp only [WfS] at h; have i1:=wg es h.2.2.2; simp only [hW,S.d,W,WS,W9,W7,Xd]; omega
 | give e=>simp only [WfS] at h; have i1:=cJ e h; simp only [hW,S.d,W,WS,W9,W7,Xd]; omega
theorem iw (n:Nd):1<=n.own.length:=by
 cases n with
 | e x=>cases x<;>simp [Nd.own,E.own]
 | c x=>cases x<;>simp [Nd.own,C.own]
 | s x=>cases x<;>simp [Nd.own,S.own]
theorem kq:∀ l:List Nd,l.length<=(nws l).length
 | []=>Xc _
 | n::r=>by
  have h1:=kq r;have h2:=iw n;simp only [nws,W7,W9,n.w_eq];omega
theorem yT:∀ (k:Nat) {l:List Nd},(∀ n∈l,n.wf)->(nws l).length<=k->∀ z∈nws l,z∈WS8
 | _,[],_,_,z,h=>nomatch h
 | 0,n::r,hw,hk,z,h=>by
  have hp:=iw n;simp only [nws,n.w_eq,W7] at hk;omega
 | k+1,n::r,hw,hk,z,h=>by
  have hp:=iw n;simp only [nws,n.w_eq,W7] at hk;simp only [nws,n.w_eq] at h;rcases Xm.mp h with h | h
  ·rcases Xm.mp h with h | h
   ·exact MG (hw n Xl) z h
   ·exact yT k (l:=n.inn) (Nd.wf_inn (hw n Xl)) (by omega) z h
  ·exact yT k (l:=r) (fun x hx=>hw x (Xg _ hx)) (by omega) z h
theorem MN {n:Nd} (h:n.wf):∀ z∈n.w,z∈WS8:=fun z hz=>yT _ (l:=[n]) (fun x hx=>by rw [Xi.mp hx]; exact h) (Xc _) z (by simp only [nws,XB]; exact hz)
theorem nS:∀ {ts:List Str},(∀ z∈ts,z∈WS8)->jl SPC ts<=11*ts.length
 | [],_=>by simp [jl]
 | z::r,h=>by
  have h1:=(vQ z (h z Xl)).2.1;have h2:=nS (ts:=r) fun y hy=>h y (Xg _ hy)
  have h3:SPC.length=1:=rfl;simp only [jl,Xp,Yd,W9,h3] at h2 ⊢;omega
theorem eK:(Xx " ")=SPC:=()
section
variable {P:Program} {w:World} {K:Frag} {mg:Str->Option Value} {base:Heap} {f g:Addr} {fd gd:FuncData}
abbrev Gi:List Str:=["statement", "told", "waiting", "shaped"]
theorem jo:aA Gi ["statement"] (defScope qc):=ZU 0
inductive GY (K:Frag) (vs:List V) (H:Hp) (Q:VK) (bu:XK):Prop
 | mk (u) (n:Nd):(vs=[u])->(DT K H u n.d)->(n.wf)->(n.w.length<=1000000)->(∀ H',av H H'->Q (.str (Str.join SPC n.w)) H')->GY K vs H Q bu
noncomputable def RI8 (K:Frag) (u:V) (n0:Nd) (t l:Addr) (H:Hp) (m:Nat) (σ:St) (H':Hp):Prop :=
 ∃ ar:List Str,∃ ys:List V,∃ nodes:List Nd,∃ m3,σ=[some u,some (.ref t),some (.ref l),m3]/\av H H'/\H' t=some (.lst (List.map V.str ar))/\H' l=some (.lst ys)/\DTs K H' ys.reverse (List.map Nd.d nodes)/\(∀ n∈nodes,n.wf)/\ar++nws nodes=n0.w/\m=(nws nodes).length
theorem IZ (T:G0 mg) (TR:mg "reversed"=none) (F:Zc "row_of" qc) (ye:Za 1 "own_words" ["shaped"] L0) (B4:Za 1 "inner_of" ["shaped"] Fx):Zb 2 ["statement"] (GY K):=by
 refine ZR F jo
 ·obtain ⟨u,n,rfl,_⟩:=h
  rfl
 obtain ⟨u,n0,rfl,hu,hwf,hN,q⟩:=h;exists _,(Z2 (ZA 1 jo.nd (ZD aq)) (Z2 (ZA 2 jo.nd (ZD (Z0 (pv 0)))) (Z2 (iL PassesOwn.never (qF (pv 2) (fun _=>rfl)) (Z2 (ZA 3 jo.nd (jO Xw Yb Yc jV (pv 2))) (Z2 (ZL (ZH Xw XJ XM dm (pv 1) (Z0 (Z6 ye (Z0 (pv 3)))))) (Z3 (ZL (ZH Xw XJ XM dm (pv 2) (Z0 (jK rfl rfl T.list rfl TR (Z6 B4 (Z0 (pv 3))))))))))) (Z3 (Z7 (ZH XN XV XW eR ag (Z0 (pv 1)))))))),?_;show let v1:L2.TS:=_; let v2:L2.TS:=_; let v3:=am _ v2; let v4:=am _ v3; let v5:=am (lG _ v4) v1; let v6:=am _ v5; (am _ v6) _ _ _;intro v1 v2 v3 v4 v5 v6;exists zl0,fun t ht=>?_
 exists _,rfl,zl1,fun l hl=>?_
 have g0:=ad ht (.lst []);have g1:=ad hl (.lst [u]);have hlH:H l=none:=g0.free hl;have htl:t≠l:=fun z=>by rw [<- z,ac] at hl; cases hl
 exists RI8 K u n0 t l H,⟨_,[],[u],[n0],none,rfl,g0.trans g1,g1 _ _ ac,ac,.cons (hu.mono (ao (g0.trans g1))) .nil,fun n hn=>by rw [Xi.mp hn]; exact hwf,by simp [nws],rfl⟩,?_
 rintro m σ H' ⟨ar,ys,nodes,m3,rfl,G,hT,hL,dy,hw,ew,em⟩
 have cI:ar.length+(nws nodes).length<=1000000:=by rw [<- W7,ew]; exact hN
 exists _,rfl,_,.inl ⟨ys,SqL.of hL,rfl⟩,?_;refine au (fun cc=>?_) (fun cc=>?_)
 ·obtain ⟨zs,y,rfl⟩:∃ zs y,ys=zs++[y]:=by
   rcases YR ys with rfl | ⟨zs,y,e⟩
   ·exact absurd cc (by decide)
   ·exists zs,y,by rw [e,YS]
  rw [Yo] at dy;obtain ⟨n1,nr,rfl⟩:∃ n1 nr,nodes=n1::nr:=by
   cases nodes with
   | nil=>cases dy
   | cons a r=>exact ⟨a,r,rfl⟩
  obtain ⟨x,r,e,d1,dz⟩:=dy.open;obtain ⟨rfl,rfl⟩:=List.cons.inj e;replace dz:DTs K H' zs.reverse (List.map Nd.d nr):=dz;exists fun σ' H'=>∃ m',m'<m/\RI8 K u n0 t l H m' σ' H',fun _ _ z=>z,?_
  exists _,rfl,.inl ⟨rfl,_,SqL.of hL⟩,l,_,y,rfl,rfl,hL,by simp,?_
  rw [X6];have kT:Tk H' (upd H' l (.lst zs)):=aW hL _;have G2:av H (upd H' l (.lst zs)):=az hlH G;have NA:(upd H' l (.lst zs)) l=some (.lst zs):=ac;have wy:(upd H' l (.lst zs)) t=some (.lst (ar.map V.str)):=by rw [aj htl]; exact hT
  have Ee:=dz.mono kT;have d2:=d1.mono kT;generalize hH:(upd H' l (.lst zs))=H2 at G2 NA wy Ee d2;obtain ⟨a,z,rs,L,rfl,ha,hown,hinn,dL⟩:=CI d2 (hw n1 Xl);have VT:=iw n1;simp only [nws,n1.w_eq,W7] at cI em;have lL:=dL.len;rw [W8] at lL;have WJ:=kq n1.inn;have lr:=kq nr;have lz:=Ee.len;rw [XX,W8] at lz;exists _,rfl,.inl ⟨rfl,_,SqL.of wy⟩,_,rfl,a,z,rs,n1.own,rfl,ha,hown,fun r3 H3 g3 Ev Rt=>?_
  exists t,r3,_,_,rfl,rfl,g3 _ _ wy,Rt,(by rw [sizeLine_eq,W8,W8]; omega),?_;have hr3t:r3≠t:=fun e=>by rw [e,wy] at Ev; cases Ev
  have k3:Tk H2 (upd H3 t (.lst (ar.map V.str++n1.own.map V.str))):=(ao g3).trans (aW (g3 _ _ wy) _);have G3:av H (upd H3 t (.lst (ar.map V.str++n1.own.map V.str))):=az ht (G2.trans g3);have MQ:(upd H3 t (.lst (ar.map V.str++n1.own.map V.str))) l=some (.lst zs):=by rw [aj htl.symm]; exact g3 _ _ NA
  have o8:(upd H3 t (.lst (ar.map V.str++n1.own.map V.str))) t=some (.lst ((ar++n1.own).map V.str)):=by rw [ac,Xb]
  have El:=k3 _ _ ha;have P0:Mm (upd H3 t (.lst (ar.map V.str++n1.own.map V.str))) z rs L:=by
   rcases hinn with h | ⟨p,al,h1,h2,h3⟩
   ·exact .inl h
   ·exact .inr ⟨p,al,h1,h2,k3 _ _ h3⟩
  have Tl:=dL.mono k3;have PH:=Ee.mono k3;generalize UA:(upd H3 t (.lst (ar.map V.str++n1.own.map V.str)))=H4 at G3 MQ o8 El P0 Tl PH;exists _,rfl,.inl ⟨rfl,_,SqL.of MQ⟩,_,rfl,a,z,rs,L,rfl,El,P0,fun r5 H5 g5 Qa B2=>?_
  exists r5,L,rfl,.inl (SqL.of B2),fun l6 MV=>?_
  have g6:=ad MV (.lst L.reverse);have Pu:=g6 _ _ (g5 _ _ MQ);exists l,l6,_,_,rfl,rfl,Pu,ac,(by rw [sizeLine_eq,XX]; omega),?_;have k6:Tk H4 (upd (upd H5 l6 (.lst L.reverse)) l (.lst (zs++L.reverse))):=((ao g5).trans (ao g6)).trans (aW Pu _);exists (nws (n1.inn++nr)).length,by rw [fG,W7]; omega,ar++n1.own,zs++L.reverse,n1.inn++nr,_,rfl,az hlH ((G3.trans g5).trans g6),by rw [aj htl]; exact g6 _ _ (g5 _ _ o8),ac,?_,?_,?_,rfl
  ·rw [Yo,Ys,Xb];exact DTs.append (Tl.mono k6) (PH.mono k6)
  ·intro n hn;rcases Xm.mp hn with h | h
   ·exact Nd.wf_inn (hw n1 Xl) n h
   ·exact hw n (Xg _ h)
  ·rw [<- ew,fG,nws,n1.w_eq];simp only [Xs]
 ·have ey:ys=[]:=by
   cases ys with
   | nil=>rfl
   | cons a r=>exact absurd (by rfl) cc
  subst ey;have en:nodes=[]:=by
   cases nodes with
   | nil=>rfl
   | cons a r=>cases dy
  subst en;rw [nws,XB] at ew;subst ew;have hws:=MN hwf;exists rfl,_,rfl,SPC,t,n0.w,congrArg V.str eK,rfl,.inl (SqL.of hT),XC (nS hws) (by rw [sizeLine_eq]; omega),q _ G
end
open PySem L2
noncomputable def J (ws:List Str):Str:=Str.join SPC ws
mutual
noncomputable def sR:S->List Str
 | .if_ c a b=>J (hW (.if_ c a b))::(sRs a++(("else":Str)::(sRs b++[("end":Str)])))
 | .while_ c a=>J (hW (.while_ c a))::(sRs a++[("end":Str)])
 | .let_ x e=>[J (hW (.let_ x e))]
 | .say x c=>[J (hW (.say x c))]
 | .call x g es=>[J (hW (.call x g es))]
 | .give e=>[J (hW (.give e))]
noncomputable def sRs:List S->List Str
 | []=>[]
 | s::r=>sR s++sRs r
end
inductive It where
 | t (z:Str) | s (x:S)
noncomputable def sr (K:Frag) (H:Hp) (v:V):It->Prop
 | .t z=>v=.str z
 | .s x=>DT K H v x.d
noncomputable def It.r:It->List Str
 | .t z=>[z]
 | .s x=>sR x
noncomputable def gR:List It->List Str
 | []=>[]
 | i::r=>i.r++gR r
theorem kl:∀ a b:List It,gR (a++b)=gR a++gR b
 | [],b=>rfl
 | n::r,b=>by simp only [Xf,gR,kl r b,Xs]
theorem z8:∀ ss:List S,gR (ss.map .s)=sRs ss
 | []=>by simp only [XZ,gR,sRs]
 | s::r=>by simp only [Xp,gR,sRs,z8 r,It.r]
noncomputable def S.behind:S->List It
 | .if_ _ a b=>((a.map It.s++[.t "else"])++b.map It.s)++[.t "end"]
 | .while_ _ a=>a.map It.s++[.t "end"]
 | _=>[]
theorem FX (s:S):sR s=J (hW s)::gR s.behind:=by
 cases s<;>simp [sR,S.behind,gR,kl,z8,It.r]
theorem FT (i:It):1<=i.r.length:=by
 cases i with
 | t z=>exact Xc _
 | s x=>rw [It.r,FX]; simp
theorem re:∀ l:List It,l.length<=(gR l).length
 | []=>Xc _
 | n::r=>by
  have h1:=re r;have h2:=FT n;simp only [gR,W7,W9];omega
mutual
theorem Lx:∀ s:S,(sR s).length<=3*s.cnt
 | .if_ c a b=>by have h1:=j5 a; have h2:=j5 b; simp only [sR,S.cnt,W9,W7,Xd]; omega
 | .while_ c a=>by have h1:=j5 a; simp only [sR,S.cnt,W9,W7,Xd]; omega
 | .let_ x e=>by simp [sR,S.cnt]
 | .say x c=>by simp [sR,S.cnt]
 | .call x g es=>by simp [sR,S.cnt]
 | .give e=>by simp [sR,S.cnt]
theorem j5:∀ ss:List S,(sRs ss).length<=3*S.cnts ss
 | []=>by simp [sRs,S.cnts]
 | s::r=>by have h1:=Lx s; have h2:=j5 r; simp only [sRs,S.cnts,W7]; omega
end
noncomputable def It.wf:It->Prop
 | .t _=>True
 | .s x=>WfS x/\W x.d<=1000000
theorem zc:∀ {ss:List S} {s:S},s∈ss->W s.d<=WS (S.ds ss)
 | a::r,s,h=>by
  simp only [S.ds,WS];rcases Xa.mp h with rfl | h
  ·omega
  ·have:=zc h; omega
theorem qd:∀ {ss:List S} {s:S},jR ss->s∈ss->WfS s
 | a::r,s,q,h=>by
  simp only [jR] at q;rcases Xa.mp h with rfl | h
  ·exact q.1
  ·exact qd q.2 h
theorem vf {ss:List S} (h:jR ss) (hb:WS (S.ds ss)<=1000000):∀ i∈ss.map It.s,i.wf:=fun i hi=>by
 obtain ⟨s,hs,rfl⟩:=Xr.mp hi;exists qd h hs,XC (zc hs) hb
theorem DA {s:S} (h:WfS s) (hb:W s.d<=1000000):∀ i∈s.behind,i.wf:=by
 cases s with
 | if_ c a b =>
  simp only [WfS] at h;simp only [S.d,W,WS] at hb;intro i hi;rcases Xm.mp hi with hi | hi
  ·rcases Xm.mp hi with hi | hi
   ·rcases Xm.mp hi with hi | hi
    ·exact vf h.2.1 (by omega) i hi
    ·rw [Xi.mp hi]; exact trivial
   ·exact vf h.2.2 (by omega) i hi
  ·rw [Xi.mp hi]; exact trivial
 | while_ c a =>
  simp only [WfS] at h;simp only [S.d,W,WS] at hb;intro i hi;rcases Xm.mp hi with hi | hi
  ·exact vf h.2 (by omega) i hi
  ·rw [Xi.mp hi]; exact trivial
 | let_ x e=>exact fun i hi=>nomatch hi
 | say x e=>exact fun i hi=>nomatch hi
 | call x g e=>exact fun i hi=>nomatch hi
 | give e=>exact fun i hi=>nomatch hi
theorem sr.mono {K:Frag} {H H':Hp} (k:Tk H H') {v:V} {i:It} (h:sr K H v i):sr K H' v i:=by
 cases i with
 | t z=>exact h
 | s x=>exact DT.mono k h
theorem dQ {K:Frag} {H H':Hp} (k:Tk H H') {l:List V} {m:List It} (h:Paired (sr K H) l m):Paired (sr K H') l m:=Paired.mapP h fun _ _ z=>z.mono k
theorem i8 {K:Frag} {H:Hp}:∀ {xs:List V} {ss:List S},DTs K H xs (S.ds ss)->Paired (sr K H) xs (ss.map It.s)
 | xs,[],h=>by simp only [S.ds] at h; cases h; exact .nil
 | xs,s::r,h=>by
  simp only [S.ds] at h;obtain ⟨x,q,rfl,h1,h2⟩:=h.open;exact .cons h1 (i8 h2)
theorem fj {α β:Type} {F:α->β->Prop}:∀ {a b:List α} {c d:List β},Paired F a c->Paired F b d->Paired F (a++b) (c++d)
 | [],b,[],d,.nil,q=>q
 | x::a,b,y::c,d,.cons h r,q=>.cons h (fj r q)
theorem JL {K:Frag} {H:Hp} {u:V} {s:S} (h:DT K H u s.d):∃ a z rs,u=.ref a/\H a=some (.tup (.str z::rs)) /\
  ((∃ c' pa pb ax bx,∃ A B:List S,z = "if"/\rs=[c',.ref pa,.ref pb]/\H pa=some (.tup ax)/\H pb=some (.tup bx)/\DTs K H ax (S.ds A)/\DTs K H bx (S.ds B)/\s.behind=((A.map It.s++[.t "else"])++B.map It.s)++[.t "end"]) \/
   (∃ c' pa ax,∃ A:List S,z = "while"/\rs=[c',.ref pa]/\H pa=some (.tup ax)/\DTs K H ax (S.ds A)/\s.behind=A.map It.s++[.t "end"])\/(z ≠ "if"/\z ≠ "while"/\s.behind=[])):=by
 cases s with
 | if_ c A B =>
  simp only [S.d] at h;obtain ⟨a,x1,x2,x3,rfl,ha,h1,h2,h3⟩:=op3 h;obtain ⟨pa,ax,rfl,hpa,da⟩:=h2.open;obtain ⟨pb,bx,rfl,hpb,db⟩:=h3.open;exists a,_,_,rfl,ha,.inl ⟨x1,pa,pb,ax,bx,A,B,rfl,rfl,hpa,hpb,da,db,rfl⟩
 | while_ c A =>
  simp only [S.d] at h;obtain ⟨a,x1,x2,rfl,ha,h1,h2⟩:=op2 h;obtain ⟨pa,ax,rfl,hpa,da⟩:=h2.open;exists a,_,_,rfl,ha,.inr (.inl ⟨x1,pa,ax,A,rfl,rfl,hpa,da,rfl⟩)
 | let_ _ _ | say _ _ | call _ _ _ | give _ =>
  simp only [S.d] at h;obtain ⟨a,xs,rfl,ha,d0⟩:=h.open;obtain ⟨x0,r0,rfl,h0,d1⟩:=d0.open;obtain rfl:=h0.str_inv;exists a,_,_,rfl,ha,.inr (.inr ⟨(),(),rfl⟩)
section
variable {P:Program} {w:World} {K:Frag} {mg:Str->Option Value} {base:Heap} {f g:Addr} {fd gd:FuncData}
abbrev wt:List Str:=["statement"]
theorem rR:aA wt ["statement"] (defScope ii):=ZU 0
inductive MP (K:Frag) (vs:List V) (H:Hp) (Q:VK) (bu:XK):Prop
 | mk (u) (s:S):(vs=[u])->(DT K H u s.d)->(s.behind.length<=1000)->(∀ r ys H',av H H'->H r=none->H' r=some (.lst ys)->Paired (sr K H') ys s.behind->Q (.ref r) H')->MP K vs H Q bu
theorem OA (T:G0 mg) (F:Zc "behind_row" ii):Zb 1 ["statement"] (MP K):=by
 refine ZR F rR
 ·obtain ⟨u,s,rfl,_⟩:=h
  rfl
 obtain ⟨u,s,rfl,hu,hl,q⟩:=h;exists _,(Z2 (ZB (Z8 aJ (Z4 (pv 0)) ag) (Z3 (Z7 (ZE bQ (ZE bQ (ZE bQ (ZK aY T.list dR (Z0 (Z4 (pv 0)))) (ZD (Z0 ag))) (ZK aY T.list dR (Z0 (Z4 (pv 0))))) (ZD (Z0 ag)))))) (Z2 (ZB (Z8 aJ (Z4 (pv 0)) ag) (Z3 (Z7 (ZE bQ (ZK aY T.list dR (Z0 (Z4 (pv 0)))) (ZD (Z0 ag)))))) (Z3 (Z7 (ZD aq))))),?_;show let v1:L2.TS:=_; let v2:=am (bf _ v1 _) _; let v3:L2.TS:=_; (am (bf _ v3 _) v2) _ _ _;intro v1 v2 v3;obtain ⟨a,z,rs,rfl,ha,hv⟩:=JL hu;exists _,rfl,a,_,_,_,rfl,rfl,SqT.of ha,at0 _ _,rfl,_,rfl,?_;rcases hv with ⟨c',pa,pb,ax,bx,A',B,rfl,rfl,hpa,hpb,da,db,hb⟩ | ⟨c',pa,ax,A',rfl,rfl,hpa,da,hb⟩ | ⟨z1,z2,hb⟩
 ·have la:=Paired.length (i8 da);have lb:=Paired.length (i8 db);rw [W8] at la lb;rw [hb] at hl q;simp only [W7,W8,W9,Xd] at hl;refine ZQ ?_;exists _,rfl,a,_,_,_,rfl,rfl,SqT.of ha,rfl,pa,ax,rfl,.inr (SqT.of hpa),fun l1 jX=>?_
  have g1:=ad jX (.lst ax);exists zl1,fun l2 ou=>?_
  have g2:=ad ou (.lst [.str "else"]);exists l1,l2,_,_,rfl,rfl,g2 _ _ ac,ac,XI (ap (by rw [Xu]; omega)),fun l3 IA=>?_
  have g3:=ad IA (.lst (ax++[.str "else"]));have G3:=(g1.trans g2).trans g3;exists _,rfl,a,_,_,_,rfl,rfl,SqT.of (G3 _ _ ha),rfl,pb,bx,rfl,.inr (SqT.of (G3 _ _ hpb)),fun l4 Ux=>?_
  have g4:=ad Ux (.lst bx);exists l3,l4,_,_,rfl,rfl,g4 _ _ ac,ac,XI (ap (by rw [W7,Xu]; omega)),fun l5 wB=>?_
  have g5:=ad wB (.lst (ax++[.str "else"]++bx));exists zl1,fun l6 MV=>?_
  have g6:=ad MV (.lst [.str "end"]);exists l5,l6,_,_,rfl,rfl,g6 _ _ ac,ac,XI (ap (by rw [W7,W7,Xu,Xu]; omega)),fun l7 C8=>?_
  have G7:=((G3.trans g4).trans g5).trans g6;refine q l7 _ _ (G7.trans (ad C8 _)) (G7.free C8) ac ?_;have kk:=ao (G7.trans (ad C8 (.lst (ax++[.str "else"]++bx++[.str "end"]))));exact fj (fj (fj (dQ kk (i8 da)) (.cons rfl .nil)) (dQ kk (i8 db))) (.cons rfl .nil)
 ·have la:=Paired.length (i8 da);rw [W8] at la;rw [hb] at hl q;simp only [W7,W8,W9,Xd] at hl;refine ZP ?_;exists _,rfl,a,_,_,_,rfl,rfl,SqT.of ha,at0 _ _,rfl,_,rfl,?_;refine ZQ ?_;exists _,rfl,a,_,_,_,rfl,rfl,SqT.of ha,rfl,pa,ax,rfl,.inr (SqT.of hpa),fun l1 jX=>?_
  have g1:=ad jX (.lst ax);exists zl1,fun l2 ou=>?_
  have g2:=ad ou (.lst [.str "end"]);exists l1,l2,_,_,rfl,rfl,g2 _ _ ac,ac,XI (ap (by rw [Xu]; omega)),fun l3 IA=>?_
  have G2:=g1.trans g2;refine q l3 _ _ (G2.trans (ad IA _)) (G2.free IA) ac ?_;exact fj (dQ (ao (G2.trans (ad IA (.lst (ax++[.str "end"]))))) (i8 da)) (.cons rfl .nil)
 ·refine au (fun c=>absurd (V.str.inj (of_decide_eq_true c)) z1) (fun c=>?_);exists _,rfl,a,_,_,_,rfl,rfl,SqT.of ha,at0 _ _,rfl,_,rfl,?_;refine au (fun c=>absurd (V.str.inj (of_decide_eq_true c)) z2) (fun c=>?_);exists zl0,fun l hl=>q l _ _ (ad hl _) hl ac (by rw [hb]; exact .nil)
abbrev w5:List Str:=["body", "told", "waiting", "one"]
theorem fJ:aA w5 ["body"] (defScope i7):=ZU 0
inductive LJ (K:Frag) (vs:List V) (H:Hp) (Q:VK) (bu:XK):Prop
 | mk (ba xs) (ss:List S):(vs=[.ref ba])->(H ba=some (.tup xs))->(DTs K H xs (S.ds ss))->(jR ss)->(WS (S.ds ss)<=1000000)->((sRs ss).length<=900)->(∀ r H',av H H'->H r=none->H' r=some (.lst ((sRs ss).map V.str))->Q (.ref r) H')->LJ K vs H Q bu
noncomputable def BI8 (K:Frag) (u:V) (out:List Str) (t l:Addr) (H:Hp) (m:Nat) (σ:St) (H':Hp):Prop :=
 ∃ ar:List Str,∃ ys:List V,∃ its:List It,∃ m3,σ=[some u,some (.ref t),some (.ref l),m3]/\av H H'/\H' t=some (.lst (List.map V.str ar))/\H' l=some (.lst ys)/\Paired (sr K H') ys.reverse its/\(∀ i∈its,i.wf)/\ar++gR its=out/\m=(gR its).length
theorem Ol (T:G0 mg) (TR:mg "reversed"=none) (F:Zc "body_rows" i7) (Iz:Za 2 "row_of" ["statement"] (GY K)) (wE:Za 1 "behind_row" ["statement"] (MP K)):Zb 3 ["body"] (LJ K):=by
 refine ZR F fJ
 ·obtain ⟨ba,xs,ss,rfl,_⟩:=h
  rfl
 obtain ⟨ba,xs,ss,rfl,hba,dxs,wss,hWb,hN,q⟩:=h;exists _,(Z2 (ZA 1 fJ.nd (ZD aq)) (Z2 (ZA 2 fJ.nd (jK rfl rfl T.list rfl TR (pv 0))) (Z2 (iL PassesOwn.never (qF (pv 2) (fun _=>rfl)) (Z2 (ZA 3 fJ.nd (jO Xw Yb Yc jV (pv 2))) (Z3 (ZC (di (ZJ f8 T.isi pB (Z1 (pv 3) (Z0 (iq (v:=.ty "str") rfl T.str dJ rfl))))) (Z3 (ZL (ZG (pv 1) (Z0 (pv 3))))) (Z2 (ZL (ZG (pv 1) (Z0 (Z6 Iz (Z0 (pv 3)))))) (Z3 (ZL (ZH Xw XJ XM dm (pv 2) (Z0 (jK rfl rfl T.list rfl TR (Z6 wE (Z0 (pv 3))))))))))))) (Z3 (Z7 (pv 1)))))),?_;show let v1:L2.TS:=_; let v2:L2.TS:=_; let v3:=am _ v2; let v4:=bf _ v1 v3; let v5:=am _ v4; let v6:=am (lG _ v5) _; let v7:=am _ v6; (am _ v7) _ _ _;intro v1 v2 v3 v4 v5 v6 v7;exists zl0,fun t ht=>?_
 have g0:=ad ht (.lst []);exists _,rfl,ba,xs,rfl,.inr (SqT.of (g0 _ _ hba)),fun l hl=>?_
 have g1:=ad hl (.lst xs.reverse);have hlH:H l=none:=g0.free hl;have htl:t≠l:=fun z=>by rw [<- z,ac] at hl; cases hl
 exists BI8 K (.ref ba) (sRs ss) t l H,⟨_,[],xs.reverse,ss.map It.s,none,rfl,g0.trans g1,g1 _ _ ac,ac,by rw [Ys]; exact dQ (ao (g0.trans g1)) (i8 dxs),vf wss hWb,by rw [z8]; rfl,rfl⟩,?_
 rintro m σ H' ⟨ar,ys,its,m3,rfl,G,hT,hL,py,hw,eo,em⟩
 have cI:ar.length+(gR its).length<=900:=by rw [<- W7,eo]; exact hN
 exists _,rfl,_,.inl ⟨ys,SqL.of hL,rfl⟩,?_;refine au (fun cc=>?_) (fun cc=>?_)
 ·obtain ⟨zs,y,rfl⟩:∃ zs y,ys=zs++[y]:=by
   rcases YR ys with rfl | ⟨zs,y,e⟩
   ·exact absurd cc (by decide)
   ·exists zs,y,by rw [e,YS]
  rw [Yo] at py;obtain ⟨i1,ir,rfl⟩:∃ i1 ir,its=i1::ir:=by
   cases its with
   | nil=>cases py
   | cons a r=>exact ⟨a,r,rfl⟩
  obtain ⟨d1,dz⟩:sr K H' y i1/\Paired (sr K H') zs.reverse ir:=by
   cases py with
   | cons a b=>exact ⟨a,b⟩
  exists fun σ' H'=>∃ m',m'<m/\BI8 K (.ref ba) (sRs ss) t l H m' σ' H',fun _ _ z=>z,?_
  exists _,rfl,.inl ⟨rfl,_,SqL.of hL⟩,l,_,y,rfl,rfl,hL,by simp,?_
  rw [X6];have kT:Tk H' (upd H' l (.lst zs)):=aW hL _;have G2:av H (upd H' l (.lst zs)):=az hlH G;have NA:(upd H' l (.lst zs)) l=some (.lst zs):=ac;have wy:(upd H' l (.lst zs)) t=some (.lst (ar.map V.str)):=by rw [aj htl]; exact hT
  have Ee:=dQ kT dz;have d2:=d1.mono kT;generalize hH:(upd H' l (.lst zs))=H2 at G2 NA wy Ee d2;have VT:=FT i1;simp only [gR,W7] at cI em;have lr:=re ir;have lz:=Paired.length Ee;rw [XX] at lz;have hwr:∀ i∈ir,i.wf:=fun i h=>hw i (Xg _ h)
  have V5:=hw i1 Xl;cases i1 with
  | t z =>
   obtain rfl:y=.str z:=d2;exists _,rfl,_,_,_,true,rfl,.str z,rfl,_,rfl,dO ?_;exists _,rfl,.inl ⟨rfl,_,SqL.of wy⟩,_,rfl,t,_,_,rfl,rfl,wy,ap (by rw [W8]; omega),?_;have k3:Tk H2 (upd H2 t (.lst (ar.map V.str++[.str z]))):=aW wy _;exists (gR ir).length,by omega,ar++[z],zs,ir,_,rfl,az ht G2,by rw [ac,Xb]; rfl,by rw [aj htl.symm]; exact NA,dQ k3 Ee,hwr,?_,rfl
   rw [<- eo,gR,It.r];simp only [Xs]
  | s x =>
   have Si:DT K H2 y x.d:=d2;obtain ⟨wx,bx⟩:WfS x/\W x.d<=1000000:=V5;obtain ⟨a,zz,rs,L,rfl,ha,_⟩:=CI (n:=.s x) Si wx;have hxw:=HU x wx;rw [It.r,FX] at cI em;simp only [W9] at cI em;exists _,rfl,_,_,_,false,rfl,.tup ha,rfl,_,rfl,fI ?_;exists _,rfl,.inl ⟨rfl,_,SqL.of wy⟩,_,rfl,_,.s x,rfl,Si,wx,XC hxw bx,fun H3 g3=>?_
   exists t,_,_,rfl,rfl,g3 _ _ wy,ap (by rw [W8]; omega),?_;have k3:Tk H2 (upd H3 t (.lst (ar.map V.str++[.str (Str.join SPC (Nd.s x).w)]))):=(ao g3).trans (aW (g3 _ _ wy) _);have G3:av H (upd H3 t (.lst (ar.map V.str++[.str (Str.join SPC (Nd.s x).w)]))):=az ht (G2.trans g3);have MQ:(upd H3 t (.lst (ar.map V.str++[.str (Str.join SPC (Nd.s x).w)]))) l=some (.lst zs):=by rw [aj htl.symm]; exact g3 _ _ NA
   have o8:(upd H3 t (.lst (ar.map V.str++[.str (Str.join SPC (Nd.s x).w)]))) t=some (.lst ((ar++[J (hW x)]).map V.str)):=by rw [ac,Xb]; rfl
   have T2:=Si.mono k3;have PH:=dQ k3 Ee;generalize UA:(upd H3 t (.lst (ar.map V.str++[.str (Str.join SPC (Nd.s x).w)])))=H4 at G3 MQ o8 T2 PH;have lb:=re x.behind;exists _,rfl,.inl ⟨rfl,_,SqL.of MQ⟩,_,rfl,_,x,rfl,T2,by omega,fun r5 L H5 g5 Qa B2 pL=>?_
   exists r5,L,rfl,.inl (SqL.of B2),fun l6 MV=>?_
   have g6:=ad MV (.lst L.reverse);have Pu:=g6 _ _ (g5 _ _ MQ);have lL:=Paired.length pL;exists l,l6,_,_,rfl,rfl,Pu,ac,XI (ap (by rw [XX]; omega)),?_;have k5:Tk H5 (upd (upd H5 l6 (.lst L.reverse)) l (.lst (zs++L.reverse))):=(ao g6).trans (aW Pu _);have k6:Tk H4 (upd (upd H5 l6 (.lst L.reverse)) l (.lst (zs++L.reverse))):=(ao g5).trans k5;exists (gR (x.behind++ir)).length,by rw [kl,W7]; omega,ar++[J (hW x)],zs++L.reverse,x.behind++ir,_,rfl,az hlH ((G3.trans g5).trans g6),by rw [aj htl]; exact g6 _ _ (g5 _ _ o8),ac,?_,?_,?_,rfl
   ·rw [Yo,Ys];exact fj (dQ k5 pL) (dQ k6 PH)
   ·intro i hi;rcases Xm.mp hi with h | h
    ·exact DA wx bx i h
    ·exact hwr i h
   ·rw [<- eo,kl,gR,It.r,FX];simp only [Xs,Xf,Xz]
 ·have ey:ys=[]:=by
   cases ys with
   | nil=>rfl
   | cons a r=>exact absurd (by rfl) cc
  subst ey;have en:its=[]:=by
   cases its with
   | nil=>rfl
   | cons a r=>cases py
  subst en;rw [gR,XB] at eo;subst eo;exists _,rfl,q t H' G ht hT
end
end K6
namespace L2
open PySem PySem.Spec PyProof.Rows
theorem rS (l:Addr) (items:Array Value) (n:Nat) (b:Addr) (rG:Array Value) (n2:Nat) (dd sl) (h0:¬(!items.isEmpty&&Builtin.List.listTooLong (items.size+rG.size))=true) (h1:items.size<=sizeLine) (h2:items.size+rG.size<=sizeLine+1) :
  Meets (Builtin.«list.extend» ⟨[.ref l,.ref b],[]⟩) (fun _ R s=>s.heap.get? l=some { cls:=.type "list",dict:=none,data:=.seq items n,slots:=#[] }/\s.heap.get? b=some { cls:=.type "tuple",dict:=dd,data:=.seq rG n2,slots:=sl }/\R (.ok (.ret Value.none)) { s with heap:=s.heap.update l (Obj.mapSeq fun x=>x++rG),toks:=s.toks }) :=
 .of_wp fun prog w A R s h=>by
  obtain ⟨hp,g,d,tk,os⟩:=s;obtain ⟨hl,hb,h⟩:=h;have f1:=AutoSeq1.idx_int;have f4:=AutoSeq1.sub_tuple_list;have f5:=AutoSeq1.sub_list_tuple;have f2:=AutoSeq1.sub_tuple_tuple;have f3:=AutoSeq1.sub_list_list;have hz:(items++rG).size<=sizeLine+1:=by rw [Array.size_append]; exact h2
  wp_walk using (wpAny_updateSeq hl rfl (hz:=h1) (_hz':=hz)),AutoSeq1.wpAny_loadPart' hl,AutoSeq1.wpAny_loadPart' hb
  exists _,rfl,h
section
variable {X:Cx}
inductive xR (K:Frag) (x:V) (vs:List V) (H:Hp) (Q:VK):Prop
 | mk (l b xs zs):(x=.ref l)->(vs=[.ref b])->(H l=some (.lst xs))->(SqT K H b zs)->(xs.length+zs.length<=sizeLine)->(Q .non (upd H l (.lst (xs++zs))))->xR K x vs H Q
theorem qC:MtM X "list.extend" (xR X.K):=by
 intro ae s σ H x vs v us Q I rx rv h;obtain ⟨l,b,xs,zs,rfl,rfl,hH,hB,hz,q⟩:=h;cases rx;obtain ⟨u,rfl,ru⟩:=rv.one;cases ru;obtain ⟨z,its,n,r,hl,e⟩:=I.lstM hH;obtain ⟨jW,r2,⟨⟨Pz,rL,KY,Nz⟩,Ew,IR,n2,Iy⟩,_⟩:=I.tuple hB;simp only at IR Iy;subst IR Iy;have l1:=r.length;have l2:=r2.length;have hsz:its.toArray.size+jW.toArray.size<=sizeLine:=by rw [Xk,Xk]; omega
 have hlong:¬ (!its.toArray.isEmpty&&Builtin.List.listTooLong (its.toArray.size+jW.toArray.size))=true:=by
  rw [pq hsz,aaK];exact Xq
 refine call_meets F.slot_list_extend ⟨_,e,rfl⟩ F.entry_list_extend (F.args_list_extend_2 _ _)
  (rS l its.toArray n b jW.toArray n2 rL Nz hlong (by rw [Xk] at hsz ⊢; omega) (by omega)) ⟨e,Ew,?_⟩
 exists .non,_,I.lset (its':=its++jW) hH e (by simp) (r.append r2) ?_,rfl,q;rw [W7];omega
theorem eI.or {P:Program} {w:World} {K:Frag} {mg:Str->Option Value} {base:Heap} {CX:CXT} {k:Nat} {f:Addr} {fd:FuncData} {ps:List Str} {sp Pt:Sp} (F:eI P w K mg base CX k f fd ps sp) (G:eI P w K mg base CX k f fd ps Pt):eI P w K mg base CX k f fd ps (fun vs H Q E=>sp vs H Q E\/Pt vs H Q E) :=
 ⟨fun vs H Q E q=>q.elim (F.len vs H Q E) (G.len vs H Q E),fun A outer s H args us vs Q E hr he hb hv hs=>hs.elim (F.run A outer s H args us vs Q E hr he hb hv) (G.run A outer s H args us vs Q E hr he hb hv)⟩
end
end L2
namespace K6
open PySem L2
noncomputable def fl:List Fld->List Str
 | []=>[]
 | p::r=>p.1::p.2::fl r
theorem BZ:∀ a b:List Fld,fl (a++b)=fl a++fl b
 | [],b=>rfl
 | p::r,b=>by simp only [Xf,fl,BZ r b]
theorem fZ:∀ a:List Fld,(fl a).length=2*a.length
 | []=>rfl
 | p::r=>by simp only [fl,W9,fZ r]; omega
section
variable {P:Program} {w:World} {K:Frag} {mg:Str->Option Value} {base:Heap} {f g:Addr} {fd gd:FuncData}
abbrev lZ:List Str:=["words", "pairs", "told", "pair"]
theorem bv:aA lZ ["words", "pairs"] (defScope dq):=ZU 0
inductive Lh (vs:List V) (H:Hp) (Q:VK) (bu:XK):Prop
 | mk (wa pa) (ws:List Str) (xs) (fs:List Fld):(vs=[.ref wa,.ref pa])->(H wa=some (.lst (ws.map V.str)))->(H pa=some (.tup xs))->(Paired (b8 H) xs fs)->((∀ z∈ws++fl fs,z∈WS8))->((ws++fl fs).length<=900)->(∀ H',av H H'->Q (.str (J (ws++fl fs))) H')->Lh  vs H Q bu
theorem NY (T:G0 mg) (F:Zc "row_with_pairs" dq):Zb 1 ["words", "pairs"] Lh:=by
 refine ZR F bv
 ·obtain ⟨wa,pa,ws,xs,fs,rfl,_⟩:=h
  rfl
 obtain ⟨wa,pa,ws,xs,fs,rfl,hwa,hpa,pf,hws,hln,q⟩:=h;exists _,(Z2 (ZA 2 bv.nd (ZK aY T.list dR (Z0 (pv 0)))) (Z2 (ZM (bI (pv 1)) (ZO 3 bv.nd) (Z3 (ZL (ZH Xw XJ XM qC (pv 2) (Z0 (pv 3)))))) (Z3 (Z7 (ZH XN XV XW eR ag (Z0 (pv 2))))))),?_;show let v1:L2.TS:=_; let v2:L2.TS:=_; let v3:=am (gW _ _ v2) v1; (am _ v3) _ _ _;intro v1 v2 v3;have lf:=Paired.length pf;have lfl:=fZ fs;rw [W7] at hln;exists _,rfl,wa,_,rfl,.inl (SqL.of hwa),fun t ht=>?_
 have g0:=ad ht (.lst (ws.map V.str));have hpt:pa≠t:=fun z=>by rw [z,ht] at hpa; cases hpa
 exists _,rfl,pa,rfl,⟨xs,SqT.of (g0 _ _ hpa)⟩,fH (xs:=xs) (fun i σ H'=>∃ m3,σ=[some (.ref wa),some (.ref pa),some (.ref t),m3]/\av H H'/\H' t=some (.lst ((ws++fl (fs.take i)).map V.str))) ⟨none,rfl,g0,by rw [ac]; simp [fl]⟩ (fun i σ H' _ p=>?_) (fun i x σ H' hx p=>?_) (fun σ H' p=>?_)
 ·obtain ⟨_,rfl,G,_⟩:=p;exact SqT.of (G _ _ hpa)
 ·obtain ⟨m3,rfl,G,hT⟩:=p;obtain ⟨p,hp,hf⟩:=aG pf i x hx;obtain ⟨c,rfl,hc⟩:=hf;have hi:=(Xv.mp hp).1;have lt:=fZ (fs.take i);rw [XO] at lt;exists _,rfl,.inl ⟨rfl,_,SqL.of hT⟩,_,rfl,t,c,_,_,rfl,rfl,hT,SqT.of (G _ _ hc),XI (ap (by rw [W8,W7,lt]; show _+2<=1000; omega)),?_;exists _,rfl,az ht G,?_;rw [ac,Xn,hp,BZ,<- Xs,Xb (l₂:=fl (some p).toList)]
  rfl
 ·obtain ⟨m3,rfl,G,hT⟩:=p;rw [lf,Xo] at hT;exists rfl,_,rfl,SPC,t,ws++fl fs,congrArg V.str eK,rfl,.inl (SqL.of hT),XC (nS hws) (by rw [sizeLine_eq,W7]; omega),q _ G
inductive Ih (vs:List V) (H:Hp) (Q:VK) (bu:XK):Prop
 | mk (wa pa) (ws:List Str) (xs) (fs:List Fld):(vs=[.ref wa,.ref pa])->(H wa=some (.lst (ws.map V.str)))->(H pa=some (.lst xs))->(Paired (b8 H) xs fs)->((∀ z∈ws++fl fs,z∈WS8))->((ws++fl fs).length<=900)->(∀ H',av H H'->Q (.str (J (ws++fl fs))) H')->Ih  vs H Q bu
theorem MD (T:G0 mg) (F:Zc "row_with_pairs" dq):Zb 1 ["words", "pairs"] Ih:=by
 refine ZR F bv
 ·obtain ⟨wa,pa,ws,xs,fs,rfl,_⟩:=h
  rfl
 obtain ⟨wa,pa,ws,xs,fs,rfl,hwa,hpa,pf,hws,hln,q⟩:=h;exists _,(Z2 (ZA 2 bv.nd (ZK aY T.list dR (Z0 (pv 0)))) (Z2 (ZM (fD (pv 1)) (ZO 3 bv.nd) (Z3 (ZL (ZH Xw XJ XM qC (pv 2) (Z0 (pv 3)))))) (Z3 (Z7 (ZH XN XV XW eR ag (Z0 (pv 2))))))),?_;show let v1:L2.TS:=_; let v2:L2.TS:=_; let v3:=am (gW _ _ v2) v1; (am _ v3) _ _ _;intro v1 v2 v3;have lf:=Paired.length pf;have lfl:=fZ fs;rw [W7] at hln;exists _,rfl,wa,_,rfl,.inl (SqL.of hwa),fun t ht=>?_
 have g0:=ad ht (.lst (ws.map V.str));have hpt:pa≠t:=fun z=>by rw [z,ht] at hpa; cases hpa
 exists _,rfl,pa,rfl,⟨xs,SqL.of (g0 _ _ hpa)⟩,hU (xs:=xs) (fun i σ H'=>∃ m3,σ=[some (.ref wa),some (.ref pa),some (.ref t),m3]/\av H H'/\H' t=some (.lst ((ws++fl (fs.take i)).map V.str))) ⟨none,rfl,g0,by rw [ac]; simp [fl]⟩ (fun i σ H' _ p=>?_) (fun i x σ H' hx p=>?_) (fun σ H' p=>?_)
 ·obtain ⟨_,rfl,G,_⟩:=p;exact SqL.of (G _ _ hpa)
 ·obtain ⟨m3,rfl,G,hT⟩:=p;obtain ⟨p,hp,hf⟩:=aG pf i x hx;obtain ⟨c,rfl,hc⟩:=hf;have hi:=(Xv.mp hp).1;have lt:=fZ (fs.take i);rw [XO] at lt;exists _,rfl,.inl ⟨rfl,_,SqL.of hT⟩,_,rfl,t,c,_,_,rfl,rfl,hT,SqT.of (G _ _ hc),XI (ap (by rw [W8,W7,lt]; show _+2<=1000; omega)),?_;exists _,rfl,az ht G,?_;rw [ac,Xn,hp,BZ,<- Xs,Xb (l₂:=fl (some p).toList)]
  rfl
 ·obtain ⟨m3,rfl,G,hT⟩:=p;rw [lf,Xo] at hT;exists rfl,_,rfl,SPC,t,ws++fl fs,congrArg V.str eK,rfl,.inl (SqL.of hT),XC (nS hws) (by rw [sizeLine_eq,W7]; omega),q _ G
end
open PySem L2
noncomputable def bt (r:Rec):Str:=J (([("record":Str),r.1]:List Str)++fl r.2)
noncomputable def bX (F:cB):Str:=J (([("function":Str),F.1.1,F.1.2.2.2]:List Str)++fl F.1.2.1)
noncomputable def cM (p:Fld):Str:=J ([("local":Str)]++fl [p])
noncomputable def iI (F:cB):List Str:=((([bX F]++F.1.2.2.1.map cM)++sRs F.2)++[("end":Str)])
noncomputable def cQ:List cB->List Str
 | []=>[]
 | F::r=>iI F++cQ r
theorem pV:∀ a b:List cB,cQ (a++b)=cQ a++cQ b
 | [],b=>rfl
 | p::r,b=>by simp only [Xf,cQ,pV r b,Xs]
theorem pS {FS:List cB} (h:∀ F∈FS,(iI F).length<=31):∀ n,(cQ (FS.take n)).length<=31*n:=by
 induction FS with
 | nil=>intro n; simp [cQ]
 | cons F r ih =>
  intro n;cases n with
  | zero=>simp [cQ]
  | succ n =>
   have h1:=h F Xl;have h2:=ih (fun x hx=>h x (Xg _ hx)) n;simp only [Yt,cQ,W7];omega
noncomputable def aX (R:List Rec) (FS:List cB):List Str:=R.map bt++cQ FS
theorem xg {R:List Rec} (g:d4 R) {k:Str} (h:k∈KS R):k∈WS8:=by
 rcases Xm.mp h with h | h
 ·have:∀ z∈PL,z∈FIX:=()
  exact vN (this k h)
 ·obtain ⟨r,hr,rfl⟩:=Xr.mp h;exact cx (ck g hr).1
theorem EH:∀ {l:List Fld} {z:Str},z∈fl l->∃ p∈l,z=p.1\/z=p.2
 | p::r,z,h=>by
  simp only [fl,Xa] at h;rcases h with h | h | h
  ·exists p,Xl,.inl h
  ·exists p,Xl,.inr h
  ·obtain ⟨q,hq,e⟩:=EH h;exists q,Xg _ hq,e
theorem GV {R:List Rec} (g:d4 R) {l:List Fld} (h:∀ p∈l,p.1∈bg/\p.2∈KS R):∀ z∈fl l,z∈WS8:=fun z hz=>by
 obtain ⟨p,hp,e | e⟩:=EH hz
 ·rw [e]; exact cx (h p hp).1
 ·rw [e]; exact xg g (h p hp).2
theorem yE {a b:List Str} (h:∀ z∈a,z∈WS8) (k:∀ z∈b,z∈WS8):∀ z∈a++b,z∈WS8:=fun z hz=>(Xm.mp hz).elim (h z) (k z)
theorem fx (z:Str) (h:decide (z∈FIX)=true):z∈WS8:=vN (of_decide_eq_true h)
theorem bT {a:Str} {b:List Str} (h:a∈WS8) (k:∀ z∈b,z∈WS8):∀ z∈a::b,z∈WS8:=fun z hz=>(Xa.mp hz).elim (fun e=>by rw [e]; exact h) (k z)
theorem iu:∀ z∈([]:List Str),z∈WS8:=fun z hz=>nomatch hz
theorem FZ {R:List Rec} (g:d4 R) {r:Rec} (hr:r∈R):∀ z∈([("record":Str),r.1]:List Str)++fl r.2,z∈WS8:=by
 obtain ⟨h1,h2,h3⟩:=ck g hr;exact yE (bT (fx _ ()) (bT (cx h1) iu)) (GV g fun p hp=>⟨h2.2.2 p hp,h3 p hp⟩)
theorem FL {R:List Rec} (g:d4 R) {h:cX} (o:HOk R h):∀ z∈([("function":Str),h.1,h.2.2.2]:List Str)++fl h.2.1,z∈WS8 :=
 yE (bT (fx _ ()) (bT (cx o.nm) (bT (xg g o.gv) iu))) (GV g fun p hp=>o.vs p (XD _ hp))
theorem Iq {R:List Rec} (g:d4 R) {h:cX} (o:HOk R h) {p:Fld} (hp:p∈h.2.2.1):∀ z∈[("local":Str)]++fl [p],z∈WS8 :=
 yE (bT (fx _ ()) iu) (GV g fun q hq=>by rw [Xi.mp hq]; exact o.vs p (Xy _ hp))
structure FW (F:cB):Prop where
 wf:jR F.2
 sz:WS (S.ds F.2)<=1000000
 rl:(sRs F.2).length<=24
theorem rT.fw {R:List Rec} {HS:List cX} {FS:List cB} (o:rT R HS FS) {F:cB} (hF:F∈FS):FW F/\HOk R F.1:=by
 have fo:=o.ok F hF;have hm:F.1∈HS:=by rw [<- o.eh]; exact Xr.mpr ⟨F,hF,rfl⟩
 have es:=CA o.g o.nd o.rl o.hs hm;have ns:=(fS fo.ns).sz;have b:BS=92560:=();have c8:=fo.c8;have m8:S.cnts F.2*BS<=8*BS:=X0 _ c8;have l:=j5 F.2;exists ⟨ll es F.2 fo.ok,by rw [b] at m8 ns; omega,by omega⟩,o.hs.ok _ hm
section
variable {P:Program} {w:World} {K:Frag} {mg:Str->Option Value} {base:Heap} {f g:Addr} {fd gd:FuncData}
abbrev vM:List Str:=["program", "told", "function"]
abbrev rp:List Str:=["pair"]
theorem xW:rp.Nodup:=()
abbrev qN:List Str:=["record"]
theorem xm:qN.Nodup:=()
theorem pY:aA vM ["program"] (defScope kn):=ZU 0
inductive xS (K:Frag) (vs:List V) (H:Hp) (Q:VK) (bu:XK):Prop
 | mk (v R HS FS):(vs=[v])->(vg K H v R FS)->(rT R HS FS)->(∀ r H',av H H'->H r=none->H' r=some (.lst ((aX R FS).map V.str))->Q (.ref r) H')->xS K vs H Q bu
theorem FB (F:Zc "shown" kn) (eM:Za 1 "row_with_pairs" ["words", "pairs"] (fun vs H Q E=>Lh vs H Q E\/Ih vs H Q E)) (yn:Za 3 "body_rows" ["body"] (LJ K)):Zb 4 ["program"] (xS K):=by
 refine ZR F pY
 ·obtain ⟨v,R,HS,FS,rfl,_⟩:=h
  rfl
 obtain ⟨v,R,HS,FS,rfl,hv,hok,q⟩:=h;obtain ⟨a,y,zf,PF,rfl,ha,⟨ra,rx,rfl,hra,pr⟩,hzf,pfx⟩:=hv;have lr:=Paired.length pr;have lf:=Paired.length pfx;have hrl:=hok.rl;have hfl:FS.length<=3:=by rw [<- W8 (f:=fun x:cB=>x.1),hok.eh]; exact hok.hs.l3
 exists _,(Z2 (iB (i:=1) (N':=qN) (ρ:=[none]) (m:=1) (bL.of (fs:=defScope kn) (N:=vM) rfl rfl ()) pY.nd rfl (Yi rfl) rfl (bI (aZ cV (pv 0) af (fun _ _=>rfl))) (fun _ _ _ _=>(ZO 0 xm)) (fun _ _ _ _=>bH) (fun _ _ _ _=>(dD eM (hr.mono (by omega)) rfl (ak (gS (ak ag (ak (aZ (eP (K:=K) rfl) (pv 0) af (fun _ _=>rfl)) aq))) (ak (aZ (eP (K:=K) rfl) (pv 0) af (fun _ _=>rfl)) aq))))) (Z2 (ZM (bI (Z4 (pv 0))) (ZO 2 pY.nd) (Z2 (ZL (ZG (pv 1) (Z0 (Z6 eM (Z1 (ZD (Z1 ag (Z1 (Z4 (pv 2)) (Z0 (Z4 (pv 2)))))) (Z0 (Z4 (pv 2)))))))) (Z2 (ZL (ZH Xw XJ XM dm (pv 1) (Z0 (bF (N':=rp) (ρ:=[none]) (m:=1) (bL.of (fs:=defScope kn) (N:=vM) rfl rfl ()) rfl (bI (aZ cV (pv 2) af (fun _ _=>rfl))) (fun _ _ _ _=>(ZO 0 xW)) (fun _ _ _ _=>bH) (fun _ _ _ _=>(dD eM (hr.mono (by omega)) rfl (ak (gS (ak ag aq)) (ak (gS (ak (pv 0) aq)) aq)))))))) (Z2 (ZL (ZH Xw XJ XM dm (pv 1) (Z0 (Z6 yn (Z0 (Z4 (pv 2))))))) (Z3 (ZL (ZG (pv 1) (Z0 ag)))))))) (Z3 (Z7 (pv 1))))),?_;show let v1:L2.TS:=_; let v2:=am _ v1; let v3:=am _ v2; let v4:=am _ v3; let v5:=am (gW _ _ v4) _; (am _ v5) _ _ _;intro v1 v2 v3 v4 v5;exists _,rfl,a,_,_,_,rfl,rfl,SqT.of ha,at0 _ _,ra,rfl,⟨rx,SqT.of hra⟩,cF (xs:=rx) rx.length rfl (by omega) (fun i ar H'=>av H H'/\ar=((R.take i).map bt).map V.str) ⟨av.refl _,rfl⟩ (fun i ar H' p=>SqT.of (p.1 _ _ hra)) (fun i ar H' x hi la hx p=>?_) (fun ar H' p la t ht=>?_)
 ·obtain ⟨G,rfl⟩:=p;obtain ⟨r,Lb,Nn⟩:=aG pr i x hx;obtain ⟨c,fy,rfl,hc,fa,fxs,rfl,hfa,pfs⟩:=Nn;have hrm:=Xh Lb;obtain ⟨r1,r2,r3⟩:=ck hok.g hrm;exists ⟨rfl,rfl⟩,bA ?_;exists _,rfl,c,_,_,_,rfl,rfl,SqT.of (G _ _ hc),at0 _ _,zl2,fun l hl=>?_
  have g1:=ad hl (.lst [.str "record",.str r.1]);exists _,rfl,c,_,_,_,rfl,rfl,SqT.of (g1 _ _ (G _ _ hc)),at1 _ _ _,.inl ⟨l,fa,[("record":Str),r.1],fxs,r.2,rfl,ac,g1 _ _ (G _ _ hfa),Paired.mapP pfs fun _ _ z=>b8.mono (ao (G.trans g1)) z,FZ hok.g hrm,by rw [W7,fZ]; show 2+_<=900; omega,fun H2 g2=>nxT (by omega) hi la ⟨(G.trans g1).trans g2,?_⟩⟩;rw [Xn,Lb,Xb,Xb]
  rfl
 obtain ⟨G1,rfl⟩:=p;rw [lr,Xo];have g1:=ad ht (.lst ((R.map bt).map V.str));have htH:H t=none:=G1.free ht;have Gz:=G1.trans g1;exists _,rfl,a,_,_,_,rfl,rfl,SqT.of (Gz _ _ ha),at1 _ _ _,zf,rfl,⟨PF,SqT.of (Gz _ _ hzf)⟩,fH (xs:=PF) (fun i σ H2=>∃ m2,σ=[some (.ref a),some (.ref t),m2]/\av H H2/\H2 t=some (.lst ((R.map bt++cQ (FS.take i)).map V.str))) ⟨none,rfl,Gz,by rw [ac]; simp [cQ]⟩ (fun i σ H2 _ p=>?_) (fun i x σ H2 hx p=>?_) (fun σ H2 p=>?_)
 ·obtain ⟨_,rfl,G,_⟩:=p;exact SqT.of (G _ _ hzf)
 ·obtain ⟨m2,rfl,G,hT⟩:=p;obtain ⟨Fn,hFn,hfa⟩:=aG pfx i x hx;obtain ⟨c,py,qy,bb,bx,rfl,hc,⟨pa,px,rfl,hpa,ppx⟩,⟨qa,qx,rfl,hqa,pqx⟩,hbb,dbx⟩:=hfa;have hFm:=Xh hFn;obtain ⟨fw,ho⟩:=hok.fw hFm;have hi:=(Xv.mp hFn).1;have lq:=Paired.length pqx;have RO:=ho.l5;have Ew:=ho.p2;rw [W7] at RO;have IT:∀ n,(cQ (FS.take n)).length<=31*n:=pS fun F hF=>by
   obtain ⟨fw,ho⟩:=hok.fw hF;have h1:=fw.rl;have h5:=ho.l5;rw [W7] at h5;simp only [iI,W7,W8,Xu];omega
  have hb3i:=IT i;exists _,rfl,.inl ⟨rfl,_,SqL.of hT⟩,_,rfl,c,_,_,_,rfl,rfl,SqT.of (G _ _ hc),rfl,_,rfl,c,_,_,_,rfl,rfl,SqT.of (G _ _ hc),rfl,zl3,fun l hl=>?_
  have s1:=ad hl (.lst [.str "function",.str Fn.1.1,.str Fn.1.2.2.2]);have yf:=s1 _ _ hT;have G2:=G.trans s1;exists _,rfl,c,_,_,_,rfl,rfl,SqT.of (G2 _ _ hc),rfl,.inl ⟨l,pa,[("function":Str),Fn.1.1,Fn.1.2.2.2],px,Fn.1.2.1,rfl,ac,G2 _ _ hpa,Paired.mapP ppx fun _ _ z=>b8.mono (ao G2) z,FL hok.g ho,by rw [W7,fZ]; show 3+_<=900; omega,fun H3 g3=>?_⟩;have o8:=g3 _ _ yf;exists t,_,_,rfl,rfl,o8,ap (by rw [W8,W7,W8]; omega),?_;have kT:av H (upd H3 t (.lst ((R.map bt++cQ (FS.take i)).map V.str++[.str (bX Fn)]))):=az htH (G2.trans g3);have Eu:(upd H3 t (.lst ((R.map bt++cQ (FS.take i)).map V.str++[.str (bX Fn)]))) t=some (.lst ((R.map bt++cQ (FS.take i)++[bX Fn]).map V.str)):=by rw [ac,Xb (l₂:=[bX Fn])]; rfl
  generalize RL:(upd H3 t (.lst ((R.map bt++cQ (FS.take i)).map V.str++[.str (bX Fn)])))=H4 at kT Eu;replace RL:(upd H3 t (.lst ((R.map bt++cQ (FS.take i)).map V.str++[.str (J (([("function":Str),Fn.1.1,Fn.1.2.2.2]:List Str)++fl Fn.1.2.1))])))=H4:=RL;rw [RL];exists _,rfl,.inl ⟨rfl,_,SqL.of Eu⟩,_,rfl,c,_,_,_,rfl,rfl,SqT.of (kT _ _ hc),rfl,qa,rfl,⟨qx,SqT.of (kT _ _ hqa)⟩,cF (xs:=qx) qx.length rfl (by omega) (fun j ar H5=>av H4 H5/\ar=((Fn.1.2.2.1.take j).map cM).map V.str) ⟨av.refl _,rfl⟩ (fun j ar H5 p=>SqT.of (p.1 _ _ (kT _ _ hqa))) (fun j ar H5 x5 hj la KZ p=>?_) (fun ar H5 p la l5 wB=>?_)
  ·obtain ⟨G5,rfl⟩:=p;obtain ⟨p,hp,hf⟩:=aG pqx j x5 KZ;obtain ⟨d,rfl,hd⟩:=hf;exists ⟨rfl,rfl⟩,bA ?_;exists zl1,fun l6 MV=>?_
   have s6:=ad MV (.lst [.str "local"]);exists _,rfl,zl1,fun l7 C8=>?_
   have s7:=ad C8 (.lst [.ref d]);have G7:=(kT.trans G5).trans (s6.trans s7);refine .inr ⟨l6,l7,[("local":Str)],[.ref d],[p],rfl,s7 _ _ ac,ac,.cons ⟨d,rfl,G7 _ _ hd⟩ .nil,Iq hok.g ho (Xh hp),by rw [W7,fZ]; show 1+2*1<=900; omega,fun H8 g8=>nxT (by omega) hj la ⟨(G5.trans (s6.trans s7)).trans g8,?_⟩⟩;rw [Xn,hp,Xb,Xb]
   rfl
  obtain ⟨G5,rfl⟩:=p;rw [lq,Xo];have s5:=ad wB (.lst ((Fn.1.2.2.1.map cM).map V.str));have Kb:=s5 _ _ (G5 _ _ Eu);exists t,l5,_,_,rfl,rfl,Kb,ac,XI (ap (by simp only [W8,W7,Xu]; omega)),?_;have k6:=az (o:=.lst ((R.map bt++cQ (FS.take i)++[bX Fn]).map V.str++(Fn.1.2.2.1.map cM).map V.str)) htH ((kT.trans G5).trans s5);have C5:(upd (upd H5 l5 (.lst ((Fn.1.2.2.1.map cM).map V.str))) t (.lst ((R.map bt++cQ (FS.take i)++[bX Fn]).map V.str++(Fn.1.2.2.1.map cM).map V.str))) t=some (.lst ((R.map bt++cQ (FS.take i)++[bX Fn]++Fn.1.2.2.1.map cM).map V.str)):=by rw [ac,Xb (l₂:=Fn.1.2.2.1.map cM)]
  generalize W2:(upd (upd H5 l5 (.lst ((Fn.1.2.2.1.map cM).map V.str))) t (.lst ((R.map bt++cQ (FS.take i)++[bX Fn]).map V.str++(Fn.1.2.2.1.map cM).map V.str)))=H6 at k6 C5;exists _,rfl,.inl ⟨rfl,_,SqL.of C5⟩,_,rfl,c,_,_,_,rfl,rfl,SqT.of (k6 _ _ hc),rfl,bb,bx,Fn.2,rfl,k6 _ _ hbb,dbx.mono (ao k6),fw.wf,fw.sz,by have:=fw.rl; omega,fun r7 H7 g7 WF RD=>?_
  have J5:=g7 _ _ C5;have lrl:=fw.rl;exists t,r7,_,_,rfl,rfl,J5,RD,XI (ap (by simp only [W8,W7,Xu]; omega)),?_;have k8:=az (o:=.lst ((R.map bt++cQ (FS.take i)++[bX Fn]++Fn.1.2.2.1.map cM).map V.str++(sRs Fn.2).map V.str)) htH (k6.trans g7);have NB:(upd H7 t (.lst ((R.map bt++cQ (FS.take i)++[bX Fn]++Fn.1.2.2.1.map cM).map V.str++(sRs Fn.2).map V.str))) t=some (.lst ((R.map bt++cQ (FS.take i)++[bX Fn]++Fn.1.2.2.1.map cM++sRs Fn.2).map V.str)):=by rw [ac,Xb (l₂:=sRs Fn.2)]
  exists _,rfl,.inl ⟨rfl,_,SqL.of NB⟩,t,_,_,rfl,rfl,NB,ap (by simp only [W8,W7,Xu]; omega),?_;exists _,rfl,az htH k8,?_;rw [ac,Xn,hFn,pV];simp only [Yq,cQ,iI,XB,Xb,Xs]
  rfl
 ·obtain ⟨m2,rfl,G,hT⟩:=p;rw [lf,Xo] at hT;exists _,rfl,q t H2 G htH hT
end
open PySem L2
theorem vD {K:Frag} {H:Hp}:∀ {ys:List V} {es:List E} {i:Nat} {x:V},DTs K H ys (E.ds es)->ys[i]?=some x->∃ e,es[i]?=some e/\DT K H x e.d
 | ys,[],i,x,h,hx=>by simp only [E.ds] at h; cases h; simp at hx
 | ys,e::r,i,x,h,hx=>by
  simp only [E.ds] at h;obtain ⟨y,q,rfl,h1,h2⟩:=h.open;cases i with
  | zero=>simp at hx; subst hx; exact ⟨e,rfl,h1⟩
  | succ i=>obtain ⟨e',a,b⟩:=vD (i:=i) h2 (by simpa using hx); exact ⟨e',by simpa using a,b⟩
theorem qp:∀ (es:List E) (i:Nat),(eWs (es.take i)).length<=(eWs es).length
 | [],i=>by simp
 | e::r,0=>by simp [eWs]
 | e::r,i+1=>by have:=qp r i; simp only [Yt,eWs,W7]; omega
theorem vU:∀ {es:List E} {e:E},e∈es->(eW e).length<=(eWs es).length
 | a::r,e,h=>by
  simp only [eWs,W7];rcases Xa.mp h with rfl | h
  ·omega
  ·have:=vU h; omega
theorem Bw:∀ {es:List E} {e:E},e∈es->e.d.depth<=PyData.depthAll (E.ds es)
 | a::r,e,h=>by
  simp only [E.ds,PyData.depthAll];rcases Xa.mp h with rfl | h
  ·omega
  ·have:=Bw h; omega
theorem JG {e x:E} (h:x∈e.inn):x.d.depth<e.d.depth:=by
 cases e<;>simp only [E.inn,Xa,Xe,or_false] at h<;>first
  | exact h.elim
  | (have:=Bw h; simp only [E.d,PyData.depth,PyData.depthAll]; omega)
  | (rcases h with rfl | rfl | rfl<;>simp only [E.d,PyData.depth,PyData.depthAll]<;>omega)
  | (rcases h with rfl | rfl<;>simp only [E.d,PyData.depth,PyData.depthAll]<;>omega)
  | (subst h; simp only [E.d,PyData.depth,PyData.depthAll]; omega)
theorem xZ {K:Frag} {H:Hp} {ys:List V} {es:List E} (h:DTs K H ys (E.ds es)):es.take ys.length=es:=by rw [h.len8,Xo]
theorem aM {H:Hp} {p:Addr} (h:H p=none) (o:HO):(upd H p o) p=some o:=ac
noncomputable def PLN:List Str:=[("add":Str),("sub":Str),("len":Str),("at":Str),("put":Str),("more":Str),("signs":Str)]
inductive LwV (H:Hp):Str->List V->List Str->List V->Prop
 | ow {zz z:Str} {x:V} {r:List V}:zz∈(["of", "with"]:List Str)->r.length<=1->LwV H zz (x::.str z::r) [zz,z] (x::r)
 | tim {i:Int} {x:V}:i∈NUM->LwV H "times" [.int i,x] ["times",ns i] [x]
 | div {z:Str} {i:Int} {x:V}:z∈(["div", "rest"]:List Str)->i∈NUM->LwV H z [x,.int i] [z,ns i] [x]
 | new {x:Str} {al:Addr} {ys:List V}:H al=some (.tup ys)->ys.length<=8->LwV H "new" [.str x,.ref al] ["new",x,ns ys.length] ys
 | rows {al:Addr} {ys:List V}:H al=some (.tup ys)->ys.length<=8->LwV H "rows" [.ref al] ["rows",ns ys.length] ys
 | plain {z:Str} {r:List V}:z∈PLN->r.length<=3->LwV H z r [z] r
theorem JB {K:Frag} {H:Hp} {u:V} {e:E} (h:DT K H u e.d) (hw:Wf e):(∃ a,(∃ i,i∈NUM/\e=.num i/\u=.ref a/\H a=some (.tup [.str "num",.int i]))\/(∃ z,z∈TXT/\e=.text z/\u=.ref a/\H a=some (.tup [.str "text",.str z]))\/∃ x,e=.var x/\u=.ref a/\H a=some (.tup [.str "var",.str x])) \/
  ∃ a z rs L,u=.ref a/\H a=some (.tup (.str z::rs))/\LwV H z rs e.own L/\DTs K H L (E.ds e.inn):=by
 cases e with
 | num y1 =>
  simp only [E.d] at h;simp only [Wf] at hw;obtain ⟨a,x1,rfl,ha,h1⟩:=op1 h;obtain rfl:=h1.int_inv;exact .inl ⟨a,.inl ⟨_,hw,rfl,rfl,ha⟩⟩
 | text y1 =>
  simp only [E.d] at h;simp only [Wf] at hw;obtain ⟨a,x1,rfl,ha,h1⟩:=op1 h;obtain rfl:=h1.str_inv;exact .inl ⟨a,.inr (.inl ⟨_,hw,rfl,rfl,ha⟩)⟩
 | var y1 =>
  simp only [E.d] at h;simp only [Wf] at hw;obtain ⟨a,x1,rfl,ha,h1⟩:=op1 h;obtain rfl:=h1.str_inv;exact .inl ⟨a,.inr (.inr ⟨_,rfl,rfl,ha⟩)⟩
 | of_ y1 y2 =>
  simp only [E.d] at h;simp only [Wf] at hw;obtain ⟨a,x1,x2,rfl,ha,h1,h2⟩:=op2 h;obtain rfl:=h2.str_inv;exact .inr ⟨a,_,_,_,rfl,ha,.ow () (by simp),by simp only [E.inn,E.ds]; exact (.cons h1 .nil)⟩
 | with_ y1 y2 y3 =>
  simp only [E.d] at h;simp only [Wf] at hw;obtain ⟨a,x1,x2,x3,rfl,ha,h1,h2,h3⟩:=op3 h;obtain rfl:=h2.str_inv;exact .inr ⟨a,_,_,_,rfl,ha,.ow () (by simp),by simp only [E.inn,E.ds]; exact (.cons h1 (.cons h3 .nil))⟩
 | new y1 y2 =>
  simp only [E.d] at h;simp only [Wf] at hw;obtain ⟨a,x1,x2,rfl,ha,h1,h2⟩:=op2 h;obtain rfl:=h1.str_inv;obtain ⟨al,ys,rfl,hal,dys⟩:=h2.open;have ly:=dys.len8;exact .inr ⟨a,_,_,_,rfl,ha,by simp only [E.own,<- ly]; exact .new hal (by omega),by simp only [E.inn]; exact dys⟩
 | add y1 y2 =>
  simp only [E.d] at h;simp only [Wf] at hw;obtain ⟨a,x1,x2,rfl,ha,h1,h2⟩:=op2 h;exact .inr ⟨a,_,_,_,rfl,ha,.plain () (by simp),by simp only [E.inn,E.ds]; exact (.cons h1 (.cons h2 .nil))⟩
 | sub y1 y2 =>
  simp only [E.d] at h;simp only [Wf] at hw;obtain ⟨a,x1,x2,rfl,ha,h1,h2⟩:=op2 h;exact .inr ⟨a,_,_,_,rfl,ha,.plain () (by simp),by simp only [E.inn,E.ds]; exact (.cons h1 (.cons h2 .nil))⟩
 | times y1 y2 =>
  simp only [E.d] at h;simp only [Wf] at hw;obtain ⟨a,x1,x2,rfl,ha,h1,h2⟩:=op2 h;obtain rfl:=h1.int_inv;exact .inr ⟨a,_,_,_,rfl,ha,.tim hw.1,by simp only [E.inn,E.ds]; exact (.cons h2 .nil)⟩
 | div y1 y2 =>
  simp only [E.d] at h;simp only [Wf] at hw;obtain ⟨a,x1,x2,rfl,ha,h1,h2⟩:=op2 h;obtain rfl:=h2.int_inv;exact .inr ⟨a,_,_,_,rfl,ha,.div () hw.2.1,by simp only [E.inn,E.ds]; exact (.cons h1 .nil)⟩
 | rest y1 y2 =>
  simp only [E.d] at h;simp only [Wf] at hw;obtain ⟨a,x1,x2,rfl,ha,h1,h2⟩:=op2 h;obtain rfl:=h2.int_inv;exact .inr ⟨a,_,_,_,rfl,ha,.div () hw.2.1,by simp only [E.inn,E.ds]; exact (.cons h1 .nil)⟩
 | len y1 =>
  simp only [E.d] at h;simp only [Wf] at hw;obtain ⟨a,x1,rfl,ha,h1⟩:=op1 h;exact .inr ⟨a,_,_,_,rfl,ha,.plain () (by simp),by simp only [E.inn,E.ds]; exact (.cons h1 .nil)⟩
 | at_ y1 y2 =>
  simp only [E.d] at h;simp only [Wf] at hw;obtain ⟨a,x1,x2,rfl,ha,h1,h2⟩:=op2 h;exact .inr ⟨a,_,_,_,rfl,ha,.plain () (by simp),by simp only [E.inn,E.ds]; exact (.cons h1 (.cons h2 .nil))⟩
 | rows y1 =>
  simp only [E.d] at h;simp only [Wf] at hw;obtain ⟨a,x1,rfl,ha,h1⟩:=op1 h;obtain ⟨al,ys,rfl,hal,dys⟩:=h1.open;have ly:=dys.len8;exact .inr ⟨a,_,_,_,rfl,ha,by simp only [E.own,<- ly]; exact .rows hal (by omega),by simp only [E.inn]; exact dys⟩
 | put y1 y2 y3 =>
  simp only [E.d] at h;simp only [Wf] at hw;obtain ⟨a,x1,x2,x3,rfl,ha,h1,h2,h3⟩:=op3 h;exact .inr ⟨a,_,_,_,rfl,ha,.plain () (by simp),by simp only [E.inn,E.ds]; exact (.cons h1 (.cons h2 (.cons h3 .nil)))⟩
 | more y1 y2 =>
  simp only [E.d] at h;simp only [Wf] at hw;obtain ⟨a,x1,x2,rfl,ha,h1,h2⟩:=op2 h;exact .inr ⟨a,_,_,_,rfl,ha,.plain () (by simp),by simp only [E.inn,E.ds]; exact (.cons h1 (.cons h2 .nil))⟩
 | signs y1 =>
  simp only [E.d] at h;simp only [Wf] at hw;obtain ⟨a,x1,rfl,ha,h1⟩:=op1 h;exact .inr ⟨a,_,_,_,rfl,ha,.plain () (by simp),by simp only [E.inn,E.ds]; exact (.cons h1 .nil)⟩
theorem N7:∀ z∈(["of", "with"]:List Str),inV (.str z) [.str "of",.str "with"]=true/\decide (V.str z=V.str "times")=false/\inV (.str z) [.str "div",.str "rest"]=false/\inV (.str z) [.str "new",.str "rows"]=false:=()
theorem Rk:∀ z∈(["of", "with"]:List Str),decide (V.str z=V.str "num")=false/\decide (V.str z=V.str "text")=false/\decide (V.str z=V.str "var")=false:=()
structure LS (H:Hp) (wl il:Addr) (W I:List V) (H5:Hp):Prop where
 s:av H H5
 n:H wl=none
 w:H5 wl=some (.lst W)
 i:H5 il=some (.lst I)
theorem LS.go {H H5 H6:Hp} {wl il:Addr} {W I:List V} (h:LS H wl il W I H5) (g:av H5 H6):LS H wl il W I H6:=⟨h.s.trans g,h.n,g _ _ h.w,g _ _ h.i⟩
theorem LS.new {H H5:Hp} {wl il:Addr} {W I:List V} (h:LS H wl il W I H5) {p:Addr} (hp:H5 p=none) (o:HO):LS H wl il W I (upd H5 p o):=h.go (ad hp o)
theorem Fo:∀ z∈PLN,decide (V.str z=V.str "num")=false/\decide (V.str z=V.str "text")=false/\decide (V.str z=V.str "var")=false/\inV (.str z) [.str "of",.str "with"]=false/\decide (V.str z=V.str "times")=false/\inV (.str z) [.str "div",.str "rest"]=false/\inV (.str z) [.str "new",.str "rows"]=false:=()
theorem KQ:∀ z∈(["div", "rest"]:List Str),decide (V.str z=V.str "num")=false/\decide (V.str z=V.str "text")=false/\decide (V.str z=V.str "var")=false/\inV (.str z) [.str "of",.str "with"]=false/\decide (V.str z=V.str "times")=false/\inV (.str z) [.str "div",.str "rest"]=true/\inV (.str z) [.str "new",.str "rows"]=false:=()
section
variable {P:Program} {w:World} {K:Frag} {mg:Str->Option Value} {base:Heap} {f g:Addr} {fd gd:FuncData}
abbrev uN:List Str:=["_law_e_here", "_law_word", "_law_words_here", "_law_inner", "_law_one"]
abbrev ku:List Str:=["_law_sign"]
theorem rY:ku.Nodup:=()
theorem bP:aA uN ["_law_e_here"] (defScope ee):=ZU 0
inductive DE (K:Frag) (n:Nat) (vs:List V) (H:Hp) (Q:VK) (bu:XK):Prop
 | mk (u) (e:E):(vs=[u])->(DT K H u e.d)->(Wf e)->(e.d.depth<=n)->((eW e).length<=1000000)->(∀ r H',av H H'->H r=none->H' r=some (.lst ((eW e).map V.str))->Q (.ref r) H')->DE K n vs H Q bu
theorem Oo {n:Nat} (T:G0 mg) (F:Zc "_law_words" ee) (ib:Za (n+1) "_law_words" ["_law_e_here"] (DE K n)):Zb (n+2) ["_law_e_here"] (DE K (n+1)):=by
 refine ZR F bP
 ·obtain ⟨u,e,rfl,_⟩:=h
  rfl
 obtain ⟨u,e0,rfl,hu,hw,hd,hN,q⟩:=h;exists _,(Z2 (ZA 1 bP.nd (Z4 (pv 0))) (Z2 (ZB (Z8 aJ (pv 1) ag) (Z3 (Z7 (ZD (Z0 (ZK aK T.str dJ (Z0 (Z4 (pv 0))))))))) (Z2 (ZB (Z8 aJ (pv 1) ag) (Z3 (Z7 (ZE bQ (ZD (Z1 ag (Z0 (ZK aK T.str dJ (Z0 (ZJ dY T.len hJ (Z0 (Z4 (pv 0))))))))) (bF (N':=ku) (ρ:=[none]) (m:=1) (bL.of (fs:=defScope ee) (N:=uN) rfl rfl ()) rfl (vC (aZ cV (pv 0) af (fun _ _=>rfl))) (fun _ _ _ _=>(ZO 0 rY)) (fun _ _ _ _=>bH) (fun _ _ _ _=>(fN aK rfl T.str dJ (ak (cP xk rfl T.ord KU (ak (pv 0) aq)) aq)))))))) (Z2 (ZB (Z8 aJ (pv 1) ag) (Z3 (Z7 (ZD (Z1 ag (Z0 (Z4 (pv 0)))))))) (Z2 (ZA 2 bP.nd (ZD (Z0 (pv 1)))) (Z2 (ZA 3 bP.nd (ZK aY T.list dR (Z0 (@bj _ _ _ _ _ _ _ _ _ _ (iG.or fF) (pv 0) (bJ af) cb)))) (Z2 (ZB (Z9 bz (pv 1) (ZD (Z1 ag (Z0 ag)))) (Z2 (ZL (ZG (pv 2) (Z0 (Z4 (pv 0))))) (Z3 (ZA 3 bP.nd (ZE bQ (ZD (Z0 (Z4 (pv 0)))) (ZK aY T.list dR (Z0 (@bj _ _ _ _ _ _ _ _ _ _ (iG.or fF) (pv 0) (bJ af) cb)))))))) (Z2 (ZB (Z8 aJ (pv 1) ag) (Z2 (ZL (ZG (pv 2) (Z0 (ZK aK T.str dJ (Z0 (Z4 (pv 0))))))) (Z3 (ZA 3 bP.nd (ZD (Z0 (Z4 (pv 0)))))))) (Z2 (ZB (Z9 bz (pv 1) (ZD (Z1 ag (Z0 ag)))) (Z2 (ZL (ZG (pv 2) (Z0 (ZK aK T.str dJ (Z0 (Z4 (pv 0))))))) (Z3 (ZA 3 bP.nd (ZD (Z0 (Z4 (pv 0)))))))) (Z2 (ZB (Z9 bz (pv 1) (ZD (Z1 ag (Z0 ag)))) (Z2 (ZA 2 bP.nd (ZE bQ (ZE bQ (pv 2) (ZK aY T.list dR (Z0 (@bj _ _ _ _ _ _ _ _ _ _ (iG.or fF) (pv 0) (bJ af) (bJ (gh dH af)))))) (ZD (Z0 (ZK aK T.str dJ (Z0 (ZI (Z0 (Z5 cV (pv 0) (@gh _ _ _ _ _ _ dH af)))))))))) (Z3 (ZA 3 bP.nd (ZK aY T.list dR (Z0 (Z5 cV (pv 0) (@gh _ _ _ _ _ _ dH af)))))))) (Z2 (ZM (fD (pv 3)) (ZO 4 bP.nd) (Z3 (ZA 2 bP.nd (ZE bQ (pv 2) (Z6 ib (Z0 (pv 4))))))) (Z3 (Z7 (pv 2)))))))))))))),?_;show let D0:jx:=_; let t9:=am _ _; let t8:=am _ t9; let t7:=am _ t8; let t6:=am _ t7; let t5:=am _ t6; (am _ (am _ (am _ (am _ (am _ (am _ t5)))))) D0 _ _;intro D0 t9 t8 t7 t6 t5;rcases JB hu hw with ⟨a,⟨i,hi,rfl,rfl,ha⟩ | ⟨z,hz,rfl,rfl,ha⟩ | ⟨x,rfl,rfl,ha⟩⟩ | ⟨a,zz,rs,L,rfl,ha,hv,dL⟩
 ·exists _,rfl,a,_,_,_,rfl,rfl,SqT.of ha,at0 _ _,?_;exists _,rfl,rfl,_,rfl,ZQ ?_;exists _,rfl,a,_,_,_,rfl,rfl,SqT.of ha,rfl,_,rfl,fL _ hi,zl1,fun l hl=>q l _ (ad hl _) hl (by rw [ac]; simp only [eW]; rfl)
 ·exists _,rfl,a,_,_,_,rfl,rfl,SqT.of ha,at0 _ _,?_;exists _,rfl,rfl,_,rfl,ZP ?_;exists _,rfl,rfl,_,rfl,ZQ ?_;obtain ⟨lz,cz⟩:=ma z hz;have rJ:z.length<=sizeLine:=by rw [sizeLine_eq]; omega
  exists _,rfl,a,_,_,_,rfl,rfl,SqT.of ha,rfl,z,rfl,rJ,_,rfl,cS (by omega),zl2,fun l hl=>?_
  have g0:=ad hl (.lst [.str "text",.str (ns z.length)]);exists _,rfl,a,_,_,_,rfl,rfl,SqT.of (g0 _ _ ha),rfl,z,rfl,iV z.cps.size rfl (by show z.length<=_; omega) (fun i ar H'=>H'=upd H l (.lst [.str "text",.str (ns z.length)])/\ar=((z.cps.toList.take i).map fun c:Nat=>ns (c:Int)).map V.str) ⟨rfl,rfl⟩ (fun i ar H' c hi la hc p=>?_) (fun ar H' p la D hD=>?_)
  ·obtain ⟨rfl,rfl⟩:=p;exists ⟨rfl,rfl⟩,bA ?_;have C7:z.cps.toList[i]?=some c:=by simpa using hc
   have RA:=(cz c (Xh C7)).1;exists _,rfl,_,rfl,rfl,_,rfl,cS (show c<=1000 by omega),nxT (by show z.length<=_; omega) hi la ⟨rfl,?_⟩;rw [Xn,C7,Xb,Xb]
   rfl
  ·obtain ⟨rfl,rfl⟩:=p;have g1:=ad hD (.lst (((z.cps.toList.take z.cps.size).map fun c:Nat=>ns (c:Int)).map V.str));exists l,D,_,_,rfl,rfl,g1 _ _ ac,ac,XI (ap (by have:z.cps.size=z.length:=rfl; simp only [W8,XO,W9,Xd]; omega)),fun p hp=>?_
   refine q p _ ((g0.trans g1).trans (ad hp _)) ((g0.trans g1).free hp) ?_;rw [ac,<- XS,Xo];simp only [eW]
   rfl
 ·exists _,rfl,a,_,_,_,rfl,rfl,SqT.of ha,at0 _ _,?_;exists _,rfl,rfl,_,rfl,ZP ?_;exists _,rfl,rfl,_,rfl,ZP ?_;exists _,rfl,rfl,_,rfl,ZQ ?_;exists _,rfl,a,_,_,_,rfl,rfl,SqT.of ha,rfl,zl2,fun l hl=>q l _ (ad hl _) hl (by rw [ac]; simp only [eW]; rfl)
 have hin:∀ e∈e0.inn,Wf e/\e.d.depth<=n/\(eW e).length<=1000000:=fun e he=>by
  have h1:=JG he;have h2:=vU he;have h3:Nd.wf (.e e):=Nd.wf_inn (n:=.e e0) hw _ (Xr.mpr ⟨e,he,rfl⟩);rw [CL,W7] at hN;exists h3,by omega,by omega
 have hsum:e0.own.length+(eWs e0.inn).length<=1000000:=by rw [<- W7,<- CL]; exact hN
 rw [CL] at q;generalize e0.own=OW at q hv hsum;generalize e0.inn=ES at q dL hin hsum;clear hN hd hw hu;have T9:∀ {wl il H5},LS H wl il (OW.map V.str) L H5->t9 D0 [some (.ref a),some (.str zz),some (.ref wl),some (.ref il),none] H5:=fun {wl il H5} h=>by
  exists _,rfl,il,rfl,⟨_,SqL.of h.i⟩,hU (xs:=L) (fun i σ H'=>∃ w2 m4,σ=[some (.ref a),some (.str zz),some (.ref w2),some (.ref il),m4]/\LS H w2 il ((OW++eWs ((ES:List E).take i)).map V.str) L H') ⟨wl,none,rfl,h.s,h.n,by rw [X7,eWs,XB]; exact h.w,h.i⟩ (fun i σ H' _ ⟨_,_,_,h⟩=>SqL.of h.i) (fun i x σ H' hx ⟨w2,m4,e1,h⟩=>?_) (fun σ H' ⟨w2,m4,e1,h⟩=>?_)
  ·subst e1;obtain ⟨e,he,hxe⟩:=vD dL hx;obtain ⟨fa,fb,fc⟩:=hin e (Xh he);have lt:=qp ES i;exists _,rfl,_,rfl,x,e,rfl,hxe.mono (ao h.s),fa,fb,fc,fun r H2 g2 jA EA=>?_
   have h2:=h.go g2;exists w2,r,_,_,rfl,rfl,h2.w,EA,by rw [W8,W8,W7,sizeLine_eq]; omega,fun p hp=>⟨p,_,rfl,(h2.new hp _).s,h2.s.free hp,?_,(h2.new hp _).i⟩
   rw [ac,Xn,he,vh,<- Xs,Xb (l₂:=eWs (some e).toList)];simp only [Yq,eWs,XB]
  ·subst e1;have Lg:=h.w;rw [xZ dL] at Lg;exists _,rfl,q w2 H' h.s h.n Lg
 have T8:inV (.str zz) [.str "new",.str "rows"]=false->∀ {wl il H5},LS H wl il (OW.map V.str) L H5->t8 D0 [some (.ref a),some (.str zz),some (.ref wl),some (.ref il),none] H5:=fun n {wl il H5} h =>
  ⟨_,rfl,zl2,fun p hp=>⟨p,_,rfl,.inl (SqL.of ac),rfl,rfl,_,rfl,au (fun c9=>absurd (c9.symm.trans n) (by decide)) (fun _=>T9 (h.new hp _))⟩⟩
 have T7:inV (.str zz) [.str "div",.str "rest"]=false->inV (.str zz) [.str "new",.str "rows"]=false->∀ {wl il H5},LS H wl il (OW.map V.str) L H5->t7 D0 [some (.ref a),some (.str zz),some (.ref wl),some (.ref il),none] H5:=fun n n' {wl il H5} h =>
  ⟨_,rfl,zl2,fun p hp=>⟨p,_,rfl,.inl (SqL.of ac),rfl,rfl,_,rfl,au (fun c9=>absurd (c9.symm.trans n) (by decide)) (fun _=>T8 n' (h.new hp _))⟩⟩
 have T6:decide (V.str zz=V.str "times")=false->inV (.str zz) [.str "div",.str "rest"]=false->inV (.str zz) [.str "new",.str "rows"]=false->∀ {wl il H5},LS H wl il (OW.map V.str) L H5->t6 D0 [some (.ref a),some (.str zz),some (.ref wl),some (.ref il),none] H5:=fun n n' n'' {wl il H5} h =>
  ⟨_,rfl,rfl,_,rfl,au (fun c9=>absurd (c9.symm.trans n) (by decide)) (fun _=>T7 n' n'' h)⟩
 have hn:decide (V.str zz=V.str "num")=false/\decide (V.str zz=V.str "text")=false/\decide (V.str zz=V.str "var")=false:=by
  cases hv with
  | plain hz _=>obtain ⟨n1,n2,n3,_⟩:=Fo zz hz; exact ⟨n1,n2,n3⟩
  | div hz _=>obtain ⟨n1,n2,n3,_⟩:=KQ zz hz; exact ⟨n1,n2,n3⟩
  | ow hz _=>exact Rk zz hz
  | _=>decide +kernel
 exists _,rfl,a,_,_,_,rfl,rfl,SqT.of ha,at0 _ _,?_;exists _,rfl,rfl,_,rfl,au (fun c9=>absurd (c9.symm.trans hn.1) (by decide)) (fun c9=>?_);exists _,rfl,rfl,_,rfl,au (fun c9=>absurd (c9.symm.trans hn.2.1) (by decide)) (fun c9=>?_);exists _,rfl,rfl,_,rfl,au (fun c9=>absurd (c9.symm.trans hn.2.2) (by decide)) (fun c9=>?_);exists _,rfl,zl1,fun wl jY=>?_
 have s0:=ad jY (.lst [.str zz]);exists _,rfl,1,rfl,gq (k:=1) (s0 _ _ ha) fun q1 H1 g1 rN=>⟨q1,_,rfl,.inr (SqT.of rN),fun il hil=>?_⟩
 have hL:LS H wl il [.str zz] rs (upd H1 il (.lst rs)):=⟨(s0.trans g1).trans (ad hil _),jY,ad hil _ _ _ (g1 _ _ ac),ac⟩;show t5 D0 [some (.ref a),some (.str zz),some (.ref wl),some (.ref il),none] (upd H1 il (.lst rs));generalize (upd H1 il (.lst rs))=H5 at hL;have hwH:=hL.n;exists _,rfl,zl2,fun p1 hZ=>⟨p1,_,rfl,.inl (SqL.of ac),rfl,rfl,_,rfl,?_⟩
 have h1:=hL.new hZ (.lst [.str "of",.str "with"]);show if inV (.str zz) [.str "of",.str "with"]=true then _ else _
 generalize (upd H5 p1 (.lst [.str "of",.str "with"]))=H6 at h1;cases hv with
 | plain hz IA =>
  obtain ⟨_,_,_,n4,n5,n6,n7⟩:=Fo zz hz;exact au (fun c9=>absurd (c9.symm.trans n4) (by decide)) (fun _=>T6 n5 n6 n7 h1)
 | @ow _ z x r hz hr =>
  obtain ⟨n4,n5,n6,n7⟩:=N7 zz hz;refine au (fun c9=>?_) (fun c9=>absurd n4 c9);exists _,rfl,.inl ⟨rfl,_,SqL.of h1.w⟩,_,rfl,a,_,_,_,rfl,rfl,SqT.of (h1.s _ _ ha),at2 _ _ _ _,wl,_,_,rfl,rfl,h1.w,ap (by show 1<=1000; omega),?_;have sA:=az (o:=.lst ([.str zz]++[.str z])) hwH h1.s;exists _,rfl,a,_,_,_,rfl,rfl,SqT.of (sA _ _ ha),at1 _ _ _,zl1,fun l1 jX=>?_
  have sB:=sA.trans (ad jX (.lst [x]));exists _,rfl,3,rfl,gq (k:=3) (sB _ _ ha) fun q4 H4 g4 J6=>⟨q4,_,rfl,.inr (SqT.of J6),fun l5 wB=>?_⟩
  have Rx:=ad wB (.lst r) _ _ (g4 _ _ (aM jX (.lst [x])));have Sb:=ad wB (.lst r) _ _ (g4 _ _ (ad jX (.lst [x]) _ _ (ac (a:=wl) (o:=.lst ([.str zz]++[.str z])))));exists l1,l5,_,_,rfl,rfl,Rx,ac,XI (ap (by show 1+r.length<=1000; omega)),fun PM jf=>?_
  exact T6 n5 n6 n7 ⟨((sB.trans g4).trans (ad wB _)).trans (ad jf _),hwH,ad jf _ _ _ Sb,ac⟩
 | @tim iv x hi =>
  refine ZP ?_;exists _,rfl,rfl,_,rfl,ZQ ?_;exists _,rfl,.inl ⟨rfl,_,SqL.of h1.w⟩,_,rfl,a,_,_,_,rfl,rfl,SqT.of (h1.s _ _ ha),rfl,_,rfl,fL _ hi,wl,_,_,rfl,rfl,h1.w,ap (by show 1<=1000; omega),?_;have sA:=az (o:=.lst ([.str "times"]++[.str (ns iv)])) hwH h1.s;exists _,rfl,a,_,_,_,rfl,rfl,SqT.of (sA _ _ ha),rfl,zl1,fun PM jf=>?_
  exact T7 () () ⟨sA.trans (ad jf _),hwH,ad jf _ _ _ ac,ac⟩
 | @div _ iv x hz hi =>
  obtain ⟨_,_,_,n4,n5,n6,n7⟩:=KQ zz hz;refine au (fun c9=>absurd (c9.symm.trans n4) (by decide)) (fun c9=>?_);exists _,rfl,rfl,_,rfl,au (fun c9=>absurd (c9.symm.trans n5) (by decide)) (fun c9=>?_);exists _,rfl,zl2,fun p3 lD=>⟨p3,_,rfl,.inl (SqL.of ac),rfl,rfl,_,rfl,au (fun c9=>?_) (fun c9=>absurd n6 c9)⟩
  have h3:=h1.new lD (.lst [.str "div",.str "rest"]);exists _,rfl,.inl ⟨rfl,_,SqL.of h3.w⟩,_,rfl,a,_,_,_,rfl,rfl,SqT.of (h3.s _ _ ha),rfl,_,rfl,fL _ hi,wl,_,_,rfl,rfl,h3.w,ap (by show 1<=1000; omega),?_;have sA:=az (o:=.lst ([.str zz]++[.str (ns iv)])) hwH h3.s;exists _,rfl,a,_,_,_,rfl,rfl,SqT.of (sA _ _ ha),rfl,zl1,fun PM jf=>?_
  exact T8 n7 ⟨sA.trans (ad jf _),hwH,ad jf _ _ _ ac,ac⟩
 | @new xn al _ hal VX =>
  refine ZP ?_;exists _,rfl,rfl,_,rfl,ZP ?_;exists _,rfl,zl2,fun p3 lD=>⟨p3,_,rfl,.inl (SqL.of ac),rfl,rfl,_,rfl,ZP ?_⟩
  exists _,rfl,zl2,fun p5 Pn=>⟨p5,_,rfl,.inl (SqL.of ac),rfl,rfl,_,rfl,ZQ ?_⟩
  have h5:=(h1.new lD (.lst [.str "div",.str "rest"])).new Pn (.lst [.str "new",.str "rows"]);exists _,rfl,_,rfl,1,rfl,_,rfl,_,rfl,.inl ⟨a,_,rfl,SqT.of (h5.s _ _ ha),(by show ¬ (HT.sIx 3 0 (some 1)=0/\HT.sIx 3 3 (some (-1))=3); decide),fun q4 J6=>?_⟩;exists q4,[.str xn],rfl,.inr (SqT.of (aM J6 (.tup [.str xn]))),fun l5 wB=>?_
  have h6:=(h5.new J6 (.tup [.str xn])).new wB (.lst [.str xn]);exists wl,l5,_,_,rfl,rfl,h6.w,aM wB _,zl2,fun l7 C8=>?_
  have sD:=h6.s.trans (ad C8 (.lst ([.str "new"]++[.str xn])));exists _,rfl,_,rfl,a,_,_,_,rfl,rfl,SqT.of (sD _ _ ha),rfl,al,L,rfl,.inr (SqT.of (sD _ _ hal)),_,rfl,cS (by omega),zl1,fun l8 Es=>?_
  exists l7,l8,_,_,rfl,rfl,ad Es (.lst [.str (ns L.length)]) _ _ (aM C8 _),aM Es _,zl3,fun w9 Qm=>?_
  have sE:=sD.trans (ad Es (.lst [.str (ns L.length)]));have sF:=sE.trans (ad Qm (.lst ([.str "new"]++[.str xn]++[.str (ns L.length)])));exists _,rfl,_,rfl,a,_,_,_,rfl,rfl,SqT.of (sF _ _ ha),rfl,al,L,rfl,.inr (SqT.of (sF _ _ hal)),fun PM jf=>T9 ⟨sF.trans (ad jf _),sE.free Qm,ad jf _ _ _ ac,ac⟩
 | @rows al _ hal VX =>
  refine ZP ?_;exists _,rfl,rfl,_,rfl,ZP ?_;exists _,rfl,zl2,fun p3 lD=>⟨p3,_,rfl,.inl (SqL.of ac),rfl,rfl,_,rfl,ZP ?_⟩
  exists _,rfl,zl2,fun p5 Pn=>⟨p5,_,rfl,.inl (SqL.of ac),rfl,rfl,_,rfl,ZQ ?_⟩
  have h5:=(h1.new lD (.lst [.str "div",.str "rest"])).new Pn (.lst [.str "new",.str "rows"]);exists _,rfl,_,rfl,1,rfl,_,rfl,_,rfl,.inl ⟨a,_,rfl,SqT.of (h5.s _ _ ha),(by show ¬ (HT.sIx 2 0 (some 1)=0/\HT.sIx 2 2 (some (-1))=2); decide),fun q4 J6=>?_⟩;exists q4,[],rfl,.inr (SqT.of (aM J6 (.tup []))),fun l5 wB=>?_
  have h6:=(h5.new J6 (.tup [])).new wB (.lst []);exists wl,l5,_,_,rfl,rfl,h6.w,aM wB _,zl1,fun l7 C8=>?_
  have sD:=h6.s.trans (ad C8 (.lst ([.str "rows"]++[])));exists _,rfl,_,rfl,a,_,_,_,rfl,rfl,SqT.of (sD _ _ ha),rfl,al,L,rfl,.inr (SqT.of (sD _ _ hal)),_,rfl,cS (by omega),zl1,fun l8 Es=>?_
  exists l7,l8,_,_,rfl,rfl,ad Es (.lst [.str (ns L.length)]) _ _ (aM C8 _),aM Es _,zl2,fun w9 Qm=>?_
  have sE:=sD.trans (ad Es (.lst [.str (ns L.length)]));have sF:=sE.trans (ad Qm (.lst ([.str "rows"]++[]++[.str (ns L.length)])));exists _,rfl,_,rfl,a,_,_,_,rfl,rfl,SqT.of (sF _ _ ha),rfl,al,L,rfl,.inr (SqT.of (sF _ _ hal)),fun PM jf=>T9 ⟨sF.trans (ad jf _),sE.free Qm,ad jf _ _ _ ac,ac⟩
theorem Bp (T:G0 mg) (F:Zc "_law_words" ee) (b:cH K fd ["_law_e_here"] []) (m:mg "_law_words"=some (.ref f)):∀ n:Nat,Zb (n+1) ["_law_e_here"] (DE K n)
 | 0=>ky fun vs H Q EX h=>by
  obtain ⟨u,e,_,_,_,h1,_⟩:=h
  have:1<=e.d.depth:=by cases e<;>simp only [E.d,PyData.depth]<;>omega
  omega
 | n+1=>Oo T F ⟨f,fd,Bp T F b m n,b,F.kp,m⟩
end
open PySem L2
theorem HY {K:Frag} {H:Hp}:∀ {ys:List V} {ns:List Nd} {i:Nat} {x:V},DTs K H ys (ns.map Nd.d)->ys[i]?=some x->∃ n,ns[i]?=some n/\DT K H x n.d
 | ys,[],i,x,h,hx=>by simp only [XZ] at h; cases h; simp at hx
 | ys,e::r,i,x,h,hx=>by
  simp only [Xp] at h;obtain ⟨y,q,rfl,h1,h2⟩:=h.open;cases i with
  | zero=>simp at hx; subst hx; exact ⟨e,rfl,h1⟩
  | succ i=>obtain ⟨e',a,b⟩:=HY (i:=i) h2 (by simpa using hx); exact ⟨e',by simpa using a,b⟩
theorem xF:∀ (es:List Nd) (i:Nat),(nws (es.take i)).length<=(nws es).length
 | [],i=>by simp
 | e::r,0=>by simp [nws]
 | e::r,i+1=>by have:=xF r i; simp only [Yt,nws,W7]; omega
theorem CF:∀ {es:List Nd} {e:Nd},e∈es->e.w.length<=(nws es).length
 | a::r,e,h=>by
  simp only [nws,W7];rcases Xa.mp h with rfl | h
  ·omega
  ·have:=CF h; omega
theorem KG:∀ z∈([("less":Str),("same":Str)]:List Str),inV (.str z) [.str "less",.str "same"]=true:=()
theorem AE:∀ z∈([("and":Str),("or":Str),("not":Str)]:List Str),inV (.str z) [.str "less",.str "same"]=false:=()
theorem JV {K:Frag} {H:Hp} {u:V} {c:C} (h:DT K H u c.d) (hw:WfC c):∃ a z L,∃ ns:List Nd,u=.ref a/\H a=some (.tup (.str z::L))/\cW c=[z]++nws ns/\DTs K H L (ns.map Nd.d)/\L.length<=2/\(∀ n∈ns,n.wf/\n.d.depth<c.d.depth) /\
  ((inV (.str z) [.str "less",.str "same"]=true/\∀ n∈ns,∃ e,n=.e e)\/(inV (.str z) [.str "less",.str "same"]=false/\∀ n∈ns,∃ e,n=.c e)):=by
 cases c with
 | less a b =>
  simp only [C.d] at h;simp only [WfC] at hw;obtain ⟨p,x1,x2,rfl,hp,h1,h2⟩:=op2 h;exists p,_,_,[.e a,.e b],rfl,hp,by simp [cW,nws,Nd.w],(.cons h1 (.cons h2 .nil)),by simp,fun n hn=>?_,.inl ⟨KG _ (),fun n hn=>?_⟩
  ·simp only [Xa,Xe,or_false] at hn;rcases hn with rfl | rfl
   ·exists hw.1,by simp only [Nd.d,C.d,PyData.depth,PyData.depthAll]; omega
   ·exists hw.2,by simp only [Nd.d,C.d,PyData.depth,PyData.depthAll]; omega
  ·simp only [Xa,Xe,or_false] at hn;rcases hn with rfl | rfl
   ·exists _,rfl
   ·exists _,rfl
 | same a b =>
  simp only [C.d] at h;simp only [WfC] at hw;obtain ⟨p,x1,x2,rfl,hp,h1,h2⟩:=op2 h;exists p,_,_,[.e a,.e b],rfl,hp,by simp [cW,nws,Nd.w],(.cons h1 (.cons h2 .nil)),by simp,fun n hn=>?_,.inl ⟨KG _ (),fun n hn=>?_⟩
  ·simp only [Xa,Xe,or_false] at hn;rcases hn with rfl | rfl
   ·exists hw.1,by simp only [Nd.d,C.d,PyData.depth,PyData.depthAll]; omega
   ·exists hw.2,by simp only [Nd.d,C.d,PyData.depth,PyData.depthAll]; omega
  ·simp only [Xa,Xe,or_false] at hn;rcases hn with rfl | rfl
   ·exists _,rfl
   ·exists _,rfl
 | and_ a b =>
  simp only [C.d] at h;simp only [WfC] at hw;obtain ⟨p,x1,x2,rfl,hp,h1,h2⟩:=op2 h;exists p,_,_,[.c a,.c b],rfl,hp,by simp [cW,nws,Nd.w],(.cons h1 (.cons h2 .nil)),by simp,fun n hn=>?_,.inr ⟨AE _ (),fun n hn=>?_⟩
  ·simp only [Xa,Xe,or_false] at hn;rcases hn with rfl | rfl
   ·exists hw.1,by simp only [Nd.d,C.d,PyData.depth,PyData.depthAll]; omega
   ·exists hw.2,by simp only [Nd.d,C.d,PyData.depth,PyData.depthAll]; omega
  ·simp only [Xa,Xe,or_false] at hn;rcases hn with rfl | rfl
   ·exists _,rfl
   ·exists _,rfl
 | or_ a b =>
  simp only [C.d] at h;simp only [WfC] at hw;obtain ⟨p,x1,x2,rfl,hp,h1,h2⟩:=op2 h;exists p,_,_,[.c a,.c b],rfl,hp,by simp [cW,nws,Nd.w],(.cons h1 (.cons h2 .nil)),by simp,fun n hn=>?_,.inr ⟨AE _ (),fun n hn=>?_⟩
  ·simp only [Xa,Xe,or_false] at hn;rcases hn with rfl | rfl
   ·exists hw.1,by simp only [Nd.d,C.d,PyData.depth,PyData.depthAll]; omega
   ·exists hw.2,by simp only [Nd.d,C.d,PyData.depth,PyData.depthAll]; omega
  ·simp only [Xa,Xe,or_false] at hn;rcases hn with rfl | rfl
   ·exists _,rfl
   ·exists _,rfl
 | not_ a =>
  simp only [C.d] at h;simp only [WfC] at hw;obtain ⟨p,x1,rfl,hp,h1⟩:=op1 h;exists p,_,_,[.c a],rfl,hp,by simp [cW,nws,Nd.w],(.cons h1 .nil),by simp,fun n hn=>?_,.inr ⟨AE _ (),fun n hn=>?_⟩
  ·rw [Xi.mp hn];exists hw,by simp only [Nd.d,C.d,PyData.depth,PyData.depthAll]; omega
  ·exists _,Xi.mp hn
section
variable {P:Program} {w:World} {K:Frag} {mg:Str->Option Value} {base:Heap} {f g:Addr} {fd gd:FuncData}
abbrev jy:List Str:=["_law_c", "_law_words_here", "_law_one"]
theorem bZ:aA jy ["_law_c"] (defScope bD):=ZU 0
inductive Hw (K:Frag) (n:Nat) (vs:List V) (H:Hp) (Q:VK) (bu:XK):Prop
 | mk (u) (e:C):(vs=[u])->(DT K H u e.d)->(WfC e)->(e.d.depth<=n)->((cW e).length<=1000000)->(∀ r H',av H H'->H r=none->H' r=some (.lst ((cW e).map V.str))->Q (.ref r) H')->Hw K n vs H Q bu
theorem OB {n:Nat} (F:Zc "_law_condition_words" bD) (ib:Za (n+1) "_law_words" ["_law_e_here"] (DE K n)) (cA:Za (n+1) "_law_condition_words" ["_law_c"] (Hw K n)):Zb (n+2) ["_law_c"] (Hw K (n+1)):=by
 refine ZR F bZ
 ·obtain ⟨u,e,rfl,_⟩:=h
  rfl
 obtain ⟨u,c,rfl,hu,hw,hd,hN,q⟩:=h;obtain ⟨a,z,L,ND,rfl,ha,ew,dL,ou,hnd,hcs⟩:=JV hu hw;rw [ew] at q hN;rw [W7] at hN;exists _,(Z2 (ZA 1 bZ.nd (ZD (Z0 (Z4 (pv 0))))) (Z2 (ZM (bI (@bj _ _ _ _ _ _ _ _ _ _ (iG.or fF) (pv 0) (bJ af) cb)) (ZO 2 bZ.nd) (Z3 (ZA 1 bZ.nd (ZE bQ (pv 1) (@dE _ _ _ _ _ _ _ _ (Z9 bz (Z4 (pv 0)) (ZD (Z1 ag (Z0 ag)))) (Z6 ib (Z0 (pv 2))) (Z6 cA (Z0 (pv 2)))))))) (Z3 (Z7 (pv 1))))),?_;show let v1:L2.TS:=_; let v2:=am (gW _ _ v1) _; (am _ v2) _ _ _;intro v1 v2;exists _,rfl,a,_,_,_,rfl,rfl,SqT.of ha,at0 _ _,zl1,fun wl jY=>?_
 have s0:=ad jY (.lst [.str z]);exists _,rfl,1,rfl,gq (k:=1) (s0 _ _ ha) fun q1 H1 g1 rN=>?_
 have sI:=s0.trans g1;have lL:=dL.len;rw [W8] at lL;have Vv:H1 wl=some (.lst ([z].map V.str)):=g1 _ _ ac;exists q1,rfl,⟨L,SqT.of rN⟩,fH (xs:=L) (fun i σ H'=>∃ w2 m2,σ=[some (.ref a),some (.ref w2),m2]/\av H H'/\av H1 H'/\H w2=none/\H' w2=some (.lst (([z]++nws (ND.take i)).map V.str))) ⟨wl,none,rfl,sI,av.refl _,jY,by rw [X7,nws,XB]; exact Vv⟩ (fun i σ H' _ ⟨_,_,_,_,e3,_⟩=>SqT.of (e3 _ _ rN)) (fun i x σ H' hx p=>?_) (fun σ H' p=>?_)
 ·obtain ⟨w2,m2,rfl,G,G1,hf,Lg⟩:=p;obtain ⟨nd,hn,hxn⟩:=HY dL hx;have hnm:=Xh hn;obtain ⟨nwf,ndp⟩:=hnd nd hnm;have nlen:=CF hnm;have lt:=xF ND i;have fin:∀ r H2,av H H2->av H1 H2->H2 w2=some (.lst (([z]++nws (ND.take i)).map V.str))->H2 r=some (.lst (nd.w.map V.str))->LC (.ref w2) (.ref r) H2 (fun v H3=>∃ w3,v=.ref w3/\av H H3/\av H1 H3/\H w3=none/\H3 w3=some (.lst (([z]++nws (ND.take (i+1))).map V.str))):=fun r H2 S2 S1 h1 h2=>by
   exists w2,r,_,_,rfl,rfl,h1,h2,by rw [W8,W8,W7,sizeLine_eq]; omega,fun p hp=>⟨p,rfl,S2.trans (ad hp _),S1.trans (ad hp _),S2.free hp,?_⟩
   rw [ac,Xn,hn,fG,<- Xs,Xb (l₂:=nws (some nd).toList)];simp only [Yq,nws,XB]
  exists _,rfl,_,rfl,a,_,_,_,rfl,rfl,SqT.of (G _ _ ha),at0 _ _,zl2,fun p3 lD=>⟨p3,_,rfl,.inl (SqL.of ac),rfl,rfl,_,rfl,?_⟩
  have s3:=ad lD (.lst [.str "less",.str "same"]);rcases hcs with ⟨hin,he⟩ | ⟨hin,he⟩
  ·refine au (fun c9=>?_) (fun c9=>absurd hin c9);obtain ⟨e,rfl⟩:=he nd hnm;exists _,rfl,x,e,rfl,hxn.mono (ao (G.trans s3)),nwf,(by have:e.d.depth<c.d.depth:=ndp; omega),(by have:(eW e).length<=_:=nlen; omega),fun r H4 g4 jA MY=>?_
   obtain ⟨l,b,xs,zs,h1,h2,h3,h4,h5,h6⟩:=fin r H4 ((G.trans s3).trans g4) ((G1.trans s3).trans g4) (g4 _ _ (s3 _ _ Lg)) MY;exists l,b,xs,zs,h1,h2,h3,h4,h5,fun p hp=>?_
   obtain ⟨w3,e3,r1,r2,r3,r4⟩:=h6 p hp;cases e3;exists p,_,rfl,r1,r2,r3,r4
  ·refine au (fun c9=>absurd (c9.symm.trans hin) (by decide)) (fun c9=>?_);obtain ⟨e,rfl⟩:=he nd hnm;exists _,rfl,x,e,rfl,hxn.mono (ao (G.trans s3)),nwf,(by have:e.d.depth<c.d.depth:=ndp; omega),(by have:(cW e).length<=_:=nlen; omega),fun r H4 g4 jA MY=>?_
   obtain ⟨l,b,xs,zs,h1,h2,h3,h4,h5,h6⟩:=fin r H4 ((G.trans s3).trans g4) ((G1.trans s3).trans g4) (g4 _ _ (s3 _ _ Lg)) MY;exists l,b,xs,zs,h1,h2,h3,h4,h5,fun p hp=>?_
   obtain ⟨w3,e3,r1,r2,r3,r4⟩:=h6 p hp;cases e3;exists p,_,rfl,r1,r2,r3,r4
 ·obtain ⟨w2,m2,rfl,G,G1,hf,Lg⟩:=p;rw [lL,Xo] at Lg;exists _,rfl,q w2 H' G hf Lg
theorem Fg (T:G0 mg) (F:Zc "_law_condition_words" bD) (b:cH K fd ["_law_c"] []) (m:mg "_law_condition_words"=some (.ref f)) (Fw:Fun K "_law_words" "_law_words" ee g gd) (bw:cH K gd ["_law_e_here"] []) (mw:mg "_law_words"=some (.ref g)):∀ n:Nat,Zb (n+1) ["_law_c"] (Hw K n)
 | 0=>ky fun vs H Q EX h=>by
  obtain ⟨u,e,_,_,_,h1,_⟩:=h
  have:1<=e.d.depth:=by cases e<;>simp only [C.d,PyData.depth]<;>omega
  omega
 | n+1=>OB F ⟨g,gd,Bp T Fw bw mw n,bw,Fw.kp,mw⟩ ⟨f,fd,Fg T F b m Fw bw mw n,b,F.kp,m⟩
end
open PySem L2
theorem Hz {K:Frag} {H:Hp}:∀ {ys:List V} {es:List S} {i:Nat} {x:V},DTs K H ys (S.ds es)->ys[i]?=some x->∃ e,es[i]?=some e/\DT K H x e.d
 | ys,[],i,x,h,hx=>by simp only [S.ds] at h; cases h; simp at hx
 | ys,e::r,i,x,h,hx=>by
  simp only [S.ds] at h;obtain ⟨y,q,rfl,h1,h2⟩:=h.open;cases i with
  | zero=>simp at hx; subst hx; exact ⟨e,rfl,h1⟩
  | succ i=>obtain ⟨e',a,b⟩:=Hz (i:=i) h2 (by simpa using hx); exact ⟨e',by simpa using a,b⟩
theorem xK:∀ ss:List S,(S.ds ss).length=ss.length
 | []=>by simp only [S.ds]; rfl
 | s::r=>by simp only [S.ds,W9,xK r]
theorem Cz:∀ a b:List S,sRs (a++b)=sRs a++sRs b
 | [],b=>by simp only [sRs,Xz]
 | p::r,b=>by simp only [Xf,sRs,Cz r b,Xs]
theorem wQ {ss:List S} {i:Nat} {s:S} (h:ss[i]?=some s):sRs (ss.take (i+1))=sRs (ss.take i)++sR s:=by
 rw [Xn,h,Cz];simp only [Yq,sRs,XB]
theorem xU:∀ (ss:List S) (i:Nat),(sRs (ss.take i)).length<=(sRs ss).length
 | [],i=>by simp
 | e::r,0=>by simp [sRs]
 | e::r,i+1=>by have:=xU r i; simp only [Yt,sRs,W7]; omega
theorem HC:∀ {ss:List S} {s:S},s∈ss->s.d.depth<=PyData.depthAll (S.ds ss)
 | a::r,s,h=>by
  simp only [S.ds,PyData.depthAll];rcases Xa.mp h with rfl | h
  ·omega
  ·have:=HC h; omega
theorem oZ {ws:List Str} (h:∀ z∈ws,z∈WS8) (hl:ws.length<=1000000):jl SPC ws<=sizeLine:=XC (nS h) (by rw [sizeLine_eq]; omega)
section
variable {P:Program} {w:World} {K:Frag} {mg:Str->Option Value} {base:Heap} {f g:Addr} {fd gd:FuncData}
abbrev EI:List Str:=["_law_body_here", "_law_rows_here", "_law_line", "_law_words_here", "_law_some", "_law_e_here"]
theorem cR:aA EI ["_law_body_here"] (defScope j9):=ZU 0
inductive GQ (K:Frag) (n:Nat) (vs:List V) (H:Hp) (Q:VK) (bu:XK):Prop
 | mk (ba xs) (ss:List S):(vs=[.ref ba])->(H ba=some (.tup xs))->(DTs K H xs (S.ds ss))->(jR ss)->((PyData.tuple (S.ds ss)).depth<=n)->(WS (S.ds ss)<=1000000)->((sRs ss).length<=900)->(∀ r H',av H H'->H r=none->H' r=some (.lst ((sRs ss).map V.str))->Q (.ref r) H')->GQ K n vs H Q bu
theorem Oq {n:Nat} (T:G0 mg) (F:Zc "_law_rows" j9) (ib:Za (n+1) "_law_words" ["_law_e_here"] (DE K n)) (cA:Za (n+1) "_law_condition_words" ["_law_c"] (Hw K n)) (lC:Za (n+1) "_law_rows" ["_law_body_here"] (GQ K n)):Zb (n+2) ["_law_body_here"] (GQ K (n+1)):=by
 refine ZR F cR
 ·obtain ⟨ba,xs,ss,rfl,_⟩:=h
  rfl
 obtain ⟨ba,xs,ss,rfl,hba,dxs,hwf,hdp,hWS,hrl,q⟩:=h;simp only [PyData.depth] at hdp;have lx:=dxs.len;rw [xK] at lx;exists _,(Z2 (ZA 1 cR.nd (ZD aq)) (Z2 (ZM (bI (pv 0)) (ZO 2 cR.nd) (Z3 (ZC (Z9 bz (Z4 (pv 2)) (ZD (Z1 ag (Z0 ag)))) (Z2 (ZL (ZG (pv 1) (Z0 (ZH XN XV XW eR ag (Z0 (ZE bQ (ZD (Z0 (Z4 (pv 2)))) (Z6 cA (Z0 (Z4 (pv 2)))))))))) (Z2 (ZA 1 cR.nd (ZE bQ (pv 1) (Z6 lC (Z0 (Z4 (pv 2)))))) (Z2 (ZB (Z8 aJ (Z4 (pv 2)) ag) (Z3 (ZA 1 cR.nd (ZE bQ (ZE bQ (pv 1) (ZD (Z0 ag))) (Z6 lC (Z0 (Z4 (pv 2)))))))) (Z3 (ZL (ZG (pv 1) (Z0 ag))))))) (Z3 (ZC (Z8 aJ (Z4 (pv 2)) ag) (Z3 (ZL (ZG (pv 1) (Z0 (ZH XN XV XW eR ag (Z0 (ZE bQ (ZD (Z1 ag (Z0 (Z4 (pv 2))))) (Z6 cA (Z0 (Z4 (pv 2))))))))))) (Z2 (ZA 3 cR.nd (ZK aY T.list dR (Z0 (@bj _ _ _ _ _ _ _ _ _ _ (iG.or fF) (pv 2) cb (bJ (gh dH af)))))) (Z2 (ZA 4 cR.nd (ZD (Z0 (Z5 cV (pv 2) (@gh _ _ _ _ _ _ dH af))))) (Z2 (ZB (Z8 aJ (Z4 (pv 2)) ag) (Z2 (ZL (ZG (pv 3) (Z0 (ZK aK T.str dJ (Z0 (ZI (Z0 (Z5 cV (pv 2) (@gh _ _ _ _ _ _ dH af))))))))) (Z3 (ZA 4 cR.nd (ZK aY T.list dR (Z0 (Z5 cV (pv 2) (@gh _ _ _ _ _ _ dH af)))))))) (Z2 (ZM (fD (pv 4)) (ZO 5 cR.nd) (Z3 (ZA 3 cR.nd (ZE bQ (pv 3) (Z6 ib (Z0 (pv 5))))))) (Z3 (ZL (ZG (pv 1) (Z0 (ZH XN XV XW eR ag (Z0 (pv 3)))))))))))))))) (Z3 (Z7 (pv 1))))),?_;show let tf:=am _ _; let tc:=am _ (am _ (am _ tf)); let ti:L2.TS:=_; let te:=bf _ _ tc; (am _ (am (gW _ _ (bf _ ti te)) _)) _ _ _;intro tf tc ti te;exists zl0,fun t0 Nv=>?_
 have g0:=ad Nv (.lst []);exists _,rfl,ba,rfl,⟨xs,SqT.of (g0 _ _ hba)⟩,fH (xs:=xs) (fun i σ H'=>∃ t m2 m3 m4 m5,σ=[some (.ref ba),some (.ref t),m2,m3,m4,m5]/\av H H'/\H t=none/\H' t=some (.lst ((sRs (ss.take i)).map V.str))) ⟨t0,none,none,none,none,rfl,g0,Nv,by rw [X7,sRs]; exact ac⟩ (fun i σ H' _ ⟨_,_,_,_,_,_,e3,_⟩=>SqT.of (e3 _ _ hba)) (fun i x σ H' hx p=>?_) (fun σ H' p=>?_)
 ·obtain ⟨t,m2,m3,m4,m5,rfl,G,hf,hT⟩:=p;obtain ⟨st,hst,dst⟩:=Hz dxs hx;have hm:=Xh hst;have sw:=qd hwf hm;have sb:=XC (zc hm) hWS;have sd:=HC hm;have hws:=MN (n:=.s st) sw;have jY:=XC (HU st sw) sb;have rt:=xU ss (i+1);rw [wQ hst,W7] at rt;have nx:=wQ hst;have T9:∀ {D1:jx},(∀ {σ' H'},(∃ t m2 m3 m4 m5,σ'=[some (.ref ba),some (.ref t),m2,m3,m4,m5]/\av H H'/\H t=none/\H' t=some (.lst ((sRs (ss.take (i+1))).map V.str)))->D1.nx σ' H')->sR st=[J (hW st)] ->
    ∀ {W0:List Str} {ES:List E} {L:List V} {a wl il:Addr} {m5:Option V} {H5:Hp},hW st=W0++eWs ES->DTs K H L (E.ds ES)->(∀ e∈ES,Wf e/\e.d.depth<=n)->LS H wl il (W0.map V.str) L H5->H5 t=some (.lst ((sRs (ss.take i)).map V.str))->tf D1 [some (.ref ba),some (.ref t),some (.ref a),some (.ref wl),some (.ref il),m5] H5:=fun {D1} hN hs {W0 ES L a wl il m5 H5} hcl dL hin hL Kb=>by
   have hsum:W0.length+(eWs ES).length<=1000000:=by rw [<- W7,<- hcl]; exact jY
   exists _,rfl,il,rfl,⟨_,SqL.of hL.i⟩,hU (xs:=L) (fun j σ H7=>∃ w2 m5,σ=[some (.ref ba),some (.ref t),some (.ref a),some (.ref w2),some (.ref il),m5]/\LS H w2 il ((W0++eWs ((ES:List E).take j)).map V.str) L H7/\H7 t=some (.lst ((sRs (ss.take i)).map V.str))) ⟨wl,m5,rfl,⟨hL.s,hL.n,by rw [X7,eWs,XB]; exact hL.w,hL.i⟩,Kb⟩ (fun j σ H7 _ ⟨_,_,_,h,_⟩=>SqL.of h.i) (fun j x7 σ H7 Ua ⟨w2,m5,e1,h,J5⟩=>?_) (fun σ H7 ⟨w2,m5,e1,h,J5⟩=>?_)
   ·subst e1;obtain ⟨e',he,hxe⟩:=vD dL Ua;have me:=Xh he;have lt:=qp ES j;have le:=vU me;exists _,rfl,_,rfl,x7,e',rfl,hxe.mono (ao h.s),(hin e' me).1,(hin e' me).2,by omega,fun r H8 g8 jA VQ=>?_
    have h8:=h.go g8;exists w2,r,_,_,rfl,rfl,h8.w,VQ,by rw [W8,W8,W7,sizeLine_eq]; omega,fun p hp=>⟨p,_,rfl,⟨(h8.new hp _).s,h8.s.free hp,?_,(h8.new hp _).i⟩,ad hp _ _ _ (g8 _ _ J5)⟩
    rw [ac,Xn,he,vh,<- Xs,Xb (l₂:=eWs (some e').toList)];simp only [Yq,eWs,XB]
   ·subst e1;have SG:=h.w;rw [xZ dL,<- hcl] at SG;exists _,rfl,.inl ⟨rfl,_,SqL.of J5⟩,rfl,_,rfl,SPC,w2,hW st,congrArg V.str eK,rfl,.inl (SqL.of SG),oZ hws jY,?_;exists t,_,_,rfl,rfl,J5,ap (by rw [W8]; omega),hN ⟨t,_,_,_,_,rfl,az hf h.s,hf,?_⟩;rw [ac,nx,Xb,hs]
    rfl
  cases st with
  | say x c =>
   simp only [S.d] at dst sb sd;obtain ⟨a,x1,x2,rfl,wD,h1,h2⟩:=op2 dst;have ha:=G _ _ wD;obtain rfl:=h1.str_inv;simp only [WfS] at sw;simp only [PyData.depth,PyData.depthAll] at sd;simp only [W,WS] at sb;exists _,rfl,a,_,_,_,rfl,rfl,SqT.of ha,at0 _ _,zl2,fun p1 hZ=>⟨p1,_,rfl,.inl (SqL.of ac),rfl,rfl,_,rfl,ZP ?_⟩
   have s1:=ad hZ (.lst [.str "if",.str "while"]);have G1:=G.trans s1;have oN:=s1 _ _ ha;have yf:=s1 _ _ hT;exists _,rfl,a,_,_,_,rfl,rfl,SqT.of oN,at0 _ _,rfl,_,rfl,ZQ ?_;exists _,rfl,.inl ⟨rfl,_,SqL.of yf⟩,rfl,_,rfl,a,_,_,_,rfl,rfl,SqT.of oN,rfl,zl2,fun l1 jX=>?_
   have s2:=ad jX (.lst [.str "say",.str x]);exists _,rfl,a,_,_,_,rfl,rfl,SqT.of (s2 _ _ oN),rfl,x2,c,rfl,h2.mono (ao (G1.trans s2)),sw.2,(by omega),(by simp only [hW,W7] at jY; omega),fun r H2 g2 jA EA=>?_
   have G2:=(G1.trans s2).trans g2;exists l1,r,_,_,rfl,rfl,g2 _ _ ac,EA,(by simp only [hW,W7,W9,Xd] at jY; rw [W8,sizeLine_eq]; show 2+_<=_; omega),fun p hp=>?_
   have s3:=ad hp (.lst ([.str "say",.str x]++(cW c).map V.str));have o8:=s3 _ _ (g2 _ _ (s2 _ _ yf));exists SPC,p,hW (.say x c),congrArg V.str eK,rfl,.inl (SqL.of ac),oZ hws jY,?_;exists t,_,_,rfl,rfl,o8,ap (by rw [W8]; omega),?_;exists t,_,_,_,_,rfl,az hf (G2.trans s3),hf,?_;rw [ac,nx,Xb,sR]
   rfl
  | let_ x e =>
   simp only [S.d] at dst sb sd;obtain ⟨a,x1,x2,rfl,wD,h1,h2⟩:=op2 dst;have ha:=G _ _ wD;obtain rfl:=h1.str_inv;simp only [WfS] at sw;simp only [PyData.depth,PyData.depthAll] at sd;simp only [W,WS] at sb;exists _,rfl,a,_,_,_,rfl,rfl,SqT.of ha,at0 _ _,zl2,fun p1 hZ=>⟨p1,_,rfl,.inl (SqL.of ac),rfl,rfl,_,rfl,ZP ?_⟩
   have s1:=ad hZ (.lst [.str "if",.str "while"]);have G1:=G.trans s1;have oN:=s1 _ _ ha;have yf:=s1 _ _ hT;exists _,rfl,a,_,_,_,rfl,rfl,SqT.of oN,at0 _ _,rfl,_,rfl,ZP ?_;exists _,rfl,_,rfl,_,rfl,.inl ⟨a,_,rfl,SqT.of oN,(by show ¬ (HT.sIx 3 0 none=0/\HT.sIx 3 3 (some (-1))=3); decide),fun q1 rN=>?_⟩;have s2:=ad rN (.tup [.str "let",.str x]);exists q1,[.str "let",.str x],rfl,.inr (SqT.of (aM rN (.tup [.str "let",.str x]))),fun wl oQ=>?_
   have s3:=ad oQ (.lst [.str "let",.str x]);have G3:=(G1.trans s2).trans s3;have El:=s3 _ _ (s2 _ _ oN);have o8:=s3 _ _ (s2 _ _ yf);have hwH:=(G1.trans s2).free oQ;exists _,rfl,_,rfl,a,_,_,_,rfl,rfl,SqT.of El,rfl,zl1,fun il hil=>?_
   have s4:=ad hil (.lst [x2]);have G4:=G3.trans s4;have Eu:=s4 _ _ o8;have C3:=s4 _ _ (aM oQ (.lst [.str "let",.str x]));have QD:=aM hil (.lst [x2]);have dL:DTs K H [x2] (E.ds [e]):=by simp only [E.ds]; exact .cons h2 .nil
   exists _,rfl,a,_,_,_,rfl,rfl,SqT.of (s4 _ _ El),at0 _ _,rfl,_,rfl,au (fun c9=>absurd c9 ()) (fun c9=>T9 id (by rw [sR]) (W0:=[("let":Str),x]) (ES:=[e]) (by simp [hW,eWs]) dL (fun e' he=>⟨by rw [Xi.mp he]; exact sw.2,by rw [Xi.mp he]; omega⟩) ⟨G4,hwH,C3,QD⟩ Eu)
  | give e =>
   simp only [S.d] at dst sb sd;obtain ⟨a,x1,rfl,wD,h1⟩:=op1 dst;have ha:=G _ _ wD;simp only [WfS] at sw;simp only [PyData.depth,PyData.depthAll] at sd;simp only [W,WS] at sb;exists _,rfl,a,_,_,_,rfl,rfl,SqT.of ha,at0 _ _,zl2,fun p1 hZ=>⟨p1,_,rfl,.inl (SqL.of ac),rfl,rfl,_,rfl,ZP ?_⟩
   have s1:=ad hZ (.lst [.str "if",.str "while"]);have G1:=G.trans s1;have oN:=s1 _ _ ha;have yf:=s1 _ _ hT;exists _,rfl,a,_,_,_,rfl,rfl,SqT.of oN,at0 _ _,rfl,_,rfl,ZP ?_;exists _,rfl,_,rfl,_,rfl,.inl ⟨a,_,rfl,SqT.of oN,(by show ¬ (HT.sIx 2 0 none=0/\HT.sIx 2 2 (some (-1))=2); decide),fun q1 rN=>?_⟩;have s2:=ad rN (.tup [.str "give"]);exists q1,[.str "give"],rfl,.inr (SqT.of (aM rN (.tup [.str "give"]))),fun wl oQ=>?_
   have s3:=ad oQ (.lst [.str "give"]);have G3:=(G1.trans s2).trans s3;have El:=s3 _ _ (s2 _ _ oN);have o8:=s3 _ _ (s2 _ _ yf);have hwH:=(G1.trans s2).free oQ;exists _,rfl,_,rfl,a,_,_,_,rfl,rfl,SqT.of El,rfl,zl1,fun il hil=>?_
   have s4:=ad hil (.lst [x1]);have G4:=G3.trans s4;have Eu:=s4 _ _ o8;have C3:=s4 _ _ (aM oQ (.lst [.str "give"]));have QD:=aM hil (.lst [x1]);have dL:DTs K H [x1] (E.ds [e]):=by simp only [E.ds]; exact .cons h1 .nil
   exists _,rfl,a,_,_,_,rfl,rfl,SqT.of (s4 _ _ El),at0 _ _,rfl,_,rfl,au (fun c9=>absurd c9 ()) (fun c9=>T9 id (by rw [sR]) (W0:=[("give":Str)]) (ES:=[e]) (by simp [hW,eWs]) dL (fun e' he=>⟨by rw [Xi.mp he]; exact sw,by rw [Xi.mp he]; omega⟩) ⟨G4,hwH,C3,QD⟩ Eu)
  | call x g es =>
   simp only [S.d] at dst sb sd;obtain ⟨a,x1,x2,x3,rfl,wD,h1,h2,h3⟩:=op3 dst;have ha:=G _ _ wD;obtain rfl:=h1.str_inv;obtain rfl:=h2.str_inv;obtain ⟨al,ys,rfl,Rp,dL⟩:=h3.open;have hal:=G _ _ Rp;have ly:=dL.len8;simp only [WfS] at sw;simp only [PyData.depth,PyData.depthAll] at sd;simp only [W,WS] at sb;exists _,rfl,a,_,_,_,rfl,rfl,SqT.of ha,at0 _ _,zl2,fun p1 hZ=>⟨p1,_,rfl,.inl (SqL.of ac),rfl,rfl,_,rfl,ZP ?_⟩
   have s1:=ad hZ (.lst [.str "if",.str "while"]);have G1:=G.trans s1;have oN:=s1 _ _ ha;have yf:=s1 _ _ hT;exists _,rfl,a,_,_,_,rfl,rfl,SqT.of oN,at0 _ _,rfl,_,rfl,ZP ?_;exists _,rfl,_,rfl,_,rfl,.inl ⟨a,_,rfl,SqT.of oN,(by show ¬ (HT.sIx 4 0 none=0/\HT.sIx 4 4 (some (-1))=4); decide),fun q1 rN=>?_⟩;have s2:=ad rN (.tup [.str "call",.str x,.str g]);exists q1,[.str "call",.str x,.str g],rfl,.inr (SqT.of (aM rN (.tup [.str "call",.str x,.str g]))),fun wl oQ=>?_
   have s3:=ad oQ (.lst [.str "call",.str x,.str g]);have G3:=(G1.trans s2).trans s3;have El:=s3 _ _ (s2 _ _ oN);have o8:=s3 _ _ (s2 _ _ yf);have hwH:=(G1.trans s2).free oQ;exists _,rfl,_,rfl,a,_,_,_,rfl,rfl,SqT.of El,rfl,zl1,fun il hil=>?_
   have s4:=ad hil (.lst [.ref al]);have G4:=G3.trans s4;have Eu:=s4 _ _ o8;have C3:=s4 _ _ (aM oQ (.lst [.str "call",.str x,.str g]));have QD:=aM hil (.lst [.ref al]);exists _,rfl,a,_,_,_,rfl,rfl,SqT.of (s4 _ _ El),at0 _ _,rfl,_,rfl,ZQ ?_;exists _,rfl,.inl ⟨rfl,_,SqL.of C3⟩,_,rfl,_,rfl,a,_,_,_,rfl,rfl,SqT.of (s4 _ _ El),rfl,al,ys,rfl,.inr (SqT.of (s4 _ _ (s3 _ _ (s2 _ _ (s1 _ _ hal))))),_,rfl,cS (by omega),wl,_,_,rfl,rfl,C3,ap (by show 3<=1000; omega),?_;have htw:t≠wl:=fun z=>by
    have Ub:some (HO.lst _)=none:=(s2 _ _ yf).symm.trans (by rw [z]; exact oQ);cases Ub
   have G5:=az (o:=.lst ([.str "call",.str x,.str g]++[.str (ns ys.length)])) hwH G4;have kw:=aW C3 (.lst ([.str "call",.str x,.str g]++[.str (ns ys.length)]));exists _,rfl,_,rfl,a,_,_,_,rfl,rfl,SqT.of (kw _ _ (s4 _ _ El)),rfl,al,ys,rfl,.inr (SqT.of (kw _ _ (s4 _ _ (s3 _ _ (s2 _ _ (s1 _ _ hal)))))),fun PM jf=>?_
   have s6:=ad jf (.lst ys);have G6:=G5.trans s6;have C5:=s6 _ _ (show _=_ from (aj htw).trans Eu);have UW:=s6 _ _ (ac (a:=wl) (o:=.lst ([.str "call",.str x,.str g]++[.str (ns ys.length)])));have VJ:=aM jf (.lst ys);exact T9 id (by rw [sR]) (W0:=[("call":Str),x,g,ns ys.length]) (by simp [hW,ly]) dL (fun e' he=>⟨lm sw.2.2.2 e' he,by have:=Bw he; omega⟩) ⟨G6,hwH,UW,VJ⟩ C5
  | while_ c a1 =>
   simp only [S.d] at dst sb sd;obtain ⟨a,x1,x2,rfl,wD,h1,h2⟩:=op2 dst;have ha:=G _ _ wD;obtain ⟨Nc,RF,rfl,uR,RN⟩:=h2.open;simp only [WfS] at sw;simp only [PyData.depth,PyData.depthAll] at sd;simp only [W,WS] at sb;exists _,rfl,a,_,_,_,rfl,rfl,SqT.of ha,at0 _ _,zl2,fun p1 hZ=>⟨p1,_,rfl,.inl (SqL.of ac),rfl,rfl,_,rfl,ZQ ?_⟩
   have s1:=ad hZ (.lst [.str "if",.str "while"]);have G1:=G.trans s1;have oN:=s1 _ _ ha;have yf:=s1 _ _ hT;exists _,rfl,.inl ⟨rfl,_,SqL.of yf⟩,rfl,_,rfl,a,_,_,_,rfl,rfl,SqT.of oN,at0 _ _,zl1,fun l1 jX=>?_
   have s2:=ad jX (.lst [.str "while"]);exists _,rfl,a,_,_,_,rfl,rfl,SqT.of (s2 _ _ oN),rfl,x1,c,rfl,h1.mono (ao (G1.trans s2)),sw.1,(by omega),(by simp only [hW,W7] at jY; omega),fun r H2 g2 jA EA=>?_
   have G2:=(G1.trans s2).trans g2;exists l1,r,_,_,rfl,rfl,g2 _ _ ac,EA,(by simp only [hW,W7,W9,Xd] at jY; rw [W8,sizeLine_eq]; show 1+_<=_; omega),fun p hp=>?_
   have s3:=ad hp (.lst ([.str "while"]++(cW c).map V.str));have o8:=s3 _ _ (g2 _ _ (s2 _ _ yf));exists SPC,p,hW (.while_ c a1),congrArg V.str eK,rfl,.inl (SqL.of ac),oZ hws jY,?_;rw [sR] at rt nx;simp only [W9,W7,Xd] at rt;exists t,_,_,rfl,rfl,o8,ap (by rw [W8]; omega),?_;have G4:=az (o:=.lst ((sRs (ss.take i)).map V.str++[.str (J (hW (.while_ c a1)))])) hf (G2.trans s3);have Eu:=ac (H:=upd H2 p (.lst ([.str "while"]++(cW c).map V.str))) (a:=t) (o:=.lst ((sRs (ss.take i)).map V.str++[.str (J (hW (.while_ c a1)))]));exists _,rfl,_,rfl,a,_,_,_,rfl,rfl,SqT.of (G4 _ _ wD),rfl,Nc,RF,a1,rfl,G4 _ _ uR,RN.mono (ao G4),sw.2,(by simp only [PyData.depth]; omega),(by omega),(by omega),fun r5 H5 g5 Qa B2=>?_
   have G5:=G4.trans g5;exists t,r5,_,_,rfl,rfl,g5 _ _ Eu,B2,(by simp only [W8,W7,Xu,sizeLine_eq]; omega),fun t6 MX=>?_
   have s6:=ad MX (.lst ((sRs (ss.take i)).map V.str++[.str (J (hW (.while_ c a1)))]++(sRs a1).map V.str));have G6:=G5.trans s6;have C5:=aM MX (.lst ((sRs (ss.take i)).map V.str++[.str (J (hW (.while_ c a1)))]++(sRs a1).map V.str));have Sf:=G5.free MX;exists _,rfl,a,_,_,_,rfl,rfl,SqT.of (G6 _ _ wD),at0 _ _,rfl,_,rfl,ZP ?_;exists _,rfl,.inl ⟨rfl,_,SqL.of C5⟩,t6,_,_,rfl,rfl,C5,ap (by simp only [W8,W7,Xu]; omega),?_;exists t6,_,_,_,_,rfl,az Sf G6,Sf,?_;rw [ac,nx];simp only [Xb,Xp,XZ,Xs,Xf,Xz]
  | if_ c a1 b1 =>
   simp only [S.d] at dst sb sd;obtain ⟨a,x1,x2,x3,rfl,wD,h1,h2,h3⟩:=op3 dst;have ha:=G _ _ wD;obtain ⟨Nc,RF,rfl,uR,RN⟩:=h2.open;obtain ⟨Ut,V3,rfl,IT,U5⟩:=h3.open;simp only [WfS] at sw;simp only [PyData.depth,PyData.depthAll] at sd;simp only [W,WS] at sb;exists _,rfl,a,_,_,_,rfl,rfl,SqT.of ha,at0 _ _,zl2,fun p1 hZ=>⟨p1,_,rfl,.inl (SqL.of ac),rfl,rfl,_,rfl,ZQ ?_⟩
   have s1:=ad hZ (.lst [.str "if",.str "while"]);have G1:=G.trans s1;have oN:=s1 _ _ ha;have yf:=s1 _ _ hT;exists _,rfl,.inl ⟨rfl,_,SqL.of yf⟩,rfl,_,rfl,a,_,_,_,rfl,rfl,SqT.of oN,at0 _ _,zl1,fun l1 jX=>?_
   have s2:=ad jX (.lst [.str "if"]);exists _,rfl,a,_,_,_,rfl,rfl,SqT.of (s2 _ _ oN),rfl,x1,c,rfl,h1.mono (ao (G1.trans s2)),sw.1,(by omega),(by simp only [hW,W7] at jY; omega),fun r H2 g2 jA EA=>?_
   have G2:=(G1.trans s2).trans g2;exists l1,r,_,_,rfl,rfl,g2 _ _ ac,EA,(by simp only [hW,W7,W9,Xd] at jY; rw [W8,sizeLine_eq]; show 1+_<=_; omega),fun p hp=>?_
   have s3:=ad hp (.lst ([.str "if"]++(cW c).map V.str));have o8:=s3 _ _ (g2 _ _ (s2 _ _ yf));exists SPC,p,hW (.if_ c a1 b1),congrArg V.str eK,rfl,.inl (SqL.of ac),oZ hws jY,?_;rw [sR] at rt nx;simp only [W9,W7,Xd] at rt;exists t,_,_,rfl,rfl,o8,ap (by rw [W8]; omega),?_;have G4:=az (o:=.lst ((sRs (ss.take i)).map V.str++[.str (J (hW (.if_ c a1 b1)))])) hf (G2.trans s3);have Eu:=ac (H:=upd H2 p (.lst ([.str "if"]++(cW c).map V.str))) (a:=t) (o:=.lst ((sRs (ss.take i)).map V.str++[.str (J (hW (.if_ c a1 b1)))]));exists _,rfl,_,rfl,a,_,_,_,rfl,rfl,SqT.of (G4 _ _ wD),rfl,Nc,RF,a1,rfl,G4 _ _ uR,RN.mono (ao G4),sw.2.1,(by simp only [PyData.depth]; omega),(by omega),(by omega),fun r5 H5 g5 Qa B2=>?_
   have G5:=G4.trans g5;exists t,r5,_,_,rfl,rfl,g5 _ _ Eu,B2,(by simp only [W8,W7,Xu,sizeLine_eq]; omega),fun t6 MX=>?_
   have s6:=ad MX (.lst ((sRs (ss.take i)).map V.str++[.str (J (hW (.if_ c a1 b1)))]++(sRs a1).map V.str));have G6:=G5.trans s6;have C5:=aM MX (.lst ((sRs (ss.take i)).map V.str++[.str (J (hW (.if_ c a1 b1)))]++(sRs a1).map V.str));have Sf:=G5.free MX;exists _,rfl,a,_,_,_,rfl,rfl,SqT.of (G6 _ _ wD),at0 _ _,rfl,_,rfl,ZQ ?_;exists _,rfl,zl1,fun l7 C8=>?_
   have s7:=ad C8 (.lst [.str "else"]);exists t6,l7,_,_,rfl,rfl,s7 _ _ C5,aM C8 _,(by simp only [W8,W7,Xu,sizeLine_eq]; omega),fun l8 Es=>?_
   have s8:=ad Es (.lst ((sRs (ss.take i)).map V.str++[.str (J (hW (.if_ c a1 b1)))]++(sRs a1).map V.str++[.str "else"]));have G8:=(G6.trans s7).trans s8;have NB:=aM Es (.lst ((sRs (ss.take i)).map V.str++[.str (J (hW (.if_ c a1 b1)))]++(sRs a1).map V.str++[.str "else"]));exists _,rfl,a,_,_,_,rfl,rfl,SqT.of (G8 _ _ wD),rfl,Ut,V3,b1,rfl,G8 _ _ IT,U5.mono (ao G8),sw.2.2,(by simp only [PyData.depth]; omega),(by omega),(by omega),fun r9 H9 g9 W6 Sl=>?_
   have G9:=G8.trans g9;exists l8,r9,_,_,rfl,rfl,g9 _ _ NB,Sl,(by simp only [W8,W7,Xu,sizeLine_eq]; omega),fun tx htx=>?_
   have sx:=ad htx (.lst ((sRs (ss.take i)).map V.str++[.str (J (hW (.if_ c a1 b1)))]++(sRs a1).map V.str++[.str "else"]++(sRs b1).map V.str));have hTx:=aM htx (.lst ((sRs (ss.take i)).map V.str++[.str (J (hW (.if_ c a1 b1)))]++(sRs a1).map V.str++[.str "else"]++(sRs b1).map V.str));exists _,rfl,.inl ⟨rfl,_,SqL.of hTx⟩,tx,_,_,rfl,rfl,hTx,ap (by simp only [W8,W7,Xu]; omega),?_;exists tx,_,_,_,_,rfl,az (G9.free htx) (G9.trans sx),G9.free htx,?_;rw [ac,nx];simp only [Xb,Xp,XZ,Xs,Xf,Xz]
 ·obtain ⟨t,m2,m3,m4,m5,rfl,G,hf,hT⟩:=p;rw [lx,Xo] at hT;exists _,rfl,q t H' G hf hT
theorem GP {h:Addr} {hd:FuncData} (T:G0 mg) (F:Fun K "_law_rows" "_law_rows" j9 h hd) (bh:cH K hd ["_law_body_here"] []) (mh:mg "_law_rows"=some (.ref h)) (Fc:Fun K "_law_condition_words" "_law_condition_words" bD f fd) (b:cH K fd ["_law_c"] []) (m:mg "_law_condition_words"=some (.ref f)) (Fw:Fun K "_law_words" "_law_words" ee g gd) (bw:cH K gd ["_law_e_here"] []) (mw:mg "_law_words"=some (.ref g)):∀ n:Nat,eI P w K mg base CX0 (n+1) h hd ["_law_body_here"] (GQ K n)
 | 0=>ky fun vs H Q EX h=>by
  obtain ⟨ba,xs,ss,_,_,_,_,h1,_⟩:=h;simp only [PyData.depth] at h1;omega
 | n+1=>Oq T F ⟨g,gd,Bp T Fw bw mw n,bw,Fw.kp,mw⟩ ⟨f,fd,Fg T Fc b m Fw bw mw n,b,Fc.kp,m⟩ ⟨h,hd,GP T F bh mh Fc b m Fw bw mw n,bh,F.kp,mh⟩
end
end K6
namespace L2
open PySem
theorem pN {X:Cx} {K:Frag} {o e:Expr} {to te:TE} {apos dk:Pos} (hK:X.K=K) (ho:PE X o to) (he:PE X e te)
  (hbase:attributeBase o "join" X.env (eval o X.env)=eval o X.env:=by rfl) (hline:(apos.endLine==dk.line)=true:=by rfl)
  (hfew:((backTo dk (starEach [e] X.env)).all (fun x=>!x.1)&&(backToKw dk (keywordEach [] X.env)).all (fun x=>x.1.isSome)
  &&decide ([e].length+([]:List Keyword).length+(if ([]:List Keyword).isEmpty then 0 else 1)<30))=true:=by exact vY rfl rfl)
  (hs:starEach [e] X.env=(false,eval e X.env)::starEach [] X.env:=by exact bo rfl) (hplain:(backTo dk (starEach [] X.env)).any (·.1)=false:=by exact cG rfl) :
  PE X (.Call (.Attribute o "join" apos) [e] [] dk) (tBM K "str" (HH K) to (Kt te Jv)):=by
 subst hK;exact CC XN XV XW eR ho (ak he aq hs) hbase hfew hline hs hplain
end L2
namespace K6
open PySem L2
theorem va (x y:Str) (r:List Str):J (x::y::r)=x++SPC++J (y::r):=rfl
theorem xQ:∀ (a b:List Str),a≠[]->b≠[]->J (a++b)=J a++SPC++J b
 | [],_,h,_=>absurd rfl h
 | _,[],_,h=>absurd rfl h
 | [x],y::b,_,_=>rfl
 | x::x2::a,y::b,_,_=>by
  rw [Xf,Xf,va,va,<- Xf,xQ (x2::a) (y::b) (by simp) (by simp)];simp only [Str.append_assoc]
noncomputable def pj (p:Fld):Str:=J [p.1,p.2]
theorem uZ:∀ (ps:List Fld) (a:List Str),a≠[]->J (a++ps.map pj)=J (a++fl ps)
 | [],a,_=>rfl
 | p::r,a,h=>by
  have e1:a++(p::r).map pj=(a++[pj p])++r.map pj:=by simp
  have e2:a++fl (p::r)=(a++[p.1,p.2])++fl r:=by simp [fl]
  have e3:J (a++[pj p])=J (a++[p.1,p.2]):=by rw [xQ _ _ h (by simp),xQ _ _ h (by simp)]; rfl
  rw [e1,e2,uZ r _ (by simp)];cases r with
  | nil=>simpa [fl] using e3
  | cons q r=>rw [xQ _ _ (by simp) (by simp [fl]),xQ _ (fl (q::r)) (by simp) (by simp [fl]),e3]
theorem Jt (p:Fld):(Xx "local ")++pj p=cM p:=by
 have e:(Xx "local ")=Xx "local"++SPC:=();rw [e]
 rfl
theorem Gj {x y:Str} (hx:x∈WS8) (hy:y∈WS8):(J [x,y]).length<=21:=by
 have h1:=(vQ x hx).2.1;have h2:=(vQ y hy).2.1;have h3:SPC.length=1:=rfl;show (x++SPC++y).length<=21;rw [strLen_append,strLen_append];omega
theorem Ly (a b:List Str):jl SPC (a++b)=jl SPC a+jl SPC b:=by
 simp only [jl,Xb,List.sum_append,W7,YD];omega
theorem KL:∀ {ps:List Fld},(∀ p∈ps,p.1∈WS8/\p.2∈WS8)->jl SPC (ps.map pj)<=22*ps.length
 | [],_=>by simp [jl]
 | p::r,h=>by
  have h1:=Gj (h p Xl).1 (h p Xl).2;have h2:=KL (ps:=r) fun y hy=>h y (Xg _ hy)
  have h3:SPC.length=1:=rfl;have h4:(pj p).length<=21:=h1;simp only [jl,Xp,Yd,W9,W8,h3] at h2 ⊢;omega
theorem jl2 {x y:Str} (hx:x∈WS8) (hy:y∈WS8):jl SPC [x,y]<=sizeLine:=XC (nS (ts:=[x,y]) (bT hx (bT hy iu))) (by rw [sizeLine_eq]; show 11*2<=_; omega)
theorem GL {a:List Str} {ps:List Fld} (ha:∀ z∈a,z∈WS8) (hp:∀ p∈ps,p.1∈WS8/\p.2∈WS8) (l1:a.length<=10) (l2:ps.length<=10):jl SPC (a++ps.map pj)<=sizeLine:=by
 have h1:=nS ha;have h2:=KL hp;rw [Ly,sizeLine_eq];omega
theorem rT.dep {R:List Rec} {HS:List cX} {FS:List cB} (o:rT R HS FS) {F:cB} (hF:F∈FS):(PyData.tuple (S.ds F.2)).depth<=24:=by
 have:=(fS (o.ok F hF).ns).dp
 simp only [PyData.depth];unfold mS at this;omega
section
variable {P:Program} {w:World} {K:Frag} {mg:Str->Option Value} {base:Heap} {f g:Addr} {fd gd:FuncData}
abbrev dw:List Str:=["_law_program_here", "_law_rows_here", "_law_name", "_law_fields", "_law_params", "_law_inner", "_law_kind_here", "_law_body_here"]
abbrev fA:List Str:=["_law_one"]
theorem iZ:fA.Nodup:=()
abbrev ft:List Str:=["_law_param"]
theorem i5:ft.Nodup:=()
abbrev fq:List Str:=["_law_field"]
theorem je:fq.Nodup:=()
theorem aQ:aA dw ["_law_program_here"] (defScope bM):=ZU 0
theorem Mf (F:Zc "_law_program_rows" bM) (lC:Za 25 "_law_rows" ["_law_body_here"] (GQ K 24)):Zb 26 ["_law_program_here"] (xS K):=by
 refine ZR F aQ
 ·obtain ⟨v,R,HS,FS,rfl,_⟩:=h
  rfl
 obtain ⟨v,R,HS,FS,rfl,hv,hok,q⟩:=h;obtain ⟨a,y,zf,PF,rfl,ha,⟨ra,rx,rfl,hra,pr⟩,hzf,pfx⟩:=hv;have lr:=Paired.length pr;have lf:=Paired.length pfx;have hrl:=hok.rl;have hfl:FS.length<=3:=by rw [<- W8 (f:=fun x:cB=>x.1),hok.eh]; exact hok.hs.l3
 exists _,(Z2 (ZA 1 aQ.nd (ZD aq)) (Z2 (ZM (bI (Z4 (pv 0))) (ff rfl (aE (ZO 2 aQ.nd) (aE (ZO 3 aQ.nd) b9))) (Z3 (ZL (ZG (pv 1) (Z0 (ZH XN XV XW eR ag (Z0 (ZE bQ (ZD (Z1 ag (Z0 (pv 2)))) (bF (N':=fq) (ρ:=[none]) (m:=1) (bL.of (fs:=defScope bM) (N:=dw) rfl rfl ()) rfl (bI (pv 3)) (fun _ _ _ _=>(ZO 0 je)) (fun _ _ _ _=>bH) (fun _ _ _ _=>(pN (K:=K) rfl ag (pv 0)))))))))))) (Z2 (ZM (bI (Z4 (pv 0))) (ff rfl (aE (ZO 2 aQ.nd) (aE (ZO 4 aQ.nd) (aE (ZO 5 aQ.nd) (aE (ZO 6 aQ.nd) (aE (ZO 7 aQ.nd) b9)))))) (Z2 (ZL (ZG (pv 1) (Z0 (ZH XN XV XW eR ag (Z0 (ZE bQ (ZD (Z1 ag (Z1 (pv 2) (Z0 (pv 6))))) (bF (N':=ft) (ρ:=[none]) (m:=1) (bL.of (fs:=defScope bM) (N:=dw) rfl rfl ()) rfl (bI (pv 4)) (fun _ _ _ _=>(ZO 0 i5)) (fun _ _ _ _=>bH) (fun _ _ _ _=>(pN (K:=K) rfl ag (pv 0)))))))))) (Z3 (ZA 1 aQ.nd (ZE bQ (ZE bQ (ZE bQ (pv 1) (bF (N':=fA) (ρ:=[none]) (m:=1) (bL.of (fs:=defScope bM) (N:=dw) rfl rfl ()) rfl (bI (pv 5)) (fun _ _ _ _=>(ZO 0 iZ)) (fun _ _ _ _=>bH) (fun _ _ _ _=>(cu Be ag (pN (K:=K) rfl ag (pv 0)))))) (Z6 lC (Z0 (pv 7)))) (ZD (Z0 ag))))))) (Z3 (Z7 (pv 1)))))),?_;show let v1:L2.TS:=_; let v2:=am _ v1; let v3:=am (gW _ _ v2) _; let v4:L2.TS:=_; let v5:=am (gW _ _ v4) v3; (am _ v5) _ _ _;intro v1 v2 v3 v4 v5;exists zl0,fun t0 Nv=>?_
 have g0:=ad Nv (.lst []);exists _,rfl,a,_,_,_,rfl,rfl,SqT.of (g0 _ _ ha),at0 _ _,ra,rfl,⟨rx,SqT.of (g0 _ _ hra)⟩,fH (xs:=rx) (fun i σ H1=>∃ m2 m3,σ=[some (.ref a),some (.ref t0),m2,m3,none,none,none,none]/\av H H1/\H1 t0=some (.lst (((R.take i).map bt).map V.str))) ⟨none,none,rfl,g0,ac⟩ (fun i σ H1 _ ⟨_,_,_,e3,_⟩=>SqT.of (e3 _ _ hra)) (fun i x σ H1 hx p=>?_) (fun σ H1 p=>?_)
 ·obtain ⟨m2,m3,rfl,G,hT⟩:=p;obtain ⟨r,Lb,Nn⟩:=aG pr i x hx;obtain ⟨c,fy,rfl,hc,fa,fxs,rfl,hfa,pfs⟩:=Nn;have hrm:=Xh Lb;obtain ⟨r1,r2,r3⟩:=ck hok.g hrm;have lfs:=Paired.length pfs;have Tt:∀ p∈r.2,p.1∈WS8/\p.2∈WS8:=fun p hp=>⟨cx (r2.2.2 p hp),xg hok.g (r3 p hp)⟩
  exists c,_,rfl,SqT.of (G _ _ hc),rfl,_,_,rfl,_,_,rfl,rfl,?_;exists _,rfl,.inl ⟨rfl,_,SqL.of hT⟩,rfl,_,rfl,zl2,fun l1 jX=>?_
  have s1:=ad jX (.lst [.str "record",.str r.1]);have G1:=G.trans s1;exists _,rfl,fa,rfl,⟨fxs,SqT.of (G1 _ _ hfa)⟩,cF (xs:=fxs) fxs.length rfl (by omega) (fun j ar H5=>av (upd H1 l1 (.lst [.str "record",.str r.1])) H5/\ar=((r.2.take j).map pj).map V.str) ⟨av.refl _,rfl⟩ (fun j ar H5 p=>SqT.of (p.1 _ _ (G1 _ _ hfa))) (fun j ar H5 x5 hj la KZ p=>?_) (fun ar H5 p la l5 wB=>?_)
  ·obtain ⟨G5,rfl⟩:=p;obtain ⟨p,hp,hf⟩:=aG pfs j x5 KZ;obtain ⟨d,rfl,hd⟩:=hf;have hpm:=Tt p (Xh hp);exists ⟨rfl,rfl⟩,bA ?_;exists rfl,_,rfl,SPC,d,[p.1,p.2],congrArg V.str eK,rfl,.inr (SqT.of (G5 _ _ (G1 _ _ hd))),jl2 hpm.1 hpm.2,nxT (by omega) hj la ⟨G5,?_⟩;rw [Xn,hp,Xb,Xb]
   rfl
  obtain ⟨G5,rfl⟩:=p;rw [lfs,Xo];have s5:=ad wB (.lst ((r.2.map pj).map V.str));exists l1,l5,_,_,rfl,rfl,s5 _ _ (G5 _ _ ac),aM wB _,XI (ap (by simp only [W8]; show 2+_<=1000; omega)),fun p6 Py=>?_
  have s6:=ad Py (.lst ([.str "record",.str r.1]++(r.2.map pj).map V.str));have C5:=s6 _ _ (s5 _ _ (G5 _ _ (s1 _ _ hT)));have ej:Str.join SPC (([("record":Str),r.1]:List Str)++r.2.map pj)=bt r:=uZ r.2 _ (by simp);exists SPC,p6,([("record":Str),r.1]:List Str)++r.2.map pj,congrArg V.str eK,rfl,.inl (SqL.of (by rw [ac,Xb]; rfl)),GL (bT (fx _ ()) (bT (cx r1) iu)) Tt (by show 2<=10; omega) (by omega),?_;rw [ej];exists t0,_,_,rfl,rfl,C5,ap (by rw [W8,W8,XO]; omega),?_;exists _,_,rfl,az Nv (((G1.trans G5).trans s5).trans s6),?_;rw [ac,Xn,Lb,Xb,Xb]
  rfl
 obtain ⟨m2,m3,rfl,G,hT⟩:=p;rw [lr,Xo] at hT;exists _,rfl,a,_,_,_,rfl,rfl,SqT.of (G _ _ ha),at1 _ _ _,zf,rfl,⟨PF,SqT.of (G _ _ hzf)⟩,fH (xs:=PF) (fun i σ H2=>∃ t m2 m3 m4 m5 m6 m7,σ=[some (.ref a),some (.ref t),m2,m3,m4,m5,m6,m7]/\av H H2/\H t=none/\H2 t=some (.lst ((R.map bt++cQ (FS.take i)).map V.str))) ⟨t0,_,_,none,none,none,none,rfl,G,Nv,by rw [X7,cQ,XB]; exact hT⟩ (fun i σ H2 _ ⟨_,_,_,_,_,_,_,_,e3,_⟩=>SqT.of (e3 _ _ hzf)) (fun i x σ H2 hx p=>?_) (fun σ H2 p=>?_)
 ·obtain ⟨t,m2,m3,m4,m5,m6,m7,rfl,G,htH,hT⟩:=p;obtain ⟨Fn,hFn,hfa⟩:=aG pfx i x hx;obtain ⟨c,py,qy,bb,bx,rfl,hc,⟨pa,px,rfl,hpa,ppx⟩,⟨qa,qx,rfl,hqa,pqx⟩,hbb,dbx⟩:=hfa;have hFm:=Xh hFn;obtain ⟨fw,ho⟩:=hok.fw hFm;have hi:=(Xv.mp hFn).1;have lp:=Paired.length ppx;have lq:=Paired.length pqx;have RO:=ho.l5;rw [W7] at RO;have hb3i:=pS (FS:=FS) (fun F hF=>by
   obtain ⟨fw,ho⟩:=hok.fw hF;have h1:=fw.rl;have h5:=ho.l5;rw [W7] at h5;simp only [iI,W7,W8,Xu]
   omega) i
  have Ry:∀ p∈Fn.1.2.1++Fn.1.2.2.1,p.1∈WS8/\p.2∈WS8:=fun p hp=>⟨cx (ho.vs p hp).1,xg hok.g (ho.vs p hp).2⟩
  exists c,_,rfl,SqT.of (G _ _ hc),rfl,_,_,rfl,_,_,rfl,_,_,rfl,_,_,rfl,_,_,rfl,rfl,?_;exists _,rfl,.inl ⟨rfl,_,SqL.of hT⟩,rfl,_,rfl,_,rfl,zl3,fun l1 jX=>?_
  have s1:=ad jX (.lst [.str "function",.str Fn.1.1,.str Fn.1.2.2.2]);have G1:=G.trans s1;exists _,rfl,pa,rfl,⟨px,SqT.of (G1 _ _ hpa)⟩,cF (xs:=px) px.length rfl (by omega) (fun j ar H5=>av (upd H2 l1 (.lst [.str "function",.str Fn.1.1,.str Fn.1.2.2.2])) H5/\ar=((Fn.1.2.1.take j).map pj).map V.str) ⟨av.refl _,rfl⟩ (fun j ar H5 p=>SqT.of (p.1 _ _ (G1 _ _ hpa))) (fun j ar H5 x5 hj la KZ p=>?_) (fun ar H5 p la l5 wB=>?_)
  ·obtain ⟨G5,rfl⟩:=p;obtain ⟨p,hp,hf⟩:=aG ppx j x5 KZ;obtain ⟨d,rfl,hd⟩:=hf;have hpm:=Ry p (XD _ (Xh hp));exists ⟨rfl,rfl⟩,bA ?_;exists rfl,_,rfl,SPC,d,[p.1,p.2],congrArg V.str eK,rfl,.inr (SqT.of (G5 _ _ (G1 _ _ hd))),jl2 hpm.1 hpm.2,nxT (by omega) hj la ⟨G5,?_⟩;rw [Xn,hp,Xb,Xb]
   rfl
  obtain ⟨G5,rfl⟩:=p;rw [lp,Xo];have s5:=ad wB (.lst ((Fn.1.2.1.map pj).map V.str));exists l1,l5,_,_,rfl,rfl,s5 _ _ (G5 _ _ ac),aM wB _,XI (ap (by simp only [W8]; show 3+_<=1000; omega)),fun p6 Py=>?_
  have s6:=ad Py (.lst ([.str "function",.str Fn.1.1,.str Fn.1.2.2.2]++(Fn.1.2.1.map pj).map V.str));have C5:=s6 _ _ (s5 _ _ (G5 _ _ (s1 _ _ hT)));have G6:=((G1.trans G5).trans s5).trans s6;have ej:Str.join SPC (([("function":Str),Fn.1.1,Fn.1.2.2.2]:List Str)++Fn.1.2.1.map pj)=bX Fn:=uZ Fn.1.2.1 _ (by simp);exists SPC,p6,([("function":Str),Fn.1.1,Fn.1.2.2.2]:List Str)++Fn.1.2.1.map pj,congrArg V.str eK,rfl,.inl (SqL.of (by rw [ac,Xb]; rfl)),GL (bT (fx _ ()) (bT (cx ho.nm) (bT (xg hok.g ho.gv) iu))) (fun p hp=>Ry p (XD _ hp)) (by show 3<=10; omega) (by omega),?_;rw [ej];exists t,_,_,rfl,rfl,C5,ap (by rw [W8,W7,W8]; omega),?_;have kT:=az (o:=.lst ((R.map bt++cQ (FS.take i)).map V.str++[.str (bX Fn)])) htH G6;have J5:(upd (upd (upd H5 l5 (.lst ((Fn.1.2.1.map pj).map V.str))) p6 (.lst ([.str "function",.str Fn.1.1,.str Fn.1.2.2.2]++(Fn.1.2.1.map pj).map V.str))) t (.lst ((R.map bt++cQ (FS.take i)).map V.str++[.str (bX Fn)]))) t=some (.lst ((R.map bt++cQ (FS.take i)++[bX Fn]).map V.str)):=by rw [ac,Xb (l₂:=[bX Fn])]; rfl
  generalize WM:(upd (upd (upd H5 l5 (.lst ((Fn.1.2.1.map pj).map V.str))) p6 (.lst ([.str "function",.str Fn.1.1,.str Fn.1.2.2.2]++(Fn.1.2.1.map pj).map V.str))) t (.lst ((R.map bt++cQ (FS.take i)).map V.str++[.str (bX Fn)])))=H7 at kT J5;exists _,rfl,_,rfl,qa,rfl,⟨qx,SqT.of (kT _ _ hqa)⟩,cF (xs:=qx) qx.length rfl (by omega) (fun j ar H8=>av H7 H8/\ar=((Fn.1.2.2.1.take j).map cM).map V.str) ⟨av.refl _,rfl⟩ (fun j ar H8 p=>SqT.of (p.1 _ _ (kT _ _ hqa))) (fun j ar H8 x8 hj la Vc p=>?_) (fun ar H8 p la l8 Es=>?_)
  ·obtain ⟨G8,rfl⟩:=p;obtain ⟨p,hp,hf⟩:=aG pqx j x8 Vc;obtain ⟨d,rfl,hd⟩:=hf;have hpm:=Ry p (Xy _ (Xh hp));have ou:=Gj hpm.1 hpm.2;exists ⟨rfl,rfl⟩,bA ?_;exists rfl,_,rfl,SPC,d,[p.1,p.2],congrArg V.str eK,rfl,.inr (SqT.of (G8 _ _ (kT _ _ hd))),jl2 hpm.1 hpm.2,?_;exists _,_,rfl,rfl,(by rw [sizeLine_eq]; show 6+(J [p.1,p.2]).length<=_; omega),nxT (by omega) hj la ⟨G8,?_⟩;rw [Xn,hp,Xb,Xb];show _++[V.str (Xx "local "++pj p)]=_;rw [Jt]
   rfl
  obtain ⟨G8,rfl⟩:=p;rw [lq,Xo];have s8:=ad Es (.lst ((Fn.1.2.2.1.map cM).map V.str));have NB:=s8 _ _ (G8 _ _ J5);exists t,l8,_,_,rfl,rfl,NB,aM Es _,XI (ap (by simp only [W8,W7,Xu]; omega)),fun t9 Tq=>?_
  have s9:=ad Tq (.lst ((R.map bt++cQ (FS.take i)++[bX Fn]).map V.str++(Fn.1.2.2.1.map cM).map V.str));have h9:=aM Tq (.lst ((R.map bt++cQ (FS.take i)++[bX Fn]).map V.str++(Fn.1.2.2.1.map cM).map V.str));have G9:=((kT.trans G8).trans s8).trans s9;have lrl:=fw.rl;exists _,rfl,bb,bx,Fn.2,rfl,G9 _ _ hbb,dbx.mono (ao G9),fw.wf,hok.dep hFm,fw.sz,by omega,fun Vz UT SW U3 P4=>?_
  exists t9,Vz,_,_,rfl,rfl,SW _ _ h9,P4,XI (ap (by simp only [W8,W7,Xu]; omega)),fun QN Pw=>?_
  have Uh:=ad Pw (.lst ((R.map bt++cQ (FS.take i)++[bX Fn]).map V.str++(Fn.1.2.2.1.map cM).map V.str++(sRs Fn.2).map V.str));exists zl1,fun VF Qf=>?_
  have TH:=ad Qf (.lst [.str "end"]);exists QN,VF,_,_,rfl,rfl,TH _ _ (aM Pw _),aM Qf _,XI (ap (by simp only [W8,W7,Xu]; omega)),fun U9 P9=>?_
  have Np:=((G9.trans SW).trans Uh).trans TH;exists U9,_,_,_,_,_,_,rfl,Np.trans (ad P9 _),Np.free P9,?_;rw [ac,Xn,hFn,pV];simp only [Yq,cQ,iI,XB,Xb,Xs]
  rfl
 ·obtain ⟨t,m2,m3,m4,m5,m6,m7,rfl,G,htH,hT⟩:=p;rw [lf,Xo] at hT;exists _,rfl,q t H2 G htH hT
end
open PySem L2
noncomputable def FIG:Str:=Xx "0123456789"
noncomputable def Of:Str:=Xx "-"
noncomputable def BND:List (Str×Int×Int):=[("number",-1000000,1000000),("divisor",2,99),("many",0,40),("sign",32,126)]
structure GR (K:Frag) (w:World) (mg:Str->Option Value):Prop where
 bd:∃ aB,mg "BOUNDS"=some (.ref aB)/\KDv K w aB/\(∀ p∈BND,∃ a,PySem.W.nsIn K aB p.1=some (some (.ref a))/\∀ H,SqT K H a [.int p.2.1,.int p.2.2])/\PySem.W.nsIn K aB "name"=some none
 fg:∃ t,mg "FIGURES"=some (.str FIG t)
 mf:∃ t,mg "MOST_FIGURES"=some (.int 7 t)
noncomputable def gZ (c:Nat):Bool:=!(Builtin.Str.occurrences FIG ⟨#[c]⟩ 0 FIG.length 1).isEmpty
noncomputable def xh (z:Str):Str:=if Txt.startswith z Of=true then Txt.slice z (some 1) none else z
noncomputable def j8 (F:Str):Bool:=decide (1<=(F.length:Int))&&decide ((F.length:Int)<=7)&&F.cps.toList.all gZ
noncomputable def gC (z:Str) (lo hi:Int):Option Int :=
 if j8 (xh z)=true then
  match PySem.intText? z with
  | none=>none
  | some n=>if decide (ns n=z)&&decide (lo<=n)&&decide (n<=hi) then some n else none
 else none
noncomputable def vO:Option Int->V
 | none=>.non
 | some i=>.int i
theorem Jl:∀ z∈WS8,j8 (xh z)=true->∃ n,PySem.intText? z=some n/\n.natAbs.log2<1920:=by
 have:∀ z∈WS8,j8 (xh z)=true->(match PySem.intText? z with | some n=>decide (n.natAbs.log2<1920) | none=>false)=true:=()
 intro z hz h
 have:=this z hz h
 cases e:PySem.intText? z with
 | none=>rw [e] at this; cases this
 | some n=>rw [e] at this; exact ⟨n,rfl,of_decide_eq_true this⟩
theorem Io:∀ z∈WS8,(xh z).length<=10/\z.length<=640:=()
section
variable {P:Program} {w:World} {K:Frag} {mg:Str->Option Value} {base:Heap} {f g:Addr} {fd gd:FuncData}
abbrev oh:List Str:=["word", "bounds", "figures", "number"]
abbrev iY:List Str:=["sign"]
theorem oG:iY.Nodup:=()
theorem ig:aA oh ["word", "bounds"] (defScope eU):=ZU 0
inductive Ox (vs:List V) (H:Hp) (Q:VK) (bu:XK):Prop
 | mk (z p):(vs=[.str z,.str p.1])->(z∈WS8)->(p∈BND)->(∀ H',av H H'->Q (vO (gC z p.2.1 p.2.2)) H')->Ox  vs H Q bu
theorem NM (T:G0 mg) (TR:GR K w mg) (F:Zc "number_of" eU):Zb 1 ["word", "bounds"] Ox:=by
 obtain ⟨aB,mB,kB,hB,_⟩:=TR.bd;obtain ⟨tF,mF⟩:=TR.fg;obtain ⟨tM,mM⟩:=TR.mf;refine ZR F ig
 ·obtain ⟨z,p,rfl,_⟩:=h
  rfl
 obtain ⟨z,p,rfl,hz,hp,q⟩:=h;obtain ⟨ab,hab,hsb⟩:=hB p hp;obtain ⟨Qi,zl⟩:=Io z hz;have fi:=Jl z hz;have hfs:(xh z).length<=sizeLine:=by rw [sizeLine_eq]; omega
 have hno:j8 (xh z)=false->gC z p.2.1 p.2.2=none:=fun h=>by unfold gC; rw [h]; rfl
 exists _,(Z2 (ZA 2 ig.nd (@dE _ _ _ _ _ _ _ _ (di (ZH XN PySem.F.slot_str_startswith PySem.F.type_str_startswith Dq (pv 0) (Z0 ag))) (@bj _ _ _ _ _ _ _ _ _ _ LH (pv 0) (bJ af) cb) (pv 0))) (Z2 (ZB (PW.pt (cK (dI (p9 nO nO af (ZJ dY T.len hJ (Z0 (pv 2))) (cg (v:=.int 7) rfl mM ⟨_,rfl⟩))) (cm (dI (di (ZJ (xJ rfl) T.all KR (Z0 (bF (N':=iY) (ρ:=[none]) (m:=1) (bL.of (fs:=defScope eU) (N:=oh) rfl rfl ()) rfl (vC (pv 2)) (fun _ _ _ _=>(ZO 0 oG)) (fun _ _ _ _=>bH) (fun _ _ _ _=>(gw uq (pv 0) (cg (v:=.str FIG) rfl mF ⟨_,rfl⟩) rfl)))))))))) (Z3 (Z7 bB))) (Z2 (ZA 3 ig.nd (ZK rO T.int KJ (Z0 (pv 0)))) (Z2 (ZB (PW.pt (cK (Z8 kz (ZK aK T.str dJ (Z0 (pv 3))) (pv 0)) (cm (dI (p9 nO nO (Z4 (Z5 (Dg kB) (cg (v:=.ref aB) rfl mB rfl) (pv 1))) (pv 3) (Z4 (Z5 (Dg kB) (cg (v:=.ref aB) rfl mB rfl) (pv 1)))))))) (Z3 (Z7 bB))) (Z3 (Z7 (pv 3))))))),?_;show let v1:=am _ _; let v2:=am _ v1; let v3:=am _ v2; (am _ v3) _ _ _;intro v1 v2 v3;exists _,rfl,rfl,z,Of,rfl,rfl,_,rfl,?_;refine au (fun c0=>?_) (fun c0=>?_)
 ·exists _,rfl,1,rfl,z,rfl,(by rw [sizeLine_eq]; omega),?_;have eF:xh z=Txt.slice z (some 1) none:=if_pos c0;generalize Txt.slice z (some 1) none=FF at eF;rw [eF] at Qi hfs hno fi;exists _,rfl,FF,rfl,hfs,_,_,rfl,rfl,_,rfl,?_;refine au (fun c1=>?_) (fun c1=>?_)
  ·exists _,_,rfl,rfl,_,rfl,?_;refine au (fun c2=>?_) (fun c2=>?_)
   ·have e:=hno (by unfold j8; rw [show decide ((FF.length:Int)<=7)=false by simpa using c2]; simp);rw [e] at q;exact q H (av.refl _)
   have l2:decide ((FF.length:Int)<=7)=true:=by simpa using c2
   exists _,rfl,FF,rfl,iV FF.cps.size rfl (by show FF.length<=_; omega) (fun i ar H'=>H'=H/\ar=((FF.cps.toList.take i).map gZ).map V.bl) ⟨rfl,rfl⟩ (fun i ar H' c hi la hc p=>?_) (fun ar H' p la D hD=>?_)
   ·obtain ⟨rfl,rfl⟩:=p;exists ⟨rfl,rfl⟩,bA ?_;exists _,rfl,_,_,rfl,rfl,nxT (by show FF.length<=_; omega) hi la ⟨rfl,?_⟩;have C7:FF.cps.toList[i]?=some c:=by simpa using hc
    rw [Xn,C7,Xb,Xb]
    rfl
   ·obtain ⟨rfl,rfl⟩:=p;have s1:=ad hD (.lst (((FF.cps.toList.take FF.cps.size).map gZ).map V.bl));have e3:((FF.cps.toList.take FF.cps.size).map gZ).all id=FF.cps.toList.all gZ:=by
     rw [<- XS,Xo,Zn]
     rfl
    exists D,_,rfl,SqL.of ac,?_;rw [e3];exists _,rfl,?_;refine au (fun c3=>?_) (fun c3=>?_)
    ·have e:=hno (by unfold j8; rw [show FF.cps.toList.all gZ=false by simpa using c3]; simp);rw [e] at q;exact q _ s1
    have l3:FF.cps.toList.all gZ=true:=by simpa using c3
    have l1:decide (1<=(FF.length:Int))=true:=c1;have hfb:j8 FF=true:=by unfold j8; rw [l1,l2,l3]; rfl
    obtain ⟨n,en,nl⟩:=fi hfb;exists _,rfl,z,n,rfl,zl,en,?_;have ev:gC z p.2.1 p.2.2=if decide (ns n=z)&&decide (p.2.1<=n)&&decide (n<=p.2.2) then some n else none:=by
     unfold gC;rw [eF,hfb,en]
     rfl
    exists _,rfl,_,rfl,nl,_,rfl,rfl,_,rfl,?_;refine au (fun c4=>?_) (fun c4=>?_)
    ·have e4:decide (ns n=z)=false:=by
      refine decide_eq_false fun h=>?_
      have:(!decide (V.str (ns n)=V.str z))=true:=c4
      rw [h] at this;simp at this
     rw [ev,e4] at q;exact q _ s1
    have e4:decide (ns n=z)=true:=by
     have:¬ (!decide (V.str (ns n)=V.str z))=true:=c4
     refine decide_eq_true ?_;have h2:decide (V.str (ns n)=V.str z)=true:=by simpa using this
     exact V.str.inj (of_decide_eq_true h2)
    exists _,rfl,_,_,.ref ab,rfl,rfl,hab,rfl,ab,_,_,_,rfl,rfl,hsb _,at0 _ _,_,rfl,_,_,rfl,rfl,_,rfl,?_;refine au (fun c5=>?_) (fun c5=>?_)
    ·exists _,rfl,_,_,.ref ab,rfl,rfl,hab,rfl,ab,_,_,_,rfl,rfl,hsb _,at1 _ _ _,_,_,rfl,rfl,_,rfl,?_;have e5:decide (p.2.1<=n)=true:=c5;refine au (fun c6=>?_) (fun c6=>?_)
     ·have e6:decide (n<=p.2.2)=false:=by simpa using c6
      rw [ev,e4,e5,e6] at q;exact q _ s1
     ·have e6:decide (n<=p.2.2)=true:=by simpa using c6
      rw [ev,e4,e5,e6] at q;exists _,rfl,q _ s1
    ·have e5:decide (p.2.1<=n)=false:=by simpa using c5
     rw [ev,e4,e5] at q;exists _,rfl,dO (q _ s1)
  ·have e:=hno (by unfold j8; rw [YK.mpr c1]; rfl);rw [e] at q;exists _,rfl,dO (dO (q H (av.refl _)))
 ·exists _,rfl,?_;have eF:xh z=z:=if_neg c0;rw [eF] at Qi hfs hno fi;exists _,rfl,z,rfl,hfs,_,_,rfl,rfl,_,rfl,?_;refine au (fun c1=>?_) (fun c1=>?_)
  ·exists _,_,rfl,rfl,_,rfl,?_;refine au (fun c2=>?_) (fun c2=>?_)
   ·have e:=hno (by unfold j8; rw [show decide ((z.length:Int)<=7)=false by simpa using c2]; simp);rw [e] at q;exact q H (av.refl _)
   have l2:decide ((z.length:Int)<=7)=true:=by simpa using c2
   exists _,rfl,z,rfl,iV z.cps.size rfl (by show z.length<=_; omega) (fun i ar H'=>H'=H/\ar=((z.cps.toList.take i).map gZ).map V.bl) ⟨rfl,rfl⟩ (fun i ar H' c hi la hc p=>?_) (fun ar H' p la D hD=>?_)
   ·obtain ⟨rfl,rfl⟩:=p;exists ⟨rfl,rfl⟩,bA ?_;exists _,rfl,_,_,rfl,rfl,nxT (by show z.length<=_; omega) hi la ⟨rfl,?_⟩;have C7:z.cps.toList[i]?=some c:=by simpa using hc
    rw [Xn,C7,Xb,Xb]
    rfl
   ·obtain ⟨rfl,rfl⟩:=p;have s1:=ad hD (.lst (((z.cps.toList.take z.cps.size).map gZ).map V.bl));have e3:((z.cps.toList.take z.cps.size).map gZ).all id=z.cps.toList.all gZ:=by
     rw [<- XS,Xo,Zn]
     rfl
    exists D,_,rfl,SqL.of ac,?_;rw [e3];exists _,rfl,?_;refine au (fun c3=>?_) (fun c3=>?_)
    ·have e:=hno (by unfold j8; rw [show z.cps.toList.all gZ=false by simpa using c3]; simp);rw [e] at q;exact q _ s1
    have l3:z.cps.toList.all gZ=true:=by simpa using c3
    have l1:decide (1<=(z.length:Int))=true:=c1;have hfb:j8 z=true:=by unfold j8; rw [l1,l2,l3]; rfl
    obtain ⟨n,en,nl⟩:=fi hfb;exists _,rfl,z,n,rfl,zl,en,?_;have ev:gC z p.2.1 p.2.2=if decide (ns n=z)&&decide (p.2.1<=n)&&decide (n<=p.2.2) then some n else none:=by
     unfold gC;rw [eF,hfb,en]
     rfl
    exists _,rfl,_,rfl,nl,_,rfl,rfl,_,rfl,?_;refine au (fun c4=>?_) (fun c4=>?_)
    ·have e4:decide (ns n=z)=false:=by
      refine decide_eq_false fun h=>?_
      have:(!decide (V.str (ns n)=V.str z))=true:=c4
      rw [h] at this;simp at this
     rw [ev,e4] at q;exact q _ s1
    have e4:decide (ns n=z)=true:=by
     have:¬ (!decide (V.str (ns n)=V.str z))=true:=c4
     refine decide_eq_true ?_;have h2:decide (V.str (ns n)=V.str z)=true:=by simpa using this
     exact V.str.inj (of_decide_eq_true h2)
    exists _,rfl,_,_,.ref ab,rfl,rfl,hab,rfl,ab,_,_,_,rfl,rfl,hsb _,at0 _ _,_,rfl,_,_,rfl,rfl,_,rfl,?_;refine au (fun c5=>?_) (fun c5=>?_)
    ·exists _,rfl,_,_,.ref ab,rfl,rfl,hab,rfl,ab,_,_,_,rfl,rfl,hsb _,at1 _ _ _,_,_,rfl,rfl,_,rfl,?_;have e5:decide (p.2.1<=n)=true:=c5;refine au (fun c6=>?_) (fun c6=>?_)
     ·have e6:decide (n<=p.2.2)=false:=by simpa using c6
      rw [ev,e4,e5,e6] at q;exact q _ s1
     ·have e6:decide (n<=p.2.2)=true:=by simpa using c6
      rw [ev,e4,e5,e6] at q;exists _,rfl,q _ s1
    ·have e5:decide (p.2.1<=n)=false:=by simpa using c5
     rw [ev,e4,e5] at q;exists _,rfl,dO (q _ s1)
  ·have e:=hno (by unfold j8; rw [YK.mpr c1]; rfl);rw [e] at q;exists _,rfl,dO (dO (q H (av.refl _)))
end
open PySem L2
noncomputable def SGN:Str:=Xx " !\"#$&'()*+,-./0123456789:;<=>?@ABCDEFGHIJKLMNOPQRSTUVWXYZ[\\]^_`abcdefghijklmnopqrstuvwxyz{|}~"
theorem Cg:∀ i∈NUM,gC (ns i) (-1000000) 1000000=some i:=()
theorem JA:∀ z∈FIX,gC z (-1000000) 1000000=none:=()
theorem Ju:∀ i∈NUM,2<=i->i<=99->gC (ns i) 2 99=some i:=()
theorem xL:∀ k∈Yh 41,gC (ns (k:Nat)) 0 40=some (k:Int):=()
theorem EQ:∀ c∈Yh 127,32<=c->gC (ns (c:Nat)) 32 126=some (c:Int):=()
inductive OI where
 | nm (x:Str) | nb (i:Int) | dv (i:Int) | mn (k:Nat) | sg (z:Str)
noncomputable def OI.sort:OI->Str
 | .nm _ => "name"
 | .nb _ => "number"
 | .dv _ => "divisor"
 | .mn _ => "many"
 | .sg _ => "signs"
noncomputable def OI.ws:OI->List Str
 | .nm x=>[x]
 | .nb i=>[ns i]
 | .dv i=>[ns i]
 | .mn k=>[ns k]
 | .sg z=>ns z.length::(z.cps.toList.map fun c:Nat=>ns (c:Int))
noncomputable def OI.v:OI->V
 | .nm x=>.str x
 | .nb i=>.int i
 | .dv i=>.int i
 | .mn k=>.int k
 | .sg z=>.str z
noncomputable def OI.ok:OI->Prop
 | .nm x=>x∈bg
 | .nb i=>i∈NUM
 | .dv i=>i∈NUM/\2<=i/\i<=99
 | .mn k=>k<=8
 | .sg z=>z∈TXT
theorem ic {ws:List Str} {p:Nat} {x:Str} {r:List Str} (h:ws.drop p=x::r):ws[p]?=some x/\ws.drop (p+1)=r:=by
 have h1:(ws.drop p)[0]?=some x:=by rw [h]; rfl
 rw [YH,aav] at h1;exists h1,?_;rw [<- YZ,h]
 rfl
theorem L9:∀ c∈Yh 127,32<=c->c≠37->SGN.cps[if c<37 then c - 32 else c - 33]?=some c:=()
theorem FM:∀ z∈TXT,Str.join "" (z.cps.toList.map fun c:Nat=>(⟨#[c]⟩:Str))=z/\jl "" (z.cps.toList.map fun c:Nat=>(⟨#[c]⟩:Str))<=100:=()
section
variable {P:Program} {w:World} {K:Frag} {mg:Str->Option Value} {base:Heap} {f g:Addr} {fd gd:FuncData}
abbrev Dj:List Str:=["words", "place"]
theorem yN:aA Dj ["words", "place"] (defScope mQ):=ZU 0
inductive zt (vs:List V) (H:Hp) (Q:VK) (bu:XK):Prop
 | mk (l) (ws:List Str) (j:Nat):(vs=[.ref l,.int (j:Int)])->(H l=some (.lst (ws.map V.str)))->(Q (.str (ws[j]?.getD "")) H)->zt  vs H Q bu
theorem OT (T:G0 mg) (F:Zc "word_at" mQ):Zb 1 ["words", "place"] zt:=by
 refine ZR F yN
 ·obtain ⟨l,ws,j,rfl,_⟩:=h
  rfl
 obtain ⟨l,ws,j,rfl,hl,q⟩:=h;exists _,(Z3 (Z7 (@dE _ _ _ _ _ _ _ _ (Z8 kK (pv 1) (ZI (Z0 (pv 0)))) (Z5 aD (pv 0) (pv 1)) ag))),?_;exists _,rfl,_,rfl,l,_,rfl,.inl (SqL.of hl),_,_,rfl,rfl,_,rfl,?_;refine au (fun c=>?_) (fun c=>?_)
 ·have hlt:j<ws.length:=by have:=of_decide_eq_true c; rw [W8] at this; omega
  have e:ws[j]?=some ws[j]:=XA hlt;rw [e] at q;exists _,rfl,_,rfl,l,_,_,_,rfl,rfl,SqL.of hl,eO (j:=j) (by rw [XE,e]; rfl),q
 ·have hge:ws.length<=j:=by
   rcases Nat.lt_or_ge j ws.length with h | h
   ·exact absurd (decide_eq_true (by rw [W8]; omega)) c
   ·exact h
  rw [List.getElem?_eq_none hge] at q;exact q
abbrev Da:List Str:=["number"]
theorem A3:aA Da ["number"] (defScope nh):=ZU 0
inductive MA (vs:List V) (H:Hp) (Q:VK) (bu:XK):Prop
 | mk (c:Nat):(vs=[.int (c:Int)])->(32<=c)->(c<127)->(c≠37)->(Q (.str ⟨#[c]⟩) H)->MA  vs H Q bu
theorem ON (mSx:∃ t,mg "SIGNS"=some (.str SGN t)) (F:Zc "sign_of" nh):Zb 1 ["number"] MA:=by
 obtain ⟨tS,mS_⟩:=mSx;refine ZR F A3
 ·obtain ⟨c,rfl,_⟩:=h
  rfl
 obtain ⟨c,rfl,h1,h2,h3,q⟩:=h;have sg:=L9 c (Yj.mpr h2) h1 h3;exists _,(Z3 (Z7 (@dE _ _ _ _ _ _ _ _ (Z8 kK (pv 0) af) (Z5 Ib (cg (v:=.str SGN) rfl mS_ ⟨_,rfl⟩) (ZE bi (pv 0) af)) (Z5 Ib (cg (v:=.str SGN) rfl mS_ ⟨_,rfl⟩) (ZE bi (pv 0) af))))),?_;exists _,rfl,_,_,rfl,rfl,_,rfl,?_;refine au (fun c9=>?_) (fun c9=>?_)
 ·have hlt:c<37:=by have:=of_decide_eq_true c9; omega
  rw [if_pos hlt] at sg;exists _,rfl,_,_,rfl,rfl,SGN,_,c,rfl,rfl,(by rw [sizeLine_eq]; decide +kernel),?_,q;rw [show (c:Int) - 32=((c - 32:Nat):Int) by omega];exact eO (j:=c - 32) (by simpa using sg)
 ·have hge:¬ c<37:=fun h=>absurd (decide_eq_true (by omega)) c9
  rw [if_neg hge] at sg;exists _,rfl,_,_,rfl,rfl,SGN,_,c,rfl,rfl,(by rw [sizeLine_eq]; decide +kernel),?_,q;rw [show (c:Int) - 33=((c - 33:Nat):Int) by omega];exact eO (j:=c - 33) (by simpa using sg)
inductive GG (vs:List V) (H:Hp) (Q:VK) (bu:XK):Prop
 | mk (z b lo hi r):(vs=[.str z,.str b])->(z∈WS8)->((b,lo,hi)∈BND)->(gC z lo hi=r)->(∀ H',av H H'->Q (vO r) H')->GG  vs H Q bu
theorem Pe (T:G0 mg) (TR:GR K w mg) (F:Zc "number_of" eU):Zb 1 ["word", "bounds"] GG :=
 (NM T TR F).imp fun vs H Q EX ⟨z,b,lo,hi,r,hv,hz,hb,hr,q⟩=>⟨z,(b,lo,hi),hv,hz,hb,fun H' g=>by show Q (vO (gC z lo hi)) H'; rw [hr]; exact q H' g⟩
abbrev yu:List Str:=["words", "place", "many", "told", "behind", "number"]
theorem eY:aA yu ["words", "place"] (defScope jU):=ZU 0
inductive LA (vs:List V) (H:Hp) (Q:VK) (bu:XK):Prop
 | mk (l) (ws r:List Str) (p:Nat) (z):(vs=[.ref l,.int (p:Int)])->(H l=some (.lst (ws.map V.str)))->(p<=10000000)->(ws.drop p=OI.ws (.sg z)++r)->(z∈TXT)->(∀ a H',av H H'->H' a=some (.tup [.str z,.int ((p+1+z.length:Nat):Int)])->Q (.ref a) H')->LA  vs H Q bu
theorem OZ (T:G0 mg) (F:Zc "signs_at" jU) (cU:Za 1 "word_at" ["words", "place"] zt) (dM:Za 1 "number_of" ["word", "bounds"] GG) (nG:Za 1 "is_sign_number" ["number"] Bn) (Ek:Za 1 "sign_of" ["number"] MA):Zb 2 ["words", "place"] LA:=by
 refine ZR F eY
 ·obtain ⟨l,ws,r,p,z,rfl,_⟩:=h
  rfl
 obtain ⟨l,ws,r,p,z,rfl,hl,hp,hd,hz,q⟩:=h;obtain ⟨lz,cz⟩:=ma z hz;obtain ⟨tj,tl⟩:=FM z hz;have lc:z.cps.toList.length=z.length:=XS;simp only [OI.ws,Xf] at hd;obtain ⟨e0,yq⟩:=ic hd;exists _,(Z2 (ZA 2 eY.nd (Z6 dM (Z1 (Z6 cU (Z1 (pv 0) (Z0 (pv 1)))) (Z0 ag)))) (Z2 (ZB (Z8 f9 (pv 2) bB) (Z3 (Z7 bB))) (Z2 (ZA 3 eY.nd (ZD aq)) (Z2 (ZM (Di rfl T.range (Z1 (ZE cN (pv 1) af) (Z0 (ZE cN (ZE cN (pv 1) af) (pv 2))))) (ZO 4 eY.nd) (Z2 (ZA 5 eY.nd (Z6 dM (Z1 (Z6 cU (Z1 (pv 0) (Z0 (pv 4)))) (Z0 ag)))) (Z2 (ZB (PW.pt (cK (Z8 f9 (pv 5) bB) (cm (dI (di (Z6 nG (Z0 (pv 5)))))))) (Z3 (Z7 bB))) (Z3 (ZL (ZG (pv 3) (Z0 (Z6 Ek (Z0 (pv 5)))))))))) (Z3 (Z7 (ZF (Z1 (ZH XN XV XW eR ag (Z0 (pv 3))) (Z0 (ZE cN (ZE cN (pv 1) af) (pv 2))))))))))),?_;show let v1:L2.TS:=_; let v2:L2.TS:=_; let v3:=am _ v2; let v4:=am _ v3; let v5:=am (gW _ _ v4) v1; let v6:=am _ v5; let v7:=am _ v6; (am _ v7) _ _ _;intro v1 v2 v3 v4 v5 v6 v7;exists _,rfl,_,rfl,l,ws,p,rfl,hl,ns z.length, "many",0,40,some (z.length:Int),by rw [e0]; rfl,ja (by omega),(),xL z.length (Yj.mpr (by omega)),fun H1 g1=>?_
 exists _,rfl,rfl,_,rfl,au (fun c9=>absurd c9 (by simp [vO])) (fun c9=>?_);exists zl0,fun t ht=>?_
 have s1:=ad ht (.lst []);have G1:=g1.trans s1;exists _,rfl,_,_,rfl,rfl,_,rfl,_,_,rfl,rfl,_,rfl,_,_,rfl,rfl,_,_,rfl,(by omega),?_;rw [show ((p:Int)+1+(z.length:Int) - ((p:Int)+1)).toNat=z.length by omega];refine jr (fun i σ H'=>∃ m4 m5,σ=[some (.ref l),some (.int (p:Int)),some (.int (z.length:Int)),some (.ref t),m4,m5]/\av H H'/\H' t=some (.lst (((z.cps.toList.take i).map fun c:Nat=>(⟨#[c]⟩:Str)).map V.str))) ⟨none,none,rfl,G1,ac⟩ (fun i σ H' hi p'=>?_) (fun σ H' p'=>?_)
 ·obtain ⟨m4,m5,rfl,G,hT⟩:=p';obtain ⟨c,hc⟩:∃ c,z.cps.toList[i]?=some c:=⟨_,XA (by omega)⟩;obtain ⟨c1,c2,c3⟩:=cz c (Xh hc);have ec:ws[p+1+i]?=some (ns (c:Int)):=by
   rw [<- YH,yq,Yk (by rw [W8]; omega),XE,hc]
   rfl
  have sb:jZ (c:Int)=true:=by
   unfold jZ;rw [decide_eq_true (show (32:Int)<=c by omega),decide_eq_true (show (c:Int)<=126 by omega),decide_eq_true (show (c:Int)≠37 by omega)]
   rfl
  exists _,rfl,_,rfl,l,ws,p+1+i,by simp,G _ _ hl,ns c, "sign",32,126,some (c:Int),by rw [ec]; rfl,ja c1,(),EQ c (Yj.mpr c1) c2,fun H2 g2=>?_
  exists _,rfl,rfl,_,rfl,au (fun c9=>absurd c9 (by simp [vO])) (fun c9=>?_);exists _,rfl,_,rfl,?_;rw [sb];exists _,rfl,fI ?_;exists _,rfl,.inl ⟨rfl,_,SqL.of (g2 _ _ hT)⟩,_,rfl,c,rfl,c2,c1,c3,t,_,_,rfl,rfl,g2 _ _ hT,ap (by simp only [W8,XO]; omega),?_;exists _,_,rfl,az (g1.free ht) (G.trans g2),?_;rw [ac,Xn,hc,Xb,Xb]
  rfl
 ·obtain ⟨m4,m5,rfl,G,hT⟩:=p';rw [<- lc,Xo] at hT;exists rfl,_,rfl, "",t,z.cps.toList.map fun c:Nat=>(⟨#[c]⟩:Str),rfl,rfl,.inl (SqL.of hT),XC tl (by rw [sizeLine_eq]; omega),?_
  rw [tj];exists _,rfl,_,_,rfl,rfl,_,rfl,_,_,rfl,rfl,zl2,fun a ha=>q a _ (G.trans (ad ha _)) ?_
  rw [ac];simp
abbrev Hm:List Str:=["words", "place", "sort", "word", "told"]
theorem mr:aA Hm ["words", "place", "sort"] (defScope qX):=ZU 0
inductive LL (vs:List V) (H:Hp) (Q:VK) (bu:XK):Prop
 | mk (l) (ws r:List Str) (p:Nat) (o:OI):(vs=[.ref l,.int (p:Int),.str o.sort])->(H l=some (.lst (ws.map V.str)))->(p<=10000000)->(ws.drop p=o.ws++r)->(o.ok)->(∀ a H',av H H'->H' a=some (.tup [o.v,.int ((p+o.ws.length:Nat):Int)])->Q (.ref a) H')->LL  vs H Q bu
theorem O3 (TR:GR K w mg) (F:Zc "own_at" qX) (cU:Za 1 "word_at" ["words", "place"] zt) (dM:Za 1 "number_of" ["word", "bounds"] GG) (fO:Za 1 "is_name" ["thing"] qg) (B7:Za 2 "signs_at" ["words", "place"] LA):Zb 3 ["words", "place", "sort"] LL:=by
 obtain ⟨aB,mB,kB,hB,hBn⟩:=TR.bd;refine ZR F mr
 ·obtain ⟨l,ws,r,p,o,rfl,_⟩:=h
  rfl
 obtain ⟨l,ws,r,p,o,rfl,hl,hp,hd,ho,q⟩:=h;exists _,(Z2 (ZB (Z8 aJ (pv 2) ag) (Z3 (Z7 (Z6 B7 (Z1 (pv 0) (Z0 (pv 1))))))) (Z2 (ZA 3 mr.nd (Z6 cU (Z1 (pv 0) (Z0 (pv 1))))) (Z2 (ZA 4 mr.nd (@dE _ _ _ _ _ _ _ _ (Z9 (yJ kB) (pv 2) (cg (v:=.ref aB) rfl mB rfl)) (Z6 dM (Z1 (pv 3) (Z0 (pv 2)))) (pv 3))) (Z2 (ZB (PW.pt (cK (Z8 f9 (pv 4) bB) (cm (PW.pt (gO (Z8 aJ (pv 2) ag) (fB (dI (di (Z6 fO (Z0 (pv 3))))))))))) (Z3 (Z7 bB))) (Z3 (Z7 (ZF (Z1 (pv 4) (Z0 (ZE cN (pv 1) af)))))))))),?_;show let v1:L2.TS:=_; let v2:=am _ v1; let v3:=am _ v2; let v4:=am _ v3; let v5:L2.TS:=_; (am (bf _ v5 _) v4) _ _ _;intro v1 v2 v3 v4 v5;cases o with
 | sg z =>
  exists _,rfl,rfl,_,rfl,au (fun c9=>?_) (fun c9=>absurd (by simp only [OI.sort]; decide +kernel) c9);exact ⟨_,rfl,_,rfl,l,ws,r,p,z,rfl,hl,hp,hd,ho,fun a H' g h=>q a H' g (by
   rw [h]
   have:z.cps.toList.length=z.length:=XS
   simp only [OI.v,OI.ws,W9,W8,this];rw [show p+1+z.length=p+(z.length+1) by omega])⟩
 | nm x =>
  obtain ⟨e0,_⟩:=ic hd;have sC:x∈bg:=ho;exists _,rfl,rfl,_,rfl,au (fun c9=>absurd (V.str.inj (of_decide_eq_true c9)) (():(Xx "name")≠Xx "signs")) (fun c9=>?_);exists _,rfl,_,rfl,l,ws,p,rfl,hl,?_;rw [show ws[p]?.getD ""=x by rw [e0]; rfl];exists _,rfl,_,none,rfl,rfl,hBn,_,rfl,fI ?_;exists _,rfl,?_;exists _,rfl,rfl,_,rfl,au (fun c9=>absurd c9 (by simp)) (fun c9=>?_);exists _,rfl,rfl,_,rfl,au (fun c9=>?_) (fun c9=>absurd (by simp only [OI.sort]; decide +kernel) c9);exists _,rfl,x,rfl,sC,fun H1 g1=>⟨_,rfl,fI ?_⟩
  exists _,rfl,_,rfl,_,_,rfl,rfl,zl2,fun a ha=>q a _ (g1.trans (ad ha _)) (by rw [ac]; simp [OI.v,OI.ws])
 | nb i =>
  obtain ⟨e0,_⟩:=ic hd;exists _,rfl,rfl,_,rfl,au (fun c9=>absurd (V.str.inj (of_decide_eq_true c9)) (():(Xx "number")≠Xx "signs")) (fun c9=>?_);exists _,rfl,_,rfl,l,ws,p,rfl,hl,?_;rw [show ws[p]?.getD ""=ns i by rw [e0]; rfl];obtain ⟨ab,hab,_⟩:=hB ("number",(-1000000),1000000) ();exists _,rfl,_,_,rfl,rfl,hab,_,rfl,dO ?_;exists _,rfl,_,rfl,ns i, "number",(-1000000),1000000,some i,rfl,lI ho,(),Cg i ho,fun H1 g1=>?_
  exists _,rfl,rfl,_,rfl,au (fun c9=>absurd c9 (by simp [vO])) (fun c9=>?_);exists _,rfl,rfl,_,rfl,au (fun c9=>absurd (V.str.inj (of_decide_eq_true c9)) (():(Xx "number")≠Xx "name")) (fun c9=>?_);exists _,rfl,_,rfl,_,_,rfl,rfl,zl2,fun a ha=>q a _ (g1.trans (ad ha _)) (by rw [ac]; simp [OI.v,OI.ws,vO])
 | dv i =>
  obtain ⟨e0,_⟩:=ic hd;exists _,rfl,rfl,_,rfl,au (fun c9=>absurd (V.str.inj (of_decide_eq_true c9)) (():(Xx "divisor")≠Xx "signs")) (fun c9=>?_);exists _,rfl,_,rfl,l,ws,p,rfl,hl,?_;rw [show ws[p]?.getD ""=ns i by rw [e0]; rfl];obtain ⟨ab,hab,_⟩:=hB ("divisor",2,99) ();exists _,rfl,_,_,rfl,rfl,hab,_,rfl,dO ?_;exists _,rfl,_,rfl,ns i, "divisor",2,99,some i,rfl,lI ho.1,(),Ju i ho.1 ho.2.1 ho.2.2,fun H1 g1=>?_
  exists _,rfl,rfl,_,rfl,au (fun c9=>absurd c9 (by simp [vO])) (fun c9=>?_);exists _,rfl,rfl,_,rfl,au (fun c9=>absurd (V.str.inj (of_decide_eq_true c9)) (():(Xx "divisor")≠Xx "name")) (fun c9=>?_);exists _,rfl,_,rfl,_,_,rfl,rfl,zl2,fun a ha=>q a _ (g1.trans (ad ha _)) (by rw [ac]; simp [OI.v,OI.ws,vO])
 | mn k =>
  obtain ⟨e0,_⟩:=ic hd;exists _,rfl,rfl,_,rfl,au (fun c9=>absurd (V.str.inj (of_decide_eq_true c9)) (():(Xx "many")≠Xx "signs")) (fun c9=>?_);exists _,rfl,_,rfl,l,ws,p,rfl,hl,?_;rw [show ws[p]?.getD ""=ns (k:Int) by rw [e0]; rfl];obtain ⟨ab,hab,_⟩:=hB ("many",0,40) ();exists _,rfl,_,_,rfl,rfl,hab,_,rfl,dO ?_;exists _,rfl,_,rfl,ns (k:Int), "many",0,40,some (k:Int),rfl,ja (by have:k<=8:=ho; omega),(),xL k (Yj.mpr (by have:k<=8:=ho; omega)),fun H1 g1=>?_
  exists _,rfl,rfl,_,rfl,au (fun c9=>absurd c9 (by simp [vO])) (fun c9=>?_);exists _,rfl,rfl,_,rfl,au (fun c9=>absurd (V.str.inj (of_decide_eq_true c9)) (():(Xx "many")≠Xx "name")) (fun c9=>?_);exists _,rfl,_,rfl,_,_,rfl,rfl,zl2,fun a ha=>q a _ (g1.trans (ad ha _)) (by rw [ac]; simp [OI.v,OI.ws,vO])
end
end K6
namespace L2
open PySem PySem.Spec PyProof.Rows
section
variable {X:Cx} {o e f:Expr} {apos dk:Pos} {td ty tx:TE}
inductive wR (K:Frag) (a:Addr) (ty:TE) (tx:TE) (σ:St) (Q:VK) (x:V) (H1:Hp):Prop
 | mk:(x=.ref a)->(ty σ H1 fun y H2=>tx σ H2 fun d H3=>∃ z r v,y=.str z/\PySem.W.nsIn K a z=some r/\((∃ u,r=some u/\a7 v u)\/(r=none/\v=d))/\Q v H3)->wR K a ty tx σ Q x H1
noncomputable def Md (K:Frag) (a:Addr) (td ty tx:TE):TE:=fun σ H Q=>td σ H fun x H1=>wR K a ty tx σ Q x H1
theorem Fz {a:Addr} (h:KDv X.K X.w a) (ho:PE X o td) (he:PE X e ty) (hf:PE X f tx) (m:M2 X o "get" apos e f dk):PE X (.Call (.Attribute o "get" apos) [e,f] [] dk) (Md X.K a td ty tx):=by
 intro ae s σ H Q I q;refine wpAny_Call_method m.base m.few m.line PySem.F.plainAttrs_dict aah PySem.F.type_dict_get (thn (ho ae s σ H _ I q) fun u s1 ⟨x,H1,I1,rx,ex,q1⟩=>?_);subst ex;obtain rfl:u=Value.ref a:=rx;obtain ⟨es,n,hl,hk⟩:=h.ex;have Vn:=YU (prog:=X.prog) (w:=X.w) I1.kIn hl hk;exists Vn.typeIs,fun b eb=>?_,?_
 ·cases eb;exists _,I1.kIn _ _ hl,rfl
 rw [m.trees];refine Calls.callWith_builtin rfl (Calls.evalArgs_plain (Calls.spliced_cons (thn (he ae s1 σ H1 _ I1 q1) fun iv s2 ⟨y,H2,I2,ry,q2⟩ =>
  Calls.spliced_cons (thn (hf ae s2 σ H2 _ I2 q2) fun fv s3 ⟨d,H3,I3,rd,z,r,v',ey,en,hv,q3⟩=>Calls.spliced_nil ?_))))
 subst ey;obtain ⟨t,rfl⟩:=ry;have mo:=YU (prog:=X.prog) (w:=X.w) I3.kIn hl hk;refine call_meetsIn aah mo.typeIs PySem.F.entry_dict_get (PySem.F.args_dict_get_3 _ _ _) (meets_dict_get_default (strKind X.prog X.w) a (strKind_is X.prog X.w z t) h.lo fv) ⟨_,mo,⟨v',H3,I3.tok _,?_,q3⟩⟩;rw [aag hl en];rcases hv with ⟨u,rfl,rv⟩ | ⟨rfl,rfl⟩
 ·exact rv
 ·exact rd
end
end L2
namespace K6
open PySem L2
noncomputable def SH8:List (Str×Str×List Int):=[("let", "statement",[2]),("say", "statement",[2]),("if", "statement",[1]),("while", "statement",[1]),("call", "statement",[]),("give", "statement",[1]),("num", "expression",[]),("text", "expression",[]),("var", "expression",[]),("of", "expression",[1]),("with", "expression",[1,3]),("new", "expression",[]),("add", "expression",[1,2]),("sub", "expression",[1,2]),("times", "expression",[2]),("div", "expression",[1]),("rest", "expression",[1]),("len", "expression",[1]),("at", "expression",[1,2]),("rows", "expression",[]),("put", "expression",[1,2,3]),("more", "expression",[1,2]),("signs", "expression",[1]),("less", "condition",[1,2]),("same", "condition",[1,2]),("and", "condition",[1,2]),("or", "condition",[1,2]),("not", "condition",[1])]
noncomputable def oy:List (Str×List Str):=[("let",["name"]),("say",["name"]),("call",["name", "name", "many"]),("text",["signs"]),("var",["name"]),("of",["name"]),("with",["name"]),("new",["name", "many"]),("times",["number"]),("div",["divisor"]),("rest",["divisor"]),("rows",["many"])]
structure GS8 (K:Frag) (w:World) (mg:Str->Option Value):Prop where
 sh:∃ aS,mg "SHAPES"=some (.ref aS)/\KDv K w aS/\∀ p∈SH8,∃ a b n,PySem.W.nsIn K aS p.1=some (some (.ref a))/\(∀ H,SqT K H a [.str p.2.1,.int n,.ref b])/\∀ H,SqT K H b (p.2.2.map V.int)
 ow:∃ aO,mg "OWN"=some (.ref aO)/\KDv K w aO/\(∀ p∈oy,∃ a,PySem.W.nsIn K aO p.1=some (some (.ref a))/\∀ H,SqT K H a (p.2.map V.str))/\∀ p∈SH8,(∀ q∈oy,q.1≠p.1)->PySem.W.nsIn K aO p.1=some none
noncomputable def E.word:E->Str
 | .num _ => "num"
 | .text _ => "text"
 | .var _ => "var"
 | .of_ _ _ => "of"
 | .with_ _ _ _ => "with"
 | .new _ _ => "new"
 | .add _ _ => "add"
 | .sub _ _ => "sub"
 | .times _ _ => "times"
 | .div _ _ => "div"
 | .rest _ _ => "rest"
 | .len _ => "len"
 | .at_ _ _ => "at"
 | .rows _ => "rows"
 | .put _ _ _ => "put"
 | .more _ _ => "more"
 | .signs _ => "signs"
noncomputable def C.word:C->Str
 | .less _ _ => "less"
 | .same _ _ => "same"
 | .and_ _ _ => "and"
 | .or_ _ _ => "or"
 | .not_ _ => "not"
noncomputable def S.word:S->Str
 | .let_ _ _ => "let"
 | .say _ _ => "say"
 | .if_ _ _ _ => "if"
 | .while_ _ _ => "while"
 | .call _ _ _ => "call"
 | .give _ => "give"
noncomputable def E.items:E->List OI
 | .num y1=>[]
 | .text y1=>[.sg y1]
 | .var y1=>[.nm y1]
 | .of_ y1 y2=>[.nm y2]
 | .with_ y1 y2 y3=>[.nm y2]
 | .new y1 y2=>[.nm y1,.mn y2.length]
 | .add y1 y2=>[]
 | .sub y1 y2=>[]
 | .times y1 y2=>[.nb y1]
 | .div y1 y2=>[.dv y2]
 | .rest y1 y2=>[.dv y2]
 | .len y1=>[]
 | .at_ y1 y2=>[]
 | .rows y1=>[.mn y1.length]
 | .put y1 y2 y3=>[]
 | .more y1 y2=>[]
 | .signs y1=>[]
noncomputable def S.items:S->List OI
 | .let_ y1 y2=>[.nm y1]
 | .say y1 y2=>[.nm y1]
 | .if_ y1 y2 y3=>[]
 | .while_ y1 y2=>[]
 | .call y1 y2 y3=>[.nm y1,.nm y2,.mn y3.length]
 | .give y1=>[]
noncomputable def Nd.word:Nd->Str
 | .e x=>x.word
 | .c x=>x.word
 | .s x=>x.word
noncomputable def Nd.items:Nd->List OI
 | .e x=>x.items
 | .c _=>[]
 | .s x=>x.items
noncomputable def Nd.sort:Nd->Str
 | .e _ => "expression"
 | .c _ => "condition"
 | .s _ => "statement"
noncomputable def Nd.isNum:Nd->Prop
 | .e (.num _)=>True
 | _=>False
noncomputable def oiW:List OI->List Str
 | []=>[]
 | o::r=>o.ws++oiW r
noncomputable def bV:List Str:=[("call":Str),("new":Str),("rows":Str)]
noncomputable def LO:List Str:=[("say":Str),("if":Str),("while":Str),("and":Str),("or":Str),("not":Str)]
noncomputable def zj (z:Str):Str:=if z∈LO then "condition" else "expression"
theorem oW (n:Nd) (hw:n.wf) (hn:¬ n.isNum):n.own=n.word::oiW n.items/\(∀ o∈n.items,o.ok)/\(∃ ps,(n.word,n.sort,ps)∈SH8/\(n.word∉bV->n.inn.map Nd.sort=XG ps.length (zj n.word))) /\
  (n.word∈bV->∃ k xs,k<=8/\n.items.map OI.v=xs++[.int ((k:Nat):Int)]/\xs.length<=2/\n.inn.map Nd.sort=XG k ("expression":Str)) /\
  ((n.word,n.items.map OI.sort)∈oy\/(n.items=[]/\∀ q∈oy,q.1≠n.word))/\n.word∈FIX/\n.word ≠ "num"/\n.items.length<=3:=by
 cases n with
 | e x =>
  cases x with
  | num y1=>exact absurd trivial hn
  | text y1 =>
   simp only [Nd.wf,Wf] at hw;have okp:∀ o∈Nd.items (.e (.text y1)),o.ok:=fun o ho=>by
    simp only [Nd.items,E.items,Xa,Xe,or_false] at ho;rw [ho]; exact hw
   exact ZY okp [] "text" "expression" "expression" [("signs":Str)]
  | var y1 =>
   simp only [Nd.wf,Wf] at hw;have okp:∀ o∈Nd.items (.e (.var y1)),o.ok:=fun o ho=>by
    simp only [Nd.items,E.items,Xa,Xe,or_false] at ho;rw [ho]; exact hw
   exact ZY okp [] "var" "expression" "expression" [("name":Str)]
  | of_ y1 y2 =>
   simp only [Nd.wf,Wf] at hw;have okp:∀ o∈Nd.items (.e (.of_ y1 y2)),o.ok:=fun o ho=>by
    simp only [Nd.items,E.items,Xa,Xe,or_false] at ho;rw [ho]; exact hw.2
   exact ZY okp [1] "of" "expression" "expression" [("name":Str)]
  | with_ y1 y2 y3 =>
   simp only [Nd.wf,Wf] at hw;have okp:∀ o∈Nd.items (.e (.with_ y1 y2 y3)),o.ok:=fun o ho=>by
    simp only [Nd.items,E.items,Xa,Xe,or_false] at ho;rw [ho]; exact hw.2.1
   exact ZY okp [1,3] "with" "expression" "expression" [("name":Str)]
  | new y1 y2 =>
   simp only [Nd.wf,Wf] at hw;have okp:∀ o∈Nd.items (.e (.new y1 y2)),o.ok:=fun o ho=>by
    simp only [Nd.items,E.items,Xa,Xe,or_false] at ho;rcases ho with rfl | rfl
    ·exact hw.1
    ·exact hw.2.1
   exists by simp [Nd.own,Nd.word,Nd.items,oiW,OI.ws,E.own,E.word,E.items],okp,⟨[],(():(("new":Str),("expression":Str),([]:List Int))∈SH8),fun h=>absurd (():("new":Str)∈bV) h⟩,fun _=>⟨y2.length,[.str y1],hw.2.1,rfl,by simp,by simp only [Nd.inn,E.inn,Yy]; exact Zv⟩,.inl (():(("new":Str),([("name":Str),("many":Str)]:List Str))∈oy),(():("new":Str)∈FIX),(():("new":Str) ≠ "num"),by simp [Nd.items,E.items]
  | add y1 y2 =>
   simp only [Nd.wf,Wf] at hw;exact ZX (fun o ho=>nomatch ho) [1,2] "add" "expression" "expression"
  | sub y1 y2 =>
   simp only [Nd.wf,Wf] at hw;exact ZX (fun o ho=>nomatch ho) [1,2] "sub" "expression" "expression"
  | times y1 y2 =>
   simp only [Nd.wf,Wf] at hw;have okp:∀ o∈Nd.items (.e (.times y1 y2)),o.ok:=fun o ho=>by
    simp only [Nd.items,E.items,Xa,Xe,or_false] at ho;rw [ho]; exact hw.1
   exact ZY okp [2] "times" "expression" "expression" [("number":Str)]
  | div y1 y2 =>
   simp only [Nd.wf,Wf] at hw;have okp:∀ o∈Nd.items (.e (.div y1 y2)),o.ok:=fun o ho=>by
    simp only [Nd.items,E.items,Xa,Xe,or_false] at ho;rw [ho]; exact hw.2
   exact ZY okp [1] "div" "expression" "expression" [("divisor":Str)]
  | rest y1 y2 =>
   simp only [Nd.wf,Wf] at hw;have okp:∀ o∈Nd.items (.e (.rest y1 y2)),o.ok:=fun o ho=>by
    simp only [Nd.items,E.items,Xa,Xe,or_false] at ho;rw [ho]; exact hw.2
   exact ZY okp [1] "rest" "expression" "expression" [("divisor":Str)]
  | len y1 =>
   simp only [Nd.wf,Wf] at hw;exact ZX (fun o ho=>nomatch ho) [1] "len" "expression" "expression"
  | at_ y1 y2 =>
   simp only [Nd.wf,Wf] at hw;exact ZX (fun o ho=>nomatch ho) [1,2] "at" "expression" "expression"
  | rows y1 =>
   simp only [Nd.wf,Wf] at hw;have okp:∀ o∈Nd.items (.e (.rows y1)),o.ok:=fun o ho=>by
    simp only [Nd.items,E.items,Xa,Xe,or_false] at ho;rw [ho]; exact hw.1
   exists by simp [Nd.own,Nd.word,Nd.items,oiW,OI.ws,E.own,E.word,E.items],okp,⟨[],(():(("rows":Str),("expression":Str),([]:List Int))∈SH8),fun h=>absurd (():("rows":Str)∈bV) h⟩,fun _=>⟨y1.length,[],hw.1,rfl,by simp,by simp only [Nd.inn,E.inn,Yy]; exact Zv⟩,.inl (():(("rows":Str),([("many":Str)]:List Str))∈oy),(():("rows":Str)∈FIX),(():("rows":Str) ≠ "num"),by simp [Nd.items,E.items]
  | put y1 y2 y3 =>
   simp only [Nd.wf,Wf] at hw;exact ZX (fun o ho=>nomatch ho) [1,2,3] "put" "expression" "expression"
  | more y1 y2 =>
   simp only [Nd.wf,Wf] at hw;exact ZX (fun o ho=>nomatch ho) [1,2] "more" "expression" "expression"
  | signs y1 =>
   simp only [Nd.wf,Wf] at hw;exact ZX (fun o ho=>nomatch ho) [1] "signs" "expression" "expression"
 | c x =>
  cases x with
  | less y1 y2 =>
   simp only [Nd.wf,WfC] at hw;exact ZX (fun o ho=>nomatch ho) [1,2] "less" "condition" "expression"
  | same y1 y2 =>
   simp only [Nd.wf,WfC] at hw;exact ZX (fun o ho=>nomatch ho) [1,2] "same" "condition" "expression"
  | and_ y1 y2 =>
   simp only [Nd.wf,WfC] at hw;exact ZX (fun o ho=>nomatch ho) [1,2] "and" "condition" "condition"
  | or_ y1 y2 =>
   simp only [Nd.wf,WfC] at hw;exact ZX (fun o ho=>nomatch ho) [1,2] "or" "condition" "condition"
  | not_ y1 =>
   simp only [Nd.wf,WfC] at hw;exact ZX (fun o ho=>nomatch ho) [1] "not" "condition" "condition"
 | s x =>
  cases x with
  | let_ y1 y2 =>
   simp only [Nd.wf,WfS] at hw;have okp:∀ o∈Nd.items (.s (.let_ y1 y2)),o.ok:=fun o ho=>by
    simp only [Nd.items,S.items,Xa,Xe,or_false] at ho;rw [ho]; exact hw.1
   exact ZY okp [2] "let" "statement" "expression" [("name":Str)]
  | say y1 y2 =>
   simp only [Nd.wf,WfS] at hw;have okp:∀ o∈Nd.items (.s (.say y1 y2)),o.ok:=fun o ho=>by
    simp only [Nd.items,S.items,Xa,Xe,or_false] at ho;rw [ho]; exact hw.1
   exact ZY okp [2] "say" "statement" "condition" [("name":Str)]
  | if_ y1 y2 y3 =>
   simp only [Nd.wf,WfS] at hw;exact ZX (fun o ho=>nomatch ho) [1] "if" "statement" "condition"
  | while_ y1 y2 =>
   simp only [Nd.wf,WfS] at hw;exact ZX (fun o ho=>nomatch ho) [1] "while" "statement" "condition"
  | call y1 y2 y3 =>
   simp only [Nd.wf,WfS] at hw;have okp:∀ o∈Nd.items (.s (.call y1 y2 y3)),o.ok:=fun o ho=>by
    simp only [Nd.items,S.items,Xa,Xe,or_false] at ho;rcases ho with rfl | rfl | rfl
    ·exact hw.1
    ·exact hw.2.1
    ·exact hw.2.2.1
   exists by simp [Nd.own,Nd.word,Nd.items,oiW,OI.ws,S.own,S.word,S.items],okp,⟨[],(():(("call":Str),("statement":Str),([]:List Int))∈SH8),fun h=>absurd (():("call":Str)∈bV) h⟩,fun _=>⟨y3.length,[.str y1,.str y2],hw.2.2.1,rfl,by simp,by simp only [Nd.inn,S.inn,Yy]; exact Zv⟩,.inl (():(("call":Str),([("name":Str),("name":Str),("many":Str)]:List Str))∈oy),(():("call":Str)∈FIX),(():("call":Str) ≠ "num"),by simp [Nd.items,S.items]
  | give y1 =>
   simp only [Nd.wf,WfS] at hw;exact ZX (fun o ho=>nomatch ho) [1] "give" "statement" "expression"
section
variable {P:Program} {w:World} {K:Frag} {mg:Str->Option Value} {base:Heap} {f g:Addr} {fd gd:FuncData}
abbrev Dn:List Str:=["word"]
theorem zK:aA Dn ["word"] (defScope mU):=ZU 0
inductive F8 (vs:List V) (H:Hp) (Q:VK) (bu:XK):Prop
 | mk (p):(p∈SH8)->(vs=[.str p.1])->(Q (.str p.2.1) H)->F8  vs H Q bu
theorem FR (TS:GS8 K w mg) (F:Zc "sort_of" mU):Zb 1 ["word"] F8:=by
 obtain ⟨aS,mS_,kS,hS⟩:=TS.sh;refine ZR F zK
 ·obtain ⟨p,_,rfl,_⟩:=h
  rfl
 obtain ⟨p,hp,rfl,q⟩:=h;obtain ⟨a,b,n,g1,g2,g3⟩:=hS p hp;exists _,(Z3 (Z7 (@dE _ _ _ _ _ _ _ _ (Z9 (yJ kS) (pv 0) (cg (v:=.ref aS) rfl mS_ rfl)) (Z4 (Z5 (Dg kS) (cg (v:=.ref aS) rfl mS_ rfl) (pv 0))) bB))),?_;exists _,rfl,_,_,rfl,rfl,g1,_,rfl,dO ?_;exists _,rfl,_,_,.ref a,rfl,rfl,g1,rfl,a,_,_,_,rfl,rfl,g2 _,at0 _ _,q
abbrev sn:List Str:=["word"]
theorem pW:aA sn ["word"] (defScope gH):=ZU 0
inductive Ll (vs:List V) (H:Hp) (Q:VK) (bu:XK):Prop
 | mk (p):(p∈SH8)->(vs=[.str p.1])->(Q (.int p.2.2.length) H)->Ll  vs H Q bu
theorem Op (T:G0 mg) (TS:GS8 K w mg) (F:Zc "inner_count" gH):Zb 1 ["word"] Ll:=by
 obtain ⟨aS,mS_,kS,hS⟩:=TS.sh;refine ZR F pW
 ·obtain ⟨p,_,rfl,_⟩:=h
  rfl
 obtain ⟨p,hp,rfl,q⟩:=h;obtain ⟨a,b,n,g1,g2,g3⟩:=hS p hp;exists _,(Z3 (Z7 (ZI (Z0 (Z4 (Z5 (Dg kS) (cg (v:=.ref aS) rfl mS_ rfl) (pv 0))))))),?_;exists _,rfl,_,_,.ref a,rfl,rfl,g1,rfl,a,_,_,_,rfl,rfl,g2 _,rfl,b,_,rfl,.inr (g3 _),?_;rw [W8];exact q
end
open PySem L2
theorem j7 (z:Str):∀ k:Nat,(XG k [V.str z]).flatten=(XG k z).map V.str
 | 0=>rfl
 | k+1=>by rw [Yg,Yx,j7 z k,Yg]; rfl
theorem JK {xs:List V} {x:V} (h:xs.length<=2):atI (xs++[x]) (-1)=some x:=by
 match xs,h with
 | [],_=>rfl
 | [a],_=>rfl
 | [a,b],_=>rfl
 | a::b::c::r,h=>simp at h
noncomputable def Nd.ownV:Nd->List V
 | .e (.num i)=>[.int i]
 | n=>n.items.map OI.v
theorem Cv {n:Nd} (h:¬ n.isNum):n.ownV=n.items.map OI.v:=by
 cases n with
 | e x=>cases x<;>first | rfl | exact absurd trivial h
 | c x=>rfl
 | s x=>rfl
theorem qB {α:Type}:∀ {l:List α} {i:Nat} {x:α},l[i]?=some x->l=l.take i++(x::l.drop (i+1))
 | a::r,0,x,h=>by simp at h; subst h; rfl
 | a::r,i+1,x,h=>by
  have:=qB (l:=r) (i:=i) (x:=x) (by simpa using h)
  simp only [Yt,YX,Xf];rw [<- this]
theorem ji:∀ a b:List OI,oiW (a++b)=oiW a++oiW b
 | [],b=>rfl
 | o::r,b=>by simp only [Xf,oiW,ji r b,Xs]
theorem Jo {n:Nd} (h:n.wf):n.own.length<=40:=by
 cases n with
 | e x =>
  cases x<;>simp [Nd.own,E.own]
  rename_i z
  have h':z∈TXT:=h
  have:=(ma z h').1
  have:z.cps.size=z.length:=rfl
  omega
 | c x=>cases x<;>simp [Nd.own,C.own]
 | s x=>cases x<;>simp [Nd.own,S.own]
section
variable {P:Program} {w:World} {K:Frag} {mg:Str->Option Value} {base:Heap} {f g:Addr} {fd gd:FuncData}
abbrev rZ:List Str:=["word", "own", "inner"]
theorem jd:aA rZ ["word", "own"] (defScope gN):=ZU 0
inductive LW (vs:List V) (H:Hp) (Q:VK) (bu:XK):Prop
 | mk (n:Nd) (oa):(vs=[.str n.word,.ref oa])->(n.wf)->(¬ n.isNum)->(H oa=some (.tup (n.items.map OI.v)))->(∀ r H',av H H'->H r=none->H' r=some (.lst ((n.inn.map Nd.sort).map V.str))->Q (.ref r) H')->LW  vs H Q bu
theorem NR (F:Zc "inner_sorts" gN) (sy:Za 1 "inner_count" ["word"] Ll):Zb 2 ["word", "own"] LW:=by
 refine ZR F jd
 ·obtain ⟨n,oa,rfl,_⟩:=h
  rfl
 obtain ⟨n,oa,rfl,hw,hn,hoa,q⟩:=h;obtain ⟨_,_,⟨ps,hsh,hps⟩,hli,_,_,_,_⟩:=oW n hw hn;generalize n.word=z at hsh hps hli;generalize n.items.map OI.v=IV at hli hoa;generalize n.inn.map Nd.sort=SO at hps hli q;have e1:inV (.str z) [.str "call",.str "new",.str "rows"]=decide (z∈bV):=kc (l:=bV);have e2:inV (.str z) [.str "say",.str "if",.str "while",.str "and",.str "or",.str "not"]=decide (z∈LO):=kc (l:=LO);exists _,(Z2 (ZB (Z9 bz (pv 0) (ZF (Z1 ag (Z1 ag (Z0 ag))))) (Z3 (Z7 (ZE FN (ZD (Z0 ag)) (Z5 cV (pv 1) (@gh _ _ _ _ _ _ dH af)))))) (Z2 (ZA 2 jd.nd (@dE _ _ _ _ _ _ _ _ (Z9 bz (pv 0) (ZF (Z1 ag (Z1 ag (Z1 ag (Z1 ag (Z1 ag (Z0 ag)))))))) ag ag)) (Z3 (Z7 (ZE FN (ZD (Z0 (pv 2))) (Z6 sy (Z0 (pv 0)))))))),?_;show let v1:L2.TS:=_; let v2:=am _ v1; let v3:L2.TS:=_; (am (bf _ v3 _) v2) _ _ _;intro v1 v2 v3;exists _,rfl,zl3,fun p1 hZ=>⟨p1,_,rfl,.inr (SqT.of ac),rfl,rfl,_,rfl,?_⟩
 have s1:=ad hZ (.tup [.str "call",.str "new",.str "rows"]);refine au (fun c9=>?_) (fun c9=>?_)
 ·have hz:z∈bV:=of_decide_eq_true (e1.symm.trans c9);obtain ⟨k,xs,k8,rfl,lx,rfl⟩:=hli hz;exists zl1,fun l1 jX=>?_
  have s2:=ad jX (.lst [.str "expression"]);exists _,rfl,_,rfl,oa,_,_,_,rfl,rfl,SqT.of (s2 _ _ (s1 _ _ hoa)),JK lx,l1,(k:Int),_,rfl,rfl,ac,by omega,by omega,(by show 1*_<=_; rw [sizeLine_eq]; omega),fun r jA=>q r _ ((s1.trans s2).trans (ad jA _)) ((s1.trans s2).free jA) ?_
  rw [ac];show some (HO.lst (XG (k:Int).toNat [V.str "expression"]).flatten)=_;rw [Yn,j7]
 ·have hz:z∉bV:=fun h=>c9 (e1.trans (decide_eq_true h))
  have hSO:=hps hz;subst hSO;exists _,rfl,zl6,fun p2 jG=>⟨p2,_,rfl,.inr (SqT.of ac),rfl,rfl,_,rfl,?_⟩
  have s2:=s1.trans (ad jG (.tup [.str "say",.str "if",.str "while",.str "and",.str "or",.str "not"]));have pl:ps.length<=3:=by
   have:∀ p∈SH8,p.2.2.length<=3:=()
   exact this _ hsh
  refine au (fun c8=>?_) (fun c8=>?_)
  ·have e3:zj z = "condition":=if_pos (of_decide_eq_true (e2.symm.trans c8));rw [e3] at q;exists _,rfl,zl1,fun l3 IA=>?_
   have s3:=s2.trans (ad IA (.lst [.str "condition"]));exists _,rfl,(z,_,ps),hsh,rfl,l3,_,_,rfl,rfl,ac,by show -(2 ^ 63)<=(ps.length:Int); omega,by show (ps.length:Int)<2 ^ 63; omega,(by show 1*(ps.length:Int).toNat<=_; rw [sizeLine_eq]; omega),fun r jA=>q r _ (s3.trans (ad jA _)) (s3.free jA) ?_
   rw [ac];show some (HO.lst (XG (ps.length:Int).toNat [V.str "condition"]).flatten)=_;rw [Yn,j7]
  ·have e3:zj z = "expression":=if_neg fun h=>c8 (e2.trans (decide_eq_true h))
   rw [e3] at q;exists _,rfl,zl1,fun l3 IA=>?_
   have s3:=s2.trans (ad IA (.lst [.str "expression"]));exists _,rfl,(z,_,ps),hsh,rfl,l3,_,_,rfl,rfl,ac,by show -(2 ^ 63)<=(ps.length:Int); omega,by show (ps.length:Int)<2 ^ 63; omega,(by show 1*(ps.length:Int).toNat<=_; rw [sizeLine_eq]; omega),fun r jA=>q r _ (s3.trans (ad jA _)) (s3.free jA) ?_
   rw [ac];show some (HO.lst (XG (ps.length:Int).toNat [V.str "expression"]).flatten)=_;rw [Yn,j7]
abbrev DD:List Str:=["words", "place", "sort", "word", "number", "own", "behind", "own_sort", "told"]
theorem cL:aA DD ["words", "place", "sort"] (defScope mx):=ZU 0
inductive L3 (vs:List V) (H:Hp) (Q:VK) (bu:XK):Prop
 | mk (l) (ws r:List Str) (p:Nat) (n:Nd):(vs=[.ref l,.int (p:Int),.str n.sort])->(H l=some (.lst (ws.map V.str)))->(p<=1000000)->(ws.drop p=n.own++r)->(n.wf)->(∀ a oa sa H',av H H'->H sa=none->H' a=some (.tup [.str n.word,.ref oa,.ref sa,.int ((p+n.own.length:Nat):Int)])->H' oa=some (.tup n.ownV)->H' sa=some (.lst ((n.inn.map Nd.sort).map V.str))->Q (.ref a) H')->L3  vs H Q bu
theorem NF (TS:GS8 K w mg) (F:Zc "head_at" mx) (cU:Za 1 "word_at" ["words", "place"] zt) (dM:Za 1 "number_of" ["word", "bounds"] GG) (Ej:Za 1 "sort_of" ["word"] F8) (Iw:Za 3 "own_at" ["words", "place", "sort"] LL) (sK:Za 2 "inner_sorts" ["word", "own"] LW):Zb 4 ["words", "place", "sort"] L3:=by
 obtain ⟨aO,mO,kO,hO,hOn⟩:=TS.ow;refine ZR F cL
 ·obtain ⟨l,ws,r,p,n,rfl,_⟩:=h
  rfl
 obtain ⟨l,ws,r,p,n,rfl,hl,hp,hd,hw,q⟩:=h;exists _,(Z2 (ZA 3 cL.nd (Z6 cU (Z1 (pv 0) (Z0 (pv 1))))) (Z2 (ZA 4 cL.nd (Z6 dM (Z1 (pv 3) (Z0 ag)))) (Z2 (ZB (PW.pt (gO (Z8 JZ (pv 4) bB) (fB (Z8 aJ (pv 2) ag)))) (Z3 (Z7 (ZF (Z1 ag (Z1 (ZF (Z0 (pv 4))) (Z1 (ZD aq) (Z0 (ZE cN (pv 1) af))))))))) (Z2 (ZB (PW.pt (cK (Z8 kz (Z6 Ej (Z0 (pv 3))) (pv 2)) (cm (Z8 aJ (pv 3) ag)))) (Z3 (Z7 bB))) (Z2 (ZA 5 cL.nd (ZF aq)) (Z2 (ZA 6 cL.nd (ZE cN (pv 1) af)) (Z2 (ZM (bI (Fz kO (cg (v:=.ref aO) rfl mO rfl) (pv 3) (ZF aq) ⟨rfl,rfl,rfl,rfl⟩)) (ZO 7 cL.nd) (Z2 (ZA 8 cL.nd (Z6 Iw (Z1 (pv 0) (Z1 (pv 6) (Z0 (pv 7)))))) (Z2 (ZB (Z8 f9 (pv 8) bB) (Z3 (Z7 bB))) (Z2 (ZA 5 cL.nd (ZE (dF.or cO) (pv 5) (ZF (Z0 (Z4 (pv 8)))))) (Z3 (ZA 6 cL.nd (Z4 (pv 8)))))))) (Z3 (Z7 (ZF (Z1 (pv 3) (Z1 (pv 5) (Z1 (Z6 sK (Z1 (pv 3) (Z0 (pv 5)))) (Z0 (pv 6))))))))))))))),?_;show let v1:L2.TS:=_; let v2:L2.TS:=_; let v3:=am _ v2; let v4:=am _ v3; let v5:=am _ v4; let v6:=am (gW _ _ v5) v1; let v7:=am _ v6; let v8:=am _ v7; let v9:=am _ v8; let oK:L2.TS:=_; let wN:=am (bf _ oK _) v9; let ym:=am _ wN; (am _ ym) _ _ _;intro v1 v2 v3 v4 v5 v6 v7 v8 v9 oK wN ym
 by_cases hn:n.isNum
 ·obtain ⟨i,rfl⟩:∃ i,n=.e (.num i):=by
   cases n with
   | e x=>cases x<;>first | exact ⟨_,rfl⟩ | exact hn.elim
   | c x=>exact hn.elim
   | s x=>exact hn.elim
  have hi:i∈NUM:=by have h:=hw; simp only [Nd.wf,Wf] at h; exact h
  obtain ⟨e0,_⟩:=ic (show ws.drop p=ns i::r from hd);exists _,rfl,_,rfl,l,ws,p,rfl,hl,?_;rw [show ws[p]?.getD ""=ns i by rw [e0]; rfl];exists _,rfl,ns i, "number",-1000000,1000000,some i,rfl,lI hi,(),Cg i hi,fun H1 g1=>?_
  exists _,rfl,rfl,_,rfl,au (fun c9=>?_) (fun c9=>absurd (by simp [vO]) c9);exists _,rfl,rfl,_,rfl,au (fun c9=>?_) (fun c9=>absurd (decide_eq_true (rfl:V.str (Nd.sort (.e (.num i)))=_)) c9);exists _,rfl,zl1,fun p1 hZ=>?_
  have s1:=ad hZ (.tup [.int i]);exists zl0,fun p2 jG=>?_
  have s2:=ad jG (.lst []);exists _,rfl,_,_,rfl,rfl,zl4,fun a ha=>?_
  have s3:=ad ha (.tup [.str "num",.ref p1,.ref p2,.int ((p:Int)+1)]);exact q a p1 p2 _ (((g1.trans s1).trans s2).trans s3) ((g1.trans s1).free jG) (by rw [ac]; rfl) (s3 _ _ (s2 _ _ (aM hZ _))) (s3 _ _ (aM jG _))
 obtain ⟨eo,hok,⟨ps,hsh,_⟩,_,how,hfx,hnn,P0⟩:=oW n hw hn;rw [eo] at hd;obtain ⟨e0,yq⟩:=ic (show ws.drop p=n.word::(oiW n.items++r) from hd);have eov:n.ownV=n.items.map OI.v:=Cv hn;exists _,rfl,_,rfl,l,ws,p,rfl,hl,?_;rw [show ws[p]?.getD ""=n.word by rw [e0]; rfl];exists _,rfl,n.word, "number",-1000000,1000000,none,rfl,vN hfx,(),JA _ hfx,fun H1 g1=>?_
 exists _,rfl,rfl,_,rfl,au (fun c9=>absurd c9 (by simp [vO])) (fun c9=>?_);exists _,rfl,(n.word,n.sort,ps),hsh,rfl,_,rfl,rfl,_,rfl,au (fun c9=>absurd c9 (by simp)) (fun c9=>?_);exists _,rfl,rfl,_,rfl,au (fun c9=>absurd (V.str.inj (of_decide_eq_true c9)) hnn) (fun c9=>?_);exists zl0,fun o0 R8=>?_
 have s1:=ad R8 (.tup []);have G1:=g1.trans s1;exists _,rfl,_,_,rfl,rfl,?_;exists rfl,_,rfl,zl0,fun d0 UM=>?_
 have s2:=ad UM (.tup []);have G2:=G1.trans s2;have cI:∀ i,(oiW (n.items.take i)).length<=n.own.length:=fun i=>by
  rw [eo,W9]
  conv=>rhs; rw [<- aaf i n.items,ji,W7]
  omega
 have hown:n.own.length<=40:=Jo hw;rcases how with how | ⟨hit,hno⟩
 ·obtain ⟨sa,hsa,sq⟩:=hO _ how;exists n.word,some (.ref sa),.ref sa,rfl,hsa,.inl ⟨_,rfl,rfl⟩,sa,rfl,⟨_,sq _⟩,?_;refine fH (xs:=(n.items.map OI.sort).map V.str) (fun i σ H'=>∃ oi m7 m8,σ=[some (.ref l),some (.int (p:Int)),some (.str n.sort),some (.str n.word),some .non,some (.ref oi),some (.int ((p+1+(oiW (n.items.take i)).length:Nat):Int)),m7,m8]/\av H H'/\av (upd (upd H1 o0 (.tup [])) d0 (.tup [])) H'/\H' oi=some (.tup ((n.items.take i).map OI.v))) ⟨o0,none,none,by simp [oiW,vO]; rfl,G2,av.refl _,s2 _ _ (aM R8 _)⟩ (fun i σ H' _ ⟨_,_,_,_,_,G3,_⟩=>(sq _)) (fun i x σ H' hx p'=>?_) (fun σ H' p'=>?_)
  ·obtain ⟨oi,m7,m8,rfl,G,G3,hoi⟩:=p';rw [XE,XE] at hx;obtain ⟨so,hso,rfl⟩:=XQ.mp hx;obtain ⟨o,ho,rfl⟩:=XQ.mp hso;have jX:=cI i;have hi:=(Xv.mp ho).1;have hdr:ws.drop (p+1+(oiW (n.items.take i)).length)=o.ws++(oiW (n.items.drop (i+1))++r):=by
    rw [<- YZ,yq];have e1:n.items=n.items.take i++(o::n.items.drop (i+1)):=qB ho;have e2:oiW n.items=oiW (n.items.take i)++(o.ws++oiW (n.items.drop (i+1))):=by
     conv=>lhs; rw [e1,ji,oiW]
    rw [e2,Xs,aai,Xs]
   exists _,rfl,_,rfl,_,rfl,l,ws,_,p+1+(oiW (n.items.take i)).length,o,rfl,G _ _ hl,by omega,hdr,hok o (Xh ho),fun a H2 g2 ha=>?_
   exists _,rfl,rfl,_,rfl,au (fun c9=>absurd c9 (by simp)) (fun c9=>?_);exists _,rfl,_,rfl,a,_,_,_,rfl,rfl,SqT.of ha,at0 _ _,zl1,fun q1 rN=>?_
   have s4:=ad rN (.tup [o.v]);refine ek (s4 _ _ (g2 _ _ hoi)) ac (by rw [W8,XO]; show _+1<=1000; omega) fun pc H5 g5 hpc=>?_
   exists _,rfl,a,_,_,_,rfl,rfl,SqT.of (g5 _ _ (s4 _ _ ha)),at1 _ _ _,?_;have gA:=(g2.trans s4).trans g5;exists pc,some (.str o.sort),some (.ref a),?_,G.trans gA,G3.trans gA,?_
   ·rw [Xn,ho,ji];simp only [Yq,oiW,XB,W7];rw [<- aaO]
    rfl
   ·rw [hpc,Xn,ho,Xb]
    rfl
  ·obtain ⟨oi,m7,m8,rfl,G,G3,hoi⟩:=p';rw [W8,W8,Xo] at hoi ⊢;exists _,rfl,_,rfl,_,rfl,_,rfl,n,oi,rfl,hw,hn,hoi,fun r3 H3 g3 jA Ev=>?_
   exists _,rfl,zl4,fun a ha=>?_
   have s5:=ad ha (.tup [.str n.word,.ref oi,.ref r3,.int ((p+1+(oiW n.items).length:Nat):Int)]);exact q a oi r3 _ ((G.trans g3).trans s5) (G.free jA) (by rw [ac,eo,W9,show p+((oiW n.items).length+1)=p+1+(oiW n.items).length by omega]) (by rw [eov]; exact s5 _ _ (g3 _ _ hoi)) (s5 _ _ Ev)
 ·exists n.word,none,.ref d0,rfl,hOn _ hsh hno,.inr ⟨rfl,rfl⟩,d0,rfl,⟨[],SqT.of ac⟩,?_;refine fH (xs:=(n.items.map OI.sort).map V.str) (fun i σ H'=>∃ oi m7 m8,σ=[some (.ref l),some (.int (p:Int)),some (.str n.sort),some (.str n.word),some .non,some (.ref oi),some (.int ((p+1+(oiW (n.items.take i)).length:Nat):Int)),m7,m8]/\av H H'/\av (upd (upd H1 o0 (.tup [])) d0 (.tup [])) H'/\H' oi=some (.tup ((n.items.take i).map OI.v))) ⟨o0,none,none,by simp [oiW,vO]; rfl,G2,av.refl _,s2 _ _ (aM R8 _)⟩ (fun i σ H' _ ⟨_,_,_,_,_,G3,_⟩=>(SqT.of (by rw [hit]; exact G3 _ _ ac))) (fun i x σ H' hx p'=>?_) (fun σ H' p'=>?_)
  ·obtain ⟨oi,m7,m8,rfl,G,G3,hoi⟩:=p';rw [XE,XE] at hx;obtain ⟨so,hso,rfl⟩:=XQ.mp hx;obtain ⟨o,ho,rfl⟩:=XQ.mp hso;have jX:=cI i;have hi:=(Xv.mp ho).1;have hdr:ws.drop (p+1+(oiW (n.items.take i)).length)=o.ws++(oiW (n.items.drop (i+1))++r):=by
    rw [<- YZ,yq];have e1:n.items=n.items.take i++(o::n.items.drop (i+1)):=qB ho;have e2:oiW n.items=oiW (n.items.take i)++(o.ws++oiW (n.items.drop (i+1))):=by
     conv=>lhs; rw [e1,ji,oiW]
    rw [e2,Xs,aai,Xs]
   exists _,rfl,_,rfl,_,rfl,l,ws,_,p+1+(oiW (n.items.take i)).length,o,rfl,G _ _ hl,by omega,hdr,hok o (Xh ho),fun a H2 g2 ha=>?_
   exists _,rfl,rfl,_,rfl,au (fun c9=>absurd c9 (by simp)) (fun c9=>?_);exists _,rfl,_,rfl,a,_,_,_,rfl,rfl,SqT.of ha,at0 _ _,zl1,fun q1 rN=>?_
   have s4:=ad rN (.tup [o.v]);refine ek (s4 _ _ (g2 _ _ hoi)) ac (by rw [W8,XO]; show _+1<=1000; omega) fun pc H5 g5 hpc=>?_
   exists _,rfl,a,_,_,_,rfl,rfl,SqT.of (g5 _ _ (s4 _ _ ha)),at1 _ _ _,?_;have gA:=(g2.trans s4).trans g5;exists pc,some (.str o.sort),some (.ref a),?_,G.trans gA,G3.trans gA,?_
   ·rw [Xn,ho,ji];simp only [Yq,oiW,XB,W7];rw [<- aaO]
    rfl
   ·rw [hpc,Xn,ho,Xb]
    rfl
  ·obtain ⟨oi,m7,m8,rfl,G,G3,hoi⟩:=p';rw [W8,W8,Xo] at hoi ⊢;exists _,rfl,_,rfl,_,rfl,_,rfl,n,oi,rfl,hw,hn,hoi,fun r3 H3 g3 jA Ev=>?_
   exists _,rfl,zl4,fun a ha=>?_
   have s5:=ad ha (.tup [.str n.word,.ref oi,.ref r3,.int ((p+1+(oiW n.items).length:Nat):Int)]);exact q a oi r3 _ ((G.trans g3).trans s5) (G.free jA) (by rw [ac,eo,W9,show p+((oiW n.items).length+1)=p+1+(oiW n.items).length by omega]) (by rw [eov]; exact s5 _ _ (g3 _ _ hoi)) (s5 _ _ Ev)
end
open PySem L2
noncomputable def OI.d:OI->PyData
 | .nm x=>.str x
 | .nb i=>.int i
 | .dv i=>.int i
 | .mn k=>.int k
 | .sg z=>.str z
noncomputable def Nd.ownD:Nd->List PyData
 | .e (.num i)=>[.int i]
 | n=>n.items.map OI.d
noncomputable def Nd.hd:Nd->PyData
 | .s (.if_ cc _ _)=>.tuple [.str "if",cc.d]
 | .s (.while_ cc _)=>.tuple [.str "while",cc.d]
 | n=>n.d
theorem wq {K:Frag} {H:Hp}:∀ l:List OI,DTs K H (l.map OI.v) (l.map OI.d)
 | []=>.nil
 | o::r=>.cons (by cases o<;>first | exact .str _ | exact .int _) (wq r)
theorem JN {K:Frag} {H:Hp} (n:Nd):DTs K H n.ownV n.ownD:=by
 cases n with
 | e x=>cases x<;>first | exact wq _ | exact .cons (.int _) .nil
 | c x=>exact wq _
 | s x=>exact wq _
noncomputable def dZ:List Str:=[("of":Str),("with":Str),("div":Str),("rest":Str)]
theorem Jn (n:Nd):(n.word∈bV/\(∃ xs k,n.ownV=xs++[.int k]/\xs.length<=2)/\n.hd=.tuple ([.str n.word]++n.ownD.dropLast++[.tuple (n.inn.map Nd.d)]))\/(n.word∉bV/\n.word∈dZ/\∃ d0 r,n.inn.map Nd.d=d0::r/\n.hd=.tuple ([.str n.word,d0]++n.ownD++r))\/(n.word∉bV/\n.word∉dZ/\n.hd=.tuple ([.str n.word]++n.ownD++n.inn.map Nd.d)):=by
 cases n with
 | e x =>
  cases x with
  | num y1=>exact .inr (.inr ⟨(():("num":Str)∉bV),(():("num":Str)∉dZ),rfl⟩)
  | text y1=>exact .inr (.inr ⟨(():("text":Str)∉bV),(():("text":Str)∉dZ),rfl⟩)
  | var y1=>exact .inr (.inr ⟨(():("var":Str)∉bV),(():("var":Str)∉dZ),rfl⟩)
  | of_ y1 y2=>exact .inr (.inl ⟨(():("of":Str)∉bV),(():("of":Str)∈dZ),_,_,rfl,rfl⟩)
  | with_ y1 y2 y3=>exact .inr (.inl ⟨(():("with":Str)∉bV),(():("with":Str)∈dZ),_,_,rfl,rfl⟩)
  | new y1 y2=>exact .inl ⟨(():("new":Str)∈bV),⟨[.str y1],_,rfl,by simp⟩,by simp only [Nd.inn,E.inn,qI]; rfl⟩
  | add y1 y2=>exact .inr (.inr ⟨(():("add":Str)∉bV),(():("add":Str)∉dZ),rfl⟩)
  | sub y1 y2=>exact .inr (.inr ⟨(():("sub":Str)∉bV),(():("sub":Str)∉dZ),rfl⟩)
  | times y1 y2=>exact .inr (.inr ⟨(():("times":Str)∉bV),(():("times":Str)∉dZ),rfl⟩)
  | div y1 y2=>exact .inr (.inl ⟨(():("div":Str)∉bV),(():("div":Str)∈dZ),_,_,rfl,rfl⟩)
  | rest y1 y2=>exact .inr (.inl ⟨(():("rest":Str)∉bV),(():("rest":Str)∈dZ),_,_,rfl,rfl⟩)
  | len y1=>exact .inr (.inr ⟨(():("len":Str)∉bV),(():("len":Str)∉dZ),rfl⟩)
  | at_ y1 y2=>exact .inr (.inr ⟨(():("at":Str)∉bV),(():("at":Str)∉dZ),rfl⟩)
  | rows y1=>exact .inl ⟨(():("rows":Str)∈bV),⟨[],_,rfl,by simp⟩,by simp only [Nd.inn,E.inn,qI]; rfl⟩
  | put y1 y2 y3=>exact .inr (.inr ⟨(():("put":Str)∉bV),(():("put":Str)∉dZ),rfl⟩)
  | more y1 y2=>exact .inr (.inr ⟨(():("more":Str)∉bV),(():("more":Str)∉dZ),rfl⟩)
  | signs y1=>exact .inr (.inr ⟨(():("signs":Str)∉bV),(():("signs":Str)∉dZ),rfl⟩)
 | c x =>
  cases x with
  | less y1 y2=>exact .inr (.inr ⟨(():("less":Str)∉bV),(():("less":Str)∉dZ),rfl⟩)
  | same y1 y2=>exact .inr (.inr ⟨(():("same":Str)∉bV),(():("same":Str)∉dZ),rfl⟩)
  | and_ y1 y2=>exact .inr (.inr ⟨(():("and":Str)∉bV),(():("and":Str)∉dZ),rfl⟩)
  | or_ y1 y2=>exact .inr (.inr ⟨(():("or":Str)∉bV),(():("or":Str)∉dZ),rfl⟩)
  | not_ y1=>exact .inr (.inr ⟨(():("not":Str)∉bV),(():("not":Str)∉dZ),rfl⟩)
 | s x =>
  cases x with
  | let_ y1 y2=>exact .inr (.inr ⟨(():("let":Str)∉bV),(():("let":Str)∉dZ),rfl⟩)
  | say y1 y2=>exact .inr (.inr ⟨(():("say":Str)∉bV),(():("say":Str)∉dZ),rfl⟩)
  | if_ y1 y2 y3=>exact .inr (.inr ⟨(():("if":Str)∉bV),(():("if":Str)∉dZ),rfl⟩)
  | while_ y1 y2=>exact .inr (.inr ⟨(():("while":Str)∉bV),(():("while":Str)∉dZ),rfl⟩)
  | call y1 y2 y3=>exact .inl ⟨(():("call":Str)∈bV),⟨[.str y1,.str y2],_,rfl,by simp⟩,by simp only [Nd.inn,S.inn,qI]; rfl⟩
  | give y1=>exact .inr (.inr ⟨(():("give":Str)∉bV),(():("give":Str)∉dZ),rfl⟩)
theorem xc {xs:List V} {x:V} (h:xs.length<=2):¬ (HT.sIx (xs++[x]).length 0 none=0/\HT.sIx (xs++[x]).length (xs++[x]).length (some (-1))=(xs++[x]).length)/\io (xs++[x]) none (some (-1))=xs:=by
 match xs,h with
 | [],_=>exact ⟨by show ¬ (HT.sIx 1 0 none=0/\HT.sIx 1 1 (some (-1))=1); decide,rfl⟩
 | [a],_=>exact ⟨by show ¬ (HT.sIx 2 0 none=0/\HT.sIx 2 2 (some (-1))=2); decide,rfl⟩
 | [a,b],_=>exact ⟨by show ¬ (HT.sIx 3 0 none=0/\HT.sIx 3 3 (some (-1))=3); decide,rfl⟩
 | a::b::c::r,h=>simp at h
section
variable {P:Program} {w:World} {K:Frag} {mg:Str->Option Value} {base:Heap} {f g:Addr} {fd gd:FuncData}
abbrev Fu:List Str:=["word", "own", "inner"]
theorem Ec:aA Fu ["word", "own", "inner"] (defScope rj):=ZU 0
inductive L6 (K:Frag) (vs:List V) (H:Hp) (Q:VK) (bu:XK):Prop
 | mk (n:Nd) (oa ia L):(vs=[.str n.word,.ref oa,.ref ia])->(H oa=some (.tup n.ownV))->(H ia=some (.tup L))->(DTs K H L (n.inn.map Nd.d))->(n.ownV.length<=10)->(L.length<=10)->(∀ u H',av H H'->DT K H' u n.hd->Q u H')->L6 K vs H Q bu
theorem Om (F:Zc "joined" rj):Zb 1 ["word", "own", "inner"] (L6 K):=by
 refine ZR F Ec
 ·obtain ⟨n,oa,ia,L,rfl,_⟩:=h
  rfl
 obtain ⟨n,oa,ia,L,rfl,hoa,hia,dL,Sr,Wq,q⟩:=h;have od:=JN (K:=K) (H:=H) n;have hj:=Jn n;generalize n.word=z at hj;generalize n.ownV=OV at hj od hoa Sr;generalize n.ownD=OD at hj od;generalize n.inn.map Nd.d=ID at hj dL;generalize n.hd=HD' at hj q;have e1:inV (.str z) [.str "call",.str "new",.str "rows"]=decide (z∈bV):=kc (l:=bV);have e2:inV (.str z) [.str "of",.str "with",.str "div",.str "rest"]=decide (z∈dZ):=kc (l:=dZ);exists _,(Z2 (ZB (Z9 bz (pv 0) (ZF (Z1 ag (Z1 ag (Z0 ag))))) (Z3 (Z7 (ZE (dF.or cO) (ZE (dF.or cO) (ZF (Z0 (pv 0))) (@bj _ _ _ _ _ _ _ _ _ _ (iG.or fF) (pv 1) cb (bJ (gh dH af)))) (ZF (Z0 (pv 2))))))) (Z2 (ZB (Z9 bz (pv 0) (ZF (Z1 ag (Z1 ag (Z1 ag (Z0 ag)))))) (Z3 (Z7 (ZE (dF.or cO) (ZE (dF.or cO) (ZF (Z1 (pv 0) (Z0 (Z4 (pv 2))))) (pv 1)) (@bj _ _ _ _ _ _ _ _ _ _ (iG.or fF) (pv 2) (bJ af) cb))))) (Z3 (Z7 (ZE (dF.or cO) (ZE (dF.or cO) (ZF (Z0 (pv 0))) (pv 1)) (pv 2)))))),?_;show let v1:L2.TS:=_; let v2:L2.TS:=_; let v3:=am (bf _ v2 _) v1; let v4:L2.TS:=_; (am (bf _ v4 _) v3) _ _ _;intro v1 v2 v3 v4;exists _,rfl,zl3,fun p1 hZ=>⟨p1,_,rfl,.inr (SqT.of ac),rfl,rfl,_,rfl,?_⟩
 have s1:=ad hZ (.tup [.str "call",.str "new",.str "rows"]);have fin:∀ (p:Addr) (xs:List V) (ds:List PyData) (H':Hp),av H H'->H' p=some (.tup xs)->DTs K H' xs ds->HD'=.tuple ds->Q (.ref p) H':=fun p xs ds H' g hp hd e=>q _ H' g (by rw [e]; exact .tup (.inl hp) hd)
 rcases hj with ⟨hz,⟨xs,k,rfl,lx⟩,hh⟩ | ⟨hz,M8,d0,r,rfl,hh⟩ | ⟨hz,M8,hh⟩
 ·refine au (fun c9=>?_) (fun c9=>absurd (e1.trans (decide_eq_true hz)) c9);obtain ⟨W3,odk,eod,dx,_⟩:=od.snoc_inv;subst eod;rw [X6] at hh;exists _,rfl,zl1,fun q1 rN=>?_
  have s2:=s1.trans (ad rN (.tup [.str z]));exists _,rfl,_,rfl,_,rfl,.inl ⟨oa,_,rfl,SqT.of (s2 _ _ hoa),?_,fun q2 Ps=>?_⟩
  ·exact (xc lx).1
  rw [(xc lx).2];have s3:=s2.trans (ad Ps (.tup xs));refine ek (ad Ps (.tup xs) _ _ (aM rN _)) (aM Ps _) (by show 1+_<=1000; omega) fun pc H4 g4 hpc=>?_
  have s4:=s3.trans g4;exists _,rfl,zl1,fun q5 Ni=>?_
  have s5:=s4.trans (ad Ni (.tup [.ref ia]));refine ek (ad Ni (.tup [.ref ia]) _ _ hpc) (aM Ni _) (by simp only [W7,W9,Xd]; omega) fun pf H6 g6 hpf=>?_
  have s6:=s5.trans g6;exact fin pf _ _ H6 s6 hpf (DTs.append (DTs.append (.cons (.str _) .nil) (dx.mono (ao s6))) (.cons (.tup (.inl (s6 _ _ hia)) (dL.mono (ao s6))) .nil)) hh
 ·refine au (fun c9=>absurd (of_decide_eq_true (e1.symm.trans c9)) hz) (fun c9=>?_);exists _,rfl,zl4,fun p2 jG=>⟨p2,_,rfl,.inr (SqT.of ac),rfl,rfl,_,rfl,?_⟩
  have s2:=s1.trans (ad jG (.tup [.str "of",.str "with",.str "div",.str "rest"]));refine au (fun c8=>?_) (fun c8=>absurd (e2.trans (decide_eq_true M8)) c8);obtain ⟨x0,Lr,rfl,Vt,dLr⟩:=dL.open;exists _,rfl,_,rfl,ia,_,_,_,rfl,rfl,SqT.of (s2 _ _ hia),at0 _ _,zl2,fun q3 MS=>?_
  have s3:=s2.trans (ad MS (.tup [.str z,x0]));exists _,rfl,ek (aM MS _) (s3 _ _ hoa) (by show 2+_<=1000; omega) fun pc H4 g4 hpc=>?_
  have s4:=s3.trans g4;exists _,rfl,1,rfl,gq (k:=1) (s4 _ _ hia) fun q5 H5 g5 Ni=>?_
  have s5:=s4.trans g5;refine ek (g5 _ _ hpc) Ni (by simp only [W7,W9,Xd,Yp] at *; omega) fun pf H6 g6 hpf=>?_
  have s6:=s5.trans g6;exact fin pf _ _ H6 s6 hpf (DTs.append (DTs.append (.cons (.str _) (.cons (Vt.mono (ao s6)) .nil)) (od.mono (ao s6))) (dLr.mono (ao s6))) hh
 ·refine au (fun c9=>absurd (of_decide_eq_true (e1.symm.trans c9)) hz) (fun c9=>?_);exists _,rfl,zl4,fun p2 jG=>⟨p2,_,rfl,.inr (SqT.of ac),rfl,rfl,_,rfl,?_⟩
  have s2:=s1.trans (ad jG (.tup [.str "of",.str "with",.str "div",.str "rest"]));refine au (fun c8=>absurd (of_decide_eq_true (e2.symm.trans c8)) M8) (fun c8=>?_);exists _,rfl,zl1,fun q3 MS=>?_
  have s3:=s2.trans (ad MS (.tup [.str z]));exists _,rfl,ek (aM MS _) (s3 _ _ hoa) (by show 1+_<=1000; omega) fun pc H4 g4 hpc=>?_
  have s4:=s3.trans g4;exists _,rfl,ek hpc (s4 _ _ hia) (by simp only [W7,W9,Xd]; omega) fun pf H6 g6 hpf=>?_
  have s6:=s4.trans g6;exact fin pf _ _ H6 s6 hpf (DTs.append (DTs.append (.cons (.str _) .nil) (od.mono (ao s6))) (dL.mono (ao s6))) hh
end
open PySem L2
inductive Rn:List Nd->List Nd->Prop
 | nil:Rn [] []
 | cons {n:Nd} {T hs:List Nd}:Rn (n.inn++T) hs->Rn (n::T) (n::hs)
theorem Kx:∀ (k:Nat) (W:List Nd),(nws W).length<=k->∃ hs,Rn W hs
 | _,[],_=>⟨[],.nil⟩
 | 0,n::T,h=>by
  have hp:=iw n;simp only [nws,n.w_eq,W7] at h;omega
 | k+1,n::T,h=>by
  have hp:=iw n;simp only [nws,n.w_eq,W7] at h;obtain ⟨hs,r⟩:=Kx k (n.inn++T) (by rw [fG,W7]; omega);exists n::hs,.cons r
theorem Rn.fam {W hs:List Nd} (r:Rn W hs):∃ fam:Nat->List Nd,fam 0=W/\fam hs.length=[]/\(∀ k n,hs[k]?=some n->∃ T,fam k=n::T/\fam (k+1)=n.inn++T)/\∀ k,(fam k).length<=(nws W).length:=by
 induction r with
 | nil=>exact ⟨fun _=>[],rfl,rfl,(fun k n h=>by simp at h),fun k=>Xj _⟩
 | @cons n T hs r ih =>
  obtain ⟨fam,f0,f1,f2,f3⟩:=ih;exists fun k=>match k with | 0=>n::T | k+1=>fam k,rfl,f1,fun k m h=>?_,fun k=>?_
  ·cases k with
   | zero=>simp at h; subst h; exact ⟨T,rfl,f0⟩
   | succ k=>exact f2 k m (by simpa using h)
  ·cases k with
   | zero=>exact kq (n::T)
   | succ k =>
    have:=f3 k
    rw [fG,W7] at this;simp only [nws,n.w_eq,W7];show (fam k).length<=_;omega
theorem Mj (n:Nd):n.inn.map Nd.hd=n.inn.map Nd.d:=by
 refine List.map_congr_left fun x hx=>?_
 cases x with
 | e y=>rfl
 | c y=>rfl
 | s y =>
  exfalso
  cases n with
  | e z=>obtain ⟨_,_,h⟩:=Xr.mp hx; cases h
  | c z=>cases z<;>simp [Nd.inn,C.inn] at hx
  | s z=>cases z<;>simp [Nd.inn,S.inn] at hx
noncomputable def Oc (H:Hp) (v:V) (n:Nd):Prop:=∃ a oa sa k,v=.ref a/\H a=some (.tup [.str n.word,.ref oa,.ref sa,.int k])/\H oa=some (.tup n.ownV)/\H sa=some (.lst ((n.inn.map Nd.sort).map V.str))
section
variable {P:Program} {w:World} {K:Frag} {mg:Str->Option Value} {base:Heap} {f g:Addr} {fd gd:FuncData}
abbrev qj:List Str:=["heads", "waiting", "head", "inner"]
theorem dG:aA qj ["heads"] (defScope gj):=ZU 0
inductive MO (K:Frag) (vs:List V) (H:Hp) (Q:VK) (bu:XK):Prop
 | mk (hl hs) (ALL:List Nd) (n0:Nd):(vs=[.ref hl])->(H hl=some (.lst hs))->(Paired (Oc H) hs ALL)->(Rn [n0] ALL)->(n0.w.length<=1000000)->((∀ n∈ALL,n.ownV.length<=10/\n.inn.length<=10))->(∀ u H',av H H'->DT K H' u n0.hd->Q u H')->MO K vs H Q bu
theorem N3 (T:G0 mg) (TR:mg "reversed"=none) (F:Zc "joined_heads" gj) (IC:Za 1 "joined" ["word", "own", "inner"] (L6 K)):Zb 2 ["heads"] (MO K):=by
 refine ZR F dG
 ·obtain ⟨hl,hs,ALL,n0,rfl,_⟩:=h
  rfl
 obtain ⟨hl,hs,ALL,n0,rfl,hhl,ph,rn,hN,ww,q⟩:=h;obtain ⟨fam,f0,f1,f2,f3⟩:=rn.fam;have lh:=Paired.length ph;simp only [nws,XB] at f3;exists _,(Z2 (ZA 1 dG.nd (ZD aq)) (Z2 (ZM (Mi rfl TR (pv 0)) (ZO 2 dG.nd) (Z2 (ZA 3 dG.nd (ZD aq)) (Z2 (iL PassesOwn.never (Z8 kK (ZI (Z0 (pv 3))) (ZI (Z0 (Z4 (pv 2))))) (Z3 (ZL (ZG (pv 3) (Z0 (jO Xw Yb Yc jV (pv 1))))))) (Z3 (ZL (ZG (pv 1) (Z0 (Z6 IC (Z1 (Z4 (pv 2)) (Z1 (Z4 (pv 2)) (Z0 (ZK aH T.tuple bU (Z0 (pv 3)))))))))))))) (Z3 (Z7 (Z5 aD (pv 1) af))))),?_;show let v1:L2.TS:=_; let v2:L2.TS:=_; let v3:L2.TS:=_; let v4:=am (lG _ v3) v2; let v5:=am _ v4; let v6:=am (gW _ _ v5) v1; (am _ v6) _ _ _;intro v1 v2 v3 v4 v5 v6;exists zl0,fun wl jY=>?_
 have g0:=ad jY (.lst []);exists _,rfl,hl,hs,rfl,SqL.of (g0 _ _ hhl),JQ (xs:=hs) (fun i σ H'=>∃ m2 m3 ys,σ=[some (.ref hl),some (.ref wl),m2,m3]/\av H H'/\H' wl=some (.lst ys)/\DTs K H' ys.reverse ((fam (ALL.length - i)).map Nd.hd)) ⟨none,none,[],rfl,g0,ac,by rw [Nat.sub_zero,f1]; exact .nil⟩ (fun i σ H' _ ⟨_,_,_,_,e3,_⟩=>SqL.of (e3 _ _ hhl)) (fun i x σ H' hx p=>?_) (fun σ H' p=>?_)
 ·obtain ⟨m2,m3,ys,rfl,G,hW,dy⟩:=p;have hi:i<hs.length:=by
   have:=(Xv.mp hx).1
   rwa [XX] at this
  rw [YQ hi] at hx;obtain ⟨n,hn,hxa⟩:=aG ph _ x hx;obtain ⟨a,oa,sa,kk,rfl,ha,hoa,hsa⟩:=hxa;obtain ⟨Tn,e1,e2⟩:=f2 _ n hn;rw [show hs.length - 1 - i+1=ALL.length - i by omega] at e2;rw [show hs.length - 1 - i=ALL.length - (i+1) by omega] at e1;rw [e2,Xb] at dy;obtain ⟨Sr,Wl⟩:=ww n (Xh hn);have fl:=f3 (ALL.length - i);rw [e2,W7] at fl;exists zl0,fun il hil=>?_
  have s1:=ad hil (.lst []);have hilH:=G.free hil;have hne:wl≠il:=fun z=>by rw [z,hil] at hW; cases hW
  exists fun m σ H2=>∃ c zs as,c+m=n.inn.length/\σ=[some (.ref hl),some (.ref wl),some (.ref a),some (.ref il)]/\av H H2/\H2 wl=some (.lst zs)/\H2 il=some (.lst as)/\as.length=c/\DTs K H2 as ((n.inn.take c).map Nd.hd)/\DTs K H2 zs.reverse ((n.inn.drop c).map Nd.hd++Tn.map Nd.hd),⟨n.inn.length,0,ys,[],by omega,rfl,G.trans s1,s1 _ _ hW,ac,rfl,.nil,dy.mono (ao s1)⟩,?_
  rintro m σ H2 ⟨c,zs,as,ec,rfl,G2,J3,QG,la,da,dz⟩
  exists _,rfl,il,_,rfl,.inl (SqL.of QG),_,rfl,a,_,_,_,rfl,rfl,SqT.of (G2 _ _ ha),rfl,sa,_,rfl,.inl (SqL.of (G2 _ _ hsa)),_,_,rfl,rfl,_,rfl,?_;refine au (fun cc=>?_) (fun cc=>?_)
  ·have hlt:c<n.inn.length:=by
    have:=of_decide_eq_true cc
    rw [W8,W8,la] at this;omega
   have ed:n.inn.drop c=n.inn[c]::n.inn.drop (c+1):=Zk hlt;rw [ed,Xp,Xf] at dz;obtain ⟨y,zr,ez,d1,dzr⟩:=dz.open;obtain ⟨z1,rfl⟩:∃ z1,zs=z1++[y]:=⟨zr.reverse,by rw [<- Ys zs,ez,XY]⟩;have ezr:z1.reverse=zr:=by simpa using ez
   subst ezr;exists fun σ' H'=>∃ m',m'<m/\∃ c zs as,c+m'=n.inn.length/\σ'=[some (.ref hl),some (.ref wl),some (.ref a),some (.ref il)]/\av H H'/\H' wl=some (.lst zs)/\H' il=some (.lst as)/\as.length=c/\DTs K H' as ((n.inn.take c).map Nd.hd)/\DTs K H' zs.reverse ((n.inn.drop c).map Nd.hd++Tn.map Nd.hd),fun _ _ z=>z,?_
   exists _,rfl,.inl ⟨rfl,_,SqL.of QG⟩,_,rfl,.inl ⟨rfl,_,SqL.of J3⟩,wl,_,y,rfl,rfl,J3,by simp,?_
   rw [X6];have k3:=aW J3 (.lst z1);have T1:(upd H2 wl (.lst z1)) il=some (.lst as):=by rw [aj hne.symm]; exact QG
   exists il,_,_,rfl,rfl,T1,ap (by omega),?_;have k4:=k3.trans (aW T1 (.lst (as++[y])));exists m - 1,by omega,c+1,z1,as++[y],by omega,rfl,az hilH (az jY G2),by rw [aj hne]; exact ac,ac,by rw [W7,la]; rfl,?_,dzr.mono k4
   rw [Xn,XA hlt,Xb];exact DTs.append (da.mono k4) (.cons (d1.mono k4) .nil)
  ·have hge:c=n.inn.length:=by
    rcases Nat.lt_or_ge c n.inn.length with h | h
    ·exact absurd (decide_eq_true (by rw [W8,W8,la]; omega)) cc
    ·omega
   subst hge;rw [Xo,Mj] at da;rw [Zq,XZ,Xz] at dz;exists _,rfl,.inl ⟨rfl,_,SqL.of J3⟩,_,rfl,a,_,_,_,rfl,rfl,SqT.of (G2 _ _ ha),at0 _ _,_,rfl,a,_,_,_,rfl,rfl,SqT.of (G2 _ _ ha),at1 _ _ _,_,rfl,il,as,rfl,.inl ⟨SqL.of QG,fun tp htp=>?_⟩;have s3:=ad htp (.tup as);exists n,oa,tp,as,rfl,s3 _ _ (G2 _ _ hoa),ac,da.mono (ao s3),Sr,by omega,fun u H4 g4 du=>?_
   have C3:=g4 _ _ (s3 _ _ J3);have lz:=dz.len;rw [XX,W8] at lz;exists wl,_,_,rfl,rfl,C3,by rw [sizeLine_eq]; omega,?_
   have k5:=aW C3 (.lst (zs++[u]));exists _,_,zs++[u],rfl,az jY ((G2.trans s3).trans g4),ac,?_;rw [e1,Yo];exact .cons (du.mono k5) ((dz.mono (ao (s3.trans g4))).mono k5)
 ·obtain ⟨m2,m3,ys,rfl,G,hW,dy⟩:=p;rw [lh,Nat.sub_self,f0] at dy;obtain ⟨u,r,e,du,dr⟩:=dy.open;cases dr;obtain rfl:ys=[u]:=by rw [<- Ys ys,e]; rfl
  exists _,rfl,wl,_,_,_,rfl,rfl,SqL.of hW,at0 _ _,q u H' G du
end
open PySem L2
theorem Pa {W hs:List Nd} (r:Rn W hs):(∀ n∈W,n.wf)->∀ n∈hs,n.wf:=by
 induction r with
 | nil=>exact fun _ n h=>nomatch h
 | @cons n T hs r ih =>
  intro h m hm;rcases Xa.mp hm with rfl | hm
  ·exact h m Xl
  ·refine ih (fun x hx=>?_) m hm;rcases Xm.mp hx with hx | hx
   ·exact Nd.wf_inn (h n Xl) x hx
   ·exact h x (Xg _ hx)
theorem wP {n:Nd} (h:n.wf):n.ownV.length<=10/\n.inn.length<=10:=by
 by_cases hn:n.isNum
 ·cases n with
  | e x=>cases x<;>first | exact False.elim hn | exact ⟨by simp [Nd.ownV],by simp [Nd.inn,E.inn]⟩
  | c x=>exact hn.elim
  | s x=>exact hn.elim
 ·obtain ⟨_,_,⟨ps,hsh,hps⟩,hli,_,_,_,h3⟩:=oW n h hn;exists by rw [Cv hn,W8]; omega,?_
  have pl:ps.length<=3:=(():∀ p∈SH8,p.2.2.length<=3) _ hsh
  by_cases hz:n.word∈bV
  ·obtain ⟨k,_,k8,_,_,e⟩:=hli hz
   have:=congrArg List.length e
   rw [W8,YO] at this;omega
  ·have:=congrArg List.length (hps hz)
   rw [W8,YO] at this;omega
theorem LF {n:Nd} (h:n.wf):(n.inn.map Nd.sort).reverse=n.inn.map Nd.sort:=by
 by_cases hn:n.isNum
 ·cases n with
  | e x=>cases x<;>first | rfl | exact hn.elim
  | c x=>exact hn.elim
  | s x=>exact hn.elim
 ·obtain ⟨_,_,⟨ps,hsh,hps⟩,hli,_⟩:=oW n h hn
  by_cases hz:n.word∈bV
  ·obtain ⟨k,_,_,_,_,e⟩:=hli hz;rw [e,aab]
  ·rw [hps hz,aab]
noncomputable def HdN (w1 w2:Addr) (H:Hp) (v:V) (n:Nd):Prop:=∃ a oa sa k,v=.ref a/\H a=some (.tup [.str n.word,.ref oa,.ref sa,.int k])/\H oa=some (.tup n.ownV)/\H sa=some (.lst ((n.inn.map Nd.sort).map V.str))/\sa≠w1/\sa≠w2
theorem HdN.at {w1 w2:Addr} {H:Hp} {v:V} {n:Nd} (h:HdN w1 w2 H v n):Oc H v n:=let ⟨a,oa,sa,k,e,h1,h2,h3,_,_⟩:=h; ⟨a,oa,sa,k,e,h1,h2,h3⟩
theorem HdN.same {w1 w2:Addr} {H H':Hp} (g:av H H') {v:V} {n:Nd} (h:HdN w1 w2 H v n):HdN w1 w2 H' v n:=let ⟨a,oa,sa,k,e,h1,h2,h3,h4,h5⟩:=h; ⟨a,oa,sa,k,e,g _ _ h1,g _ _ h2,g _ _ h3,h4,h5⟩
theorem HdN.upd {w1 w2 t:Addr} {H:Hp} {xs:List V} {o:HO} (ht:t=w1\/t=w2) (hx:H t=some (.lst xs)) {v:V} {n:Nd} (h:HdN w1 w2 H v n):HdN w1 w2 (L2.upd H t o) v n:=by
 obtain ⟨a,oa,sa,k,e,h1,h2,h3,h4,h5⟩:=h;have kt:=aW hx o;exists a,oa,sa,k,e,kt _ _ h1,kt _ _ h2,?_,h4,h5;rw [aj (by rcases ht with rfl | rfl; exact h4; exact h5)];exact h3
section
variable {P:Program} {w:World} {K:Frag} {mg:Str->Option Value} {base:Heap} {f g:Addr} {fd gd:FuncData}
abbrev qM:List Str:=["words", "heads", "waiting", "place", "head"]
theorem bY:aA qM ["words"] (defScope fX):=ZU 0
inductive FK (K:Frag) (vs:List V) (H:Hp) (Q:VK) (bu:XK):Prop
 | mk (l) (st:S):(vs=[.ref l])->(H l=some (.lst ((hW st).map V.str)))->(WfS st)->((hW st).length<=1000000)->(∀ u H',av H H'->DT K H' u (Nd.hd (.s st))->Q u H')->FK K vs H Q bu
noncomputable def SI8 (l tl wl:Addr) (ws:List Str) (ALL:List Nd) (H:Hp) (m:Nat) (σ:St) (H':Hp):Prop :=
 ∃ (p:Nat) (hs:List V) (pre rest W:List Nd) (m4:Option V),σ=[some (.ref l),some (.ref tl),some (.ref wl),some (.int (p:Int)),m4]/\av H H'/\H' tl=some (.lst hs)/\H' wl=some (.lst ((W.map Nd.sort).reverse.map V.str))/\Paired (HdN tl wl H') hs pre/\Rn W rest/\pre++rest=ALL/\(∀ n∈W,n.wf)/\ws.drop p=nws W/\p+(nws W).length=ws.length/\hs.length<=p/\m=(nws W).length
theorem Mo (T:G0 mg) (F:Zc "statement_of" fX) (En:Za 4 "head_at" ["words", "place", "sort"] L3) (rF:Za 2 "joined_heads" ["heads"] (MO K)):Zb 5 ["words"] (FK K):=by
 refine ZR F bY
 ·obtain ⟨l,st,rfl,_⟩:=h
  rfl
 obtain ⟨l,st,rfl,hl,hwf,hN,q⟩:=h;obtain ⟨ALL,rn⟩:=Kx _ [Nd.s st] (Xc _);have PK:∀ n∈[Nd.s st],n.wf:=fun n hn=>by rw [Xi.mp hn]; exact hwf
 have hall:=Pa rn PK;exists _,(Z2 (ZA 1 bY.nd (ZD aq)) (Z2 (ZA 2 bY.nd (ZD (Z0 ag))) (Z2 (ZA 3 bY.nd af) (Z2 (iL PassesOwn.never (qF (pv 2) (fun _=>rfl)) (Z2 (ZA 4 bY.nd (Z6 En (Z1 (pv 0) (Z1 (pv 3) (Z0 (jO Xw Yb Yc jV (pv 2))))))) (Z2 (ZB (Z8 f9 (pv 4) bB) (Z3 (Z7 bB))) (Z2 (ZL (ZG (pv 1) (Z0 (pv 4)))) (Z2 (ZA 3 bY.nd (Z4 (pv 4))) (Z3 (ZL (ZH Xw XJ XM dm (pv 2) (Z0 (Z4 (pv 4))))))))))) (Z3 (Z7 (@dE _ _ _ _ _ _ _ _ (Z8 aJ (pv 3) (ZI (Z0 (pv 0)))) (Z6 rF (Z0 (pv 1))) bB))))))),?_;show let v1:L2.TS:=_; let v2:L2.TS:=_; let v3:=am _ v2; let v4:=am _ v3; let v5:=am _ v4; let v6:=am _ v5; let v7:=am (lG _ v6) v1; let v8:=am _ v7; let v9:=am _ v8; (am _ v9) _ _ _;intro v1 v2 v3 v4 v5 v6 v7 v8 v9;exists zl0,fun tl htl=>?_
 have g0:=ad htl (.lst []);exists zl1,fun wl jY=>?_
 have g1:=ad jY (.lst [.str "statement"]);have hwH:=g0.free jY;have htw:tl≠wl:=fun z=>by rw [<- z,ac] at jY; cases jY
 exists SI8 l tl wl (hW st) ALL H,⟨_,0,[],[],ALL,[Nd.s st],none,rfl,g0.trans g1,g1 _ _ ac,ac,.nil,rn,rfl,PK,by simp [nws,Nd.w],by simp [nws,Nd.w],Xc _,rfl⟩,?_
 rintro m σ H' ⟨p,hs,pre,rest,W,m4,rfl,G,hT,hW',ph,rW,eA,hwW,hdp,hps,hhp,em⟩
 exists _,rfl,_,.inl ⟨_,SqL.of hW',rfl⟩,?_;refine au (fun cc=>?_) (fun cc=>?_)
 ·obtain ⟨n,T',rfl⟩:∃ n T',W=n::T':=by
   cases W with
   | nil=>exact absurd cc (by decide)
   | cons n T'=>exact ⟨n,T',rfl⟩
  cases rW with
  | cons U4 =>
  rename_i IS
  have nwf:=hwW n Xl;have op:=iw n;simp only [nws,n.w_eq,W7] at hps em;rw [nws,n.w_eq,Xs,<- fG] at hdp;rw [Xp,XY,Xb] at hW';exists fun σ' H'=>∃ m',m'<m/\SI8 l tl wl (hW st) ALL H m' σ' H',fun _ _ z=>z,?_
  exists _,rfl,_,rfl,_,rfl,.inl ⟨rfl,_,SqL.of hW'⟩,wl,_,.str n.sort,rfl,rfl,hW',by simp,?_
  rw [show ((T'.map Nd.sort).reverse.map V.str++[n.sort].map V.str).dropLast=(T'.map Nd.sort).reverse.map V.str from X6];have G2:av H (upd H' wl (.lst ((T'.map Nd.sort).reverse.map V.str))):=az hwH G;have wy:(upd H' wl (.lst ((T'.map Nd.sort).reverse.map V.str))) tl=some (.lst hs):=by rw [aj htw]; exact hT
  have J3:(upd H' wl (.lst ((T'.map Nd.sort).reverse.map V.str))) wl=some (.lst ((T'.map Nd.sort).reverse.map V.str)):=ac;have SL:Paired (HdN tl wl (upd H' wl (.lst ((T'.map Nd.sort).reverse.map V.str)))) hs pre:=Paired.mapP ph fun _ _ z=>z.upd (.inr rfl) hW'
  generalize Wy:(upd H' wl (.lst ((T'.map Nd.sort).reverse.map V.str)))=H2 at G2 wy J3 SL;exists l,hW st,_,p,n,rfl,G2 _ _ hl,by omega,hdp,nwf,fun a oa sa H3 g3 Ki ha hoa hsa=>?_
  exists _,rfl,rfl,_,rfl,au (fun c9=>absurd c9 (by simp)) (fun c9=>?_);have o8:=g3 _ _ wy;have UX:=g3 _ _ J3;have n1:sa≠tl:=fun z=>by rw [z,wy] at Ki; cases Ki
  have n2:sa≠wl:=fun z=>by rw [z,J3] at Ki; cases Ki
  exists _,rfl,.inl ⟨rfl,_,SqL.of o8⟩,_,rfl,tl,_,_,rfl,rfl,o8,by rw [sizeLine_eq]; omega,?_
  have k4:=aW o8 (.lst (hs++[.ref a]));have C3:(upd H3 tl (.lst (hs++[.ref a]))) wl=some (.lst ((T'.map Nd.sort).reverse.map V.str)):=by rw [aj htw.symm]; exact UX
  have Sk:(upd H3 tl (.lst (hs++[.ref a]))) sa=some (.lst ((n.inn.map Nd.sort).map V.str)):=by rw [aj n1]; exact hsa
  have V9:Paired (HdN tl wl (upd H3 tl (.lst (hs++[.ref a])))) (hs++[.ref a]) (pre++[n]):=Paired.mapP (fj (Paired.mapP SL fun _ _ z=>z.same g3) (.cons ⟨a,oa,sa,_,rfl,ha,hoa,hsa,n1,n2⟩ .nil)) fun _ _ z=>z.upd (.inl rfl) o8
  exists _,rfl,a,_,_,_,rfl,rfl,SqT.of (k4 _ _ ha),rfl,?_;have sm:=wP nwf;have lT:=kq T';exists _,rfl,.inl ⟨rfl,_,SqL.of C3⟩,_,rfl,a,_,_,_,rfl,rfl,SqT.of (k4 _ _ ha),rfl,wl,sa,_,_,rfl,rfl,C3,Sk,by simp only [W8,XX,sizeLine_eq]; omega,?_
  exists (nws (n.inn++T')).length,by rw [fG,W7]; omega,p+n.own.length,hs++[.ref a],pre++[n],IS,n.inn++T',_,rfl,az hwH (az htl (G2.trans g3)),by rw [aj htw]; exact ac,?_,Paired.mapP V9 fun _ _ z=>z.upd (.inr rfl) C3,U4,by rw [<- eA,Xs]; rfl,fun x hx=>?_,?_,by rw [fG,W7]; omega,by rw [W7,Xu]; omega,rfl
  ·rw [ac,Xb (l₁:=n.inn),Yo,LF nwf,Xb]
  ·rcases Xm.mp hx with hx | hx
   ·exact Nd.wf_inn nwf x hx
   ·exact hwW x (Xg _ hx)
  ·rw [<- YZ,hdp,aai]
 ·have eW:W=[]:=by
   cases W with
   | nil=>rfl
   | cons n T'=>exact absurd (by simp) cc
  subst eW;cases rW;rw [XB] at eA;subst eA;simp only [nws,Xd,aav] at hps;exists _,rfl,_,rfl,l,_,rfl,.inl (SqL.of (G _ _ hl)),rfl,_,rfl,au (fun c8=>?_) (fun c8=>absurd (by rw [W8,<- hps]; simp) c8);exists _,rfl,tl,hs,_,Nd.s st,rfl,hT,Paired.mapP ph fun _ _ z=>z.at,rn,hN,fun n hn=>wP (hall n hn),fun u H5 g5 du=>q u H5 (G.trans g5) du
end
end K6
namespace L2
open PySem PySem.Spec PyProof.Rows
noncomputable def Itc (lo c:Int) (n:Nat):It:=⟨fun i _=>i<n,fun i H x H'=>H'=H/\x=.int (lo+i*c),fun i _=>n<=i⟩
theorem xM {P:Program} {w:World} {K:Frag} {tg:Expr} (it:Addr) (lo c:Int) (n:Nat):sf P w K tg (Itc lo c n) [it] it (fun i h=>IsRangeIter h it (lo+(i:Nat)*c) ((n:Int) - (i:Nat)) c) where
 mem:=by simp
 obj:=fun i h st b hb=>by
  obtain rfl:b=it:=by simpa using hb
  exact ⟨_,st,fun v z=>by
   have z':Data.fields _=Data.cell v:=z;cases z'⟩
 keep:=fun i h h' st k=>k it (by simp) _ st
 item:=by
  intro X hP hw hK hc i ae s σ H E I hf st hg;subst hP hw hK;obtain ⟨f0,f1,f2,f3,f4,f5⟩:=hf it (by simp);have W:=Walks.range (prog:=X.prog) (w:=X.w) (I.ok.hd hc) it lo c n;refine W.item i s _ _ hg st fun v h' tk hv iK kk=>?_
  obtain ⟨t,rfl⟩:=hv;have I1:Inv X ae σ H { s with heap:=h',toks:=tk }:=I.turned (fun b o hb e=>kk b o (by simpa using hb) e) f0 f1 f3 f4 f5;exists _,rfl,pZ (s:={ s with heap:=h',toks:=tk }) (n := "range_iterator") iK rfl rfl (by decide) ⟨.int (lo+i*c),H,I1,⟨t,rfl⟩,⟨rfl,rfl⟩,iK,fun b hb=>(hf b hb).1⟩
 done:=by
  intro X hP hw hK hc i ae s σ H E I hf st hg;subst hP hw hK;obtain ⟨f0,f1,f2,f3,f4,f5⟩:=hf it (by simp);exact wpAny_pyNext_range_end (I.ok.hd hc) st (by have:n<=i:=hg; omega) fun h' eb=>⟨rfl,I.turned (t':=s.toks) (fun b o hb e=>eb b o hb e) f0 f1 f3 f4 f5⟩
 self:=fun _ _ _ _ _ st h=>wpAny_pyIter_rangeiter st h
theorem xo (n:Nat):Builtin.Range.rangeSize 0 (n:Int) 2=(((n+1) / 2:Nat):Int):=by
 unfold Builtin.Range.rangeSize;simp only [show (2:Int) > 0 by decide,if_true]
 split<;>omega
theorem Dh {n:Nat} (h:n<=10000000):Builtin.Range.small 0 (n:Int) 2=true:=by
 have h2:(n+1) / 2<=10000000:=by omega
 unfold Builtin.Range.small;rw [xo];generalize (n+1) / 2=k at h2;unfold Builtin.Range.rangeFitsLong;have d:∀ {p:Prop} [Decidable p],p->decide p=true:=fun h=>decide_eq_true h
 rw [d (show -(2:Int) ^ 63<=0 by omega),d (show (0:Int)<2 ^ 63 by omega),d (show -(2:Int) ^ 63<=(n:Int) by omega),d (show (n:Int)<2 ^ 63 by omega),d (show -(2:Int) ^ 63<=2 by omega),d (show (2:Int)<2 ^ 63 by omega),d (show -(2:Int) ^ 63<=(k:Int) by omega),d (show (k:Int)<2 ^ 63 by omega),if_pos (show (2:Int) > 0 by decide),d (show -(2:Int) ^ 63<=(n:Int)+(2 - 1) by omega),d (show (n:Int)+(2 - 1)<2 ^ 63 by omega)];simp only [YN,Bool.or_true]
section
variable {X:Cx} {tg:Expr}
inductive wS (R:It->Hp->Prop) (vs:List V) (H1:Hp):Prop
 | mk (n:Nat):(vs=[.int 0,.int (n:Int),.int 2])->(n<=10000000)->(R (Itc 0 2 ((n+1) / 2)) H1)->wS R vs H1
noncomputable def LU (ta:TA):TI:=fun σ H R=>ta σ H fun vs H1=>wS R vs H1
theorem zV {a b c:Expr} {ta:TA} {p pos:Pos} (hg:Gl X "range") (hm:X.mg "range"=none) (ha:PA X [a,b,c] ta) (hs:starEach [a,b,c] X.env=[(false,eval a X.env),(false,eval b X.env),(false,eval c X.env)]:=by rfl) (IG:starEach [b,c] X.env=[(false,eval b X.env),(false,eval c X.env)]:=by rfl) :
  PI X tg (.Call (.Name "range" p) [a,b,c] [] pos) (LU ta):=by
 intro ae s σ H R I h;refine Call_ (gQ I hg hm boot_range (XU (thn (ha pos ae s σ H _ I h) fun us s1 ⟨vs,H1,I1,r1,q1⟩=>?_) (by rw [hs,IG]) (by rw [IG]; rfl)));obtain ⟨n,e,hn,q⟩:=q1;subst e;cases r1 with
 | cons r rr =>
  cases rr with
  | cons r' rr =>
   cases rr with
   | cons V0 rr =>
    cases rr;obtain ⟨t,rfl⟩:=r;obtain ⟨t',rfl⟩:=r';obtain ⟨QC,rfl⟩:=V0;refine call_range_3 (by decide) ?_ (.inl (PyProof.noPylong_small (by omega)));refine wpAny_pyIter_range (IsRange.new ..) (Dh hn) ?_;have I2:Inv X ae σ H1 { s1 with heap:=s1.heap.push { cls:=.type "range",data:=.fields #[.int 0 t,.int (n:Int) t',.int 2 QC] },toks:=s1.toks }:=I1.kept fun b o e=>Heap.get?_push_of_some _ e
    refine ⟨(s1.heap.push { cls:=.type "range",data:=.fields #[.int 0 t,.int (n:Int) t',.int 2 QC] }).objs.size,[(s1.heap.push { cls:=.type "range",data:=.fields #[.int 0 t,.int (n:Int) t',.int 2 QC] }).objs.size],_,_,H1,rfl,
     I2.kept (t':=s1.toks) fun b o e=>Heap.get?_push_of_some _ e,xM _ 0 2 ((n+1) / 2),?_,fun b hb=>?_,q⟩
    ·show IsRangeIter _ _ (0+((0:Nat):Int)*2) (((((n+1) / 2:Nat):Nat):Int) - ((0:Nat):Int)) 2;rw [show (0:Int)+((0:Nat):Int)*2=0 by simp,show (((((n+1) / 2:Nat):Nat):Int) - ((0:Nat):Int))=Builtin.Range.rangeSize 0 (n:Int) 2 by rw [xo]; simp];exact Heap.get?_push_size _ rfl
    ·have e:b=(s1.heap.push { cls:=.type "range",data:=.fields #[.int 0 t,.int (n:Int) t',.int 2 QC] }).objs.size:=by simpa using hb
     subst e;exact I2.fpOk (Xc _) (I2.hok.fresh (Xc _))
theorem yC {lo c:Int} {n:Nat} {g:TG} {tb:TS} {D:jx} {σ:St} {H:Hp} (Pv:Nat->St->Hp->Prop) (h0:Pv 0 σ H)
  (hs:∀ i σ H,i<n->Pv i σ H->g (.int (lo+i*c)) σ H fun σ2 H2=>tb { D with nx:=Pv (i+1),ct:=Pv (i+1),bk:=D.nx } σ2 H2) (hd:∀ σ H,Pv n σ H->D.nx σ H) :
  ∃ W:Nat->Nat->St->Hp->Prop,(∃ m,W 0 m σ H)/\∀ i m σ H,W i m σ H ->
   ((Itc lo c n).stop i H/\D.nx σ H)\/((Itc lo c n).go i H/\∃ N:St->Hp->Prop,(∀ σ' H',N σ' H'->∃ m',m'<m/\W (i+1) m' σ' H')/\∀ x H',(Itc lo c n).yld i H x H'->g x σ H' fun σ2 H2=>tb { D with nx:=N,ct:=N,bk:=D.nx } σ2 H2):=by
 exists fun i m σ H=>m=n - i/\i<=n/\Pv i σ H,⟨n,by simp,Xj _,h0⟩,?_
 rintro i m σ H ⟨rfl,hi,p⟩
 by_cases hlt:i<n
 ·refine .inr ⟨hlt,Pv (i+1),fun σ' H' p'=>⟨n - (i+1),by omega,rfl,hlt,p'⟩,fun x H' y=>?_⟩;obtain ⟨e,y⟩:=y;subst e y;exact hs i σ _ hlt p
 ·have e:i=n:=by omega
  subst e;exact .inl ⟨Xc _,hd σ H p⟩
end
end L2
namespace K6
open PySem L2
theorem Kq:∀ {fs:List Fld} {i:Nat} {p:Fld},fs[i]?=some p->(fl fs)[2*i]?=some p.1/\(fl fs)[2*i+1]?=some p.2
 | q::r,0,p,h=>by simp at h; subst h; exact ⟨rfl,rfl⟩
 | q::r,i+1,p,h=>by
  have:=Kq (fs:=r) (i:=i) (p:=p) (by simpa using h)
  rw [show 2*(i+1)=2*i+1+1 by omega];simp only [fl,List.getElem?_cons_succ];exact this
theorem Jf:(PL.map V.str).all jF=true:=by decide
section
variable {P:Program} {w:World} {K:Frag} {mg:Str->Option Value} {base:Heap} {f g:Addr} {fd gd:FuncData}
abbrev BM:List Str:=["words", "told", "place", "kind"]
theorem gu:aA BM ["words"] (defScope jI):=ZU 0
inductive Fk (vs:List V) (H:Hp) (Q:VK) (bu:XK):Prop
 | mk (l) (fs:List Fld):(vs=[.ref l])->(H l=some (.lst ((fl fs).map V.str)))->((∀ p∈fs,p.1∈bg/\(p.2∈PL\/p.2∈bg)))->(fs.length<=100)->(∀ y H',av H H'->bK H' y fs->Q y H')->Fk  vs H Q bu
theorem O7 (T:G0 mg) (TN:GN K mg) (F:Zc "pairs_of" jI) (cU:Za 1 "word_at" ["words", "place"] zt) (fO:Za 1 "is_name" ["thing"] qg):Zb 2 ["words"] Fk:=by
 obtain ⟨aP,mP,sP⟩:=TN.pk;refine ZR F gu
 ·obtain ⟨l,fs,rfl,_⟩:=h
  rfl
 obtain ⟨l,fs,rfl,hl,hfs,Ql,q⟩:=h;have lf:=fZ fs;exists _,(Z2 (ZA 1 gu.nd (ZD aq)) (Z2 (ZM (zV rfl T.range (Z1 af (Z1 (ZI (Z0 (pv 0))) (Z0 af)))) (ZO 2 gu.nd) (Z2 (ZA 3 gu.nd (Z6 cU (Z1 (pv 0) (Z0 (ZE cN (pv 2) af))))) (Z2 (ZB (PW.pt (cK (dI (di (Z6 fO (Z0 (Z5 aD (pv 0) (pv 2)))))) (cm (dI (PW.pt (cK (Z9 bz (pv 3) (cg (v:=.ref aP) rfl mP rfl)) (cm (di (Z6 fO (Z0 (pv 3))))))))))) (Z3 (Z7 bB))) (Z3 (ZL (ZG (pv 1) (Z0 (ZF (Z1 (Z5 aD (pv 0) (pv 2)) (Z0 (pv 3))))))))))) (Z3 (Z7 (ZK aH T.tuple bU (Z0 (pv 1))))))),?_;show let v1:L2.TS:=_; let v2:L2.TS:=_; let v3:=am _ v2; let v4:=am _ v3; let v5:=am (gW _ _ v4) v1; (am _ v5) _ _ _;intro v1 v2 v3 v4 v5;exists zl0,fun t ht=>?_
 have s1:=ad ht (.lst []);exists _,rfl,l,_,rfl,.inl (SqL.of (s1 _ _ hl)),(fl fs).length,by rw [W8],by omega,?_
 rw [show ((fl fs).length+1) / 2=fs.length by omega];refine yC (fun i σ H'=>∃ m2 m3 ys,σ=[some (.ref l),some (.ref t),m2,m3]/\av H H'/\H' t=some (.lst ys)/\Paired (b8 H') ys (fs.take i)) ⟨none,none,[],rfl,s1,ac,.nil⟩ (fun i σ H' hi p'=>?_) (fun σ H' p'=>?_)
 ·obtain ⟨m2,m3,ys,rfl,G,hT,py⟩:=p';obtain ⟨p,hp⟩:∃ p,fs[i]?=some p:=⟨_,XA hi⟩;obtain ⟨a1,a2⟩:=Kq hp;obtain ⟨n1,n2⟩:=hfs p (Xh hp);have ly:=Paired.length py;rw [XO] at ly;have e0:(0:Int)+(i:Int)*2=((2*i:Nat):Int):=by omega
  rw [e0];exists _,rfl,_,rfl,_,_,rfl,rfl,l,fl fs,2*i+1,by simp,G _ _ hl,?_
  rw [show (fl fs)[2*i+1]?.getD ""=p.2 by rw [a2]; rfl];have ai:atI ((fl fs).map V.str) ((2*i:Nat):Int)=some (.str p.1):=eO (j:=2*i) (by rw [XE,a1]; rfl);exists _,rfl,_,rfl,l,_,_,_,rfl,rfl,SqL.of (G _ _ hl),ai,p.1,rfl,n1,fun H2 g2=>⟨_,rfl,fI ?_⟩
  have G2:=G.trans g2;exists _,rfl,aP,_,rfl,.inr (sP _),rfl,Jf,_,rfl,?_;refine au (fun c=>?_) (fun c=>?_)
  ·refine fI ?_;have gg:=g2;exists _,rfl,.inl ⟨rfl,_,SqL.of (gg _ _ hT)⟩,_,rfl,_,rfl,l,_,_,_,rfl,rfl,SqL.of (gg _ _ (G _ _ hl)),ai,_,rfl,zl2,fun a ha=>?_
   have s5:=ad ha (.tup [.str p.1,.str p.2]);have Kb:=s5 _ _ (gg _ _ hT);exists t,_,_,rfl,rfl,Kb,ap (by omega),?_;have k6:=aW Kb (.lst (ys++[.ref a]));exists _,_,ys++[.ref a],rfl,az ht ((G.trans gg).trans s5),ac,?_;rw [Xn,hp];exact fj (Paired.mapP py fun _ _ z=>b8.mono ((ao (gg.trans s5)).trans k6) z) (.cons ⟨a,rfl,k6 _ _ ac⟩ .nil)
  ·have n3:p.2∈bg:=n2.resolve_left fun h=>c (by rw [show inV (.str p.2) (PL.map V.str)=decide (p.2∈PL) from kc]; exact decide_eq_true h)
   exists _,rfl,p.2,rfl,n3,fun H3 g3=>⟨_,rfl,fI ?_⟩
   have gg:=(g2.trans g3);exists _,rfl,.inl ⟨rfl,_,SqL.of (gg _ _ hT)⟩,_,rfl,_,rfl,l,_,_,_,rfl,rfl,SqL.of (gg _ _ (G _ _ hl)),ai,_,rfl,zl2,fun a ha=>?_
   have s5:=ad ha (.tup [.str p.1,.str p.2]);have Kb:=s5 _ _ (gg _ _ hT);exists t,_,_,rfl,rfl,Kb,ap (by omega),?_;have k6:=aW Kb (.lst (ys++[.ref a]));exists _,_,ys++[.ref a],rfl,az ht ((G.trans gg).trans s5),ac,?_;rw [Xn,hp];exact fj (Paired.mapP py fun _ _ z=>b8.mono ((ao (gg.trans s5)).trans k6) z) (.cons ⟨a,rfl,k6 _ _ ac⟩ .nil)
 ·obtain ⟨m2,m3,ys,rfl,G,hT,py⟩:=p';rw [Xo] at py;exists _,rfl,t,ys,rfl,.inl ⟨SqL.of hT,fun tp htp=>?_⟩;have s2:=ad htp (.tup ys);exact q _ _ (G.trans s2) ⟨tp,ys,rfl,ac,Paired.mapP py fun _ _ z=>b8.mono (ao s2) z⟩
end
open PySem L2
inductive Out where
 | no | if1 (cc:C) | if2 (cc:C) (A:List S) | wh (cc:C)
noncomputable def Out.close:Out->List S->S
 | .if2 cc A,B=>.if_ cc A B
 | .wh cc,B=>.while_ cc B
 | .if1 cc,B=>.while_ cc B
 | .no,B=>.give (.num 0)
noncomputable def Out.closes:Out->Prop
 | .if2 _ _=>True
 | .wh _=>True
 | _=>False
structure RSt where
 recs:List Rec
 funs:List cB
 head:Option (List Fld)
 vars:List Fld
 bods:List (Out×List S)
inductive Row where
 | rc (r:Rec) | fn (ps:List Fld) | lo (p:Fld) | els | en | st (x:S)
noncomputable def Row.ws:Row->List Str
 | .rc r=>([("record":Str),r.1]:List Str)++fl r.2
 | .fn ps=>[("function":Str)]++fl ps
 | .lo p=>[("local":Str)]++fl [p]
 | .els=>[("else":Str)]
 | .en=>[("end":Str)]
 | .st x=>hW x
noncomputable def S.opens:S->Option Out
 | .if_ cc _ _=>some (.if1 cc)
 | .while_ cc _=>some (.wh cc)
 | _=>none
inductive Stp:RSt->Row->RSt->Prop
 | rc {s:RSt} {r:Rec}:s.head=none->s.funs=[]->Stp s (.rc r) ⟨s.recs++[r],s.funs,s.head,s.vars,s.bods⟩
 | fn {s:RSt} {ps:List Fld}:s.head=none->ps≠[]->Stp s (.fn ps) ⟨s.recs,s.funs,some ps,[],[(.no,[])]⟩
 | lo {s:RSt} {p:Fld} {ps:List Fld}:s.head=some ps->s.bods=[(.no,[])]->Stp s (.lo p) ⟨s.recs,s.funs,s.head,s.vars++[p],s.bods⟩
 | els {s:RSt} {ps:List Fld} {cc:C} {A:List S} {rest:List (Out×List S)}:s.head=some ps->s.bods=(.if1 cc,A)::rest->Stp s .els ⟨s.recs,s.funs,s.head,s.vars,(.if2 cc A,[])::rest⟩
 | enB {s:RSt} {ps:List Fld} {o o2:Out} {B A:List S} {rest:List (Out×List S)}:s.head=some ps->s.bods=(o,B)::(o2,A)::rest->o.closes->Stp s .en ⟨s.recs,s.funs,s.head,s.vars,(o2,A++[o.close B])::rest⟩
 | enF {s:RSt} {nk:Fld} {ps:List Fld} {B:List S}:s.head=some (nk::ps)->s.bods=[(.no,B)]->Stp s .en ⟨s.recs,s.funs++[((nk.1,ps,s.vars,nk.2),B)],none,s.vars,[]⟩
 | st {s:RSt} {ps:List Fld} {o:Out} {A:List S} {rest:List (Out×List S)} {x:S}:s.head=some ps->s.bods=(o,A)::rest->x.opens=none->Stp s (.st x) ⟨s.recs,s.funs,s.head,s.vars,(o,A++[x])::rest⟩
 | op {s:RSt} {ps:List Fld} {b:Out×List S} {rest:List (Out×List S)} {x:S} {o:Out}:s.head=some ps->s.bods=b::rest->x.opens=some o->Stp s (.st x) ⟨s.recs,s.funs,s.head,s.vars,(o,[])::b::rest⟩
inductive iC:RSt->List Row->RSt->Prop
 | nil {s:RSt}:iC s [] s
 | cons {s s1 s2:RSt} {r:Row} {rs:List Row}:Stp s r s1->iC s1 rs s2->iC s (r::rs) s2
theorem iC.app {s s1 s2:RSt} {a b:List Row} (h:iC s a s1) (k:iC s1 b s2):iC s (a++b) s2:=by
 induction h with
 | nil=>exact k
 | cons h _ ih=>exact .cons h (ih k)
mutual
noncomputable def gn:S->List Row
 | .if_ cc a b=>.st (.if_ cc a b)::(fW a++(.els::(fW b++[.en])))
 | .while_ cc a=>.st (.while_ cc a)::(fW a++[.en])
 | .let_ x e=>[.st (.let_ x e)]
 | .say x cc=>[.st (.say x cc)]
 | .call x g es=>[.st (.call x g es)]
 | .give e=>[.st (.give e)]
noncomputable def fW:List S->List Row
 | []=>[]
 | s::r=>gn s++fW r
end
noncomputable def pH (r:Row):Str:=J r.ws
mutual
theorem Mt:∀ s:S,(gn s).map pH=sR s
 | .if_ cc a b=>by
  simp only [gn,sR,Xp,Xb,lg a,lg b,XZ]
  rfl
 | .while_ cc a=>by
  simp only [gn,sR,Xp,Xb,lg a,XZ]
  rfl
 | .let_ x e=>by simp only [gn,sR]; rfl
 | .say x e=>by simp only [gn,sR]; rfl
 | .call x g e=>by simp only [gn,sR]; rfl
 | .give e=>by simp only [gn,sR]; rfl
theorem lg:∀ ss:List S,(fW ss).map pH=sRs ss
 | []=>by simp only [fW,sRs,XZ]
 | s::r=>by simp only [fW,sRs,Xb,Mt s,lg r]
end
mutual
theorem OU:∀ (x:S) (s:RSt) (ps:List Fld) (o:Out) (A:List S) (rest:List (Out×List S)),s.head=some ps->s.bods=(o,A)::rest->iC s (gn x) ⟨s.recs,s.funs,s.head,s.vars,(o,A++[x])::rest⟩
 | .if_ cc a b,s,ps,o,A,rest,hh,hb=>by
  simp only [gn];refine .cons (.op hh hb rfl) ?_;refine (p8 a ⟨s.recs,s.funs,s.head,s.vars,(.if1 cc,[])::(o,A)::rest⟩ ps (.if1 cc) [] ((o,A)::rest) hh rfl).app ?_;refine .cons (.els (cc:=cc) (A:=[]++a) hh rfl) ?_;refine (p8 b ⟨s.recs,s.funs,s.head,s.vars,(.if2 cc ([]++a),[])::(o,A)::rest⟩ ps (.if2 cc ([]++a)) [] ((o,A)::rest) hh rfl).app ?_;exact .cons (.enB (B:=[]++b) hh rfl trivial) .nil
 | .while_ cc a,s,ps,o,A,rest,hh,hb=>by
  simp only [gn];refine .cons (.op hh hb rfl) ?_;refine (p8 a ⟨s.recs,s.funs,s.head,s.vars,(.wh cc,[])::(o,A)::rest⟩ ps (.wh cc) [] ((o,A)::rest) hh rfl).app ?_;exact .cons (.enB (B:=[]++a) hh rfl trivial) .nil
 | .let_ x e,s,ps,o,A,rest,hh,hb=>by simp only [gn]; exact .cons (.st hh hb rfl) .nil
 | .say x e,s,ps,o,A,rest,hh,hb=>by simp only [gn]; exact .cons (.st hh hb rfl) .nil
 | .call x g e,s,ps,o,A,rest,hh,hb=>by simp only [gn]; exact .cons (.st hh hb rfl) .nil
 | .give e,s,ps,o,A,rest,hh,hb=>by simp only [gn]; exact .cons (.st hh hb rfl) .nil
theorem p8:∀ (xs:List S) (s:RSt) (ps:List Fld) (o:Out) (A:List S) (rest:List (Out×List S)),s.head=some ps->s.bods=(o,A)::rest->iC s (fW xs) ⟨s.recs,s.funs,s.head,s.vars,(o,A++xs)::rest⟩
 | [],s,ps,o,A,rest,hh,hb=>by
  simp only [fW,XB];rw [<- hb];exact .nil
 | x::r,s,ps,o,A,rest,hh,hb=>by
  simp only [fW];refine (OU x s ps o A rest hh hb).app ?_
  have:=p8 r ⟨s.recs,s.funs,s.head,s.vars,(o,A++[x])::rest⟩ ps o (A++[x]) rest hh rfl
  rw [Xs] at this;exact this
end
theorem Ip:∀ (l:List Fld) (s:RSt) (ps:List Fld),s.head=some ps->s.bods=[(.no,[])]->iC s (l.map .lo) ⟨s.recs,s.funs,s.head,s.vars++l,s.bods⟩
 | [],s,ps,hh,hb=>by rw [XB]; exact .nil
 | p::r,s,ps,hh,hb=>by
  refine .cons (.lo hh hb) ?_
  have:=Ip r ⟨s.recs,s.funs,s.head,s.vars++[p],s.bods⟩ ps hh hb
  rw [Xs] at this;exact this
noncomputable def kC (F:cB):List Row:=((([Row.fn ((F.1.1,F.1.2.2.2)::F.1.2.1)]++F.1.2.2.1.map .lo)++fW F.2)++[.en])
theorem JY (F:cB):(kC F).map pH=iI F:=by
 simp only [kC,iI,Xb,lg,Yy]
 rfl
theorem rE (F:cB) (s:RSt) (hh:s.head=none):∃ v,iC s (kC F) ⟨s.recs,s.funs++[F],none,v,[]⟩:=by
 exists []++F.1.2.2.1,?_;unfold kC;refine iC.app (iC.app (iC.app (.cons (.fn hh (by simp)) .nil) (Ip F.1.2.2.1 _ _ rfl rfl)) (p8 F.2 _ _ .no [] [] rfl rfl)) (.cons ?_ .nil);exact Stp.enF (s:=⟨s.recs,s.funs,some ((F.1.1,F.1.2.2.2)::F.1.2.1),[]++F.1.2.2.1,[(.no,[]++F.2)]⟩) (nk:=(F.1.1,F.1.2.2.2)) (ps:=F.1.2.1) (B:=[]++F.2) rfl rfl
noncomputable def ix:List cB->List Row
 | []=>[]
 | F::r=>kC F++ix r
theorem xp:∀ l:List cB,(ix l).map pH=cQ l
 | []=>rfl
 | F::r=>by simp only [ix,cQ,Xb,JY,xp r]
theorem Cu:∀ (l:List cB) (s:RSt),s.head=none->∃ v b,iC s (ix l) ⟨s.recs,s.funs++l,none,v,b⟩
 | [],s,hh=>⟨s.vars,s.bods,by rw [XB,<- hh]; exact .nil⟩
 | F::r,s,hh=>by
  obtain ⟨v,h⟩:=rE F s hh;obtain ⟨v2,b2,h2⟩:=Cu r ⟨s.recs,s.funs++[F],none,v,[]⟩ rfl;exists v2,b2,?_
  have:=h.app h2
  rw [Xs] at this;exact this
theorem wW:∀ (l:List Rec) (s:RSt),s.head=none->s.funs=[]->iC s (l.map .rc) ⟨s.recs++l,s.funs,s.head,s.vars,s.bods⟩
 | [],s,hh,hf=>by rw [XB]; exact .nil
 | p::r,s,hh,hf=>by
  refine .cons (.rc hh hf) ?_
  have:=wW r ⟨s.recs++[p],s.funs,s.head,s.vars,s.bods⟩ hh hf
  rw [Xs] at this;exact this
noncomputable def fQ (R:List Rec) (FS:List cB):List Row:=R.map .rc++ix FS
theorem oX (R:List Rec) (FS:List cB):(fQ R FS).map pH=aX R FS:=by
 simp only [fQ,aX,Xb,xp,Yy]
 rfl
theorem L1 (R:List Rec) (FS:List cB):∃ v b,iC ⟨[],[],none,[],[]⟩ (fQ R FS) ⟨R,FS,none,v,b⟩:=by
 obtain ⟨v,b,h⟩:=Cu FS ⟨[]++R,[],none,[],[]⟩ rfl;exists v,b,(wW R ⟨[],[],none,[],[]⟩ rfl rfl).app h
open PySem L2
abbrev mZ (i j:Nat):Stmt:=match top i with | .ClassDef (body:=b) ..=>b.getD j (.Pass ⟨0,0,0,0⟩) | _=>.Pass ⟨0,0,0,0⟩
abbrev yx:Stmt:=mZ 32 0
abbrev yI:Stmt:=mZ 32 1
abbrev gK:Stmt:=mZ 32 2
abbrev fh:Stmt:=mZ 32 3
abbrev ik:Stmt:=mZ 32 4
abbrev iR:Stmt:=mZ 32 5
abbrev jM:Stmt:=mZ 32 6
abbrev eg:Stmt:=mZ 32 7
abbrev lN:Stmt:=mZ 32 8
structure GC (K:Frag) (C:Addr):Prop where
 c:Cls K C
 n:∀ z∈([("records":Str),("functions":Str),("head":Str),("variables":Str),("bodies":Str)]:List Str),jQ K C z
noncomputable def Out.d:Out->PyData
 | .no=>.tuple []
 | .if1 cc=>.tuple [.str "if",cc.d]
 | .if2 cc A=>.tuple [.str "if",cc.d,.tuple (S.ds A)]
 | .wh cc=>.tuple [.str "while",cc.d]
noncomputable def kX (K:Frag) (H:Hp) (v:V) (b:Out×List S) (l:Addr):Prop:=∃ p o ys,v=.ref p/\H p=some (.tup [o,.ref l])/\DT K H o b.1.d/\H l=some (.lst ys)/\DTs K H ys (S.ds b.2)
inductive dC (K:Frag) (H:Hp):List V->List (Out×List S)->List Addr->Prop
 | nil:dC K H [] [] []
 | cons {v:V} {b:Out×List S} {l:Addr} {vs:List V} {bs:List (Out×List S)} {ls:List Addr}:kX K H v b l->dC K H vs bs ls->dC K H (v::vs) (b::bs) (l::ls)
noncomputable def CG (H:Hp) (v:V):Option (List Fld)->Prop
 | none=>v=.non
 | some ps=>bK H v ps
structure RS (K:Frag) (C:Addr) (H0:Hp) (x:Addr) (H:Hp) (st:RSt):Prop where
 ex:∃ dx r fn vl bl hv rs fs vs bs ls,H x=some (.ins C dx [("records",.ref r),("functions",.ref fn),("head",hv),("variables",.ref vl),("bodies",.ref bl)]) /\
  H r=some (.lst rs)/\Paired (ka H) rs st.recs/\H fn=some (.lst fs)/\Paired (lu K H) fs st.funs/\CG H hv st.head/\H vl=some (.lst vs)/\Paired (b8 H) vs st.vars /\
  H bl=some (.lst bs.reverse)/\dC K H bs st.bods ls/\([r,fn,vl,bl]++ls).Nodup/\(∀ a∈x::([r,fn,vl,bl]++ls),H0 a=none)
section
variable {P:Program} {w:World} {K:Frag} {mg:Str->Option Value} {base:Heap} {f g:Addr} {fd gd:FuncData} {C:Addr}
abbrev DH:List Str:=["self"]
theorem A7:aA DH ["self"] (defScope lN):=ZU 0
inductive LT (K:Frag) (C:Addr) (vs:List V) (H:Hp) (Q:VK) (bu:XK):Prop
 | mk (x H0 st):(vs=[.ref x])->(RS K C H0 x H st)->(st.head=none)->(1<=st.funs.length)->(Q (.bl true) H)->LT K C vs H Q bu
theorem NQ (T:G0 mg) (TC:GC K C) (F:Fun K "is_done" "Reading.is_done" lN f fd):Zb 1 ["self"] (LT K C):=by
 have cC:=TC.c;refine ZR F A7
 ·obtain ⟨x,H0,st,rfl,_⟩:=h
  rfl
 obtain ⟨x,H0,st,rfl,⟨dx,r,fn,vl,bl,hv,rs,fs,vs,bs,ls,hx,M9,pr,hf,pf,hh,_⟩,h1,h2,q⟩:=h;rw [h1] at hh;obtain rfl:hv=.non:=hh;have lf:=Paired.length pf;exists _,(Z3 (Z7 (wc (@gw _ _ _ _ _ _ _ _ f9 (ZN (pv 0)) bB (cZ _)) (wb (@gw _ _ _ _ _ _ _ _ f7 (ZI (Z0 (ZN (pv 0)))) af (cZ _)))))),?_;exists _,rfl,x,C,dx,_,_,rfl,hx,cC,TC.n "head" (),rfl,rfl,_,rfl,dO ?_;exists _,rfl,x,C,dx,_,_,rfl,hx,cC,TC.n "functions" (),rfl,fn,_,rfl,.inl (SqL.of hf),_,_,rfl,rfl,?_;show Q (.bl (decide ((0:Int)<(fs.length:Int)))) H;rw [show decide ((0:Int)<(fs.length:Int))=true from decide_eq_true (by omega)];exact q
end
open PySem L2
theorem ul {Hc:Hp} {x p:Addr} {o o' n:HO} (hx:Hc x=some o) (hp:Hc p=none):x≠p/\(upd (upd Hc p n) x o') p=some n/\∀ b u,b≠x->Hc b=some u->(upd (upd Hc p n) x o') b=some u:=by
 have hne:x≠p:=fun z=>by rw [z,hp] at hx; cases hx
 exists hne,by rw [aj hne.symm]; exact ac,fun b u hb hu=>?_
 rw [aj hb,aj (fun z=>by rw [z,hp] at hu; cases hu)];exact hu
section
variable {P:Program} {w:World} {K:Frag} {mg:Str->Option Value} {base:Heap} {f g:Addr} {fd gd:FuncData} {C:Addr}
abbrev Lz:List Str:=["self"]
theorem JU:aA Lz ["self"] (defScope yx):=ZU 0
inductive Fq (K:Frag) (C:Addr) (vs:List V) (H:Hp) (Q:VK) (bu:XK):Prop
 | mk (x dx H0):(vs=[.ref x])->(H x=some (.ins C dx []))->(av H0 H)->(H0 x=none)->(∀ H',av H0 H'->RS K C H0 x H' ⟨[],[],none,[],[]⟩->Q .non H')->Fq K C vs H Q bu
theorem Jk (TC:GC K C) (F:Fun K "__init__" "Reading.__init__" yx f fd):Zb 1 ["self"] (Fq K C):=by
 have cC:=TC.c;refine ZR F JU
 ·obtain ⟨x,dx,H0,rfl,_⟩:=h
  rfl
 obtain ⟨x,dx,H0,rfl,hx,G,Sn,q⟩:=h;have xn:∀ {H1:Hp} {p:Addr} {o:HO},H1 x=some o->H1 p=none->x≠p:=fun h1 h2 z=>by rw [z,h2] at h1; cases h1
 exists _,(Z2 (ij (pv 0) (ZD aq) (bO rfl)) (Z2 (ij (pv 0) (ZD aq) (bO rfl)) (Z2 (ij (pv 0) bB (bO rfl)) (Z2 (ij (pv 0) (ZD aq) (bO rfl)) (Z3 (ij (pv 0) (ZD aq) (bO rfl))))))),?_;show let v1:=am _ _; let v2:=am _ v1; let v3:=am _ v2; (am _ v3) _ _ _;intro v1 v2 v3;have Nj:∀ {b u},H0 b=some u->b≠x:=fun hb z=>by rw [z,Sn] at hb; cases hb
 exists zl0,fun r jA=>?_
 obtain ⟨xr,M9,k1⟩:=ul (o':=.ins C dx [("records",.ref r)]) (n:=.lst []) hx jA;exists _,rfl,x,C,dx,_,rfl,by rw [aj xr]; exact hx,cC,TC.n "records" (),by simp,?_
 have G1:av H0 (upd (upd H r (.lst [])) x (.ins C dx [("records",.ref r)])):=fun b u hb=>k1 b u (Nj hb) (G b u hb)
 have nJ:(upd (upd H r (.lst [])) x (.ins C dx [("records",.ref r)])) x=some (.ins C dx [("records",.ref r)]):=ac;have f1:=G.free jA;change am _ _ _ _ (upd (upd H r (.lst [])) x (.ins C dx [("records",.ref r)]));generalize (upd (upd H r (.lst [])) x (.ins C dx [("records",.ref r)]))=H1 at M9 G1 nJ;exists zl0,fun fn QK=>?_
 obtain ⟨xf,S0,k2⟩:=ul (o':=.ins C dx [("records",.ref r),("functions",.ref fn)]) (n:=.lst []) nJ QK;exists _,rfl,x,C,dx,_,rfl,by rw [aj xf]; exact nJ,cC,TC.n "functions" (),by simp,?_
 have G2:av H0 (upd (upd H1 fn (.lst [])) x (.ins C dx [("records",.ref r),("functions",.ref fn)])):=fun b u hb=>k2 b u (Nj hb) (G1 b u hb)
 have Pj:(upd (upd H1 fn (.lst [])) x (.ins C dx [("records",.ref r),("functions",.ref fn)])) x=some (.ins C dx [("records",.ref r),("functions",.ref fn)]):=ac;have EA:=k2 r _ xr.symm M9;have f2:=G1.free QK;have Vu:r≠fn:=fun z=>by rw [<- z,M9] at QK; cases QK
 change am _ _ _ _ (upd (upd H1 fn (.lst [])) x (.ins C dx [("records",.ref r),("functions",.ref fn)]));generalize (upd (upd H1 fn (.lst [])) x (.ins C dx [("records",.ref r),("functions",.ref fn)]))=H2 at S0 G2 Pj EA;exists _,rfl,x,C,dx,_,rfl,Pj,cC,TC.n "head" (),by simp,?_
 have IQ:(upd H2 x (.ins C dx [("records",.ref r),("functions",.ref fn),("head",.non)])) x=some (.ins C dx [("records",.ref r),("functions",.ref fn),("head",.non)]):=ac;have G3:av H0 (upd H2 x (.ins C dx [("records",.ref r),("functions",.ref fn),("head",.non)])):=az Sn G2;have Ev:(upd H2 x (.ins C dx [("records",.ref r),("functions",.ref fn),("head",.non)])) r=some (.lst []):=by rw [aj xr.symm]; exact EA
 have RJ:(upd H2 x (.ins C dx [("records",.ref r),("functions",.ref fn),("head",.non)])) fn=some (.lst []):=by rw [aj xf.symm]; exact S0
 change am _ _ _ _ (upd H2 x (.ins C dx [("records",.ref r),("functions",.ref fn),("head",.non)]));generalize (upd H2 x (.ins C dx [("records",.ref r),("functions",.ref fn),("head",.non)]))=H3 at IQ G3 Ev RJ;exists zl0,fun vl Nr=>?_
 obtain ⟨xv,Sy,k4⟩:=ul (o':=.ins C dx [("records",.ref r),("functions",.ref fn),("head",.non),("variables",.ref vl)]) (n:=.lst []) IQ Nr;exists _,rfl,x,C,dx,_,rfl,by rw [aj xv]; exact IQ,cC,TC.n "variables" (),by simp,?_
 have G4:av H0 (upd (upd H3 vl (.lst [])) x (.ins C dx [("records",.ref r),("functions",.ref fn),("head",.non),("variables",.ref vl)])):=fun b u hb=>k4 b u (Nj hb) (G3 b u hb)
 have Kc:(upd (upd H3 vl (.lst [])) x (.ins C dx [("records",.ref r),("functions",.ref fn),("head",.non),("variables",.ref vl)])) x=some (.ins C dx [("records",.ref r),("functions",.ref fn),("head",.non),("variables",.ref vl)]):=ac;have MY:=k4 r _ xr.symm Ev;have Tu:=k4 fn _ xf.symm RJ;have f3:=G3.free Nr;have RP:r≠vl:=fun z=>by rw [<- z,Ev] at Nr; cases Nr
 have Rw:fn≠vl:=fun z=>by rw [<- z,RJ] at Nr; cases Nr
 have key:=True.intro;exists zl0,fun bl IW=>?_
 replace IW:(upd (upd H3 vl (.lst [])) x (.ins C dx [("records",.ref r),("functions",.ref fn),("head",.non),("variables",.ref vl)])) bl=none:=IW;obtain ⟨xb,uT,k5⟩:=ul (o':=.ins C dx [("records",.ref r),("functions",.ref fn),("head",.non),("variables",.ref vl),("bodies",.ref bl)]) (n:=.lst []) Kc IW;exists _,rfl,x,C,dx,_,rfl,by rw [aj xb]; exact Kc,cC,TC.n "bodies" (),by simp,?_
 have G5:av H0 (upd (upd (upd (upd H3 vl (.lst [])) x (.ins C dx [("records",.ref r),("functions",.ref fn),("head",.non),("variables",.ref vl)])) bl (.lst [])) x (.ins C dx [("records",.ref r),("functions",.ref fn),("head",.non),("variables",.ref vl),("bodies",.ref bl)])):=fun b u hb=>k5 b u (Nj hb) (G4 b u hb)
 have Vg:r≠bl:=fun z=>by rw [<- z,MY] at IW; cases IW
 have T5:fn≠bl:=fun z=>by rw [<- z,Tu] at IW; cases IW
 have Vx:vl≠bl:=fun z=>by rw [<- z,Sy] at IW; cases IW
 have f4:=G4.free IW;refine q _ G5 ⟨dx,r,fn,vl,bl,.non,[],[],[],[],[],ac,k5 r _ xr.symm MY,.nil,k5 fn _ xf.symm Tu,.nil,rfl,k5 vl _ xv.symm Sy,.nil,uT,.nil,by simp [Vu,RP,Vg,Rw,T5,Vx],fun a ha=>?_⟩;simp only [XB,Xa,Xe,or_false] at ha;rcases ha with rfl | rfl | rfl | rfl | rfl
 ·exact Sn
 ·exact f1
 ·exact f2
 ·exact f3
 ·exact f4
end
open PySem L2
theorem kX.same {K:Frag} {H H':Hp} (g:av H H') {v:V} {b:Out×List S} {l:Addr} (h:kX K H v b l):kX K H' v b l:=by
 obtain ⟨p,o,ys,e,h1,h2,h3,h4⟩:=h;exists p,o,ys,e,g _ _ h1,h2.mono (ao g),g _ _ h3,h4.mono (ao g)
theorem dC.same {K:Frag} {H H':Hp} (g:av H H') {vs:List V} {bs:List (Out×List S)} {ls:List Addr} (h:dC K H vs bs ls):dC K H' vs bs ls:=by
 induction h with
 | nil=>exact .nil
 | cons a _ ih=>exact .cons (a.same g) ih
theorem dC.upd {K:Frag} {H:Hp} {t:Addr} {xs:List V} {o:HO} (ht:H t=some (.lst xs)) {vs:List V} {bs:List (Out×List S)} {ls:List Addr} (h:dC K H vs bs ls) (hn:t∉ls):dC K (L2.upd H t o) vs bs ls:=by
 have k:=aW ht o
 induction h with
 | nil=>exact .nil
 | cons a _ ih =>
  obtain ⟨p,oo,ys,e,h1,h2,h3,h4⟩:=a;refine .cons ⟨p,oo,ys,e,k _ _ h1,h2.mono k,?_,h4.mono k⟩ (ih fun z=>hn (Xg _ z));rw [aj fun z=>hn (by rw [z]; exact Xl)];exact h3
theorem CG.mono {H H':Hp} (k:Tk H H') {v:V}:∀ {h:Option (List Fld)},CG H v h->CG H' v h
 | none,h=>h
 | some ps,h=>bK.mono k h
theorem RS.same {K:Frag} {C:Addr} {H0 H H':Hp} {x:Addr} {st:RSt} (g:av H H') (h:RS K C H0 x H st):RS K C H0 x H' st:=by
 obtain ⟨dx,r,fn,vl,bl,hv,rs,fs,vs,bs,ls,h1,h2,h3,h4,h5,h6,h7,h8,h9,ww,wM,jv⟩:=h.ex;have k:=ao g;exists dx,r,fn,vl,bl,hv,rs,fs,vs,bs,ls,g _ _ h1,g _ _ h2,Paired.mapP h3 fun _ _ z=>z.mono k,g _ _ h4,Paired.mapP h5 fun _ _ z=>z.mono k,h6.mono k,g _ _ h7,Paired.mapP h8 fun _ _ z=>z.mono k,g _ _ h9,ww.same g,wM,jv
section
variable {P:Program} {w:World} {K:Frag} {mg:Str->Option Value} {base:Heap} {f g:Addr} {fd gd:FuncData} {C:Addr}
abbrev su:List Str:=["self", "words", "fields"]
theorem iW:aA su ["self", "words"] (defScope gK):=ZU 0
inductive LI (K:Frag) (C:Addr) (vs:List V) (H:Hp) (Q:VK) (bu:XK):Prop
 | mk (x H0 st l) (r:Rec):(vs=[.ref x,.ref l])->(RS K C H0 x H st)->(av H0 H)->(H l=some (.lst ((Row.ws (.rc r)).map V.str)))->(st.funs=[])->(r.1∈bg)->((∀ p∈r.2,p.1∈bg/\(p.2∈PL\/p.2∈bg)))->(r.2.length<=100)->(st.recs.length<=100)->(∀ H',av H0 H'->RS K C H0 x H' ⟨st.recs++[r],st.funs,st.head,st.vars,st.bods⟩->Q (.bl true) H')->LI K C vs H Q bu
theorem NW (T:G0 mg) (TC:GC K C) (F:Fun K "take_record" "Reading.take_record" gK f fd) (gl:Za 2 "pairs_of" ["words"] Fk) (cU:Za 1 "word_at" ["words", "place"] zt) (fO:Za 1 "is_name" ["thing"] qg):Zb 3 ["self", "words"] (LI K C):=by
 have cC:=TC.c;refine ZR F iW
 ·obtain ⟨x,H0,st,l,r,rfl,_⟩:=h
  rfl
 obtain ⟨x,H0,st,l,r,rfl,hS,G,hl,hfu,M9,EA,Ev,MY,q⟩:=h;exists _,(Z2 (ZA 2 iW.nd (Z6 gl (Z0 (@bj _ _ _ _ _ _ _ _ _ _ gz (pv 1) (bJ af) cb)))) (Z2 (ZB (PW.pt (cK (Z8 f7 (ZI (Z0 (ZN (pv 0)))) af) (cK (dI (di (Z6 fO (Z0 (Z6 cU (Z1 (pv 1) (Z0 af))))))) (cm (Z8 f9 (pv 2) bB))))) (Z3 (Z7 dj))) (Z2 (ZL (ZG (ZN (pv 0)) (Z0 (ZF (Z1 (Z5 aD (pv 1) af) (Z0 (pv 2))))))) (Z3 (Z7 dj))))),?_;show let v1:=am _ _; let v2:=am _ v1; (am _ v2) _ _ _;intro v1 v2;exists _,rfl,2,rfl,l,_,rfl,SqL.of hl,fun l2 ou=>?_
 have ec:io ((Row.ws (.rc r)).map V.str) (some 2) none=(fl r.2).map V.str:=(Ds _ 2).trans rfl;rw [ec];have s1:=ad ou (.lst ((fl r.2).map V.str));exists l2,r.2,rfl,ac,EA,Ev,fun y H2 g2 hy=>?_
 have Ir:av H H2:=s1.trans g2;obtain ⟨dx,rl,fn,vl,bl,hv,rs,fs,vs,bs,ls,h1,h2,h3,h4,h5,h6,h7,h8,h9,ww,wM,jv⟩:=(hS.same Ir).ex;have lf:=Paired.length h5;rw [hfu] at lf;have lr:=Paired.length h3;exists _,rfl,x,C,dx,_,_,rfl,h1,cC,TC.n "functions" (),rfl,fn,_,rfl,.inl (SqL.of h4),_,_,rfl,rfl,_,rfl,?_;refine au (fun c9=>absurd (of_decide_eq_true c9) (by rw [lf]; simp)) (fun c9=>?_);exists _,rfl,l,_,1,rfl,Ir _ _ hl,r.1,rfl,M9,fun H3 g3=>⟨_,rfl,fI ?_⟩
 obtain ⟨fa,fx,rfl,hfa,pfx⟩:=hy;exists _,rfl,rfl,_,rfl,au (fun c9=>absurd c9 (by simp)) (fun c9=>?_);exists _,rfl,x,C,dx,_,_,rfl,g3 _ _ h1,cC,TC.n "records" (),rfl,.inl ⟨rfl,_,SqL.of (g3 _ _ h2)⟩,_,rfl,l,_,_,_,rfl,rfl,SqL.of (g3 _ _ (Ir _ _ hl)),(show atI ((Row.ws (.rc r)).map V.str) 1=some (.str r.1) from at1 _ _ _),_,rfl,zl2,fun a ha=>?_
 have s4:=ad ha (.tup [.str r.1,.ref fa]);have gg:=g3.trans s4;have Qz:=gg _ _ h2;exists rl,_,_,rfl,rfl,Qz,ap (by omega),?_;have k5:=(ao gg).trans (aW Qz (.lst (rs++[.ref a])));have Rq:=jv rl (by simp);have nd:=wM;simp only [Xf,Xz,XH,Xa,not_or] at nd;obtain ⟨⟨n1,n2,n3,n4⟩,WE⟩:=nd;refine q _ (az Rq ((G.trans Ir).trans gg)) ⟨dx,rl,fn,vl,bl,hv,rs++[.ref a],fs,vs,bs,ls,?_,ac,?_,?_,Paired.mapP h5 fun _ _ z=>z.mono k5,h6.mono k5,?_,Paired.mapP h8 fun _ _ z=>z.mono k5,?_,(ww.same gg).upd Qz n4,wM,jv⟩
 ·rw [aj fun z=>by rw [z,h2] at h1; cases h1]; exact gg _ _ h1
 ·exact fj (Paired.mapP h3 fun _ _ z=>z.mono k5) (.cons ⟨a,.ref fa,rfl,aW Qz _ _ _ ac,fa,fx,rfl,k5 _ _ hfa,Paired.mapP pfx fun _ _ z=>z.mono k5⟩ .nil)
 ·rw [aj fun z=>n1 z.symm]; exact gg _ _ h4
 ·rw [aj fun z=>n2 z.symm]; exact gg _ _ h7
 ·rw [aj fun z=>n3 z.symm]; exact gg _ _ h9
end
open PySem L2
theorem xz {H:Hp} {x:Addr} {C dx:Addr} {fs:List (Str×V)} {o:HO} (hx:H x=some (.ins C dx fs)):(Tk H (upd H x o))/\∀ b xs,H b=some (.lst xs)->(upd H x o) b=some (.lst xs) :=
 ⟨fun b ys e=>by rw [aj fun z=>by rw [z,hx] at e; cases e]; exact e,fun b ys e=>by rw [aj fun z=>by rw [z,hx] at e; cases e]; exact e⟩
section
variable {P:Program} {w:World} {K:Frag} {mg:Str->Option Value} {base:Heap} {f g:Addr} {fd gd:FuncData} {C:Addr}
abbrev oH:List Str:=["self", "words", "pairs"]
theorem hE:aA oH ["self", "words"] (defScope fh):=ZU 0
inductive Mw (K:Frag) (C:Addr) (vs:List V) (H:Hp) (Q:VK) (bu:XK):Prop
 | mk (x H0 st l) (ps:List Fld):(vs=[.ref x,.ref l])->(RS K C H0 x H st)->(av H0 H)->(H l=some (.lst ((Row.ws (.fn ps)).map V.str)))->(ps≠[])->((∀ p∈ps,p.1∈bg/\(p.2∈PL\/p.2∈bg)))->(ps.length<=100)->(∀ H',av H0 H'->RS K C H0 x H' ⟨st.recs,st.funs,some ps,[],[(.no,[])]⟩->Q (.bl true) H')->Mw K C vs H Q bu
theorem Ou (T:G0 mg) (TC:GC K C) (F:Fun K "take_function" "Reading.take_function" fh f fd) (gl:Za 2 "pairs_of" ["words"] Fk):Zb 3 ["self", "words"] (Mw K C):=by
 have cC:=TC.c;refine ZR F hE
 ·obtain ⟨x,H0,st,l,ps,rfl,_⟩:=h
  rfl
 obtain ⟨x,H0,st,l,ps,rfl,hS,G,hl,hne,jG,lD,q⟩:=h;exists _,(Z2 (ZA 2 hE.nd (Z6 gl (Z0 (@bj _ _ _ _ _ _ _ _ _ _ gz (pv 1) (bJ af) cb)))) (Z2 (ZB (PW.pt (cK (Z8 kz (Z5 aD (pv 1) af) ag) (cK (Z8 f9 (pv 2) bB) (cm (Z8 aJ (ZI (Z0 (pv 2))) af))))) (Z3 (Z7 dj))) (Z2 (ij (pv 0) (pv 2) (bO rfl)) (Z2 (ij (pv 0) (ZD aq) (bO rfl)) (Z2 (ij (pv 0) (ZD (Z0 (ZF (Z1 (ZF aq) (Z0 (ZD aq)))))) (bO rfl)) (Z3 (Z7 dj))))))),?_;show let v1:=am _ _; let v2:=am _ v1; let v3:=am _ v2; let v4:=am _ v3; (am _ v4) _ _ _;intro v1 v2 v3 v4;exists _,rfl,1,rfl,l,_,rfl,SqL.of hl,fun l2 ou=>?_
 have ec:io ((Row.ws (.fn ps)).map V.str) (some 1) none=(fl ps).map V.str:=(Ds _ 1).trans rfl;rw [ec];have s1:=ad ou (.lst ((fl ps).map V.str));exists l2,ps,rfl,ac,jG,lD,fun y H2 g2 hy=>?_
 have Ir:av H H2:=s1.trans g2;obtain ⟨dx,rl,fn,vl,bl,hv,rs,fs,vs,bs,ls,h1,h2,h3,h4,h5,h6,h7,h8,h9,ww,wM,jv⟩:=(hS.same Ir).ex;obtain ⟨fa,fx,rfl,hfa,pfx⟩:=hy;have lfx:=Paired.length pfx;have hpos:0<ps.length:=List.length_pos_iff.mpr hne;exists _,rfl,l,_,_,_,rfl,rfl,SqL.of (Ir _ _ hl),(show atI ((Row.ws (.fn ps)).map V.str) 0=some (.str "function") from at0 _ _),rfl,_,rfl,ZP ?_;exists _,rfl,rfl,_,rfl,au (fun c9=>absurd c9 (by simp)) (fun c9=>?_);exists _,rfl,fa,_,rfl,.inr (SqT.of hfa),rfl,_,rfl,au (fun c9=>absurd (V.int.inj (of_decide_eq_true c9)) (by omega)) (fun c9=>?_);have hxa:=jv x (by simp);exists _,rfl,_,rfl,x,C,dx,_,rfl,h1,cC,TC.n "head" (),by simp,?_
 obtain ⟨k3,m3⟩:=xz (o:=.ins C dx [("records",.ref rl),("functions",.ref fn),("head",.ref fa),("variables",.ref vl),("bodies",.ref bl)]) h1;have IQ:(upd H2 x (.ins C dx [("records",.ref rl),("functions",.ref fn),("head",.ref fa),("variables",.ref vl),("bodies",.ref bl)])) x=some (.ins C dx [("records",.ref rl),("functions",.ref fn),("head",.ref fa),("variables",.ref vl),("bodies",.ref bl)]):=ac;have G3:av H0 (upd H2 x (.ins C dx [("records",.ref rl),("functions",.ref fn),("head",.ref fa),("variables",.ref vl),("bodies",.ref bl)])):=az hxa (G.trans Ir);have r3:=m3 _ _ h2;have f3:=m3 _ _ h4;change am _ _ _ _ (upd H2 x (.ins C dx [("records",.ref rl),("functions",.ref fn),("head",.ref fa),("variables",.ref vl),("bodies",.ref bl)]));generalize (upd H2 x (.ins C dx [("records",.ref rl),("functions",.ref fn),("head",.ref fa),("variables",.ref vl),("bodies",.ref bl)]))=H3 at k3 m3 IQ G3 r3 f3;exists zl0,fun v2 Nx=>?_
 obtain ⟨xv,QE,k4⟩:=ul (o':=.ins C dx [("records",.ref rl),("functions",.ref fn),("head",.ref fa),("variables",.ref v2),("bodies",.ref bl)]) (n:=.lst []) IQ Nx;exists _,rfl,x,C,dx,_,rfl,by rw [aj xv]; exact IQ,cC,TC.n "variables" (),by simp,?_
 have Nj:∀ {b u},H0 b=some u->b≠x:=fun hb z=>by rw [z,hxa] at hb; cases hb
 have G4:av H0 (upd (upd H3 v2 (.lst [])) x (.ins C dx [("records",.ref rl),("functions",.ref fn),("head",.ref fa),("variables",.ref v2),("bodies",.ref bl)])):=fun b u hb=>k4 b u (Nj hb) (G3 b u hb)
 have Kc:(upd (upd H3 v2 (.lst [])) x (.ins C dx [("records",.ref rl),("functions",.ref fn),("head",.ref fa),("variables",.ref v2),("bodies",.ref bl)])) x=some (.ins C dx [("records",.ref rl),("functions",.ref fn),("head",.ref fa),("variables",.ref v2),("bodies",.ref bl)]):=ac;have xr:rl≠x:=fun z=>by rw [z,IQ] at r3; cases r3
 have xf:fn≠x:=fun z=>by rw [z,IQ] at f3; cases f3
 have r4:=k4 _ _ xr r3;have f4:=k4 _ _ xf f3;have t4:Tk H3 (upd (upd H3 v2 (.lst [])) x (.ins C dx [("records",.ref rl),("functions",.ref fn),("head",.ref fa),("variables",.ref v2),("bodies",.ref bl)])):=fun b ys e=>k4 b _ (fun z=>by rw [z,IQ] at e; cases e) e
 have RP:rl≠v2:=fun z=>by rw [<- z,r3] at Nx; cases Nx
 have Rw:fn≠v2:=fun z=>by rw [<- z,f3] at Nx; cases Nx
 have e3:=G3.free Nx;change am _ _ _ _ (upd (upd H3 v2 (.lst [])) x (.ins C dx [("records",.ref rl),("functions",.ref fn),("head",.ref fa),("variables",.ref v2),("bodies",.ref bl)]));generalize (upd (upd H3 v2 (.lst [])) x (.ins C dx [("records",.ref rl),("functions",.ref fn),("head",.ref fa),("variables",.ref v2),("bodies",.ref bl)]))=H4 at QE k4 G4 Kc r4 f4 t4;exists zl0,fun p1 hZ=>⟨zl0,fun b1 uT=>⟨zl2,fun p2 jG=>⟨zl1,fun b2 uR=>?_⟩⟩⟩
 have q1:=ad hZ (.tup []);have q2:=ad uT (.lst []);have q3:=ad jG (.tup [.ref p1,.ref b1]);have q4:=q1.trans (q2.trans q3);have KZ:=q4 _ _ Kc;obtain ⟨xb,IT,k5⟩:=ul (o':=.ins C dx [("records",.ref rl),("functions",.ref fn),("head",.ref fa),("variables",.ref v2),("bodies",.ref b2)]) (n:=.lst [.ref p2]) KZ uR;exists _,rfl,x,C,dx,_,rfl,by rw [aj xb]; exact KZ,cC,TC.n "bodies" (),by simp,?_
 have t5:Tk H4 (upd (upd (upd (upd (upd H4 p1 (.tup [])) b1 (.lst [])) p2 (.tup [.ref p1,.ref b1])) b2 (.lst [.ref p2])) x (.ins C dx [("records",.ref rl),("functions",.ref fn),("head",.ref fa),("variables",.ref v2),("bodies",.ref b2)])):=fun b ys e=>k5 b _ (fun z=>by rw [z,Kc] at e; cases e) (q4 _ _ e)
 have kA:=(k3.trans t4).trans t5;have e4:=(G4.trans q1).free uT;have e5:=(G4.trans q4).free uR;have b5:(upd (upd (upd H4 p1 (.tup [])) b1 (.lst [])) p2 (.tup [.ref p1,.ref b1])) b1=some (.lst []):=q3 _ _ ac;have U6:b1≠x:=fun z=>by rw [z,q1 _ _ Kc] at uT; cases uT
 have UG:v2≠x:=fun z=>xv z.symm
 have dd:∀ {a:Addr} {u:HO},H4 a=some u->a≠b1:=fun h z=>by rw [z] at h; rw [q1 _ _ h] at uT; cases uT
 have rL:∀ {a:Addr} {u:HO},H4 a=some u->a≠b2:=fun h z=>by rw [z] at h; rw [q4 _ _ h] at uR; cases uR
 have Ul:b2≠b1:=fun z=>by rw [z,b5] at uR; cases uR
 have G5:av H0 (upd (upd (upd (upd (upd H4 p1 (.tup [])) b1 (.lst [])) p2 (.tup [.ref p1,.ref b1])) b2 (.lst [.ref p2])) x (.ins C dx [("records",.ref rl),("functions",.ref fn),("head",.ref fa),("variables",.ref v2),("bodies",.ref b2)])):=fun b u hb=>k5 b u (Nj hb) (q4 _ _ (G4 b u hb))
 refine q _ G5 ⟨dx,rl,fn,v2,b2,.ref fa,rs,fs,[],[.ref p2],[b1],ac,k5 _ _ xr (q4 _ _ r4),Paired.mapP h3 fun _ _ z=>z.mono kA,k5 _ _ xf (q4 _ _ f4),Paired.mapP h5 fun _ _ z=>z.mono kA,⟨fa,fx,rfl,kA _ _ hfa,Paired.mapP pfx fun _ _ z=>z.mono kA⟩,k5 _ _ UG (q4 _ _ QE),.nil,IT,?_,?_,?_⟩
 ·have Pn:=q3 _ _ (q2 _ _ (aM hZ (.tup [])));refine .cons ⟨p2,.ref p1,[],rfl,k5 _ _ (fun z=>by rw [z] at jG; rw [(q1.trans q2) _ _ Kc] at jG; cases jG) ac,.tup (.inl (k5 _ _ (fun z=>by rw [z,Kc] at hZ; cases hZ) Pn)) .nil,k5 _ _ U6 b5,.nil⟩ .nil
 ·simp only [Xf,Xz,XH,Xa,Xe,or_false,not_or,aaL,and_true,not_false_eq_true];exists ⟨fun z=>(wM |> fun n=>by simp only [Xf,Xz,XH,Xa,not_or] at n; exact n.1.1 z),RP,rL r4,dd r4⟩,⟨Rw,rL f4,dd f4⟩,⟨rL QE,dd QE⟩,Ul
 ·intro a ha;simp only [Xf,Xz,Xa,Xe,or_false] at ha;rcases ha with rfl | rfl | rfl | rfl | rfl | rfl
  ·exact hxa
  ·exact jv _ (by simp)
  ·exact jv _ (by simp)
  ·exact e3
  ·exact e5
  ·exact e4
abbrev vw:List Str:=["self", "words", "pairs"]
theorem jC:aA vw ["self", "words"] (defScope ik):=ZU 0
inductive Ls (K:Frag) (C:Addr) (vs:List V) (H:Hp) (Q:VK) (bu:XK):Prop
 | mk (x H0 st l) (p:Fld):(vs=[.ref x,.ref l])->(RS K C H0 x H st)->(av H0 H)->(H l=some (.lst ((Row.ws (.lo p)).map V.str)))->(st.bods=[(.no,[])])->((p.1∈bg/\(p.2∈PL\/p.2∈bg)))->(st.vars.length<=100)->(∀ H',av H0 H'->RS K C H0 x H' ⟨st.recs,st.funs,st.head,st.vars++[p],st.bods⟩->Q (.bl true) H')->Ls K C vs H Q bu
theorem OM (T:G0 mg) (TC:GC K C) (F:Fun K "take_local" "Reading.take_local" ik f fd) (gl:Za 2 "pairs_of" ["words"] Fk):Zb 3 ["self", "words"] (Ls K C):=by
 have cC:=TC.c;refine ZR F jC
 ·obtain ⟨x,H0,st,l,p,rfl,_⟩:=h
  rfl
 obtain ⟨x,H0,st,l,p,rfl,hS,G,hl,hbo,jG,lD,q⟩:=h;exists _,(Z2 (ZA 2 jC.nd (Z6 gl (Z0 (@bj _ _ _ _ _ _ _ _ _ _ gz (pv 1) (bJ af) cb)))) (Z2 (ZB (PW.pt (cK (Z8 f7 (ZI (Z0 (ZN (pv 0)))) af) (cK (Z8 f7 (ZI (Z0 (Z4 (Z5 aD (ZN (pv 0)) af)))) af) (cK (Z8 f9 (pv 2) bB) (cm (Z8 kz (ZI (Z0 (pv 2))) af)))))) (Z3 (Z7 dj))) (Z2 (ZL (ZG (ZN (pv 0)) (Z0 (Z4 (pv 2))))) (Z3 (Z7 dj))))),?_;show let v1:=am _ _; let v2:=am _ v1; (am _ v2) _ _ _;intro v1 v2;exists _,rfl,1,rfl,l,_,rfl,SqL.of hl,fun l2 ou=>?_
 have ec:io ((Row.ws (.lo p)).map V.str) (some 1) none=(fl [p]).map V.str:=(Ds _ 1).trans rfl;rw [ec];have s1:=ad ou (.lst ((fl [p]).map V.str));exists l2,[p],rfl,ac,(fun p' Lc=>by rw [Xi.mp Lc]; exact jG),by simp,fun y H2 g2 hy=>?_
 have Ir:av H H2:=s1.trans g2;obtain ⟨dx,rl,fn,vl,bl,hv,rs,fs,vs,bs,ls,h1,h2,h3,h4,h5,h6,h7,h8,h9,ww,wM,jv⟩:=(hS.same Ir).ex;obtain ⟨fa,fx,rfl,hfa,pfx⟩:=hy;obtain ⟨fv,rfl,hfv⟩:∃ fv,fx=[fv]/\b8 H2 fv p:=by
  cases pfx with
  | cons a r=>cases r; exact ⟨_,rfl,a⟩
 have IJ:=ww;rw [hbo] at IJ;obtain ⟨vb,lb,rfl,rfl,hvb⟩:∃ vb lb,bs=[vb]/\ls=[lb]/\kX K H2 vb (.no,[]) lb:=by
  cases IJ with
  | cons a r=>cases r; exact ⟨_,_,rfl,rfl,a⟩
 obtain ⟨pb,ob,ys,rfl,hpb,_,hlb,dyb⟩:=hvb;obtain rfl:ys=[]:=by simp only [S.ds] at dyb; cases dyb; rfl
 have fld:=fun (z:Str) hz=>TC.n z hz
 exists _,rfl,x,C,dx,_,_,rfl,h1,cC,TC.n "bodies" (),rfl,bl,_,rfl,.inl (SqL.of h9),_,_,rfl,rfl,_,rfl,au (fun c9=>absurd c9 (by simp)) (fun c9=>?_);exists _,rfl,x,C,dx,_,_,rfl,h1,cC,TC.n "bodies" (),rfl,bl,_,_,_,rfl,rfl,SqL.of h9,rfl,pb,_,_,_,rfl,rfl,SqT.of hpb,at1 _ _ _,lb,_,rfl,.inl (SqL.of hlb),_,_,rfl,rfl,_,rfl,au (fun c9=>absurd c9 (by simp)) (fun c9=>?_);exists _,rfl,rfl,_,rfl,au (fun c9=>absurd c9 (by simp)) (fun c9=>?_);exists _,rfl,fa,_,rfl,.inr (SqT.of hfa),rfl,_,rfl,au (fun c9=>absurd c9 (by simp)) (fun c9=>?_);have lv:=Paired.length h8;exists _,rfl,x,C,dx,_,_,rfl,h1,cC,TC.n "variables" (),rfl,.inl ⟨rfl,_,SqL.of h7⟩,_,rfl,fa,_,_,_,rfl,rfl,SqT.of hfa,at0 _ _,vl,_,_,rfl,rfl,h7,ap (by omega),?_;have k5:=aW h7 (.lst (vs++[fv]));have Rq:=jv vl (by simp);have nd:=wM;simp only [Xf,Xz,XH,Xa,Xe,or_false,not_or] at nd;obtain ⟨⟨n1,n2,n3,n4⟩,⟨n5,n6,n7⟩,⟨n8,n9⟩,Kj⟩:=nd;refine q _ (az Rq (G.trans Ir)) ⟨dx,rl,fn,vl,bl,hv,rs,fs,vs++[fv],[.ref pb],[lb],?_,?_,Paired.mapP h3 fun _ _ z=>z.mono k5,?_,Paired.mapP h5 fun _ _ z=>z.mono k5,h6.mono k5,ac,fj (Paired.mapP h8 fun _ _ z=>z.mono k5) (.cons (hfv.mono k5) .nil),?_,ww.upd h7 (by simpa using n9),wM,jv⟩
 ·rw [aj fun z=>by rw [z,h7] at h1; cases h1]; exact h1
 ·rw [aj n2]; exact h2
 ·rw [aj n5]; exact h4
 ·rw [aj fun z=>n8 z.symm]; exact h9
end
open PySem L2
theorem vH {α:Type} (xs:List α) (x:α):atI (xs++[x]) (-1)=some x:=by
 unfold atI ixN;rw [if_neg (by omega),W7,Xu,if_pos (by omega),show (-1+((xs.length+1:Nat):Int)).toNat=xs.length by omega];simp
theorem Jm {K:Frag} {H:Hp} {u:V} {s:S} (h:DT K H u (Nd.hd (.s s))):∃ a z rs,u=.ref a/\H a=some (.tup (.str z::rs))/\((∃ o,s.opens=some o/\o.d=Nd.hd (.s s)/\inV (.str z) [.str "if",.str "while"]=true)\/(s.opens=none/\Nd.hd (.s s)=s.d/\inV (.str z) [.str "if",.str "while"]=false)):=by
 cases s with
 | if_ c a b =>
  obtain ⟨p,xs,rfl,hp,d0⟩:=DT.open (ds:=[.str "if",c.d]) h;obtain ⟨x0,r0,rfl,h0,_⟩:=d0.open;obtain rfl:=h0.str_inv;exists p,_,_,rfl,hp,.inl ⟨.if1 c,rfl,rfl,()⟩
 | while_ c a =>
  obtain ⟨p,xs,rfl,hp,d0⟩:=DT.open (ds:=[.str "while",c.d]) h;obtain ⟨x0,r0,rfl,h0,_⟩:=d0.open;obtain rfl:=h0.str_inv;exists p,_,_,rfl,hp,.inl ⟨.wh c,rfl,rfl,()⟩
 | let_ y1 y2 =>
  obtain ⟨p,xs,rfl,hp,d0⟩:=DT.open (ds:=[.str "let",.str y1,y2.d]) h;obtain ⟨x0,r0,rfl,h0,_⟩:=d0.open;obtain rfl:=h0.str_inv;exists p,_,_,rfl,hp,.inr ⟨rfl,rfl,()⟩
 | say y1 y2 =>
  obtain ⟨p,xs,rfl,hp,d0⟩:=DT.open (ds:=[.str "say",.str y1,y2.d]) h;obtain ⟨x0,r0,rfl,h0,_⟩:=d0.open;obtain rfl:=h0.str_inv;exists p,_,_,rfl,hp,.inr ⟨rfl,rfl,()⟩
 | call y1 y2 y3 =>
  obtain ⟨p,xs,rfl,hp,d0⟩:=DT.open (ds:=[.str "call",.str y1,.str y2,.tuple (E.ds y3)]) h;obtain ⟨x0,r0,rfl,h0,_⟩:=d0.open;obtain rfl:=h0.str_inv;exists p,_,_,rfl,hp,.inr ⟨rfl,rfl,()⟩
 | give y1 =>
  obtain ⟨p,xs,rfl,hp,d0⟩:=DT.open (ds:=[.str "give",y1.d]) h;obtain ⟨x0,r0,rfl,h0,_⟩:=d0.open;obtain rfl:=h0.str_inv;exists p,_,_,rfl,hp,.inr ⟨rfl,rfl,()⟩
theorem qZ {K:Frag} {H:Hp} {vs:List V} {bs:List (Out×List S)} {ls:List Addr} (h:dC K H vs bs ls):vs.length=bs.length:=by
 induction h with
 | nil=>rfl
 | cons _ _ ih=>rw [W9,W9,ih]
theorem pi {K:Frag} {H:Hp} {vs:List V} {bs:List (Out×List S)} {ls:List Addr} (h:dC K H vs bs ls):∀ c∈ls,∃ ys,H c=some (.lst ys):=by
 induction h with
 | nil=>exact fun c hc=>nomatch hc
 | cons a _ ih =>
  intro c hc;rcases Xa.mp hc with rfl | hc
  ·obtain ⟨_,_,ys,_,_,_,h3,_⟩:=a; exact ⟨ys,h3⟩
  ·exact ih c hc
theorem ds_app:∀ a b:List S,S.ds (a++b)=S.ds a++S.ds b
 | [],b=>by simp only [Xz,S.ds]
 | s::r,b=>by simp only [Xf,S.ds,ds_app r b]
section
variable {P:Program} {w:World} {K:Frag} {mg:Str->Option Value} {base:Heap} {f g:Addr} {fd gd:FuncData} {C:Addr}
abbrev lM:List Str:=["self", "words", "statement"]
theorem gr:aA lM ["self", "words"] (defScope eg):=ZU 0
inductive HL (K:Frag) (C:Addr) (vs:List V) (H:Hp) (Q:VK) (bu:XK):Prop
 | mk (x H0 st l) (s:S) (o A rest):(vs=[.ref x,.ref l])->(RS K C H0 x H st)->(av H0 H)->(H l=some (.lst ((Row.ws (.st s)).map V.str)))->(WfS s)->((hW s).length<=1000000)->(st.bods=(o,A)::rest)->(A.length<=100)->(rest.length<=100)->(∀ H',av H0 H'->(∀ o',s.opens=some o'->RS K C H0 x H' ⟨st.recs,st.funs,st.head,st.vars,(o',[])::st.bods⟩)->(s.opens=none->RS K C H0 x H' ⟨st.recs,st.funs,st.head,st.vars,(o,A++[s])::rest⟩)->Q (.bl true) H')->HL K C vs H Q bu
theorem Oj (TC:GC K C) (F:Fun K "take_statement" "Reading.take_statement" eg f fd) (rH:Za 5 "statement_of" ["words"] (FK K)):Zb 6 ["self", "words"] (HL K C):=by
 have cC:=TC.c;refine ZR F gr
 ·obtain ⟨x,H0,st,l,s,o,A,rest,rfl,_⟩:=h
  rfl
 obtain ⟨x,H0,st,l,sx,o,A',rest,rfl,hS,G,hl,hwf,hN,hbo,hA,hR,q⟩:=h;exists _,(Z2 (ZA 2 gr.nd (Z6 rH (Z0 (pv 1)))) (Z2 (ZB (Z8 f9 (pv 2) bB) (Z3 (Z7 dj))) (Z2 (ZC (Z9 bz (Z4 (pv 2)) (ZF (Z1 ag (Z0 ag)))) (Z3 (ZL (ZG (ZN (pv 0)) (Z0 (ZF (Z1 (pv 2) (Z0 (ZD aq)))))))) (Z3 (ZL (ZG (Z4 (Z5 aD (ZN (pv 0)) (@gh _ _ _ _ _ _ dH af))) (Z0 (pv 2)))))) (Z3 (Z7 dj))))),?_;show let v1:L2.TS:=_; let v2:L2.TS:=_; let v3:=am (bf _ v1 v2) _; let v4:=am _ v3; (am _ v4) _ _ _;intro v1 v2 v3 v4;exists _,rfl,l,sx,rfl,hl,hwf,hN,fun u H2 g2 du=>?_
 obtain ⟨dx,rl,fn,vl,bl,hv,rs,fs,vs,bs,ls,h1,h2,h3,h4,h5,h6,h7,h8,h9,ww,wM,jv⟩:=(hS.same g2).ex;obtain ⟨a,z,Wr,rfl,ha,hcase⟩:=Jm du;have IJ:=ww;rw [hbo] at IJ;obtain ⟨vb,gT,lb,yg,rfl,rfl,hvb,hbr⟩:∃ vb gT lb yg,bs=vb::gT/\ls=lb::yg/\kX K H2 vb (o,A') lb/\dC K H2 gT rest yg:=by
  cases IJ with
  | cons a r=>exact ⟨_,_,_,_,rfl,rfl,a,r⟩
 exists _,rfl,rfl,_,rfl,au (fun c9=>absurd c9 (by simp)) (fun c9=>?_);exists _,rfl,a,_,_,_,rfl,rfl,SqT.of ha,at0 _ _,zl2,fun p1 hZ=>⟨p1,_,rfl,.inr (SqT.of ac),rfl,rfl,_,rfl,?_⟩
 have s1:=ad hZ (.tup [.str "if",.str "while"]);rcases hcase with ⟨oo,eo,ed,ein⟩ | ⟨eo,ed,ein⟩
 ·refine au (fun c9=>?_) (fun c9=>absurd ein c9);have lbs:gT.length=rest.length:=qZ hbr;exists _,rfl,x,C,dx,_,_,rfl,s1 _ _ h1,cC,TC.n "bodies" (),rfl,.inl ⟨rfl,_,SqL.of (s1 _ _ h9)⟩,_,rfl,zl0,fun b1 uT=>⟨zl2,fun p2 jG=>?_⟩
  have q2:=ad uT (.lst []);have q3:=ad jG (.tup [.ref a,.ref b1]);have gg:=s1.trans (q2.trans q3);have QA:=gg _ _ h9;exists bl,_,_,rfl,rfl,QA,ap (by simp only [XX,W9]; omega),?_;have fb:=jv bl (by simp);have kk:=(ao gg).trans (aW QA (.lst ((vb::gT).reverse++[.ref p2])));have nd:=wM;simp only [Xf,Xz,XH,Xa,not_or] at nd;obtain ⟨⟨n1,n2,n3,n4,J4⟩,⟨n5,n6,n7,Kk⟩,⟨n8,n9,Kh⟩,⟨Kj,ny⟩,Qc,J8⟩:=nd;have dd:∀ {c:Addr} {w:HO},H2 c=some w->c≠b1:=fun h z=>by rw [z] at h; rw [s1 _ _ h] at uT; cases uT
  have hls:∀ c∈lb::yg,∃ ys,H2 c=some (.lst ys):=pi ww;refine q _ (az fb ((G.trans g2).trans gg)) (fun o' sC=>?_) (fun sC=>by rw [eo] at sC; cases sC);obtain rfl:oo=o':=Option.some.inj (eo.symm.trans sC);exists dx,rl,fn,vl,bl,hv,rs,fs,vs,.ref p2::vb::gT,b1::lb::yg,?_,?_,Paired.mapP h3 fun _ _ z=>z.mono kk,?_,Paired.mapP h5 fun _ _ z=>z.mono kk,h6.mono kk,?_,Paired.mapP h8 fun _ _ z=>z.mono kk,?_,?_,?_,?_
  ·rw [aj fun z=>by rw [z,h9] at h1; cases h1]; exact gg _ _ h1
  ·rw [aj n3]; exact gg _ _ h2
  ·rw [aj n6]; exact gg _ _ h4
  ·rw [aj n8]; exact gg _ _ h7
  ·rw [ac,XY (a:=V.ref p2)]
  ·have hb:b1≠bl:=fun z=>dd h9 z.symm
   refine .cons ⟨p2,.ref a,[],rfl,(aW QA _) _ _ ac,by rw [ed]; exact (du.mono kk),by rw [aj hb]; exact q3 _ _ ac,.nil⟩ ((ww.same gg).upd QA (by simp only [Xa,not_or]; exact ⟨Kj,ny⟩))
  ·simp only [Xf,Xz,XH,Xa,not_or];obtain ⟨yl,hyl⟩:=hls lb Xl;exists ⟨n1,n2,n3,dd h2,n4,J4⟩,⟨n5,n6,dd h4,n7,Kk⟩,⟨n8,dd h7,n9,Kh⟩,⟨dd h9,Kj,ny⟩,⟨fun z=>dd hyl z.symm,fun z=>by obtain ⟨yz,hyz⟩:=hls b1 (Xg _ z); exact dd hyz rfl⟩,Qc,J8
  ·intro c hc;simp only [Xf,Xz,Xa] at hc;rcases hc with rfl | rfl | rfl | rfl | rfl | rfl | hc
   ·exact jv _ (by simp)
   ·exact jv _ (by simp)
   ·exact jv _ (by simp)
   ·exact jv _ (by simp)
   ·exact fb
   ·exact ((G.trans g2).trans s1).free uT
   ·exact jv c (by simp only [Xf,Xz,Xa]; rcases hc with h | h<;>simp [h])
 ·refine au (fun c9=>absurd (c9.symm.trans ein) (by decide)) (fun c9=>?_);obtain ⟨pb,ob,ys,rfl,hpb,dob,hlb,dyb⟩:=hvb;rw [XY] at h9;have ly:ys.length=A'.length:=by
   have h:=dyb.len;rw [xK] at h;exact h
  exists _,rfl,x,C,dx,_,_,rfl,s1 _ _ h1,cC,TC.n "bodies" (),rfl,_,rfl,bl,_,_,_,rfl,rfl,SqL.of (s1 _ _ h9),vH _ _,pb,_,_,_,rfl,rfl,SqT.of (s1 _ _ hpb),at1 _ _ _,.inl ⟨rfl,_,SqL.of (s1 _ _ hlb)⟩,_,rfl,lb,_,_,rfl,rfl,s1 _ _ hlb,ap (by show ys.length<=1000; omega),?_;have T3:=s1 _ _ hlb;have kk:=(ao s1).trans (aW T3 (.lst (ys++[.ref a])));have fb:=jv lb (by simp);have nd:=wM;simp only [Xf,Xz,XH,Xa,not_or] at nd;obtain ⟨⟨n1,n2,n3,n4,J4⟩,⟨n5,n6,n7,Kk⟩,⟨n8,n9,Kh⟩,⟨Kj,ny⟩,Qc,J8⟩:=nd;refine q _ (az fb ((G.trans g2).trans s1)) (fun o' sC=>by rw [eo] at sC; cases sC) (fun _=>?_);exists dx,rl,fn,vl,bl,hv,rs,fs,vs,.ref pb::gT,lb::yg,?_,?_,Paired.mapP h3 fun _ _ z=>z.mono kk,?_,Paired.mapP h5 fun _ _ z=>z.mono kk,h6.mono kk,?_,Paired.mapP h8 fun _ _ z=>z.mono kk,?_,?_,wM,jv
  ·rw [aj fun z=>by rw [z,hlb] at h1; cases h1]; exact s1 _ _ h1
  ·rw [aj n4]; exact s1 _ _ h2
  ·rw [aj n7]; exact s1 _ _ h4
  ·rw [aj n9]; exact s1 _ _ h7
  ·rw [aj Kj,XY]; exact s1 _ _ h9
  ·refine .cons ⟨pb,ob,ys++[.ref a],rfl,kk _ _ hpb,dob.mono kk,ac,?_⟩ ((hbr.same s1).upd T3 Qc);show DTs K _ _ (S.ds (A'++[sx]));rw [ds_app];refine DTs.append (dyb.mono kk) ?_;simp only [S.ds];exact .cons (by rw [<- ed]; exact du.mono kk) .nil
abbrev xt:List Str:=["self", "words", "outer", "first"]
theorem iD:aA xt ["self", "words"] (defScope iR):=ZU 0
inductive LZ (K:Frag) (C:Addr) (vs:List V) (H:Hp) (Q:VK) (bu:XK):Prop
 | mk (x H0 st l cc A rest):(vs=[.ref x,.ref l])->(RS K C H0 x H st)->(av H0 H)->(H l=some (.lst ((Row.ws .els).map V.str)))->(st.bods=(.if1 cc,A)::rest)->(A.length<=100)->(rest.length<=100)->(∀ H',av H0 H'->RS K C H0 x H' ⟨st.recs,st.funs,st.head,st.vars,(.if2 cc A,[])::rest⟩->Q (.bl true) H')->LZ K C vs H Q bu
theorem Pf (T:G0 mg) (TC:GC K C) (F:Fun K "take_else" "Reading.take_else" iR f fd):Zb 1 ["self", "words"] (LZ K C):=by
 have cC:=TC.c;refine ZR F iD
 ·obtain ⟨x,H0,st,l,cc,A,rest,rfl,_⟩:=h
  rfl
 obtain ⟨x,H0,st,l,cc,A',rest,rfl,hS,G,hl,hbo,hA,hR,q⟩:=h;obtain ⟨dx,rl,fn,vl,bl,hv,rs,fs,vs,bs,ls,h1,h2,h3,h4,h5,h6,h7,h8,h9,ww,wM,jv⟩:=hS.ex;rw [hbo] at ww;obtain ⟨vb,gT,lb,yg,rfl,rfl,hvb,hbr⟩:∃ vb gT lb yg,bs=vb::gT/\ls=lb::yg/\kX K H vb (.if1 cc,A') lb/\dC K H gT rest yg:=by
  cases ww with
  | cons a r=>exact ⟨_,_,_,_,rfl,rfl,a,r⟩
 obtain ⟨pb,ob,ys,rfl,hpb,dob,hlb,dyb⟩:=hvb;have M7:DT K H ob (.tuple [.str "if",cc.d]):=dob;obtain ⟨oa,cv,rfl,hoa,hcv⟩:=op1 M7;have ly:ys.length=A'.length:=by
  have h:=dyb.len;rw [xK] at h;exact h
 have lbs:gT.length=rest.length:=qZ hbr;rw [XY] at h9;exists _,(Z2 (ZA 2 iD.nd (Z4 (Z5 aD (ZN (pv 0)) (@gh _ _ _ _ _ _ dH af)))) (Z2 (ZB (PW.pt (cK (Z8 f7 (ZI (Z0 (pv 1))) af) (cK (Z8 kz (ZI (Z0 (pv 2))) af) (cm (Z8 kz (Z4 (pv 2)) ag))))) (Z3 (Z7 dj))) (Z2 (ZA 3 iD.nd (Z4 (jO Xw Yb Yc jV (ZN (pv 0))))) (Z2 (ZL (ZG (ZN (pv 0)) (Z0 (ZF (Z1 (ZE (dF.or cO) (pv 2) (ZF (Z0 (ZK aH T.tuple bU (Z0 (pv 3)))))) (Z0 (ZD aq))))))) (Z3 (Z7 dj)))))),?_;show let v1:=am _ _; let v2:=am _ v1; let v3:=am _ v2; (am _ v3) _ _ _;intro v1 v2 v3;exists _,rfl,x,C,dx,_,_,rfl,h1,cC,TC.n "bodies" (),rfl,_,rfl,bl,_,_,_,rfl,rfl,SqL.of h9,vH _ _,pb,_,_,_,rfl,rfl,SqT.of hpb,at0 _ _,?_;exists _,rfl,l,_,rfl,.inl (SqL.of hl),_,_,rfl,rfl,_,rfl,ZP ?_;exists _,rfl,oa,_,rfl,.inr (SqT.of hoa),rfl,_,rfl,au (fun c9=>absurd c9 (by simp)) (fun c9=>?_);exists _,rfl,oa,_,_,_,rfl,rfl,SqT.of hoa,at0 _ _,rfl,_,rfl,ZP ?_;exists _,rfl,x,C,dx,_,_,rfl,h1,cC,TC.n "bodies" (),rfl,.inl ⟨rfl,_,SqL.of h9⟩,bl,_,.ref pb,rfl,rfl,h9,by simp,?_
 rw [X6];have nd:=wM;simp only [Xf,Xz,XH,Xa,not_or] at nd;obtain ⟨⟨n1,n2,n3,n4,J4⟩,⟨n5,n6,n7,Kk⟩,⟨n8,n9,Kh⟩,⟨Kj,ny⟩,Qc,J8⟩:=nd;have k1:=aW h9 (.lst gT.reverse);have nJ:(upd H bl (.lst gT.reverse)) x=some (.ins C dx [("records",.ref rl),("functions",.ref fn),("head",hv),("variables",.ref vl),("bodies",.ref bl)]):=by rw [aj fun z=>by rw [z,h9] at h1; cases h1]; exact h1
 have jX:(upd H bl (.lst gT.reverse)) lb=some (.lst ys):=by rw [aj fun z=>Kj z.symm]; exact hlb
 have r1:(upd H bl (.lst gT.reverse)) rl=some (.lst rs):=by rw [aj n3]; exact h2
 have f1:(upd H bl (.lst gT.reverse)) fn=some (.lst fs):=by rw [aj n6]; exact h4
 have v1:(upd H bl (.lst gT.reverse)) vl=some (.lst vs):=by rw [aj n8]; exact h7
 have yr:(upd H bl (.lst gT.reverse)) bl=some (.lst gT.reverse):=ac;have sJ:=hbr.upd (o:=.lst gT.reverse) h9 ny;have fb:=jv bl (by simp);have G1:av H0 (upd H bl (.lst gT.reverse)):=az fb G;generalize (upd H bl (.lst gT.reverse))=H1 at k1 nJ jX r1 f1 v1 yr sJ G1;exists pb,_,_,_,rfl,rfl,SqT.of (k1 _ _ hpb),at1 _ _ _,?_;exists _,rfl,x,C,dx,_,_,rfl,nJ,cC,TC.n "bodies" (),rfl,.inl ⟨rfl,_,SqL.of yr⟩,_,rfl,_,rfl,lb,ys,rfl,.inl ⟨SqL.of jX,fun t1 Nu=>⟨zl1,fun t2 P7=>?_⟩⟩;have q1:=ad Nu (.tup ys);have q2:=ad P7 (.tup [.ref t1]);refine ek (q2 _ _ (q1 _ _ (k1 _ _ hoa))) ac (by show 2+1<=1000; omega) fun pc H3 g3 hpc=>?_
 exists zl0,fun b3 IT=>⟨zl2,fun p4 VY=>?_⟩
 have q3:=ad IT (.lst []);have q4:=ad VY (.tup [.ref pc,.ref b3]);have Sh:=(q1.trans q2).trans g3;have gg:=Sh.trans (q3.trans q4);have b4:=gg _ _ yr;exists bl,_,_,rfl,rfl,b4,ap (by rw [XX]; omega),?_;have k4:=aW b4 (.lst (gT.reverse++[.ref p4]));have kk:=(k1.trans (ao gg)).trans k4;have SK:=(ao (q3.trans q4)).trans k4;have dd:∀ {c:Addr} {w:HO},H1 c=some w->c≠b3:=fun h z=>by rw [z] at h; rw [Sh _ _ h] at IT; cases IT
 have hls:=pi sJ;refine q _ (az fb (G1.trans gg)) ⟨dx,rl,fn,vl,bl,hv,rs,fs,vs,.ref p4::gT,b3::yg,?_,?_,Paired.mapP h3 fun _ _ z=>z.mono kk,?_,Paired.mapP h5 fun _ _ z=>z.mono kk,h6.mono kk,?_,Paired.mapP h8 fun _ _ z=>z.mono kk,?_,?_,?_,?_⟩
 ·rw [aj fun z=>by rw [z,yr] at nJ; cases nJ]; exact gg _ _ nJ
 ·rw [aj n3]; exact gg _ _ r1
 ·rw [aj n6]; exact gg _ _ f1
 ·rw [aj n8]; exact gg _ _ v1
 ·rw [ac,XY]
 ·have hb:b3≠bl:=fun z=>dd yr z.symm
  have IB:H3 t1=some (.tup ys):=g3 _ _ (q2 _ _ (aM Nu _));refine .cons ⟨p4,.ref pc,[],rfl,k4 _ _ ac,.tup (.inl (SK _ _ hpc)) (.cons (.str _) (.cons (hcv.mono kk) (.cons (.tup (.inl (SK _ _ IB)) (dyb.mono kk)) .nil))),by rw [aj hb]; exact q4 _ _ ac,.nil⟩ ((sJ.same gg).upd b4 ny)
 ·simp only [Xf,Xz,XH,Xa,not_or];exists ⟨n1,n2,n3,dd r1,J4⟩,⟨n5,n6,dd f1,Kk⟩,⟨n8,dd v1,Kh⟩,⟨dd yr,ny⟩,fun z=>by obtain ⟨yz,hyz⟩:=hls b3 z; exact dd hyz rfl,J8
 ·intro c hc;simp only [Xf,Xz,Xa] at hc;rcases hc with rfl | rfl | rfl | rfl | rfl | rfl | hc
  ·exact jv _ (by simp)
  ·exact jv _ (by simp)
  ·exact jv _ (by simp)
  ·exact jv _ (by simp)
  ·exact fb
  ·exact (G1.trans Sh).free IT
  ·exact jv c (by simp [hc])
end
open PySem L2
structure Bnd (st:RSt):Prop where
 r:st.recs.length<=100
 f:st.funs.length<=100
 v:st.vars.length<=100
 b:st.bods.length<=100
 s:∀ b∈st.bods,b.2.length<=100
theorem EL:∀ o:Out,(∀ cc,o≠.if1 cc)->∃ ds,o.d=.tuple ds/\ds.length<=3/\(ds.length≠2\/∃ r,ds=.str "while"::r)/\(o.closes->∀ B,(o.close B).d=.tuple (ds++[.tuple (S.ds B)]))
 | .no,_=>⟨[],rfl,by simp,.inl (by simp),fun z=>nomatch z⟩
 | .if1 cc,h=>absurd rfl (h cc)
 | .if2 cc A,_=>⟨[.str "if",cc.d,.tuple (S.ds A)],rfl,by simp,.inl (by simp),fun _ B=>by simp only [Out.close,S.d]; rfl⟩
 | .wh cc,_=>⟨[.str "while",cc.d],rfl,by simp,.inr ⟨_,rfl⟩,fun _ B=>by simp only [Out.close,S.d]; rfl⟩
section
variable {P:Program} {w:World} {K:Frag} {mg:Str->Option Value} {base:Heap} {f g:Addr} {fd gd:FuncData} {C:Addr}
abbrev yV:List Str:=["self", "words", "outer", "body"]
theorem i9:aA yV ["self", "words"] (defScope jM):=ZU 0
inductive Gs (K:Frag) (C:Addr) (vs:List V) (H:Hp) (Q:VK) (bu:XK):Prop
 | mk (x H0 st iK l):(vs=[.ref x,.ref l])->(RS K C H0 x H st)->(av H0 H)->(H l=some (.lst ((Row.ws .en).map V.str)))->(Bnd st)->(Stp st .en iK)->(∀ H',av H0 H'->RS K C H0 x H' iK->Q (.bl true) H')->Gs K C vs H Q bu
theorem LV (T:G0 mg) (TC:GC K C) (F:Fun K "take_end" "Reading.take_end" jM f fd):Zb 1 ["self", "words"] (Gs K C):=by
 have cC:=TC.c;refine ZR F i9
 ·obtain ⟨x,H0,st,iK,l,rfl,_⟩:=h
  rfl
 obtain ⟨x,H0,st,iK,l,rfl,hS,G,hl,hB,hst,q⟩:=h;obtain ⟨dx,rl,fn,vl,bl,hv,rs,fs,vs,bs,ls,h1,h2,h3,h4,h5,h6,h7,h8,h9,ww,wM,jv⟩:=hS.ex;obtain ⟨oB,B,rest,hbo,hno⟩:∃ oB B rest,st.bods=(oB,B)::rest/\∀ cc,oB≠.if1 cc:=by
  cases hst with
  | enB hh hb hc=>exact ⟨_,_,_,hb,fun cc e=>by rw [e] at hc; exact hc⟩
  | enF hh hb=>exact ⟨_,_,_,hb,fun cc e=>nomatch e⟩
 have hbl:=hB.s;have hbb:=hB.b;rw [hbo] at ww hbl hbb;obtain ⟨vb,gT,lb,yg,rfl,rfl,hvb,hbr⟩:∃ vb gT lb yg,bs=vb::gT/\ls=lb::yg/\kX K H vb (oB,B) lb/\dC K H gT rest yg:=by
  cases ww with
  | cons a r=>exact ⟨_,_,_,_,rfl,rfl,a,r⟩
 obtain ⟨pb,ob,ys,rfl,hpb,dob,hlb,dyb⟩:=hvb;obtain ⟨od,eod,lod,wod,cod⟩:=EL oB hno;have M7:DT K H ob (.tuple od):=by rw [<- eod]; exact dob
 obtain ⟨oa,xs,rfl,hoa,d0⟩:=M7.open;have lxs:=d0.len;have lbs:gT.length=rest.length:=qZ hbr;rw [XY] at h9;exists _,(Z2 (ZA 2 i9.nd (Z4 (Z5 aD (ZN (pv 0)) (@gh _ _ _ _ _ _ dH af)))) (Z2 (ZB (PW.pt (cK (Z8 f7 (ZI (Z0 (pv 1))) af) (cm (PW.pt (gO (Z8 aJ (ZI (Z0 (pv 2))) af) (fB (Z8 aJ (Z4 (pv 2)) ag))))))) (Z3 (Z7 dj))) (Z2 (ZA 3 i9.nd (ZK aH T.tuple bU (Z0 (Z4 (jO Xw Yb Yc jV (ZN (pv 0))))))) (Z2 (ZB (Z8 f7 (ZI (Z0 (ZN (pv 0)))) af) (Z2 (ZL (ZG (Z4 (Z5 aD (ZN (pv 0)) (@gh _ _ _ _ _ _ dH af))) (Z0 (ZE (dF.or cO) (pv 2) (ZF (Z0 (pv 3))))))) (Z3 (Z7 dj)))) (Z2 (ZL (ZG (ZN (pv 0)) (Z0 (ZF (Z1 (Z4 (Z4 (ZN (pv 0)))) (Z1 (@bj _ _ _ _ _ _ _ _ _ _ (iG.or fF) (ZN (pv 0)) (bJ af) cb) (Z1 (ZK aH T.tuple bU (Z0 (ZN (pv 0)))) (Z1 (Z4 (Z4 (ZN (pv 0)))) (Z0 (pv 3)))))))))) (Z2 (ij (pv 0) bB (bO rfl)) (Z3 (Z7 dj)))))))),?_;show let v1:=am _ _; let v2:=am _ v1; let v3:=am _ _; let v4:=am (bf _ v3 _) v2; let v5:=am _ v4; let v6:=am _ v5; (am _ v6) _ _ _;intro v1 v2 v3 v4 v5 v6;exists _,rfl,x,C,dx,_,_,rfl,h1,cC,TC.n "bodies" (),rfl,_,rfl,bl,_,_,_,rfl,rfl,SqL.of h9,vH _ _,pb,_,_,_,rfl,rfl,SqT.of hpb,at0 _ _,?_;exists _,rfl,l,_,rfl,.inl (SqL.of hl),_,_,rfl,rfl,_,rfl,ZP ?_;exists _,rfl,oa,_,rfl,.inr (SqT.of hoa),rfl,_,rfl,(fun k=>au (fun c9=>?a) (fun c9=>k)) ?_
 case a =>
  have e2:xs.length=2:=Int.ofNat_inj.mp (V.int.inj (of_decide_eq_true c9));rcases wod with hw | ⟨r,rfl⟩
  ·exact absurd (lxs.symm.trans e2) hw
  obtain ⟨x0,r0,rfl,h0,_⟩:=d0.open;obtain rfl:=h0.str_inv;exists _,rfl,oa,_,_,_,rfl,rfl,SqT.of hoa,at0 _ _,rfl,_,rfl,au (fun c9=>absurd c9 ()) (fun c9=>k)
 exists _,rfl,x,C,dx,_,_,rfl,h1,cC,TC.n "bodies" (),rfl,.inl ⟨rfl,_,SqL.of h9⟩,bl,_,.ref pb,rfl,rfl,h9,by simp,?_
 rw [X6];have nd:=wM;simp only [Xf,Xz,XH,Xa,not_or] at nd;obtain ⟨⟨n1,n2,n3,n4,J4⟩,⟨n5,n6,n7,Kk⟩,⟨n8,n9,Kh⟩,⟨Kj,ny⟩,Qc,J8⟩:=nd;have k1:=aW h9 (.lst gT.reverse);have nJ:(upd H bl (.lst gT.reverse)) x=some (.ins C dx [("records",.ref rl),("functions",.ref fn),("head",hv),("variables",.ref vl),("bodies",.ref bl)]):=by rw [aj fun z=>by rw [z,h9] at h1; cases h1]; exact h1
 have jX:(upd H bl (.lst gT.reverse)) lb=some (.lst ys):=by rw [aj fun z=>Kj z.symm]; exact hlb
 have r1:(upd H bl (.lst gT.reverse)) rl=some (.lst rs):=by rw [aj n3]; exact h2
 have f1:(upd H bl (.lst gT.reverse)) fn=some (.lst fs):=by rw [aj n6]; exact h4
 have v1:(upd H bl (.lst gT.reverse)) vl=some (.lst vs):=by rw [aj n8]; exact h7
 have yr:(upd H bl (.lst gT.reverse)) bl=some (.lst gT.reverse):=ac;have sJ:=hbr.upd (o:=.lst gT.reverse) h9 ny;have fb:=jv bl (by simp);have G1:av H0 (upd H bl (.lst gT.reverse)):=az fb G;generalize (upd H bl (.lst gT.reverse))=H1 at k1 nJ jX r1 f1 v1 yr sJ G1;exists pb,_,_,_,rfl,rfl,SqT.of (k1 _ _ hpb),at1 _ _ _,lb,ys,rfl,.inl ⟨SqL.of jX,fun t1 Nu=>?_⟩;have q1:=ad Nu (.tup ys);have IB:(upd H1 t1 (.tup ys)) t1=some (.tup ys):=ac;have K1:=k1.trans (ao q1);have G2:=G1.trans q1;replace nJ:=q1 _ _ nJ;replace r1:=q1 _ _ r1;replace f1:=q1 _ _ f1;replace v1:=q1 _ _ v1;replace yr:=q1 _ _ yr;replace sJ:=sJ.same q1;change am _ _ _ _ (upd H1 t1 (.tup ys));generalize (upd H1 t1 (.tup ys))=H2 at nJ r1 f1 v1 yr sJ G2 K1 IB;have dB:DT K H2 (.ref t1) (.tuple (S.ds B)):=.tup (.inl IB) (dyb.mono K1);exists _,rfl,x,C,dx,_,_,rfl,nJ,cC,TC.n "bodies" (),rfl,bl,_,rfl,.inl (SqL.of yr),_,_,rfl,rfl,_,rfl,?_;cases hst with
 | @enB ps o o2 B' A Px hh hb hc =>
  rw [hbo] at hb;obtain ⟨e1,rfl⟩:=List.cons.inj hb;obtain ⟨rfl,rfl⟩:=Prod.mk.inj e1;obtain ⟨vb2,Qp,lb2,Qu,rfl,rfl,hvb2,hbr2⟩:∃ vb Qp lb Qu,gT=vb::Qp/\yg=lb::Qu/\kX K H2 vb (o2,A) lb/\dC K H2 Qp Px Qu:=by
   cases sJ with
   | cons a r=>exact ⟨_,_,_,_,rfl,rfl,a,r⟩
  obtain ⟨Nc,UR,Qo,rfl,Pq,Rm,M6,P6⟩:=hvb2;refine au (fun c9=>?_) (fun c9=>absurd (decide_eq_true (by simp only [XX,W9]; omega)) c9);rw [XY] at yr;rw [XH] at J8;have WT:Qo.length=A.length:=by
   have h:=P6.len;rw [xK] at h;exact h
  have lA:A.length<=100:=hbl (o2,A) (by simp);exists _,rfl,x,C,dx,_,_,rfl,nJ,cC,TC.n "bodies" (),rfl,_,rfl,bl,_,_,_,rfl,rfl,SqL.of yr,vH _ _,Nc,_,_,_,rfl,rfl,SqT.of Pq,at1 _ _ _,.inl ⟨rfl,_,SqL.of M6⟩,_,rfl,_,rfl,zl1,fun t2 P7=>?_
  have q2:=ad P7 (.tup [.ref t1]);refine ek (q2 _ _ (K1 _ _ hoa)) ac (by show xs.length+1<=1000; omega) fun pc H3 g3 hpc=>?_
  have gg:=q2.trans g3;have J9:=gg _ _ M6;exists lb2,_,_,rfl,rfl,J9,ap (by show Qo.length<=1000; omega),?_;have kk:=(ao gg).trans (aW J9 (.lst (Qo++[.ref pc])));have Vh:=jv lb2 (by simp);simp only [Xa,not_or] at J4 Kk Kh ny;refine q _ (az Vh (G2.trans gg)) ⟨dx,rl,fn,vl,bl,hv,rs,fs,vs,.ref Nc::Qp,lb2::Qu,?_,?_,Paired.mapP h3 fun _ _ z=>z.mono (K1.trans kk),?_,Paired.mapP h5 fun _ _ z=>z.mono (K1.trans kk),h6.mono (K1.trans kk),?_,Paired.mapP h8 fun _ _ z=>z.mono (K1.trans kk),?_,?_,?_,?_⟩
  ·rw [aj fun z=>by rw [z,M6] at nJ; cases nJ]; exact gg _ _ nJ
  ·rw [aj J4.1]; exact gg _ _ r1
  ·rw [aj Kk.1]; exact gg _ _ f1
  ·rw [aj Kh.1]; exact gg _ _ v1
  ·rw [aj ny.1,XY]; exact gg _ _ yr
  ·refine .cons ⟨Nc,UR,Qo++[.ref pc],rfl,kk _ _ Pq,Rm.mono kk,ac,?_⟩ ((hbr2.same gg).upd J9 J8.1);show DTs K _ _ (S.ds (A++[oB.close B]));rw [ds_app];refine DTs.append (P6.mono kk) ?_;simp only [S.ds];refine .cons ?_ .nil;rw [cod hc];exact .tup (.inl ((aW J9 _) _ _ hpc)) (DTs.append (d0.mono (K1.trans kk)) (.cons (dB.mono kk) .nil))
  ·simp only [Xf,Xz,XH,Xa,not_or];exists ⟨n1,n2,n3,J4.1,J4.2⟩,⟨n5,n6,Kk.1,Kk.2⟩,⟨n8,Kh.1,Kh.2⟩,⟨ny.1,ny.2⟩,J8.1,J8.2
  ·intro c hc;refine jv c ?_;simp only [Xf,Xz,Xa] at hc ⊢;rcases hc with h | h | h | h | h | h | h<;>simp [h]
 | @enF nk ps B' hh hb =>
  rw [hbo] at hb;obtain ⟨e1,rfl⟩:=List.cons.inj hb;obtain ⟨rfl,rfl⟩:=Prod.mk.inj e1;obtain ⟨rfl,rfl⟩:gT=[]/\yg=[]:=by
   cases sJ;exists rfl,rfl
  refine au (fun c9=>absurd c9 (by simp)) (fun c9=>?_);rw [hh] at h6;obtain ⟨ha,hxs,rfl,hha,phx⟩:bK H hv (nk::ps):=h6;obtain ⟨nv,psv,rfl,hnk,hps⟩:∃ nv psv,hxs=nv::psv/\b8 H nv nk/\Paired (b8 H) psv ps:=by
   cases phx with
   | cons a r=>exact ⟨_,_,rfl,a,r⟩
  obtain ⟨an,rfl,han⟩:=hnk;have lfs:=Paired.length h5;have lfB:=hB.f;exists _,rfl,x,C,dx,_,_,rfl,nJ,cC,TC.n "functions" (),rfl,.inl ⟨rfl,_,SqL.of f1⟩,_,rfl,x,C,dx,_,_,rfl,nJ,cC,TC.n "head" (),rfl,ha,_,_,_,rfl,rfl,SqT.of (K1 _ _ hha),at0 _ _,an,_,_,_,rfl,rfl,SqT.of (K1 _ _ han),at0 _ _,_,rfl,x,C,dx,_,_,rfl,nJ,cC,TC.n "head" (),rfl,1,rfl,gq (k:=1) (K1 _ _ hha) fun pp H3 g3 hpp=>?_
  exists _,rfl,x,C,dx,_,_,rfl,g3 _ _ nJ,cC,TC.n "variables" (),rfl,vl,vs,rfl,.inl ⟨SqL.of (g3 _ _ v1),fun tv htv=>?_⟩;have q4:=ad htv (.tup vs);have g4:=g3.trans q4;exists _,rfl,x,C,dx,_,_,rfl,g4 _ _ nJ,cC,TC.n "head" (),rfl,ha,_,_,_,rfl,rfl,SqT.of (g4 _ _ (K1 _ _ hha)),at0 _ _,an,_,_,_,rfl,rfl,SqT.of (g4 _ _ (K1 _ _ han)),at1 _ _ _,_,rfl,zl5,fun tf htf=>?_
  have q5:=ad htf (.tup [.str nk.1,.ref pp,.ref tv,.str nk.2,.ref t1]);have g5:=g4.trans q5;have Po:(upd (upd H3 tv (.tup vs)) tf (.tup [.str nk.1,.ref pp,.ref tv,.str nk.2,.ref t1])) tf=some (.tup [.str nk.1,.ref pp,.ref tv,.str nk.2,.ref t1]):=ac;have Pi:(upd (upd H3 tv (.tup vs)) tf (.tup [.str nk.1,.ref pp,.ref tv,.str nk.2,.ref t1])) tv=some (.tup vs):=q5 _ _ ac;have Pm:(upd (upd H3 tv (.tup vs)) tf (.tup [.str nk.1,.ref pp,.ref tv,.str nk.2,.ref t1])) pp=some (.tup psv):=q5 _ _ (q4 _ _ hpp);have f5:=g5 _ _ f1;exists fn,_,_,rfl,rfl,f5,ap (by omega),?_;generalize (upd (upd H3 tv (.tup vs)) tf (.tup [.str nk.1,.ref pp,.ref tv,.str nk.2,.ref t1]))=H5 at g5 f5 Po Pi Pm;have k6:=aW f5 (.lst (fs++[.ref tf]));have R1:(upd H5 fn (.lst (fs++[.ref tf]))) x=some (.ins C dx [("records",.ref rl),("functions",.ref fn),("head",.ref ha),("variables",.ref vl),("bodies",.ref bl)]):=by rw [aj fun z=>by rw [z,f1] at nJ; cases nJ]; exact g5 _ _ nJ
  have r6:(upd H5 fn (.lst (fs++[.ref tf]))) rl=some (.lst rs):=by rw [aj n1]; exact g5 _ _ r1
  have v6:(upd H5 fn (.lst (fs++[.ref tf]))) vl=some (.lst vs):=by rw [aj fun z=>n5 z.symm]; exact g5 _ _ v1
  have b6:(upd H5 fn (.lst (fs++[.ref tf]))) bl=some (.lst []):=by rw [aj fun z=>n6 z.symm]; exact g5 _ _ yr
  have f6:(upd H5 fn (.lst (fs++[.ref tf]))) fn=some (.lst (fs++[.ref tf])):=ac;have G6:=az (o:=.lst (fs++[.ref tf])) (jv fn (by simp)) (G2.trans g5);change am _ _ _ _ (upd H5 fn (.lst (fs++[.ref tf])));have Pl:=k6 _ _ Po;have P5:=k6 _ _ Pi;have Qk:=k6 _ _ Pm;have kA:=K1.trans ((ao g5).trans k6);have VZ:=dB.mono ((ao g5).trans k6);generalize (upd H5 fn (.lst (fs++[.ref tf])))=H6 at k6 R1 r6 v6 b6 f6 G6 Pl P5 Qk kA VZ;exists _,rfl,x,C,dx,_,rfl,R1,cC,TC.n "head" (),by simp,?_
  obtain ⟨k7,m7⟩:=xz (o:=.ins C dx [("records",.ref rl),("functions",.ref fn),("head",.non),("variables",.ref vl),("bodies",.ref bl)]) R1;have kB:=kA.trans k7;refine q _ (az (jv x (by simp)) G6) ⟨dx,rl,fn,vl,bl,.non,rs,fs++[.ref tf],vs,[],[],ac,m7 _ _ r6,Paired.mapP h3 fun _ _ z=>z.mono kB,m7 _ _ f6,fj (Paired.mapP h5 fun _ _ z=>z.mono kB) (.cons ?_ .nil),rfl,m7 _ _ v6,Paired.mapP h8 fun _ _ z=>z.mono kB,m7 _ _ b6,.nil,?_,?_⟩
  ·have Ud:H6 t1=some (.tup ys):=((ao g5).trans k6) _ _ IB;exists tf,.ref pp,.ref tv,t1,ys,rfl,k7 _ _ Pl,⟨pp,psv,rfl,k7 _ _ Qk,Paired.mapP hps fun _ _ z=>z.mono kB⟩,⟨tv,vs,rfl,k7 _ _ P5,Paired.mapP h8 fun _ _ z=>z.mono kB⟩,k7 _ _ Ud,dyb.mono kB
  ·simp only [Xf,Xz,XB,XH,Xa,not_or,Xe,not_false_iff,and_true,aaL];exists ⟨n1,n2,n3⟩,⟨n5,n6⟩,n8
  ·intro c hc;refine jv c ?_;simp only [Xf,Xz,Xa,Xe,or_false] at hc ⊢;rcases hc with h | h | h | h | h<;>simp [h]
end
open PySem L2
structure MCal (P:Program) (w:World) (K:Frag) (mg:Str->Option Value) (base:Heap) (C:Addr) (k:Nat) (m:Str) (ps:List Str) (sp:Sp):Prop where
 ex:∃ g gd,eI P w K mg base CX0 k g gd ps sp/\cH K gd ps []/\DK K C m g
noncomputable def KA:Row->Prop
 | .rc r=>r.1∈bg/\(∀ p∈r.2,p.1∈bg/\(p.2∈PL\/p.2∈bg))/\r.2.length<=100
 | .fn ps=>(∀ p∈ps,p.1∈bg/\(p.2∈PL\/p.2∈bg))/\ps.length<=100
 | .lo p=>p.1∈bg/\(p.2∈PL\/p.2∈bg)
 | .els=>True
 | .en=>True
 | .st x=>WfS x/\(hW x).length<=1000000
theorem ki:∀ s:S,∃ z r,hW s=z::r/\z ≠ "local"/\z ≠ "else"/\z ≠ "end"
 | .let_ x e=>⟨"let",_,rfl,(),(),()⟩
 | .say w c=>⟨"say",_,rfl,(),(),()⟩
 | .if_ c _ _=>⟨"if",_,rfl,(),(),()⟩
 | .while_ c _=>⟨"while",_,rfl,(),(),()⟩
 | .call x f es=>⟨"call",_,rfl,(),(),()⟩
 | .give e=>⟨"give",_,rfl,(),(),()⟩
section
variable {P:Program} {w:World} {K:Frag} {mg:Str->Option Value} {base:Heap} {f g:Addr} {fd gd:FuncData} {C:Addr}
abbrev L8:List Str:=["self", "words", "word"]
theorem Cs:aA L8 ["self", "words"] (defScope yI):=ZU 0
inductive Lw (K:Frag) (C:Addr) (vs:List V) (H:Hp) (Q:VK) (bu:XK):Prop
 | mk (x H0 st iK l row):(vs=[.ref x,.ref l])->(RS K C H0 x H st)->(av H0 H)->(H l=some (.lst ((Row.ws row).map V.str)))->(Bnd st)->(KA row)->(Stp st row iK)->(∀ H',av H0 H'->RS K C H0 x H' iK->Q (.bl true) H')->Lw K C vs H Q bu
theorem Js (TC:GC K C) (F:Fun K "take" "Reading.take" yI f fd) (sO:MCal P w K mg base C 3 "take_record" ["self", "words"] (LI K C)) (oM:MCal P w K mg base C 3 "take_function" ["self", "words"] (Mw K C)) (wI:MCal P w K mg base C 3 "take_local" ["self", "words"] (Ls K C)) (ya:MCal P w K mg base C 1 "take_else" ["self", "words"] (LZ K C)) (B0:MCal P w K mg base C 1 "take_end" ["self", "words"] (Gs K C)) (nK:MCal P w K mg base C 6 "take_statement" ["self", "words"] (HL K C)):Zb 7 ["self", "words"] (Lw K C):=by
 have cC:=TC.c;obtain ⟨IP,II,sM,sH,sL⟩:=sO.ex;obtain ⟨Ex,Ed,oJ,oR,oO⟩:=oM.ex;obtain ⟨Kg,IY,wJ,wF,wA⟩:=wI.ex;obtain ⟨K0,Kf,yc,yb,yk⟩:=ya.ex;obtain ⟨Nb,K9,B3,B8,B1⟩:=B0.ex;obtain ⟨Ef,C6,nH,nL,nE⟩:=nK.ex;refine ZR F Cs
 ·obtain ⟨x,H0,st,iK,l,row,rfl,_⟩:=h
  rfl
 obtain ⟨x,H0,st,iK,l,row,rfl,hS,G,hl,hB,hO,hst,q⟩:=h;obtain ⟨dx,rl,fn,vl,bl,hv,rs,fs,vs,bs,ls,h1,_,_,_,_,h6,_⟩:=hS.ex;have uT:∀ {o A r},st.bods=(o,A)::r->A.length<=100/\r.length<=100:=fun e=>by
  have a:=hB.s;have b:=hB.b;rw [e] at a b;exists a _ Xl,by simp only [W9] at b; omega
 obtain ⟨z,zr,ez⟩:∃ z zr,Row.ws row=z::zr:=by
  cases row with
  | st y=>obtain ⟨z,r,e,_⟩:=ki y; exact ⟨z,r,e⟩
  | rc r=>exact ⟨_,_,rfl⟩
  | fn r=>exact ⟨_,_,rfl⟩
  | lo r=>exact ⟨_,_,rfl⟩
  | els=>exact ⟨_,_,rfl⟩
  | en=>exact ⟨_,_,rfl⟩
 exists _,(Z2 (ZA 2 Cs.nd (Z5 aD (pv 1) af)) (Z2 (ZB (Z8 f9 (ZN (pv 0)) bB) (Z3 (Z7 (@dE _ _ _ _ _ _ _ _ (Z8 aJ (pv 2) ag) (iH (C:=C) (pv 0) cC sL sM (hr.mono (by omega)) sH .nil dU (Z0 (pv 1))) (iH (C:=C) (pv 0) cC oO oJ (hr.mono (by omega)) oR .nil dU (Z0 (pv 1))))))) (Z2 (ZB (Z8 aJ (pv 2) ag) (Z3 (Z7 (iH (C:=C) (pv 0) cC wA wJ (hr.mono (by omega)) wF .nil dU (Z0 (pv 1)))))) (Z2 (ZB (Z8 aJ (pv 2) ag) (Z3 (Z7 (iH (C:=C) (pv 0) cC yk yc (hr.mono (by omega)) yb .nil dU (Z0 (pv 1)))))) (Z2 (ZB (Z8 aJ (pv 2) ag) (Z3 (Z7 (iH (C:=C) (pv 0) cC B1 B3 (hr.mono (by omega)) B8 .nil dU (Z0 (pv 1)))))) (Z3 (Z7 (iH (C:=C) (pv 0) cC nE nH (hr.mono (by omega)) nL .nil dU (Z0 (pv 1)))))))))),?_;show let v1:L2.TS:=_; let v2:L2.TS:=_; let v3:=am (bf _ v2 _) v1; let v4:L2.TS:=_; let v5:=am (bf _ v4 _) v3; let v6:L2.TS:=_; let v7:=am (bf _ v6 _) v5; let v8:L2.TS:=_; let v9:=am (bf _ v8 _) v7; (am _ v9) _ _ _;intro v1 v2 v3 v4 v5 v6 v7 v8 v9;exists _,rfl,l,_,_,_,rfl,rfl,SqL.of hl,(show atI ((Row.ws row).map V.str) 0=some (.str z) by rw [ez]; exact at0 _ _),?_;exists _,rfl,x,C,dx,_,_,rfl,h1,cC,TC.n "head" (),rfl,rfl,_,rfl,?_;cases hst with
 | rc hh hf =>
  rw [hh] at h6;obtain rfl:hv=.non:=h6;obtain rfl:("record":Str)=z:=(List.cons.inj ez).1;obtain ⟨o1,o2,o3⟩:=hO;refine dO ⟨_,rfl,rfl,_,rfl,dO ?_⟩;exists _,rfl,x,dx,_,rfl,h1,rfl,_,rfl,x,H0,st,l,_,rfl,hS,G,hl,hf,o1,o2,o3,hB.r,q
 | fn hh hne =>
  rw [hh] at h6;obtain rfl:hv=.non:=h6;obtain rfl:("function":Str)=z:=(List.cons.inj ez).1;obtain ⟨o1,o2⟩:=hO;refine dO ⟨_,rfl,rfl,_,rfl,ZP ?_⟩;exists _,rfl,x,dx,_,rfl,h1,rfl,_,rfl,x,H0,st,l,_,rfl,hS,G,hl,hne,o1,o2,q
 | lo hh hb =>
  rw [hh] at h6;obtain ⟨ha,hxs,rfl,_⟩:bK H hv _:=h6;obtain rfl:("local":Str)=z:=(List.cons.inj ez).1;refine au (fun c9=>absurd c9 (by simp)) fun c9=>⟨_,rfl,rfl,_,rfl,dO ?_⟩
  exists _,rfl,x,dx,_,rfl,h1,rfl,_,rfl,x,H0,st,l,_,rfl,hS,G,hl,hb,hO,hB.v,q
 | els hh hb =>
  rw [hh] at h6;obtain ⟨ha,hxs,rfl,_⟩:bK H hv _:=h6;obtain rfl:("else":Str)=z:=(List.cons.inj ez).1;refine au (fun c9=>absurd c9 (by simp)) fun c9=>⟨_,rfl,rfl,_,rfl,au (fun c9=>absurd c9 ()) fun c9=>⟨_,rfl,rfl,_,rfl,dO ?_⟩⟩
  exists _,rfl,x,dx,_,rfl,h1,rfl,_,rfl,x,H0,st,l,_,_,_,rfl,hS,G,hl,hb,(uT hb).1,(uT hb).2,q
 | enB hh hb hc =>
  rw [hh] at h6;obtain ⟨ha,hxs,rfl,_⟩:bK H hv _:=h6;obtain rfl:("end":Str)=z:=(List.cons.inj ez).1;refine au (fun c9=>absurd c9 (by simp)) fun c9=>⟨_,rfl,rfl,_,rfl,au (fun c9=>absurd c9 ()) fun c9=>⟨_,rfl,rfl,_,rfl,au (fun c9=>absurd c9 ()) fun c9=>⟨_,rfl,rfl,_,rfl,dO ?_⟩⟩⟩
  exists _,rfl,x,dx,_,rfl,h1,rfl,_,rfl,x,H0,st,_,l,rfl,hS,G,hl,hB,.enB hh hb hc,q
 | enF hh hb =>
  rw [hh] at h6;obtain ⟨ha,hxs,rfl,_⟩:bK H hv _:=h6;obtain rfl:("end":Str)=z:=(List.cons.inj ez).1;refine au (fun c9=>absurd c9 (by simp)) fun c9=>⟨_,rfl,rfl,_,rfl,au (fun c9=>absurd c9 ()) fun c9=>⟨_,rfl,rfl,_,rfl,au (fun c9=>absurd c9 ()) fun c9=>⟨_,rfl,rfl,_,rfl,dO ?_⟩⟩⟩
  exists _,rfl,x,dx,_,rfl,h1,rfl,_,rfl,x,H0,st,_,l,rfl,hS,G,hl,hB,.enF hh hb,q
 | @st ps o A' rest y hh hb ho =>
  rw [hh] at h6;obtain ⟨ha,hxs,rfl,_⟩:bK H hv _:=h6;obtain ⟨z',r',e',z1,z2,z3⟩:=ki y;obtain rfl:z'=z:=(List.cons.inj (e'.symm.trans ez)).1;refine au (fun c9=>absurd c9 (by simp)) fun c9=>⟨_,rfl,rfl,_,rfl,au (fun c9=>absurd (V.str.inj (of_decide_eq_true c9)) z1) fun c9=>⟨_,rfl,rfl,_,rfl,au (fun c9=>absurd (V.str.inj (of_decide_eq_true c9)) z2) fun c9=>⟨_,rfl,rfl,_,rfl,au (fun c9=>absurd (V.str.inj (of_decide_eq_true c9)) z3) fun c9=>?_⟩⟩⟩
  exists _,rfl,x,dx,_,rfl,h1,rfl,_,rfl,x,H0,st,l,y,o,A',rest,rfl,hS,G,hl,hO.1,hO.2,hb,(uT hb).1,(uT hb).2,fun H' g' a1 a2=>q H' g' (a2 ho)
 | @op ps bb rest y o hh hb ho =>
  rw [hh] at h6;obtain ⟨ha,hxs,rfl,_⟩:bK H hv _:=h6;obtain ⟨z',r',e',z1,z2,z3⟩:=ki y;obtain rfl:z'=z:=(List.cons.inj (e'.symm.trans ez)).1;refine au (fun c9=>absurd c9 (by simp)) fun c9=>⟨_,rfl,rfl,_,rfl,au (fun c9=>absurd (V.str.inj (of_decide_eq_true c9)) z1) fun c9=>⟨_,rfl,rfl,_,rfl,au (fun c9=>absurd (V.str.inj (of_decide_eq_true c9)) z2) fun c9=>⟨_,rfl,rfl,_,rfl,au (fun c9=>absurd (V.str.inj (of_decide_eq_true c9)) z3) fun c9=>?_⟩⟩⟩
  obtain ⟨oo,AA⟩:=bb;exists _,rfl,x,dx,_,rfl,h1,rfl,_,rfl,x,H0,st,l,y,oo,AA,rest,rfl,hS,G,hl,hO.1,hO.2,hb,(uT hb).1,(uT hb).2,fun H' g' a1 a2=>q H' g' (by rw [<- hb]; exact a1 o ho)
end
end K6
namespace L2
open PySem PySem.Spec PyProof.Rows
noncomputable def Ite (K:Frag) (a:Addr):It :=
 ⟨fun i H=>∃ xs x,SqL K H a xs/\xs[i]?=some x,
  fun i H v H'=>∃ p x,H p=none/\v=.ref p/\H'=upd H p (.tup [.int (i:Int),x])/\∀ xs,SqL K H a xs->xs[i]?=some x,
  fun i H=>∃ xs,SqL K H a xs/\xs.length<=i⟩
theorem DO {P:Program} {w:World} {K:Frag} {elts:List Expr} {x1} {pos:Pos} {e it:Addr} (hne:e≠it) (a:Addr) :
  sf P w K (.Tuple elts x1 pos) (Ite K a) [e,it] e (fun i h=>(∃ old,IsEnum h e it ((i:Nat):Int) old)/\h.IsListIter it a i) where
 mem:=by simp
 obj:=fun i h st c hc=>by
  obtain ⟨⟨old,he⟩,o,eo,_,d⟩:=st;simp at hc;rcases hc with rfl | rfl
  ·exists _,he,fun v z=>by have z':Data.fields _=Data.cell v:=z; cases z'
  ·exists o,eo,fun v z=>by rw [d] at z; cases z
 keep:=fun i h h' st k=>by
  obtain ⟨⟨old,he⟩,hit⟩:=st;exists ⟨old,k e (by simp) _ he⟩,hit.at fun o eo=>k it (by simp) o eo
 item:=by
  intro X hP hw hK hc i ae s σ H E I hf st hg;subst hP hw hK;obtain ⟨xs,x,hq,ex⟩:=hg;obtain ⟨⟨old,he⟩,hit⟩:=st;obtain ⟨its,r1,p1,_⟩:=I.list hq;obtain ⟨ux,hux,rx⟩:=r1.get ex;have fe:=hf e (by simp);have fi:=hf it (by simp);refine wpAny_pyNext_enum_item he hit p1.isList (x:=ux) (by simpa using hux) hne fun h' a1 a2 a3 a4 a5=>?_
  exists _,rfl,wpAny_letOwnedTupleGo_enum (s:={ s with heap:=h',toks:=s.toks+1 }) a1 fun h2 b1 b2=>?_
  have SR:Heap.SameBut e h' h2:=b2;have lt:∀ {c:Addr} {o:Obj},s.heap.get? c=some o->c≠s.heap.objs.size:=fun e=>XR (Heap.lt_size e)
  have fr:H s.heap.objs.size=none:=I.hok.fresh (Xc _);have I1:Inv X ae σ (upd H s.heap.objs.size (.tup [.int (i:Int),x])) { s with heap:=s.heap.push { cls:=.type "tuple",data:=.seq #[.int i s.toks,ux] },toks:=s.toks+1 }:=by
   refine I.laid (t':=s.toks+1) (fun b u e=>Heap.get?_push_of_some _ e) (Xc _) ⟨by simp [sizeLine],[.int i s.toks,ux],.cons ⟨_,rfl⟩ (.cons rx .nil),⟨_,Heap.get?_push_size _ rfl,rfl,_,rfl⟩,_,Heap.get?_push_size _ rfl,rfl⟩
  have nl:∀ c∈[e,it],c≠s.heap.objs.size:=fun c hc=>by
   simp at hc;rcases hc with rfl | rfl
   ·exact lt he
   ·obtain ⟨o,eo,_⟩:=hit; exact lt eo
  have SI:∀ c∈[e,it],mH X ae (upd H s.heap.objs.size (.tup [.int (i:Int),x])) c:=fun c hc=>⟨by rw [aj (nl c hc)]; exact (hf c hc).1,(hf c hc).2⟩
  have I2:Inv X ae σ (upd H s.heap.objs.size (.tup [.int (i:Int),x])) { s with heap:=h2,toks:=s.toks+1 }:=by
   refine Inv.turnedL (s:={ s with heap:=s.heap.push { cls:=.type "tuple",data:=.seq #[.int i s.toks,ux] },toks:=s.toks+1 }) (t':=s.toks+1) (its:=[e,it]) I1 (fun c o hc eo=>?_) SI;simp at hc;refine SR.extBut _ _ hc.1 ?_;rcases Heap.get?_push_cases eo with ⟨q,q'⟩ | q
   ·rw [q,q'];exact a3
   ·exact a5 c o hc.1 hc.2 q
  exists .ref s.heap.objs.size,_,I2,rfl,⟨_,x,fr,rfl,rfl,fun zs rJ=>by rw [I.list_inj rJ hq]; exact ex⟩,⟨⟨_,b1⟩,a2.at fun o eo=>SR.extBut _ _ (Ne.symm hne) eo⟩,fun c hc=>(SI c hc).1
 done:=by
  intro X hP hw hK hc i ae s σ H E I hf st hg;subst hP hw hK;obtain ⟨xs,hq,hx⟩:=hg;obtain ⟨⟨old,he⟩,hit⟩:=st;obtain ⟨its,r1,p1,_⟩:=I.list hq;have hl:=r1.length;obtain ⟨f0,f1,f2,f3,f4,f5⟩:=hf it (by simp);exact wpAny_pyNext_enum_end (I.ok.hd hc) he hit p1.isList (by simp; omega) fun h' eb=>⟨rfl,I.turned (t':=s.toks) (fun b o hb e=>eb b o hb e) f0 f1 f3 f4 f5⟩
 self:=fun _ _ _ _ _ st h=>wpAny_pyIter_enum st.1.choose_spec h
section
variable {X:Cx}
inductive Ce (K:Frag) (R:It->Hp->Prop) (x:V) (H1:Hp):Prop
 | mk (a):(x=.ref a)->((∃ xs,SqL K H1 a xs))->(R (Ite K a) H1)->Ce K R x H1
noncomputable def O5 (K:Frag) (te:TE):TI:=fun σ H R=>te σ H fun x H1=>Ce K R x H1
theorem Jr {elts:List Expr} {x1} {tp:Pos} {e:Expr} {te:TE} {p pos:Pos} (hg:Gl X "enumerate") (hm:X.mg "enumerate"=none) (he:PE X e te)
  (hs:starEach [e] X.env=(false,eval e X.env)::starEach [] X.env:=by exact bo rfl):PI X (.Tuple elts x1 tp) (.Call (.Name "enumerate" p) [e] [] pos) (O5 X.K te):=by
 intro ae s σ H R I h;refine wpAny_Call_Name_kw (gQ I hg hm qT ?_);refine XU ?_ hs rfl;rw [hs];show wpAny _ _ (spliced ((false,eval e X.env)::[])) _ _ s;refine Calls.spliced_cons (thn (he ae s σ H _ I h) fun u s1 ⟨x,H1,I1,r1,q1⟩=>?_);obtain ⟨a,rfl,⟨xs,hq⟩,q⟩:=q1;cases r1;refine Calls.spliced_nil ?_;obtain ⟨its,r',pl,hz⟩:=I1.list hq;refine call_enumerate_list pl.isList fun h' a1 a2 a3 a4=>?_
 refine wpAny_pyIter_enum (s:={ s1 with heap:=h' }) a1 ?_;exists s1.heap.objs.size+1,[s1.heap.objs.size+1,s1.heap.objs.size],_,_,H1,rfl,I1.kept (t':=s1.toks) fun b o e=>a4 b o e,DO (show (s1.heap.objs.size+1:Nat)≠s1.heap.objs.size by omega) a,⟨⟨_,a1⟩,a2⟩,fun b hb=>?_,q
 have le:s1.heap.objs.size<=b:=by
  simp only [Xa,Xe,or_false] at hb;rcases hb with rfl | rfl
  ·exact Nat.le_add_right _ _
  ·exact Xc _
 exact I1.fpOk le (I1.hok.fresh le)
end
theorem Gp {K:Frag} {a:Addr} {xs:List V} {g:TG} {tb:TS} {D:jx} {σ:St} {H:Hp} (Pv:Nat->St->Hp->Prop) (h0:Pv 0 σ H) (hl:∀ i σ H,i<=xs.length->Pv i σ H->SqL K H a xs)
  (hs:∀ (i:Nat) x σ H p,xs[i]?=some x->Pv i σ H->H p=none->g (.ref p) σ (upd H p (.tup [.int (i:Int),x])) fun σ2 H2=>tb { D with nx:=Pv (i+1),ct:=Pv (i+1),bk:=D.nx } σ2 H2) (hd:∀ σ H,Pv xs.length σ H->D.nx σ H) :
  ∃ W:Nat->Nat->St->Hp->Prop,(∃ m,W 0 m σ H)/\∀ i m σ H,W i m σ H ->
   ((Ite K a).stop i H/\D.nx σ H)\/((Ite K a).go i H/\∃ N:St->Hp->Prop,(∀ σ' H',N σ' H'->∃ m',m'<m/\W (i+1) m' σ' H')/\∀ x H',(Ite K a).yld i H x H'->g x σ H' fun σ2 H2=>tb { D with nx:=N,ct:=N,bk:=D.nx } σ2 H2):=by
 exists fun i m σ H=>m=xs.length - i/\i<=xs.length/\Pv i σ H,⟨xs.length,by simp,Xj _,h0⟩,?_
 rintro i m σ H ⟨rfl,hi,p⟩
 have q:=hl i σ H hi p
 by_cases hlt:i<xs.length
 ·refine .inr ⟨⟨xs,xs[i],q,by simp [hlt]⟩,Pv (i+1),fun σ' H' p'=>⟨xs.length - (i+1),by omega,rfl,hlt,p'⟩,fun x H' y=>?_⟩;obtain ⟨pp,xx,h1,rfl,rfl,y⟩:=y;exact hs i xx σ H pp (y xs q) p h1
 ·have e:i=xs.length:=by omega
  subst e;exact .inl ⟨⟨xs,q,Xc _⟩,hd σ H p⟩
end L2
namespace K6
open PySem L2
noncomputable def RSt.n (s:RSt):Nat:=s.recs.length+s.funs.length+s.vars.length+s.bods.length+(s.bods.map fun b=>b.2.length).sum
theorem CM:∀ {l:List (Out×List S)} {b:Out×List S},b∈l->b.2.length<=(l.map fun b=>b.2.length).sum
 | a::r,b,h=>by
  simp only [Xp,Yd];rcases Xa.mp h with rfl | h
  ·omega
  ·have:=CM h; omega
theorem LQ {s:RSt} (h:s.n<=100):Bnd s:=by
 unfold RSt.n at h;exists by omega,by omega,by omega,by omega,fun b hb=>by have:=CM hb; omega
theorem NE {s s':RSt} {r:Row} (h:Stp s r s'):s'.n<=s.n+1:=by
 cases h with
 | rc hh hf=>simp only [RSt.n,W7,W9,Xd]; omega
 | fn hh hf=>simp only [RSt.n,W9,Xd,Xp,XZ,Yd,aaw]; omega
 | lo hh hf=>simp only [RSt.n,W7,W9,Xd]; omega
 | els hh hb=>simp only [RSt.n,hb,W7,W9,Xd,Xp,Yd]; omega
 | enB hh hb=>simp only [RSt.n,hb,W7,W9,Xd,Xp,Yd]; omega
 | enF hh hb=>simp only [RSt.n,hb,W7,W9,Xd,Xp,XZ,Yd,aaw]; omega
 | st hh hb=>simp only [RSt.n,hb,W7,W9,Xd,Xp,Yd]; omega
 | op hh hb=>simp only [RSt.n,hb,W7,W9,Xd,Xp,Yd]; omega
structure rV (r:Row):Prop where
 ok:KA r
 ws:∀ z∈r.ws,z∈WS8
 len:r.ws.length<=1000000
 ne:r.ws≠[]
theorem Pd:rV .els:=⟨trivial,bT (fx _ ()) iu,by simp [Row.ws],by simp [Row.ws]⟩
theorem JP:rV .en:=⟨trivial,bT (fx _ ()) iu,by simp [Row.ws],by simp [Row.ws]⟩
theorem Dt {s:S} (h:WfS s) (hb:W s.d<=1000000):rV (.st s):=by
 have l:=XC (HU s h) hb;exists ⟨h,l⟩,MN (n:=.s s) h,l,fun e=>?_
 obtain ⟨z,r,e',_⟩:=ki s
 have:hW s=[]:=e
 rw [e'] at this;cases this
mutual
theorem g_s:∀ s:S,WfS s->W s.d<=1000000->∀ r∈gn s,rV r
 | .if_ cc a b,h,hb,r,hr=>by
  have h':=h;have RU:=hb;simp only [WfS] at h';simp only [S.d,W,WS] at RU;simp only [gn,Xa,Xm,Xe,or_false] at hr;rcases hr with rfl | hr | rfl | hr | rfl
  ·exact Dt h hb
  ·exact Gr a h'.2.1 (by omega) r hr
  ·exact Pd
  ·exact Gr b h'.2.2 (by omega) r hr
  ·exact JP
 | .while_ cc a,h,hb,r,hr=>by
  have h':=h;have RU:=hb;simp only [WfS] at h';simp only [S.d,W,WS] at RU;simp only [gn,Xa,Xm,Xe,or_false] at hr;rcases hr with rfl | hr | rfl
  ·exact Dt h hb
  ·exact Gr a h'.2 (by omega) r hr
  ·exact JP
 | .let_ x e,h,hb,r,hr=>by
  simp only [gn,Xa,Xe,or_false] at hr;rw [hr]; exact Dt h hb
 | .say x e,h,hb,r,hr=>by
  simp only [gn,Xa,Xe,or_false] at hr;rw [hr]; exact Dt h hb
 | .call x g e,h,hb,r,hr=>by
  simp only [gn,Xa,Xe,or_false] at hr;rw [hr]; exact Dt h hb
 | .give e,h,hb,r,hr=>by
  simp only [gn,Xa,Xe,or_false] at hr;rw [hr]; exact Dt h hb
theorem Gr:∀ ss:List S,jR ss->WS (S.ds ss)<=1000000->∀ r∈fW ss,rV r
 | [],_,_,r,hr=>by simp only [fW] at hr; exact nomatch hr
 | s::q,h,hb,r,hr=>by
  simp only [jR] at h;simp only [S.ds,WS] at hb;simp only [fW,Xm] at hr;rcases hr with hr | hr
  ·exact g_s s h.1 (by omega) r hr
  ·exact Gr q h.2 (by omega) r hr
end
theorem Cj {R:List Rec} (g:d4 R) {k:Str} (h:k∈KS R):k∈PL\/k∈bg:=by
 unfold KS at h;rcases Xm.mp h with h | h
 ·exact .inl h
 ·obtain ⟨r,hr,rfl⟩:=Xr.mp h;exact .inr (ck g hr).1
theorem CN:∀ {FS:List cB} {r:Row},r∈ix FS->∃ F∈FS,r∈kC F
 | F::q,r,h=>by
  simp only [ix,Xm] at h;rcases h with h | h
  ·exists F,Xl,h
  ·obtain ⟨G,hG,e⟩:=CN h;exists G,Xg _ hG,e
theorem OR {R:List Rec} {HS:List cX} {FS:List cB} (o:rT R HS FS):∀ r∈fQ R FS,rV r:=by
 intro r hr;unfold fQ at hr;rcases Xm.mp hr with hr | hr
 ·obtain ⟨q,hq,rfl⟩:=Xr.mp hr;obtain ⟨h1,h2,h3⟩:=ck o.g hq;have l:=fZ q.2;exists ⟨h1,fun p hp=>⟨h2.2.2 p hp,Cj o.g (h3 p hp)⟩,by omega⟩,FZ o.g hq,by simp only [Row.ws,W7,W9,Xd]; omega,by simp [Row.ws]
 ·obtain ⟨F,hF,hr⟩:=CN hr;obtain ⟨fw,ho⟩:=o.fw hF;have l5:=ho.l5;rw [W7] at l5;simp only [kC,Xm,Xr,Xi] at hr;rcases hr with ((rfl | ⟨p,hp,rfl⟩) | hr) | rfl
  ·have l:=fZ F.1.2.1;exists ⟨fun p hp=>?_,by simp only [W9]; omega⟩,FL o.g ho,by simp only [Row.ws,fl,W7,W9,Xd]; omega,by simp [Row.ws]
   rcases Xa.mp hp with rfl | hp
   ·exists ho.nm,Cj o.g ho.gv
   ·have:=ho.vs p (XD _ hp)
    exists this.1,Cj o.g this.2
  ·have:=ho.vs p (Xy _ hp)
   exists ⟨this.1,Cj o.g this.2⟩,Iq o.g ho hp,by simp [Row.ws,fl],by simp [Row.ws]
  ·exact Gr F.2 fw.wf fw.sz r hr
  ·exact JP
theorem L4 {R:List Rec} {HS:List cX} {FS:List cB} (o:rT R HS FS):(fQ R FS).length<=100/\1<=FS.length:=by
 have e:(fQ R FS).length=(aX R FS).length:=by rw [<- oX,W8]
 have lF:FS.length=HS.length:=by rw [<- o.eh,W8]
 have h1:=o.hs.l1;have h3:=o.hs.l3;have rl:=o.rl;have l:=pS (FS:=FS) (fun F hF=>by
  obtain ⟨fw,ho⟩:=o.fw hF;have l5:=ho.l5
  have:=fw.rl
  rw [W7] at l5;simp only [iI,W7,W9,Xd,W8]
  omega) FS.length
 rw [Xo] at l;rw [e];simp only [aX,W7,W8];omega
theorem Ch:∀ ws:List Str,(J ws).length<=jl SPC ws
 | []=>Xj _
 | [x]=>by
  show x.length<=_;simp only [jl,Xp,XZ,Yd,aaw];omega
 | x::y::r=>by
  have h:=Ch (y::r);have h3:SPC.length=1:=rfl;rw [va,strLen_append,strLen_append];simp only [jl,Xp,Yd,W9,h3] at h ⊢;omega
theorem DG {r:Row} (g:rV r):Txt.split (pH r) SPC=r.ws/\(pH r).length+2<=16777216:=by
 exists zb g.ne fun z hz=>(vQ z (g.ws z hz)).1,?_
 have h1:=nS g.ws;have h2:=g.len;have h3:(pH r).length<=jl SPC r.ws:=Ch _;omega
open PySem L2
section
variable {P:Program} {w:World} {K:Frag} {mg:Str->Option Value} {base:Heap} {f g:Addr} {fd gd:FuncData} {C:Addr}
abbrev Me:List Str:=["rows", "reading", "number", "row"]
theorem o6:aA Me ["rows"] (defScope yK):=ZU 0
inductive LX (K:Frag) (vs:List V) (H:Hp) (Q:VK) (bu:XK):Prop
 | mk (l R FS):(vs=[.ref l])->(H l=some (.lst ((aX R FS).map V.str)))->((∀ r∈fQ R FS,rV r))->((fQ R FS).length<=100)->(1<=FS.length)->(∀ v H',av H H'->vg K H' v R FS->Q v H')->LX K vs H Q bu
theorem JH (T:G0 mg) (TE:mg "enumerate"=none) (TC:GC K C) (Eo:mg "Reading"=some (.ref C)) (DM:∃ g gd,eI P w K mg base CX0 1 g gd ["self"] (Fq K C)/\cH K gd ["self"] []/\Mk K C g)
  (M4:MCal P w K mg base C 7 "take" ["self", "words"] (Lw K C)) (Er:MCal P w K mg base C 1 "is_done" ["self"] (LT K C)) (F:Zc "read" yK):Zb 8 ["rows"] (LX K):=by
 have cC:=TC.c;obtain ⟨R3,Qy,Nf,MW,Ei⟩:=DM;obtain ⟨Ru,QH,Nl,Nk,M0⟩:=M4.ex;obtain ⟨Nw,Nm,Em,Et,Eh⟩:=Er.ex;refine ZR F o6
 ·obtain ⟨l,R,FS,rfl,_⟩:=h
  rfl
 obtain ⟨l,R,FS,rfl,hl,hG,Ql,h1F,q⟩:=h;obtain ⟨vE,bE,hrun⟩:=L1 R FS;rw [<- oX] at hl;generalize fQ R FS=rows at hl hG Ql hrun;exists _,(Z2 (ZA 1 o6.nd (Gy (C:=C) Ei Nf (hr.mono (by omega)) rfl Eo MW .nil dU)) (Z2 (ZM (Jr rfl TE (pv 0)) (ff rfl (aE (ZO 2 o6.nd) (aE (ZO 3 o6.nd) b9))) (Z3 (ZB (dI (di (iH (C:=C) (pv 1) cC M0 Nl (hr.mono (by omega)) Nk .nil dU (Z0 (ZH XN PySem.F.slot_str_split PySem.F.type_str_split Hs (pv 3) (Z0 ag)))))) (Z3 xi)))) (Z2 (ZB (dI (di (EG (C:=C) (pv 1) cC Eh Em (hr.mono (by omega)) Et .nil dU))) (Z3 xi)) (Z3 (Z7 (ZF (Z1 (ZK aH T.tuple bU (Z0 (ZN (pv 1)))) (Z0 (ZK aH T.tuple bU (Z0 (ZN (pv 1)))))))))))),?_;show let v1:L2.TS:=_; let v2:=am _ v1; let v3:L2.TS:=_; let v4:=am (gW _ _ v3) v2; (am _ v4) _ _ _;intro v1 v2 v3 v4;intro x dx nx ndx nex;exists x,dx,H,rfl,ac,(fun b u hb=>by rw [aj (ay hb nx),aj (ay hb ndx)]; exact hb),nx,fun H1 G1 S1=>⟨rfl,?_⟩
 refine ⟨_,rfl,l,rfl,⟨_,SqL.of (G1 _ _ hl)⟩,Gp (xs:=(rows.map pH).map V.str) (fun j σ H5=>∃ m2 m3 st,σ=[some (.ref l),some (.ref x),m2,m3]/\av H H5/\RS K C H x H5 st/\st.n<=j/\iC st (rows.drop j) ⟨R,FS,none,vE,bE⟩)
  ⟨none,none,_,rfl,G1,S1,Xc _,hrun⟩ (fun j σ H5 _ p=>?_) (fun j x2 σ H5 pp Pj p hpp=>?_) (fun σ H5 p=>?_)⟩
 ·obtain ⟨_,_,_,rfl,g5,_⟩:=p;exact SqL.of (g5 _ _ hl)
 ·obtain ⟨m2,m3,st,rfl,G5,S5,hn,hrn⟩:=p;rw [XE,XE] at Pj;obtain ⟨z,hz,rfl⟩:=XQ.mp Pj;obtain ⟨row,hrow,rfl⟩:=XQ.mp hz;have hj:j<rows.length:=(Xv.mp hrow).1;have ed:rows.drop j=row::rows.drop (j+1):=by
   rw [Zk hj];rw [XA hj] at hrow;rw [Option.some.inj hrow]
  rw [ed] at hrn;obtain ⟨iK,hst,hrn'⟩:∃ iK,Stp st row iK/\iC iK (rows.drop (j+1)) ⟨R,FS,none,vE,bE⟩:=by
   cases hrn with
   | cons a b=>exact ⟨_,a,b⟩
  have hg:=hG row (Xh hrow);obtain ⟨esp,lsp⟩:=DG hg;have gp:=ad hpp (.tup [.int (j:Int),.str (pH row)]);obtain ⟨PC,rl,fn,vl,bl,hv,rs,fs,vs,bs,ls,h1,_⟩:=S5.ex;exists pp,_,rfl,SqT.of ac,rfl,_,_,rfl,_,_,rfl,rfl,?_;exists _,rfl,x,PC,_,rfl,gp _ _ h1,rfl,_,rfl,rfl,pH row,SPC,rfl,congrArg (fun z=>[V.str z]) eK,rfl,(by rw [sizeLine_eq]; exact lsp),fun D hD=>?_
  rw [esp];have gD:=ad hD (.lst (row.ws.map V.str));have gg:=gp.trans gD;exists x,H,st,iK,D,row,rfl,S5.same gg,G5.trans gg,ac,LQ (by omega),hg.ok,hst,fun H6 g6 r6=>⟨_,rfl,fI ?_⟩
  exists _,_,iK,rfl,g6,r6,by have:=NE hst; omega,hrn'
 ·obtain ⟨m2,m3,st,rfl,G5,S5,hn,hrn⟩:=p;rw [W8,W8,Zq] at hrn;obtain rfl:st=⟨R,FS,none,vE,bE⟩:=by cases hrn; rfl
  have VR:=S5;obtain ⟨PC,rl,fn,vl,bl,hv,rs,fs,vs,bs,ls,h1,h2,h3,h4,h5,_⟩:=VR.ex;exists _,rfl,x,PC,_,rfl,h1,rfl,x,H,_,rfl,S5,rfl,h1F,⟨_,rfl,fI ?_⟩;exists _,rfl,x,C,PC,_,_,rfl,h1,cC,TC.n "records" (),rfl,rl,rs,rfl,.inl ⟨SqL.of h2,fun t1 Nu=>?_⟩;have q1:=ad Nu (.tup rs);exists _,rfl,x,C,PC,_,_,rfl,q1 _ _ h1,cC,TC.n "functions" (),rfl,fn,fs,rfl,.inl ⟨SqL.of (q1 _ _ h4),fun t2 P7=>⟨zl2,fun t3 V6=>?_⟩⟩;have q2:=ad P7 (.tup fs);have q3:=ad V6 (.tup [.ref t1,.ref t2]);have gg:=q1.trans (q2.trans q3);have kk:=ao gg;exact q _ _ (G5.trans gg) ⟨t3,.ref t1,t2,fs,rfl,ac,⟨t1,rs,rfl,q3 _ _ (q2 _ _ ac),Paired.mapP h3 fun _ _ z=>z.mono kk⟩,q3 _ _ ac,Paired.mapP h5 fun _ _ z=>z.mono kk⟩
end
open PySem L2
theorem o7 {α:Type} {K:Frag} {H:Hp} {F:V->α->Prop} {f:α->PyData} (h:∀ x a,F x a->DT K H x (f a)):∀ {xs:List V} {l:List α},Paired F xs l->DTs K H xs (l.map f)
 | _,_,.nil=>.nil
 | _,_,.cons a b=>.cons (h _ _ a) (o7 h b)
noncomputable def LY (p:Fld):PyData:=.tuple [.str p.1,.str p.2]
noncomputable def wT (fs:List Fld):PyData:=.tuple (fs.map LY)
noncomputable def DJ (r:Rec):PyData:=.tuple [.str r.1,wT r.2]
noncomputable def GS (F:cB):PyData:=.tuple [.str F.1.1,wT F.1.2.1,wT F.1.2.2.1,.str F.1.2.2.2,.tuple (S.ds F.2)]
noncomputable def pgD (R:List Rec) (FS:List cB):PyData:=.tuple [.tuple (R.map DJ),.tuple (FS.map GS)]
section
variable {K:Frag} {H:Hp} {v:V}
theorem b8.dt {p:Fld} (h:b8 H v p):DT K H v (LY p):=by
 obtain ⟨a,rfl,h⟩:=h;exact .tup (.inl h) (.cons (.str _) (.cons (.str _) .nil))
theorem bK.dt {p:List Fld} (h:bK H v p):DT K H v (wT p):=by
 obtain ⟨a,xs,rfl,h,q⟩:=h;exact .tup (.inl h) (o7 (fun _ _ z=>b8.dt z) q)
theorem ka.dt {p:Rec} (h:ka H v p):DT K H v (DJ p):=by
 obtain ⟨a,y,rfl,h,q⟩:=h;exact .tup (.inl h) (.cons (.str _) (.cons q.dt .nil))
theorem gi.dt {p:List Rec} (h:gi H v p):DT K H v (.tuple (p.map DJ)):=by
 obtain ⟨a,xs,rfl,h,q⟩:=h;exact .tup (.inl h) (o7 (fun _ _ z=>ka.dt z) q)
theorem lu.dt {F:cB} (h:lu K H v F):DT K H v (GS F):=by
 obtain ⟨a,p,q,bb,xs,rfl,h1,h2,h3,h4,h5⟩:=h;exact .tup (.inl h1) (.cons (.str _) (.cons h2.dt (.cons h3.dt (.cons (.str _) (.cons (.tup (.inl h4) h5) .nil)))))
theorem vg.dt {R:List Rec} {FS:List cB} (h:vg K H v R FS):DT K H v (pgD R FS):=by
 obtain ⟨a,y,z,fx,rfl,h1,h2,h3,h4⟩:=h;exact .tup (.inl h1) (.cons h2.dt (.cons (.tup (.inl h3) (o7 (fun _ _ z=>lu.dt z) h4)) .nil))
end
theorem Cw {α:Type} {f:α->PyData} {m b:Nat}:∀ {l:List α},(∀ a∈l,a9 m b (f a))->a8 m (l.length*(b+2)) (l.map f)
 | [],_=>nz.mono (Xc _) (Xj _)
 | a::r,h=>by
  have:=a8.cons (h a Xl) (Cw (l:=r) fun x hx=>h x (Xg _ hx))
  refine this.mono (Xc _) ?_;rw [W9,YD];omega
theorem Kw {z:Str} (h:z∈PL):z∈WD:=by
 unfold WD;simp only [Xm];exact .inr h
theorem Pc {p:Fld} (h1:p.1∈WD) (h2:p.2∈WD):a9 1 31 (LY p):=(a8.cons (nW h1) (a8.cons (nW h2) nz)).tup
theorem Aw {l:List Fld} (hl:l.length<=5) (h:∀ p∈l,p.1∈WD/\p.2∈WD):a9 2 168 (wT l):=by
 refine (Cw fun p hp=>Pc (h p hp).1 (h p hp).2).tup.mono (Xc _) ?_
 have:=X0 33 hl
 omega
theorem O1 {r:Rec} (h0:r.1∈WD) (hl:r.2.length<=5) (h:∀ p∈r.2,p.1∈WD/\p.2∈WD):a9 3 187 (DJ r) :=
 (a8.cons ((nW h0).mono (Xj _) (Xc _)) (a8.cons (Aw hl h) nz)).tup
theorem NK {F:cB} (h0:F.1.1∈WD) (h3:F.1.2.2.2∈WD) (hl:(F.1.2.1++F.1.2.2.1).length<=5) (h:∀ p∈F.1.2.1++F.1.2.2.1,p.1∈WD/\p.2∈WD) (hb:a8 23 (8*BS) (S.ds F.2)):a9 25 (8*BS+376) (GS F):=by
 rw [W7] at hl;have n1:=Aw (l:=F.1.2.1) (by omega) fun p hp=>h p (XD _ hp)
 have n2:=Aw (l:=F.1.2.2.1) (by omega) fun p hp=>h p (Xy _ hp)
 refine (a8.cons ((nW h0).mono (Xj 24) (Xc _)) (a8.cons (n1.mono (by omega) (Xc _)) (a8.cons (n2.mono (by omega) (Xc _)) (a8.cons ((nW h3).mono (Xj _) (Xc _)) (a8.cons hb.tup nz))))).tup.mono (Xc _) (by omega)
theorem Rb {B:Nat} {x y:PyData} (n1:a9 26 570 x) (n2:a9 26 (3*(B+378)+3) y):a9 27 (570+2+(3*(B+378)+3+2)+3) (.tuple [x,y]):=(a8.cons n1 (a8.cons n2 nz)).tup.mono (Xc _) (by omega)
noncomputable def BP:Nat:=570+2+(3*(8*BS+378)+3+2)+3
theorem NV:BP<=sizeLine:=by rw [sizeLine_eq]; decide +kernel
theorem Kv {R:List Rec} (g:d4 R) {k:Str} (h:k∈KS R):k∈WD:=by
 rcases Xm.mp h with h | h
 ·exact Kw h
 ·obtain ⟨r,hr,rfl⟩:=Xr.mp h;obtain ⟨i,hi⟩:=aaj.mp hr;exact dg (g i r hi).1
theorem rT.nice {R:List Rec} {HS:List cX} {FS:List cB} (o:rT R HS FS):a9 27 BP (pgD R FS):=by
 have nR:a8 3 (R.length*189) (R.map DJ):=Cw fun r hr=>by
  obtain ⟨i,hi⟩:=aaj.mp hr;obtain ⟨h1,⟨⟨_,h3⟩,_,h4⟩,h5⟩:=o.g i r hi;refine O1 (dg h1) (by omega) fun p hp=>⟨dg (h4 p hp),?_⟩
  rcases h5 p hp with h | ⟨j,r',_,hj,h⟩
  ·exact Kw h
  ·rw [<- h]; exact dg (o.g j r' hj).1
 have nF:a8 25 (FS.length*(8*BS+378)) (FS.map GS):=Cw fun F hF=>by
  have hm:F.1∈HS:=by rw [<- o.eh]; exact Xr.mpr ⟨F,hF,rfl⟩
  have ho:=o.hs.ok F.1 hm;have fo:=o.ok F hF;refine NK (dg ho.nm) (Kv o.g ho.gv) ho.l5 (fun p hp=>⟨dg (ho.vs p hp).1,Kv o.g (ho.vs p hp).2⟩) ?_;exact (fS fo.ns).mono (by decide) (X0 _ fo.c8)
 have lF:FS.length<=3:=by
  have:=o.hs.l3
  rw [<- o.eh,W8] at this;exact this
 have m1:=X0 189 o.rl;have m2:=X0 (8*BS+378) lF;have n1:a9 26 570 (.tuple (R.map DJ)):=nR.tup.mono (by omega) (by omega);have n2:a9 26 (3*(8*BS+378)+3) (.tuple (FS.map GS)):=nF.tup.mono (by omega) (by omega);unfold BP pgD;exact Rb n1 n2
open PySem L2
theorem a9.d60 {m b:Nat} {d:PyData} (n:a9 m b d) (hm:m<=60):d.depth<=60:=XC n.dp hm
theorem a9.szl {m b:Nat} {d:PyData} (n:a9 m b d) (hb:b<=sizeLine):d.shown.length<=sizeLine:=XC (xH d n.nd) (XC n.sz hb)
theorem pU:∀ l:List Str,(∀ z∈l,PyData.strOk z=true)->PyData.canLayAll0 (l.map PyData.str)=true
 | [],_=>rfl
 | z::r,h=>by simp only [Xp,PyData.canLayAll0,PyData.canLay0,pU r fun y hy=>h y (Xg _ hy),h z Xl,Bool.and_true]
theorem Cq:∀ z∈WS8,PyData.strOk z=true:=()
theorem Ck {a b:Str} (ha:PyData.strOk a=true) (hb:PyData.strOk b=true):PyData.strOk (a++b)=true:=by
 unfold PyData.strOk at *;show (a.cps++b.cps).all _=true;rw [Array.all_append,ha,hb]
 rfl
theorem O0:∀ ws:List Str,(∀ z∈ws,z∈WS8)->PyData.strOk (J ws)=true
 | [],_=>()
 | [x],h=>Cq x (h x Xl)
 | x::y::r,h=>by
  rw [va];exact Ck (Ck (Cq x (h x Xl)) ()) (O0 (y::r) fun z hz=>h z (Xg _ hz))
theorem Ln {R:List Rec} {FS:List cB} (h:∀ r∈fQ R FS,rV r):∀ z∈aX R FS,PyData.strOk z=true:=fun z hz=>by
 rw [<- oX] at hz;obtain ⟨r,hr,rfl⟩:=Xr.mp hz;exact O0 _ (h r hr).ws
theorem Cp:∀ l:List Str,PyData.depthAll (l.map PyData.str)=0
 | []=>rfl
 | z::r=>by simp only [Xp,PyData.depthAll,PyData.depth,Cp r,Nat.max_self]
noncomputable def fm (l:List Str):PyData:=.list (l.map PyData.str)
theorem JJ {l:List Str} (h:∀ z∈l,PyData.strOk z=true):SeqAt.shaped (fm l)=true:=by
 simp only [fm,SeqAt.shaped,PyData.canLay0,PyData.depth,pU l h,Cp,Bool.true_and]
 decide
theorem HG {l:List Str} (h:∀ z∈l,PyData.strOk z=true):PyData.eqv (fm l) (fm l)=true:=SeqAt.eqv_refl _ (by simp only [fm,PyData.canLay0,pU l h])
theorem CT {K:Frag} {H:Hp}:∀ l:List Str,iJ K H (l.map V.str) (l.map PyData.str)
 | []=>.nil
 | z::r=>.cons (.str z) (CT r)
theorem jp {K:Frag} {H:Hp} {a:Addr} {l:List Str} (h:H a=some (.lst (l.map V.str))):RdD K H (.ref a) (fm l):=.lst (SqL.of h) (CT l)
noncomputable def F0:List cB:=[(("a",[],[], "num"),[])]
theorem Q3:∀ r∈fQ [] F0,rV r:=by
 intro r hr;have e:fQ [] F0=[.fn [("a", "num")],.en]:=by simp [fQ,F0,ix,kC,fW]
 rw [e] at hr;simp only [Xa,Xe,or_false] at hr;rcases hr with rfl | rfl
 ·exists ⟨fun p hp=>?_,by simp⟩,?_,by simp [Row.ws,fl],by simp [Row.ws]
  ·rw [Xi.mp hp];exists (),.inl ()
  ·exact bT (fx _ ()) (bT (cx ()) (bT (fx _ ()) iu))
 ·exact JP
theorem N5:aX [] F0=(["function a num", "end"]:List Str):=()
theorem d0:(pgD [] F0).showable=true/\(pgD [] F0).hasDict=false/\(pgD [] F0).depth<=60/\(pgD [] F0).shown.length<=sizeLine:=by
 rw [sizeLine_eq]
 decide +kernel
section
variable {P:Program} {w:World} {K:Frag} {mg:Str->Option Value} {base:Heap} {f g:Addr} {fd gd:FuncData}
inductive CV (K:Frag) (vs:List V) (H:Hp) (Q:VK) (bu:XK):Prop
 | mk (a:Addr) (ns:List Int):(vs=[.ref a])->(SqL K H a (ns.map V.int))->(∀ H',Q (.bl true) H')->CV K vs H Q bu
abbrev Oz:List Str:=["_law_script", "_law_tape_here", "_law_turn", "_law_program_here", "_law_due", "_law_rows_here", "_law_found"]
theorem jT:aA Oz ["_law_script"] (defScope CO):=ZU 0
theorem LP (T:G0 mg) (F:Zc "law" CO) (Iu:Za 8 "read" ["rows"] (LX K)) (C4:Za 4 "shown" ["program"] (xS K)) (nB:Za 26 "_law_program_rows" ["_law_program_here"] (xS K)) (yh:Za 23 "_law_program" ["_law_tape_here"] (lS K)) (IF:Za 1 "_law_tape" ["_law_script"] (Bm K)):Zb 27 ["_law_script"] (CV K):=by
 refine ZR F jT
 ·obtain ⟨a,ns,rfl,_⟩:=h
  rfl
 obtain ⟨a,ns,rfl,hS,q⟩:=h;have hbp:=NV;exists _,(Z2 (ZA 1 jT.nd (Z6 IF (Z0 (pv 0)))) (Z2 (ZM (el rfl T.range (Z0 af)) (ZO 2 jT.nd) (Z2 (ZA 3 jT.nd (Z6 yh (Z0 (pv 1)))) (Z2 (ZA 4 jT.nd (Z6 nB (Z0 (pv 3)))) (Z2 (ZA 5 jT.nd (Z6 C4 (Z0 (pv 3)))) (Z2 (ZB (PW.pt (cK (dI (di (ZJ f8 T.isi pB (Z1 (pv 5) (Z0 (iq (v:=.ty "list") rfl T.list dR rfl)))))) (cm (Z8 (yH hr.units) (pv 5) (pv 4))))) (Z3 (Z7 dj))) (Z2 (ZA 6 jT.nd (Z6 Iu (Z0 (pv 5)))) (Z2 (ZB (PW.pt (cK (Z8 kz (ZJ (d9 hr.units hr.gd) T.repr mX (Z0 (pv 6))) (ZJ (d9 hr.units hr.gd) T.repr mX (Z0 (pv 3)))) (cm (Z8 (yH hr.units) (pv 5) (pv 4))))) (Z3 (Z7 dj))) (Z2 (@gJ _ _ _ _ _ _ ag (pz (pv 5) af iX) rfl rfl rfl) (Z2 (ZL (ZG (pv 5) (Z0 ag))) (Z3 (ZB (PW.pt (cK (Z8 kz (ZJ (d9 hr.units hr.gd) T.repr mX (Z0 (pv 6))) (ZJ (d9 hr.units hr.gd) T.repr mX (Z0 (pv 3)))) (cm (Z8 (yH hr.units) (Z6 C4 (Z0 (pv 6))) (pv 4))))) (Z3 (Z7 dj))))))))))))) (Z3 (Z7 (@gw _ _ _ _ _ _ _ _ aJ (ZJ (d9 hr.units hr.gd) T.repr mX (Z0 (Z6 Iu (Z0 (ZD (Z1 ag (Z0 ag))))))) (ZJ (d9 hr.units hr.gd) T.repr mX (Z0 (ZF (Z1 (ZF aq) (Z0 (ZF (Z0 (ZF (Z1 ag (Z1 (ZF aq) (Z1 (ZF aq) (Z1 ag (Z0 (ZF aq)))))))))))))) (cZ _)))))),?_;show let v1:L2.TS:=_; let v2:L2.TS:=_; let v3:=am _ v2; let v4:=am _ v3; let v5:=am _ v4; let v6:=am _ v5; let v7:=am _ v6; let v8:=am _ v7; let v9:=am _ v8; let oK:=am _ v9; let wN:=am (gW _ _ oK) v1; (am _ wN) _ _ _;intro v1 v2 v3 v4 v5 v6 v7 v8 v9 oK wN;exists _,rfl,a,ns,rfl,hS,fun tp H1 g1 t1=>?_
 exists 4,rfl,by decide,by decide,jr (n:=4) (fun i σ H'=>∃ m2 m3 m4 m5 m6,σ=[some (.ref a),some (.ref tp),m2,m3,m4,m5,m6]/\Tp H' tp) ⟨none,none,none,none,none,rfl,t1⟩ (fun i0 σ H' hi pv=>?_) (fun σ H' pv=>?_)
 ·obtain ⟨m2,m3,m4,m5,m6,rfl,t0⟩:=pv;exists _,rfl,tp,rfl,t0,fun v R HS FS B G2 hP oP=>?_
  have tB:=G2.t;have hn:=oP.nice;exists _,rfl,v,R,HS,FS,rfl,hP,oP,fun rd Ha ga nrd QM=>?_
  exists _,rfl,v,R,HS,FS,rfl,hP.mono (ao ga),oP,fun rr Hb gb nrr Ny=>?_
  have MR:=gb _ _ QM;have hne:rd≠rr:=fun z=>by rw [z] at QM; rw [QM] at nrr; cases nrr
  obtain ⟨Sz,TL⟩:=L4 oP;have lrows:(aX R FS).length<=100/\0<(aX R FS).length:=by
   rw [<- oX,W8];exists Sz,?_;cases FS with
   | nil=>exact absurd TL (by simp)
   | cons F r=>simp only [fQ,ix,kC,W7,W9,Xd]; omega
  exists _,rfl,_,_,_,true,rfl,.lst Ny,rfl,_,rfl,fI ?_;have sk:=Ln (OR oP);have Nq:=JJ sk;have lE:(if true=true then !PyData.eqv (fm (aX R FS)) (fm (aX R FS)) else PyData.eqv (fm (aX R FS)) (fm (aX R FS)))=false:=by rw [HG sk]; rfl
  exists _,rfl,_,rfl,fm (aX R FS),fm (aX R FS),jp Ny,jp MR,Nq,Nq,_,rfl,?_;rw [lE];refine fI ?_;exists _,rfl,rr,R,FS,rfl,Ny,OR oP,Sz,TL,fun u Hc gc hu=>?_
  have gAC:=ga.trans (gb.trans gc);exists _,rfl,_,pgD R FS,rfl,hu.dt.rd,hn.sh,hn.nd,hn.d60 (by decide),hn.szl hbp,_,rfl,_,pgD R FS,rfl,(hP.mono (ao gAC)).dt.rd,hn.sh,hn.nd,hn.d60 (by decide),hn.szl hbp,rfl,_,rfl,?_;refine au (fun c=>absurd c (by simp)) (fun c=>?_);exists _,rfl,_,rfl,fm (aX R FS),fm (aX R FS),jp (gc _ _ Ny),jp (gc _ _ MR),Nq,Nq,_,rfl,?_;rw [lE];refine fI ?_;have hrc:=gc _ _ Ny;exists _,rfl,rr,_,0,0,rfl,rfl,hrc,?_,?_
  ·unfold ixN;rw [if_pos (by omega),if_pos (by rw [W8]; omega)]
   rfl
  have kd:=aW hrc (.lst (((aX R FS).map V.str).set 0 (.str "end")));have PX:(upd Hc rr (.lst (((aX R FS).map V.str).set 0 (.str "end")))) rd=some (.lst ((aX R FS).map V.str)):=by rw [aj hne]; exact gc _ _ MR
  have fr:B rr=none:=ga.free nrr;have GD:av B (upd Hc rr (.lst (((aX R FS).map V.str).set 0 (.str "end")))):=az fr gAC;have hrD:(upd Hc rr (.lst (((aX R FS).map V.str).set 0 (.str "end")))) rr=some (.lst (((aX R FS).map V.str).set 0 (.str "end"))):=ac;change am _ _ _ _ (upd Hc rr (.lst (((aX R FS).map V.str).set 0 (.str "end"))));generalize (upd Hc rr (.lst (((aX R FS).map V.str).set 0 (.str "end"))))=Hd at kd PX GD hrD;exists _,rfl,.inl ⟨rfl,_,SqL.of hrD⟩,rr,_,_,rfl,rfl,hrD,ap (by rw [aaH,W8]; omega),?_;have ke:=kd.trans (aW hrD (.lst (((aX R FS).map V.str).set 0 (.str "end")++[.str "else"])));have PJ:(upd Hd rr (.lst (((aX R FS).map V.str).set 0 (.str "end")++[.str "else"]))) rd=some (.lst ((aX R FS).map V.str)):=by rw [aj hne]; exact PX
  have GE:av B (upd Hd rr (.lst (((aX R FS).map V.str).set 0 (.str "end")++[.str "else"]))):=az fr GD;have RC:=hu.mono ke;change am _ _ _ _ (upd Hd rr (.lst (((aX R FS).map V.str).set 0 (.str "end")++[.str "else"])));generalize (upd Hd rr (.lst (((aX R FS).map V.str).set 0 (.str "end")++[.str "else"])))=He at ke PJ GE RC;exists _,rfl,_,pgD R FS,rfl,RC.dt.rd,hn.sh,hn.nd,hn.d60 (by decide),hn.szl hbp,_,rfl,_,pgD R FS,rfl,(hP.mono (ao GE)).dt.rd,hn.sh,hn.nd,hn.d60 (by decide),hn.szl hbp,rfl,_,rfl,?_;refine au (fun c=>absurd c (by simp)) (fun c=>?_);exists _,rfl,u,R,HS,FS,rfl,RC,oP,fun r5 Hf gf WX Qa=>?_
  exists _,rfl,fm (aX R FS),fm (aX R FS),jp Qa,jp (gf _ _ PJ),Nq,Nq,_,rfl,?_;rw [lE];refine fI ?_;exists _,_,_,_,_,rfl,tB.same (GE.trans gf)
 ·obtain ⟨m2,m3,m4,m5,m6,rfl,t0⟩:=pv;exists zl2,fun l0 Qn=>?_
  exists l0,[],F0,rfl,(by rw [N5]; exact ac),Q3,(),(),fun u H2 g2 hu=>?_
  exists _,pgD [] F0,rfl,hu.dt.rd,d0.1,d0.2.1,d0.2.2.1,d0.2.2.2,?_;exists zl0,fun q0 Ww=>⟨zl0,fun q1 rN=>⟨zl0,fun q2 Ps=>⟨zl0,fun q3 MS=>⟨zl5,fun q4 J6=>⟨zl1,fun q5 Ni=>⟨zl2,fun q6 Ve=>?_⟩⟩⟩⟩⟩⟩
  have s1:=ad rN (.tup []);have s2:=ad Ps (.tup []);have s3:=ad MS (.tup []);have s4:=ad J6 (.tup [.str "a",.ref q1,.ref q2,.str "num",.ref q3]);have s5:=ad Ni (.tup [.ref q4]);have s6:=ad Ve (.tup [.ref q0,.ref q5]);have hp:vg K _ (.ref q6) [] F0:=⟨q6,.ref q0,q5,_,rfl,ac,⟨q0,[],rfl,(((((s1.trans s2).trans s3).trans s4).trans s5).trans s6) _ _ ac,.nil⟩,s6 _ _ ac,.cons ⟨q4,.ref q1,.ref q2,q3,[],rfl,(s5.trans s6) _ _ ac,⟨q1,[],rfl,((((s2.trans s3).trans s4).trans s5).trans s6) _ _ ac,.nil⟩,⟨q2,[],rfl,(((s3.trans s4).trans s5).trans s6) _ _ ac,.nil⟩,((s4.trans s5).trans s6) _ _ ac,.nil⟩ .nil⟩;exists _,pgD [] F0,rfl,hp.dt.rd,d0.1,d0.2.1,d0.2.2.1,d0.2.2.2,rfl,?_;rw [decide_eq_true rfl];exact q _
end
end K6
namespace HD
open PySem PySem.W
abbrev pE:Program:=PySem.Challenge.pw_everyfork_k08_shown_and_read
abbrev top:Nat->Stmt:=K6.top
abbrev sx:String->Str:=Xx
noncomputable abbrev de (P:Params) (x:Str) (t:Nat) (v:Value):DictEntry:=⟨PyData.keyHash P x,.str x t,v⟩
abbrev fd (i:Nat) (x qual:Str) (dV kV doc pm:Value) (an:Option Addr) (gm ct:Value):FuncData:=fnOf x qual (L2.defArgs (top i)) (L2.defBody (top i)) (L2.defScope (top i)) dV kV doc pm an gm ct
abbrev fd0 (i:Nat) (x qual:Str) (dV kV doc pm:Value) (an:Option Addr) (gm ct:Value):FuncData:={ fd i x qual dV kV doc pm an gm ct with globals:=0 }
abbrev mZ (i j:Nat):Stmt:=match top i with | .ClassDef (body:=b) ..=>b.getD j (.Pass ⟨0,0,0,0⟩) | s=>s
abbrev fdm (i j:Nat) (x qual:Str) (dV kV doc pm:Value) (an:Option Addr) (gm ct:Value):FuncData:=fnOf x qual (L2.defArgs (mZ i j)) (L2.defBody (mZ i j)) (L2.defScope (mZ i j)) dV kV doc pm an gm ct
abbrev QU (i j:Nat) (x qual:Str) (dV kV doc pm:Value) (an:Option Addr) (gm ct:Value):FuncData:={ fdm i j x qual dV kV doc pm an gm ct with globals:=0 }
noncomputable abbrev st (x:String) (t:Nat):Value:=.str (sx x) t
abbrev i0 (i:Int):Value:=.int i 0
noncomputable abbrev tu (l:List Value):Obj:=⟨.type "tuple",none,.seq ⟨l⟩ 0,#[]⟩
noncomputable abbrev co (l:List Value):Obj:=⟨.type "code",none,.fields ⟨l⟩,#[]⟩
noncomputable abbrev cy (n q:String) (a u L c f r:Nat):Obj:=co [st n a,st q (a+1),st "/claim/cut.py" (a+2),i0 L,i0 c,i0 0,i0 0,i0 f,.ref r,.bool true,i0 181,.ref (r+1),.none,.none,.none,.ref (r+2),i0 u,i0 L,st "/claim/cut.py" (u+1)]
noncomputable abbrev fmu (i j:Nat) (x q m:String) (t c:Nat):Obj:=⟨.type "function",none,.func (fdm i j (sx x) (sx q) .none .none .none (st m t) none (.ref c) .none),#[]⟩
noncomputable abbrev fmv (i j:Nat) (x q:String):Obj:=⟨.none,none,.func (QU i j (sx x) (sx q) .none .none .none .none none .none .none),#[]⟩
noncomputable abbrev cz (n q:String) (a u L c f r:Nat):Obj:=co [st n a,st q (a+1),st "/claim/cut.py" (a+2),i0 L,i0 c,i0 0,i0 0,i0 f,.ref r,.bool true,i0 181,.ref (r+1),.none,.ref (r+2),.ref (r+3),.ref (r+4),i0 u,i0 L,st "/claim/cut.py" (u+1)]
noncomputable abbrev dr (P:Params) (x:String) (t r:Nat):DictEntry:=de P (sx x) t (.ref r)
noncomputable abbrev fu (i:Nat) (x q m:String) (t c:Nat):Obj:=⟨.type "function",none,.func (fd i (sx x) (sx q) .none .none .none (st m t) none (.ref c) .none),#[]⟩
noncomputable abbrev fv (i:Nat) (x m:String) (t c:Nat):Obj:=fu i x x m t c
noncomputable abbrev fw (i:Nat) (x:String):Obj:=⟨.none,none,.func (fd0 i (sx x) (sx x) .none .none .none .none none .none .none),#[]⟩
noncomputable section
def m0:Nat:=11
def ann:Option Value:=some (.ref 6)
def env:Env:={ scope:=pE.main.scope,locals:=mainNs,globals:=mainNs,cells:=[],code:=.ref 13,frame:=some 14 }
abbrev cE:Code:=.body (behindTheImports pE) env
abbrev B:List Frame:=[topFrame ⟨0,0,0,0⟩]
def s0 (w:World) (os:OsState):Shared:=⟨boot_heap w.params,Array.mk [],boot_drawn,boot_toks,os⟩
def ah:Obj:=tu []
def aC:Obj:=⟨.none,none,.fields #[],#[]⟩
def xV:Obj:=co [st "<module>" 182,st "<module>" 183,st "/claim/cut.py" 184,i0 1,i0 0,i0 0,i0 0,i0 0,.ref 11,.bool false,i0 181,.ref 12,.none,.none,.none,.none,i0 185,i0 1,st "/claim/cut.py" 186]
def wY:Obj:=⟨.type "frame",none,.plain,#[some (.ref 13),some (.ref 3),some (.ref 3),none,some (st "__main__" 164),none,some (.ref 0)]⟩
def ha (P:Params):Heap:=⟨⟨[(boot_o_0 P),(boot_o_1 P),(boot_o_2 P),(boot_o_3 P),(boot_o_4 P),(boot_o_5 P),(boot_o_6 P),(boot_o_7 P),(boot_o_8 P),(boot_o_9 P),(boot_o_10 P),ah,aC,xV,wY]⟩,{ :Life }⟩
def sa (w:World) (os:OsState):Shared:=⟨ha w.params,#[],⟨0,0,0,0⟩,187,os⟩
theorem OE:∀ (w:World) (os:OsState),topGo treeTable pE w m0 ann 12 (s0 w os) (topStub pE)=some (sa w os,Thread.mk (denote treeTable cE) cE ⟨0,0,0,0⟩ B):=fun w os=>by kernel_rfl
def tb (P:Params):BT:=(ZT (boot_o_0 P) (ZT (boot_o_1 P) (ZT (boot_o_3 P) (ZS (boot_o_7 P)) (ZS ah)) (ZT (boot_o_5 P) (ZS (boot_o_9 P)) (ZS xV))) (ZT (boot_o_2 P) (ZT (boot_o_4 P) (ZS (boot_o_8 P)) (ZS aC)) (ZT (boot_o_6 P) (ZS (boot_o_10 P)) (ZS wY))))
def sb (w:World) (os:OsState):SharedT:=⟨tb w.params,15,{ :Life },#[],⟨0,0,0,0⟩,187,os⟩
theorem JE:∀ (w:World) (os:OsState),segRun treeTable pE w m0 ann 1 1 (sa w os) (blockOf (behindTheImports pE) env cE ⟨0,0,0,0⟩ B)=some (.next,(sb w os).abs,cE,⟨0,0,0,0⟩):=fun w os=>by kernel_rfl
def Q5 (P:Params):Obj:=⟨.type "dict",none,.dict #[de P (sx "__name__") 165 (st "everyfork.shapes" 269),de P (sx "__doc__") 166 .none,de P (sx "__package__") 167 .none,de P (sx "__loader__") 168 (.builtin "__main__.__loader__#opaque"),de P (sx "__spec__") 169 .none,dr P "__annotations__" 170 6,dr P "__builtins__" 171 4,de P (sx "__file__") 173 (st "/claim/cut.py" 172),de P (sx "__cached__") 174 .none,dr P "ForkError" 206 24,dr P "NoText" 231 44,dr P "PLAIN_KINDS" 237 47,dr P "NO_NAMES" 244 48,de P (sx "LETTERS") 246 (st "abcdefghijklmnopqrstuvwxyz" 245),de P (sx "SIGNS") 248 (st " !\"#$&'()*+,-./0123456789:;<=>?@ABCDEFGHIJKLMNOPQRSTUVWXYZ[\\]^_`abcdefghijklmnopqrstuvwxyz{|}~" 247),dr P "is_sign_number" 255 55,dr P "sign_of" 262 62,dr P "is_name" 268 67] 18,#[]⟩
def KO:Obj:=⟨.none,none,.fields #[i0 2,i0 0,.ref 20,i0 4,i0 0,.ref 33,i0 14,i0 0,.ref 54,i0 16,i0 0,.ref 61,i0 18,i0 0,.ref 66],#[]⟩
def pR:Obj:=tu [.type "ValueError"]
def gx:Obj:=⟨.type "builtin_function_or_method",none,.fields #[.builtin "type.__prepare__",.type "type"],#[]⟩
def uo (P:Params):Obj:=⟨.type "dict",none,.dict #[de P (sx "__module__") 196 (st "everyfork.errors" 187),de P (sx "__qualname__") 198 (st "ForkError" 197),de P (sx "__firstlineno__") 200 (.int 2 199),dr P "__static_attributes__" 201 22] 4,#[]⟩
def uD:Obj:=co [st "ForkError" 191,st "ForkError" 192,st "/claim/cut.py" 193,i0 2,i0 0,i0 0,i0 0,i0 0,.ref 18,.bool false,i0 181,.ref 19,.none,.none,.none,.none,i0 194,i0 2,st "/claim/cut.py" 195]
def uj:Obj:=⟨.type "frame",none,.plain,#[some (.ref 20),some (.ref 3),some (.ref 17),none,some (st "everyfork.errors" 187),none,some (.ref 0)]⟩
def rB (P:Params):Obj:=⟨.type "dict",none,.dict #[de P (sx "__module__") 196 (st "everyfork.errors" 187),de P (sx "__firstlineno__") 200 (.int 2 199),dr P "__static_attributes__" 201 22,dr P "__weakref__" 203 25,de P (sx "__doc__") 204 .none] 3,#[]⟩
def rh:Obj:=⟨.type "type",none,.cls ⟨(sx "ForkError"),[.type "ValueError"],[.ref 24,.type "ValueError",.type "Exception",.type "BaseException",.type "object"],23,(sx "ForkError"),true,[],[.ref 44],false,none,false⟩,#[some (.ref 15),none,some (st "ForkError" 189),some (st "ForkError" 197),some (.builtin "ValueError.__new__"),some (.bool true)]⟩
def qU:Obj:=⟨.type "getset_descriptor",none,.fields #[st "__weakref__" 202,.ref 24,.builtin "ExceptionGroup.__weakref__",.none],#[]⟩
def sQ:Obj:=⟨.type "super",none,.fields #[.ref 24,.ref 24,.ref 24],#[]⟩
def ut:Obj:=⟨.type "builtin_function_or_method",none,.fields #[.builtin "object.__init_subclass__",.ref 24],#[]⟩
def qk:Obj:=tu [.ref 24]
def uf (P:Params):Obj:=⟨.type "dict",none,.dict #[de P (sx "__module__") 214 (st "everyfork.errors" 187),de P (sx "__qualname__") 216 (st "NoText" 215),de P (sx "__firstlineno__") 218 (.int 4 217),dr P "__init__" 226 41,dr P "__static_attributes__" 228 42] 5,#[]⟩
def tI:Obj:=⟨.none,none,.fields #[i0 6,i0 4,.ref 40],#[]⟩
def uh:Obj:=co [st "NoText" 209,st "NoText" 210,st "/claim/cut.py" 211,i0 4,i0 0,i0 0,i0 0,i0 0,.ref 31,.bool false,i0 181,.ref 32,.none,.none,.none,.none,i0 212,i0 4,st "/claim/cut.py" 213]
def uv:Obj:=⟨.type "frame",none,.plain,#[some (.ref 33),some (.ref 3),some (.ref 30),none,some (st "everyfork.errors" 187),none,some (.ref 0)]⟩
def pI:Obj:=tu [st "self" 222,st "row" 223]
def uk:Obj:=fmv 2 0 "__init__" "NoText.__init__"
def qG:Obj:=cz "__init__" "NoText.__init__" 219 224 6 2 3 35
def rf:Obj:=fmu 2 0 "__init__" "NoText.__init__" "everyfork.errors" 187 40
def pJ:Obj:=tu [st "row" 227]
def pT (P:Params):Obj:=⟨.type "dict",none,.dict #[de P (sx "__module__") 214 (st "everyfork.errors" 187),de P (sx "__firstlineno__") 218 (.int 4 217),dr P "__init__" 226 41,dr P "__static_attributes__" 228 42,de P (sx "__doc__") 229 .none] 2,#[]⟩
def qz:Obj:=⟨.type "type",none,.cls ⟨(sx "NoText"),[.ref 24],[.ref 44,.ref 24,.type "ValueError",.type "Exception",.type "BaseException",.type "object"],43,(sx "NoText"),true,[],[],false,none,false⟩,#[some (.ref 28),none,some (st "NoText" 207),some (st "NoText" 215),some (.builtin "ValueError.__new__"),some (.bool true)]⟩
def sZ:Obj:=⟨.type "super",none,.fields #[.ref 44,.ref 44,.ref 44],#[]⟩
def uB:Obj:=⟨.type "builtin_function_or_method",none,.fields #[.builtin "object.__init_subclass__",.ref 44],#[]⟩
def pw:Obj:=tu [st "num" 234,st "text" 235,st "row" 236]
def rC:Obj:=tu [st "num" 238,st "text" 239,st "row" 240,st "gives" 241,st "rounds" 242,st "range" 243]
def qH:Obj:=tu [st "number" 252]
def tR:Obj:=fw 8 "is_sign_number"
def pQ:Obj:=cz "is_sign_number" "is_sign_number" 249 253 14 1 3 49
def qv:Obj:=fv 8 "is_sign_number" "everyfork.kinds" 232 54
def qb:Obj:=tu [st "number" 259]
def tE:Obj:=fw 9 "sign_of"
def rg:Obj:=cz "sign_of" "sign_of" 256 260 16 1 3 56
def qu:Obj:=fv 9 "sign_of" "everyfork.kinds" 232 61
def tW:Obj:=fw 10 "is_name"
def rz:Obj:=cy "is_name" "is_name" 263 266 18 1 3 63
def qS:Obj:=fv 10 "is_name" "everyfork.kinds" 232 66
def t_0 (P:Params):BT:=(ZT (boot_o_0 P) (ZT (boot_o_1 P) (ZT (Q5 P) (ZT (boot_o_7 P) (ZT pR (ZT ah (ZS ah) .nil) (ZS pw)) (ZT (rB P) (ZS uk) (ZS qv))) (ZT ah (ZT aC (ZT ah (ZS qS) .nil) (ZS qH)) (ZT ut (ZS (pT P)) (ZS ah)))) (ZT (boot_o_5 P) (ZT (boot_o_9 P) (ZT (uo P) (ZT uh (ZS tW) .nil) (ZS ah)) (ZT qU (ZS rf) (ZS aC))) (ZT xV (ZT uj (ZS pI) (ZS tR)) (ZT gx (ZS sZ) (ZS rg))))) (ZT (boot_o_2 P) (ZT (boot_o_4 P) (ZT (boot_o_8 P) (ZT gx (ZT tI (ZS aC) .nil) (ZS rC)) (ZT rh (ZS qG) (ZS ah))) (ZT KO (ZT uD (ZS aC) (ZS ah)) (ZT qk (ZS qz) (ZS tE)))) (ZT (boot_o_6 P) (ZT (boot_o_10 P) (ZT ah (ZT uv (ZS rz) .nil) (ZS aC)) (ZT sQ (ZS pJ) (ZS qb))) (ZT wY (ZT ah (ZS ah) (ZS pQ)) (ZT (uf P) (ZS uB) (ZS qu))))))
def s_0 (w:World) (os:OsState):SharedT:=⟨t_0 w.params,68,{ :Life },#[],⟨0,0,0,0⟩,271,os⟩
def q0:List Stmt:=(pE.main.body.drop 0).take 12
theorem l_0:∀ (w:World) (os:OsState),segRunT treeTable pE w m0 ann 1 590 (sb w os) (piecesOf q0 env cE ⟨0,0,0,0⟩ B)=some (.next,s_0 w os,cE,⟨22,0,22,8⟩):=fun w os=>by kernel_rfl
def Q1 (P:Params):Obj:=⟨.type "dict",none,.dict #[de P (sx "__name__") 165 (st "everyfork.shapes" 269),de P (sx "__doc__") 166 .none,de P (sx "__package__") 167 .none,de P (sx "__loader__") 168 (.builtin "__main__.__loader__#opaque"),de P (sx "__spec__") 169 .none,dr P "__annotations__" 170 6,dr P "__builtins__" 171 4,de P (sx "__file__") 173 (st "/claim/cut.py" 172),de P (sx "__cached__") 174 .none,dr P "ForkError" 206 24,dr P "NoText" 231 44,dr P "PLAIN_KINDS" 237 47,dr P "NO_NAMES" 244 48,de P (sx "LETTERS") 246 (st "abcdefghijklmnopqrstuvwxyz" 245),de P (sx "SIGNS") 248 (st " !\"#$&'()*+,-./0123456789:;<=>?@ABCDEFGHIJKLMNOPQRSTUVWXYZ[\\]^_`abcdefghijklmnopqrstuvwxyz{|}~" 247),dr P "is_sign_number" 255 55,dr P "sign_of" 262 62,dr P "is_name" 268 67,dr P "SHAPES" 416 68,dr P "LISTED" 426 126] 20,#[]⟩
def sU (P:Params):Obj:=⟨.type "dict",none,.dict #[dr P "let" 271 70,dr P "say" 276 72,dr P "if" 281 74,dr P "while" 286 76,dr P "call" 291 78,dr P "give" 295 80,dr P "num" 300 82,dr P "text" 304 84,dr P "var" 308 86,dr P "of" 312 88,dr P "with" 317 90,dr P "new" 323 92,dr P "add" 327 94,dr P "sub" 333 96,dr P "times" 339 98,dr P "div" 344 100,dr P "rest" 349 102,dr P "len" 354 105,dr P "at" 358 107,dr P "rows" 363 109,dr P "put" 366 111,dr P "more" 372 113,dr P "signs" 377 115,dr P "less" 381 117,dr P "same" 386 119,dr P "and" 391 121,dr P "or" 396 123,dr P "not" 401 125] 28,#[]⟩
def uE:Obj:=tu [.int 2 274]
def ua:Obj:=tu [st "statement" 272,.int 3 273,.ref 69]
def sY:Obj:=tu [.int 2 279]
def uG:Obj:=tu [st "statement" 277,.int 3 278,.ref 71]
def tT:Obj:=tu [.int 1 284]
def ud:Obj:=tu [st "statement" 282,.int 4 283,.ref 73]
def tU:Obj:=tu [.int 1 289]
def tZ:Obj:=tu [st "statement" 287,.int 3 288,.ref 75]
def uH:Obj:=tu [st "statement" 292,.int 4 293,.ref 77]
def uL:Obj:=tu [.int 1 298]
def uz:Obj:=tu [st "statement" 296,.int 2 297,.ref 79]
def uI:Obj:=tu [st "expression" 301,.int 2 302,.ref 81]
def sV:Obj:=tu [st "expression" 305,.int 2 306,.ref 83]
def tz:Obj:=tu [st "expression" 309,.int 2 310,.ref 85]
def tP:Obj:=tu [.int 1 315]
def ub:Obj:=tu [st "expression" 313,.int 3 314,.ref 87]
def uy:Obj:=tu [.int 1 320,.int 3 321]
def uO:Obj:=tu [st "expression" 318,.int 4 319,.ref 89]
def sX:Obj:=tu [st "expression" 324,.int 3 325,.ref 91]
def tD:Obj:=tu [.int 1 330,.int 2 331]
def uP:Obj:=tu [st "expression" 328,.int 3 329,.ref 93]
def sW:Obj:=tu [.int 1 336,.int 2 337]
def tw:Obj:=tu [st "expression" 334,.int 3 335,.ref 95]
def tK:Obj:=tu [.int 2 342]
def ui:Obj:=tu [st "expression" 340,.int 3 341,.ref 97]
def sT:Obj:=tu [.int 1 347]
def lK:Obj:=tu [st "expression" 345,.int 3 346,.ref 99]
def ng:Obj:=tu [.int 1 352]
def nq:Obj:=tu [st "expression" 350,.int 3 351,.ref 101]
def rD (P:Params):Obj:=⟨.type "dict",none,.dict #[dr P "len" 354 105,dr P "at" 358 107,dr P "rows" 363 109,dr P "put" 366 111,dr P "more" 372 113,dr P "signs" 377 115,dr P "less" 381 117,dr P "same" 386 119,dr P "and" 391 121,dr P "or" 396 123,dr P "not" 401 125] 11,#[]⟩
def mK:Obj:=tu [.int 1 357]
def l9:Obj:=tu [st "expression" 355,.int 2 356,.ref 104]
def mW:Obj:=tu [.int 1 361,.int 2 362]
def lU:Obj:=tu [st "expression" 359,.int 3 360,.ref 106]
def lJ:Obj:=tu [st "expression" 364,.int 2 365,.ref 108]
def np:Obj:=tu [.int 1 369,.int 2 370,.int 3 371]
def lP:Obj:=tu [st "expression" 367,.int 4 368,.ref 110]
def mD:Obj:=tu [.int 1 375,.int 2 376]
def lO:Obj:=tu [st "expression" 373,.int 3 374,.ref 112]
def md:Obj:=tu [.int 1 380]
def lQ:Obj:=tu [st "expression" 378,.int 2 379,.ref 114]
def mV:Obj:=tu [.int 1 384,.int 2 385]
def nu:Obj:=tu [st "condition" 382,.int 3 383,.ref 116]
def mi:Obj:=tu [.int 1 389,.int 2 390]
def my:Obj:=tu [st "condition" 387,.int 3 388,.ref 118]
def mm:Obj:=tu [.int 1 394,.int 2 395]
def mE:Obj:=tu [st "condition" 392,.int 3 393,.ref 120]
def mz:Obj:=tu [.int 1 399,.int 2 400]
def lR:Obj:=tu [st "condition" 397,.int 3 398,.ref 122]
def lH:Obj:=tu [.int 1 404]
def lW:Obj:=tu [st "condition" 402,.int 2 403,.ref 124]
def nj (P:Params):Obj:=⟨.type "dict",none,.dict #[de P (sx "call") 417 (.int 3 418),de P (sx "new") 419 (.int 2 420),de P (sx "rows") 421 (.int 1 422)] 3,#[]⟩
def t_1 (P:Params):BT:=(ZT (boot_o_0 P) (ZT (boot_o_1 P) (ZT (Q1 P) (ZT (boot_o_7 P) (ZT pR (ZT ah (ZS ah) (ZS sW)) (ZT pw (ZS uL) (ZS lP))) (ZT (rB P) (ZT uk (ZS sY) (ZS (rD P))) (ZT qv (ZS tP) (ZS my)))) (ZT ah (ZT aC (ZT ah (ZS qS) (ZS sT)) (ZT qH (ZS ah) (ZS lQ))) (ZT ut (ZT (pT P) (ZS tU) (ZS lU)) (ZT ah (ZS ah) (ZS lR))))) (ZT (boot_o_5 P) (ZT (boot_o_9 P) (ZT (uo P) (ZT uh (ZS tW) (ZS tK)) (ZT ah (ZS ah) (ZS lO))) (ZT qU (ZT rf (ZS tT) (ZS l9)) (ZT aC (ZS uy) (ZS mE)))) (ZT xV (ZT uj (ZT pI (ZS uE) (ZS ng)) (ZT tR (ZS ah) (ZS nu))) (ZT gx (ZT sZ (ZS ah) (ZS lJ)) (ZT rg (ZS tD) (ZS lW)))))) (ZT (boot_o_2 P) (ZT (boot_o_4 P) (ZT (boot_o_8 P) (ZT gx (ZT tI (ZS aC) (ZS tw)) (ZT rC (ZS uz) (ZS mD))) (ZT rh (ZT qG (ZS uG) (ZS mK)) (ZT ah (ZS ub) (ZS mm)))) (ZT KO (ZT uD (ZT aC (ZS (sU P)) (ZS lK)) (ZT ah (ZS sV) (ZS mV))) (ZT qk (ZT qz (ZS tZ) (ZS ah)) (ZT tE (ZS sX) (ZS lH))))) (ZT (boot_o_6 P) (ZT (boot_o_10 P) (ZT ah (ZT uv (ZS rz) (ZS ui)) (ZT aC (ZS uI) (ZS md))) (ZT sQ (ZT pJ (ZS ud) (ZS mW)) (ZT qb (ZS uO) (ZS mz)))) (ZT wY (ZT ah (ZT ah (ZS ua) (ZS nq)) (ZT pQ (ZS tz) (ZS mi))) (ZT (uf P) (ZT uB (ZS uH) (ZS np)) (ZT qu (ZS uP) (ZS (nj P))))))))
def s_1 (w:World) (os:OsState):SharedT:=⟨t_1 w.params,127,{ :Life },#[],⟨0,0,0,0⟩,427,os⟩
def q1:List Stmt:=(pE.main.body.drop 12).take 2
theorem OP:∀ (v:World) (os:OsState),(fun w=>segRunT treeTable pE w m0 ann 1 732 (s_0 w os) (piecesOf q1 env cE ⟨22,0,22,8⟩ B)=some (.next,s_1 w os,cE,⟨24,0,24,6⟩)) (v.withFollow "special-get-raises" false):=fun v os=>by kernel_rfl
theorem Oh:∀ (v:World) (os:OsState),(fun w=>segRunT treeTable pE w m0 ann 1 732 (s_0 w os) (piecesOf q1 env cE ⟨22,0,22,8⟩ B)=some (.next,s_1 w os,cE,⟨24,0,24,6⟩)) (v.withFollow "special-get-raises" true):=fun v os=>by kernel_rfl
theorem l_1:∀ (w:World) (os:OsState),segRunT treeTable pE w m0 ann 1 732 (s_0 w os) (piecesOf q1 env cE ⟨22,0,22,8⟩ B)=some (.next,s_1 w os,cE,⟨24,0,24,6⟩):=fun w os=>byRow2 "special-get-raises" (P:=fun w=>segRunT treeTable pE w m0 ann 1 732 (s_0 w os) (piecesOf q1 env cE ⟨22,0,22,8⟩ B)=some (.next,s_1 w os,cE,⟨24,0,24,6⟩)) (fun v=>OP v os) (fun v=>Oh v os) w
def QP (P:Params):Obj:=⟨.type "dict",none,.dict #[de P (sx "__name__") 165 (st "everyfork.reading" 447),de P (sx "__doc__") 166 .none,de P (sx "__package__") 167 .none,de P (sx "__loader__") 168 (.builtin "__main__.__loader__#opaque"),de P (sx "__spec__") 169 .none,dr P "__annotations__" 170 6,dr P "__builtins__" 171 4,de P (sx "__file__") 173 (st "/claim/cut.py" 172),de P (sx "__cached__") 174 .none,dr P "ForkError" 206 24,dr P "NoText" 231 44,dr P "PLAIN_KINDS" 237 47,dr P "NO_NAMES" 244 48,de P (sx "LETTERS") 246 (st "abcdefghijklmnopqrstuvwxyz" 245),de P (sx "SIGNS") 248 (st " !\"#$&'()*+,-./0123456789:;<=>?@ABCDEFGHIJKLMNOPQRSTUVWXYZ[\\]^_`abcdefghijklmnopqrstuvwxyz{|}~" 247),dr P "is_sign_number" 255 55,dr P "sign_of" 262 62,dr P "is_name" 268 67,dr P "SHAPES" 416 68,dr P "LISTED" 426 126,dr P "sort_of" 433 133,dr P "inner_count" 440 140,dr P "inner_of" 446 145] 23,#[]⟩
def KH:Obj:=⟨.none,none,.fields #[i0 2,i0 0,.ref 20,i0 4,i0 0,.ref 33,i0 14,i0 0,.ref 54,i0 16,i0 0,.ref 61,i0 18,i0 0,.ref 66,i0 25,i0 0,.ref 132,i0 27,i0 0,.ref 139,i0 29,i0 0,.ref 144],#[]⟩
def qf:Obj:=tu [st "word" 430]
def wu:Obj:=fw 14 "sort_of"
def qo:Obj:=cz "sort_of" "sort_of" 427 431 25 1 3 127
def pO:Obj:=fv 14 "sort_of" "everyfork.shapes" 269 132
def qD:Obj:=tu [st "word" 437]
def vI:Obj:=fw 15 "inner_count"
def qJ:Obj:=cz "inner_count" "inner_count" 434 438 27 1 3 134
def ql:Obj:=fv 15 "inner_count" "everyfork.shapes" 269 139
def vy:Obj:=fw 16 "inner_of"
def qE:Obj:=cy "inner_of" "inner_of" 441 444 29 1 3 141
def pF:Obj:=fv 16 "inner_of" "everyfork.shapes" 269 144
def t_2 (P:Params):BT:=(ZT (boot_o_0 P) (ZT (boot_o_1 P) (ZT (QP P) (ZT (boot_o_7 P) (ZT pR (ZT ah (ZT ah (ZS ah) .nil) (ZS sW)) (ZT pw (ZT uL (ZS vy) .nil) (ZS lP))) (ZT (rB P) (ZT uk (ZT sY (ZS aC) .nil) (ZS (rD P))) (ZT qv (ZS tP) (ZS my)))) (ZT ah (ZT aC (ZT ah (ZT qS (ZS wu) .nil) (ZS sT)) (ZT qH (ZS ah) (ZS lQ))) (ZT ut (ZT (pT P) (ZT tU (ZS qJ) .nil) (ZS lU)) (ZT ah (ZS ah) (ZS lR))))) (ZT (boot_o_5 P) (ZT (boot_o_9 P) (ZT (uo P) (ZT uh (ZT tW (ZS qf) .nil) (ZS tK)) (ZT ah (ZT ah (ZS pF) .nil) (ZS lO))) (ZT qU (ZT rf (ZT tT (ZS ah) .nil) (ZS l9)) (ZT aC (ZS uy) (ZS mE)))) (ZT xV (ZT uj (ZT pI (ZT uE (ZS pO) .nil) (ZS ng)) (ZT tR (ZS ah) (ZS nu))) (ZT gx (ZT sZ (ZT ah (ZS ah) .nil) (ZS lJ)) (ZT rg (ZS tD) (ZS lW)))))) (ZT (boot_o_2 P) (ZT (boot_o_4 P) (ZT (boot_o_8 P) (ZT gx (ZT tI (ZT aC (ZS aC) .nil) (ZS tw)) (ZT rC (ZT uz (ZS qE) .nil) (ZS mD))) (ZT rh (ZT qG (ZT uG (ZS qD) .nil) (ZS mK)) (ZT ah (ZS ub) (ZS mm)))) (ZT KH (ZT uD (ZT aC (ZT (sU P) (ZS qo) .nil) (ZS lK)) (ZT ah (ZS sV) (ZS mV))) (ZT qk (ZT qz (ZT tZ (ZS ql) .nil) (ZS ah)) (ZT tE (ZS sX) (ZS lH))))) (ZT (boot_o_6 P) (ZT (boot_o_10 P) (ZT ah (ZT uv (ZT rz (ZS ah) .nil) (ZS ui)) (ZT aC (ZS uI) (ZS md))) (ZT sQ (ZT pJ (ZT ud (ZS vI) .nil) (ZS mW)) (ZT qb (ZS uO) (ZS mz)))) (ZT wY (ZT ah (ZT ah (ZT ua (ZS ah) .nil) (ZS nq)) (ZT pQ (ZS tz) (ZS mi))) (ZT (uf P) (ZT uB (ZT uH (ZS aC) .nil) (ZS np)) (ZT qu (ZS uP) (ZS (nj P))))))))
def s_2 (w:World) (os:OsState):SharedT:=⟨t_2 w.params,146,{ :Life },#[],⟨0,0,0,0⟩,449,os⟩
def q2:List Stmt:=(pE.main.body.drop 14).take 4
theorem l_2:∀ (w:World) (os:OsState),segRunT treeTable pE w m0 ann 1 94 (s_1 w os) (piecesOf q2 env cE ⟨24,0,24,6⟩ B)=some (.next,s_2 w os,cE,⟨34,0,34,8⟩):=fun w os=>by kernel_rfl
def QT (P:Params):Obj:=⟨.type "dict",none,.dict #[de P (sx "__name__") 165 (st "everyfork.reading" 447),de P (sx "__doc__") 166 .none,de P (sx "__package__") 167 .none,de P (sx "__loader__") 168 (.builtin "__main__.__loader__#opaque"),de P (sx "__spec__") 169 .none,dr P "__annotations__" 170 6,dr P "__builtins__" 171 4,de P (sx "__file__") 173 (st "/claim/cut.py" 172),de P (sx "__cached__") 174 .none,dr P "ForkError" 206 24,dr P "NoText" 231 44,dr P "PLAIN_KINDS" 237 47,dr P "NO_NAMES" 244 48,de P (sx "LETTERS") 246 (st "abcdefghijklmnopqrstuvwxyz" 245),de P (sx "SIGNS") 248 (st " !\"#$&'()*+,-./0123456789:;<=>?@ABCDEFGHIJKLMNOPQRSTUVWXYZ[\\]^_`abcdefghijklmnopqrstuvwxyz{|}~" 247),dr P "is_sign_number" 255 55,dr P "sign_of" 262 62,dr P "is_name" 268 67,dr P "SHAPES" 416 68,dr P "LISTED" 426 126,dr P "sort_of" 433 133,dr P "inner_count" 440 140,dr P "inner_of" 446 145,dr P "OWN" 488 146,dr P "BOUNDS" 506 159] 25,#[]⟩
def vo (P:Params):Obj:=⟨.type "dict",none,.dict #[dr P "let" 449 147,dr P "say" 451 148,dr P "call" 453 149,dr P "text" 457 150,dr P "var" 459 151,dr P "of" 461 152,dr P "with" 463 153,dr P "new" 465 154,dr P "times" 468 155,dr P "div" 470 156,dr P "rest" 472 157,dr P "rows" 474 158] 12,#[]⟩
def u9:Obj:=tu [st "name" 450]
def wj:Obj:=tu [st "name" 452]
def vx:Obj:=tu [st "name" 454,st "name" 455,st "many" 456]
def vK:Obj:=tu [st "signs" 458]
def wk:Obj:=tu [st "name" 460]
def vV:Obj:=tu [st "name" 462]
def vX:Obj:=tu [st "name" 464]
def vP:Obj:=tu [st "name" 466,st "many" 467]
def uV:Obj:=tu [st "number" 469]
def vG:Obj:=tu [st "divisor" 471]
def vm:Obj:=tu [st "divisor" 473]
def vT:Obj:=tu [st "many" 475]
def wo (P:Params):Obj:=⟨.type "dict",none,.dict #[dr P "number" 489 160,dr P "divisor" 493 161,dr P "many" 496 162,dr P "sign" 499 163] 4,#[]⟩
def uU:Obj:=tu [.int (-1000000) 491,.int 1000000 492]
def vc:Obj:=tu [.int 2 494,.int 99 495]
def u0:Obj:=tu [.int 0 497,.int 40 498]
def vp:Obj:=tu [.int 32 500,.int 126 501]
def t_3 (P:Params):BT:=(ZT (boot_o_0 P) (ZT (boot_o_1 P) (ZT (QT P) (ZT (boot_o_7 P) (ZT pR (ZT ah (ZT ah (ZS ah) .nil) (ZT sW (ZS (wo P)) .nil)) (ZT pw (ZT uL (ZS vy) .nil) (ZS lP))) (ZT (rB P) (ZT uk (ZT sY (ZS aC) .nil) (ZS (rD P))) (ZT qv (ZT tP (ZS wk) .nil) (ZS my)))) (ZT ah (ZT aC (ZT ah (ZT qS (ZS wu) .nil) (ZT sT (ZS vp) .nil)) (ZT qH (ZT ah (ZS u9) .nil) (ZS lQ))) (ZT ut (ZT (pT P) (ZT tU (ZS qJ) .nil) (ZS lU)) (ZT ah (ZT ah (ZS uV) .nil) (ZS lR))))) (ZT (boot_o_5 P) (ZT (boot_o_9 P) (ZT (uo P) (ZT uh (ZT tW (ZS qf) .nil) (ZT tK (ZS vc) .nil)) (ZT ah (ZT ah (ZS pF) .nil) (ZS lO))) (ZT qU (ZT rf (ZT tT (ZS ah) .nil) (ZS l9)) (ZT aC (ZT uy (ZS vX) .nil) (ZS mE)))) (ZT xV (ZT uj (ZT pI (ZT uE (ZS pO) .nil) (ZS ng)) (ZT tR (ZT ah (ZS vx) .nil) (ZS nu))) (ZT gx (ZT sZ (ZT ah (ZS ah) .nil) (ZS lJ)) (ZT rg (ZT tD (ZS vm) .nil) (ZS lW)))))) (ZT (boot_o_2 P) (ZT (boot_o_4 P) (ZT (boot_o_8 P) (ZT gx (ZT tI (ZT aC (ZS aC) .nil) (ZT tw (ZS uU) .nil)) (ZT rC (ZT uz (ZS qE) .nil) (ZS mD))) (ZT rh (ZT qG (ZT uG (ZS qD) .nil) (ZS mK)) (ZT ah (ZT ub (ZS vV) .nil) (ZS mm)))) (ZT KH (ZT uD (ZT aC (ZT (sU P) (ZS qo) .nil) (ZS lK)) (ZT ah (ZT sV (ZS wj) .nil) (ZS mV))) (ZT qk (ZT qz (ZT tZ (ZS ql) .nil) (ZS ah)) (ZT tE (ZT sX (ZS vG) .nil) (ZS lH))))) (ZT (boot_o_6 P) (ZT (boot_o_10 P) (ZT ah (ZT uv (ZT rz (ZS ah) .nil) (ZT ui (ZS u0) .nil)) (ZT aC (ZT uI (ZS (vo P)) .nil) (ZS md))) (ZT sQ (ZT pJ (ZT ud (ZS vI) .nil) (ZS mW)) (ZT qb (ZT uO (ZS vP) .nil) (ZS mz)))) (ZT wY (ZT ah (ZT ah (ZT ua (ZS ah) .nil) (ZS nq)) (ZT pQ (ZT tz (ZS vK) .nil) (ZS mi))) (ZT (uf P) (ZT uB (ZT uH (ZS aC) .nil) (ZS np)) (ZT qu (ZT uP (ZS vT) .nil) (ZS (nj P))))))))
def s_3 (w:World) (os:OsState):SharedT:=⟨t_3 w.params,164,{ :Life },#[],⟨0,0,0,0⟩,507,os⟩
def q3:List Stmt:=(pE.main.body.drop 18).take 2
theorem NP:∀ (v:World) (os:OsState),(fun w=>segRunT treeTable pE w m0 ann 1 305 (s_2 w os) (piecesOf q3 env cE ⟨34,0,34,8⟩ B)=some (.next,s_3 w os,cE,⟨36,0,36,6⟩)) (v.withFollow "special-get-raises" false):=fun v os=>by kernel_rfl
theorem NT:∀ (v:World) (os:OsState),(fun w=>segRunT treeTable pE w m0 ann 1 305 (s_2 w os) (piecesOf q3 env cE ⟨34,0,34,8⟩ B)=some (.next,s_3 w os,cE,⟨36,0,36,6⟩)) (v.withFollow "special-get-raises" true):=fun v os=>by kernel_rfl
theorem l_3:∀ (w:World) (os:OsState),segRunT treeTable pE w m0 ann 1 305 (s_2 w os) (piecesOf q3 env cE ⟨34,0,34,8⟩ B)=some (.next,s_3 w os,cE,⟨36,0,36,6⟩):=fun w os=>byRow2 "special-get-raises" (P:=fun w=>segRunT treeTable pE w m0 ann 1 305 (s_2 w os) (piecesOf q3 env cE ⟨34,0,34,8⟩ B)=some (.next,s_3 w os,cE,⟨36,0,36,6⟩)) (fun v=>NP v os) (fun v=>NT v os) w
def Lm (P:Params):Obj:=⟨.type "dict",none,.dict #[de P (sx "__name__") 165 (st "law_everyfork_k08_shown_and_read" 777),de P (sx "__doc__") 166 .none,de P (sx "__package__") 167 .none,de P (sx "__loader__") 168 (.builtin "__main__.__loader__#opaque"),de P (sx "__spec__") 169 .none,dr P "__annotations__" 170 6,dr P "__builtins__" 171 4,de P (sx "__file__") 173 (st "/claim/cut.py" 172),de P (sx "__cached__") 174 .none,dr P "ForkError" 206 24,dr P "NoText" 231 44,dr P "PLAIN_KINDS" 237 47,dr P "NO_NAMES" 244 48,de P (sx "LETTERS") 246 (st "abcdefghijklmnopqrstuvwxyz" 245),de P (sx "SIGNS") 248 (st " !\"#$&'()*+,-./0123456789:;<=>?@ABCDEFGHIJKLMNOPQRSTUVWXYZ[\\]^_`abcdefghijklmnopqrstuvwxyz{|}~" 247),dr P "is_sign_number" 255 55,dr P "sign_of" 262 62,dr P "is_name" 268 67,dr P "SHAPES" 416 68,dr P "LISTED" 426 126,dr P "sort_of" 433 133,dr P "inner_count" 440 140,dr P "inner_of" 446 145,dr P "OWN" 488 146,dr P "BOUNDS" 506 159,de P (sx "FIGURES") 508 (st "0123456789" 507),de P (sx "MOST_FIGURES") 510 (.int 7 509),dr P "word_at" 518 170,dr P "number_of" 524 175,dr P "signs_at" 536 182,dr P "own_at" 547 189,dr P "inner_sorts" 556 196,dr P "head_at" 571 203,dr P "joined" 580 210,dr P "joined_heads" 590 217,dr P "statement_of" 601 224,dr P "pairs_of" 611 231,dr P "Reading" 715 304,dr P "read" 725 315,dr P "own_words" 733 320,dr P "row_of" 743 327,dr P "behind_row" 750 334,dr P "body_rows" 760 341,dr P "row_with_pairs" 770 348,dr P "shown" 776 353,dr P "_law_tape" 785 360,dr P "_law_draw" 796 367,dr P "_law_names" 802 372,dr P "_law_records" 808 377,dr P "_law_kind" 814 382,dr P "_law_heads" 820 387,dr P "_law_count" 826 392,dr P "_law_leaf" 832 397,dr P "_law_num" 845 404,dr P "_law_row" 851 409,dr P "_law_e" 857 414,dr P "_law_bounded" 868 421,dr P "_law_condition" 880 428,dr P "_law_body" 891 435,dr P "_law_statement" 897 440,dr P "_law_kit" 907 447,dr P "_law_program" 919 454,dr P "_law_words" 925 459,dr P "_law_condition_words" 934 466,dr P "_law_rows" 946 473,dr P "_law_program_rows" 952 478,dr P "law" 965 485] 67,#[]⟩
def Ky:Obj:=⟨.none,none,.fields #[i0 2,i0 0,.ref 20,i0 4,i0 0,.ref 33,i0 14,i0 0,.ref 54,i0 16,i0 0,.ref 61,i0 18,i0 0,.ref 66,i0 25,i0 0,.ref 132,i0 27,i0 0,.ref 139,i0 29,i0 0,.ref 144,i0 39,i0 0,.ref 169,i0 41,i0 0,.ref 174,i0 49,i0 0,.ref 181,i0 60,i0 0,.ref 188,i0 68,i0 0,.ref 195,i0 73,i0 0,.ref 202,i0 89,i0 0,.ref 209,i0 95,i0 0,.ref 216,i0 103,i0 0,.ref 223,i0 115,i0 0,.ref 230,i0 123,i0 0,.ref 237,i0 199,i0 0,.ref 314,i0 208,i0 0,.ref 319,i0 229,i0 0,.ref 326,i0 237,i0 0,.ref 333,i0 243,i0 0,.ref 340,i0 254,i0 0,.ref 347,i0 259,i0 0,.ref 352,i0 268,i0 0,.ref 359,i0 270,i0 0,.ref 366,i0 284,i0 0,.ref 371,i0 289,i0 0,.ref 376,i0 298,i0 0,.ref 381,i0 301,i0 0,.ref 386,i0 309,i0 0,.ref 391,i0 319,i0 0,.ref 396,i0 331,i0 0,.ref 403,i0 343,i0 0,.ref 408,i0 354,i0 0,.ref 413,i0 372,i0 0,.ref 420,i0 378,i0 0,.ref 427,i0 388,i0 0,.ref 434,i0 395,i0 0,.ref 439,i0 416,i0 0,.ref 446,i0 419,i0 0,.ref 453,i0 427,i0 0,.ref 458,i0 452,i0 0,.ref 465,i0 457,i0 0,.ref 472,i0 478,i0 0,.ref 477,i0 486,i0 0,.ref 484],#[]⟩
def As:Obj:=tu [st "words" 514,st "place" 515]
def Hj:Obj:=fw 22 "word_at"
def z7:Obj:=cz "word_at" "word_at" 511 516 39 2 3 164
def zP:Obj:=fv 22 "word_at" "everyfork.reading" 447 169
def HZ:Obj:=fw 23 "number_of"
def yL:Obj:=cy "number_of" "number_of" 519 522 41 2 3 171
def zX:Obj:=fv 23 "number_of" "everyfork.reading" 447 174
def yR:Obj:=tu [st "words" 528,st "place" 529,st "many" 530,st "told" 531,st "behind" 532,st "number" 533]
def Fl:Obj:=fw 24 "signs_at"
def zH:Obj:=cz "signs_at" "signs_at" 525 534 49 2 3 176
def Az:Obj:=fv 24 "signs_at" "everyfork.reading" 447 181
def zw:Obj:=tu [st "words" 540,st "place" 541,st "sort" 542,st "word" 543,st "told" 544]
def Ht:Obj:=fw 25 "own_at"
def Aq:Obj:=cz "own_at" "own_at" 537 545 60 3 3 183
def BG:Obj:=fv 25 "own_at" "everyfork.reading" 447 188
def BU:Obj:=tu [st "word" 551,st "own" 552,st "inner" 553]
def Ig:Obj:=fw 26 "inner_sorts"
def Ao:Obj:=cz "inner_sorts" "inner_sorts" 548 554 68 2 3 190
def Af:Obj:=fv 26 "inner_sorts" "everyfork.reading" 447 195
def Aa:Obj:=tu [st "words" 560,st "place" 561,st "sort" 562,st "word" 563,st "number" 564,st "own" 565,st "behind" 566,st "own_sort" 567,st "told" 568]
def ET:Obj:=fw 27 "head_at"
def BJ:Obj:=cz "head_at" "head_at" 557 569 73 3 3 197
def BF:Obj:=fv 27 "head_at" "everyfork.reading" 447 202
def yM:Obj:=tu [st "word" 575,st "own" 576,st "inner" 577]
def EW:Obj:=fw 28 "joined"
def Aj:Obj:=cz "joined" "joined" 572 578 89 3 3 204
def zx:Obj:=fv 28 "joined" "everyfork.reading" 447 209
def zm:Obj:=tu [st "heads" 584,st "waiting" 585,st "head" 586,st "inner" 587]
def Hv:Obj:=fw 29 "joined_heads"
def AH:Obj:=cz "joined_heads" "joined_heads" 581 588 95 1 3 211
def BY:Obj:=fv 29 "joined_heads" "everyfork.reading" 447 216
def AN:Obj:=tu [st "words" 594,st "heads" 595,st "waiting" 596,st "place" 597,st "head" 598]
def Im:Obj:=fw 30 "statement_of"
def Ak:Obj:=cz "statement_of" "statement_of" 591 599 103 1 3 218
def yF:Obj:=fv 30 "statement_of" "everyfork.reading" 447 223
def Bc:Obj:=tu [st "words" 605,st "told" 606,st "place" 607,st "kind" 608]
def GM:Obj:=fw 31 "pairs_of"
def A2:Obj:=cz "pairs_of" "pairs_of" 602 609 115 1 3 225
def z4:Obj:=fv 31 "pairs_of" "everyfork.reading" 447 230
def FA (P:Params):Obj:=⟨.type "dict",none,.dict #[de P (sx "__module__") 619 (st "everyfork.reading" 447),de P (sx "__qualname__") 621 (st "Reading" 620),de P (sx "__firstlineno__") 623 (.int 123 622),dr P "__init__" 630 245,dr P "take" 639 252,dr P "take_record" 648 259,dr P "take_function" 657 266,dr P "take_local" 666 273,dr P "take_else" 676 280,dr P "take_end" 686 287,dr P "take_statement" 695 294,dr P "is_done" 702 301,dr P "__static_attributes__" 708 302] 13,#[]⟩
def EO:Obj:=⟨.none,none,.fields #[i0 125,i0 4,.ref 244,i0 132,i0 4,.ref 251,i0 144,i0 4,.ref 258,i0 151,i0 4,.ref 265,i0 160,i0 4,.ref 272,i0 167,i0 4,.ref 279,i0 175,i0 4,.ref 286,i0 187,i0 4,.ref 293,i0 197,i0 4,.ref 300],#[]⟩
def HF:Obj:=co [st "Reading" 614,st "Reading" 615,st "/claim/cut.py" 616,i0 123,i0 0,i0 0,i0 0,i0 0,.ref 235,.bool false,i0 181,.ref 236,.none,.none,.none,.none,i0 617,i0 123,st "/claim/cut.py" 618]
def Hk:Obj:=⟨.type "frame",none,.plain,#[some (.ref 237),some (.ref 3),some (.ref 234),none,some (st "everyfork.reading" 447),none,some (.ref 0)]⟩
def AO:Obj:=tu [st "self" 627]
def Fh:Obj:=fmv 32 0 "__init__" "Reading.__init__"
def At:Obj:=cz "__init__" "Reading.__init__" 624 628 125 1 3 239
def z5:Obj:=fmu 32 0 "__init__" "Reading.__init__" "everyfork.reading" 447 244
def zn:Obj:=tu [st "self" 634,st "words" 635,st "word" 636]
def EU:Obj:=fmv 32 1 "take" "Reading.take"
def zy:Obj:=cz "take" "Reading.take" 631 637 132 2 3 246
def A0:Obj:=fmu 32 1 "take" "Reading.take" "everyfork.reading" 447 251
def BN:Obj:=tu [st "self" 643,st "words" 644,st "fields" 645]
def Fv:Obj:=fmv 32 2 "take_record" "Reading.take_record"
def BQ:Obj:=cz "take_record" "Reading.take_record" 640 646 144 2 3 253
def yG:Obj:=fmu 32 2 "take_record" "Reading.take_record" "everyfork.reading" 447 258
def BE:Obj:=tu [st "self" 652,st "words" 653,st "pairs" 654]
def ER:Obj:=fmv 32 3 "take_function" "Reading.take_function"
def zE:Obj:=cz "take_function" "Reading.take_function" 649 655 151 2 3 260
def Ad:Obj:=fmu 32 3 "take_function" "Reading.take_function" "everyfork.reading" 447 265
def Bb:Obj:=tu [st "self" 661,st "words" 662,st "pairs" 663]
def Gv:Obj:=fmv 32 4 "take_local" "Reading.take_local"
def AZ:Obj:=cz "take_local" "Reading.take_local" 658 664 160 2 3 267
def yU:Obj:=fmu 32 4 "take_local" "Reading.take_local" "everyfork.reading" 447 272
def zI:Obj:=tu [st "self" 670,st "words" 671,st "outer" 672,st "first" 673]
def Fy:Obj:=fmv 32 5 "take_else" "Reading.take_else"
def Am:Obj:=cz "take_else" "Reading.take_else" 667 674 167 2 3 274
def Bk:Obj:=fmu 32 5 "take_else" "Reading.take_else" "everyfork.reading" 447 279
def zh:Obj:=tu [st "self" 680,st "words" 681,st "outer" 682,st "body" 683]
def HR:Obj:=fmv 32 6 "take_end" "Reading.take_end"
def zO:Obj:=cz "take_end" "Reading.take_end" 677 684 175 2 3 281
def zT:Obj:=fmu 32 6 "take_end" "Reading.take_end" "everyfork.reading" 447 286
def Ar:Obj:=tu [st "self" 690,st "words" 691,st "statement" 692]
def Il:Obj:=fmv 32 7 "take_statement" "Reading.take_statement"
def BX:Obj:=cz "take_statement" "Reading.take_statement" 687 693 187 2 3 288
def zZ:Obj:=fmu 32 7 "take_statement" "Reading.take_statement" "everyfork.reading" 447 293
def yA:Obj:=tu [st "self" 699]
def Hi:Obj:=fmv 32 8 "is_done" "Reading.is_done"
def yw:Obj:=cz "is_done" "Reading.is_done" 696 700 197 1 3 295
def Bs:Obj:=fmu 32 8 "is_done" "Reading.is_done" "everyfork.reading" 447 300
def Ag:Obj:=tu [st "bodies" 703,st "functions" 704,st "head" 705,st "records" 706,st "variables" 707]
def Av (P:Params):Obj:=⟨.type "dict",none,.dict #[de P (sx "__module__") 619 (st "everyfork.reading" 447),de P (sx "__firstlineno__") 623 (.int 123 622),dr P "__init__" 630 245,dr P "take" 639 252,dr P "take_record" 648 259,dr P "take_function" 657 266,dr P "take_local" 666 273,dr P "take_else" 676 280,dr P "take_end" 686 287,dr P "take_statement" 695 294,dr P "is_done" 702 301,dr P "__static_attributes__" 708 302,dr P "__dict__" 710 305,dr P "__weakref__" 712 306,de P (sx "__doc__") 713 .none] 4,#[]⟩
def A8:Obj:=⟨.type "type",none,.cls ⟨(sx "Reading"),[.type "object"],[.ref 304,.type "object"],303,(sx "Reading"),true,[],[],false,none,false⟩,#[none,none,some (st "Reading" 612),some (st "Reading" 620),some (.builtin "object.__new__"),some (.bool true)]⟩
def Au:Obj:=⟨.type "getset_descriptor",none,.fields #[st "__dict__" 709,.ref 304,.builtin "function.__dict__",.builtin "function.__dict__#set"],#[]⟩
def AF:Obj:=⟨.type "getset_descriptor",none,.fields #[st "__weakref__" 711,.ref 304,.builtin "ExceptionGroup.__weakref__",.none],#[]⟩
def Ic:Obj:=⟨.type "super",none,.fields #[.ref 304,.ref 304,.ref 304],#[]⟩
def EY:Obj:=⟨.type "builtin_function_or_method",none,.fields #[.builtin "object.__init_subclass__",.ref 304],#[]⟩
def yW:Obj:=tu [st "rows" 719,st "reading" 720,st "number" 721,st "row" 722]
def EM:Obj:=fw 33 "read"
def Ba:Obj:=cz "read" "read" 716 723 199 1 3 309
def yt:Obj:=fv 33 "read" "everyfork.reading" 447 314
def Fa:Obj:=fw 35 "own_words"
def zd:Obj:=cy "own_words" "own_words" 728 731 208 1 3 316
def zo:Obj:=fv 35 "own_words" "everyfork.texts" 726 319
def zv:Obj:=tu [st "statement" 737,st "told" 738,st "waiting" 739,st "shaped" 740]
def Hn:Obj:=fw 36 "row_of"
def zu:Obj:=cz "row_of" "row_of" 734 741 229 1 3 321
def yB:Obj:=fv 36 "row_of" "everyfork.texts" 726 326
def AU:Obj:=tu [st "statement" 747]
def Gu:Obj:=fw 37 "behind_row"
def BK:Obj:=cz "behind_row" "behind_row" 744 748 237 1 3 328
def BV:Obj:=fv 37 "behind_row" "everyfork.texts" 726 333
def Ah:Obj:=tu [st "body" 754,st "told" 755,st "waiting" 756,st "one" 757]
def F5:Obj:=fw 38 "body_rows"
def AV:Obj:=cz "body_rows" "body_rows" 751 758 243 1 3 335
def zQ:Obj:=fv 38 "body_rows" "everyfork.texts" 726 340
def Ax:Obj:=tu [st "words" 764,st "pairs" 765,st "told" 766,st "pair" 767]
def HQ:Obj:=fw 39 "row_with_pairs"
def BL:Obj:=cz "row_with_pairs" "row_with_pairs" 761 768 254 2 3 342
def Bg:Obj:=fv 39 "row_with_pairs" "everyfork.texts" 726 347
def Gq:Obj:=fw 40 "shown"
def Bd:Obj:=cy "shown" "shown" 771 774 259 1 3 349
def yX:Obj:=fv 40 "shown" "everyfork.texts" 726 352
def BD:Obj:=tu [st "_law_script" 782]
def GI:Obj:=fw 42 "_law_tape"
def AR:Obj:=cz "_law_tape" "_law_tape" 779 783 268 1 3 354
def za:Obj:=fv 42 "_law_tape" "law_everyfork_k08_shown_and_read" 777 359
def AT:Obj:=tu [st "_law_tape_here" 789,st "_law_many" 790,st "_law_cell" 791,st "_law_mixed" 792,st "_law_found" 793]
def FH:Obj:=fw 43 "_law_draw"
def zG:Obj:=cz "_law_draw" "_law_draw" 786 794 270 2 3 361
def A1:Obj:=fv 43 "_law_draw" "law_everyfork_k08_shown_and_read" 777 366
def Hl:Obj:=fw 44 "_law_names"
def Bt:Obj:=cy "_law_names" "_law_names" 797 800 284 2 3 368
def yD:Obj:=fv 44 "_law_names" "law_everyfork_k08_shown_and_read" 777 371
def HP:Obj:=fw 45 "_law_records"
def AJ:Obj:=cy "_law_records" "_law_records" 803 806 289 1 3 373
def AS:Obj:=fv 45 "_law_records" "law_everyfork_k08_shown_and_read" 777 376
def Fm:Obj:=fw 46 "_law_kind"
def AD:Obj:=cy "_law_kind" "_law_kind" 809 812 298 2 3 378
def zq:Obj:=fv 46 "_law_kind" "law_everyfork_k08_shown_and_read" 777 381
def F1:Obj:=fw 47 "_law_heads"
def zF:Obj:=cy "_law_heads" "_law_heads" 815 818 301 2 3 383
def AQ:Obj:=fv 47 "_law_heads" "law_everyfork_k08_shown_and_read" 777 386
def Fp:Obj:=fw 48 "_law_count"
def Bu:Obj:=cy "_law_count" "_law_count" 821 824 309 1 3 388
def yY:Obj:=fv 48 "_law_count" "law_everyfork_k08_shown_and_read" 777 391
def Fd:Obj:=fw 49 "_law_leaf"
def BH:Obj:=cy "_law_leaf" "_law_leaf" 827 830 319 3 3 393
def Br:Obj:=fv 49 "_law_leaf" "law_everyfork_k08_shown_and_read" 777 396
def zW:Obj:=tu [st "_law_tape_here" 836,st "_law_kit_here" 837,st "_law_deep" 838,st "_law_way" 839,st "_law_word" 840,st "_law_first" 841,st "_law_row_here" 842]
def GW:Obj:=fw 50 "_law_num"
def AG:Obj:=cz "_law_num" "_law_num" 833 843 331 3 3 398
def A9:Obj:=fv 50 "_law_num" "law_everyfork_k08_shown_and_read" 777 403
def EJ:Obj:=fw 51 "_law_row"
def yZ:Obj:=cy "_law_row" "_law_row" 846 849 343 3 3 405
def Ai:Obj:=fv 51 "_law_row" "law_everyfork_k08_shown_and_read" 777 408
def HX:Obj:=fw 52 "_law_e"
def Ae:Obj:=cy "_law_e" "_law_e" 852 855 354 4 3 410
def zC:Obj:=fv 52 "_law_e" "law_everyfork_k08_shown_and_read" 777 413
def Bf:Obj:=tu [st "_law_tape_here" 861,st "_law_kit_here" 862,st "_law_kind_here" 863,st "_law_reach" 864,st "_law_e_here" 865]
def HM:Obj:=fw 53 "_law_bounded"
def z9:Obj:=cz "_law_bounded" "_law_bounded" 858 866 372 4 3 415
def zY:Obj:=fv 53 "_law_bounded" "law_everyfork_k08_shown_and_read" 777 420
def zk:Obj:=tu [st "_law_tape_here" 872,st "_law_kit_here" 873,st "_law_deep" 874,st "_law_way" 875,st "_law_word" 876,st "_law_first" 877]
def GT:Obj:=fw 54 "_law_condition"
def Bx:Obj:=cz "_law_condition" "_law_condition" 869 878 378 3 3 422
def zB:Obj:=fv 54 "_law_condition" "law_everyfork_k08_shown_and_read" 777 427
def Bv:Obj:=tu [st "_law_tape_here" 884,st "_law_kit_here" 885,st "_law_deep" 886,st "_law_body_here" 887,st "_law_k" 888]
def Hu:Obj:=fw 55 "_law_body"
def zM:Obj:=cz "_law_body" "_law_body" 881 889 388 3 3 429
def BO:Obj:=fv 55 "_law_body" "law_everyfork_k08_shown_and_read" 777 434
def FV:Obj:=fw 56 "_law_statement"
def BA:Obj:=cy "_law_statement" "_law_statement" 892 895 395 3 3 436
def Ay:Obj:=fv 56 "_law_statement" "law_everyfork_k08_shown_and_read" 777 439
def zi:Obj:=tu [st "_law_records_here" 901,st "_law_heads_here" 902,st "_law_f" 903,st "_law_head" 904]
def FQ:Obj:=fw 57 "_law_kit"
def yO:Obj:=cz "_law_kit" "_law_kit" 898 905 416 3 3 441
def Bh:Obj:=fv 57 "_law_kit" "law_everyfork_k08_shown_and_read" 777 446
def Bz:Obj:=tu [st "_law_tape_here" 911,st "_law_records_here" 912,st "_law_heads_here" 913,st "_law_functions" 914,st "_law_f" 915,st "_law_kit_here" 916]
def Hh:Obj:=fw 58 "_law_program"
def zp:Obj:=cz "_law_program" "_law_program" 908 917 419 1 3 448
def yv:Obj:=fv 58 "_law_program" "law_everyfork_k08_shown_and_read" 777 453
def HV:Obj:=fw 59 "_law_words"
def AL:Obj:=cy "_law_words" "_law_words" 920 923 427 1 3 455
def A6:Obj:=fv 59 "_law_words" "law_everyfork_k08_shown_and_read" 777 458
def zJ:Obj:=tu [st "_law_c" 929,st "_law_words_here" 930,st "_law_one" 931]
def Gg:Obj:=fw 60 "_law_condition_words"
def Bo:Obj:=cz "_law_condition_words" "_law_condition_words" 926 932 452 1 3 460
def z6:Obj:=fv 60 "_law_condition_words" "law_everyfork_k08_shown_and_read" 777 465
def AM:Obj:=tu [st "_law_body_here" 938,st "_law_rows_here" 939,st "_law_line" 940,st "_law_words_here" 941,st "_law_some" 942,st "_law_e_here" 943]
def Fs:Obj:=fw 61 "_law_rows"
def BB:Obj:=cz "_law_rows" "_law_rows" 935 944 457 1 3 467
def AC:Obj:=fv 61 "_law_rows" "law_everyfork_k08_shown_and_read" 777 472
def Fj:Obj:=fw 62 "_law_program_rows"
def Ap:Obj:=cy "_law_program_rows" "_law_program_rows" 947 950 478 1 3 474
def Bj:Obj:=fv 62 "_law_program_rows" "law_everyfork_k08_shown_and_read" 777 477
def zg:Obj:=tu [st "_law_script" 956,st "_law_tape_here" 957,st "_law_turn" 958,st "_law_program_here" 959,st "_law_due" 960,st "_law_rows_here" 961,st "_law_found" 962]
def FO:Obj:=fw 63 "law"
def BC:Obj:=cz "law" "law" 953 963 486 1 3 479
def yP:Obj:=fv 63 "law" "law_everyfork_k08_shown_and_read" 777 484
def t_4 (P:Params):BT:=(ZT (boot_o_0 P) (ZT (boot_o_1 P) (ZT (Lm P) (ZT (boot_o_7 P) (ZT pR (ZT ah (ZT ah (ZT ah (ZS BN) (ZS ah)) (ZT aC (ZS zd) (ZS Bh))) (ZT sW (ZT (wo P) (ZS zT) (ZS ah)) (ZT Ak (ZS Gq) (ZS ah)))) (ZT pw (ZT uL (ZT vy (ZS Gv) (ZS aC)) (ZT ah (ZS ah) (ZS ah))) (ZT lP (ZT zX (ZS (Av P)) (ZS Bv)) (ZT ah (ZS A1) .nil)))) (ZT (rB P) (ZT uk (ZT sY (ZT aC (ZS ah) (ZS Bu)) (ZT Aa (ZS yB) (ZS ah))) (ZT (rD P) (ZT ah (ZS ah) (ZS aC)) (ZT z4 (ZS AR) .nil))) (ZT qv (ZT tP (ZT wk (ZS Am) (ZS EJ)) (ZT Hv (ZS aC) (ZS Fs))) (ZT my (ZT ah (ZS yW) (ZS BA)) (ZT aC (ZS HP) .nil))))) (ZT ah (ZT aC (ZT ah (ZT qS (ZT wu (ZS yG) (ZS AQ)) (ZT Ao (ZS zv) (ZS ah))) (ZT sT (ZT vp (ZS ah) (ZS HM)) (ZT Bc (ZS aC) (ZS FO)))) (ZT qH (ZT ah (ZT u9 (ZS aC) (ZS AG)) (ZT ah (ZS F5) (ZS ah))) (ZT lQ (ZT ah (ZS Ic) (ZS BO)) (ZT Fh (ZS Bt) .nil)))) (ZT ut (ZT (pT P) (ZT tU (ZT qJ (ZS ah) (ZS Fd)) (ZT BF (ZS ah) (ZS A6))) (ZT lU (ZT ah (ZS Hi) (ZS Bx)) (ZT ah (ZS AT) .nil))) (ZT ah (ZT ah (ZT uV (ZS zh) (ZS aC)) (ZT aC (ZS BL) (ZS aC))) (ZT lR (ZT Ht (ZS yt) (ZS zi)) (ZT zy (ZS aC) .nil)))))) (ZT (boot_o_5 P) (ZT (boot_o_9 P) (ZT (uo P) (ZT uh (ZT tW (ZT qf (ZS Fv) (ZS F1)) (ZT ah (ZS ah) (ZS aC))) (ZT tK (ZT vc (ZS aC) (ZS Bf)) (ZT ah (ZS yX) (ZS zg)))) (ZT ah (ZT ah (ZT pF (ZS yU) (ZS ah)) (ZT Aj (ZS Ah) (ZS Bo))) (ZT lO (ZT aC (ZS Au) (ZS Hu)) (ZT AO (ZS aC) .nil)))) (ZT qU (ZT rf (ZT tT (ZT ah (ZS zE) (ZS ah)) (ZT ET (ZS aC) (ZS HV))) (ZT l9 (ZT z7 (ZS yA) (ZS ah)) (ZT gx (ZS ah) .nil))) (ZT aC (ZT uy (ZT vX (ZS ah) (ZS Ai)) (ZT BY (ZS ah) (ZS AC))) (ZT mE (ZT zw (ZS EM) (ZS ah)) (ZT ah (ZS AS) .nil))))) (ZT xV (ZT uj (ZT pI (ZT uE (ZT pO (ZS aC) (ZS aC)) (ZT ah (ZS Hn) (ZS zp))) (ZT ng (ZT aC (ZS BX) (ZS zY)) (ZT GM (ZS ah) (ZS yP)))) (ZT tR (ZT ah (ZT vx (ZS ah) (ZS ah)) (ZT zm (ZS zQ) (ZS AM))) (ZT nu (ZT zH (ZS ah) (ZS aC)) (ZT z5 (ZS ah) .nil)))) (ZT gx (ZT sZ (ZT ah (ZT ah (ZS Bb) (ZS Br)) (ZT aC (ZS BK) (ZS aC))) (ZT lJ (ZT HZ (ZS Bs) (ZS ah)) (ZT HF (ZS FH) .nil))) (ZT rg (ZT tD (ZT vm (ZS HR) (ZS Ae)) (ZT ah (ZS ah) (ZS Ap))) (ZT lW (ZT BG (ZS aC) (ZS FQ)) (ZT ah (ZS AD) .nil))))))) (ZT (boot_o_2 P) (ZT (boot_o_4 P) (ZT (boot_o_8 P) (ZT gx (ZT tI (ZT aC (ZT aC (ZS ah) (ZS aC)) (ZT BU (ZS zo) (ZS ah))) (ZT tw (ZT uU (ZS ah) (ZS aC)) (ZT yF (ZS Bd) (ZS aC)))) (ZT rC (ZT uz (ZT qE (ZS AZ) (ZS zW)) (ZT EW (ZS aC) (ZS Gg))) (ZT mD (ZT ah (ZS A8) (ZS ah)) (ZT aC (ZS ah) .nil)))) (ZT rh (ZT qG (ZT uG (ZT qD (ZS ER) (ZS yY)) (ZT ah (ZS ah) (ZS aC))) (ZT mK (ZT Hj (ZS aC) (ZS zk)) (ZT ah (ZS za) .nil))) (ZT ah (ZT ub (ZT vV (ZS Bk) (ZS yZ)) (ZT AH (ZS Ax) (ZS BB))) (ZT mm (ZT aC (ZS ah) (ZS Ay)) (ZT zn (ZS AJ) .nil))))) (ZT Ky (ZT uD (ZT aC (ZT (sU P) (ZT qo (ZS ah) (ZS ah)) (ZT Af (ZS ah) (ZS Hh))) (ZT lK (ZT ah (ZS Il) (ZS z9)) (ZT ah (ZS BD) (ZS BC)))) (ZT ah (ZT sV (ZT wj (ZS zI) (ZS A9)) (ZT aC (ZS AV) (ZS aC))) (ZT mV (ZT Fl (ZS EY) (ZS ah)) (ZT At (ZS yD) .nil)))) (ZT qk (ZT qz (ZT tZ (ZT ql (ZS aC) (ZS BH)) (ZT ah (ZS Gu) (ZS ah))) (ZT ah (ZT aC (ZS yw) (ZS zB)) (ZT EO (ZS ah) .nil))) (ZT tE (ZT sX (ZT vG (ZS ah) (ZS HX)) (ZT AN (ZS Bg) (ZS Fj))) (ZT lH (ZT Aq (ZS ah) (ZS ah)) (ZT A0 (ZS Fm) .nil)))))) (ZT (boot_o_6 P) (ZT (boot_o_10 P) (ZT ah (ZT uv (ZT rz (ZT ah (ZS BQ) (ZS zF)) (ZT Ig (ZS aC) (ZS Bz))) (ZT ui (ZT u0 (ZS Ar) (ZS ah)) (ZT aC (ZS ah) (ZS ah)))) (ZT aC (ZT uI (ZT (vo P) (ZS ah) (ZS GW)) (ZT zx (ZS ah) (ZS z6))) (ZT md (ZT yR (ZS AF) (ZS zM)) (ZT ah (ZS Hl) .nil)))) (ZT sQ (ZT pJ (ZT ud (ZT vI (ZS Ad) (ZS aC)) (ZT BJ (ZS AU) (ZS AL))) (ZT mW (ZT zP (ZS ah) (ZS GT)) (ZT (FA P) (ZS aC) .nil))) (ZT qb (ZT uO (ZT vP (ZS aC) (ZS ah)) (ZT ah (ZS HQ) (ZS ah))) (ZT mz (ZT ah (ZS Ba) (ZS aC)) (ZT EU (ZS ah) .nil))))) (ZT wY (ZT ah (ZT ah (ZT ua (ZT ah (ZS BE) (ZS Fp)) (ZT aC (ZS zu) (ZS yv))) (ZT nq (ZT As (ZS zZ) (ZS ah)) (ZT A2 (ZS GI) .nil))) (ZT pQ (ZT tz (ZT vK (ZS Fy) (ZS aC)) (ZT ah (ZS ah) (ZS ah))) (ZT mi (ZT Az (ZS aC) (ZS FV)) (ZT ah (ZS aC) .nil)))) (ZT (uf P) (ZT uB (ZT uH (ZT aC (ZS ah) (ZS ah)) (ZT yM (ZS BV) (ZS zJ))) (ZT np (ZT yL (ZS Ag) (ZS aC)) (ZT Hk (ZS zG) .nil))) (ZT qu (ZT uP (ZT vT (ZS zO) (ZS zC)) (ZT Im (ZS aC) (ZS Bj))) (ZT (nj P) (ZT ah (ZS Fa) (ZS yO)) (ZT aC (ZS zq) .nil))))))))
def s_4 (w:World) (os:OsState):SharedT:=⟨t_4 w.params,486,{ :Life },#[],⟨0,0,0,0⟩,966,os⟩
def q4:List Stmt:=(pE.main.body.drop 20).take 44
theorem l_4:∀ (w:World) (os:OsState),segRunT treeTable pE w m0 ann 1 1703 (s_3 w os) (piecesOf q4 env cE ⟨36,0,36,6⟩ B)=some (.next,s_4 w os,cE,⟨486,0,501,91⟩):=fun w os=>by kernel_rfl
def hz (P:Params):Heap:=⟨⟨[(boot_o_0 P),(boot_o_1 P),(boot_o_2 P),(Lm P),(boot_o_4 P),(boot_o_5 P),(boot_o_6 P),(boot_o_7 P),(boot_o_8 P),(boot_o_9 P),(boot_o_10 P),ah,Ky,xV,wY,pR,gx,(uo P),ah,aC,uD,uj,ah,(rB P),rh,qU,sQ,ut,qk,gx,(uf P),ah,tI,uh,uv,ah,aC,pI,ah,uk,qG,rf,pJ,(pT P),qz,sZ,uB,pw,rC,ah,aC,qH,ah,tR,pQ,qv,ah,aC,qb,ah,tE,rg,qu,ah,aC,tW,rz,qS,(sU P),uE,ua,sY,uG,tT,ud,tU,tZ,ah,uH,uL,uz,ah,uI,ah,sV,ah,tz,tP,ub,uy,uO,ah,sX,tD,uP,sW,tw,tK,ui,sT,lK,ng,nq,(rD P),mK,l9,mW,lU,ah,lJ,np,lP,mD,lO,md,lQ,mV,nu,mi,my,mm,mE,mz,lR,lH,lW,(nj P),ah,aC,qf,ah,wu,qo,pO,ah,aC,qD,ah,vI,qJ,ql,ah,aC,vy,qE,pF,(vo P),u9,wj,vx,vK,wk,vV,vX,vP,uV,vG,vm,vT,(wo P),uU,vc,u0,vp,ah,aC,As,ah,Hj,z7,zP,ah,aC,HZ,yL,zX,ah,aC,yR,ah,Fl,zH,Az,ah,aC,zw,ah,Ht,Aq,BG,ah,aC,BU,ah,Ig,Ao,Af,ah,aC,Aa,ah,ET,BJ,BF,ah,aC,yM,ah,EW,Aj,zx,ah,aC,zm,ah,Hv,AH,BY,ah,aC,AN,ah,Im,Ak,yF,ah,aC,Bc,ah,GM,A2,z4,ah,gx,(FA P),ah,EO,HF,Hk,ah,aC,AO,ah,Fh,At,z5,ah,aC,zn,ah,EU,zy,A0,ah,aC,BN,ah,Fv,BQ,yG,ah,aC,BE,ah,ER,zE,Ad,ah,aC,Bb,ah,Gv,AZ,yU,ah,aC,zI,ah,Fy,Am,Bk,ah,aC,zh,ah,HR,zO,zT,ah,aC,Ar,ah,Il,BX,zZ,ah,aC,yA,ah,Hi,yw,Bs,Ag,(Av P),A8,Au,AF,Ic,EY,ah,aC,yW,ah,EM,Ba,yt,ah,aC,Fa,zd,zo,ah,aC,zv,ah,Hn,zu,yB,ah,aC,AU,ah,Gu,BK,BV,ah,aC,Ah,ah,F5,AV,zQ,ah,aC,Ax,ah,HQ,BL,Bg,ah,aC,Gq,Bd,yX,ah,aC,BD,ah,GI,AR,za,ah,aC,AT,ah,FH,zG,A1,ah,aC,Hl,Bt,yD,ah,aC,HP,AJ,AS,ah,aC,Fm,AD,zq,ah,aC,F1,zF,AQ,ah,aC,Fp,Bu,yY,ah,aC,Fd,BH,Br,ah,aC,zW,ah,GW,AG,A9,ah,aC,EJ,yZ,Ai,ah,aC,HX,Ae,zC,ah,aC,Bf,ah,HM,z9,zY,ah,aC,zk,ah,GT,Bx,zB,ah,aC,Bv,ah,Hu,zM,BO,ah,aC,FV,BA,Ay,ah,aC,zi,ah,FQ,yO,Bh,ah,aC,Bz,ah,Hh,zp,yv,ah,aC,HV,AL,A6,ah,aC,zJ,ah,Gg,Bo,z6,ah,aC,AM,ah,Fs,BB,AC,ah,aC,Fj,Ap,Bj,ah,aC,zg,ah,FO,BC,yP]⟩,{ :Life }⟩
def sz (w:World) (os:OsState):Shared:=⟨hz w.params,#[],⟨0,0,0,0⟩,966,os⟩
theorem NZ:∀ (w:World) (os:OsState),topRun treeTable pE w m0 ann 2 (s_4 w os).abs (Thread.mk (doneF .next) cE ⟨486,0,501,91⟩ B)=some (sz w os):=fun w os=>by kernel_rfl
theorem OH:∀ (w:World) (os:OsState),topRun treeTable pE w m0 ann (12+(1+(590+(732+(94+(305+(1703+2))))))) (s0 w os) (topStub pE)=some (sz w os):=fun w os=>go_top (OE w os) (piece_block (JE w os) (piece_app (l:=q0) (segRun_of (l_0 w os)) (piece_app (l:=q1) (segRun_of (l_1 w os)) (piece_app (l:=q2) (segRun_of (l_2 w os)) (piece_app (l:=q3) (segRun_of (l_3 w os)) (piece_app (l:=q4) (segRun_of (l_4 w os)) (piece_nil (NZ w os))))))))
def HK (P:Params):Frag:=[(2,(boot_o_2 P)),(3,(Lm P)),(15,pR),(22,ah),(23,(rB P)),(24,rh),(25,qU),(28,qk),(35,ah),(37,pI),(38,ah),(40,qG),(41,rf),(42,pJ),(43,(pT P)),(44,qz),(47,pw),(48,rC),(49,ah),(51,qH),(52,ah),(54,pQ),(55,qv),(56,ah),(58,qb),(59,ah),(61,rg),(62,qu),(63,ah),(66,rz),(67,qS),(68,(sU P)),(69,uE),(70,ua),(71,sY),(72,uG),(73,tT),(74,ud),(75,tU),(76,tZ),(77,ah),(78,uH),(79,uL),(80,uz),(81,ah),(82,uI),(83,ah),(84,sV),(85,ah),(86,tz),(87,tP),(88,ub),(89,uy),(90,uO),(91,ah),(92,sX),(93,tD),(94,uP),(95,sW),(96,tw),(97,tK),(98,ui),(99,sT),(100,lK),(101,ng),(102,nq),(104,mK),(105,l9),(106,mW),(107,lU),(108,ah),(109,lJ),(110,np),(111,lP),(112,mD),(113,lO),(114,md),(115,lQ),(116,mV),(117,nu),(118,mi),(119,my),(120,mm),(121,mE),(122,mz),(123,lR),(124,lH),(125,lW),(126,(nj P)),(127,ah),(129,qf),(130,ah),(132,qo),(133,pO),(134,ah),(136,qD),(137,ah),(139,qJ),(140,ql),(141,ah),(144,qE),(145,pF),(146,(vo P)),(147,u9),(148,wj),(149,vx),(150,vK),(151,wk),(152,vV),(153,vX),(154,vP),(155,uV),(156,vG),(157,vm),(158,vT),(159,(wo P)),(160,uU),(161,vc),(162,u0),(163,vp),(164,ah),(166,As),(167,ah),(169,z7),(170,zP),(171,ah),(174,yL),(175,zX),(176,ah),(178,yR),(179,ah),(181,zH),(182,Az),(183,ah),(185,zw),(186,ah),(188,Aq),(189,BG),(190,ah),(192,BU),(193,ah),(195,Ao),(196,Af),(197,ah),(199,Aa),(200,ah),(202,BJ),(203,BF),(204,ah),(206,yM),(207,ah),(209,Aj),(210,zx),(211,ah),(213,zm),(214,ah),(216,AH),(217,BY),(218,ah),(220,AN),(221,ah),(223,Ak),(224,yF),(225,ah),(227,Bc),(228,ah),(230,A2),(231,z4),(239,ah),(241,AO),(242,ah),(244,At),(245,z5),(246,ah),(248,zn),(249,ah),(251,zy),(252,A0),(253,ah),(255,BN),(256,ah),(258,BQ),(259,yG),(260,ah),(262,BE),(263,ah),(265,zE),(266,Ad),(267,ah),(269,Bb),(270,ah),(272,AZ),(273,yU),(274,ah),(276,zI),(277,ah),(279,Am),(280,Bk),(281,ah),(283,zh),(284,ah),(286,zO),(287,zT),(288,ah),(290,Ar),(291,ah),(293,BX),(294,zZ),(295,ah),(297,yA),(298,ah),(300,yw),(301,Bs),(302,Ag),(303,(Av P)),(304,A8),(305,Au),(306,AF),(309,ah),(311,yW),(312,ah),(314,Ba),(315,yt),(316,ah),(319,zd),(320,zo),(321,ah),(323,zv),(324,ah),(326,zu),(327,yB),(328,ah),(330,AU),(331,ah),(333,BK),(334,BV),(335,ah),(337,Ah),(338,ah),(340,AV),(341,zQ),(342,ah),(344,Ax),(345,ah),(347,BL),(348,Bg),(349,ah),(352,Bd),(353,yX),(354,ah),(356,BD),(357,ah),(359,AR),(360,za),(361,ah),(363,AT),(364,ah),(366,zG),(367,A1),(368,ah),(371,Bt),(372,yD),(373,ah),(376,AJ),(377,AS),(378,ah),(381,AD),(382,zq),(383,ah),(386,zF),(387,AQ),(388,ah),(391,Bu),(392,yY),(393,ah),(396,BH),(397,Br),(398,ah),(400,zW),(401,ah),(403,AG),(404,A9),(405,ah),(408,yZ),(409,Ai),(410,ah),(413,Ae),(414,zC),(415,ah),(417,Bf),(418,ah),(420,z9),(421,zY),(422,ah),(424,zk),(425,ah),(427,Bx),(428,zB),(429,ah),(431,Bv),(432,ah),(434,zM),(435,BO),(436,ah),(439,BA),(440,Ay),(441,ah),(443,zi),(444,ah),(446,yO),(447,Bh),(448,ah),(450,Bz),(451,ah),(453,zp),(454,yv),(455,ah),(458,AL),(459,A6),(460,ah),(462,zJ),(463,ah),(465,Bo),(466,z6),(467,ah),(469,AM),(470,ah),(472,BB),(473,AC),(474,ah),(477,Ap),(478,Bj),(479,ah),(481,zg),(482,ah),(484,BC),(485,yP)]
def HA:List Addr:=[2,3,15,22,23,24,25,28,35,37,38,40,41,42,43,44,47,48,49,51,52,54,55,56,58,59,61,62,63,66,67,68,69,70,71,72,73,74,75,76,77,78,79,80,81,82,83,84,85,86,87,88,89,90,91,92,93,94,95,96,97,98,99,100,101,102,104,105,106,107,108,109,110,111,112,113,114,115,116,117,118,119,120,121,122,123,124,125,126,127,129,130,132,133,134,136,137,139,140,141,144,145,146,147,148,149,150,151,152,153,154,155,156,157,158,159,160,161,162,163,164,166,167,169,170,171,174,175,176,178,179,181,182,183,185,186,188,189,190,192,193,195,196,197,199,200,202,203,204,206,207,209,210,211,213,214,216,217,218,220,221,223,224,225,227,228,230,231,239,241,242,244,245,246,248,249,251,252,253,255,256,258,259,260,262,263,265,266,267,269,270,272,273,274,276,277,279,280,281,283,284,286,287,288,290,291,293,294,295,297,298,300,301,302,303,304,305,306,309,311,312,314,315,316,319,320,321,323,324,326,327,328,330,331,333,334,335,337,338,340,341,342,344,345,347,348,349,352,353,354,356,357,359,360,361,363,364,366,367,368,371,372,373,376,377,378,381,382,383,386,387,388,391,392,393,396,397,398,400,401,403,404,405,408,409,410,413,414,415,417,418,420,421,422,424,425,427,428,429,431,432,434,435,436,439,440,441,443,444,446,447,448,450,451,453,454,455,458,459,460,462,463,465,466,467,469,470,472,473,474,477,478,479,481,482,484,485]
theorem NL (P:Params):HA=(HK P).map (·.1):=by kernel_rfl
def qV:Program:={ pE with main:={ pE.main with body:=[top 63] } }
def lo:List Str:=[(sx "ForkError"),(sx "NoText"),(sx "PLAIN_KINDS"),(sx "NO_NAMES"),(sx "LETTERS"),(sx "SIGNS"),(sx "is_sign_number"),(sx "sign_of"),(sx "is_name"),(sx "SHAPES"),(sx "LISTED"),(sx "sort_of"),(sx "inner_count"),(sx "inner_of"),(sx "OWN"),(sx "BOUNDS"),(sx "FIGURES"),(sx "MOST_FIGURES"),(sx "word_at"),(sx "number_of"),(sx "signs_at"),(sx "own_at"),(sx "inner_sorts"),(sx "head_at"),(sx "joined"),(sx "joined_heads"),(sx "statement_of"),(sx "pairs_of"),(sx "Reading"),(sx "read"),(sx "own_words"),(sx "row_of"),(sx "behind_row"),(sx "body_rows"),(sx "row_with_pairs"),(sx "shown"),(sx "_law_tape"),(sx "_law_draw"),(sx "_law_names"),(sx "_law_records"),(sx "_law_kind"),(sx "_law_heads"),(sx "_law_count"),(sx "_law_leaf"),(sx "_law_num"),(sx "_law_row"),(sx "_law_e"),(sx "_law_bounded"),(sx "_law_condition"),(sx "_law_body"),(sx "_law_statement"),(sx "_law_kit"),(sx "_law_program"),(sx "_law_words"),(sx "_law_condition_words"),(sx "_law_rows"),(sx "_law_program_rows")]
abbrev rW:RowW:=OpenRow.toRowW (OpenLaw.row PySem.Challenge.rw_everyfork_k08_shown_and_read)
abbrev Xt:Shared->Bool:=fun s=>xlAt qV [] s&&recOk (RowW.records rW) s
abbrev hk:Hook:=kHook HK HA NL
theorem Lu:∀ w:World,(fencedOpening treeTable pE w 5000).map (fun s=>(s.heap,s.gens,s.drawn,s.toks))=some (boot_heap w.params,Array.mk [],boot_drawn,boot_toks) :=
 boot_open (by kernel_rfl) (by kernel_rfl) fun s=>by kernel_rfl
theorem MB:∀ w:World,((boot_heap w.params).isNs mainGlobals&&(Array.mk []:Array GenState).size==0,(boot_heap w.params).objs.size,(boot_heap w.params).nsMap mainGlobals "__annotations__")=(true,m0,ann):=fun w=>by kernel_rfl
theorem JW:∀ w:World,(fun os=>((staticsOk (importedModules pE.main.body) (boot_heap w.params) (hz w.params)&&namesBound pE (hz w.params)&&gensDone ⟨hz w.params,#[],⟨0,0,0,0⟩,966,os⟩&&laidKept (boot_heap w.params) (hz w.params)),openSeen qV lo (importedModules pE.main.body) Xt true ⟨hz w.params,#[],⟨0,0,0,0⟩,966,os⟩,hk.obs ⟨hz w.params,#[],⟨0,0,0,0⟩,966,os⟩))=fun _=>(true,openGood qV lo,hk.val w):=fun w=>by kernel_rfl
theorem left:LeftO pE qV lo Xt hk.obs hk.val 5000:=LeftO.of_pieces (M:=(12+(1+(590+(732+(94+(305+(1703+2)))))))) Lu MB OH (by kernel_rfl) JW
end
end HD
namespace L2
open PySem
structure Df (K:Frag) (mg:Str->Option Value) (x:Str) (st:Stmt) (ps:List Str) (f:Addr) (fd:FuncData):Prop where
 F:Fun K x x st f fd
 b:cH K fd ps []
 m:mg x=some (.ref f)
noncomputable def fdA (K:Frag) (f:Addr):FuncData:=match K.lookup f with | some ⟨_,_,.func d,_⟩=>d | _=>default
abbrev fdO (K:Frag) (f:Addr) (x:Str) (st:Stmt):FuncData:=PySem.W.fnOf x x (defArgs st) (defBody st) (defScope st) .none (fdA K f).kwdefaults (fdA K f).doc (fdA K f).pyModule (fdA K f).annotations (fdA K f).code (fdA K f).closureTuple
abbrev DfE (K:Frag) (x:Str) (f:Addr) (st:Stmt):Prop:=(PySem.W.nsIn K mainGlobals x,K.lookup f,PySem.W.codeIn K (fdA K f).code x,keepIn K (.ref f))=(some (some (.ref f)),some ⟨.type "function",none,.func (fdO K f x st),#[]⟩,true,true)
section
variable {K:Frag} {mg:Str->Option Value} {h:Heap}
theorem bl1 {α:Type} {C:List α->Prop} (h:∀ a,C [a]) (us:List α) (hl:us.length=1):C us:=by
 obtain ⟨a,rfl⟩:=List.length_eq_one_iff.mp hl;exact h a
theorem blc {α:Type} {n:Nat} {us:List α} (hl:us.length=n+1):∃ a r,us=a::r/\r.length=n:=by
 cases us with
 | nil=>cases hl
 | cons a r=>exact ⟨a,r,rfl,Nat.succ.inj hl⟩
theorem bl2 {α:Type} {C:List α->Prop} (h:∀ a b,C [a,b]) (us:List α) (hl:us.length=2):C us:=by
 obtain ⟨a,r,rfl,e⟩:=blc hl;exact bl1 (C:=fun r=>C (a::r)) (h a) r e
theorem bl3 {α:Type} {C:List α->Prop} (h:∀ a b c,C [a,b,c]) (us:List α) (hl:us.length=3):C us:=by
 obtain ⟨a,r,rfl,e⟩:=blc hl;exact bl2 (C:=fun r=>C (a::r)) (h a) r e
theorem bl4 {α:Type} {C:List α->Prop} (h:∀ a b c d,C [a,b,c,d]) (us:List α) (hl:us.length=4):C us:=by
 obtain ⟨a,r,rfl,e⟩:=blc hl;exact bl3 (C:=fun r=>C (a::r)) (h a) r e
theorem df_of (X:K.In h) (G:h.Ns mainGlobals mg) {x:Str} {f:Addr} {st:Stmt} {ps:List Str} (e:DfE K x f st)
  (hb:∀ (kV doc pm:Value) (an:Option Addr) (gm ct:Value) (us:List Value),us.length=ps.length->bindArgs (PySem.W.fnOf x x (defArgs st) (defBody st) (defScope st) .none kV doc pm an gm ct) ⟨us,[]⟩=pure (ps.zip us)):Df K mg x st ps f (fdO K f x st):=by
 obtain ⟨e1,e⟩:=Prod.mk.inj e;obtain ⟨e2,e⟩:=Prod.mk.inj e;obtain ⟨e3,e4⟩:=Prod.mk.inj e;have F:Fun K x x st f (fdO K f x st):=Ik e2 e3 e4;exists F,F.binds hb,mg_of X G e1
theorem Df.cal {P:Program} {w:World} {base:Heap} {x:Str} {st:Stmt} {ps:List Str} {f:Addr} {fd:FuncData} {k:Nat} {sp:Sp} (D:Df K mg x st ps f fd) (o:eI P w K mg base CX0 k f fd ps sp):K6.Cal P w K mg base k x ps sp:=⟨f,fd,o,D.b,D.F.kp,D.m⟩
noncomputable def Dc (K:Frag) (a:Addr):Array Value:=match K.lookup a with | some ⟨_,_,.seq xs _,_⟩=>xs | _=>#[]
noncomputable def esA (K:Frag) (a:Addr):Array DictEntry:=match K.lookup a with | some ⟨_,_,.dict xs _,_⟩=>xs | _=>#[]
noncomputable def nA (K:Frag) (a:Addr):Nat:=match K.lookup a with | some ⟨_,_,.dict _ n,_⟩=>n | _=>0
abbrev tO (K:Frag) (a:Addr):Obj:=⟨.type "tuple",none,.seq (Dc K a) 0,#[]⟩
noncomputable def vIs:V->Value->Bool
 | .int i,.int j _=>i==j
 | .str z,.str y _=>z==y
 | .ref a,.ref b=>a==b
 | _,_=>false
theorem Ma {v:V} {u:Value} (h:vIs v u=true):a7 v u:=by
 unfold vIs at h
 split at h
 ·exists _,by rw [eq_of_beq h]
 ·exists _,by rw [eq_of_beq h]
 ·show _=_;rw [eq_of_beq h]
 ·cases h
noncomputable def nQ:List V->List Value->Bool
 | [],[]=>true
 | v::vs,u::us=>vIs v u&&nQ vs us
 | _,_=>false
theorem xD:∀ {vs:List V} {us:List Value},nQ vs us=true->aI vs us
 | [],[],_=>.nil
 | v::vs,u::us,h=>by
  simp only [nQ,XT] at h;exact .cons (Ma h.1) (xD h.2)
 | [],_::_,h=>by cases h
 | _::_,[],h=>by cases h
theorem tq {a:Addr} {xs:List V} (e:K.lookup a=some (tO K a)) (hl:xs.length<=1000) (h:nQ xs (Dc K a).toList=true):∀ H,SqT K H a xs:=fun H=>by
 have r:=xD h
 have:=aI.length r
 refine .inr ⟨_,_,0,e,rfl,rfl,?_,r⟩
 have:=ap hl
 rw [<- XS];omega
noncomputable def kx (e:DictEntry):Str:=match e.key with | .str x _=>x | _=>Str.empty
noncomputable def kt (e:DictEntry):Tok:=match e.key with | .str _ t=>t | _=>0
theorem Cl {P:Params}:∀ {l:List DictEntry},l.map (fun e=>(e.key,e.hash))=l.map (fun e=>(.str (kx e) (kt e),PyData.keyHash P (kx e)))->KeysLit P l
 | [],_=>trivial
 | e::r,h=>by
  rw [Xp,Xp] at h;obtain ⟨h1,h2⟩:=List.cons.inj h;obtain ⟨h3,h4⟩:=Prod.mk.inj h1;exists ⟨_,_,h3,h4⟩,Cl h2
abbrev KdE (K:Frag) (P:Params) (a:Addr):Prop:=(K.lookup a,(esA K a).toList.map (fun e=>(e.key,e.hash)))=(some ⟨.type "dict",none,.dict (esA K a) (nA K a),#[]⟩,(esA K a).toList.map fun e=>(.str (kx e) (kt e),PyData.keyHash P (kx e)))
theorem u5 {w:World} {a:Addr} (e:KdE K w.params a) (lo:(a==sysModules)=false):KDv K w a:=⟨⟨_,_,(Prod.mk.inj e).1,Cl (Prod.mk.inj e).2⟩,lo⟩
abbrev Mp:=Str×Addr×Addr×List V×List V
abbrev TbE (K:Frag) (a:Addr) (q:List Mp):Prop:=(q.map fun r=>(PySem.W.nsIn K a r.1,K.lookup r.2.1,K.lookup r.2.2.1),q.all fun r=>r.2.2.2.1.length<=1000&&r.2.2.2.2.length<=1000&&nQ r.2.2.2.1 (Dc K r.2.1).toList&&nQ r.2.2.2.2 (Dc K r.2.2.1).toList)=(q.map fun r=>(some (some (.ref r.2.1)),some (tO K r.2.1),some (tO K r.2.2.1)),true)
theorem Lp {a:Addr} {q:List Mp} (e:TbE K a q):∀ r∈q,PySem.W.nsIn K a r.1=some (some (.ref r.2.1))/\(∀ H,SqT K H r.2.1 r.2.2.2.1)/\∀ H,SqT K H r.2.2.1 r.2.2.2.2:=fun r hr=>by
 obtain ⟨e1,e2⟩:=Prod.mk.inj e;have h1:=Yr.mp e1 r hr;have h2:=X2.mp e2 r hr;simp only [XT,decide_eq_true_eq] at h2;obtain ⟨a1,a2⟩:=Prod.mk.inj h1;obtain ⟨a2,a3⟩:=Prod.mk.inj a2;exists a1,tq a2 h2.1.1.1 h2.1.2,tq a3 h2.1.1.2 h2.2
theorem vZ {α β:Type}:∀ {l:List α} {m:List β},l.length=m.length->∀ x∈l,∃ y,(x,y)∈l.zip m
 | a::l,b::m,h,x,hx=>by
  rcases Xa.mp hx with rfl | hx
  ·exists b,Xl ..
  ·obtain ⟨y,hy⟩:=vZ (by simpa using h) x hx;exists y,Xg _ hy
noncomputable def LK (K:Frag) (a:Addr) (x:Str):Tok:=match PySem.W.nsIn K a x with | some (some (.int _ t))=>t | some (some (.str _ t))=>t | _=>0
theorem mI (X:K.In h) (G:h.Ns mainGlobals mg) {x:Str} {i:Int} (e:PySem.W.nsIn K mainGlobals x=some (some (.int i (LK K mainGlobals x)))):∃ t,mg x=some (.int i t):=⟨_,mg_of X G e⟩
theorem mS' (X:K.In h) (G:h.Ns mainGlobals mg) {x z:Str} (e:PySem.W.nsIn K mainGlobals x=some (some (.str z (LK K mainGlobals x)))):∃ t,mg x=some (.str z t):=⟨_,mg_of X G e⟩
abbrev TuE (K:Frag) (x:Str) (a:Addr) (xs:List V):Prop:=(PySem.W.nsIn K mainGlobals x,K.lookup a,nQ xs (Dc K a).toList)=(some (some (.ref a)),some (tO K a),true)
theorem mT (X:K.In h) (G:h.Ns mainGlobals mg) {x:Str} {a:Addr} {xs:List V} (e:TuE K x a xs) (hl:xs.length<=1000):∃ a,mg x=some (.ref a)/\∀ H,SqT K H a xs:=by
 obtain ⟨e1,e⟩:=Prod.mk.inj e;obtain ⟨e2,e3⟩:=Prod.mk.inj e;exists a,mg_of X G e1,tq e2 hl e3
abbrev fdM (K:Frag) (f:Addr) (x q:Str) (st:Stmt):FuncData:=PySem.W.fnOf x q (defArgs st) (defBody st) (defScope st) .none (fdA K f).kwdefaults (fdA K f).doc (fdA K f).pyModule (fdA K f).annotations (fdA K f).code (fdA K f).closureTuple
structure Dm (K:Frag) (C:Addr) (x q:Str) (st:Stmt) (ps:List Str) (f:Addr) (fd:FuncData):Prop where
 F:Fun K x q st f fd
 b:cH K fd ps []
 m:DK K C x f
abbrev DmE (K:Frag) (C:Addr) (x q:Str) (f:Addr) (st:Stmt):Prop:=(findIn K (.ref C) x,Zo K (.ref f),K.lookup f,PySem.W.codeIn K (fdA K f).code q,keepIn K (.ref f))=(some (some (.ref f)),true,some ⟨.type "function",none,.func (fdM K f x q st),#[]⟩,true,true)
theorem kR {C:Addr} {x q:Str} {f:Addr} {st:Stmt} {ps:List Str} (e:DmE K C x q f st)
  (hb:∀ (kV doc pm:Value) (an:Option Addr) (gm ct:Value) (us:List Value),us.length=ps.length->bindArgs (PySem.W.fnOf x q (defArgs st) (defBody st) (defScope st) .none kV doc pm an gm ct) ⟨us,[]⟩=pure (ps.zip us)):Dm K C x q st ps f (fdM K f x q st):=by
 obtain ⟨e1,e⟩:=Prod.mk.inj e;obtain ⟨e2,e⟩:=Prod.mk.inj e;obtain ⟨e3,e⟩:=Prod.mk.inj e;obtain ⟨e4,e5⟩:=Prod.mk.inj e;have F:Fun K x q st f (fdM K f x q st):=Ik e3 e4 e5;exists F,F.binds hb,⟨e1,e2,e5⟩
theorem Dm.cal {P:Program} {w:World} {base:Heap} {C:Addr} {x q:Str} {st:Stmt} {ps:List Str} {f:Addr} {fd:FuncData} {k:Nat} {sp:Sp} (D:Dm K C x q st ps f fd) (o:eI P w K mg base CX0 k f fd ps sp):K6.MCal P w K mg base C k x ps sp:=⟨f,fd,o,D.b,D.m⟩
abbrev Jz:=Str×Addr×List V
abbrev UbE (K:Frag) (a:Addr) (q:List Jz) (no:List Str):Prop:=(q.map (fun r=>(PySem.W.nsIn K a r.1,K.lookup r.2.1)),no.map (fun z=>PySem.W.nsIn K a z),q.all fun r=>decide (r.2.2.length<=1000)&&nQ r.2.2 (Dc K r.2.1).toList)=(q.map (fun r=>(some (some (.ref r.2.1)),some (tO K r.2.1))),no.map (fun _=>some none),true)
theorem Kp {a:Addr} {q:List Jz} {no:List Str} (e:UbE K a q no):(∀ r∈q,PySem.W.nsIn K a r.1=some (some (.ref r.2.1))/\∀ H,SqT K H r.2.1 r.2.2)/\∀ z∈no,PySem.W.nsIn K a z=some none:=by
 obtain ⟨e1,e⟩:=Prod.mk.inj e;obtain ⟨e2,e3⟩:=Prod.mk.inj e;exists fun r hr=>?_,fun z hz=>Yr.mp e2 z hz
 obtain ⟨a1,a2⟩:=Prod.mk.inj (Yr.mp e1 r hr);have h2:=X2.mp e3 r hr;simp only [XT,decide_eq_true_eq] at h2;exists a1,tq a2 h2.1 h2.2
end
end L2
namespace K6
open PySem L2
noncomputable def SHX:List (Str×Str×Int×List Int):=[("let", "statement",3,[2]),("say", "statement",3,[2]),("if", "statement",4,[1]),("while", "statement",3,[1]),("call", "statement",4,[]),("give", "statement",2,[1]),("num", "expression",2,[]),("text", "expression",2,[]),("var", "expression",2,[]),("of", "expression",3,[1]),("with", "expression",4,[1,3]),("new", "expression",3,[]),("add", "expression",3,[1,2]),("sub", "expression",3,[1,2]),("times", "expression",3,[2]),("div", "expression",3,[1]),("rest", "expression",3,[1]),("len", "expression",2,[1]),("at", "expression",3,[1,2]),("rows", "expression",2,[]),("put", "expression",4,[1,2,3]),("more", "expression",3,[1,2]),("signs", "expression",2,[1]),("less", "condition",3,[1,2]),("same", "condition",3,[1,2]),("and", "condition",3,[1,2]),("or", "condition",3,[1,2]),("not", "condition",2,[1])]
theorem NG:∀ p∈SH8,p∈SHX.map fun q=>(q.1,q.2.1,q.2.2.2):=()
theorem KN:∀ p∈PL8,p∈SHX.map fun q=>(q.1,q.2.2.2):=()
theorem OF:∀ p∈PL8,∀ q∈LIT,q.1≠p.1:=()
structure GX (K:Frag) (w:World) (mg:Str->Option Value):Prop where
 sh:∃ aS,mg "SHAPES"=some (.ref aS)/\KDv K w aS/\∀ q∈SHX,∃ a b,PySem.W.nsIn K aS q.1=some (some (.ref a))/\(∀ H,SqT K H a [.str q.2.1,.int q.2.2.1,.ref b])/\∀ H,SqT K H b (q.2.2.2.map V.int)
 li:∃ aL,mg "LISTED"=some (.ref aL)/\KDv K w aL/\(∀ p∈LIT,∃ t,PySem.W.nsIn K aL p.1=some (some (.int p.2 t)))/\∀ q∈SHX,(∀ p∈LIT,p.1≠q.1)->PySem.W.nsIn K aL q.1=some none
theorem GX.gp {K:Frag} {w:World} {mg:Str->Option Value} (x:GX K w mg):GP8 K w mg:=by
 obtain ⟨aS,m1,k1,h1⟩:=x.sh;obtain ⟨aL,m2,k2,h2,h3⟩:=x.li;exists ⟨aS,m1,k1,fun p hp=>?_⟩,⟨aL,m2,k2,h2,fun p hp=>?_⟩
 ·obtain ⟨q,hq,rfl⟩:=Xr.mp (KN p hp);obtain ⟨a,b,e1,e2,e3⟩:=h1 q hq;exists a,b,_,_,e1,e2,e3
 ·have hn:=OF p hp;obtain ⟨q,hq,rfl⟩:=Xr.mp (KN p hp);exact h3 q hq hn
noncomputable def NU:List Str:=(SH8.map (·.1)).filter fun z=>oy.all fun q=>!(q.1==z)
noncomputable def qOw (l:List Addr):List Jz:=(oy.zip l).map fun p=>(p.1.1,p.2,p.1.2.map V.str)
noncomputable def qBd (l:List Addr):List Jz:=(BND.zip l).map fun p=>(p.1.1,p.2,[.int p.1.2.1,.int p.1.2.2])
theorem Rf:∀ p∈SH8,(∀ q∈oy,q.1≠p.1)->p.1∈NU:=fun p hp hn=>by
 refine YE.mpr ⟨Xr.mpr ⟨p,hp,rfl⟩,X2.mpr fun q hq=>?_⟩;simp only [aaB,beq_eq_false_iff_ne];exact hn q hq
theorem GX.gs {K:Frag} {w:World} {mg:Str->Option Value} {h:Heap} (x:GX K w mg) (X:K.In h) (G:h.Ns mainGlobals mg) {aO:Addr} {l:List Addr} (hl:l.length=12) (mO:PySem.W.nsIn K mainGlobals "OWN"=some (some (.ref aO))) (kO:KDv K w aO) (tO:UbE K aO (qOw l) NU):GS8 K w mg:=by
 obtain ⟨aS,m1,k1,h1⟩:=x.sh;obtain ⟨u1,u2⟩:=Kp tO;exists ⟨aS,m1,k1,fun p hp=>?_⟩,⟨aO,mg_of X G mO,kO,fun p hp=>?_,fun p hp hn=>u2 _ (Rf p hp hn)⟩
 ·obtain ⟨q,hq,rfl⟩:=Xr.mp (NG p hp);obtain ⟨a,b,e1,e2,e3⟩:=h1 q hq;exists a,b,_,e1,e2,e3
 ·obtain ⟨y,hy⟩:=vZ (m:=l) (by rw [hl]; rfl) p hp;exists _,u1 _ (Xr.mpr ⟨_,hy,rfl⟩)
theorem N0 {K:Frag} {w:World} {mg:Str->Option Value} {h:Heap} (X:K.In h) (G:h.Ns mainGlobals mg) {aB:Addr} {l:List Addr} (hl:l.length=4) (mB:PySem.W.nsIn K mainGlobals "BOUNDS"=some (some (.ref aB))) (kB:KDv K w aB) (tB:UbE K aB (qBd l) ["name"]) (hf:∃ t,mg "FIGURES"=some (.str FIG t)) (hm:∃ t,mg "MOST_FIGURES"=some (.int 7 t)):GR K w mg:=by
 obtain ⟨u1,u2⟩:=Kp tB;exists ⟨aB,mg_of X G mB,kB,fun p hp=>?_,u2 _ (by simp)⟩,hf,hm;obtain ⟨y,hy⟩:=vZ (m:=l) (by rw [hl]; rfl) p hp;exists _,u1 _ (Xr.mpr ⟨_,hy,rfl⟩)
noncomputable def OG:List Str:=["records", "functions", "head", "variables", "bodies"]
abbrev GcE (K:Frag) (C:Addr):Prop:=(YA K C Str.empty,YJ K C,Zg K C,findIn K (.ref C) "__setattr__",Zs K C,keepIn K (.ref C),OG.map fun z=>findIn K (.ref C) z)=(true,true,true,some (some (.builtin "object.__setattr__")),true,true,OG.map fun _=>some none)
theorem OY {K:Frag} {C:Addr} (e:GcE K C):GC K C/\∀ {f:Addr},DK K C "__init__" f->Mk K C f:=by
 obtain ⟨e1,e⟩:=Prod.mk.inj e;obtain ⟨e2,e⟩:=Prod.mk.inj e;obtain ⟨e3,e⟩:=Prod.mk.inj e;obtain ⟨e4,e⟩:=Prod.mk.inj e;obtain ⟨e5,e⟩:=Prod.mk.inj e;obtain ⟨e6,e7⟩:=Prod.mk.inj e;exists ⟨⟨e1,e2,e3,e4⟩,fun z hz=>Yr.mp e7 z hz⟩,fun m=>⟨e5,m.at_,m.fn,e6⟩
noncomputable def qSh (l:List (Addr×Addr)):List Mp:=(SHX.zip l).map fun p=>(p.1.1,p.2.1,p.2.2,[.str p.1.2.1,.int p.1.2.2.1,.ref p.2.2],p.1.2.2.2.map V.int)
abbrev LiE (K:Frag) (a:Addr):Prop:=(LIT.map fun p=>PySem.W.nsIn K a p.1,(SHX.filter fun q=>LIT.all fun p=>!(p.1==q.1)).map fun q=>PySem.W.nsIn K a q.1)=(LIT.map fun p=>some (some (.int p.2 (LK K a p.1))),(SHX.filter fun q=>LIT.all fun p=>!(p.1==q.1)).map fun _=>some none)
section
variable {K:Frag} {mg:Str->Option Value} {h:Heap} {w:World}
theorem O6 (X:K.In h) (G:h.Ns mainGlobals mg) {aS aL:Addr} {l:List (Addr×Addr)} (hl:l.length=28) (mS:PySem.W.nsIn K mainGlobals "SHAPES"=some (some (.ref aS))) (mL:PySem.W.nsIn K mainGlobals "LISTED"=some (some (.ref aL))) (kS:KDv K w aS) (kL:KDv K w aL) (tS:TbE K aS (qSh l)) (tL:LiE K aL):GX K w mg:=by
 exists ⟨aS,mg_of X G mS,kS,fun q hq=>?_⟩,⟨aL,mg_of X G mL,kL,fun p hp=>?_,fun q hq hn=>?_⟩
 ·obtain ⟨y,hy⟩:=vZ (m:=l) (by rw [hl]; rfl) q hq;obtain ⟨e1,e2,e3⟩:=Lp tS _ (Xr.mpr ⟨_,hy,rfl⟩);exists _,_,e1,e2,e3
 ·exists _,Yr.mp (Prod.mk.inj tL).1 p hp
 ·refine Yr.mp (Prod.mk.inj tL).2 q (YE.mpr ⟨hq,X2.mpr fun p hp=>?_⟩);simp only [aaB,beq_eq_false_iff_ne];exact hn p hp
end
open PySem L2
theorem x1 (P:Params):DfE (HD.HK P) "is_sign_number" 55 eE:=by kernel_rfl
theorem x2 (P:Params):DfE (HD.HK P) "is_name" 67 jn:=by kernel_rfl
theorem x3 (P:Params):DfE (HD.HK P) "sign_of" 62 nh:=by kernel_rfl
theorem x4 (P:Params):DfE (HD.HK P) "inner_of" 145 im:=by kernel_rfl
theorem x5 (P:Params):DfE (HD.HK P) "sort_of" 133 mU:=by kernel_rfl
theorem x6 (P:Params):DfE (HD.HK P) "inner_count" 140 gH:=by kernel_rfl
theorem x7 (P:Params):DfE (HD.HK P) "own_words" 320 gy:=by kernel_rfl
theorem x8 (P:Params):DfE (HD.HK P) "row_of" 327 qc:=by kernel_rfl
theorem x9 (P:Params):DfE (HD.HK P) "behind_row" 334 ii:=by kernel_rfl
theorem x10 (P:Params):DfE (HD.HK P) "body_rows" 341 i7:=by kernel_rfl
theorem x11 (P:Params):DfE (HD.HK P) "row_with_pairs" 348 dq:=by kernel_rfl
theorem x12 (P:Params):DfE (HD.HK P) "shown" 353 kn:=by kernel_rfl
theorem x13 (P:Params):DfE (HD.HK P) "word_at" 170 mQ:=by kernel_rfl
theorem x14 (P:Params):DfE (HD.HK P) "number_of" 175 eU:=by kernel_rfl
theorem x15 (P:Params):DfE (HD.HK P) "signs_at" 182 jU:=by kernel_rfl
theorem x16 (P:Params):DfE (HD.HK P) "own_at" 189 qX:=by kernel_rfl
theorem x17 (P:Params):DfE (HD.HK P) "inner_sorts" 196 gN:=by kernel_rfl
theorem x18 (P:Params):DfE (HD.HK P) "head_at" 203 mx:=by kernel_rfl
theorem x19 (P:Params):DfE (HD.HK P) "joined" 210 rj:=by kernel_rfl
theorem x20 (P:Params):DfE (HD.HK P) "joined_heads" 217 gj:=by kernel_rfl
theorem x21 (P:Params):DfE (HD.HK P) "statement_of" 224 fX:=by kernel_rfl
theorem x22 (P:Params):DfE (HD.HK P) "pairs_of" 231 jI:=by kernel_rfl
theorem x23 (P:Params):DfE (HD.HK P) "read" 315 yK:=by kernel_rfl
theorem x24 (P:Params):DfE (HD.HK P) "_law_tape" 360 qK:=by kernel_rfl
theorem x25 (P:Params):DfE (HD.HK P) "_law_draw" 367 qh:=by kernel_rfl
theorem x26 (P:Params):DfE (HD.HK P) "_law_names" 372 jm:=by kernel_rfl
theorem x27 (P:Params):DfE (HD.HK P) "_law_records" 377 eZ:=by kernel_rfl
theorem x28 (P:Params):DfE (HD.HK P) "_law_kind" 382 j4:=by kernel_rfl
theorem x29 (P:Params):DfE (HD.HK P) "_law_heads" 387 jq:=by kernel_rfl
theorem x30 (P:Params):DfE (HD.HK P) "_law_count" 392 js:=by kernel_rfl
theorem x31 (P:Params):DfE (HD.HK P) "_law_leaf" 397 fV:=by kernel_rfl
theorem x32 (P:Params):DfE (HD.HK P) "_law_num" 404 oU:=by kernel_rfl
theorem x33 (P:Params):DfE (HD.HK P) "_law_row" 409 lj:=by kernel_rfl
theorem x34 (P:Params):DfE (HD.HK P) "_law_e" 414 kJ:=by kernel_rfl
theorem x35 (P:Params):DfE (HD.HK P) "_law_bounded" 421 iP:=by kernel_rfl
theorem x36 (P:Params):DfE (HD.HK P) "_law_condition" 428 eS:=by kernel_rfl
theorem x37 (P:Params):DfE (HD.HK P) "_law_body" 435 kW:=by kernel_rfl
theorem x38 (P:Params):DfE (HD.HK P) "_law_statement" 440 cT:=by kernel_rfl
theorem x39 (P:Params):DfE (HD.HK P) "_law_kit" 447 vz:=by kernel_rfl
theorem x40 (P:Params):DfE (HD.HK P) "_law_program" 454 jb:=by kernel_rfl
theorem x41 (P:Params):DfE (HD.HK P) "_law_words" 459 ee:=by kernel_rfl
theorem x42 (P:Params):DfE (HD.HK P) "_law_condition_words" 466 bD:=by kernel_rfl
theorem x43 (P:Params):DfE (HD.HK P) "_law_rows" 473 j9:=by kernel_rfl
theorem x44 (P:Params):DfE (HD.HK P) "_law_program_rows" 478 bM:=by kernel_rfl
theorem x45 (P:Params):DfE (HD.HK P) "law" 485 CO:=by kernel_rfl
theorem y1 (P:Params):DmE (HD.HK P) 304 "__init__" "Reading.__init__" 245 yx:=by kernel_rfl
theorem y2 (P:Params):DmE (HD.HK P) 304 "take" "Reading.take" 252 yI:=by kernel_rfl
theorem y3 (P:Params):DmE (HD.HK P) 304 "take_record" "Reading.take_record" 259 gK:=by kernel_rfl
theorem y4 (P:Params):DmE (HD.HK P) 304 "take_function" "Reading.take_function" 266 fh:=by kernel_rfl
theorem y5 (P:Params):DmE (HD.HK P) 304 "take_local" "Reading.take_local" 273 ik:=by kernel_rfl
theorem y6 (P:Params):DmE (HD.HK P) 304 "take_else" "Reading.take_else" 280 iR:=by kernel_rfl
theorem y7 (P:Params):DmE (HD.HK P) 304 "take_end" "Reading.take_end" 287 jM:=by kernel_rfl
theorem y8 (P:Params):DmE (HD.HK P) 304 "take_statement" "Reading.take_statement" 294 eg:=by kernel_rfl
theorem y9 (P:Params):DmE (HD.HK P) 304 "is_done" "Reading.is_done" 301 lN:=by kernel_rfl
theorem Mu {l:Zt} {w:World} {h:Heap} {mg:Str->Option Value} {fa:Addr} (X:(HD.HK w.params).In h) (G0:h.Ns mainGlobals mg) (hfa:mg "law"=some (.ref fa)) :
  ∃ fd:FuncData,(∀ (s:Shared) (v:Value),BindsTo s fd ⟨[v],[]⟩ [("_law_script",v)])/\∀ base:Heap,(HD.HK w.params).In base->base.Ns mainGlobals mg->eI l.prog w (HD.HK w.params) mg base CX0 27 fa fd ["_law_script"] (CV (HD.HK w.params)):=by
 have E1:=ZV ["number"] x1 (bl1 fun _=>rfl);have E2:=ZV ["thing"] x2 (bl1 fun _=>rfl);have E3:=ZV ["number"] x3 (bl1 fun _=>rfl);have E4:=ZV ["shaped"] x4 (bl1 fun _=>rfl);have E5:=ZV ["word"] x5 (bl1 fun _=>rfl);have E6:=ZV ["word"] x6 (bl1 fun _=>rfl);have E7:=ZV ["shaped"] x7 (bl1 fun _=>rfl);have E8:=ZV ["statement"] x8 (bl1 fun _=>rfl);have E9:=ZV ["statement"] x9 (bl1 fun _=>rfl);have Ta:=ZV ["body"] x10 (bl1 fun _=>rfl);have Se:=ZV ["words", "pairs"] x11 (bl2 fun _ _=>rfl);have SU:=ZV ["program"] x12 (bl1 fun _=>rfl);have Ts:=ZV ["words", "place"] x13 (bl2 fun _ _=>rfl);have Tg:=ZV ["word", "bounds"] x14 (bl2 fun _ _=>rfl);have S7:=ZV ["words", "place"] x15 (bl2 fun _ _=>rfl);have SV:=ZV ["words", "place", "sort"] x16 (bl3 fun _ _ _=>rfl);have Tm:=ZV ["word", "own"] x17 (bl2 fun _ _=>rfl);have TV:=ZV ["words", "place", "sort"] x18 (bl3 fun _ _ _=>rfl);have Tf:=ZV ["word", "own", "inner"] x19 (bl3 fun _ _ _=>rfl);have Ti:=ZV ["heads"] x20 (bl1 fun _=>rfl);have T0:=ZV ["words"] x21 (bl1 fun _=>rfl);have S9:=ZV ["words"] x22 (bl1 fun _=>rfl);have SA:=ZV ["rows"] x23 (bl1 fun _=>rfl);have Tr:=ZV ["_law_script"] x24 (bl1 fun _=>rfl);have Tb:=ZV ["_law_tape_here", "_law_many"] x25 (bl2 fun _ _=>rfl);have Te:=ZV ["_law_tape_here", "_law_many"] x26 (bl2 fun _ _=>rfl);have T4:=ZV ["_law_tape_here"] x27 (bl1 fun _=>rfl);have Ty:=ZV ["_law_tape_here", "_law_records_here"] x28 (bl2 fun _ _=>rfl);have S6:=ZV ["_law_tape_here", "_law_records_here"] x29 (bl2 fun _ _=>rfl);have SC:=ZV ["_law_e_here"] x30 (bl1 fun _=>rfl);have QJ:=ZV ["_law_tape_here", "_law_kit_here", "_law_kind_here"] x31 (bl3 fun _ _ _=>rfl);have Ro:=ZV ["_law_tape_here", "_law_kit_here", "_law_deep"] x32 (bl3 fun _ _ _=>rfl);have Sx:=ZV ["_law_tape_here", "_law_kit_here", "_law_deep"] x33 (bl3 fun _ _ _=>rfl);have Qw:=ZV ["_law_tape_here", "_law_kit_here", "_law_kind_here", "_law_deep"] x34 (bl4 fun _ _ _ _=>rfl);have SS:=ZV ["_law_tape_here", "_law_kit_here", "_law_kind_here", "_law_reach"] x35 (bl4 fun _ _ _ _=>rfl);have QB:=ZV ["_law_tape_here", "_law_kit_here", "_law_deep"] x36 (bl3 fun _ _ _=>rfl);have Qv:=ZV ["_law_tape_here", "_law_kit_here", "_law_deep"] x37 (bl3 fun _ _ _=>rfl);have Sc:=ZV ["_law_tape_here", "_law_kit_here", "_law_deep"] x38 (bl3 fun _ _ _=>rfl);have SF:=ZV ["_law_records_here", "_law_heads_here", "_law_f"] x39 (bl3 fun _ _ _=>rfl);have SJ:=ZV ["_law_tape_here"] x40 (bl1 fun _=>rfl);have RK:=ZV ["_law_e_here"] x41 (bl1 fun _=>rfl);have Rs:=ZV ["_law_c"] x42 (bl1 fun _=>rfl);have QL:=ZV ["_law_body_here"] x43 (bl1 fun _=>rfl);have TZ:=ZV ["_law_program_here"] x44 (bl1 fun _=>rfl);have SH:=ZV ["_law_script"] x45 (bl1 fun _=>rfl);have Y1:=kR (ps:=["self"]) (y1 w.params) fun _ _ _ _ _ _=>bl1 fun _=>rfl
 have Y2:=kR (ps:=["self", "words"]) (y2 w.params) fun _ _ _ _ _ _=>bl2 fun _ _=>rfl
 have Y3:=kR (ps:=["self", "words"]) (y3 w.params) fun _ _ _ _ _ _=>bl2 fun _ _=>rfl
 have Y4:=kR (ps:=["self", "words"]) (y4 w.params) fun _ _ _ _ _ _=>bl2 fun _ _=>rfl
 have Y5:=kR (ps:=["self", "words"]) (y5 w.params) fun _ _ _ _ _ _=>bl2 fun _ _=>rfl
 have Y6:=kR (ps:=["self", "words"]) (y6 w.params) fun _ _ _ _ _ _=>bl2 fun _ _=>rfl
 have Y7:=kR (ps:=["self", "words"]) (y7 w.params) fun _ _ _ _ _ _=>bl2 fun _ _=>rfl
 have Y8:=kR (ps:=["self", "words"]) (y8 w.params) fun _ _ _ _ _ _=>bl2 fun _ _=>rfl
 have Y9:=kR (ps:=["self"]) (y9 w.params) fun _ _ _ _ _ _=>bl1 fun _=>rfl
 have e:=hfa.symm.trans SH.m;cases e;have z:=fun x e=>mg_none_of (n:=x) X G0 e
 have T:K6.G0 mg:=⟨z _ (by kernel_rfl),z _ (by kernel_rfl),z _ (by kernel_rfl),z _ (by kernel_rfl),z _ (by kernel_rfl),z _ (by kernel_rfl),z _ (by kernel_rfl),z _ (by kernel_rfl),z _ (by kernel_rfl),z _ (by kernel_rfl),z _ (by kernel_rfl),z _ (by kernel_rfl)⟩;have TR:=z "reversed" (by kernel_rfl);have TE:=z "enumerate" (by kernel_rfl);have TX:GX (HD.HK w.params) w mg:=O6 X G0 (l:=[(70,69),(72,71),(74,73),(76,75),(78,77),(80,79),(82,81),(84,83),(86,85),(88,87),(90,89),(92,91),(94,93),(96,95),(98,97),(100,99),(102,101),(105,104),(107,106),(109,108),(111,110),(113,112),(115,114),(117,116),(119,118),(121,120),(123,122),(125,124)]) rfl (by kernel_rfl) (by kernel_rfl) (u5 (a:=68) (by kernel_rfl) rfl) (u5 (a:=126) (by kernel_rfl) rfl) (by kernel_rfl) (by kernel_rfl);have TP:=TX.gp;have TS:=TX.gs X G0 (l:=[147,148,149,150,151,152,153,154,155,156,157,158]) rfl (by kernel_rfl) (u5 (a:=146) (by kernel_rfl) rfl) (by kernel_rfl);have TB:GR (HD.HK w.params) w mg:=N0 X G0 (l:=[160,161,162,163]) rfl (by kernel_rfl) (u5 (a:=159) (by kernel_rfl) rfl) (by kernel_rfl) (mS' X G0 (by kernel_rfl)) (mI X G0 (by kernel_rfl));have TN:GN (HD.HK w.params) mg:=⟨mT X G0 (a:=47) (by kernel_rfl) (by decide),mT X G0 (a:=48) (by kernel_rfl) (by decide),mS' X G0 (by kernel_rfl)⟩;have TSx:∃ t,mg "SIGNS"=some (.str SGN t):=mS' X G0 (by kernel_rfl);obtain ⟨TC,TM⟩:=OY (K:=HD.HK w.params) (C:=304) (by kernel_rfl);exists fdO (HD.HK w.params) 485 "law" CO,fun s v=>.of_eq rfl,fun base _ _=>?_
 have D1:=ZW E1 (Jq E1.F);have D2:=ZW E2 (JM T TN E2.F);have D3:=ZW E3 (ON TSx E3.F);have D4:=ZW E4 (ME TP T E4.F);have D5:=ZW E5 (FR TS E5.F);have D6:=ZW E6 (Op T TS E6.F);have D7:=ZW E7 (N1 T E7.F);have D8:=ZW E8 (IZ T TR E8.F D7 D4);have D9:=ZW E9 (OA T E9.F);have V7:=ZW Ta (Ol T TR Ta.F D8 D9);have UH:=ZW Se ((NY T Se.F).or (MD T Se.F));have UO:=ZW SU (FB SU.F UH V7);have P8:=ZW Ts (OT T Ts.F);have Sd:=ZW Tg (Pe T TB Tg.F);have Ur:=ZW S7 (OZ T S7.F P8 Sd D1 D3);have Uy:=ZW SV (O3 TB SV.F P8 Sd D2 Ur);have Up:=ZW Tm (NR Tm.F D6);have Uw:=ZW TV (NF TS TV.F P8 Sd D5 Uy Up);have Vd:=ZW Tf (Om Tf.F);have VC:=ZW Ti (N3 T TR Ti.F Vd);have Vb:=ZW T0 (Mo T T0.F Uw VC);have Sw:=ZW S9 (O7 T TN S9.F P8 D2);have U8:=Y3.cal (mg:=mg) (base:=base) (P:=l.prog) (w:=w) (NW T TC Y3.F Sw P8 D2);have UE:=Y4.cal (mg:=mg) (base:=base) (P:=l.prog) (w:=w) (Ou T TC Y4.F Sw);have Vo:=Y5.cal (mg:=mg) (base:=base) (P:=l.prog) (w:=w) (OM T TC Y5.F Sw);have V1:=Y6.cal (mg:=mg) (base:=base) (P:=l.prog) (w:=w) (Pf T TC Y6.F);have Vl:=Y7.cal (mg:=mg) (base:=base) (P:=l.prog) (w:=w) (LV T TC Y7.F);have VE:=Y8.cal (mg:=mg) (base:=base) (P:=l.prog) (w:=w) (Oj TC Y8.F Vb);have UI:=Y2.cal (mg:=mg) (base:=base) (P:=l.prog) (w:=w) (Js TC Y2.F U8 UE Vo V1 Vl VE);have Uu:=Y9.cal (mg:=mg) (base:=base) (P:=l.prog) (w:=w) (NQ T TC Y9.F);have Vj:=ZW SA (JH T TE TC (mg_of X G0 (by kernel_rfl)) ⟨_,_,Jk TC Y1.F,Y1.b,TM Y1.m⟩ UI Uu SA.F);have UC:=ZW Tr (Jp T Tr.F);have Ld:=ZW Tb (EN T Tb.F);have Ss:=ZW Te (EE T Te.F Ld);have UN:=ZW T4 (Ja T T4.F Ld Ss);have VI:=ZW Ty (JI T Ty.F Ld);have Us:=ZW S6 (Hy T S6.F Ld Ss VI);have UB:=ZW SC (HW T SC.F);have Th:=ZW QJ (wV T QJ.F QJ.b QJ.m Ld 4);have Uo:=ZW Qw (Kl T Qw.F Qw.b Qw.m Ro.F Ro.b Ro.m Sx.F Sx.b Sx.m Ld Th 2);have Tv:=ZW SS (zL T SS.F UB Th Uo);have Uk:=ZW QB (wU T QB.F QB.b QB.m Ld Tv 2);have VG:=ZW Qv (xP T Qv.F Qv.b Qv.m Sc.F Sc.b Sc.m Ld Ss Tv Uk 3);have Vk:=ZW SF (MJ T SF.F);have Vr:=ZW SJ (Bi T SJ.F UN Us Vk VG);have Uf:=ZW QL (GP T QL.F QL.b QL.m Rs.F Rs.b Rs.m RK.F RK.b RK.m 24);have V2:=ZW TZ (Mf TZ.F Uf);exact LP T SH.F Vj UO V2 Vr UC
theorem walk {l:Zt} {q:Program} {loose:List Str} {XP:(Str->Option Value)->Heap->Prop} {YP:World->Heap->Prop} {d:DefRec} (hn:l.most=some 63) (hdf:d.params.defaults=[])
  (hY:∀ (w:World) (h:Heap),YP w h->(HD.HK w.params).In h) (hd:d.name = "law"):aaN q loose XP YP l.row.toRowW d [] (fun f vs=>PySem.call f vs) :=
 L2.walk_of (K:=HD.HK) (n:=63) (k:=27) (x := "_law_script") (CX:=fun _=>CX0) (sp:=fun w=>CV (HD.HK w.params)) hn (by decide) hdf ⟨rfl,by decide,by decide,rfl⟩ hY (fun w mg fa h KX G hmg=>Mu KX G (hd ▸ hmg)) (fun _ _ a ns hl _ hS=>⟨a,ns,rfl,hS,fun _=>rfl⟩) fun _ _ _ _ _ z=>z
end K6
open PySem PySem.W PyProof.Rows
set_option maxHeartbeats 0 in
theorem Jb:PySem.Challenge.rw_everyfork_k08_shown_and_read.wellSaid=true:=by
 unfold OpenLaw.wellSaid
 iterate 18 refine look_both ?_ ()
 unfold OpenRow.wellSaid
 iterate 2 refine look_both ?_ ()
 unfold OpenRow.partSaid
 iterate 13 refine look_both ?_ ()
 unfold looksOpen
 iterate 5 refine look_both ?_ ()
 decide +kernel
set_option maxRecDepth 100000 in
set_option maxHeartbeats 0 in
theorem PySem.Challenge.cw_everyfork_k08_shown_and_read_holds : PySem.Challenge.rw_everyfork_k08_shown_and_read.Holds := by
 refine holds_law Jb fun said=>?_
 refine holds_open (q:=HD.qV) (loose:=HD.lo) (Xt:=HD.Xt) (XP:=XL HD.qV []) (Yf:=Hook.obs HD.hk) (Ya:=Hook.val HD.hk) (YP:=Hook.says HD.hk) (N:=5000) HD.left (Hook.of HD.hk) (Hook.keeps HD.hk)
  (fun s e=>xl_of s (aal.mp e).1) XL.keeps (by rfl) (by rfl) (by rfl) (fun s e=>recFacts_of (aal.mp e).2) (by rfl) said () ⟨rfl,rfl,rfl,rfl,rfl,()⟩ ?hw
  (K6.walk (l:=PySem.Challenge.rw_everyfork_k08_shown_and_read) rfl rfl (fun w h Y=>kIn_of Y) rfl)
 case hw=>w_witness2