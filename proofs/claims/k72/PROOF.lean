import PyProof.Rows.All
import PyProof.ZipIter
import Wide.All
import OpenK.AllK
import Wide.FinOn
import Lean
import PyProof.EqAt
import PyProof.EqKinds
import PyProof.TupleCall
import PyProof.NeKinds
import PyProof.Conv_int_bool
import PyProof.DictRoadsH
import PyProof.EnumStmt
import PyProof.DictIter
import PyProof.DictWalks
import PyProof.ConsumeWalk
import PyProof.ListStr
import KE.KIntText
import KE.IntTextLaws
import PyProof.StrLawsTight
import PyProof.StrLawsOcc
import PyProof.Rows.SortStr
import PySem.Challenge.RW_mustrows_k72_rules_as_texts
set_option Elab.async false
set_option linter.all false
set_option genSizeOf false
set_option maxRecDepth 100000
set_option maxHeartbeats 4000000
open PySem.W (Frag)
namespace L2
open PySem PySem.Spec PyProof.Rows
noncomputable abbrev Key:=Sum Int Str
inductive D where
 |non|bl (b:Bool)|int (i:Int)|str (x:Str)|tup (ds:List D)|lst (ds:List D)|dT (ks:List (List Key)) (vs:List D)|dK (ks:List Key) (vs:List D)
 |dD (ks vs:List D)
 |sp (k:Bool) (x:Str)
noncomputable instance:DecidableEq D:=fun _ _=>Classical.propDecidable _
noncomputable def hasH:Nat→D→Bool
 |_,.int _=>true
 |_,.str _=>true
 |n+1,.tup ds=>ds.all (hasH n)
 |_,_=>false
mutual
noncomputable def hashD (w:World):D→Int
 |.int i=>hashInt i
 |.str x=>hashStr w x
 |.tup ds=>reduceHash (Builtin.Tuple.tupleHashOf (hashDs w ds))
 |_=>0
noncomputable def hashDs (w:World):List D→List Int
 |[]=>[]
 |d::ds=>hashD w d::hashDs w ds
end
theorem hashDs_map (w:World):∀ds:List D,hashDs w ds=ds.map (hashD w)
 |[]=>by simp[hashDs]
 |d::ds=>by simp[hashDs,hashDs_map w ds]
theorem hasH_tup {n:Nat}{ds:List D}(h:hasH n (.tup ds)=true):∃k,n=k+1∧ds.all (hasH k)=true:=by
 cases n with
 |zero=>simp[hasH]at h
 |succ n=>exact⟨n,rfl,by simpa[hasH]using h⟩
mutual
noncomputable def drawsD:D→Nat
 |.int _=>1
 |.str _=>1
 |.tup ds=>drawsDs ds+1
 |_=>0
noncomputable def drawsDs:List D→Nat
 |[]=>0
 |d::ds=>drawsD d+drawsDs ds
end
theorem drawsDs_app (d:D):∀ds:List D,drawsDs (ds++[d])=drawsDs ds+drawsD d
 |[]=>by simp[drawsDs]
 |x::ds=>by rw[List.cons_append];simp only[drawsDs];rw[drawsDs_app d ds];omega
mutual
noncomputable def RH (h:Heap):D→Value→Prop
 |.int i,v=>∃t,v=.int i t
 |.str x,v=>∃t,v=.str x t
 |.tup ds,v=>∃a its,v=.ref a∧IsTup h a its.toArray∧RHs h ds its
 |_,_=>False
noncomputable def RHs (h:Heap):List D→List Value→Prop
 |[],vs=>vs=[]
 |d::ds,vs=>∃v r,vs=v::r∧RH h d v∧RHs h ds r
end
theorem RHs.length {h:Heap}:∀{ds:List D}{vs:List Value},RHs h ds vs→ds.length=vs.length
 |[],vs,r=>by simp only[RHs]at r;subst r;rfl
 |d::ds,vs,r=>by
  simp only[RHs]at r
  obtain⟨v,q,rfl,_,r2⟩:=r
  simp[RHs.length r2]
theorem RHs.get {h:Heap}:∀{ds:List D}{vs:List Value}{i:Nat}{d:D},RHs h ds vs→ds[i]?=some d→∃v,vs[i]?=some v∧RH h d v
 |[],vs,i,d,_,e=>by simp at e
 |x::ds,vs,0,d,r,e=>by
  simp only[RHs]at r
  obtain⟨v,q,rfl,r1,_⟩:=r
  simp at e;subst e;exact⟨v,rfl,r1⟩
 |x::ds,vs,i+1,d,r,e=>by
  simp only[RHs]at r
  obtain⟨v,q,rfl,_,r2⟩:=r
  obtain⟨u,h1,h2⟩:=RHs.get (i:=i) (d:=d) r2 (by simpa using e)
  exact⟨u,by simpa using h1,h2⟩
mutual
theorem RH.inj {h:Heap}:∀{d e:D}{v:Value},RH h d v→RH h e v→d=e
 |.int i,e,v,r,q=>by
  simp only[RH]at r;obtain⟨t,rfl⟩:=r
  cases e<;>simp only[RH]at q<;>first
   |(obtain⟨t',z⟩:=q;cases z;rfl)
   |(obtain⟨t',z⟩:=q;cases z;done)
   |(obtain⟨a,its,z,_⟩:=q;cases z)
   |cases q
 |.str i,e,v,r,q=>by
  simp only[RH]at r;obtain⟨t,rfl⟩:=r
  cases e<;>simp only[RH]at q<;>first
   |(obtain⟨t',z⟩:=q;cases z;rfl)
   |(obtain⟨t',z⟩:=q;cases z;done)
   |(obtain⟨a,its,z,_⟩:=q;cases z)
   |cases q
 |.tup ds,e,v,r,q=>by
  simp only[RH]at r;obtain⟨a,its,rfl,⟨o,g,_,n,hd⟩,rs⟩:=r
  cases e with
  |tup es=>
   simp only[RH]at q;obtain⟨b,jts,z,⟨o',g',_,n',hd'⟩,qs⟩:=q
   cases z
   rw[g]at g';cases g'
   rw[hd]at hd'
   have:its.toArray=jts.toArray:=by injection hd'
   have e2:its=jts:=by simpa using this
   subst e2
   rw[RHs.inj rs qs]
  |int _=>simp only[RH]at q;obtain⟨t',z⟩:=q;cases z
  |str _=>simp only[RH]at q;obtain⟨t',z⟩:=q;cases z
  |_=>simp only[RH]at q
 |.non,e,v,r,q=>by simp only[RH]at r
 |.bl _,e,v,r,q=>by simp only[RH]at r
 |.lst _,e,v,r,q=>by simp only[RH]at r
 |.dT _ _,e,v,r,q=>by simp only[RH]at r
 |.dK _ _,e,v,r,q=>by simp only[RH]at r
 |.dD _ _,e,v,r,q=>by simp only[RH]at r
 |.sp _ _,e,v,r,q=>by simp only[RH]at r
theorem RHs.inj {h:Heap}:∀{ds es:List D}{vs:List Value},RHs h ds vs→RHs h es vs→ds=es
 |[],es,vs,r,q=>by
  simp only[RHs]at r;subst r
  cases es with
  |nil=>rfl
  |cons e es=>simp only[RHs]at q;obtain⟨v,z,e,_⟩:=q;cases e
 |d::ds,es,vs,r,q=>by
  simp only[RHs]at r;obtain⟨v,z,rfl,r1,r2⟩:=r
  cases es with
  |nil=>simp only[RHs]at q;cases q
  |cons e es=>
   simp only[RHs]at q;obtain⟨v',z',e',q1,q2⟩:=q
   cases e'
   rw[RH.inj r1 q1,RHs.inj r2 q2]
end
mutual
theorem RH.to {h h':Heap}(k:∀a o,h.get? a=some o→o.cls=.type "tuple"→(∃its n,o.data=.seq its n)→h'.get? a=some o):∀{d:D}{v:Value},RH h d v→RH h' d v
 |.int i,v,r=>by simp only[RH]at r⊢;exact r
 |.str i,v,r=>by simp only[RH]at r⊢;exact r
 |.tup ds,v,r=>by
  simp only[RH]at r⊢
  obtain⟨a,its,e,⟨o,g,hc,n,hd⟩,rs⟩:=r
  exact⟨a,its,e,⟨o,k a o g hc ⟨_,_,hd⟩,hc,n,hd⟩,RHs.to k rs⟩
 |.non,v,r=>by simp only[RH]at r
 |.bl _,v,r=>by simp only[RH]at r
 |.lst _,v,r=>by simp only[RH]at r
 |.dT _ _,v,r=>by simp only[RH]at r
 |.dK _ _,v,r=>by simp only[RH]at r
 |.dD _ _,v,r=>by simp only[RH]at r
 |.sp _ _,v,r=>by simp only[RH]at r
theorem RHs.to {h h':Heap}(k:∀a o,h.get? a=some o→o.cls=.type "tuple"→(∃its n,o.data=.seq its n)→h'.get? a=some o):∀{ds:List D}{vs:List Value},RHs h ds vs→RHs h' ds vs
 |[],vs,r=>by simp only[RHs]at r⊢;exact r
 |d::ds,vs,r=>by
  simp only[RHs]at r⊢
  obtain⟨v,z,e,r1,r2⟩:=r
  exact⟨v,z,e,RH.to k r1,RHs.to k r2⟩
end
theorem hash_R {P:Program}{w:World}:∀(n:Nat) (d:D) (u:Value) (A:Around) (s:Shared) (Q:Int→Shared→Prop) (E:Value→Shared→Prop),hasH n d=true→A.units+2*n+2<cLine→RH s.heap d u→
  Q (hashD w d) {s with toks:=s.toks+drawsD d}→wpAny (model P w) A (pyHash u) Q E s:=by
 intro n
 induction n using Nat.strongRecOn with
 |ind n ih=>
 intro d u A s Q E hd hA rd hQ
 cases d with
 |int i=>
  simp only[RH]at rd;obtain⟨t,rfl⟩:=rd
  simp only[hashD,drawsD]at hQ
  exact wpAny_pyHash_int hQ
 |str i=>
  simp only[RH]at rd;obtain⟨t,rfl⟩:=rd
  simp only[hashD,drawsD]at hQ
  exact wpAny_pyHash_str hQ
 |tup ds=>
  simp only[RH]at rd;obtain⟨a,its,rfl,⟨o,ho,hc,m,hdat⟩,hr⟩:=rd
  obtain⟨k,rfl,hd'⟩:=hasH_tup hd
  have hT:s.TypeIs (.ref a) "tuple":=⟨o,ho,hc⟩
  unfold pyHash
  unfold pyHashByItsType
  refine wpAny_bind (wpAny_cRoomFor_or (.inr (by omega)) (wpAny_bind (wpAny_specialOf hT F.slot_tuple_hash.lookup ?_)))
  show wpAny _ _ (if(some (Value.builtin "tuple.__hash__")==some Value.none)=true then _ else _) Q E _
  rw[if_neg (by rw[beq_builtin_none];exact Bool.false_ne_true)]
  refine wpAny_bind (wpAny_specialOf hT F.slot_tuple_hash.lookup ?_)
  show wpAny _ _ (callSpecialIfBoundUnlessNone? (.ref a) "__hash__" _ >>= _) Q E _
  refine wpAny_bind (wpAny_callSpecialIfBoundUnlessNone?_slot hT F.slot_tuple_hash (wpAny_call_entry F.slot_tuple_hash hT F.entry_tuple_hash ?_ (F.args_tuple_hash_1 _)))
  show wpAny _ _ (Builtin.Tuple.tupleItemsOf (.ref a) >>= _) _ _ _
  refine wpAny_bind (wpAny_tupleItemsOf ho hdat (wpAny_bind ?_))
  rw[←Array.forIn_toList]
  refine wpAny_forIn_list _
   (fun rest (b:Array Int) s'=>∃done left,ds=done++left∧RHs s.heap left rest∧b.toList=done.map (hashD w)∧s'={s with toks:=s.toks+drawsDs done})
   _ ?_ ?_ _ _ ⟨[],ds,rfl,by simpa using hr,rfl,rfl⟩
  ·rintro v rest b s' ⟨done,left,rfl,hl,hb,rfl⟩
   cases left with
   |nil=>simp only[RHs]at hl;cases hl
   |cons d' left'=>
    simp only[RHs]at hl
    obtain⟨v',r',e',r1,r2⟩:=hl
    cases e'
    have hd1:hasH k d'=true:=by
     rw[List.all_append,Bool.and_eq_true,List.all_cons,Bool.and_eq_true]at hd';exact hd'.2.1
    refine wpAny_bind (ih k (by omega) d' v _ _ _ _ hd1 ?_ r1 ?_)
    ·show A.units+1+2*k+2<cLine;omega
    ·have et:({s with toks:=s.toks+drawsDs done+drawsD d'}:Shared)={s with toks:=s.toks+drawsDs (done++[d'])}:=by rw[drawsDs_app,Nat.add_assoc]
     first
      |exact wpAny_pure ⟨done++[d'],left',by simp,r2,by simp[hb],et⟩
      |exact wpAny_bind (wpAny_pure (wpAny_pure ⟨done++[d'],left',by simp,r2,by simp[hb],et⟩))
  ·rintro b s' ⟨done,left,rfl,hl,hb,rfl⟩
   have hleft:left=[]:=by
    have:=hl.length
    cases left with
    |nil=>rfl
    |cons _ _=>simp at this
   subst hleft
   rw[List.append_nil]at hQ
   simp only[hashD,hashDs_map,drawsD]at hQ
   show wpAny _ _ (retInt (Builtin.Tuple.tupleHashOf b.toList)) _ _ _
   rw[hb]
   refine wpAny_ret_mkInt ?_
   show wpAny _ _ (if(decide (-(2:Int) ^ 63≤Builtin.Tuple.tupleHashOf (done.map (hashD w)))&&decide (Builtin.Tuple.tupleHashOf (done.map (hashD w))<2 ^ 63))=true then _ else _) Q E _
   unfold reduceHash at hQ
   by_cases hr:(decide (-(2:Int) ^ 63≤Builtin.Tuple.tupleHashOf (done.map (hashD w)))&&decide (Builtin.Tuple.tupleHashOf (done.map (hashD w))<2 ^ 63))=true
   ·rw[if_pos hr]
    rw[if_pos hr]at hQ
    exact wpAny_pure hQ
   ·rw[if_neg hr]
    rw[if_neg hr]at hQ
    exact wpAny_bind (wpAny_rule (wpAny_pure hQ))
 |_=>simp[hasH]at hd
theorem quiet_R {P:Program}{w:World}:∀(n:Nat) (d:D) (u:Value) (A:Around) (s:Shared) (Q:Bool→Shared→Prop) (E:Value→Shared→Prop),hasH n d=true→RH s.heap d u→Q true s→wpAny (model P w) A (eqIsQuiet n u) Q E s:=by
 intro n
 induction n using Nat.strongRecOn with
 |ind n ih=>
 intro d u A s Q E hd rd hQ
 cases d with
 |int i=>simp only[RH]at rd;obtain⟨t,rfl⟩:=rd;unfold eqIsQuiet;exact wpAny_pure hQ
 |str i=>simp only[RH]at rd;obtain⟨t,rfl⟩:=rd;unfold eqIsQuiet;exact wpAny_pure hQ
 |tup ds=>
  simp only[RH]at rd;obtain⟨a,its,rfl,⟨o,ho,hc,m,hdat⟩,hr⟩:=rd
  obtain⟨k,rfl,hd'⟩:=hasH_tup hd
  have hT:s.TypeIs (.ref a) "tuple":=⟨o,ho,hc⟩
  unfold eqIsQuiet
  refine wpAny_bind (wpAny_specialOf hT F.slot_tuple_eq.lookup ?_)
  dsimp only
  refine wpAny_bind (wpAny_isInstance hT isSubtype_tuple_tuple ?_)
  simp only[Bool.not_true,Bool.false_eq_true,if_false]
  refine wpAny_bind (wpAny_seqItems ho hdat (wpAny_bind ?_))
  simp only[Option.getD_some]
  rw[←Array.forIn_toList]
  refine wpAny_forIn_list _ (fun rest b s'=>b.1=none∧s'=s∧∃left,left.all (hasH k)=true∧RHs s.heap left rest) _ ?_ ?_ _ _ ⟨rfl,rfl,ds,hd',by simpa using hr⟩
  ·rintro v rest b s' ⟨hb,rfl,left,hall,hl⟩
   cases left with
   |nil=>simp only[RHs]at hl;cases hl
   |cons d' left'=>
    simp only[RHs]at hl
    obtain⟨v',r',e',r1,r2⟩:=hl
    cases e'
    rw[List.all_cons,Bool.and_eq_true]at hall
    refine wpAny_bind (ih k (by omega) d' v _ _ _ _ hall.1 r1 ?_)
    simp only[Bool.not_true,Bool.false_eq_true,if_false]
    exact wpAny_pure ⟨rfl,rfl,left',hall.2,r2⟩
  ·rintro⟨b1,b2⟩ s' ⟨hb,rfl,_⟩
   simp only at hb;subst hb
   exact wpAny_pure hQ
 |_=>simp[hasH]at hd
theorem rng_eq:∀(ds es:List D),ds.length=es.length→((List.range ds.length).all fun j=>decide (ds[j]?=es[j]?))=decide (ds=es):=by
 intro ds es hl
 rw[Bool.eq_iff_iff,List.all_eq_true,decide_eq_true_iff]
 constructor
 ·intro h
  refine List.ext_getElem? fun j=>?_
  by_cases hj:j<ds.length
  ·exact of_decide_eq_true (h j (List.mem_range.mpr hj))
  ·rw[List.getElem?_eq_none (by omega),List.getElem?_eq_none (by omega)]
 ·rintro rfl j _
  exact decide_eq_true rfl
theorem rng_tup (ds es:List D):(((List.range (min ds.length es.length)).all fun j=>decide (ds[j]?=es[j]?))&&ds.length==es.length)=decide (ds=es):=by
 by_cases hl:ds.length=es.length
 ·rw[hl,Nat.min_self,beq_self_eq_true,Bool.and_true,←hl,rng_eq ds es hl]
 ·rw[show(ds.length==es.length)=false by simpa using hl,Bool.and_false,decide_eq_false fun z=>hl (by rw[z])]
open SeqAt in
theorem eq_R {s:Shared}:∀(n:Nat) (d e:D) (u w:Value) (A:Around),hasH n d=true→hasH n e=true→A.units+n+1<cLine→RH s.heap d u→RH s.heap e w→EqAt A s u w (decide (d=e)):=by
 intro n
 induction n using Nat.strongRecOn with
 |ind n ih=>
 intro d e u w A hd he hA rd re
 have hu:A.units<cLine:=by omega
 cases d with
 |int i=>
  simp only[RH]at rd;obtain⟨t',rfl⟩:=rd
  cases e with
  |int j=>
   simp only[RH]at re;obtain⟨t,rfl⟩:=re
   rw[show decide (D.int i=D.int j)=(i==j) by rw[Bool.eq_iff_iff,decide_eq_true_iff,beq_iff_eq,D.int.injEq]]
   exact EqAt.int_int i t' j t
  |str j=>simp only[RH]at re;obtain⟨t,rfl⟩:=re;rw[decide_eq_false (by intro z;cases z)];exact EqAt.int_str i t' j t
  |tup es=>simp only[RH]at re;obtain⟨b,its,rfl,ht,_⟩:=re;rw[decide_eq_false (by intro z;cases z)];exact EqAt.int_tuple i t' ht hu
  |_=>simp[hasH]at he
 |str i=>
  simp only[RH]at rd;obtain⟨t',rfl⟩:=rd
  cases e with
  |int j=>simp only[RH]at re;obtain⟨t,rfl⟩:=re;rw[decide_eq_false (by intro z;cases z)];exact EqAt.str_int i t' j t
  |str j=>
   simp only[RH]at re;obtain⟨t,rfl⟩:=re
   rw[show decide (D.str i=D.str j)=(i==j) by rw[Bool.eq_iff_iff,decide_eq_true_iff,beq_iff_eq,D.str.injEq]]
   exact EqAt.str_str i t' j t
  |tup es=>simp only[RH]at re;obtain⟨b,its,rfl,ht,_⟩:=re;rw[decide_eq_false (by intro z;cases z)];exact EqAt.str_tuple i t' ht hu
  |_=>simp[hasH]at he
 |tup ds=>
  have rd0:=rd
  simp only[RH]at rd;obtain⟨a,its,rfl,hta,hr⟩:=rd
  obtain⟨k,rfl,hd'⟩:=hasH_tup hd
  cases e with
  |int j=>simp only[RH]at re;obtain⟨t,rfl⟩:=re;rw[decide_eq_false (by intro z;cases z)];exact EqAt.tuple_int j t hta hu
  |str j=>simp only[RH]at re;obtain⟨t,rfl⟩:=re;rw[decide_eq_false (by intro z;cases z)];exact EqAt.tuple_str j t hta hu
  |tup es=>
   have re0:=re
   simp only[RH]at re;obtain⟨b,its2,rfl,htb,hr2⟩:=re
   obtain⟨k',e',he'⟩:=hasH_tup he
   cases e'
   have l1:=hr.length
   have l2:=hr2.length
   by_cases hab:a=b
   ·subst hab
    rw[decide_eq_true (RH.inj rd0 re0)]
    exact EqAt.same _
   ·have el:∀j (h1:j<its.toArray.size) (h2:j<its2.toArray.size),EqAt A.in1 s its.toArray[j] its2.toArray[j] (decide (ds[j]?=es[j]?)):=fun j h1 h2=>by
     simp only[List.size_toArray]at h1 h2
     obtain⟨d',hd1⟩:∃d',ds[j]?=some d':=⟨ds[j]'(by omega),by simp⟩
     obtain⟨e',he1⟩:∃e',es[j]?=some e':=⟨es[j]'(by omega),by simp⟩
     obtain⟨u',hu1,ru'⟩:=hr.get hd1
     obtain⟨w',hw1,rw'⟩:=hr2.get he1
     have q:=ih k (Nat.lt_succ_self k) d' e' u' w' A.in1 ((List.all_eq_true.mp hd') d' (List.mem_of_getElem? hd1)) ((List.all_eq_true.mp he') e' (List.mem_of_getElem? he1)) (by show A.units+1+k+1<cLine;omega) ru' rw'
     have g1:its.toArray[j]=u':=by simpa using(List.getElem?_eq_some_iff.mp hu1).2
     have g2:its2.toArray[j]=w':=by simpa using(List.getElem?_eq_some_iff.mp hw1).2
     rw[g1,g2,hd1,he1,show decide (some d'=some e')=decide (d'=e') by simp]
     exact q
    have key:((List.range (min its.toArray.size its2.toArray.size)).all (fun j=>decide (ds[j]?=es[j]?))&&its.toArray.size==its2.toArray.size)=decide (D.tup ds=D.tup es):=by
     rw[List.size_toArray,List.size_toArray,←l1,←l2,rng_tup]
     simp only[D.tup.injEq]
    have rc:=RcAt.tuples hta htb hu el
    rw[key]at rc
    exact EqAt.of_refs hab rc
  |_=>simp[hasH]at he
 |_=>simp[hasH]at hd
noncomputable def deepKind (P:Program) (w:World):HeapKind P w D where
 is h d a:=hasH 8 d=true∧RH h d (.ref a)
 hash:=hashD w
 draws:=drawsD
 room A:=A.units+30<cLine
 inj hx hy:=RH.inj hx.2 hy.2
 keeps:=fun{h h' k a d o es ep} hk ho hd hs=>⟨hk.1,hk.2.to fun b u g _ ⟨its,n,q⟩=>((hs.2 b (fun e=>by subst e;rw[ho]at g;cases g;rw[hd]at q;cases q)).trans g)⟩
 pyHash:=fun{A E s k a Q} hr hk h=>hash_R 8 k _ A s Q E hk.1 (by omega) hk.2 h
 eqBool:=fun{A E s x y a b Q} hr hx hy h=>eq_R 8 x y _ _ A hx.1 hy.1 (by omega) hx.2 hy.2 P w E Q h
 quiet:=fun{A E s k a Q} hk h=>quiet_R 8 k _ A s Q E hk.1 hk.2 h
noncomputable def keyIs:Key→Value→Bool
 |.inl k,v=>Value.isInt k v
 |.inr x,v=>Value.isStrOf x v
noncomputable def keyH (w:World):Key→Int
 |.inl k=>hashInt k
 |.inr x=>hashStr w x
theorem keyIs_shape:∀{k:Key}{v:Value},keyIs k v=true→(∃i t,k=Sum.inl i∧v=Value.int i t)∨(∃x t,k=Sum.inr x∧v=Value.str x t)
 |.inl i,v,h=>by
  obtain⟨t,e⟩:=Value.isInt_shape (k:=i) (v:=v) h
  exact .inl ⟨i,t,rfl,e⟩
 |.inr x,v,h=>by
  obtain⟨t,e⟩:=Value.isStrOf_shape (x:=x) (v:=v) h
  exact .inr ⟨x,t,rfl,e⟩
theorem keyIs_int (i:Int) (t:Tok):keyIs (.inl i) (.int i t)=true:=by simp[keyIs,Value.isInt]
theorem keyIs_str (x:Str) (t:Tok):keyIs (.inr x) (.str x t)=true:=by simp[keyIs,Value.isStrOf]
theorem key_ll (a b:Int):decide ((Sum.inl a:Key)=Sum.inl b)=(a==b):=by
 by_cases e:a=b
 ·subst e;simp
 ·have h:¬(Sum.inl a:Key)=Sum.inl b:=fun q=>e (Sum.inl.inj q)
  rw[decide_eq_false h]
  exact(beq_eq_false_iff_ne.mpr e).symm
theorem key_rr (a b:Str):decide ((Sum.inr a:Key)=Sum.inr b)=decide (a=b):=by
 by_cases e:a=b
 ·subst e;simp
 ·have h:¬(Sum.inr a:Key)=Sum.inr b:=fun q=>e (Sum.inr.inj q)
  rw[decide_eq_false h,decide_eq_false e]
theorem key_lr (a:Int) (b:Str):decide ((Sum.inl a:Key)=Sum.inr b)=false:=decide_eq_false (fun q=>nomatch q)
theorem key_rl (a:Str) (b:Int):decide ((Sum.inr a:Key)=Sum.inl b)=false:=decide_eq_false (fun q=>nomatch q)
noncomputable def mixKind (prog:Program) (w:World):PySem.KeyKind prog w Key where
 is:=keyIs
 hash:=keyH w
 inj:=fun v a b ha hb=>by
  rcases keyIs_shape ha with⟨i,t,rfl,rfl⟩|⟨x,t,rfl,rfl⟩
  ·rcases keyIs_shape hb with⟨j,u,rfl,e⟩|⟨y,u,rfl,e⟩
   ·injection e with e1 _;rw[e1]
   ·exact nomatch e
  ·rcases keyIs_shape hb with⟨j,u,rfl,e⟩|⟨y,u,rfl,e⟩
   ·exact nomatch e
   ·injection e with e1 _;rw[e1]
 byValue:=fun k v h=>by
  rcases keyIs_shape h with⟨i,t,rfl,rfl⟩|⟨x,t,rfl,rfl⟩<;>rfl
 pyHash:=fun hv h=>by
  rcases keyIs_shape hv with⟨i,t,rfl,rfl⟩|⟨x,t,rfl,rfl⟩
  ·exact wpAny_pyHash_int h
  ·exact wpAny_pyHash_str h
 eqBool:=fun hu hv h=>by
  rcases keyIs_shape hu with⟨i,t,rfl,rfl⟩|⟨x,t,rfl,rfl⟩
  ·rcases keyIs_shape hv with⟨j,u,rfl,rfl⟩|⟨y,u,rfl,rfl⟩
   ·rw[key_ll]at h;exact wpAny_eqBool_int h
   ·rw[key_lr]at h;exact SeqAt.EqAt.int_str i t y u _ _ _ _ h
  ·rcases keyIs_shape hv with⟨j,u,rfl,rfl⟩|⟨y,u,rfl,rfl⟩
   ·rw[key_rl]at h;exact SeqAt.EqAt.str_int x t j u _ _ _ _ h
   ·rw[key_rr]at h;exact wpAny_eqBool_str h
 «strs»:=fun k x t v h=>by
  rcases keyIs_shape h with⟨i,u,rfl,e⟩|⟨y,u,rfl,e⟩
  ·exact nomatch e
  ·injection e with e1 _
   subst e1
   cases v<;>rfl
theorem mixKind_int (prog:Program) (w:World) (i:Int) (t:Tok):(mixKind prog w).is (.inl i) (.int i t)=true:=keyIs_int i t
theorem mixKind_str (prog:Program) (w:World) (x:Str) (t:Tok):(mixKind prog w).is (.inr x) (.str x t)=true:=keyIs_str x t
end L2
namespace L2
open PySem PySem.Spec PyProof.Rows
inductive V where
 |non|bl (b:Bool)|int (i:Int)|str (x:Str)|byt (b:Array UInt8)|flt (b:UInt64)|ref (a:Addr)|ty (n:String)
 deriving DecidableEq
noncomputable def RelV:V→Value→Prop
 |.non,u=>u=Value.none
 |.bl b,u=>u=Value.bool b
 |.int i,u=>∃t,u=Value.int i t
 |.str x,u=>∃t,u=Value.str x t
 |.byt b,u=>∃t,u=Value.bytes b t
 |.flt b,u=>∃t,u=Value.float b t
 |.ref a,u=>u=Value.ref a
 |.ty n,u=>u=Value.type n
noncomputable abbrev Vals:List V→List Value→Prop:=Paired RelV
theorem Vals.length {xs:List V}{us:List Value}(r:Vals xs us):xs.length=us.length:=Paired.length r
theorem Vals.get:∀{xs:List V}{us:List Value}{i:Nat}{x:V},Vals xs us→xs[i]?=some x→∃u,us[i]?=some u∧RelV x u
 |_,_,_,_,.nil,e=>by simp at e
 |_,_,0,_,.cons r _,e=>by simp at e;subst e;exact⟨_,rfl,r⟩
 |_,_,i+1,x,.cons _ t,e=>by
  obtain⟨u,h1,h2⟩:=Vals.get (i:=i) (x:=x) t (by simpa using e)
  exact⟨u,by simpa using h1,h2⟩
theorem Vals.append:∀{xs ys:List V}{us ws:List Value},Vals xs us→Vals ys ws→Vals (xs++ys) (us++ws)
 |_,_,_,_,.nil,s=>s
 |_,_,_,_,.cons r t,s=>.cons r (Vals.append t s)
theorem Vals.take:∀{xs:List V}{us:List Value}(n:Nat),Vals xs us→Vals (xs.take n) (us.take n)
 |_,_,0,_=>.nil
 |_,_,_+1,.nil=>.nil
 |_,_,n+1,.cons r t=>.cons r (Vals.take n t)
theorem Vals.drop:∀{xs:List V}{us:List Value}(n:Nat),Vals xs us→Vals (xs.drop n) (us.drop n)
 |_,_,0,r=>r
 |_,_,_+1,.nil=>.nil
 |_,_,n+1,.cons _ t=>Vals.drop n t
noncomputable def RelO:Option V→Option Value→Prop
 |some v,some u=>RelV v u
 |none,none=>True
 |_,_=>False
noncomputable def KV {κ:Type}:List (κ×V)→List (κ×Value)→Prop:=Paired fun(p:κ×V) (q:κ×Value)=>p.1=q.1∧RelV p.2 q.2
noncomputable def kV:Key→V
 |.inl i=>.int i
 |.inr x=>.str x
inductive HO where
 |lst (xs:List V)
 |tup (xs:List V)
 |dK (kvs:List (Key×V))|dT (kvs:List (List Key×V))|dD (kvs:List (D×V)) (ep:Nat)
 |set (S:Int→Bool) (n:Nat)
 |ins (C dx:Addr) (fs:List (Str×V))
 |own (x:Addr)
 |xd (fs:List (Str×V))
 |met (f x:Addr)
 |rng (lo hi:Int)
 |frz (o:Obj) (u:HO)
 |tbl (ps:Array Value)
 |ext (φ:Heap→Prop)
noncomputable abbrev Hp:=Addr→Option HO
noncomputable def upd (H:Hp) (a:Addr) (o:HO):Hp:=fun b=>if b=a then some o else H b
theorem upd_same {H:Hp}{a:Addr}{o:HO}:upd H a o a=some o:=by unfold upd;rw[if_pos rfl]
theorem upd_ne {H:Hp}{a b:Addr}{o:HO}(h:b≠a):upd H a o b=H b:=by unfold upd;rw[if_neg h]
theorem ne_of_none {H:Hp}{a b:Addr}{o:HO}(h:H a=some o) (h':H b=none):a≠b:=by
 intro e;subst e;rw[h]at h';cases h'
mutual
noncomputable def KR (H:Hp):D→V→Prop
 |.int i,v=>v=.int i
 |.str x,v=>v=.str x
 |.tup ds,v=>∃a xs,v=.ref a∧H a=some (.tup xs)∧KRs H ds xs
 |_,_=>False
noncomputable def KRs (H:Hp):List D→List V→Prop
 |[],xs=>xs=[]
 |d::ds,xs=>∃x r,xs=x::r∧KR H d x∧KRs H ds r
end
mutual
theorem KR.to {H H':Hp}(t:∀a xs,H a=some (.tup xs)→H' a=some (.tup xs)):∀{d:D}{v:V},KR H d v→KR H' d v
 |.int i,v,r=>by simp only[KR]at r⊢;exact r
 |.str i,v,r=>by simp only[KR]at r⊢;exact r
 |.tup ds,v,r=>by
  simp only[KR]at r⊢
  obtain⟨a,xs,e,g,rs⟩:=r
  exact⟨a,xs,e,t a xs g,KRs.to t rs⟩
 |.non,v,r=>by simp only[KR]at r
 |.bl _,v,r=>by simp only[KR]at r
 |.lst _,v,r=>by simp only[KR]at r
 |.dT _ _,v,r=>by simp only[KR]at r
 |.dK _ _,v,r=>by simp only[KR]at r
 |.dD _ _,v,r=>by simp only[KR]at r
 |.sp _ _,v,r=>by simp only[KR]at r
theorem KRs.to {H H':Hp}(t:∀a xs,H a=some (.tup xs)→H' a=some (.tup xs)):∀{ds:List D}{xs:List V},KRs H ds xs→KRs H' ds xs
 |[],xs,r=>by simp only[KRs]at r⊢;exact r
 |d::ds,xs,r=>by
  simp only[KRs]at r⊢
  obtain⟨x,q,e,r1,r2⟩:=r
  exact⟨x,q,e,KR.to t r1,KRs.to t r2⟩
end
noncomputable def DPairs (H:Hp):List (D×V)→List (D×Addr×Value)→Prop:=Paired fun p q=>p.1=q.1∧hasH 8 p.1=true∧KR H p.1 (.ref q.2.1)∧RelV p.2 q.2.2
section
variable(P:Program) (w:World)
noncomputable def ObjOk (H:Hp) (h:Heap) (a:Addr):HO→Prop
 |.lst xs=>xs.length≤sizeLine∧∃(its:List Value) (n:Nat),Vals xs its∧h.get? a=some {cls:=.type "list",data:=.seq its.toArray n}
 |.tup xs=>xs.length≤sizeLine∧∃its:List Value,Vals xs its∧IsTup h a its.toArray
 |.dK kvs=>kvs.length≤sizeLine∧(a==sysModules)=false∧∃vs,KV kvs vs∧h.DictOf (mixKind P w) a vs
 |.dT kvs=>kvs.length≤sizeLine∧(a==sysModules)=false∧∃xs:List (List Key×Addr×Value),
   Paired (fun(p:List Key×V) (q:List Key×Addr×Value)=>p.1=q.1∧H q.2.1=some (.tup (p.1.map kV))∧RelV p.2 q.2.2) kvs xs∧
   ∃o es ep,h.get? a=some o∧o.ExactDict∧o.data=.dict es ep∧es.toList=xs.map (entryOfKey (tupleKind (mixKind P w)))∧(xs.map (·.1)).Nodup
 |.dD kvs ep=>kvs.length≤sizeLine∧(a==sysModules)=false∧∃xs,DPairs H kvs xs∧
   ∃o es,h.get? a=some o∧o.ExactDict∧o.data=.dict es ep∧es.toList=xs.map (entryOfKey (deepKind P w))∧(xs.map (·.1)).Nodup
 |.set S n=>h.SetOf (intKind P w) a S n
 |.ins C dx fs=>H dx=some (.own a)∧fs.length≤1000∧dx≠a∧h.get? a=some (PySem.W.instObj C dx)∧
   ∃mA,h.Ns1 dx mA∧(∀f,RelO (fs.lookup f) (mA f))∧PySem.Within mA (fs.map (·.1))
 |.own _=>∃o,h.get? a=some o
 |.xd fs=>∃mA,h.Ns1 a mA∧∀f,RelO (fs.lookup f) (mA f)
 |.rng lo hi=>∃t u v,h.get? a=some {cls:=.type "range",data:=.fields #[.int lo t,.int hi u,.int 1 v]}
 |.frz o u=>h.get? a=some o∧ObjOk H h a u
 |.tbl ps=>h.get? a=some {cls:=.none,data:=.fields ps}
 |.met f x=>h.get? a=some (PySem.W.methodObj (.ref f) (.ref x))
 |.ext φ=>φ h∧(∃o,h.get? a=some o)∧∀h1 h2:Heap,φ h1→(∀o,h1.get? a=some o→h2.get? a=some o)→φ h2
noncomputable def HOk (H:Hp) (h:Heap):Prop:=∀a o,H a=some o→ObjOk P w H h a o
end
section
variable{P:Program}{w:World}{H H':Hp}{h h':Heap}{a:Addr}{o:HO}
theorem ObjOk.lt (x:ObjOk P w H h a o):a<h.objs.size:=by
 cases o with
 |lst xs=>obtain⟨_,_,_,_,e⟩:=x;exact Heap.lt_size e
 |tup xs=>obtain⟨_,_,_,p⟩:=x;exact p.lt
 |dK kvs=>obtain⟨_,_,_,_,o,_,_,e,_⟩:=x;exact Heap.lt_size e
 |dT kvs=>obtain⟨_,_,_,_,o,_,_,e,_⟩:=x;exact Heap.lt_size e
 |dD kvs ep=>obtain⟨_,_,_,_,o,_,e,_⟩:=x;exact Heap.lt_size e
 |set S n=>obtain⟨o,_,_,_,e,_⟩:=x;exact Heap.lt_size e
 |ins C dx fs=>obtain⟨_,_,_,e,_⟩:=x;exact Heap.lt_size e
 |own y=>obtain⟨_,e⟩:=x;exact Heap.lt_size e
 |xd fs=>obtain⟨_,⟨_,_,_,e,_⟩,_⟩:=x;exact Heap.lt_size e
 |rng lo hi=>obtain⟨_,_,_,e⟩:=x;exact Heap.lt_size e
 |frz ob u=>obtain⟨e,_⟩:=x;exact Heap.lt_size e
 |tbl ps=>exact Heap.lt_size (show h.get? a=some _ from x)
 |met f y=>exact Heap.lt_size (show h.get? a=some _ from x)
 |ext φ=>obtain⟨_,⟨_,e⟩,_⟩:=x;exact Heap.lt_size e
theorem Paired.mapP {α β:Type}{F G:α→β→Prop}:∀{l₁:List α}{l₂:List β},Paired F l₁ l₂→(∀a b,F a b→G a b)→Paired G l₁ l₂
 |_,_,.nil,_=>.nil
 |_,_,.cons r t,f=>.cons (f _ _ r) (Paired.mapP t f)
theorem ObjOk.stay (x:ObjOk P w H h a o) (k:∀b u,(b=a∨H b=some (.own a))→h.get? b=some u→h'.get? b=some u)
  (ho:∀b,H b=some (.own a)→H' b=some (.own a)) (ht:∀b xs,H b=some (.tup xs)→H' b=some (.tup xs)):ObjOk P w H' h' a o:=by
 induction o with
 |lst xs=>obtain⟨z,its,n,r,e⟩:=x;exact⟨z,its,n,r,k _ _ (.inl rfl) e⟩
 |tup xs=>obtain⟨z,its,r,ob,e,c⟩:=x;exact⟨z,its,r,ob,k _ _ (.inl rfl) e,c⟩
 |dK kvs=>obtain⟨z,y,vs,r,ob,es,ep,e,c⟩:=x;exact⟨z,y,vs,r,ob,es,ep,k _ _ (.inl rfl) e,c⟩
 |dT kvs=>
  obtain⟨z,y,xs,r,ob,es,ep,e,c⟩:=x
  exact⟨z,y,xs,Paired.mapP r fun p q z=>⟨z.1,ht _ _ z.2.1,z.2.2⟩,ob,es,ep,k _ _ (.inl rfl) e,c⟩
 |dD kvs ep=>
  obtain⟨z,y,xs,r,ob,es,e,c⟩:=x
  exact⟨z,y,xs,Paired.mapP r fun p q z=>⟨z.1,z.2.1,KR.to ht z.2.2.1,z.2.2.2⟩,ob,es,k _ _ (.inl rfl) e,c⟩
 |set S n=>obtain⟨ob,es,ep,t,e,c⟩:=x;exact⟨ob,es,ep,t,k _ _ (.inl rfl) e,c⟩
 |ins C dx fs=>
  obtain⟨d,z,ne,e,mA,⟨od,es,ep,e2,c⟩,r⟩:=x
  exact⟨ho _ d,z,ne,k _ _ (.inl rfl) e,mA,⟨od,es,ep,k _ _ (.inr d) e2,c⟩,r⟩
 |own y=>obtain⟨ob,e⟩:=x;exact⟨ob,k _ _ (.inl rfl) e⟩
 |xd fs=>obtain⟨mA,⟨od,es,ep,e,c⟩,r⟩:=x;exact⟨mA,⟨od,es,ep,k _ _ (.inl rfl) e,c⟩,r⟩
 |rng lo hi=>obtain⟨t,u,v,e⟩:=x;exact⟨t,u,v,k _ _ (.inl rfl) e⟩
 |frz ob u ih=>obtain⟨e,q⟩:=x;exact⟨k _ _ (.inl rfl) e,ih q⟩
 |tbl ps=>
  have e:h.get? a=some {cls:=.none,data:=.fields ps}:=x
  show h'.get? a=some {cls:=.none,data:=.fields ps}
  exact k a _ (.inl rfl) e
 |met f y=>
  have e:h.get? a=some (PySem.W.methodObj (.ref f) (.ref y)):=x
  show h'.get? a=some (PySem.W.methodObj (.ref f) (.ref y))
  exact k a _ (.inl rfl) e
 |ext φ=>obtain⟨p,⟨o,e⟩,st⟩:=x;exact⟨st _ _ p fun o q=>k _ _ (.inl rfl) q,⟨o,k _ _ (.inl rfl) e⟩,st⟩
theorem HOk.lt (x:HOk P w H h) (e:H a=some o):a<h.objs.size:=(x a o e).lt
theorem HOk.fresh (x:HOk P w H h) (e:h.objs.size≤a):H a=none:=by
 cases q:H a with
 |none=>rfl
 |some u=>exact absurd (Nat.lt_of_lt_of_le (x.lt q) e) (Nat.lt_irrefl _)
theorem HOk.kept (x:HOk P w H h) (k:∀b u,h.get? b=some u→h'.get? b=some u):HOk P w H h':=fun a o e=>
 (x a o e).stay (fun b u _ q=>k b u q) (fun _ q=>q) fun _ _ q=>q
theorem HOk.laid (x:HOk P w H h) (k:∀b u,h.get? b=some u→h'.get? b=some u) (hp:h.objs.size≤a) (new:ObjOk P w (upd H a o) h' a o):HOk P w (upd H a o) h':=fun b u e=>by
 have hn:=x.fresh hp
 by_cases hb:b=a
 ·subst hb;rw[upd_same]at e;cases e;exact new
 ·rw[upd_ne hb]at e
  exact(x b u e).stay (fun c v _ q=>k c v q) (fun c q=>by rw[upd_ne (ne_of_none q hn)];exact q) fun c xs q=>by rw[upd_ne (ne_of_none q hn)];exact q
end
noncomputable def Rd (H:Hp) (a:Addr) (u:HO):Prop:=H a=some u∨∃o,H a=some (.frz o u)
theorem Rd.ok {P:Program}{w:World}{H:Hp}{h:Heap}{a:Addr}{u:HO}(r:Rd H a u) (x:HOk P w H h):ObjOk P w H h a u:=by
 rcases r with r|⟨o,r⟩
 ·exact x a u r
 ·obtain⟨_,q⟩:=x a _ r
  exact q
noncomputable def Mut:Option HO→Prop
 |some (.lst _)=>True
 |some (.dK _)=>True
 |some (.dT _)=>True
 |some (.dD _ _)=>True
 |some (.set _ _)=>True
 |some (.ins _ _ _)=>True
 |some (.ext _)=>True
 |_=>False
section
variable{P:Program}{w:World}{H:Hp}{h h':Heap}{x e:Addr}{o':HO}
theorem HOk.write (ok:HOk P w H h) (mu:Mut (H x)) (he:e=x∨H e=some (.own x)) (k:∀b u,b≠e→h.get? b=some u→h'.get? b=some u) (heo:∃u,h'.get? e=some u)
  (new:ObjOk P w (upd H x o') h' x o'):HOk P w (upd H x o') h':=fun b u q=>by
 have nown:∀c y,H c=some (.own y)→c≠x:=fun c y r z=>by subst z;rw[r]at mu;exact mu
 have ntup:∀c xs,H c=some (.tup xs)→c≠x:=fun c xs r z=>by subst z;rw[r]at mu;exact mu
 by_cases hb:b=x
 ·subst hb;rw[upd_same]at q;cases q;exact new
 ·rw[upd_ne hb]at q
  by_cases hbe:b=e
  ·have q':H b=some (.own x):=by
    rcases he with z|z
    ·exact absurd (hbe.trans z) hb
    ·rw[hbe];exact z
   rw[q]at q';cases q'
   obtain⟨v,hv⟩:=heo
   exact⟨v,by rw[hbe];exact hv⟩
  ·refine(ok b u q).stay (fun c v hc r=>k c v ?_ r) (fun c r=>by rw[upd_ne (nown c b r)];exact r) fun c xs r=>by rw[upd_ne (ntup c xs r)];exact r
   rcases hc with rfl|hc
   ·exact hbe
   ·rintro rfl
    rcases he with z|z
    ·exact nown c b hc z
    ·rw[hc]at z;cases z;exact hb rfl
end
structure Un (fs ex:List Addr) (H H':Hp) (h h':Heap):Prop where
 keep:∀b o,h.get? b=some o→H b=none→b∉fs→b∉ex→h'.get? b=some o
 slot:∀b o,h.get? b=some o→H b=none→b∈fs→b∉ex→∃sl,h'.get? b=some {o with slots:=sl}
 free:∀b o,h.get? b=some o→H b=none→b∉ex→H' b=none
 there:∀b o,h.get? b=some o→b∉ex→∃o',h'.get? b=some o'
 tups:∀b xs,H b=some (.tup xs)→H' b=some (.tup xs)
 frzs:∀b o u,H b=some (.frz o u)→H' b=some (.frz o u)
 tbls:∀b ps,H b=some (.tbl ps)→∃more,H' b=some (.tbl (ps++more))
section
variable{fs fs' ex ex':List Addr}{H H1 H2:Hp}{h h1 h2 h':Heap}{a x e:Addr}{o:HO}
theorem Un.any (u:Un fs ex H H1 h h1) {b:Addr}{ob:Obj}(q:h.get? b=some ob) (n:H b=none) (hx:b∉ex):∃sl,h1.get? b=some {ob with slots:=sl}:=by
 by_cases hb:b∈fs
 ·exact u.slot b ob q n hb hx
 ·exact⟨ob.slots,u.keep b ob q n hb hx⟩
theorem Un.kept (k:∀b u,h.get? b=some u→h'.get? b=some u):Un fs ex H H h h':=
 ⟨fun b ob q _ _ _=>k b ob q,fun b ob q _ _ _=>⟨ob.slots,k b ob q⟩,fun _ _ _ n _=>n,fun b ob q _=>⟨ob,k b ob q⟩,fun _ _ q=>q,fun _ _ _ q=>q,fun _ ps q=>⟨#[],by rw[q];simp⟩⟩
theorem Un.refl:Un fs ex H H h h:=Un.kept fun _ _ q=>q
theorem Un.laid (k:∀b u,h.get? b=some u→h'.get? b=some u) (hp:h.objs.size≤a) (hn:H a=none):Un fs ex H (upd H a o) h h' where
 keep:=fun b u q _ _ _=>k b u q
 slot:=fun b u q _ _ _=>⟨u.slots,k b u q⟩
 free:=fun b u q n _=>by rw[upd_ne (Nat.ne_of_lt (Nat.lt_of_lt_of_le (Heap.lt_size q) hp))];exact n
 there:=fun b u q _=>⟨u,k b u q⟩
 tups:=fun b xs q=>by rw[upd_ne (ne_of_none q hn)];exact q
 frzs:=fun b u xs q=>by rw[upd_ne (ne_of_none q hn)];exact q
 tbls:=fun b ps q=>⟨#[],by rw[upd_ne (ne_of_none q hn),q];simp⟩
theorem Un.write (mu:Mut (H x)) (he:e=x∨H e=some (.own x)) (k:∀b u,b≠e→h.get? b=some u→h'.get? b=some u) (heo:∃u,h'.get? e=some u):Un fs ex H (upd H x o) h h':=by
 have hx:∀b,H b=none→b≠x:=fun b n z=>by subst z;rw[n]at mu;exact mu
 have hb:∀b,H b=none→b≠e:=fun b n z=>by
  subst z
  rcases he with r|r
  ·exact hx b n r
  ·rw[n]at r;cases r
 have hm:∀b u,H b=some u→¬Mut (some u)→b≠x:=fun b u q nm z=>by subst z;rw[q]at mu;exact nm mu
 refine⟨fun b u q n _ _=>k b u (hb b n) q,fun b u q n _ _=>⟨u.slots,k b u (hb b n) q⟩,fun b u q n _=>by rw[upd_ne (hx b n)];exact n,fun b u q _=>?_,
  fun b xs q=>by rw[upd_ne (hm b _ q fun z=>z)];exact q,fun b u xs q=>by rw[upd_ne (hm b _ q fun z=>z)];exact q,fun b ps q=>⟨#[],by rw[upd_ne (hm b _ q fun z=>z),q];simp⟩⟩
 by_cases hbe:b=e
 ·subst hbe;exact heo
 ·exact⟨u,k b u hbe q⟩
end
noncomputable def trk (h:Heap) (H:Hp):List Addr:=(List.range h.objs.size).filter fun a=>(H a).isSome
noncomputable def hidT (h:Heap) (H:Hp):Heap:=PySem.W.hideAll h (trk h H)
theorem hidT_size (h:Heap) (H:Hp):(hidT h H).objs.size=h.objs.size:=PySem.W.hideAll_size _ _
theorem hidT_get {h:Heap}{H:Hp}{b:Addr}{o:Obj}(e:h.get? b=some o) (n:H b=none):(hidT h H).get? b=some o:=
 PySem.W.hideAll_get _ e fun hm=>by
  have q:(H b).isSome=true:=(List.mem_filter.mp hm).2
  rw[n]at q;simp at q
theorem of_hidT {h:Heap}{H:Hp}{b:Addr}{o:Obj}(e:(hidT h H).get? b=some o):h.get? b=some o∧H b=none:=by
 have e':h.get? b=some o:=PySem.W.of_hideAll (trk h H) e
 refine⟨e',?_⟩
 cases q:H b with
 |none=>rfl
 |some x=>
  have hm:b∈trk h H:=List.mem_filter.mpr ⟨List.mem_range.mpr (Heap.lt_size e'),by simp[q]⟩
  have z:(hidT h H).get? b=none:=PySem.W.hideAll_none (trk h H) hm
  rw[z]at e;cases e
noncomputable def allNews (g h:Heap) (L:Addr):List (Addr×Obj):=(List.range h.objs.size).filterMap fun a=>if a=L∨(g.get? a).isSome=true then none else(h.get? a).map fun o=>(a,o)
noncomputable def rest (g h:Heap) (L d:Addr):List (Addr×Obj):=(allNews g h L).filter fun p=>decide (p.1≠d)
end L2
namespace L2
open PySem PySem.Spec PyProof.Rows
structure Mod (K:Frag) (mg:Str→Option Value) (base:Heap):Prop where
 kin:K.In base
 glob:base.Ns mainGlobals mg
 blt:∃mb,base.Ns builtinsNs mb∧∀x:Str,x≠"__name__"→mb x=bootBuiltins x
 nolimit:base.NoLimit
structure Cx where
 prog:Program
 w:World
 K:Frag
 mg:Str→Option Value
 base:Heap
 A:Around
 N:List Str
 s₀:Shared
 H₀:Hp
 env:Env
 outer:List Env
 stack:List Env
 ex:List Addr
 fn:Str→Bool
 calm:Bool
 pn:List (Addr×Obj)
 xe:Value→Shared→Prop
noncomputable def frs (l:List Env):List Addr:=l.filterMap (·.frame)
noncomputable abbrev Cx.fs (X:Cx):List Addr:=frs X.outer
noncomputable def Vis (sc:Scope) (x:Str):Prop:=sc.names.lookup x=some .local∨sc.names.lookup x=some .cell∨sc.names.lookup x=some .free
noncomputable def Loc (sc:Scope) (x:Str):Prop:=sc.names.lookup x=some .local∨sc.names.lookup x=some .cell
noncomputable def Look (env:Env) (h:Heap) (m:Str→Option Value) (x:Str) (u:Value):Prop:=
 (env.kindOf x=some .local∧m x=some u)∨((env.kindOf x=some .cell∨env.kindOf x=some .free)∧∃c,env.cells.lookup x=some c∧h.IsCell c (some u))
structure Cx.Ok (X:Cx):Prop where
 mod:Mod X.K X.mg X.base
 kind:X.env.scope.kind=.function
 glob:X.env.globals=mainGlobals
 blt:X.env.builtins=builtinsNs
 above:X.s₀.heap.objs.size≤X.env.locals
 inj:∀x y c,X.env.cells.lookup x=some c→X.env.cells.lookup y=some c→x=y
 has:∀x,(X.env.kindOf x=some .cell∨X.env.kindOf x=some .free)→∃c,X.env.cells.lookup x=some c
 cab:∀x c,X.fn x=true→X.env.cells.lookup x=some c→X.s₀.heap.objs.size≤c
 hd:X.calm=true→X.A.handled=none
 frames:X.A.frames=some X.stack
 stk:X.stack=X.outer∨(X.stack=X.env::X.outer∧X.env.frame=some X.env.locals)
 exf:∀b∈X.ex,b≠X.env.locals∧∀x c,X.env.cells.lookup x=some c→c≠b
 bs:∀b o,X.base.get? b=some o→X.s₀.heap.get? b=some o∧X.H₀ b=none
 bsz:X.base.objs.size≤X.s₀.heap.objs.size
 noex:∀b o,X.base.get? b=some o→b∉X.ex
 exfs:∀b∈X.ex,b∉X.fs
 funs:X.s₀.heap.FunFrames X.base X.outer
 frf:∀b∈X.fs,X.H₀ b=none
structure Inv (X:Cx) (pins:List (Addr×Obj)) (σ:List (Option V)) (H:Hp) (s:Shared):Prop where
 ok:X.Ok
 os:s.os=X.s₀.os
 bare:AllBare s.gens
 base:Un X.fs X.ex X.H₀ H X.s₀.heap s.heap
 loc:∃m,s.heap.Ns X.env.locals m∧∀(i:Nat) (x:Str) (v:V),X.N[i]?=some x→σ[i]?=some (some v)→Vis X.env.scope x→∃u,RelV v u∧Look X.env s.heap m x u
 cell:∀x c,X.env.cells.lookup x=some c→∃v,s.heap.IsCell c v
 free:H X.env.locals=none
 freeC:∀x c,X.env.cells.lookup x=some c→H c=none
 pin:∀p∈X.pn++pins,s.heap.get? p.1=some p.2∧H p.1=none∧p.1≠X.env.locals∧p.1∉X.fs∧∀v,p.2.data≠.cell v
 hok:HOk X.prog X.w H s.heap
 len:σ.length=X.N.length
section
variable{X:Cx}{pins:List (Addr×Obj)}{σ:List (Option V)}{H H':Hp}{s:Shared}{h':Heap}
theorem Cx.Ok.nofr (ok:X.Ok) {b:Addr}{o:Obj}(e:X.base.get? b=some o):b∉X.fs:=fun hb=>by
 have:=(ok.funs.mem hb).1
 rw[e]at this;cases this
theorem Inv.bs (I:Inv X pins σ H s):∀b o,X.base.get? b=some o→s.heap.get? b=some o∧H b=none:=fun b o e=>
 ⟨I.base.keep b o (I.ok.bs b o e).1 (I.ok.bs b o e).2 (I.ok.nofr e) (I.ok.noex b o e),I.base.free b o (I.ok.bs b o e).1 (I.ok.bs b o e).2 (I.ok.noex b o e)⟩
theorem Inv.bk (I:Inv X pins σ H s):∀b o,X.base.get? b=some o→s.heap.get? b=some o:=fun b o e=>(I.bs b o e).1
theorem Inv.mod (I:Inv X pins σ H s):Mod X.K X.mg X.base:=I.ok.mod
theorem Inv.kIn (I:Inv X pins σ H s):X.K.In s.heap:=I.ok.mod.kin.keeps I.bk
theorem Inv.lt (I:Inv X pins σ H s):X.env.locals<s.heap.objs.size:=let ⟨_,hn,_⟩:=I.loc;hn.lt
theorem Inv.sz (I:Inv X pins σ H s):X.s₀.heap.objs.size≤s.heap.objs.size:=Nat.le_trans I.ok.above (Nat.le_of_lt I.lt)
theorem Inv.nofs (I:Inv X pins σ H s) {a:Addr}(h:s.heap.objs.size≤a):a∉X.fs:=fun hb=>by
 obtain⟨_,o,ho,_⟩:=I.ok.funs.mem hb
 exact absurd (Nat.lt_of_lt_of_le (Heap.lt_size ho) (Nat.le_trans I.sz h)) (Nat.lt_irrefl _)
theorem Inv.cne (I:Inv X pins σ H s):∀x c,X.env.cells.lookup x=some c→c≠X.env.locals:=fun x c e z=>by
 obtain⟨v,o,ho,hd⟩:=I.cell x c e
 obtain⟨m,⟨o',es,ep,ho',hd',_⟩,_⟩:=I.loc
 rw[z,ho']at ho;cases ho;rw[hd']at hd;cases hd
theorem Inv.funs (I:Inv X pins σ H s):s.heap.FunFrames X.base X.outer:=by
 have all:∀(l:List Env),(∀b∈frs l,b∈X.fs)→X.s₀.heap.FunFrames X.base l→s.heap.FunFrames X.base l:=by
  intro l
  induction l with
  |nil=>intro _ _;trivial
  |cons env r ih=>
   intro hs hl
   obtain⟨hk,⟨L,o,hf,hn,ho,hd⟩,hr⟩:=hl
   have hL:L∈X.fs:=hs L (by unfold frs;rw[List.filterMap_cons,hf];exact List.mem_cons_self)
   obtain⟨sl,e⟩:=I.base.slot L o ho (I.ok.frf L hL) hL fun z=>I.ok.exfs L z hL
   exact⟨hk,⟨L,_,hf,hn,e,hd⟩,ih (fun b hb=>hs b (by unfold frs;rw[List.filterMap_cons,hf];exact List.mem_cons_of_mem _ hb)) hr⟩
 exact all X.outer (fun _ hb=>hb) I.ok.funs
theorem Inv.stack (I:Inv X pins σ H s):s.heap.FunFrames X.base X.stack:=by
 rcases I.ok.stk with e|⟨e,hf⟩
 ·rw[e];exact I.funs
 ·rw[e]
  obtain⟨m,hn,_⟩:=I.loc
  refine .cons (by rw[I.ok.kind];decide) hf hn ?_ I.funs
  exact Heap.get?_none_of_le (Nat.le_trans I.ok.bsz I.ok.above)
theorem Inv.stkSub (I:Inv X pins σ H s):∀b∈frs X.stack,b∈X.env.locals::X.fs:=fun b hb=>by
 rcases I.ok.stk with e|⟨e,hf⟩
 ·rw[e]at hb;exact List.mem_cons_of_mem _ hb
 ·rw[e]at hb
  unfold frs at hb
  rw[List.filterMap_cons,hf]at hb
  exact hb
theorem Inv.stkFree (I:Inv X pins σ H s):∀b∈frs X.stack,H b=none:=fun b hb=>by
 rcases List.mem_cons.mp (I.stkSub b hb)with e|hb
 ·rw[e];exact I.free
 ·obtain⟨_,o,ho,_⟩:=I.ok.funs.mem hb
  exact I.base.free b o ho (I.ok.frf b hb) fun z=>I.ok.exfs b z hb
theorem Inv.step {g':Array GenState}{t':Nat}{d':Drawn}{ch:List Addr}(I:Inv X pins σ H s)
  (hch:∀b∈ch,(b∈X.ex∨X.s₀.heap.objs.size≤b)∧b≠X.env.locals∧(∀x c,X.env.cells.lookup x=some c→c≠b)∧∀p∈X.pn++pins,p.1≠b)
  (keep:∀b o,b≠X.env.locals→b∉X.fs→b∉ch→s.heap.get? b=some o→H b=none→h'.get? b=some o)
  (slot:∀b o,b≠X.env.locals→b∈X.fs→b∉ch→s.heap.get? b=some o→H b=none→∃sl,h'.get? b=some {o with slots:=sl}) (free:∀b o,b∉ch→s.heap.get? b=some o→H b=none→H' b=none)
  (there:∀b o,b∉ch→s.heap.get? b=some o→∃o',h'.get? b=some o')
  (tups:∀b xs,H b=some (.tup xs)→H' b=some (.tup xs)) (frzs:∀b o u,H b=some (.frz o u)→H' b=some (.frz o u)) (tbls:∀b ps,H b=some (.tbl ps)→∃more,H' b=some (.tbl (ps++more)))
  (ns:∀m,s.heap.Ns X.env.locals m→h'.Ns X.env.locals m) (hok:HOk X.prog X.w H' h') (hg:AllBare g'):
  Inv X pins σ H' {s with heap:=h',gens:=g',drawn:=d',toks:=t'}:=by
 have neL:∀b o,X.s₀.heap.get? b=some o→b≠X.env.locals:=fun b o e=>Nat.ne_of_lt (Nat.lt_of_lt_of_le (Heap.lt_size e) I.ok.above)
 have neC:∀b o,X.s₀.heap.get? b=some o→b∉X.ex→b∉ch:=fun b o e hx hb=>by
  rcases(hch b hb).1 with z|z
  ·exact hx z
  ·exact absurd (Nat.lt_of_lt_of_le (Heap.lt_size e) z) (Nat.lt_irrefl _)
 have cellK:∀x c,X.env.cells.lookup x=some c→∀v,s.heap.IsCell c v→h'.IsCell c v:=fun x c e v ⟨o,ho,hd⟩=>by
  have nch:c∉ch:=fun z=>(hch c z).2.2.1 x c e rfl
  by_cases hc:c∈X.fs
  ·obtain⟨sl,q⟩:=slot c o (I.cne x c e) hc nch ho (I.freeC x c e)
   exact⟨_,q,hd⟩
  ·exact⟨o,keep c o (I.cne x c e) hc nch ho (I.freeC x c e),hd⟩
 refine⟨I.ok,I.os,hg,⟨fun b o e n hb hx=>?_,fun b o e n hb hx=>?_,fun b o e n hx=>?_,fun b o e hx=>?_,fun b xs e=>tups b xs (I.base.tups b xs e),fun b o xs e=>frzs b o xs (I.base.frzs b o xs e),fun b ps e=>?_⟩,?_,fun x c e=>?_,?_,fun x c e=>?_,fun p hp=>?_,hok,I.len⟩
 ·exact keep b o (neL b o e) hb (neC b o e hx) (I.base.keep b o e n hb hx) (I.base.free b o e n hx)
 ·obtain⟨sl,e1⟩:=I.base.slot b o e n hb hx
  obtain⟨sl',e2⟩:=slot b _ (neL b o e) hb (neC b o e hx) e1 (I.base.free b o e n hx)
  exact⟨sl',e2⟩
 ·obtain⟨o',e1⟩:=I.base.there b o e hx
  exact free b o' (neC b o e hx) e1 (I.base.free b o e n hx)
 ·obtain⟨o',e1⟩:=I.base.there b o e hx
  exact there b o' (neC b o e hx) e1
 ·obtain⟨m1,e1⟩:=I.base.tbls b ps e
  obtain⟨m2,e2⟩:=tbls b _ e1
  exact⟨m1++m2,by rw[e2,Array.append_assoc]⟩
 ·obtain⟨m,hn,hl⟩:=I.loc
  refine⟨m,ns m hn,fun i x v e1 e2 e3=>?_⟩
  obtain⟨u,r,l⟩:=hl i x v e1 e2 e3
  refine⟨u,r,?_⟩
  rcases l with l|⟨k,c,e,z⟩
  ·exact .inl l
  ·exact .inr ⟨k,c,e,cellK x c e _ z⟩
 ·obtain⟨v,z⟩:=I.cell x c e
  exact⟨v,cellK x c e v z⟩
 ·obtain⟨m,⟨o,_,_,ho,_⟩,_⟩:=I.loc
  exact free _ o (fun z=>(hch _ z).2.1 rfl) ho I.free
 ·obtain⟨v,o,ho,hd⟩:=I.cell x c e
  exact free c o (fun z=>(hch c z).2.2.1 x c e rfl) ho (I.freeC x c e)
 ·obtain⟨e,n,ne,nf,d⟩:=I.pin p hp
  have nch:p.1∉ch:=fun z=>(hch p.1 z).2.2.2 p hp rfl
  exact⟨keep p.1 p.2 ne nf nch e n,free p.1 p.2 nch e n,ne,nf,d⟩
theorem Inv.un {t':Nat}(I:Inv X pins σ H s) (u:Un X.fs [] H H' s.heap h') (hok:HOk X.prog X.w H' h'):Inv X pins σ H' {s with heap:=h',toks:=t'}:=by
 obtain⟨m,⟨o,es,ep,ho,r⟩,_⟩:=id I.loc
 obtain⟨sl,hL⟩:=u.any ho I.free (by simp)
 exact I.step (g':=s.gens) (d':=s.drawn) (ch:=[]) (fun _ z=>nomatch z) (fun b o _ hb _ e n=>u.keep b o e n hb (by simp)) (fun b o _ hb _ e n=>u.slot b o e n hb (by simp)) (fun b o _ e n=>u.free b o e n (by simp)) (fun b o _ e=>u.there b o e (by simp)) u.tups u.frzs u.tbls (fun m' hm=>by
  obtain⟨o',es',ep',ho',r'⟩:=hm
  rw[ho]at ho';cases ho'
  exact⟨_,es',ep',hL,r'⟩) hok I.bare
theorem Inv.call {g':Array GenState}{t':Nat}{d':Drawn}{ch:List Addr}(I:Inv X pins σ H s) (u:Un (frs X.stack) ch H H' s.heap h') (hok:HOk X.prog X.w H' h') (hg:AllBare g')
  (hch:∀b∈ch,(b∈X.ex∨X.s₀.heap.objs.size≤b)∧b≠X.env.locals∧(∀x c,X.env.cells.lookup x=some c→c≠b)∧∀p∈X.pn++pins,p.1≠b):
  Inv X pins σ H' {s with heap:=h',gens:=g',drawn:=d',toks:=t'}:=by
 obtain⟨m,⟨o,es,ep,ho,r⟩,_⟩:=id I.loc
 obtain⟨sl,hL⟩:=u.any ho I.free fun z=>(hch _ z).2.1 rfl
 exact I.step (ch:=ch) hch (fun b o hL hb hc e n=>u.keep b o e n (fun z=>(List.mem_cons.mp (I.stkSub b z)).elim hL hb) hc) (fun b o _ _ hc e n=>u.any e n hc) (fun b o hc e n=>u.free b o e n hc) (fun b o hc e=>u.there b o e hc) u.tups u.frzs u.tbls (fun m' hm=>by
  obtain⟨o',es',ep',ho',r'⟩:=hm
  rw[ho]at ho';cases ho'
  exact⟨_,es',ep',hL,r'⟩) hok hg
theorem Inv.turned {t':Nat}{it:Addr}(I:Inv X pins σ H s) (k:∀b o,b≠it→s.heap.get? b=some o→h'.get? b=some o) (hn:H it=none) (hL:it≠X.env.locals)
  (h1:it∈X.ex∨X.s₀.heap.objs.size≤it) (h2:∀x c,X.env.cells.lookup x=some c→c≠it) (h3:∀p∈X.pn++pins,p.1≠it):Inv X pins σ H {s with heap:=h',toks:=t'}:=by
 have nit:∀b u,H b=some u→b≠it:=fun b u e z=>by rw[z,hn]at e;cases e
 refine I.step (g':=s.gens) (d':=s.drawn) (ch:=[it]) (fun b hb=>?_) (fun b o _ _ hc e _=>k b o (fun z=>hc (by simp[z])) e) (fun b o _ _ hc e _=>⟨o.slots,k b o (fun z=>hc (by simp[z])) e⟩) (fun _ _ _ _ n=>n)
  (fun b o hc e=>⟨o,k b o (fun z=>hc (by simp[z])) e⟩) (fun _ _ e=>e) (fun _ _ _ e=>e) (fun b ps e=>⟨#[],by rw[e];simp⟩) (fun m hm=>?_) (fun b u e=>?_) I.bare
 ·have e:b=it:=by simpa using hb
  subst e
  exact⟨h1,hL,h2,h3⟩
 ·obtain⟨o,es,ep,ho,r⟩:=hm
  exact⟨o,es,ep,k _ o (Ne.symm hL) ho,r⟩
 ·refine(I.hok b u e).stay (fun c v hc q=>k c v ?_ q) (fun _ q=>q) fun _ _ q=>q
  rcases hc with z|z
  ·rw[z];exact nit b u e
  ·exact nit c _ z
theorem Inv.tok (I:Inv X pins σ H s) (t:Nat):Inv X pins σ H {s with toks:=t}:=I.un (h':=s.heap) (t':=t) Un.refl I.hok
theorem Inv.kept {t':Nat}(I:Inv X pins σ H s) (k:∀b u,s.heap.get? b=some u→h'.get? b=some u):Inv X pins σ H {s with heap:=h',toks:=t'}:=I.un (Un.kept k) (I.hok.kept k)
theorem Inv.laid {a:Addr}{o:HO}{t':Nat}(I:Inv X pins σ H s) (k:∀b u,s.heap.get? b=some u→h'.get? b=some u) (hp:s.heap.objs.size≤a) (new:ObjOk X.prog X.w (upd H a o) h' a o):
  Inv X pins σ (upd H a o) {s with heap:=h',toks:=t'}:=I.un (Un.laid k hp (I.hok.fresh hp)) (I.hok.laid k hp new)
theorem Inv.write {x e:Addr}{o:HO}{t':Nat}(I:Inv X pins σ H s) (mu:Mut (H x)) (he:e=x∨H e=some (.own x)) (k:∀b u,b≠e→s.heap.get? b=some u→h'.get? b=some u) (heo:∃u,h'.get? e=some u)
  (new:ObjOk X.prog X.w (upd H x o) h' x o):Inv X pins σ (upd H x o) {s with heap:=h',toks:=t'}:=I.un (Un.write mu he k heo) (I.hok.write mu he k heo new)
theorem Inv.pins_of {pins':List (Addr×Obj)}(I:Inv X pins σ H s) (h:∀p∈pins',s.heap.get? p.1=some p.2∧H p.1=none∧p.1≠X.env.locals∧p.1∉X.fs∧∀v,p.2.data≠.cell v):Inv X pins' σ H s:=
 ⟨I.ok,I.os,I.bare,I.base,I.loc,I.cell,I.free,I.freeC,fun p hp=>(List.mem_append.mp hp).elim (fun z=>I.pin p (List.mem_append_left _ z)) (h p),I.hok,I.len⟩
theorem nodup_ix {N:List Str}(hN:N.Nodup) {i j:Nat}{x:Str}(a:N[i]?=some x) (b:N[j]?=some x):i=j:=by
 obtain⟨h1,e1⟩:=List.getElem?_eq_some_iff.mp a
 obtain⟨h2,e2⟩:=List.getElem?_eq_some_iff.mp b
 exact(List.getElem_inj hN).mp (e1.trans e2.symm)
theorem store_ok2 {M:Model}{A:Around}{E:Value→Shared→Prop}{i:Nat}{x:Str}{v:V}{u:Value}{Q:Unit→Shared→Prop}(I:Inv X pins σ H s) (hN:X.N.Nodup) (hi:X.N[i]?=some x) (hx:Loc X.env.scope x) (r:RelV v u)
  (h:∀s',Inv X pins (σ.set i (some v)) H s'→(∃a,Heap.SameBut a s.heap s'.heap∧(a=X.env.locals∨X.env.cells.lookup x=some a))→Q () s') (hf:X.fn x=true∨X.env.scope.names.lookup x=some .local:=by first|exact .inl rfl|exact .inr rfl|assumption):wpAny M A (storeName X.env x u) Q E s:=by
 obtain⟨m,hn,hl⟩:=id I.loc
 have hcls:(X.env.scope.kind==.class||(X.env.scope.kind==.module&&X.env.locals != X.env.globals))=false:=by rw[I.ok.kind];rfl
 have hiσ:i<σ.length:=by rw[I.len];exact(List.getElem?_eq_some_iff.mp hi).1
 have cne:=I.cne
 have tracked:∀{a:Addr}{h':Heap},(∃o,s.heap.get? a=some o∧H a=none)→Heap.SameBut a s.heap h'→HOk X.prog X.w H h':=fun{a h'} ha hs b ob e=>by
  obtain⟨_,_,hfree⟩:=ha
  refine(I.hok b ob e).stay (fun c w' hc q=>(hs.2 c ?_).trans q) (fun _ q=>q) fun _ _ q=>q
  rintro rfl
  rcases hc with rfl|hc
  ·rw[hfree]at e;cases e
  ·rw[hfree]at hc;cases hc
 rcases hx with hk|hk
 ·refine wpAny_storeName_local hk hn (fun h' hn' hs=>?_) hcls
  obtain⟨oL,_,_,hoL,_⟩:=id hn
  refine h _ ⟨I.ok,I.os,I.bare,⟨fun b o e n hb hx=>?_,fun b o e n hb hx=>?_,I.base.free,fun b o e hx=>?_,I.base.tups,I.base.frzs,I.base.tbls⟩,⟨_,hn',fun j y v' e1 e2 e3=>?_⟩,fun y c e=>?_,I.free,I.freeC,fun p hp=>?_,tracked ⟨oL,hoL,I.free⟩ hs,by simpa using I.len⟩ ⟨_,hs,.inl rfl⟩
  ·exact(hs.2 b (Nat.ne_of_lt (Nat.lt_of_lt_of_le (Heap.lt_size e) I.ok.above))).trans (I.base.keep b o e n hb hx)
  ·obtain⟨sl,e1⟩:=I.base.slot b o e n hb hx
   exact⟨sl,(hs.2 b (Nat.ne_of_lt (Nat.lt_of_lt_of_le (Heap.lt_size e) I.ok.above))).trans e1⟩
  ·obtain⟨o',e1⟩:=I.base.there b o e hx
   exact⟨o',(hs.2 b (Nat.ne_of_lt (Nat.lt_of_lt_of_le (Heap.lt_size e) I.ok.above))).trans e1⟩
  ·by_cases hj:j=i
   ·subst hj
    rw[hi]at e1;cases e1
    rw[List.getElem?_set_self hiσ]at e2
    cases e2
    exact⟨u,r,.inl ⟨hk,by simp⟩⟩
   ·rw[List.getElem?_set_ne (Ne.symm hj)]at e2
    obtain⟨u',r',q⟩:=hl j y v' e1 e2 e3
    refine⟨u',r',?_⟩
    rcases q with⟨k,e⟩|⟨k,c,e,z⟩
    ·refine .inl ⟨k,?_⟩
     have:y≠x:=fun e=>hj (nodup_ix hN e1 (e▸hi))
     simp[this,e]
    ·exact .inr ⟨k,c,e,z.sameBut hs (cne y c e)⟩
  ·obtain⟨w',z⟩:=I.cell y c e
   exact⟨w',z.sameBut hs (cne y c e)⟩
  ·obtain⟨e,n,ne,nf,d⟩:=I.pin p hp
   exact⟨(hs.2 p.1 ne).trans e,n,ne,nf,d⟩
 ·have hfn:X.fn x=true:=by
   rcases hf with z|z
   ·exact z
   ·rw[z]at hk;cases hk
  obtain⟨c,hc⟩:=I.ok.has x (.inl hk)
  obtain⟨w',z⟩:=I.cell x c hc
  refine wpAny_storeName_cell I.ok.kind hk hc z (fun h' hc' hs=>?_)
  obtain⟨oc,hoc,hocd⟩:=id z
  refine h {s with heap:=h'} ⟨I.ok,I.os,I.bare,⟨fun b o e n hb hx=>?_,fun b o e n hb hx=>?_,I.base.free,fun b o e hx=>?_,I.base.tups,I.base.frzs,I.base.tbls⟩,⟨m,hn.sameBut hs (Ne.symm (cne x c hc)),fun j y v' e1 e2 e3=>?_⟩,fun y c' e=>?_,I.free,I.freeC,fun p hp=>?_,tracked ⟨oc,hoc,I.freeC x c hc⟩ hs,by simpa using I.len⟩ ⟨c,hs,.inr hc⟩
  ·exact(hs.2 b (Nat.ne_of_lt (Nat.lt_of_lt_of_le (Heap.lt_size e) (I.ok.cab x c hfn hc)))).trans (I.base.keep b o e n hb hx)
  ·obtain⟨sl,e1⟩:=I.base.slot b o e n hb hx
   exact⟨sl,(hs.2 b (Nat.ne_of_lt (Nat.lt_of_lt_of_le (Heap.lt_size e) (I.ok.cab x c hfn hc)))).trans e1⟩
  ·obtain⟨o',e1⟩:=I.base.there b o e hx
   exact⟨o',(hs.2 b (Nat.ne_of_lt (Nat.lt_of_lt_of_le (Heap.lt_size e) (I.ok.cab x c hfn hc)))).trans e1⟩
  ·by_cases hj:j=i
   ·subst hj
    rw[hi]at e1;cases e1
    rw[List.getElem?_set_self hiσ]at e2
    cases e2
    exact⟨u,r,.inr ⟨.inl hk,c,hc,hc'⟩⟩
   ·rw[List.getElem?_set_ne (Ne.symm hj)]at e2
    obtain⟨u',r',q⟩:=hl j y v' e1 e2 e3
    refine⟨u',r',?_⟩
    rcases q with q|⟨k,c',e,z'⟩
    ·exact .inl q
    ·refine .inr ⟨k,c',e,z'.sameBut hs ?_⟩
     rintro rfl
     exact hj (nodup_ix hN e1 (I.ok.inj _ _ _ e hc▸hi))
  ·by_cases hcc:c'=c
   ·subst hcc;exact⟨_,hc'⟩
   ·obtain⟨w2,z2⟩:=I.cell y c' e
    exact⟨w2,z2.sameBut hs hcc⟩
  ·obtain⟨e,n,ne,nf,d⟩:=I.pin p hp
   refine⟨(hs.2 p.1 ?_).trans e,n,ne,nf,d⟩
   intro q
   rw[q,hoc]at e
   have q':oc=p.2:=Option.some.inj e
   exact d w' (by rw[←q'];exact hocd)
theorem store_ok {M:Model}{A:Around}{E:Value→Shared→Prop}{i:Nat}{x:Str}{v:V}{u:Value}{Q:Unit→Shared→Prop}(I:Inv X pins σ H s) (hN:X.N.Nodup) (hi:X.N[i]?=some x) (hx:Loc X.env.scope x) (r:RelV v u)
  (h:∀s',Inv X pins (σ.set i (some v)) H s'→Q () s') (hf:X.fn x=true∨X.env.scope.names.lookup x=some .local:=by first|exact .inl rfl|exact .inr rfl|assumption):wpAny M A (storeName X.env x u) Q E s:=
 store_ok2 I hN hi hx r (fun s' I' _=>h s' I') hf
theorem Inv.call' {s':Shared}{ch:List Addr}(I:Inv X pins σ H s) (ho:s'.os=s.os) (u:Un (frs X.stack) ch H H' s.heap s'.heap) (hok:HOk X.prog X.w H' s'.heap) (hg:AllBare s'.gens)
  (hch:∀b∈ch,(b∈X.ex∨X.s₀.heap.objs.size≤b)∧b≠X.env.locals∧(∀x c,X.env.cells.lookup x=some c→c≠b)∧∀p∈X.pn++pins,p.1≠b):Inv X pins σ H' s':=by
 obtain⟨h',g',d',t',o'⟩:=s'
 have e:o'=s.os:=ho
 subst e
 exact I.call (g':=g') (t':=t') (d':=d') u hok hg hch
end
noncomputable abbrev XK:=Value→Option Addr→Hp→Prop
noncomputable abbrev St:=List (Option V)
noncomputable abbrev VK:=V→Hp→Prop
noncomputable abbrev TE:=St→Hp→VK→Prop
noncomputable abbrev TT:=St→Hp→(Bool→Hp→Prop)→Prop
noncomputable abbrev TA:=St→Hp→(List V→Hp→Prop)→Prop
structure Ends where
 nx:St→Hp→Prop
 rt:VK
 bk:St→Hp→Prop:=fun _ _=>False
 ct:St→Hp→Prop:=fun _ _=>False
noncomputable abbrev TS:=Ends→St→Hp→Prop
inductive EP (X:Cx) (pins:List (Addr×Obj)) (σ:St) (Q:VK) (u:Value) (s':Shared) :Prop
 |mk (v:V) (H':Hp) (a_:Inv X pins σ H' s') (b_:RelV v u) (c_:Q v H'):EP X pins σ Q u s'
inductive TP (X:Cx) (pins:List (Addr×Obj)) (σ:St) (Q:Bool→Hp→Prop) (b:Bool) (s':Shared) :Prop
 |mk (H':Hp) (a_:Inv X pins σ H' s') (b_:Q b H'):TP X pins σ Q b s'
inductive AP (X:Cx) (pins:List (Addr×Obj)) (σ:St) (Q:List V→Hp→Prop) (us:List Value) (s':Shared) :Prop
 |mk (vs:List V) (H':Hp) (a_:Inv X pins σ H' s') (b_:Vals vs us) (c_:Q vs H'):AP X pins σ Q us s'
noncomputable def SP (X:Cx) (pins:List (Addr×Obj)) (D:Ends) (f:Flow) (s':Shared):Prop:=
 match f with
 |.next=>∃σ' H',Inv X pins σ' H' s'∧D.nx σ' H'
 |.brk=>∃σ' H',Inv X pins σ' H' s'∧D.bk σ' H'
 |.cont=>∃σ' H',Inv X pins σ' H' s'∧D.ct σ' H'
 |.ret u=>∃v σ' H',Inv X pins σ' H' s'∧RelV v u∧D.rt v H'
noncomputable def PE (X:Cx) (e:Expr) (t:TE):Prop:=
 ∀(pins:List (Addr×Obj)) (s:Shared) (σ:St) (H:Hp) (Q:VK),Inv X pins σ H s→t σ H Q→wpAny (model X.prog X.w) X.A (eval e X.env) (EP X pins σ Q) X.xe s
noncomputable def PT (X:Cx) (e:Expr) (t:TT):Prop:=
 ∀(pins:List (Addr×Obj)) (s:Shared) (σ:St) (H:Hp) (Q:Bool→Hp→Prop),Inv X pins σ H s→t σ H Q→wpAny (model X.prog X.w) X.A (isTrue e X.env (eval e X.env)) (TP X pins σ Q) X.xe s
noncomputable def PW (X:Cx) (e:Expr) (t:TT):Prop:=
 ∀(whole:Sem Value) (pins:List (Addr×Obj)) (s:Shared) (σ:St) (H:Hp) (Q:Bool→Hp→Prop),Inv X pins σ H s→t σ H Q→wpAny (model X.prog X.w) X.A (isTrue e X.env whole) (TP X pins σ Q) X.xe s
theorem PW.pt {X:Cx}{e:Expr}{t:TT}(h:PW X e t):PT X e t:=h _
noncomputable def PA (X:Cx) (es:List Expr) (t:TA):Prop:=
 ∀(pos:Pos) (pins:List (Addr×Obj)) (s:Shared) (σ:St) (H:Hp) (Q:List V→Hp→Prop),Inv X pins σ H s→t σ H Q→wpAny (model X.prog X.w) X.A (spliced (backTo pos (starEach es X.env))) (AP X pins σ Q) X.xe s
noncomputable def PS (X:Cx) (st:Stmt) (t:TS):Prop:=
 ∀(pins:List (Addr×Obj)) (s:Shared) (σ:St) (H:Hp) (D:Ends),Inv X pins σ H s→t D σ H→wpAny (model X.prog X.w) X.A (exec st X.env) (SP X pins D) X.xe s
noncomputable def PSs (X:Cx) (st:List Stmt) (t:TS):Prop:=
 ∀(pins:List (Addr×Obj)) (s:Shared) (σ:St) (H:Hp) (D:Ends),Inv X pins σ H s→t D σ H→wpAny (model X.prog X.w) X.A (execs st X.env) (SP X pins D) X.xe s
theorem thn {α:Type}{t:Sem α}{Q Q':α→Shared→Prop}{M:Model}{A:Around}{E:Value→Shared→Prop}{s:Shared}(h:wpAny M A t Q E s) (hQ:∀a s,Q a s→Q' a s):wpAny M A t Q' E s:=wpAny_mono h hQ fun _ _ x=>x
end L2
namespace L2
open PySem PySem.Spec PyProof.Rows
section
variable{X:Cx}
theorem bin {a b:Expr}{ta tb:TE}(ha:PE X a ta) (hb:PE X b tb) {pins:List (Addr×Obj)}{s:Shared}{σ:St}{H:Hp}{R:V→V→Hp→Prop}(I:Inv X pins σ H s) (h:ta σ H fun x H1=>tb σ H1 fun y H2=>R x y H2)
  {α:Type}{Q:α→Shared→Prop}{f:Value→Value→Sem α}
  (hf:∀v u s2 x y H2,Inv X pins σ H2 s2→RelV x v→RelV y u→R x y H2→wpAny (model X.prog X.w) X.A (f v u) Q X.xe s2):
  wpAny (model X.prog X.w) X.A (eval a X.env) (fun v s₁=>wpAny (model X.prog X.w) X.A (eval b X.env) (fun u s₂=>wpAny (model X.prog X.w) X.A (f v u) Q X.xe s₂) X.xe s₁) X.xe s:=by
 refine thn (ha pins s σ H _ I h) fun v s1 ⟨x,H1,I1,r1,q1⟩=>?_
 refine thn (hb pins s1 σ H1 _ I1 q1) fun u s2 ⟨y,H2,I2,r2,q2⟩=>?_
 exact hf v u s2 x y H2 I2 r1 r2 q2
noncomputable def tVar (i:Nat):TE:=fun σ H Q=>∃v,σ[i]?=some (some v)∧Q v H
noncomputable def tC (v:V):TE:=fun _ H Q=>Q v H
theorem pe_var {i:Nat}{x:Str}{pos:Pos}(hN:X.N[i]?=some x) (hv:Vis X.env.scope x) (hd:(x==("__debug__":Str))=false:=by decide) (hcd:(x==("__classdict__":Str))=false:=by decide):PE X (.Name x pos) (tVar i):=by
 intro pins s σ H Q I h
 obtain⟨v,e,h⟩:=h
 obtain⟨m,hn,hl⟩:=I.loc
 obtain⟨u,r,l⟩:=hl i x v hN e hv
 have fin:EP X pins σ Q u s:=⟨v,H,I,r,h⟩
 rcases l with⟨hk,hm⟩|⟨hk,c,hc,hcell⟩
 ·exact wpAny_Name (wpAny_loadName_local I.ok.kind hk hn hm fin) hd
 ·rcases hk with hk|hk
  ·exact wpAny_Name (wpAny_loadName_cell I.ok.kind hk hc hcell fin) hd
  ·exact wpAny_Name (wpAny_loadName_free I.ok.kind hk hc hcell fin hcd) hd
theorem pe_int {i j pos}:PE X (.Constant (.int i) j pos) (tC (.int i)):=fun _ _ _ H _ I h=>wpAny_Constant_int ⟨.int i,H,I.tok _,⟨_,rfl⟩,h⟩
theorem pe_bl {b j pos}:PE X (.Constant (.bool b) j pos) (tC (.bl b)):=fun _ _ _ H _ I h=>Constant_bool ⟨.bl b,H,I,rfl,h⟩
theorem pe_non {j pos}:PE X (.Constant .none j pos) (tC .non):=fun _ _ _ H _ I h=>Constant_none ⟨.non,H,I,rfl,h⟩
theorem pe_str {x j pos}:PE X (.Constant (.str x) j pos) (tC (.str x)):=fun _ _ _ H _ I h=>Calls.Constant_str ⟨.str x,H,I.tok _,⟨_,rfl⟩,h⟩
noncomputable def Gl (X:Cx) (x:Str):Prop:=X.env.kindOf x=some .globalImplicit
theorem ld_glob {E:Value→Shared→Prop}{pins:List (Addr×Obj)}{s:Shared}{σ:St}{H:Hp}{x:Str}{u:Value}{pos:Pos}{Q:Value→Shared→Prop}(I:Inv X pins σ H s) (hg:Gl X x) (hm:X.mg x=some u) (h:Q u s)
  (hd:(x==("__debug__":Str))=false:=by decide):wpAny (model X.prog X.w) X.A (eval (.Name x pos) X.env) Q E s:=
 Calls.Name_function_global I.ok.kind hg (Calls.loadGlobal_global (by rw[I.ok.glob];exact I.mod.glob.keeps I.bk) hm h) hd
theorem ld_blt {E:Value→Shared→Prop}{pins:List (Addr×Obj)}{s:Shared}{σ:St}{H:Hp}{x:Str}{u:Value}{pos:Pos}{Q:Value→Shared→Prop}(I:Inv X pins σ H s) (hg:Gl X x) (hm:X.mg x=none) (hv:bootBuiltins x=some u) (h:Q u s)
  (hn:x≠"__name__":=by decide) (hd:(x==("__debug__":Str))=false:=by decide):wpAny (model X.prog X.w) X.A (eval (.Name x pos) X.env) Q E s:=by
 obtain⟨mb,h1,h2⟩:=I.mod.blt
 exact Calls.Name_function_global I.ok.kind hg (Calls.loadGlobal_builtin (by rw[I.ok.glob];exact I.mod.glob.keeps I.bk) hm (by rw[I.ok.blt];exact h1.keeps I.bk) ((h2 x hn).trans hv) h) hd
theorem pe_glob {x:Str}{v:V}{u:Value}{pos:Pos}(hg:Gl X x) (hm:X.mg x=some u) (r:RelV v u) (hd:(x==("__debug__":Str))=false:=by decide):PE X (.Name x pos) (tC v):=
 fun _ _ _ H _ I h=>ld_glob I hg hm ⟨v,H,I,r,h⟩ hd
theorem pe_bltn {x:Str}{v:V}{u:Value}{pos:Pos}(hg:Gl X x) (hm:X.mg x=none) (hv:bootBuiltins x=some u) (r:RelV v u) (hn:x≠"__name__":=by decide) (hd:(x==("__debug__":Str))=false:=by decide):PE X (.Name x pos) (tC v):=
 fun _ _ _ H _ I h=>ld_blt I hg hm hv ⟨v,H,I,r,h⟩ hn hd
variable{a b:Expr}{ta tb:TE}{pos:Pos}
noncomputable def PC (X:Cx) (op:CmpOp) (a b:Expr) (t:TE):Prop:=
 ∀(pins:List (Addr×Obj)) (s:Shared) (σ:St) (H:Hp) (Q:VK),Inv X pins σ H s→t σ H Q→
  wpAny (model X.prog X.w) X.A (eval a X.env) (fun v s₁=>wpAny (model X.prog X.w) X.A (eval b X.env) (fun u s₂=>wpAny (model X.prog X.w) X.A (compareOp op v u) (EP X pins σ Q) X.xe s₂) X.xe s₁) X.xe s
theorem nobehind (b:Expr) {op:CmpOp}(h:op≠.In) (h2:op≠.NotIn):behindInMarks op b=false:=by
 have e1:(op==CmpOp.In)=false:=by cases op<;>first|rfl|exact absurd rfl h
 have e2:(op==CmpOp.NotIn)=false:=by cases op<;>first|rfl|exact absurd rfl h2
 cases b<;>simp[behindInMarks,e1,e2]
noncomputable def tB (t:TE):TT:=fun σ H Q=>t σ H fun x H1=>∃c,x=.bl c∧Q c H1
theorem pt_cmp {op:CmpOp}{t:TE}(h:PC X op a b t) (h1:behindInMarks op b=false:=by first|exact nobehind _ (by decide) (by decide)|rfl):PT X (.Compare a [op] [b] pos) (tB t):=by
 intro pins s σ H Q I hw
 refine wpAny_isTrue_Compare1 (thn (h pins s σ H _ I hw) fun v s1 h1=>thn h1 fun u s2 h2=>thn h2 fun c s3 ⟨x,H1,I1,r1,q1⟩=>?_) h1
 obtain⟨d,rfl,q⟩:=q1
 cases r1
 exact wpAny_truthy_bool ⟨H1,I1,q⟩
theorem pt_val {e:Expr}{t:TE}(h:PE X e t) (he:∀whole,isTrue e X.env whole=(do let v ←whole;standAt e.pos;holding [v] (truthy v)):=by intro _;rfl):PT X e (tB t):=by
 intro pins s σ H Q I hw
 refine isTrue_plain (thn (h pins s σ H _ I hw) fun v s1 ⟨x,H1,I1,r1,q1⟩=>?_) (he _)
 obtain⟨d,rfl,q⟩:=q1
 cases r1
 exact wpAny_truthy_bool ⟨H1,I1,q⟩
variable{tA tB':TT}{rest:List Expr}
noncomputable def tAnd (t u:TT):TT:=fun σ H Q=>t σ H fun c H1=>if c=true then u σ H1 Q else Q false H1
noncomputable def tOr (t u:TT):TT:=fun σ H Q=>t σ H fun c H1=>if c=true then Q true H1 else u σ H1 Q
noncomputable def tNot (t:TT):TT:=fun σ H Q=>t σ H fun c H1=>Q (!c) H1
theorem pw_and1 (ha:PT X a tA):PW X (.BoolOp .And [a] pos) tA:=by
 intro wh pins s σ H Q I h
 refine isTrue_and (thn (ha pins s σ H Q I h) fun c s1 e=>?_)
 cases c with
 |true=>exact isTrue_and_nil e
 |false=>exact e
theorem pw_or1 (ha:PT X a tA):PW X (.BoolOp .Or [a] pos) tA:=by
 intro wh pins s σ H Q I h
 refine isTrue_or (thn (ha pins s σ H Q I h) fun c s1 e=>?_)
 cases c with
 |false=>exact isTrue_or_nil e
 |true=>exact e
theorem pw_and (ha:PT X a tA) (hb:PW X (.BoolOp .And (b::rest) pos) tB'):PW X (.BoolOp .And (a::b::rest) pos) (tAnd tA tB'):=by
 intro wh pins s σ H Q I h
 refine isTrue_and (thn (ha pins s σ H _ I h) fun c s1 ⟨H1,I1,q1⟩=>?_)
 cases c with
 |true=>exact hb wh pins s1 σ H1 Q I1 q1
 |false=>exact⟨H1,I1,q1⟩
theorem pw_or (ha:PT X a tA) (hb:PW X (.BoolOp .Or (b::rest) pos) tB'):PW X (.BoolOp .Or (a::b::rest) pos) (tOr tA tB'):=by
 intro wh pins s σ H Q I h
 refine isTrue_or (thn (ha pins s σ H _ I h) fun c s1 ⟨H1,I1,q1⟩=>?_)
 cases c with
 |true=>exact⟨H1,I1,q1⟩
 |false=>exact hb wh pins s1 σ H1 Q I1 q1
theorem pt_not (ha:PT X a tA):PT X (.UnaryOp .Not a pos) (tNot tA):=by
 intro pins s σ H Q I h
 exact isTrue_not (thn (ha pins s σ H (fun c H1=>Q (!c) H1) I h) fun c s1 ⟨H1,I1,q1⟩=>⟨H1,I1,q1⟩)
noncomputable def tAndV (ta tb:TE):TE:=fun σ H Q=>ta σ H fun x H1=>∃c,x=.bl c∧if c=true then tb σ H1 Q else Q (.bl false) H1
noncomputable def tOrV (ta tb:TE):TE:=fun σ H Q=>ta σ H fun x H1=>∃c,x=.bl c∧if c=true then Q (.bl true) H1 else tb σ H1 Q
noncomputable def tNotV (ta:TE):TE:=fun σ H Q=>ta σ H fun x H1=>∃c,x=.bl c∧Q (.bl (!c)) H1
theorem pe_one {op} {t:TE}(h:PE X a t):PE X (.BoolOp op [a] pos) t:=fun pins s σ H Q I hw=>BoolOp_one (h pins s σ H Q I hw)
theorem pe_and (ha:PE X a ta) (hb:PE X (.BoolOp .And (b::rest) pos) tb):PE X (.BoolOp .And (a::b::rest) pos) (tAndV ta tb):=by
 intro pins s σ H Q I h
 refine BoolOp_and (thn (ha pins s σ H _ I h) fun v s1 ⟨x,H1,I1,r1,q1⟩=>?_)
 obtain⟨c,rfl,q1⟩:=q1
 cases r1
 refine wpAny_truthy_bool ?_
 cases c with
 |true=>exact hb pins s1 σ H1 Q I1 q1
 |false=>exact⟨.bl false,H1,I1,rfl,q1⟩
theorem pe_or (ha:PE X a ta) (hb:PE X (.BoolOp .Or (b::rest) pos) tb):PE X (.BoolOp .Or (a::b::rest) pos) (tOrV ta tb):=by
 intro pins s σ H Q I h
 refine BoolOp_or (thn (ha pins s σ H _ I h) fun v s1 ⟨x,H1,I1,r1,q1⟩=>?_)
 obtain⟨c,rfl,q1⟩:=q1
 cases r1
 refine wpAny_truthy_bool ?_
 cases c with
 |false=>exact hb pins s1 σ H1 Q I1 q1
 |true=>exact⟨.bl true,H1,I1,rfl,q1⟩
theorem pe_not (ha:PE X a ta):PE X (.UnaryOp .Not a pos) (tNotV ta):=by
 intro pins s σ H Q I h
 refine UnaryOp_ (thn (ha pins s σ H _ I h) fun v s1 ⟨x,H1,I1,r1,q1⟩=>?_)
 obtain⟨c,rfl,q1⟩:=q1
 cases r1
 exact not_of (wpAny_truthy_bool ⟨.bl (!c),H1,I1,rfl,q1⟩)
noncomputable def tIf (t:TT) (ta tb:TE):TE:=fun σ H Q=>t σ H fun c H1=>if c=true then ta σ H1 Q else tb σ H1 Q
theorem pe_ifExp {c:Expr}(hc:PT X c tA) (ha:PE X a ta) (hb:PE X b tb):PE X (.IfExp c a b pos) (tIf tA ta tb):=by
 intro pins s σ H Q I h
 refine wpAny_IfExp (thn (hc pins s σ H _ I h) fun d s1 ⟨H1,I1,q1⟩=>?_)
 cases d with
 |true=>exact ha pins s1 σ H1 Q I1 q1
 |false=>exact hb pins s1 σ H1 Q I1 q1
end
end L2
namespace L2
open PySem PySem.Spec PyProof.Rows
noncomputable def SqL (K:Frag) (H:Hp) (a:Addr) (xs:List V):Prop:=
 Rd H a (.lst xs)∨
  ∃(o:Obj) (its:Array Value) (n:Nat),K.lookup a=some o∧o.cls=.type "list"∧o.dict=none∧o.data=.seq its n∧its.size≤sizeLine∧Vals xs its.toList
noncomputable def SqT (K:Frag) (H:Hp) (a:Addr) (xs:List V):Prop:=
 Rd H a (.tup xs)∨
  ∃(o:Obj) (its:Array Value) (n:Nat),K.lookup a=some o∧o.cls=.type "tuple"∧o.data=.seq its n∧its.size≤sizeLine∧Vals xs its.toList
noncomputable def absV:Value→Option V
 |.none=>some .non
 |.bool b=>some (.bl b)
 |.int i _=>some (.int i)
 |.str x _=>some (.str x)
 |.bytes b _=>some (.byt b)
 |.float b _=>some (.flt b)
 |.ref a=>some (.ref a)
 |.type n=>some (.ty n)
 |_=>none
theorem RelV.abs {x:V}{u:Value}(r:RelV x u):absV u=some x:=by
 cases x with
 |non=>cases r;rfl
 |bl _=>cases r;rfl
 |int _=>obtain⟨t,rfl⟩:=r;rfl
 |str _=>obtain⟨t,rfl⟩:=r;rfl
 |byt _=>obtain⟨t,rfl⟩:=r;rfl
 |flt _=>obtain⟨t,rfl⟩:=r;rfl
 |ref _=>cases r;rfl
 |ty _=>cases r;rfl
theorem RelV.inj {x y:V}{u:Value}(r:RelV x u) (q:RelV y u):x=y:=Option.some.inj (r.abs.symm.trans q.abs)
theorem Vals.inj:∀{xs ys:List V}{us:List Value},Vals xs us→Vals ys us→xs=ys
 |_,_,_,.nil,.nil=>rfl
 |_,_,_,.cons r t,.cons r' t'=>by rw[r.inj r',Vals.inj t t']
section
variable{X:Cx}{pins:List (Addr×Obj)}{σ:St}{H:Hp}{s:Shared}{a:Addr}{xs ys:List V}
theorem SqL.of {K:Frag}(h:H a=some (.lst xs)):SqL K H a xs:=.inl (.inl h)
theorem SqT.of {K:Frag}(h:H a=some (.tup xs)):SqT K H a xs:=.inl (.inl h)
theorem Inv.list (I:Inv X pins σ H s) (h:SqL X.K H a xs):∃its:List Value,Vals xs its∧PlainL s.heap a its.toArray∧xs.length≤sizeLine:=by
 rcases h with h|⟨o,its,n,hk,hc,hd,hs,hz,r⟩
 ·obtain⟨z,its,n,r,e⟩:=h.ok I.hok
  exact⟨its,r,⟨_,n,e,rfl,rfl,rfl⟩,z⟩
 ·refine⟨its.toList,r,⟨o,n,I.kIn a o hk,hc,hd,by simpa using hs⟩,?_⟩
  have e:=r.length
  simp only[Array.length_toList]at e
  omega
theorem Inv.tuple (I:Inv X pins σ H s) (h:SqT X.K H a xs):∃its:List Value,Vals xs its∧IsTup s.heap a its.toArray∧xs.length≤sizeLine:=by
 rcases h with h|⟨o,its,n,hk,hc,hs,hz,r⟩
 ·obtain⟨z,its,r,p⟩:=h.ok I.hok
  exact⟨its,r,p,z⟩
 ·refine⟨its.toList,r,⟨o,I.kIn a o hk,hc,n,by simpa using hs⟩,?_⟩
  have e:=r.length
  simp only[Array.length_toList]at e
  omega
theorem Inv.list_inj (I:Inv X pins σ H s) (h:SqL X.K H a xs) (h':SqL X.K H a ys):xs=ys:=by
 obtain⟨its,r,⟨o,n,e,_,_,d⟩,_⟩:=I.list h
 obtain⟨its',r',⟨o',n',e',_,_,d'⟩,_⟩:=I.list h'
 rw[e]at e';cases e'
 rw[d]at d'
 injection d' with d1 _
 have:its=its':=by simpa using congrArg Array.toList d1
 subst this
 exact r.inj r'
theorem Inv.tuple_inj (I:Inv X pins σ H s) (h:SqT X.K H a xs) (h':SqT X.K H a ys):xs=ys:=by
 obtain⟨its,r,⟨o,e,_,n,d⟩,_⟩:=I.tuple h
 obtain⟨its',r',⟨o',e',_,n',d'⟩,_⟩:=I.tuple h'
 rw[e]at e';cases e'
 rw[d]at d'
 injection d' with d1 _
 have:its=its':=by simpa using congrArg Array.toList d1
 subst this
 exact r.inj r'
end
noncomputable abbrev Cx.wish (X:Cx) (E:Value→Shared→Prop):Cx:={X with xe:=E}
noncomputable abbrev Cx.nox (X:Cx):Cx:=X.wish fun _ _=>False
theorem Cx.Ok.wish {X:Cx}(ok:X.Ok) (E:Value→Shared→Prop):(X.wish E).Ok:=
 ⟨ok.mod,ok.kind,ok.glob,ok.blt,ok.above,ok.inj,ok.has,ok.cab,ok.hd,ok.frames,ok.stk,ok.exf,ok.bs,ok.bsz,ok.noex,ok.exfs,ok.funs,ok.frf⟩
theorem Cx.Ok.unwish {X:Cx}{E:Value→Shared→Prop}(ok:(X.wish E).Ok):X.Ok:=
 ⟨ok.mod,ok.kind,ok.glob,ok.blt,ok.above,ok.inj,ok.has,ok.cab,ok.hd,ok.frames,ok.stk,ok.exf,ok.bs,ok.bsz,ok.noex,ok.exfs,ok.funs,ok.frf⟩
section
variable{X:Cx}{pins:List (Addr×Obj)}{σ:St}{H:Hp}{s:Shared}{E:Value→Shared→Prop}
theorem Inv.wish (I:Inv X pins σ H s) (E:Value→Shared→Prop):Inv (X.wish E) pins σ H s:=⟨I.ok.wish E,I.os,I.bare,I.base,I.loc,I.cell,I.free,I.freeC,I.pin,I.hok,I.len⟩
theorem Inv.unwish (I:Inv (X.wish E) pins σ H s):Inv X pins σ H s:=⟨I.ok.unwish,I.os,I.bare,I.base,I.loc,I.cell,I.free,I.freeC,I.pin,I.hok,I.len⟩
theorem SP.unwish {D:Ends}{f:Flow}{s':Shared}(h:SP (X.wish E) pins D f s'):SP X pins D f s':=by
 cases f with
 |next=>obtain⟨σ',H',I,q⟩:=h;exact⟨σ',H',I.unwish,q⟩
 |brk=>obtain⟨σ',H',I,q⟩:=h;exact⟨σ',H',I.unwish,q⟩
 |cont=>obtain⟨σ',H',I,q⟩:=h;exact⟨σ',H',I.unwish,q⟩
 |ret u=>obtain⟨v,σ',H',I,r,q⟩:=h;exact⟨v,σ',H',I.unwish,r,q⟩
theorem PSs.nox {st:List Stmt}{t:TS}(h:PSs X.nox st t):PSs X st t:=fun pins s σ H D I hw=>
 wpAny_mono (h pins s σ H D (I.wish _) hw) (fun _ _ q=>q.unwish) fun _ _ z=>False.elim z
end
section
variable{X:Cx}{st:Stmt}{rest:List Stmt}{t u:TS}{e:Expr}{te:TE}{pos:Pos}
noncomputable def tNext:TS:=fun D σ H=>D.nx σ H
noncomputable def tSeq (t u:TS):TS:=fun D σ H=>t {D with nx:=u D} σ H
theorem pss_nil:PSs X [] tNext:=fun _ _ σ H _ I h=>wpAny_execs_nil ⟨σ,H,I,h⟩
theorem pss_cons (h1:PS X st t) (h2:PSs X rest u):PSs X (st::rest) (tSeq t u):=by
 intro pins s σ H D I h
 refine wpAny_execs_cons (thn (h1 pins s σ H {D with nx:=u D} I h) fun f s1 q=>?_)
 cases f with
 |next=>
  obtain⟨σ',H',I',q⟩:=q
  exact h2 pins s1 σ' H' D I' q
 |ret v=>exact q
 |brk=>exact q
 |cont=>exact q
theorem pss_one (h1:PS X st t):PSs X [st] t:=by
 intro pins s σ H D I h
 refine wpAny_execs_cons (thn (h1 pins s σ H D I h) fun f s1 q=>?_)
 cases f with
 |next=>exact wpAny_execs_nil q
 |ret v=>exact q
 |brk=>exact q
 |cont=>exact q
theorem Inv.quiet {pins:List (Addr×Obj)}{σ:St}{H:Hp}{s:Shared}(I:Inv X pins σ H s):interactive X.env=false:=by simp[interactive,I.ok.kind]
noncomputable def tDrop (te:TE):TS:=fun D σ H=>te σ H fun _ H1=>D.nx σ H1
theorem ps_expr (he:PE X e te) (hs:swapsWith e none pos.line X.env=pure false:=by rfl):PS X (.Expr e pos) (tDrop te):=by
 intro pins s σ H D I h
 exact wpAny_Expr_any (thn (he pins s σ H _ I h) fun v s1 ⟨x,H1,I1,r1,q1⟩=>⟨σ,H1,I1,q1⟩) I.quiet hs
noncomputable def tRet (te:TE):TS:=fun D σ H=>te σ H D.rt
theorem ps_ret (he:PE X e te):PS X (.Return (some e) pos) (tRet te):=by
 intro pins s σ H D I h
 exact wpAny_Return_some (thn (he pins s σ H _ I h) fun v s1 ⟨x,H1,I1,r1,q1⟩=>⟨x,σ,H1,I1,r1,q1⟩)
noncomputable def tIfS (c:TT) (t u:TS):TS:=fun D σ H=>c σ H fun b H1=>if b=true then t D σ H1 else u D σ H1
theorem ps_if {c:Expr}{a b:List Stmt}{tc:TT}(hc:PT X c tc) (ha:PSs X a t) (hb:PSs X b u):PS X (.If c a b pos) (tIfS tc t u):=by
 intro pins s σ H D I h
 refine wpAny_If (thn (hc pins s σ H _ I h) fun d s1 ⟨H1,I1,q1⟩=>?_)
 cases d with
 |true=>exact ha pins s1 σ H1 D I1 q1
 |false=>exact hb pins s1 σ H1 D I1 q1
end
noncomputable abbrev TG:=V→St→Hp→(St→Hp→Prop)→Prop
noncomputable abbrev TGs:=List V→St→Hp→(St→Hp→Prop)→Prop
noncomputable def PG (X:Cx) (target:Expr) (t:TG):Prop:=
 ∀(pins:List (Addr×Obj)) (s:Shared) (σ:St) (H:Hp) (v:V) (u:Value) (Q:St→Hp→Prop),Inv X pins σ H s→RelV v u→t v σ H Q→
  wpAny (model X.prog X.w) X.A (assign target X.env u) (fun _ s'=>∃σ' H',Inv X pins σ' H' s'∧Q σ' H') X.xe s
noncomputable def PGs (X:Cx) (ts:List Expr) (t:TGs):Prop:=
 ∀(pins:List (Addr×Obj)) (s:Shared) (σ:St) (H:Hp) (vs:List V) (us:List Value) (Q:St→Hp→Prop),Inv X pins σ H s→Vals vs us→t vs σ H Q→
  wpAny (model X.prog X.w) X.A (assignInOrder ((assignEach ts X.env).map (·.2)) us) (fun _ s'=>∃σ' H',Inv X pins σ' H' s'∧Q σ' H') X.xe s
section
variable{X:Cx}{pos:Pos}
noncomputable def gName (i:Nat):TG:=fun v σ H Q=>Q (σ.set i (some v)) H
theorem pg_name {i:Nat}{x:Str}(hN:X.N.Nodup) (hi:X.N[i]?=some x) (hx:Loc X.env.scope x) (hf:X.fn x=true∨X.env.scope.names.lookup x=some .local:=by first|exact .inl rfl|exact .inr rfl|assumption):PG X (.Name x pos) (gName i):=by
 intro pins s σ H v u Q I r h
 exact wpAny_assign_Name (store_ok I hN hi hx r (fun s' I'=>⟨_,H,I',h⟩) hf)
noncomputable def gNil:TGs:=fun vs σ H Q=>vs=[]∧Q σ H
noncomputable def gCons (t:TG) (u:TGs):TGs:=fun vs σ H Q=>∃v r,vs=v::r∧t v σ H fun σ' H'=>u r σ' H' Q
theorem pgs_nil:PGs X [] gNil:=by
 intro pins s σ H vs us Q I r h
 obtain⟨e,h⟩:=h
 subst e
 cases r
 exact assignInOrder_nil ⟨σ,H,I,h⟩
theorem pgs_cons {e:Expr}{es:List Expr}{t:TG}{u:TGs}(h1:PG X e t) (h2:PGs X es u)
  (hs:(assignEach (e::es) X.env).map (·.2)=assign e X.env::(assignEach es X.env).map (·.2):=by rfl):PGs X (e::es) (gCons t u):=by
 intro pins s σ H vs us Q I r h
 obtain⟨v,vr,e1,h⟩:=h
 subst e1
 cases r with
 |cons r rr=>
  rw[hs]
  refine assignInOrder_cons (thn (h1 pins s σ H _ _ _ I r h) fun _ s1 ⟨σ1,H1,I1,q1⟩=>?_)
  exact h2 pins s1 σ1 H1 _ _ Q I1 rr q1
noncomputable def gTup (K:Frag) (n:Nat) (t:TGs):TG:=fun v σ H Q=>∃a xs,v=.ref a∧SqT K H a xs∧xs.length=n∧t xs σ H Q
theorem pg_tup {es:List Expr}{k:Nat}{t:TGs}{n:Nat}(hc:X.calm=true) (h:PGs X es t)
  (hn:(assignEach es X.env).length=n:=by rfl) (hst:(assignEach es X.env).findIdx? (·.1)=none:=by rfl):PG X (.Tuple es k pos) (gTup X.K n t):=by
 intro pins s σ H v u Q I r hw
 obtain⟨a,xs,e1,hq,hl,hw⟩:=hw
 subst e1
 cases r
 obtain⟨its,rv,ht,hz⟩:=I.tuple hq
 refine assign_Tuple_tuple (I.ok.hd hc) ht (by simp[hn,←hl,rv.length]) hst fun h' hx=>?_
 have I1:Inv X pins σ H {s with heap:=h'}:=I.kept (t':=s.toks) fun b o e=>hx b o (Nat.ne_of_lt (Heap.lt_size e)) e
 exact h pins _ σ H xs _ Q I1 (by simpa using rv) hw
noncomputable def tAsg (te:TE) (g:TG):TS:=fun D σ H=>te σ H fun x H1=>g x σ H1 D.nx
theorem ps_set {i:Nat}{x:Str}{e:Expr}{te:TE}{pos':Pos}(hN:X.N.Nodup) (hi:X.N[i]?=some x) (hx:Loc X.env.scope x) (he:PE X e te) (hs:swapsWith e (some (.Name x pos')) pos.line X.env=pure false:=by rfl) (hf:X.fn x=true∨X.env.scope.names.lookup x=some .local:=by first|exact .inl rfl|exact .inr rfl|assumption):
  PS X (.Assign [.Name x pos'] e pos) (tAsg te (gName i)):=by
 intro pins s σ H D I h
 refine wpAny_Assign_Name (thn (he pins s σ H _ I h) fun v s1 ⟨y,H1,I1,r1,q1⟩=>?_) hs
 exact store_ok I1 hN hi hx r1 (fun s2 I2=>⟨_,H1,I2,q1⟩) hf
end
section
variable{X:Cx}{pos:Pos}
end
structure It where
 go:Nat→Hp→Prop
 yld:Nat→Hp→V→Hp→Prop
 stop:Nat→Hp→Prop
noncomputable def FpOk (X:Cx) (pins:List (Addr×Obj)) (H:Hp) (b:Addr):Prop:=
 H b=none∧b≠X.env.locals∧b∉X.fs∧(b∈X.ex∨X.s₀.heap.objs.size≤b)∧(∀x c,X.env.cells.lookup x=some c→c≠b)∧∀p∈X.pn++pins,p.1≠b
theorem Inv.fpOk {X:Cx}{pins:List (Addr×Obj)}{σ:St}{H H':Hp}{s:Shared}{b:Addr}(I:Inv X pins σ H s) (hb:s.heap.objs.size≤b) (hn:H' b=none):FpOk X pins H' b:=by
 refine⟨hn,Nat.ne_of_gt (Nat.lt_of_lt_of_le I.lt hb),I.nofs hb,.inr (Nat.le_trans I.sz hb),fun x c e z=>?_,fun p hp z=>?_⟩
 ·obtain⟨v,q⟩:=I.cell x c e
  exact absurd (Nat.lt_of_lt_of_le q.lt (by rw[z];exact hb)) (Nat.lt_irrefl _)
 ·exact absurd (Nat.lt_of_lt_of_le (Heap.lt_size (I.pin p hp).1) (by rw[z];exact hb)) (Nat.lt_irrefl _)
structure Turn (P:Program) (w:World) (K:Frag) (tg:Expr) (J:It) (fp:List Addr) (it:Addr) (tn:Nat→Heap→Prop):Prop where
 mem:it∈fp
 obj:∀i h,tn i h→∀b∈fp,∃o,h.get? b=some o∧∀v,o.data≠.cell v
 keep:∀i h h',tn i h→(∀b∈fp,∀o,h.get? b=some o→h'.get? b=some o)→tn i h'
 item:∀(X:Cx),X.prog=P→X.w=w→X.K=K→X.calm=true→∀(i:Nat) (pins:List (Addr×Obj)) (s:Shared) (σ:St) (H:Hp) (E:Value→Shared→Prop),Inv X pins σ H s→(∀b∈fp,FpOk X pins H b)→tn i s.heap→J.go i H→
  wpAny (model P w) X.A (pyNext (.ref it)) (fun r s1=>∃u,r=some u∧
   wpAny (model P w) X.A (letOwnedTupleGo tg (.ref it) u) (fun _ s2=>∃x H',Inv X pins σ H' s2∧RelV x u∧J.yld i H x H'∧tn (i+1) s2.heap∧∀b∈fp,H' b=none) E s1) E s
 done:∀(X:Cx),X.prog=P→X.w=w→X.K=K→X.calm=true→∀(i:Nat) (pins:List (Addr×Obj)) (s:Shared) (σ:St) (H:Hp) (E:Value→Shared→Prop),Inv X pins σ H s→(∀b∈fp,FpOk X pins H b)→tn i s.heap→J.stop i H→
  wpAny (model P w) X.A (pyNext (.ref it)) (fun r s1=>r=none∧Inv X pins σ H s1) E s
 self:∀(A:Around) (i:Nat) (s:Shared) (Q:Value→Shared→Prop) (E:Value→Shared→Prop),tn i s.heap→Q (.ref it) s→wpAny (model P w) A (pyIter (.ref it)) Q E s
noncomputable abbrev TI:=St→Hp→(It→Hp→Prop)→Prop
noncomputable def PIE (X:Cx) (pins:List (Addr×Obj)) (σ:St) (tg:Expr) (R:It→Hp→Prop) (itv:Value) (s2:Shared):Prop:=
 ∃(it:Addr) (fp:List Addr) (tn:Nat→Heap→Prop) (J:It) (H':Hp),itv=.ref it∧Inv X pins σ H' s2∧Turn X.prog X.w X.K tg J fp it tn∧tn 0 s2.heap∧(∀b∈fp,FpOk X pins H' b)∧R J H'
noncomputable def PI (X:Cx) (tg iter:Expr) (wi:TI):Prop:=
 ∀(pins:List (Addr×Obj)) (s:Shared) (σ:St) (H:Hp) (R:It→Hp→Prop),Inv X pins σ H s→wi σ H R→
  wpAny (model X.prog X.w) X.A (eval iter X.env) (fun v s1=>wpAny (model X.prog X.w) X.A (pyIter v) (PIE X pins σ tg R) X.xe s1) X.xe s
theorem go_of {M:Model}{A:Around}{E:Value→Shared→Prop}{s:Shared}{tg:Expr}{it:Addr}{u:Value}{o:Obj}{n:String}{vs:Array Value}{Q:Unit→Shared→Prop}(ho:s.heap.get? it=some o) (hc:o.cls=.type n) (hd:o.data=.fields vs)
  (hn:["enumerate","zip","dict_itemiterator","dict_reverseitemiterator","odict_iterator","itertools.zip_longest","itertools.pairwise"].contains n=false) (hQ:Q () s):wpAny M A (letOwnedTupleGo tg (.ref it) u) Q E s:=by
 unfold letOwnedTupleGo
 cases tg<;>first
  |exact wpAny_pure hQ
  |(cases u<;>first
    |exact wpAny_pure hQ
    |(refine wpAny_bind (wpAny_load ho ?_)
      rw[hc,hd]
      show wpAny M A (if(["enumerate","zip","dict_itemiterator","dict_reverseitemiterator","odict_iterator","itertools.zip_longest","itertools.pairwise"].contains n&&vs[0]?==some (rawInt _))=true then _ else _) Q E s
      rw[if_neg (by intro h;rw[hn,Bool.false_and]at h;cases h)]
      exact wpAny_pure hQ))
noncomputable def Itl (K:Frag) (a:Addr):It:=
 ⟨fun i H=>∃xs x,SqL K H a xs∧xs[i]?=some x,fun i H x H'=>H'=H∧∀xs,SqL K H a xs→xs[i]?=some x,fun i H=>∃xs,SqL K H a xs∧xs.length≤i⟩
noncomputable def Itt (K:Frag) (a:Addr):It:=
 ⟨fun i H=>∃xs x,SqT K H a xs∧xs[i]?=some x,fun i H x H'=>H'=H∧∀xs,SqT K H a xs→xs[i]?=some x,fun i H=>∃xs,SqT K H a xs∧xs.length≤i⟩
noncomputable def Itr (lo:Int) (n:Nat):It:=⟨fun i _=>i<n,fun i H x H'=>H'=H∧x=.int (lo+i),fun i _=>n≤i⟩
theorem turn_list {P:Program}{w:World}{K:Frag}{tg:Expr}(a it:Addr):Turn P w K tg (Itl K a) [it] it (fun i h=>h.IsListIter it a i) where
 mem:=by simp
 obj:=fun i h st b hb=>by
  have e:b=it:=by simpa using hb
  subst e
  obtain⟨o,e,c,d⟩:=st
  exact⟨o,e,fun v z=>by rw[d]at z;cases z⟩
 keep:=fun i h h' st k=>st.at fun o e=>k it (by simp) o e
 item:=by
  intro X hP hw hK hc i pins s σ H E I hf st hg
  subst hP hw hK
  obtain⟨xs,x,hq,hx⟩:=hg
  obtain⟨its,rv,p,hz⟩:=I.list hq
  obtain⟨u,hu,ru⟩:=rv.get hx
  obtain⟨f0,f1,f2,f3,f4,f5⟩:=hf it (by simp)
  refine wpAny_pyNext_list_item st p.isList (x:=u) (by simpa using hu) fun h' st' sb=>?_
  have I1:Inv X pins σ H {s with heap:=h'}:=I.turned (t':=s.toks) (fun b o hb e=>(sb.2 b hb).trans e) f0 f1 f3 f4 f5
  obtain⟨o,e,c,d⟩:=id st'
  exact⟨u,rfl,go_of (s:={s with heap:=h'}) e c d (by decide) ⟨x,H,I1,ru,⟨rfl,fun ys hy=>by rw[I.list_inj hy hq];exact hx⟩,st',fun b hb=>(hf b hb).1⟩⟩
 done:=by
  intro X hP hw hK hc i pins s σ H E I hf st hg
  subst hP hw hK
  obtain⟨xs,hq,hx⟩:=hg
  obtain⟨its,rv,p,hz⟩:=I.list hq
  obtain⟨f0,f1,f2,f3,f4,f5⟩:=hf it (by simp)
  have hl:=rv.length
  exact wpAny_pyNext_list_end (I.ok.hd hc) st p.isList (by simp;omega) fun h' eb=>⟨rfl,I.turned (t':=s.toks) (fun b o hb e=>eb b o hb e) f0 f1 f3 f4 f5⟩
 self:=fun _ _ _ _ _ st h=>wpAny_pyIter_listiter st h
theorem turn_tuple {P:Program}{w:World}{K:Frag}{tg:Expr}(a it:Addr):Turn P w K tg (Itt K a) [it] it (fun i h=>h.IsTupleIter it a i) where
 mem:=by simp
 obj:=fun i h st b hb=>by
  have e:b=it:=by simpa using hb
  subst e
  obtain⟨o,e,c,d⟩:=st
  exact⟨o,e,fun v z=>by rw[d]at z;cases z⟩
 keep:=fun i h h' st k=>st.at fun o e=>k it (by simp) o e
 item:=by
  intro X hP hw hK hc i pins s σ H E I hf st hg
  subst hP hw hK
  obtain⟨xs,x,hq,hx⟩:=hg
  obtain⟨its,rv,p,hz⟩:=I.tuple hq
  obtain⟨u,hu,ru⟩:=rv.get hx
  obtain⟨f0,f1,f2,f3,f4,f5⟩:=hf it (by simp)
  refine wpAny_pyNext_tuple_item st (show s.heap.IsTuple a its.toArray from p) (x:=u) (by simpa using hu) fun h' st' sb=>?_
  have I1:Inv X pins σ H {s with heap:=h'}:=I.turned (t':=s.toks) (fun b o hb e=>(sb.2 b hb).trans e) f0 f1 f3 f4 f5
  obtain⟨o,e,c,d⟩:=id st'
  exact⟨u,rfl,go_of (s:={s with heap:=h'}) e c d (by decide) ⟨x,H,I1,ru,⟨rfl,fun ys hy=>by rw[I.tuple_inj hy hq];exact hx⟩,st',fun b hb=>(hf b hb).1⟩⟩
 done:=by
  intro X hP hw hK hc i pins s σ H E I hf st hg
  subst hP hw hK
  obtain⟨xs,hq,hx⟩:=hg
  obtain⟨its,rv,p,hz⟩:=I.tuple hq
  obtain⟨f0,f1,f2,f3,f4,f5⟩:=hf it (by simp)
  have hl:=rv.length
  exact wpAny_pyNext_tuple_end (I.ok.hd hc) st (show s.heap.IsTuple a its.toArray from p) (by simp;omega) fun h' eb=>⟨rfl,I.turned (t':=s.toks) (fun b o hb e=>eb b o hb e) f0 f1 f3 f4 f5⟩
 self:=fun _ _ _ _ _ st h=>wpAny_pyIter_tupleiter st h
theorem turn_range {P:Program}{w:World}{K:Frag}{tg:Expr}(it:Addr) (lo:Int) (n:Nat):Turn P w K tg (Itr lo n) [it] it (fun i h=>IsRangeIter h it (lo+(i:Nat)*1) ((n:Int) - (i:Nat)) 1) where
 mem:=by simp
 obj:=fun i h st b hb=>by
  have e:b=it:=by simpa using hb
  subst e
  exact⟨_,st,fun v z=>by
   have z':Data.fields _=Data.cell v:=z
   cases z'⟩
 keep:=fun i h h' st k=>k it (by simp) _ st
 item:=by
  intro X hP hw hK hc i pins s σ H E I hf st hg
  subst hP hw hK
  obtain⟨f0,f1,f2,f3,f4,f5⟩:=hf it (by simp)
  have W:=Walks.range (prog:=X.prog) (w:=X.w) (I.ok.hd hc) it lo 1 n
  refine W.item i s _ _ hg st fun v h' tk hv st' kk=>?_
  obtain⟨t,rfl⟩:=hv
  have I1:Inv X pins σ H {s with heap:=h',toks:=tk}:=I.turned (fun b o hb e=>kk b o (by simpa using hb) e) f0 f1 f3 f4 f5
  refine⟨_,rfl,go_of (s:={s with heap:=h',toks:=tk}) (n:="range_iterator") st' rfl rfl (by decide) ⟨.int (lo+i),H,I1,⟨t,?_⟩,⟨rfl,rfl⟩,st',fun b hb=>(hf b hb).1⟩⟩
  rw[Int.mul_one]
 done:=by
  intro X hP hw hK hc i pins s σ H E I hf st hg
  subst hP hw hK
  obtain⟨f0,f1,f2,f3,f4,f5⟩:=hf it (by simp)
  exact wpAny_pyNext_range_end (I.ok.hd hc) st (by have:n≤i:=hg;omega) fun h' eb=>⟨rfl,I.turned (t':=s.toks) (fun b o hb e=>eb b o hb e) f0 f1 f3 f4 f5⟩
 self:=fun _ _ _ _ _ st h=>wpAny_pyIter_rangeiter st h
end L2
namespace L2
open PySem PySem.Spec PyProof.Rows
section
variable{X:Cx}{tg:Expr}
noncomputable def iList (K:Frag) (tl:TE):TI:=fun σ H R=>tl σ H fun x H1=>∃a,x=.ref a∧(∃xs,SqL K H1 a xs)∧R (Itl K a) H1
noncomputable def iTup (K:Frag) (tl:TE):TI:=fun σ H R=>tl σ H fun x H1=>∃a,x=.ref a∧(∃xs,SqT K H1 a xs)∧R (Itt K a) H1
theorem pi_list {l:Expr}{tl:TE}(hl:PE X l tl):PI X tg l (iList X.K tl):=by
 intro pins s σ H R I h
 refine thn (hl pins s σ H _ I h) fun v s1 ⟨x,H1,I1,r1,q1⟩=>?_
 obtain⟨a,e,⟨xs,hq⟩,q⟩:=q1
 subst e
 cases r1
 obtain⟨its,rv,p,hz⟩:=I1.list hq
 refine wpAny_pyIter_list p.isList ?_
 refine⟨s1.heap.objs.size,[s1.heap.objs.size],_,_,H1,rfl,I1.kept (t':=s1.toks) fun b o e=>Heap.get?_push_of_some _ e,turn_list a _,⟨_,Heap.get?_push_size _ rfl,rfl,rfl⟩,fun b hb=>?_,q⟩
 have e:b=s1.heap.objs.size:=by simpa using hb
 subst e
 exact I1.fpOk (Nat.le_refl _) (I1.hok.fresh (Nat.le_refl _))
theorem pi_tup {l:Expr}{tl:TE}(hl:PE X l tl):PI X tg l (iTup X.K tl):=by
 intro pins s σ H R I h
 refine thn (hl pins s σ H _ I h) fun v s1 ⟨x,H1,I1,r1,q1⟩=>?_
 obtain⟨a,e,⟨xs,hq⟩,q⟩:=q1
 subst e
 cases r1
 obtain⟨its,rv,p,hz⟩:=I1.tuple hq
 refine wpAny_pyIter_tuple (show s1.heap.IsTuple a its.toArray from p) ?_
 refine⟨s1.heap.objs.size,[s1.heap.objs.size],_,_,H1,rfl,I1.kept (t':=s1.toks) fun b o e=>Heap.get?_push_of_some _ e,turn_tuple a _,⟨_,Heap.get?_push_size _ rfl,rfl,rfl⟩,fun b hb=>?_,q⟩
 have e:b=s1.heap.objs.size:=by simpa using hb
 subst e
 exact I1.fpOk (Nat.le_refl _) (I1.hok.fresh (Nat.le_refl _))
theorem range_it {pins:List (Addr×Obj)}{σ:St}{H:Hp}{s:Shared}{R:It→Hp→Prop}{E:Value→Shared→Prop}{lo hi:Int}{t u v:Tok}{tk:Nat}(I:Inv X pins σ H s) (h1: -(2 ^ 62)≤lo) (h2:lo<2 ^ 62) (h3: -(2 ^ 62)≤hi) (h4:hi<2 ^ 62)
  (q:R (Itr lo (hi - lo).toNat) H):wpAny (model X.prog X.w) X.A (pyIter (.ref s.heap.objs.size)) (PIE X pins σ tg R) E {s with heap:=s.heap.push {cls:=.type "range",data:=.fields #[.int lo t,.int hi u,.int 1 v]},toks:=tk}:=by
 refine wpAny_pyIter_range (IsRange.new ..) (small_one h1 h2 h3 h4) ?_
 have I1:Inv X pins σ H {s with heap:=s.heap.push {cls:=.type "range",data:=.fields #[.int lo t,.int hi u,.int 1 v]},toks:=tk}:=I.kept fun b o e=>Heap.get?_push_of_some _ e
 refine⟨(s.heap.push {cls:=.type "range",data:=.fields #[.int lo t,.int hi u,.int 1 v]}).objs.size,[(s.heap.push {cls:=.type "range",data:=.fields #[.int lo t,.int hi u,.int 1 v]}).objs.size],_,_,H,rfl,
  I1.kept (t':=tk) fun b o e=>Heap.get?_push_of_some _ e,turn_range _ lo (hi - lo).toNat,?_,fun b hb=>?_,q⟩
 ·have e1:lo+((0:Nat):Int)*1=lo:=by simp
  have e2:(((hi - lo).toNat:Nat):Int) - ((0:Nat):Int)=Builtin.Range.rangeSize lo hi 1:=by rw[rangeSize_one];split<;>omega
  show IsRangeIter _ _ (lo+((0:Nat):Int)*1) ((((hi - lo).toNat:Nat):Int) - ((0:Nat):Int)) 1
  rw[e1,e2]
  exact Heap.get?_push_size _ rfl
 ·have e:b=(s.heap.push {cls:=.type "range",data:=.fields #[.int lo t,.int hi u,.int 1 v]}).objs.size:=by simpa using hb
  subst e
  exact I1.fpOk (Nat.le_refl _) (I1.hok.fresh (Nat.le_refl _))
noncomputable def iRng1 (ta:TA):TI:=fun σ H R=>ta σ H fun vs H1=>∃j:Int,vs=[.int j]∧ -(2 ^ 62)≤j∧j<2 ^ 62∧R (Itr 0 j.toNat) H1
theorem pi_range1 {a:Expr}{ta:TA}{p pos:Pos}(hg:Gl X "range") (hm:X.mg "range"=none) (ha:PA X [a] ta) (hs:starEach [a] X.env=[(false,eval a X.env)]:=by rfl):PI X tg (.Call (.Name "range" p) [a] [] pos) (iRng1 ta):=by
 intro pins s σ H R I h
 refine Call_ (ld_blt I hg hm boot_range (PyProof.Rows.callWith_type1 (thn (ha pos pins s σ H _ I h) fun us s1 ⟨vs,H1,I1,r1,q1⟩=>?_) hs rfl))
 obtain⟨j,e,q1,q2,q⟩:=q1
 subst e
 cases r1 with
 |cons r rr=>
  cases rr
  obtain⟨t,rfl⟩:=r
  exact call_range_1 (range_it I1 (by omega) (by omega) q1 q2 (by simpa using q))
noncomputable def tFor (wi:TI) (g:TG) (tb:TS):TS:=fun D σ H=>wi σ H fun J H1=>∃W:Nat→Nat→St→Hp→Prop,(∃m,W 0 m σ H1)∧∀i m σ H,W i m σ H→
 (J.stop i H∧D.nx σ H)∨(J.go i H∧∃N:St→Hp→Prop,(∀σ' H',N σ' H'→∃m',m'<m∧W (i+1) m' σ' H')∧∀x H',J.yld i H x H'→g x σ H' fun σ2 H2=>tb {D with nx:=N,ct:=N,bk:=D.nx} σ2 H2)
noncomputable def pinsAt (fp:List Addr) (h:Heap):List (Addr×Obj):=fp.filterMap fun b=>(h.get? b).map fun o=>(b,o)
theorem mem_pinsAt {fp:List Addr}{h:Heap}{b:Addr}{o:Obj}(hb:b∈fp) (e:h.get? b=some o):(b,o)∈pinsAt fp h:=List.mem_filterMap.mpr ⟨b,hb,by rw[e];rfl⟩
theorem of_pinsAt {fp:List Addr}{h:Heap}{p:Addr×Obj}(hp:p∈pinsAt fp h):p.1∈fp∧h.get? p.1=some p.2:=by
 obtain⟨b,hb,e⟩:=List.mem_filterMap.mp hp
 cases q:h.get? b with
 |none=>rw[q]at e;cases e
 |some o=>
  rw[q]at e
  have e':(b,o)=p:=Option.some.inj e
  subst e'
  exact⟨hb,q⟩
theorem Inv.pinned {pins:List (Addr×Obj)}{σ:St}{H:Hp}{s:Shared}{fp:List Addr}(I:Inv X pins σ H s) (hf:∀b∈fp,FpOk X pins H b) (ho:∀b∈fp,∃o,s.heap.get? b=some o∧∀v,o.data≠.cell v):Inv X (pins++pinsAt fp s.heap) σ H s:=
 I.pins_of fun p hp=>(List.mem_append.mp hp).elim (fun z=>I.pin p (List.mem_append_right _ z)) fun z=>by
  obtain⟨hb,e⟩:=of_pinsAt z
  obtain⟨f0,f1,f2,_⟩:=hf p.1 hb
  obtain⟨o,e',d⟩:=ho p.1 hb
  rw[e]at e';cases e'
  exact⟨e,f0,f1,f2,d⟩
theorem Inv.unpinned {pins pl:List (Addr×Obj)}{σ:St}{H:Hp}{s:Shared}(I:Inv X (pins++pl) σ H s):Inv X pins σ H s:=I.pins_of fun p hp=>I.pin p (List.mem_append_right _ (List.mem_append_left _ hp))
theorem ps_for {iter:Expr}{body:List Stmt}{wi:TI}{g:TG}{tb:TS}{pos:Pos}(hp:PassesOwn (model X.prog X.w) X.A X.env X.xe) (hc:X.calm=true) (hi:PI X tg iter wi) (hg:PG X tg g) (hb:PSs X body tb)
  (hs:∀x,foldedSetIterable iter X.env x=pure x:=by intro _;rfl):PS X (.For tg iter body [] pos) (tFor wi g tb):=by
 intro pins s σ H D I h
 refine wpAny_For (thn (hi pins s σ H _ I h) fun v s1 h1=>thn h1 fun itv s2 h2=>?_) hs
 obtain⟨it,fp,tn,J,H2,e,I2,T,st2,f2,W,⟨m0,w0⟩,turn⟩:=h2
 subst e
 have stat:∀{H':Hp},(∀b∈fp,H' b=none)→∀b∈fp,FpOk X pins H' b:=fun hn b hb=>⟨hn b hb,(f2 b hb).2⟩
 refine codeAny_forLoop_any (fun n s'=>∃i σ' H',Inv X pins σ' H' s'∧tn i s'.heap∧(∀b∈fp,H' b=none)∧W i n σ' H') ?_ m0 ⟨0,σ,H2,I2,st2,fun b hb=>(f2 b hb).1,w0⟩
 rintro n s3 ⟨i,σ3,H3,I3,st3,fr3,w3⟩
 rcases turn i n σ3 H3 w3 with⟨stop,qn⟩|⟨go,N,hN,step⟩
 ·refine wpAny_passesOwn hp (thn (T.done X rfl rfl rfl hc i pins s3 σ3 H3 X.xe I3 (stat fr3) st3 stop) fun r s4 ⟨hr,I4⟩=>?_)
  subst hr
  exact wpAny_execs_nil ⟨σ3,H3,I4,qn⟩
 ·refine wpAny_passesOwn hp (thn (T.item X rfl rfl rfl hc i pins s3 σ3 H3 X.xe I3 (stat fr3) st3 go) fun r s4 ⟨u,hr,h4⟩=>?_)
  subst hr
  refine wpAny_passesOwn hp (thn h4 fun _ s5 ⟨x,H5,I5,r5,y5,st5,fr5⟩=>?_)
  have I5':=I5.pinned (stat fr5) (T.obj _ _ st5)
  refine wpAny_passesOwn hp (thn (hg _ s5 σ3 H5 x u _ I5' r5 (step x H5 y5)) fun _ s6 ⟨σ6,H6,I6,q6⟩=>?_)
  refine wpAny_passesOwn hp (thn (hb _ s6 σ6 H6 _ I6 q6) fun f s7 q7=>?_)
  have again:∀{σ7:St}{H7:Hp},Inv X (pins++pinsAt fp s5.heap) σ7 H7 s7→N σ7 H7→∃m,m<n∧∃i σ' H',Inv X pins σ' H' s7∧tn i s7.heap∧(∀b∈fp,H' b=none)∧W i m σ' H':=fun{σ7 H7} I7 n7=>by
   obtain⟨m',hm,w7⟩:=hN σ7 H7 n7
   refine⟨m',hm,i+1,σ7,H7,I7.unpinned,T.keep _ _ _ st5 fun b hb o e=>(I7.pin (b,o) (List.mem_append_right _ (List.mem_append_right _ (mem_pinsAt hb e)))).1,fun b hb=>?_,w7⟩
   obtain⟨o,e,d⟩:=T.obj _ _ st5 b hb
   exact(I7.pin (b,o) (List.mem_append_right _ (List.mem_append_right _ (mem_pinsAt hb e)))).2.1
  cases f with
  |next=>obtain⟨σ7,H7,I7,n7⟩:=q7;exact again I7 n7
  |cont=>obtain⟨σ7,H7,I7,n7⟩:=q7;exact again I7 n7
  |brk=>obtain⟨σ7,H7,I7,q7⟩:=q7;exact⟨σ7,H7,I7.unpinned,q7⟩
  |ret v=>obtain⟨x7,σ7,H7,I7,r7,q7⟩:=q7;exact⟨x7,σ7,H7,I7.unpinned,r7,q7⟩
end
end L2
namespace L2
open PySem PySem.Spec PyProof.Rows
noncomputable abbrev R2:=V→V→Hp→VK→Prop
noncomputable def OpR (X:Cx) (f:Value→Value→Sem Value) (r:R2):Prop:=
 ∀(pins:List (Addr×Obj)) (s:Shared) (σ:St) (H:Hp) (x y:V) (v u:Value) (Q:VK),Inv X pins σ H s→RelV x v→RelV y u→r x y H Q→
  wpAny (model X.prog X.w) X.A (f v u) (EP X pins σ Q) X.xe s
noncomputable def CallR (X:Cx) (f:Value) (r:List V→Hp→VK→Prop):Prop:=
 ∀(pins:List (Addr×Obj)) (s:Shared) (σ:St) (H:Hp) (xs:List V) (us:List Value) (Q:VK),Inv X pins σ H s→Vals xs us→r xs H Q→
  wpAny (model X.prog X.w) X.A (call f us) (EP X pins σ Q) X.xe s
noncomputable def tOp (r:R2) (ta tb:TE):TE:=fun σ H Q=>ta σ H fun x H1=>tb σ H1 fun y H2=>r x y H2 Q
noncomputable def rI (C:Int→Int→Prop) (g:Int→Int→V):R2:=fun x y H Q=>∃i j,x=.int i∧y=.int j∧C i j∧Q (g i j) H
noncomputable def rI0 (g:Int→Int→V):R2:=fun x y H Q=>∃i j,x=.int i∧y=.int j∧Q (g i j) H
section
variable{X:Cx}{a b c:Expr}{ta tb tc:TE}{pos:Pos}
theorem binT (ha:PE X a ta) (hb:PE X b tb) {pins:List (Addr×Obj)}{s:Shared}{σ:St}{H:Hp}{R:V→V→Hp→Prop}(I:Inv X pins σ H s)
  (h:ta σ H fun x H1=>tb σ H1 fun y H2=>R x y H2) {Q:Value→Shared→Prop}{f:Value→Value→Sem Value}
  (hf:∀v u s2 x y H2,Inv X pins σ H2 s2→RelV x v→RelV y u→R x y H2→wpAny (model X.prog X.w) X.A (f v u) Q X.xe s2):
  wpAny (model X.prog X.w) X.A (eval a X.env) (fun v s₁=>wpAny (model X.prog X.w) X.A (eval b X.env) (fun u s₂=>wpAny (model X.prog X.w) X.A (f v u) Q X.xe s₂) X.xe s₁) X.xe s:=by
 refine thn (ha pins s σ H _ I h) fun v s1 ⟨x,H1,I1,r1,q1⟩=>?_
 refine thn (hb pins s1 σ H1 _ I1 q1) fun u s2 ⟨y,H2,I2,r2,q2⟩=>?_
 exact hf v u s2 x y H2 I2 r1 r2 q2
theorem pe_op {op:Operator}{r:R2}(ho:OpR X (binaryOp op) r) (ha:PE X a ta) (hb:PE X b tb):PE X (.BinOp a op b pos) (tOp r ta tb):=by
 intro pins s σ H Q I h
 exact wpAny_BinOp (binT ha hb I h fun v u s2 x y H2 I2 rx ry q=>ho pins s2 σ H2 x y v u Q I2 rx ry q)
theorem opI {f:Value→Value→Sem Value}{C:Int→Int→Prop}{g:Int→Int→Int}
  (rule:∀(i j:Int) (t u:Tok) (s:Shared) (Q:Value→Shared→Prop) (E:Value→Shared→Prop),C i j→Q (.int (g i j) s.toks) {s with toks:=s.toks+1}→wpAny (model X.prog X.w) X.A (f (.int i t) (.int j u)) Q E s):
  OpR X f (rI C fun i j=>.int (g i j)):=by
 intro pins s σ H x y v u Q I rx ry h
 obtain⟨i,j,rfl,rfl,hc,q⟩:=h
 obtain⟨t,rfl⟩:=rx
 obtain⟨t',rfl⟩:=ry
 exact rule i j t t' s _ _ hc ⟨.int (g i j),H,I.tok _,⟨_,rfl⟩,q⟩
theorem opI0 {f:Value→Value→Sem Value}{g:Int→Int→Int}
  (rule:∀(i j:Int) (t u:Tok) (s:Shared) (Q:Value→Shared→Prop) (E:Value→Shared→Prop),Q (.int (g i j) s.toks) {s with toks:=s.toks+1}→wpAny (model X.prog X.w) X.A (f (.int i t) (.int j u)) Q E s):
  OpR X f (rI0 fun i j=>.int (g i j)):=by
 intro pins s σ H x y v u Q I rx ry h
 obtain⟨i,j,rfl,rfl,q⟩:=h
 obtain⟨t,rfl⟩:=rx
 obtain⟨t',rfl⟩:=ry
 exact rule i j t t' s _ _ ⟨.int (g i j),H,I.tok _,⟨_,rfl⟩,q⟩
theorem opB0 {f:Value→Value→Sem Value}{g:Int→Int→Bool}
  (rule:∀(i j:Int) (t u:Tok) (s:Shared) (Q:Value→Shared→Prop) (E:Value→Shared→Prop),Q (.bool (g i j)) s→wpAny (model X.prog X.w) X.A (f (.int i t) (.int j u)) Q E s):
  OpR X f (rI0 fun i j=>.bl (g i j)):=by
 intro pins s σ H x y v u Q I rx ry h
 obtain⟨i,j,rfl,rfl,q⟩:=h
 obtain⟨t,rfl⟩:=rx
 obtain⟨t',rfl⟩:=ry
 exact rule i j t t' s _ _ ⟨.bl (g i j),H,I,rfl,q⟩
noncomputable def CDiv (i j:Int):Prop:=0<j∧j<1073741824
noncomputable def CMul (i j:Int):Prop:=(-(2 ^ 64)<i∧i<2 ^ 64)∨(-(2 ^ 64)<j∧j<2 ^ 64)
theorem CMul.ok {i j:Int}(h:CMul i j):IntMulOk i j:=by
 rcases h with⟨h1,h2⟩|⟨h1,h2⟩
 ·exact .of_left (intBits_le_64 h1 h2)
 ·exact .of_right (intBits_le_64 h1 h2)
theorem op_add:OpR X (binaryOp .Add) (rI0 fun i j=>.int (i+j)):=opI0 fun _ _ _ _ _ _ _ q=>add_int q
theorem op_mul:OpR X (binaryOp .Mult) (rI CMul fun i j=>.int (i*j)):=opI fun _ _ _ _ _ _ _ hc q=>mul_int q hc.ok
theorem op_fdiv:OpR X (binaryOp .FloorDiv) (rI CDiv fun i j=>.int (i / j)):=opI fun i j _ _ _ _ _ hc q=>by
 have h1:(0:Int)<j:=hc.1
 have h2:j<1073741824:=hc.2
 exact floordiv_int (by omega) (by rw[Int.fdiv_eq_ediv_of_nonneg i (by omega)];exact q) (.inl (PyProof.noPylong_small (by omega)))
theorem op_mod:OpR X (binaryOp .Mod) (rI (fun _ j=>0<j) fun i j=>.int (i%j)):=opI fun i j _ _ _ _ _ hc q=>by
 have h1:(0:Int)<j:=hc
 exact mod_int' (by omega) (by rw[Int.fmod_eq_emod_of_nonneg i (by omega)];exact q)
end
section
variable{X:Cx}{a b c:Expr}{ta tb tc:TE}{pos:Pos}
theorem fin_bl {pins:List (Addr×Obj)}{σ:St}{H:Hp}{s:Shared}{Q:VK}{k k':Bool}(I:Inv X pins σ H s) (q:Q (.bl k) H) (e:k=k'):EP X pins σ Q (.bool k') s:=by
 subst e
 exact⟨.bl k,H,I,rfl,q⟩
theorem op_lt:OpR X (compareOp .Lt) (rI0 fun i j=>.bl (decide (i<j))):=opB0 fun _ _ _ _ _ _ _ q=>lt_int q
theorem op_le:OpR X (compareOp .LtE) (rI0 fun i j=>.bl (decide (i≤j))):=opB0 fun _ _ _ _ _ _ _ q=>le_int q
theorem op_gt:OpR X (compareOp .Gt) (rI0 fun i j=>.bl (decide (j<i))):=opB0 fun _ _ _ _ _ _ _ q=>gt_int q
theorem op_in_str:OpR X (compareOp .In) (fun x y H Q=>∃i j,x=.str i∧y=.str j∧Q (.bl (!(Builtin.Str.occurrences j i 0 j.length 1).isEmpty)) H):=by
 intro pins s σ H x y v u Q I rx ry h
 obtain⟨i,j,rfl,rfl,q⟩:=h
 obtain⟨t,rfl⟩:=rx
 obtain⟨t',rfl⟩:=ry
 exact in_str (fin_bl I q rfl)
theorem op_isN:OpR X (compareOp .Is) (fun x y H Q=>y=.non∧Q (.bl (decide (x=.non))) H):=by
 intro pins s σ H x y v u Q I rx ry h
 obtain⟨rfl,q⟩:=h
 cases ry
 refine is_none_gen (fin_bl I q ?_)
 cases x<;>first
  |(cases rx;rfl)
  |(obtain⟨t,rfl⟩:=rx;rfl)
theorem op_notN:OpR X (compareOp .IsNot) (fun x y H Q=>y=.non∧Q (.bl (!decide (x=.non))) H):=by
 intro pins s σ H x y v u Q I rx ry h
 obtain⟨rfl,q⟩:=h
 cases ry
 refine isnot_none_gen (fin_bl I q ?_)
 cases x<;>first
  |(cases rx;rfl)
  |(obtain⟨t,rfl⟩:=rx;rfl)
theorem op_notin_str:OpR X (compareOp .NotIn) (fun x y H Q=>∃i j,x=.str i∧y=.str j∧Q (.bl (!(!(Builtin.Str.occurrences j i 0 j.length 1).isEmpty))) H):=by
 intro pins s σ H x y v u Q I rx ry h
 obtain⟨i,j,rfl,rfl,q⟩:=h
 obtain⟨t,rfl⟩:=rx
 obtain⟨t',rfl⟩:=ry
 exact notIn_str (fin_bl I q rfl)
theorem nomark (b:Expr) {op:CmpOp}(h:op≠.In:=by decide) (h2:op≠.NotIn:=by decide):behindInMarks op b=false:=by
 have e1:(op==CmpOp.In)=false:=by cases op<;>first|rfl|exact absurd rfl h
 have e2:(op==CmpOp.NotIn)=false:=by cases op<;>first|rfl|exact absurd rfl h2
 cases b<;>simp[behindInMarks,e1,e2]
theorem pe_cmpR {op:CmpOp}{r:R2}(ho:OpR X (compareOp op) r) (ha:PE X a ta) (hb:PE X b tb) (hm:behindInMarks op b=false):PE X (.Compare a [op] [b] pos) (tOp r ta tb):=by
 intro pins s σ H Q I h
 exact wpAny_Compare1 (binT ha hb I h fun v u s2 x y H2 I2 rx ry q=>ho pins s2 σ H2 x y v u Q I2 rx ry q) hm
noncomputable def tTest (t:TE):TT:=fun σ H Q=>t σ H fun x H'=>∃k,x=.bl k∧Q k H'
theorem pt_cmpR {op:CmpOp}{r:R2}(ho:OpR X (compareOp op) r) (ha:PE X a ta) (hb:PE X b tb) (hm:behindInMarks op b=false):PT X (.Compare a [op] [b] pos) (tTest (tOp r ta tb)):=by
 intro pins s σ H Q I h
 refine wpAny_isTrue_Compare1 (thn (ha pins s σ H _ I h) fun v s1 ⟨x,H1,I1,r1,q1⟩=>thn (hb pins s1 σ H1 _ I1 q1) fun u s2 ⟨y,H2,I2,r2,q2⟩=>
  thn (ho pins s2 σ H2 x y v u _ I2 r1 r2 q2) fun c s3 ⟨z,H3,I3,r3,k,e,q3⟩=>?_) hm
 subst e
 cases r3
 exact wpAny_truthy_bool ⟨H3,I3,q3⟩
noncomputable def tChain (r r':R2) (ta tb tc:TE):TE:=fun σ H Q=>ta σ H fun x H1=>tb σ H1 fun y H2=>r x y H2 fun z H3=>∃k,z=.bl k∧
 (if k=true then tc σ H3 fun w' H4=>r' y w' H4 Q else Q (.bl false) H3)
theorem pe_chain {op op':CmpOp}{r r':R2}(ho:OpR X (compareOp op) r) (ho':OpR X (compareOp op') r') (ha:PE X a ta) (hb:PE X b tb) (hc:PE X c tc)
  (hm:lastMarks [op,op'] [b,c]=false:=by with_unfolding_all rfl):PE X (.Compare a [op,op'] [b,c] pos) (tChain r r' ta tb tc):=by
 intro pins s σ H Q I h
 refine Compare_chain (thn (ha pins s σ H _ I h) fun v s1 ⟨x,H1,I1,r1,q1⟩=>chain_link (thn (hb pins s1 σ H1 _ I1 q1) fun u s2 ⟨y,H2,I2,r2,q2⟩=>
  thn (ho pins s2 σ H2 x y v u _ I2 r1 r2 q2) fun d s3 ⟨z,H3,I3,r3,k,e,q3⟩=>?_)) hm
 subst e
 cases r3
 refine wpAny_truthy_bool ?_
 cases k with
 |false=>exact ite_ff ⟨.bl false,H3,I3,rfl,q3⟩
 |true=>exact ite_tt (chain_last (thn (hc pins s3 σ H3 _ I3 q3) fun w' s4 ⟨z',H4,I4,r4,q4⟩=>ho' pins s4 σ H4 y z' u w' Q I4 r2 r4 q4))
theorem line63:(sizeLine:Nat)<2 ^ 63:=by rw[sizeLine_eq];decide
theorem op_add_str:OpR X (binaryOp .Add) (fun x y H Q=>∃i j,x=.str i∧y=.str j∧i.length+j.length≤sizeLine∧Q (.str (i++j)) H):=by
 intro pins s σ H x y v u Q I rx ry h
 obtain⟨i,j,rfl,rfl,hz,q⟩:=h
 obtain⟨t,rfl⟩:=rx
 obtain⟨t',rfl⟩:=ry
 exact add_str (fun t' tk=>⟨.str (i++j),H,I.tok _,⟨_,rfl⟩,q⟩) hz
theorem vals1 {x:V}{us:List Value}(r:Vals [x] us):∃u,us=[u]∧RelV x u:=by
 cases r with
 |cons r1 r2=>cases r2;exact⟨_,rfl,r1⟩
theorem vals2 {x y:V}{us:List Value}(r:Vals [x,y] us):∃u w',us=[u,w']∧RelV x u∧RelV y w':=by
 cases r with
 |cons r1 r2=>
  cases r2 with
  |cons r3 r4=>cases r4;exact⟨_,_,rfl,r1,r3⟩
theorem call_str_int:CallR X (.type "str") (fun xs H Q=>∃i,xs=[.int i]∧i.natAbs.log2<1920∧Q (.str (toString i)) H):=by
 intro pins s σ H xs us Q I r h
 obtain⟨i,rfl,hz,q⟩:=h
 obtain⟨u,rfl,t,rfl⟩:=vals1 r
 exact PySem.P.str_of_int hz ⟨.str _,H,I.tok _,⟨_,rfl⟩,q⟩
end
end L2
namespace L2
open PySem PySem.Spec PyProof.Rows
structure ObjM (h:Heap) (x dx C:Addr) (mA:Str→Option Value):Prop where
 obj:h.get? x=some (PySem.W.instObj C dx)
 ns:h.Ns1 dx mA
 ne:dx≠x
theorem lookIn_ns {h:Heap}{dx:Addr}{mA:Str→Option Value}(n:h.Ns1 dx mA):∃od,h.get? dx=some od∧∀name,PySem.W.lookIn name od=some (mA name):=by
 obtain⟨o,es,ep,ho,hd,hk,_,hm⟩:=n
 refine⟨o,ho,fun name=>?_⟩
 have e:=hm name
 unfold nsFind findBy at e
 rw[←Array.find?_toList]at e
 unfold PySem.W.lookIn
 rw[hd]
 dsimp only
 split
 ·rename_i y q
  rw[q]at e
  exact congrArg some e
 ·rename_i q
  rw[q]at e
  have a:es.toList.any (·.refKey)=false:=by
   rw[List.any_eq_false]
   intro y hy
   obtain⟨z,t,hkey⟩:=hk y (Array.mem_toList_iff.mp hy)
   simp[DictEntry.refKey,hkey]
  have a':¬es.toList.any (·.refKey)=true:=by rw[a];exact Bool.false_ne_true
  rw[if_neg a']
  exact congrArg some e
theorem ObjM.look {h:Heap}{x dx C:Addr}{mA:Str→Option Value}(I:ObjM h x dx C mA):∃od,PySem.W.InstAt h x (PySem.W.instObj C dx) C (some od)∧∀name,PySem.W.lookIn name od=some (mA name):=
 let ⟨od,ho,hl⟩:=lookIn_ns I.ns
 ⟨od,⟨I.obj,rfl,rfl,ho⟩,hl⟩
section
variable{prog:Program}{w:World}{A:Around}{E:Value→Shared→Prop}{s:Shared}{K:Frag}{x dx C f:Addr}{mA:Str→Option Value}{name:Str}{v:Value}
end
section
variable{P:Program}{w:World}{H H':Hp}{h h':Heap}{a C dx:Addr}{fs fs':List (Str×V)}
theorem ins_get (hok:HOk P w H h) (e:H a=some (.ins C dx fs)):∃mA,ObjM h a dx C mA∧(∀f,RelO (fs.lookup f) (mA f))∧PySem.Within mA (fs.map (·.1))∧fs.length≤1000∧H dx=some (.own a):=by
 obtain⟨d,z,ne,ob,mA,n,r,q⟩:=(show ObjOk P w H h a (.ins C dx fs) from hok a _ e)
 exact⟨mA,⟨ob,n,ne⟩,r,q,z,d⟩
end
structure Cls (K:Frag) (C:Addr):Prop where
 pg:PySem.W.plainGet K C Str.empty=true
 hd:PySem.W.hasDictIn K C=true
 po:PySem.W.plainOver K C=true
 sa:PySem.W.findIn K (.ref C) "__setattr__"=some (some (.builtin "object.__setattr__"))
theorem Cls.get {K:Frag}{C:Addr}(c:Cls K C) (f:Str):PySem.W.plainGet K C f=true:=c.pg
section
variable{X:Cx}{pins:List (Addr×Obj)}{σ:St}{H:Hp}{s:Shared}{a C dx:Addr}{fs:List (Str×V)}{f:Str}{v:V}{A:Around}{E:Value→Shared→Prop}
end
section
variable{X:Cx}{o e value:Expr}{f:Str}{pos pos' tpos:Pos}{ta tv:TE}
end
section
variable{X:Cx}{pins:List (Addr×Obj)}{σ:St}{H:Hp}{s:Shared}{A:Around}{E:Value→Shared→Prop}{Q:Value→Shared→Prop}{c:Value}{b:Bool}
inductive TyOf (K:Frag) (H:Hp):V→Value→Prop where
 |non:TyOf K H .non (.type "NoneType")
 |bl (x:Bool):TyOf K H (.bl x) (.type "bool")
 |int (i:Int):TyOf K H (.int i) (.type "int")
 |str (x:Str):TyOf K H (.str x) (.type "str")
 |flt (x:UInt64):TyOf K H (.flt x) (.type "float")
 |lst {a:Addr}{xs:List V}(e:H a=some (.lst xs)):TyOf K H (.ref a) (.type "list")
 |frz {a:Addr}{o:Obj}{xs:List V}(e:H a=some (.frz o (.lst xs))):TyOf K H (.ref a) (.type "list")
 |tup {a:Addr}{xs:List V}(e:H a=some (.tup xs)):TyOf K H (.ref a) (.type "tuple")
 |dK {a:Addr}{kvs:List (Key×V)}(e:H a=some (.dK kvs)):TyOf K H (.ref a) (.type "dict")
 |dT {a:Addr}{kvs:List (List Key×V)}(e:H a=some (.dT kvs)):TyOf K H (.ref a) (.type "dict")
 |ins {a C dx:Addr}{fs:List (Str×V)}(e:H a=some (.ins C dx fs)) (cl:Cls K C) (ha:PySem.W.findIn K (.ref C) "__class__"=some (some (.builtin "object.__class__")))
   (hn:PySem.W.specialIn K (.builtin "object.__class__") "__get__"=some (some (.builtin "getset_descriptor.__get__"))) (htk:PySem.W.takesIn K (.builtin "object.__class__")=some true)
   (hm:PySem.W.mroIn K C (.type "object")=some true):TyOf K H (.ref a) (.ref C)
theorem isinst_ok {x:V}{u t:Value}(I:Inv X pins σ H s) (rx:RelV x u) (ty:TyOf X.K H x t) (e:PySem.W.kitOne X.K t c=some b) (h:∀tk,Q (.bool b) {s with toks:=tk}):
  wpAny (model X.prog X.w) A (call (.builtin "isinstance") [u,c]) Q E s:=by
 cases ty with
 |non=>cases (show u=Value.none from rx);exact PySem.W.kia_one PySem.W.kitx_none I.kIn True.intro e (fun z=>nomatch z) h
 |bl y=>cases (show u=Value.bool y from rx);exact PySem.W.kia_one PySem.W.kitx_bool I.kIn True.intro e (fun z=>nomatch z) h
 |int i=>obtain⟨t,q⟩:=(show ∃t,u=Value.int i t from rx);cases q;exact PySem.W.kia_one PySem.W.kitx_int I.kIn True.intro e (fun z=>nomatch z) h
 |str y=>obtain⟨t,q⟩:=(show ∃t,u=Value.str y t from rx);cases q;exact PySem.W.kia_one PySem.W.kitx_str I.kIn True.intro e (fun z=>nomatch z) h
 |flt y=>obtain⟨t,q⟩:=(show ∃t,u=Value.float y t from rx);cases q;exact PySem.W.kia_one PySem.W.kitx_float I.kIn True.intro e (fun z=>nomatch z) h
 | @lst a xs ea=>
  cases (show u=Value.ref a from rx)
  obtain⟨_,_,n,_,h1⟩:=(show ObjOk X.prog X.w H s.heap a (.lst xs) from I.hok a _ ea)
  exact PySem.W.kia_one PySem.W.kitx_list I.kIn ⟨_,h1,rfl⟩ e (fun z=>nomatch z) h
 | @frz a ob xs ea=>
  cases (show u=Value.ref a from rx)
  obtain⟨_,_,_,n,_,h1⟩:=(show ObjOk X.prog X.w H s.heap a (.frz ob (.lst xs)) from I.hok a _ ea)
  exact PySem.W.kia_one PySem.W.kitx_list I.kIn ⟨_,h1,rfl⟩ e (fun z=>nomatch z) h
 | @tup a xs ea=>
  cases (show u=Value.ref a from rx)
  obtain⟨_,_,_,p⟩:=(show ObjOk X.prog X.w H s.heap a (.tup xs) from I.hok a _ ea)
  obtain⟨o,h1,h2,_⟩:=p
  exact PySem.W.kia_one PySem.W.kitx_tuple I.kIn ⟨o,h1,h2⟩ e (fun z=>nomatch z) h
 | @dK a kvs ea=>
  cases (show u=Value.ref a from rx)
  obtain⟨_,_,vs,_,p⟩:=(show ObjOk X.prog X.w H s.heap a (.dK kvs) from I.hok a _ ea)
  obtain⟨o,es,ep,h1,h2,_⟩:=p
  exact PySem.W.kia_one PySem.W.kitx_dict I.kIn ⟨o,h1,h2.1⟩ e (fun z=>nomatch z) h
 | @dT a kvs ea=>
  cases (show u=Value.ref a from rx)
  obtain⟨_,_,xs,_,o,es,ep,h1,h2,_⟩:=(show ObjOk X.prog X.w H s.heap a (.dT kvs) from I.hok a _ ea)
  exact PySem.W.kia_one PySem.W.kitx_dict I.kIn ⟨o,h1,h2.1⟩ e (fun z=>nomatch z) h
 | @ins a C dx fs ea cl ha hn htk hm=>
  cases (show u=Value.ref a from rx)
  obtain⟨mA,O,_⟩:=ins_get I.hok ea
  obtain⟨od,J,_⟩:=O.look
  exact PySem.W.kia_one (PySem.W.kitx_own (cl.get _) cl.hd ha hn htk hm) I.kIn J e (fun z=>nomatch z) h
end
end L2
namespace L2
open PySem PySem.Spec PyProof.Rows
structure Room (k:Nat) (A:Around):Prop where
 hd:A.handled=none
 dp:A.depth+3*k+5<recursionLimit
 un:A.units+16*k+200<cLine
theorem Room.mono {j k:Nat}{A:Around}(r:Room k A) (h:j≤k):Room j A:=⟨r.hd,by have:=r.dp;omega,by have:=r.un;omega⟩
theorem Room.deeper {k:Nat}{A:Around}(r:Room (k+1) A) (env:Env):Room k (A.deeper env):=
 ⟨r.hd,by have:=r.dp;show A.depth+1+3*k+5<_;omega,by have:=r.un;show A.units+3+16*k+200<_;omega⟩
theorem Room.depth {k:Nat}{A:Around}(r:Room k A):A.depth<recursionLimit:=by have:=r.dp;omega
theorem Room.units {k:Nat}{A:Around}(r:Room k A):A.units+64<cLine:=by have:=r.un;omega
noncomputable def tNil:TA:=fun _ H Q=>Q [] H
noncomputable def tCons (ta:TE) (tr:TA):TA:=fun σ H Q=>ta σ H fun x H1=>tr σ H1 fun xs H2=>Q (x::xs) H2
section
variable{X:Cx}{e:Expr}{es:List Expr}{te:TE}{t:TA}{pos:Pos}
theorem pa_nil:PA X [] tNil:=fun _ _ _ _ H Q I h=>Calls.spliced_nil ⟨[],H,I,.nil,h⟩
theorem pa_cons (ha:PE X e te) (hr:PA X es t) (hs:starEach (e::es) X.env=(false,eval e X.env)::starEach es X.env:=by rfl):PA X (e::es) (tCons te t):=by
 intro pos pins s σ H Q I h
 rw[hs]
 show wpAny _ _ (spliced ((false,eval e X.env)::backTo pos (starEach es X.env))) _ _ s
 refine Calls.spliced_cons (thn (ha pins s σ H _ I h) fun u s1 ⟨x,H1,I1,r1,q1⟩=>?_)
 exact thn (hr pos pins s1 σ H1 _ I1 q1) fun us s2 ⟨xs,H2,I2,r2,q2⟩=>⟨x::xs,H2,I2,.cons r1 r2,q2⟩
noncomputable def tTup (t:TA):TE:=fun σ H Q=>t σ H fun xs H1=>xs.length≤sizeLine∧∀p,H1 p=none→Q (.ref p) (upd H1 p (.tup xs))
noncomputable def tLst (t:TA):TE:=fun σ H Q=>t σ H fun xs H1=>xs.length≤sizeLine∧∀p,H1 p=none→Q (.ref p) (upd H1 p (.lst xs))
theorem pe_tup {x1} (h:PA X es t):PE X (.Tuple es x1 pos) (tTup t):=by
 intro pins s σ H Q I hq
 refine wpAny_Tuple_spliced (thn (h pos pins s σ H _ I hq) fun us s1 ⟨xs,H1,I1,r,z,q⟩=>⟨by rw[←r.length];exact z,?_⟩)
 have hf:H1 s1.heap.objs.size=none:=I1.hok.fresh (Nat.le_refl _)
 refine⟨.ref s1.heap.objs.size,upd H1 s1.heap.objs.size (.tup xs),I1.laid (t':=s1.toks) (fun b u e=>Heap.get?_push_of_some _ e) (Nat.le_refl _) ?_,rfl,q _ hf⟩
 exact⟨z,us,r,⟨_,Heap.get?_push_size _ rfl,rfl,_,rfl⟩⟩
theorem pe_lst (h:PA X es t):PE X (.List es pos) (tLst t):=by
 intro pins s σ H Q I hq
 refine wpAny_List_spliced (thn (h pos pins s σ H _ I hq) fun us s1 ⟨xs,H1,I1,r,z,q⟩=>⟨by rw[←r.length];exact z,?_⟩)
 have hf:H1 s1.heap.objs.size=none:=I1.hok.fresh (Nat.le_refl _)
 refine⟨.ref s1.heap.objs.size,upd H1 s1.heap.objs.size (.lst xs),I1.laid (t':=s1.toks) (fun b u e=>Heap.get?_push_of_some _ e) (Nat.le_refl _) ?_,rfl,q _ hf⟩
 exact⟨z,us,0,r,Heap.get?_push_size _ rfl⟩
end
noncomputable abbrev Sp:=List V→Hp→VK→XK→Prop
noncomputable abbrev CXT:=List Env→Hp→Shared→XK→Value→Shared→Prop
structure Env0 (P:Program) (w:World) (K:Frag) (mg:Str→Option Value) (base:Heap) (A:Around) (outer:List Env) (s:Shared) (H:Hp):Prop where
 frames:A.frames=some outer
 mod:Mod K mg base
 bs:∀b o,base.get? b=some o→s.heap.get? b=some o∧H b=none
 bsz:base.objs.size≤s.heap.objs.size
 funs:s.heap.FunFrames base outer
 frf:∀b∈frs outer,H b=none
 hok:HOk P w H s.heap
 bare:AllBare s.gens
noncomputable def CE (outer:List Env) (P:Program) (w:World) (H:Hp) (s:Shared) (Q:VK) (u:Value) (s':Shared):Prop:=
 ∃v H',s'.os=s.os∧AllBare s'.gens∧Un (frs outer) [] H H' s.heap s'.heap∧HOk P w H' s'.heap∧RelV v u∧Q v H'
noncomputable def CR (CX:CXT) (outer:List Env) (P:Program) (w:World) (H:Hp) (s:Shared) (Q:VK) (E:XK) (r:Result) (s':Shared):Prop:=
 match r with
 |.ok (.ret u)=>CE outer P w H s Q u s'
 |.ok _=>False
 |.error e=>CX outer H s E e s'
structure FnOk (P:Program) (w:World) (K:Frag) (mg:Str→Option Value) (base:Heap) (CX:CXT) (k:Nat) (f:Addr) (fd:FuncData) (ps:List Str) (sp:Sp):Prop where
 len:∀vs H Q E,sp vs H Q E→vs.length=ps.length
 run:∀(A:Around) (outer:List Env) (s:Shared) (H:Hp) (args:Args) (us:List Value) (vs:List V) (Q:VK) (E:XK),Room k A→Env0 P w K mg base A outer s H→BindsTo s fd args (ps.zip us)→Vals vs us→sp vs H Q E→
  codeAny (model P w) A (.call (.ref f) args) (CR CX outer P w H s Q E) s
section
variable{X:Cx}{pins:List (Addr×Obj)}{σ:St}{H:Hp}{s s':Shared}
theorem Inv.env0 (I:Inv X pins σ H s):Env0 X.prog X.w X.K X.mg X.base X.A X.stack s H:=
 ⟨I.ok.frames,I.ok.mod,I.bs,Nat.le_trans I.ok.bsz I.sz,I.stack,I.stkFree,I.hok,I.bare⟩
theorem Inv.after {Q:VK}{u:Value}(I:Inv X pins σ H s) (h:CE X.stack X.prog X.w H s Q u s'):EP X pins σ Q u s':=by
 obtain⟨v,H',os,bare,un,hok,r,q⟩:=h
 obtain⟨hh,g,d,t,os'⟩:=s'
 obtain rfl:os'=s.os:=os
 exact⟨v,H',I.call (h':=hh) (g':=g) (d':=d) (t':=t) (ch:=[]) un hok bare (fun b z=>absurd z (by simp)),r,q⟩
end
noncomputable def tCall (sp:Sp) (dvs:List V) (E:XK) (t:TA):TE:=fun σ H Q=>t σ H fun vs H1=>sp (vs++dvs) H1 Q E
noncomputable def Binds (K:Frag) (fd:FuncData) (ps:List Str) (ds:List Value):Prop:=
 ∀(s:Shared) (us:List Value),K.In s.heap→(us++ds).length=ps.length→BindsTo s fd ⟨us,[]⟩ (ps.zip (us++ds))
theorem Binds.all {K:Frag}{fd:FuncData}{ps:List Str}(h:∀us:List Value,us.length=ps.length→bindArgs fd ⟨us,[]⟩=pure (ps.zip us)):Binds K fd ps []:=fun s us _ hl=>by
 rw[List.append_nil]at hl⊢
 exact .of_eq (h us hl)
noncomputable def Passes (CX:CXT) (X:Cx) (E:XK):Prop:=∀(pins:List (Addr×Obj)) (σ:St) (H:Hp) (s:Shared) (e:Value) (s':Shared),Inv X pins σ H s→CX X.stack H s E e s'→X.xe e s'
section
variable{X:Cx}{CX:CXT}{k:Nat}{f C:Addr}{fd:FuncData}{ps:List Str}{sp:Sp}{dvs:List V}{ds:List Value}{E:XK}{x m:Str}{p pos apos:Pos}{e o:Expr}{es:List Expr}{ta:TE}{t:TA}
theorem run_fn {pins:List (Addr×Obj)}{σ:St}{H:Hp}{s:Shared}{Q:VK}{us:List Value}{vs:List V}(F:FnOk X.prog X.w X.K X.mg X.base CX k f fd ps sp) (hr:Room k X.A) (hb:Binds X.K fd ps ds) (hd:Vals dvs ds) (hx:Passes CX X E)
  (I:Inv X pins σ H s) (r:Vals vs us) (h:sp (vs++dvs) H Q E):wpAny (model X.prog X.w) X.A (call (.ref f) us) (EP X pins σ Q) X.xe s:=by
 have r2:Vals (vs++dvs) (us++ds):=r.append hd
 have hl:(us++ds).length=ps.length:=by rw[←r2.length];exact F.len _ _ _ _ h
 refine wpAny_call (codeAny_mono (F.run X.A X.stack s H ⟨us,[]⟩ (us++ds) (vs++dvs) Q E hr I.env0 (hb s us I.kIn hl) r2 h) fun r s' hq=>?_)
 cases r with
 |error e=>exact hx pins σ H s e s' I hq
 |ok fl=>
  cases fl with
  |ret u=>exact I.after hq
  |next=>exact False.elim hq
  |brk=>exact False.elim hq
  |cont=>exact False.elim hq
theorem pe_call (F:FnOk X.prog X.w X.K X.mg X.base CX k f fd ps sp) (hr:Room k X.A) (hg:Gl X x) (hm:X.mg x=some (.ref f)) (hk:PySem.W.keepIn X.K (.ref f)=true) (hb:Binds X.K fd ps ds) (hd:Vals dvs ds) (hx:Passes CX X E)
  (ha:PA X (e::es) t) (hdb:(x==("__debug__":Str))=false:=by decide) (he:starEach (e::es) X.env=(false,eval e X.env)::starEach es X.env:=by rfl) (hpl:(backTo pos (starEach es X.env)).any (·.1)=false:=by rfl):
  PE X (.Call (.Name x p) (e::es) [] pos) (tCall sp dvs E t):=by
 intro pins s σ H Q I h
 refine wpAny_Call_Name_kw (ld_glob I hg hm ?_ hdb)
 refine PySem.W.callWith_K (h₀:=X.base) I.ok.mod.kin hk (thn (ha pos pins s σ H _ I h) fun us s1 ⟨vs,H1,I1,r,q⟩=>⟨I1.kIn,?_⟩) he hpl
 exact run_fn F hr hb hd hx I1 r q
end
section
variable{X:Cx}{CX:CXT}{k:Nat}{f C:Addr}{fd:FuncData}{ps ks:List Str}{sp:Sp}{E:XK}{x m:Str}{p pos apos kpos:Pos}{e o:Expr}{es:List Expr}{kws:List Keyword}{te ta:TE}{t tk:TA}{nm:Option Str}
variable{g:List Value→List Value→List Value}{gV:List V→List V→List V}
end
structure FnScope (N P:List Str) (sc:Scope):Prop where
 kind:sc.kind=.function
 co:sc.isCoroutine=false
 gen:sc.isGenerator=false
 nd:N.Nodup
 pre:N.take P.length=P
 par:∀x∈P,sc.names.lookup x=some .local∨sc.names.lookup x=some .cell
 nofree:∀y∈sc.names,y.2≠.free
theorem bindL_out {kindOf:Str→Option NameKind}{x:Str}:∀{binds:List (Str×Value)}{m:Str→Option Value},(∀v,(x,v)∉binds)→bindL kindOf binds m x=m x
 |[],_,_=>rfl
 |(n,v)::r,m,h=>by
  unfold bindL
  rw[bindL_out fun w hw=>h w (List.mem_cons_of_mem _ hw)]
  split
  ·have:x≠n:=by rintro rfl;exact h v List.mem_cons_self
   simp[this]
  ·rfl
theorem bindC_out {kindOf:Str→Option NameKind}{x:Str}:∀{binds:List (Str×Value)}{m:Str→Option Value},(∀v,(x,v)∉binds)→bindC kindOf binds m x=m x
 |[],_,_=>rfl
 |(n,v)::r,m,h=>by
  unfold bindC
  rw[bindC_out fun w hw=>h w (List.mem_cons_of_mem _ hw)]
  split
  ·rfl
  ·have:x≠n:=by rintro rfl;exact h v List.mem_cons_self
   simp[this]
theorem bindL_get {kindOf:Str→Option NameKind}{x:Str}{v:Value}:∀{P:List Str}{vs:List Value}{i:Nat}{m:Str→Option Value},P.Nodup→P[i]?=some x→vs[i]?=some v→kindOf x=some .local→
  bindL kindOf (P.zip vs) m x=some v
 |[],_,_,_,_,h,_,_=>by simp at h
 |_::_,[],_,_,_,_,h,_=>by simp at h
 |p::P,w::vs,0,m,nd,h1,h2,hk=>by
  simp at h1 h2;subst h1;subst h2
  show bindL kindOf ((p,w)::P.zip vs) m p=_
  unfold bindL
  rw[bindL_out fun v hv=>(List.nodup_cons.mp nd).1 (List.of_mem_zip hv).1,if_pos hk]
  simp
 |p::P,w::vs,i+1,m,nd,h1,h2,hk=>by
  show bindL kindOf ((p,w)::P.zip vs) m x=_
  unfold bindL
  exact bindL_get (i:=i) (List.nodup_cons.mp nd).2 (by simpa using h1) (by simpa using h2) hk
theorem bindC_get {kindOf:Str→Option NameKind}{x:Str}{v:Value}:∀{P:List Str}{vs:List Value}{i:Nat}{m:Str→Option Value},P.Nodup→P[i]?=some x→vs[i]?=some v→kindOf x≠some .local→
  bindC kindOf (P.zip vs) m x=some v
 |[],_,_,_,_,h,_,_=>by simp at h
 |_::_,[],_,_,_,_,h,_=>by simp at h
 |p::P,w::vs,0,m,nd,h1,h2,hk=>by
  simp at h1 h2;subst h1;subst h2
  show bindC kindOf ((p,w)::P.zip vs) m p=_
  unfold bindC
  rw[bindC_out fun v hv=>(List.nodup_cons.mp nd).1 (List.of_mem_zip hv).1,if_neg hk]
  simp
 |p::P,w::vs,i+1,m,nd,h1,h2,hk=>by
  show bindC kindOf ((p,w)::P.zip vs) m x=_
  unfold bindC
  exact bindC_get (i:=i) (List.nodup_cons.mp nd).2 (by simpa using h1) (by simpa using h2) hk
noncomputable def start (N:List Str) (vs:List V):St:=vs.map some++List.replicate (N.length - vs.length) none
noncomputable def cxOf (CX:CXT) (P:Program) (w:World) (K:Frag) (mg:Str→Option Value) (base:Heap) (N:List Str) (qual:Str) (scope:Scope) (f:Addr) (cd:Value) (A:Around) (outer:List Env) (s:Shared) (H:Hp) (E:XK):Cx where
 prog:=P
 w:=w
 K:=K
 mg:=mg
 base:=base
 A:=A.deeper (envOfC qual scope s.heap.objs.size f cd)
 N:=N
 s₀:=s
 H₀:=H
 env:=envOfC qual scope s.heap.objs.size f cd
 outer:=outer
 stack:=envOfC qual scope s.heap.objs.size f cd::outer
 ex:=[]
 calm:=true
 fn:=fun _=>true
 pn:=[]
 xe:=fun e s'=>wpAny (model P w) (A.deeper (envOfC qual scope s.heap.objs.size f cd)) (leaving (envOfC qual scope s.heap.objs.size f cd) e) (fun _ s''=>CX outer H s E e s'') (fun e' s''=>CX outer H s E e' s'') s'
theorem cell_has {sc:Scope}{n:Nat}{x:Str}(h:sc.names.lookup x=some .cell):∃c,(cellsFrom n sc.names []).lookup x=some c:=by
 have q:=PySem.W.cellsFrom_some sc.names n [] (.inl h)
 exact Option.isSome_iff_exists.mp q
theorem inv_start {CX:CXT}{P:Program}{w:World}{K:Frag}{mg:Str→Option Value}{base:Heap}{N ps:List Str}{qual:Str}{scope:Scope}{f:Addr}{cd:Value}{A:Around}{outer:List Env}{s s1:Shared}{H:Hp}{E:XK}{us:List Value}{vs:List V}
  (S:FnScope N ps scope) (hd:A.handled=none) (e0:Env0 P w K mg base A outer s H) (hl:vs.length=ps.length) (r:Vals vs us)
  (x:InCallC s s.heap.objs.size (bindL (envOfC qual scope s.heap.objs.size f cd).kindOf (ps.zip us) fun _=>none) (cellsFrom (s.heap.objs.size+1) scope.names []) (bindC (envOfC qual scope s.heap.objs.size f cd).kindOf (ps.zip us) fun _=>none) s1):
  Inv (cxOf CX P w K mg base N qual scope f cd A outer s H E) [] (start N vs) H s1:=by
 have hpl:ps.length≤N.length:=by have:=congrArg List.length S.pre;rw[List.length_take]at this;omega
 obtain⟨h1,tk,rfl,hk⟩:=x.done
 have noA:∀b:Addr,b∉(cxOf CX P w K mg base N qual scope f cd A outer s H E).ex:=fun b z=>absurd (show b∈([]:List Addr) from z) (by simp)
 refine⟨⟨e0.mod,S.kind,rfl,rfl,Nat.le_refl _,fun y z c h1 h2=>?_,fun y hy=>?_,fun y c _ h=>?_,fun _=>hd,Around.frames_deeper e0.frames,.inr ⟨rfl,rfl⟩,fun b z=>absurd z (noA b),e0.bs,e0.bsz,fun b _ _=>noA b,fun b z=>absurd z (noA b),e0.funs,e0.frf⟩,
  rfl,e0.bare,Un.kept hk,⟨_,x.toInCall.ns,fun i y v h1 h2 h3=>?_⟩,fun y c h=>⟨_,x.cell y c h⟩,e0.hok.fresh (Nat.le_refl _),fun y c h=>?_,fun p hp=>absurd (show p∈([]:List (Addr×Obj)) from hp) (by simp),e0.hok.kept hk,?_⟩
 ·exact name_of_addr x.apart (PySem.mem_of_lookup h1) (PySem.mem_of_lookup h2)
 ·have hy:scope.names.lookup y=some .cell∨scope.names.lookup y=some .free:=hy
  rcases hy with hy|hy
  ·exact cell_has hy
  ·exact absurd rfl (S.nofree _ (PySem.mem_of_lookup hy))
 ·exact Nat.le_of_lt (x.above y c (PySem.mem_of_lookup h))
 ·have hi:i<vs.length:=by
   unfold start at h2
   by_cases hi:i<vs.length
   ·exact hi
   ·rw[List.getElem?_append_right (by simpa using hi)]at h2
    rw[List.getElem?_replicate]at h2
    split at h2<;>cases h2
  have ha:vs[i]?=some v:=by
   unfold start at h2
   rw[List.getElem?_append_left (by simpa using hi),List.getElem?_map]at h2
   cases e:vs[i]? with
   |none=>rw[e]at h2;cases h2
   |some a=>rw[e]at h2;cases h2;rfl
  obtain⟨u,hu,rv⟩:=r.get ha
  have hp:ps[i]?=some y:=by
   rw[←S.pre,List.getElem?_take_of_lt (by omega)];exact h1
  have ndP:ps.Nodup:=by rw[←S.pre];exact S.nd.sublist (List.take_sublist _ _)
  refine⟨u,rv,?_⟩
  rcases S.par y (List.mem_of_getElem? hp)with k|k
  ·exact .inl ⟨k,bindL_get ndP hp hu k⟩
  ·obtain⟨c,e⟩:=cell_has (n:=s.heap.objs.size+1) k
   refine .inr ⟨.inl k,c,e,?_⟩
   have q:=x.cell y c e
   rw[bindC_get ndP hp hu (by show scope.names.lookup y≠_;rw[k];decide)]at q
   exact q
 ·exact e0.hok.fresh (Nat.le_of_lt (x.above y c (PySem.mem_of_lookup h)))
 ·unfold start
  show _=N.length
  rw[List.length_append,List.length_map,List.length_replicate]
  omega
theorem fn_of {CX:CXT}{P:Program}{w:World}{K:Frag}{mg:Str→Option Value}{base:Heap}{k:Nat}{f:Addr}{name qual:Str}{params:Arguments}{body:List Stmt}{scope:Scope}{dV kV doc pm cdv ct oc:Value}{an od:Option Addr}
  {osl:Array (Option Value)}{N ps:List Str}{sp:Sp}(lk:K.lookup f=some ⟨oc,od,.func (PySem.W.fnOf name qual params body scope dV kV doc pm an cdv ct),osl⟩) (hcd:PySem.W.codeIn K cdv qual=true) (S:FnScope N ps scope)
  (len:∀vs H Q E,sp vs H Q E→vs.length=ps.length)
  (hbody:∀(A:Around) (outer:List Env) (s:Shared) (H:Hp) (vs:List V) (Q:VK) (E:XK),Room k (A.deeper (envOfC qual scope s.heap.objs.size f cdv))→sp vs H Q E→
   ∃t,PSs (cxOf CX P w K mg base N qual scope f cdv A outer s H E) body t∧t {nx:=fun _ H'=>Q .non H',rt:=Q} (start N vs) H):
  FnOk P w K mg base CX (k+1) f (PySem.W.fnOf name qual params body scope dV kV doc pm an cdv ct) ps sp:=by
 refine⟨len,fun A outer s H args us vs Q E hr e0 hb r hsp=>?_⟩
 have hl:=len _ _ _ _ hsp
 have KX:K.In s.heap:=e0.mod.kin.keeps fun b o e=>(e0.bs b o e).1
 have lim:s.heap.NoLimit:=e0.mod.nolimit.keeps fun b o e=>(e0.bs b o e).1
 have hkind:∀y∈ps.zip us,scope.names.lookup y.1=some .local∨(scope.names.lookup y.1=some .cell∧((cellsFrom (s.heap.objs.size+1) scope.names []).lookup y.1).isSome=true):=fun⟨n,v⟩ hy=>by
  rcases S.par n (List.of_mem_zip hy).1 with q|q
  ·exact .inl q
  ·exact .inr ⟨q,PySem.W.cellsFrom_some _ _ _ (.inl q)⟩
 refine codeAny_call_function hr.depth (KX _ _ lk) rfl S.co S.gen rfl (PySem.W.codeRec_of KX hcd) (hb _ _ _ _ ?_)
 refine wpAny_newFunctionEnv_cells S.kind hkind fun env he s1 x=>?_
 subst he
 refine⟨lim.keeps x.toInCall.keep,codeAny_func ?_⟩
 obtain⟨t,ht,hq⟩:=hbody A outer s H vs Q E (hr.deeper _) hsp
 have I:Inv (cxOf CX P w K mg base N qual scope f cdv A outer s H E) [] (start N vs) H s1:=inv_start S hr.hd e0 hl r x
 refine wpAny_mono (ht [] s1 (start N vs) H _ I hq) (fun fl s' hs=>?_) fun e s' hs=>hs
 have fin:∀{σ':St}{H':Hp}{v:V}{u:Value},Inv (cxOf CX P w K mg base N qual scope f cdv A outer s H E) [] σ' H' s'→RelV v u→Q v H'→CE outer P w H s Q u s':=
  fun{σ' H' v u} J rv q=>⟨v,H',J.os,J.bare,J.base,J.hok,rv,q⟩
 cases fl with
 |ret u=>
  obtain⟨v,σ',H',J,rv,q⟩:=hs
  exact fin J rv q
 |next=>
  obtain⟨σ',H',J,q⟩:=hs
  exact fin (v:=V.non) (u:=Value.none) J rfl q
 |brk=>
  obtain⟨_,_,_,q⟩:=hs
  exact False.elim q
 |cont=>
  obtain⟨_,_,_,q⟩:=hs
  exact False.elim q
end L2
namespace L2
open PySem PySem.Spec PyProof.Rows
section
variable{X:Cx}{x:Str}{p pos:Pos}{e:Expr}{es:List Expr}{t:TA}{id T:String}{r:List V→Hp→VK→Prop}
noncomputable def tCB (r:List V→Hp→VK→Prop) (t:TA):TE:=fun σ H Q=>t σ H fun vs H1=>r vs H1 Q
theorem pe_callB (hc:CallR X (.builtin id) r) (hg:Gl X x) (hm:X.mg x=none) (hv:bootBuiltins x=some (.builtin id)) (ha:PA X (e::es) t) (hn:x≠"__name__":=by decide) (hdb:(x==("__debug__":Str))=false:=by decide)
  (he:starEach (e::es) X.env=(false,eval e X.env)::starEach es X.env:=by rfl) (hpl:(backTo pos (starEach es X.env)).any (·.1)=false:=by rfl):PE X (.Call (.Name x p) (e::es) [] pos) (tCB r t):=by
 intro pins s σ H Q I h
 refine wpAny_Call_Name_kw (ld_blt I hg hm hv ?_ hn hdb)
 exact PyProof.Rows.callWith_builtin1 (thn (ha pos pins s σ H _ I h) fun us s1 ⟨vs,H1,I1,r1,q1⟩=>hc pins s1 σ H1 vs us Q I1 r1 q1) he hpl
theorem pe_callTy (hc:CallR X (.type T) r) (hg:Gl X x) (hm:X.mg x=none) (hv:bootBuiltins x=some (.type T)) (ha:PA X (e::es) t) (hn:x≠"__name__":=by decide) (hdb:(x==("__debug__":Str))=false:=by decide)
  (he:starEach (e::es) X.env=(false,eval e X.env)::starEach es X.env:=by rfl) (hpl:(backTo pos (starEach es X.env)).any (·.1)=false:=by rfl):PE X (.Call (.Name x p) (e::es) [] pos) (tCB r t):=by
 intro pins s σ H Q I h
 refine wpAny_Call_Name_kw (ld_blt I hg hm hv ?_ hn hdb)
 exact PyProof.Rows.callWith_type1 (thn (ha pos pins s σ H _ I h) fun us s1 ⟨vs,H1,I1,r1,q1⟩=>hc pins s1 σ H1 vs us Q I1 r1 q1) he hpl
end
end L2
namespace L2
open PySem PySem.Spec PyProof.Rows
section
variable{κ:Type}[DecidableEq κ]
end
section
variable{P:Program}{w:World}{H:Hp}{h:Heap}{a:Addr}
end
section
variable{X:Cx}{pins:List (Addr×Obj)}{σ:St}{H:Hp}{s:Shared}{a:Addr}{y v:V}{u r:Value}{o:Option V}{A:Around}{E:Value→Shared→Prop}
end
section
variable{X:Cx}{pins:List (Addr×Obj)}{σ:St}{H:Hp}{s:Shared}{a:Addr}{kvs:List (Key×V)}{k:Key}{u:Value}{A:Around}{E:Value→Shared→Prop}
end
section
variable{X:Cx}{o i e value:Expr}{pos pos' tpos:Pos}{td ty tv:TE}
end
section
variable{X:Cx}{pos:Pos}
end
structure M1 (X:Cx) (o:Expr) (m:Str) (apos:Pos) (e:Expr) (cpos:Pos):Prop where
 base:attributeBase o m X.env (eval o X.env)=eval o X.env
 few:((backTo cpos (starEach [e] X.env)).all (fun x=>!x.1)&&(backToKw cpos (keywordEach [] X.env)).all (fun x=>x.1.isSome)
  &&decide (([e]:List Expr).length+([]:List Keyword).length+(if([]:List Keyword).isEmpty then 0 else 1)<30))=true
 line:(apos.endLine==cpos.line)=true
 trees:backTo cpos (starEach [e] X.env)=[(false,eval e X.env)]
section
variable{X:Cx}{pins:List (Addr×Obj)}{σ:St}{H:Hp}{s:Shared}{a:Addr}{y d:V}{u r:Value}{o:Option V}{A:Around}{E:Value→Shared→Prop}
end
section
variable{X:Cx}{o e f:Expr}{apos cpos:Pos}{td ty tx:TE}
end
section
variable{X:Cx}{pins:List (Addr×Obj)}{σ:St}{H:Hp}{s:Shared}{a:Addr}{kvs:List (Key×V)}{A:Around}{E:Value→Shared→Prop}
end
section
variable{X:Cx}{pins:List (Addr×Obj)}{σ:St}{H:Hp}{s:Shared}{a:Addr}{y:V}{u:Value}{A:Around}{E:Value→Shared→Prop}
end
end L2
namespace HT
open PySem PyProof.Rows
section
open PySem.SeqAt
open PySem.AutoSeq1 (wpAny_loadPart')
open PySem.MeetsSeq PySem.MeetsSeq2 PySem.MeetsSeq3
end
section
variable{prog:Program}{w:World}{A:Around}{E:Value→Shared→Prop}{s:Shared}
noncomputable def sIx (n d:Nat):Option Int→Nat
 |none=>d
 |some v=>if v<0 then(v+(n:Int)).toNat else min v.toNat n
end
end HT
namespace L2
open PySem PySem.Spec PyProof.Rows
noncomputable abbrev TO:=St→Hp→(Option Int→Hp→Prop)→Prop
noncomputable def PO (X:Cx) (e:Option Expr) (t:TO):Prop:=
 ∀(pins:List (Addr×Obj)) (s:Shared) (σ:St) (H:Hp) (Q:Option Int→Hp→Prop),Inv X pins σ H s→t σ H Q→
  wpAny (model X.prog X.w) X.A (evalPart e X.env) (fun u s'=>∃o H',Inv X pins σ H' s'∧IsPart u o∧Q o H') X.xe s
noncomputable def tNoPart:TO:=fun _ H Q=>Q none H
noncomputable def tPart (t:TE):TO:=fun σ H Q=>t σ H fun x H1=>∃i,x=.int i∧Q (some i) H1
section
variable{X:Cx}{e:Expr}{te:TE}{lo hi:Option Expr}{tl th:TO}{pos p2:Pos}
theorem po_none:PO X none tNoPart:=by
 intro pins s σ H Q I h
 rw[evalPart_none]
 exact wpAny_pure ⟨none,H,I,.none,h⟩
theorem po_some (h:PE X e te):PO X (some e) (tPart te):=by
 intro pins s σ H Q I hw
 rw[evalPart_some]
 refine thn (h pins s σ H _ I hw) fun u s1 ⟨x,H1,I1,r1,q1⟩=>?_
 obtain⟨i,rfl,q⟩:=q1
 obtain⟨t,rfl⟩:=r1
 exact⟨some i,H1,I1,.int i t,q⟩
noncomputable def SlR (X:Cx) (r:V→Option Int→Option Int→Hp→VK→Prop):Prop:=
 ∀(pins:List (Addr×Obj)) (s:Shared) (σ:St) (H:Hp) (x:V) (v vl vu:Value) (lo hi:Option Int) (sl:Addr) (Q:VK),Inv X pins σ H s→RelV x v→s.heap.IsSliceOf sl vl vu .none→IsPart vl lo→IsPart vu hi→r x lo hi H Q→
  ∃T id,typeLookup (.type T) "__getitem__"=pure (some (.builtin id))∧s.TypeIs v T∧wpAny (model X.prog X.w) X.A (getItem v (.ref sl)) (EP X pins σ Q) X.xe s
noncomputable def tSl (r:V→Option Int→Option Int→Hp→VK→Prop) (te:TE) (tl th:TO):TE:=fun σ H Q=>te σ H fun x H1=>tl σ H1 fun l H2=>th σ H2 fun u H3=>r x l u H3 Q
theorem pe_slice {r:V→Option Int→Option Int→Hp→VK→Prop}(hr:SlR X r) (he:PE X e te) (hl:PO X lo tl) (hu:PO X hi th):PE X (.Subscript e (.Slice lo hi none p2) pos) (tSl r te tl th):=by
 intro pins s σ H Q I h
 refine Subscript_ (thn (he pins s σ H _ I h) fun v s1 ⟨x,H1,I1,r1,q1⟩=>?_)
 refine wpAny_Slice (thn (hl pins s1 σ H1 _ I1 q1) fun vl s2 ⟨l,H2,I2,pl,q2⟩=>thn (hu pins s2 σ H2 _ I2 q2) fun vu s3 ⟨u,H3,I3,pu,q3⟩=>?_)
 rw[evalPart_none]
 refine wpAny_pure ?_
 have I4:Inv X pins σ H3 {s3 with heap:=s3.heap.push {cls:=.type "slice",data:=.fields #[vl,vu,.none]}}:=I3.kept (t':=s3.toks) fun b ob q=>Heap.get?_push_of_some _ q
 obtain⟨T,id,hT,ht,hg⟩:=hr pins {s3 with heap:=s3.heap.push {cls:=.type "slice",data:=.fields #[vl,vu,.none]}} σ H3 x v vl vu l u s3.heap.objs.size Q I4 r1 (Heap.IsSliceOf.new ..) pl pu q3
 show wpAny (model X.prog X.w) X.A (subscriptTail e (.Slice lo hi none p2) v (.ref s3.heap.objs.size)) (EP X pins σ Q) X.xe {s3 with heap:=s3.heap.push {cls:=.type "slice",data:=.fields #[vl,vu,.none]}}
 exact tail_any (ops:=[.ref s3.heap.objs.size,v]) ht hT hg (by with_unfolding_all rfl)
noncomputable def cutV (xs:List V) (lo hi:Option Int):List V:=(xs.drop (HT.sIx xs.length 0 lo)).take (HT.sIx xs.length xs.length hi - HT.sIx xs.length 0 lo)
theorem cutV_length (xs:List V) (lo hi:Option Int):(cutV xs lo hi).length≤xs.length:=by
 unfold cutV
 rw[List.length_take,List.length_drop]
 omega
end
end L2
namespace L2
open PySem PySem.Spec PyProof.Rows
noncomputable def ixN (n:Nat) (i:Int):Option Nat:=if 0≤i then(if i<n then some i.toNat else none) else if -(n:Int)≤i then some (i+n).toNat else none
noncomputable def atI {α:Type}(xs:List α) (i:Int):Option α:=(ixN xs.length i).bind fun j=>xs[j]?
theorem ixN_seq {n:Nat}{i:Int}{j:Nat}(h:ixN n i=some j):seqIndex? i n=some j∧j<n∧ -(n:Int)≤i∧i<n:=by
 unfold ixN at h
 by_cases h0:0≤i
 ·rw[if_pos h0]at h
  by_cases h1:i<n
  ·rw[if_pos h1]at h
   have e:i.toNat=j:=Option.some.inj h
   exact⟨by rw[seqIndex_of h0 h1,e],by omega,by omega,h1⟩
  ·rw[if_neg h1]at h;cases h
 ·rw[if_neg h0]at h
  by_cases h1: -(n:Int)≤i
  ·rw[if_pos h1]at h
   have e:(i+n).toNat=j:=Option.some.inj h
   exact⟨by rw[seqIndex_neg (by omega) h1,e],by omega,h1,by omega⟩
  ·rw[if_neg h1]at h;cases h
theorem atI_get {α:Type}{xs:List α}{i:Int}{v:α}(h:atI xs i=some v):∃j,seqIndex? i xs.length=some j∧xs[j]?=some v∧j<xs.length∧ -(xs.length:Int)≤i∧i<xs.length:=by
 unfold atI at h
 cases e:ixN xs.length i with
 |none=>rw[e]at h;cases h
 |some j=>
  rw[e]at h
  obtain⟨h1,h2,h3,h4⟩:=ixN_seq e
  exact⟨j,h1,h,h2,h3,h4⟩
theorem atI_nat {α:Type}{xs:List α}{j:Nat}{v:α}(h:xs[j]?=some v):atI xs (j:Int)=some v:=by
 have hj:j<xs.length:=(List.getElem?_eq_some_iff.mp h).1
 have e:ixN xs.length (j:Int)=some j:=by
  unfold ixN
  rw[if_pos (by omega),if_pos (by omega)];simp
 unfold atI;rw[e];exact h
noncomputable def PlainIx (b:Expr):Prop:=∀o i,subscripted b false o i=operate [o,i] (getItem o i)
noncomputable def IxR (X:Cx) (r:R2):Prop:=
 ∀(value slice:Expr) (pins:List (Addr×Obj)) (s:Shared) (σ:St) (H:Hp) (x y:V) (v u:Value) (Q:VK),Inv X pins σ H s→RelV x v→RelV y u→r x y H Q→
  subscripted slice false v u=operate [v,u] (getItem v u)→wpAny (model X.prog X.w) X.A (subscriptTail value slice v u) (EP X pins σ Q) X.xe s
noncomputable def MtR (X:Cx) (id:String) (r:V→List V→Hp→VK→Prop):Prop:=
 ∀(pins:List (Addr×Obj)) (s:Shared) (σ:St) (H:Hp) (x:V) (xs:List V) (v:Value) (us:List Value) (Q:VK),Inv X pins σ H s→RelV x v→Vals xs us→r x xs H Q→
  wpAny (model X.prog X.w) X.A (call (.builtin id) (v::us)) (EP X pins σ Q) X.xe s
section
variable{X:Cx}{a b:Expr}{ta tb:TE}{pos:Pos}
theorem IxR.or {r r':R2}(h:IxR X r) (h':IxR X r'):IxR X (fun x y H Q=>r x y H Q∨r' x y H Q):=by
 intro value slice pins s σ H x y v u Q I rx ry q hs
 rcases q with q|q
 ·exact h value slice pins s σ H x y v u Q I rx ry q hs
 ·exact h' value slice pins s σ H x y v u Q I rx ry q hs
theorem pe_ix {r:R2}(hr:IxR X r) (ha:PE X a ta) (hb:PE X b tb) (hs:PlainIx b):PE X (.Subscript a b pos) (tOp r ta tb):=by
 intro pins s σ H Q I h
 exact Subscript_ (binT ha hb I h fun v u s2 x y H2 I2 rx ry q=>hr a b pins s2 σ H2 x y v u Q I2 rx ry q (hs _ _))
noncomputable def rIxL (K:Frag):R2:=fun x y H Q=>∃p xs i v,x=.ref p∧y=.int i∧SqL K H p xs∧atI xs i=some v∧Q v H
noncomputable def rIxT (K:Frag):R2:=fun x y H Q=>∃p xs i v,x=.ref p∧y=.int i∧SqT K H p xs∧atI xs i=some v∧Q v H
noncomputable def rIxS:R2:=fun x y H Q=>∃z i c,x=.str z∧y=.int i∧z.length≤sizeLine∧atI z.cps.toList i=some c∧Q (.str ⟨#[c]⟩) H
theorem ix_list:IxR X (rIxL X.K):=by
 intro value slice pins s σ H x y v u Q I rx ry h hs
 obtain⟨p,xs,i,z,rfl,rfl,hq,he,q⟩:=h
 cases rx
 obtain⟨t,rfl⟩:=ry
 obtain⟨its,r,pl,hz⟩:=I.list hq
 obtain⟨j,h1,h2,h3,h4,h5⟩:=atI_get he
 obtain⟨w,ew,rw'⟩:=r.get h2
 have hl:=r.length
 have hn:=line63
 have fin:EP X pins σ Q w s:=⟨z,H,I,rw',q⟩
 by_cases h0:0≤i
 ·have hj:i.toNat=j:=by
   rw[seqIndex_of h0 h5]at h1
   exact Option.some.inj h1
  exact item_listR pl.isList h0 (by omega) (by rw[hj];simpa using ew) fin hs
 ·have hj:(i+(its.toArray.size:Int)).toNat=j:=by
   rw[seqIndex_neg (by omega) h4]at h1
   rw[List.size_toArray,←hl]
   exact Option.some.inj h1
  exact subscriptTail_builtinR (x:=w) pl.isList.typeIs slot_list_getitem.lookup
   (wpAny_getItem_list_neg (Q:=fun r s'=>r=w∧EP X pins σ Q r s') pl.isList (by omega) (by rw[List.size_toArray]<;>omega) (by omega) (by rw[hj];simpa using ew) ⟨rfl,fin⟩) hs
theorem ix_tup:IxR X (rIxT X.K):=by
 intro value slice pins s σ H x y v u Q I rx ry h hs
 obtain⟨p,xs,i,z,rfl,rfl,hq,he,q⟩:=h
 cases rx
 obtain⟨t,rfl⟩:=ry
 obtain⟨its,r,pl,hz⟩:=I.tuple hq
 obtain⟨j,h1,h2,h3,h4,h5⟩:=atI_get he
 obtain⟨w,ew,rw'⟩:=r.get h2
 have hl:=r.length
 have hn:=line63
 have fin:EP X pins σ Q w s:=⟨z,H,I,rw',q⟩
 exact subscriptTail_builtinR (x:=w) pl.typeIs slot_tuple_getitem.lookup
  (getItem_tuple (j:=j) (Q:=fun r s'=>r=w∧EP X pins σ Q r s') pl (by omega) (by omega) (by rw[List.size_toArray,←hl];exact h1) (by simpa using ew) ⟨rfl,fin⟩) hs
theorem ix_str:IxR X rIxS:=by
 intro value slice pins s σ H x y v u Q I rx ry h hs
 obtain⟨z,i,c,rfl,rfl,hz,he,q⟩:=h
 obtain⟨t,rfl⟩:=rx
 obtain⟨t',rfl⟩:=ry
 obtain⟨j,h1,h2,h3,h4,h5⟩:=atI_get he
 have hl:z.cps.toList.length=z.length:=by simp[Str.length]
 rw[hl]at h1 h4 h5
 have hn:=line63
 exact tail_any (typeIs_str s z t) slot_str_getitem.lookup (getItem_str (c:=c) (by
  have e1:decide (i< -(2 ^ 63:Int))=false:=decide_eq_false (by omega)
  have e2:decide (i≥2 ^ 63)=false:=decide_eq_false (by omega)
  rw[e1,e2,Bool.or_false]) (by rw[h1];simpa using h2) ⟨.str ⟨#[c]⟩,H,I.tok _,⟨_,rfl⟩,q⟩) hs
noncomputable def rIx (K:Frag):R2:=fun x y H Q=>rIxL K x y H Q∨rIxT K x y H Q∨rIxS x y H Q
theorem ix_seq:IxR X (rIx X.K):=ix_list.or (ix_tup.or ix_str)
theorem slice_bounds (lo hi:Option Int) (n:Nat):(sliceBounds lo hi none n).1=((HT.sIx n 0 lo:Nat):Int)∧(sliceBounds lo hi none n).2.1=((HT.sIx n n hi:Nat):Int)∧(sliceBounds lo hi none n).2.2=1:=by
 refine⟨?_,?_,rfl⟩
 ·cases lo with
  |none=>simp[sliceBounds,HT.sIx]
  |some i=>
   simp only[sliceBounds,HT.sIx,Option.getD_none,show(1:Int)>0 by decide,if_true]
   by_cases h:i<0
   ·simp only[h,if_true]<;>omega
   ·simp only[h,if_false]<;>omega
 ·cases hi with
  |none=>simp[sliceBounds,HT.sIx]
  |some i=>
   simp only[sliceBounds,HT.sIx,Option.getD_none,show(1:Int)>0 by decide,if_true]
   by_cases h:i<0
   ·simp only[h,if_true]<;>omega
   ·simp only[h,if_false]<;>omega
theorem slicePick_cut (its:List Value) (lo hi:Option Int):slicePick its.toArray lo hi none=((its.drop (HT.sIx its.length 0 lo)).take (HT.sIx its.length its.length hi - HT.sIx its.length 0 lo)).toArray:=by
 obtain⟨h1,h2,h3⟩:=slice_bounds lo hi its.toArray.size
 unfold slicePick
 rw[h1,h2,h3]
 simp only[sliceRange_one,pick_run,List.size_toArray]<;>rfl
noncomputable def rSlL (K:Frag):V→Option Int→Option Int→Hp→VK→Prop:=fun x lo hi H Q=>∃a xs,x=.ref a∧SqL K H a xs∧∀p,H p=none→Q (.ref p) (upd H p (.lst (cutV xs lo hi)))
theorem sl_list:SlR X (rSlL X.K):=by
 intro pins s σ H x v vl vu lo hi sl Q I rx hs pl pu h
 obtain⟨a,xs,rfl,hx,q⟩:=h
 cases rx
 obtain⟨its,r,ht,hz⟩:=I.list hx
 have hlen:=r.length
 refine⟨"list",_,slot_list_getitem.lookup,ht.isList.typeIs,?_⟩
 refine wpAny_getItem_list_slice ht.isList hs pl pu .none (by simp) ?_ (by rw[List.size_toArray]<;>omega)
 rw[slicePick_cut,←hlen]
 refine⟨.ref s.heap.objs.size,_,I.laid (t':=s.toks) (o:=.lst (cutV xs lo hi)) (fun b ob q=>Heap.get?_push_of_some _ q) (Nat.le_refl _) ?_,rfl,q _ (I.hok.fresh (Nat.le_refl _))⟩
 exact⟨Nat.le_trans (cutV_length xs lo hi) hz,_,0,(r.drop (HT.sIx xs.length 0 lo)).take (HT.sIx xs.length xs.length hi - HT.sIx xs.length 0 lo),Heap.get?_push_size _ rfl⟩
theorem call_len_seq:CallR X (.builtin "len") (fun xs H Q=>∃p ys,xs=[.ref p]∧(SqL X.K H p ys∨SqT X.K H p ys)∧Q (.int ys.length) H):=by
 intro pins s σ H xs us Q I r h
 obtain⟨p,ys,rfl,hq,q⟩:=h
 obtain⟨u,rfl,rx⟩:=vals1 r
 cases rx
 have hn:=line63
 rcases hq with hq|hq
 ·obtain⟨its,r',pl,hz⟩:=I.list hq
  have hlen:=r'.length
  exact Calls.call_len_list pl.isList (by simp only[List.size_toArray]<;>omega) ⟨.int ys.length,H,I.tok _,⟨s.toks+1,by rw[List.size_toArray,hlen]⟩,q⟩
 ·obtain⟨its,r',pl,hz⟩:=I.tuple hq
  have hlen:=r'.length
  exact len_tuple pl (by simp only[List.size_toArray]<;>omega) ⟨.int ys.length,H,I.tok _,⟨s.toks+1,by rw[List.size_toArray,hlen]⟩,q⟩
theorem call_len_str:CallR X (.builtin "len") (fun xs H Q=>∃z,xs=[.str z]∧z.length≤sizeLine∧Q (.int z.length) H):=by
 intro pins s σ H xs us Q I r h
 obtain⟨z,rfl,hz,q⟩:=h
 obtain⟨u,rfl,t,rfl⟩:=vals1 r
 have hn:=line63
 exact len_str (by omega) ⟨.int z.length,H,I.tok _,⟨_,rfl⟩,q⟩
theorem call_tuple_of:CallR X (.type "tuple") (fun xs H Q=>∃p ys,xs=[.ref p]∧((SqL X.K H p ys∧∀l,H l=none→Q (.ref l) (upd H l (.tup ys)))∨(SqT X.K H p ys∧Q (.ref p) H))):=by
 intro pins s σ H xs us Q I r h
 obtain⟨p,ys,rfl,h⟩:=h
 obtain⟨u,rfl,rx⟩:=vals1 r
 cases rx
 rcases h with⟨hq,q⟩|⟨hq,q⟩
 ·obtain⟨its,r',pl,hz⟩:=I.list hq
  have hlen:=r'.length
  refine call_tuple_list pl.isList (fun h' kp=>?_) (by simp only[List.size_toArray]<;>omega)
  have I1:Inv X pins σ H {s with heap:=h'}:=I.kept (t':=s.toks) kp
  have I2:Inv X pins σ (upd H h'.objs.size (.tup ys)) {s with heap:=h'.push {cls:=.type "tuple",data:=.seq its.toArray}}:=
   I1.laid (t':=s.toks) (fun b o e=>Heap.get?_push_of_some _ e) (Nat.le_refl _) (show ObjOk X.prog X.w _ _ _ (.tup ys) from⟨hz,its,r',IsTup.new _ _⟩)
  exact⟨.ref h'.objs.size,_,I2,rfl,q _ (I1.hok.fresh (Nat.le_refl _))⟩
 ·obtain⟨its,r',pl,hz⟩:=I.tuple hq
  exact call_tuple_same pl ⟨.ref p,H,I,rfl,q⟩
noncomputable def tyV (K:Frag) (T:String) (x:V) (H:Hp):Prop:=match x with
 |.str _=>T="str"
 |.int _=>T="int"
 |.ref p=>(T="list"∧∃xs,SqL K H p xs)∨(T="tuple"∧∃o,K.lookup p=some o∧o.cls=.type "tuple"∧o.dict=none)∨
   (T="dict"∧((∃kvs,H p=some (.dK kvs))∨∃kvs,H p=some (.dT kvs)))∨(T="set"∧∃S n,H p=some (.set S n))
 |_=>False
theorem tyV_is {pins:List (Addr×Obj)}{σ:St}{H:Hp}{s:Shared}{T:String}{x:V}{v:Value}(I:Inv X pins σ H s) (r:RelV x v) (ty:tyV X.K T x H):
  s.TypeIs v T∧∀a,v=.ref a→∃ob,s.heap.get? a=some ob∧ob.dict=none:=by
 cases x with
 |str z=>
  obtain⟨t,rfl⟩:=r
  cases (show T="str" from ty)
  exact⟨typeIs_str s z t,fun _ e=>nomatch e⟩
 |int i=>
  obtain⟨t,rfl⟩:=r
  cases (show T="int" from ty)
  exact⟨typeIs_int s i t,fun _ e=>nomatch e⟩
 |ref p=>
  cases r
  rcases ty with⟨rfl,xs,hq⟩|⟨rfl,o,hk,hc,hd⟩|⟨rfl,hk⟩|⟨rfl,S,n,hk⟩
  ·obtain⟨its,_,pl,_⟩:=I.list hq
   refine⟨pl.isList.typeIs,fun a e=>?_⟩
   cases e
   obtain⟨o,n,e,c,hd,_⟩:=pl
   exact⟨o,e,hd⟩
  ·refine⟨⟨o,I.kIn p o hk,hc⟩,fun a e=>?_⟩
   cases e
   exact⟨o,I.kIn _ o hk,hd⟩
  ·have z:∃o,s.heap.get? p=some o∧o.ExactDict:=by
    rcases hk with⟨kvs,hk⟩|⟨kvs,hk⟩
    ·obtain⟨_,_,_,_,o,_,_,e,ex,_⟩:=I.hok p _ hk
     exact⟨o,e,ex⟩
    ·obtain⟨_,_,_,_,o,_,_,e,ex,_⟩:=I.hok p _ hk
     exact⟨o,e,ex⟩
   obtain⟨o,e,ex⟩:=z
   refine⟨⟨o,e,ex.1⟩,fun a e2=>?_⟩
   cases e2
   exact⟨o,e,ex.2.1⟩
  ·obtain⟨o,_,_,_,e,ex,_⟩:=I.hok p _ hk
   refine⟨⟨o,e,ex.1⟩,fun a e2=>?_⟩
   cases e2
   exact⟨o,e,ex.2.1⟩
 |_=>exact False.elim ty
noncomputable def tBM (K:Frag) (T:String) (r:V→List V→Hp→VK→Prop) (to:TE) (t:TA):TE:=fun σ H Q=>to σ H fun x H1=>tyV K T x H1∧t σ H1 fun xs H2=>r x xs H2 Q
variable{o e:Expr}{es:List Expr}{to:TE}{t:TA}{name:Str}{apos cpos:Pos}{T id:String}{r:V→List V→Hp→VK→Prop}
theorem pe_bm (pa:PlainAttrs T) (slot:Slot T name id) (hty:typeOf (.builtin id)=pure (.type "method_descriptor")) (hm:MtR X id r) (ho:PE X o to) (ha:PA X (e::es) t)
  (hbase:attributeBase o name X.env (eval o X.env)=eval o X.env:=by rfl)
  (hfew:((backTo cpos (starEach (e::es) X.env)).all (fun x=>!x.1)&&(backToKw cpos (keywordEach [] X.env)).all (fun x=>x.1.isSome)
   &&decide ((e::es).length+([]:List Keyword).length+(if([]:List Keyword).isEmpty then 0 else 1)<30))=true:=by rfl)
  (hline:(apos.endLine==cpos.line)=true:=by rfl) (hs:starEach (e::es) X.env=(false,eval e X.env)::starEach es X.env:=by rfl) (hplain:(backTo cpos (starEach es X.env)).any (·.1)=false:=by rfl):
  PE X (.Call (.Attribute o name apos) (e::es) [] cpos) (tBM X.K T r to t):=by
 intro pins s σ H Q I h
 refine wpAny_Call_method_late hbase hfew hline rfl (thn (ho pins s σ H _ I h) fun v s1 ⟨x,H1,I1,r1,ty,q1⟩=>?_)
 obtain⟨h1,h2⟩:=tyV_is I1 r1 ty
 refine⟨T,id,pa,slot,hty,h1,h2,?_⟩
 have hA:=ha cpos pins s1 σ H1 _ I1 q1
 rw[hs]at hA⊢
 refine Calls.callWith_builtin (by show(false||(backTo cpos (starEach es X.env)).any (·.1))=false;rw[hplain]<;>rfl) (Calls.evalArgs_plain ?_)
 exact thn hA fun us s2 ⟨vs,H2,I2,r2,q2⟩=>hm pins s2 σ H2 x vs v us Q I2 r1 r2 q2
end
end L2
namespace L2
open PySem PySem.Spec PyProof.Rows
noncomputable def MtM (X:Cx) (id:String) (r:V→List V→Hp→VK→Prop):Prop:=
 ∀(pins:List (Addr×Obj)) (s:Shared) (σ:St) (H:Hp) (x:V) (xs:List V) (v:Value) (us:List Value) (Q:VK),Inv X pins σ H s→RelV x v→Vals xs us→r x xs H Q→
  wpAny (model X.prog X.w) X.A (call (.builtin id) (v::us)) (EP X pins σ Q) X.xe s
theorem Vals.one:∀{x:V}{us:List Value},Vals [x] us→∃u,us=[u]∧RelV x u
 |_,_,.cons r .nil=>⟨_,rfl,r⟩
section
variable{X:Cx}{pins:List (Addr×Obj)}{σ:St}{H:Hp}{s:Shared}{l b:Addr}{xs ys zs:List V}
theorem Inv.lset {its its':List Value}{n:Nat}{f:Array Value→Array Value}{t':Nat}(I:Inv X pins σ H s) (hH:H l=some (.lst xs))
  (e:s.heap.get? l=some {cls:=.type "list",data:=.seq its.toArray n}) (hf:f its.toArray=its'.toArray) (hv:Vals ys its') (hz:ys.length≤sizeLine):
  Inv X pins σ (upd H l (.lst ys)) {s with heap:=s.heap.update l (Obj.mapSeq f),toks:=t'}:=by
 have q:=PySem.IsL.update e f
 rw[hf]at q
 refine I.write (x:=l) (e:=l) (by rw[hH];exact trivial) (.inl rfl) (fun b' u hb hu=>(Heap.get?_update_other s.heap (Obj.mapSeq f) (Ne.symm hb)).trans hu) ⟨_,q⟩ ?_
 exact⟨hz,its',_,hv,q⟩
theorem Inv.lnew {its:List Value}{t':Nat}(I:Inv X pins σ H s) (hv:Vals ys its) (hz:ys.length≤sizeLine):
  Inv X pins σ (upd H s.heap.objs.size (.lst ys)) {s with heap:=s.heap.push {cls:=.type "list",data:=.seq its.toArray},toks:=t'}:=
 I.laid (fun _ _ q=>Heap.get?_push_of_some _ q) (Nat.le_refl _) ⟨hz,its,0,hv,Heap.get?_push_size _ rfl⟩
theorem Inv.fresh (I:Inv X pins σ H s):H s.heap.objs.size=none:=I.hok.fresh (Nat.le_refl _)
theorem Inv.lstM (I:Inv X pins σ H s) (hH:H l=some (.lst xs)):xs.length≤sizeLine∧∃(its:List Value) (n:Nat),Vals xs its∧xs.length=its.length∧s.heap.get? l=some {cls:=.type "list",data:=.seq its.toArray n}:=by
 obtain⟨z,its,n,r,e⟩:=I.hok l _ hH
 exact⟨z,its,n,r,r.length,e⟩
theorem notLongL {n:Nat}(h:n≤sizeLine):Builtin.List.listTooLong n=false:=by
 unfold Builtin.List.listTooLong
 exact decide_eq_false (by omega)
end
section
variable{X:Cx}
noncomputable def rAppend:V→List V→Hp→VK→Prop:=fun x vs H Q=>∃l xs y,x=.ref l∧vs=[y]∧H l=some (.lst xs)∧xs.length<sizeLine∧Q .non (upd H l (.lst (xs++[y])))
theorem mt_append:MtM X "list.append" rAppend:=by
 intro pins s σ H x vs v us Q I rx rv h
 obtain⟨l,xs,y,rfl,rfl,hH,hz,q⟩:=h
 cases rx
 obtain⟨u,rfl,ru⟩:=rv.one
 obtain⟨z,its,n,r,hl,e⟩:=I.lstM hH
 refine call_meets F.slot_list_append ⟨_,e,rfl⟩ F.entry_list_append (F.args_list_append_2 _ _) (PySem.list_append l its.toArray n u (by rw[List.size_toArray];omega)) ⟨e,?_⟩
 refine⟨.non,_,I.lset (its':=its++[u]) hH e (by simp) (r.append (.cons ru .nil)) ?_,rfl,q⟩
 rw[List.length_append,List.length_singleton]
 omega
noncomputable def rExtend:V→List V→Hp→VK→Prop:=fun x vs H Q=>∃l b xs zs,x=.ref l∧vs=[.ref b]∧H l=some (.lst xs)∧H b=some (.lst zs)∧xs.length+zs.length≤sizeLine∧Q .non (upd H l (.lst (xs++zs)))
theorem mt_extend:MtM X "list.extend" rExtend:=by
 intro pins s σ H x vs v us Q I rx rv h
 obtain⟨l,b,xs,zs,rfl,rfl,hH,hB,hz,q⟩:=h
 cases rx
 obtain⟨u,rfl,ru⟩:=rv.one
 cases ru
 obtain⟨z,its,n,r,hl,e⟩:=I.lstM hH
 obtain⟨z2,its2,n2,r2,hl2,e2⟩:=I.lstM hB
 have hsz:its.toArray.size+its2.toArray.size≤sizeLine:=by rw[List.size_toArray,List.size_toArray];omega
 have hlong:¬(!its.toArray.isEmpty&&Builtin.List.listTooLong (its.toArray.size+its2.toArray.size))=true:=by
  rw[notLongL hsz,Bool.and_false]
  exact Bool.false_ne_true
 refine call_meets F.slot_list_extend ⟨_,e,rfl⟩ F.entry_list_extend (F.args_list_extend_2 _ _)
  (AutoSeq1.list_extend_list_list_0 l its.toArray n b its2.toArray n2 hlong (by rw[List.size_toArray];omega) (by omega)) ⟨e,e2,?_⟩
 refine⟨.non,_,I.lset (its':=its++its2) hH e (by simp) (r.append r2) ?_,rfl,q⟩
 rw[List.length_append]
 omega
end
section
variable{prog:Program}{w:World}{A:Around}{E:Value→Shared→Prop}{s:Shared}
set_option maxRecDepth 100000 in
end
section
variable{X:Cx}
end
end L2
namespace Att
open PySem PySem.W PySem.Calls PyProof.Rows
theorem ints_of_wellAll {P:Params}{h:Heap}:∀(ns:List Int) (vs:List Value),WellAll P h vs (ns.map WData.int)→IntsAre vs ns:=by
 intro ns
 induction ns with
 |nil=>
  intro vs w
  rw[List.map_nil]at w
  cases w
  exact .nil
 |cons n ns ih=>
  intro vs w
  rw[List.map_cons]at w
  cases w with
  |cons a b=>
   cases a
   exact .cons _ _ (ih _ b)
theorem script_of {l:OpenLaw}{n:Nat}(hn:l.most=some n) {P:Params}{h:Heap}{args:List WData}{vals:List Value}
  (hpre:l.row.toRowW.claim.pre args=true) (hwl:WellAll P h vals args):
  ∃a vs ns,vals=[Value.ref a]∧args=[WData.list (ns.map WData.int)]∧h.get? a=some {cls:=.type "list",data:=.seq vs.toArray}∧IntsAre vs ns∧ns.length≤n:=by
 have hsh:WShape.hasAll [] args [.list .int]=true:=(pre_splitW hpre).1
 have hc:l.pre.holds [] {args:=args}=true:=(pre_splitW hpre).2
 obtain⟨d,r,rfl,h1,h2⟩:=hasAllW_cons hsh
 obtain rfl:=hasAllW_nil h2
 obtain⟨xs,rfl,h3⟩:=hasW_list h1
 obtain⟨ns,rfl⟩:=items_int h3
 have hlen:ns.length≤n:=by
  unfold OpenLaw.pre at hc
  have h4:(WTm.not (.lt (.lit (.int (n:Int))) (.len (.arg 0)))).holds [] {args:=[.list (ns.map .int)]}=true:=by
   have h4:=(holds_andW hc).1
   rw[hn]at h4
   exact h4
  have h5:=condW_of h4 (w_not (w_lt w_lit (w_len_list (w_arg rfl))))
  rw[List.length_map]at h5
  refine Nat.le_of_not_lt fun q=>?_
  have q':(n:Int)<((ns.length:Nat):Int):=by omega
  first
   |(rw[decide_eq_true q']at h5;exact absurd h5 (by decide))
   |(simp at h5;omega)
 cases hwl with
 |cons w1 w2=>
  cases w2
  cases w1 with
  |list ho hall=>exact⟨_,_,ns,rfl,rfl,ho,ints_of_wellAll ns _ hall,hlen⟩
theorem post_true (l:OpenLaw) (args:List WData):l.row.toRowW.claim.post args (.bool true) args=true:=
 postW_of (r:=l.row.toRowW) (X:=(true==true))
  (show WShape.has [] (.bool true) .bool=true by first|rfl|decide|simp[WShape.has,WShape.arms,WShape.armsAll])
  (show(WTm.eq .res (.lit (.bool true))).value [] {args:=args,res:=some (.bool true),after:=args}=some (.bool (true==true)) from w_eq_bool (w_res rfl) w_lit) rfl
theorem attach_call {l:OpenLaw}{n:Nat}{q:Program}{loose:List Str}{XP:(Str→Option Value)→Heap→Prop}{YP:World→Heap→Prop}{d:DefRec}
  (hn:l.most=some n) (hdf:d.params.defaults=[])
  (call:∀(w:World) (s₀ s₁:Shared) (mg mb:Str→Option Value) (fa:Addr) (o:Obj) (pm cd doc:Value) (a:Addr) (vs:List Value) (ns:List Int),
   Ground q loose [] XP w s₀ mg mb s₁.heap→YP w s₁.heap→
   s₁.heap.get? fa=some o→o.data=.func (docDef d.name d.params d.body d.scope pm cd doc)→s₁.heap.CodeRec cd d.name→mg d.name=some (.ref fa)→
   s₁.heap.get? a=some {cls:=.type "list",data:=.seq vs.toArray}→IntsAre vs ns→ns.length≤n→s₁.gens=#[]→
   codeAny (model l.prog w) callerA (.call (.ref fa) ⟨[.ref a],[]⟩) (fun r s'=>r=.ok (.ret (.bool true))∧OldK s₁.heap s'.heap∧s'.os=s₁.os∧AllBare s'.gens) s₁):
  WalkO q loose XP YP l.row.toRowW d [] (fun f vs=>PySem.call f vs):=by
 intro w s₀ s₁ mg mb G Y fa o pm cd doc dV kV ho hd hcd hD hmg hg args vals as hpre hlay hrd hwl hlo
 obtain rfl:dV=.none:=Dflts.none hD hdf
 obtain rfl:kV=.none:=Dflts.noKw hD
 obtain⟨a,vs,ns,rfl,rfl,hobj,hints,hlen⟩:=script_of hn hpre hwl
 refine enter_call (codeAny_mono (call w s₀ s₁ mg mb fa o pm cd doc a vs ns G Y ho (fd_plain hd) hcd hmg hobj hints hlen hg) fun r s' hq=>?_)
 obtain⟨rfl,h2,h3,h4⟩:=hq
 exact⟨.inl ⟨.bool true,.bool true,[],rfl,fun _=>rfl,.bool true,post_true l _,fun _=>⟨List.Pairwise.nil,fun _ hm=>(nomatch hm)⟩⟩,h2,h3,h4⟩
section
variable{prog:Program}{w:World}{A:Around}{E:Value→Shared→Prop}{s:Shared}{K:Frag}
end
end Att
namespace L2
open PySem PySem.Spec PyProof.Rows
theorem vals_ints:∀{vs:List Value}{ns:List Int},IntsAre vs ns→Vals (ns.map V.int) vs
 |_,_,.nil=>.nil
 |_,_,.cons n t h=>.cons ⟨t,rfl⟩ (vals_ints h)
noncomputable def Only (H:Hp):Prop:=∀b,H b=none∨∃o xs,H b=some (.frz o (.lst xs))
theorem law_call {P:Program}{w:World}{K:Frag}{mg mb:Str→Option Value}{CX:CXT}{k:Nat}{fa a:Addr}{fd:FuncData}{x:Str}{sp:Sp}{s₁:Shared}{vs:List Value}{ns:List Int}
  (KX:K.In s₁.heap) (hns:s₁.heap.Ns mainGlobals mg) (hb:s₁.heap.Ns builtinsNs mb) (hbb:∀x:Str,x≠"__name__"→mb x=bootBuiltins x) (hlim:s₁.heap.NoLimit) (hg:s₁.gens=#[])
  (ha:s₁.heap.get? a=some {cls:=.type "list",data:=.seq vs.toArray}) (hi:IntsAre vs ns) (hl:ns.length≤sizeLine) (hr:Room k callerA)
  (F:∀base:Heap,K.In base→base.Ns mainGlobals mg→FnOk P w K mg base CX k fa fd [x] sp) (hbind:∀(s:Shared) (u:Value),BindsTo s fd ⟨[u],[]⟩ [(x,u)])
  (hsp:∀H:Hp,Only H→SqL K H a (ns.map V.int)→sp [.ref a] H (fun v _=>v=.bl true) fun _ _ _=>False)
  (hCX:∀H e s',CX [] H s₁ (fun _ _ _=>False) e s'→False):
  codeAny (model P w) callerA (.call (.ref fa) ⟨[.ref a],[]⟩) (fun r s'=>r=.ok (.ret (.bool true))∧OldK s₁.heap s'.heap∧s'.os=s₁.os∧AllBare s'.gens) s₁:=by
 have rv:=vals_ints hi
 have lenV:=hi.length
 have core:∀H:Hp,Only H→SqL K H a (ns.map V.int)→HOk P w H s₁.heap→(∀b,H b≠none→b=a)→(H a≠none→K.lookup a=none)→
   codeAny (model P w) callerA (.call (.ref fa) ⟨[.ref a],[]⟩) (fun r s'=>r=.ok (.ret (.bool true))∧OldK s₁.heap s'.heap∧s'.os=s₁.os∧AllBare s'.gens) s₁:=by
  intro H hO hS hok hA hK
  have base_of:∀{b:Addr}{o:Obj},s₁.heap.get? b=some o→H b=none→(hidT s₁.heap H).get? b=some o:=fun e n=>hidT_get e n
  have noA:∀{b:Addr}{o:Obj}{es:Array DictEntry}{ep:Nat},s₁.heap.get? b=some o→o.data=.dict es ep→H b=none:=fun{b o es ep} e d=>by
   cases q:H b with
   |none=>rfl
   |some u=>
    have e':b=a:=hA b (by rw[q];simp)
    subst e'
    rw[ha]at e;cases e
    have d':Data.seq vs.toArray _=Data.dict es ep:=d
    cases d'
  have nsK:∀{b:Addr}{m:Str→Option Value},s₁.heap.Ns b m→(hidT s₁.heap H).Ns b m:=fun{b m} ⟨o,es,ep,e,d,r⟩=>⟨o,es,ep,base_of e (noA e d),d,r⟩
  have hKb:K.In (hidT s₁.heap H):=fun b o e=>base_of (KX b o e) (by
   cases q:H b with
   |none=>rfl
   |some u=>
    have e':b=a:=hA b (by rw[q];simp)
    subst e'
    rw[hK (by rw[q];simp)]at e;cases e)
  have hM:Mod K mg (hidT s₁.heap H):=⟨hKb,nsK hns,⟨mb,nsK hb,hbb⟩,let ⟨mc,h1,h2⟩:=hlim;⟨mc,nsK h1,h2⟩⟩
  have e0:Env0 P w K mg (hidT s₁.heap H) callerA [] s₁ H:=⟨rfl,hM,fun b o e=>of_hidT e,Nat.le_of_eq (hidT_size _ _),trivial,fun b hb=>absurd (show b∈([]:List Addr) from hb) (by simp),hok,.of_eq hg⟩
  refine codeAny_mono ((F _ hKb (nsK hns)).run callerA [] s₁ H ⟨[.ref a],[]⟩ [.ref a] [.ref a] _ _ hr e0 (hbind s₁ (.ref a)) (.cons rfl .nil) (hsp H hO hS)) fun r s' h=>?_
  cases r with
  |error e=>exact(hCX H e s' h).elim
  |ok fl=>
   cases fl with
   |next=>exact False.elim h
   |brk=>exact False.elim h
   |cont=>exact False.elim h
   |ret u=>
    obtain⟨v,H',os,bare,un,hok',r',q⟩:=h
    have q':v=.bl true:=q
    subst q'
    obtain rfl:u=Value.bool true:=r'
    refine⟨rfl,OldK.of_keep fun b o e=>?_,os,bare⟩
    cases q:H b with
    |none=>exact un.keep b o e q (by intro z;exact absurd (show b∈([]:List Addr) from z) (by simp)) (by simp)
    |some u=>
     rcases hO b with z|⟨ob,xs,z⟩
     ·rw[q]at z;cases z
     ·have z2:=un.frzs b ob _ z
      obtain⟨e1,_⟩:=hok b _ z
      obtain⟨e2,_⟩:=hok' b _ z2
      rw[e]at e1;cases e1
      exact e2
 cases hk:K.lookup a with
 |some o=>
  have e:=KX a o hk
  rw[ha]at e
  cases e
  refine core (fun _=>none) (fun _=>.inl rfl) (.inr ⟨_,vs.toArray,_,hk,rfl,rfl,rfl,by rw[List.size_toArray,lenV];exact hl,by simpa using rv⟩) (fun b u z=>by have z':(none:Option HO)=some u:=z;cases z') (fun b z=>absurd rfl z) fun z=>absurd rfl z
 |none=>
  refine core (fun b=>if b=a then some (.frz {cls:=.type "list",data:=.seq vs.toArray} (.lst (ns.map V.int))) else none) (fun b=>?_) (.inl (.inr ⟨{cls:=.type "list",data:=.seq vs.toArray},if_pos rfl⟩)) (fun b u z=>?_) (fun b z=>?_) fun _=>hk
  ·by_cases hb:b=a
   ·exact .inr ⟨_,_,if_pos hb⟩
   ·exact .inl (if_neg hb)
  ·by_cases hb:b=a
   ·have z':=(if_pos hb).symm.trans z
    cases z'
    subst hb
    exact⟨ha,by rw[List.length_map];exact hl,vs,_,rv,ha⟩
   ·have z':=(if_neg hb).symm.trans z
    cases z'
  ·by_cases hb:b=a
   ·exact hb
   ·exact absurd (if_neg hb) z
end L2
namespace L2
open PySem PySem.Spec PyProof.Rows
noncomputable abbrev KOf {K:Frag}{h:Heap}(_:K.In h):Frag:=K
theorem walk_of {l:PySem.W.OpenLaw}{n k:Nat}{q:Program}{loose:List Str}{XP:(Str→Option Value)→Heap→Prop}{YP:World→Heap→Prop}{d:DefRec}{K:Params→Frag}{CX:World→CXT}{sp:World→Sp}{x:Str}
  (hn:l.most=some n) (hn2:n≤sizeLine) (hdf:d.params.defaults=[]) (hr:Room k callerA)
  (hY:∀(w:World) (h:Heap),YP w h→(K w.params).In h)
  (F:∀(w:World) (mg:Str→Option Value) (fa:Addr) (h:Heap),(K w.params).In h→h.Ns mainGlobals mg→mg d.name=some (.ref fa)→
   ∃fd:FuncData,(∀(s:Shared) (u:Value),BindsTo s fd ⟨[u],[]⟩ [(x,u)])∧
    ∀base:Heap,(K w.params).In base→base.Ns mainGlobals mg→FnOk l.prog w (K w.params) mg base (CX w) k fa fd [x] (sp w))
  (hsp:∀(w:World) (H:Hp) (a:Addr) (ns:List Int),ns.length≤n→Only H→SqL (K w.params) H a (ns.map V.int)→sp w [.ref a] H (fun v _=>v=.bl true) fun _ _ _=>False)
  (hCX:∀(w:World) (H:Hp) (s:Shared) (e:Value) (s':Shared),CX w [] H s (fun _ _ _=>False) e s'→False):
  PySem.W.WalkO q loose XP YP l.row.toRowW d [] (fun f vs=>PySem.call f vs):=by
 refine Att.attach_call hn hdf fun w s₀ s₁ mg mb fa o pm cd doc a vs ns G Y ho hd hcd hmg hobj hints hlen hg=>?_
 have KX:=hY w _ Y
 obtain⟨fd,hb,hF⟩:=F w mg fa _ KX G.T.g hmg
 exact law_call KX G.T.g G.T.b G.T.builtins G.T.nolimit hg hobj hints (Nat.le_trans hlen hn2) hr hF hb (fun H hO hS=>hsp w H a ns hlen hO hS) fun H e s'=>hCX w H s₁ e s'
theorem walk_ofK {l:PySem.W.OpenLaw}{n k:Nat}{q:Program}{loose:List Str}{XP:(Str→Option Value)→Heap→Prop}{YP:World→Heap→Prop}{d:DefRec}{K:Params→Frag}{CX:CXT}{sp:Frag→Sp}{x:Str}
  (hn:l.most=some n) (hn2:n≤sizeLine) (hdf:d.params.defaults=[]) (hr:Room k callerA)
  (hY:∀(w:World) (h:Heap),YP w h→(K w.params).In h)
  (F:∀(w:World) (mg:Str→Option Value) (fa:Addr) (h:Heap),(K w.params).In h→h.Ns mainGlobals mg→mg d.name=some (.ref fa)→
   ∃fd:FuncData,(∀(s:Shared) (u:Value),BindsTo s fd ⟨[u],[]⟩ [(x,u)])∧
    ∀base:Heap,(K w.params).In base→base.Ns mainGlobals mg→FnOk l.prog w (K w.params) mg base CX k fa fd [x] (sp (K w.params)))
  (hsp:∀(K:Frag) (H:Hp) (a:Addr) (ns:List Int),ns.length≤n→Only H→SqL K H a (ns.map V.int)→sp K [.ref a] H (fun v _=>v=.bl true) fun _ _ _=>False)
  (hCX:∀(H:Hp) (s:Shared) (e:Value) (s':Shared),CX [] H s (fun _ _ _=>False) e s'→False):
  PySem.W.WalkO q loose XP YP l.row.toRowW d [] (fun f vs=>PySem.call f vs):=
 walk_of (K:=K) (CX:=fun _=>CX) (sp:=fun w=>sp (K w.params)) hn hn2 hdf hr hY F (fun w H a ns h1 h2 h3=>hsp (K w.params) H a ns h1 h2 h3) fun _ H s e s'=>hCX H s e s'
end L2
namespace L2
open PySem PySem.Spec PyProof.Rows
noncomputable def defArgs (s:Stmt):Arguments:=match s with
 |.FunctionDef _ a _ _ _ _ _ _ _ _=>a
 |_=>{posonlyargs:=[],args:=[],vararg:=none,kwonlyargs:=[],kw_defaults:=[],kwarg:=none,defaults:=[]}
noncomputable def ai (s:Stmt):List Stmt:=match s with
 |.FunctionDef _ _ b _ _ _ _ _ _ _=>b
 |_=>[]
noncomputable def aa (s:Stmt):Scope:=match s with
 |.FunctionDef _ _ _ _ _ _ sc _ _ _=>sc
 |_=>{kind:=.function,names:=[],isGenerator:=false,isCoroutine:=false}
noncomputable abbrev CX0:CXT:=fun _ _ _ _ _ _=>False
noncomputable abbrev E0:XK:=fun _ _ _=>False
theorem pass0 {X:Cx}:Passes CX0 X E0:=fun _ _ _ _ _ _ _ h=>h.elim
structure Fun (K:Frag) (x qual:Str) (st:Stmt) (f:Addr) (fd:FuncData):Prop where
 ex:∃(oc:Value) (od:Option Addr) (kV doc pm:Value) (an:Option Addr) (cdv ct:Value) (osl:Array (Option Value)),
  fd=PySem.W.fnOf x qual (defArgs st) (ai st) (aa st) .none kV doc pm an cdv ct∧K.lookup f=some ⟨oc,od,.func fd,osl⟩∧PySem.W.codeIn K cdv qual=true
 kp:PySem.W.keepIn K (.ref f)=true
section
variable{P:Program}{w:World}{K:Frag}{mg:Str→Option Value}{base:Heap}
theorem Fun.ok {x qual:Str}{st:Stmt}{f:Addr}{fd:FuncData}{N ps:List Str}{k:Nat}{sp:Sp}(F:Fun K x qual st f fd) (S:FnScope N ps (aa st)) (len:∀vs H Q E,sp vs H Q E→vs.length=ps.length)
  (hbody:∀(cdv:Value) (A:Around) (outer:List Env) (s:Shared) (H:Hp) (vs:List V) (Q:VK) (E:XK),Room k (A.deeper (envOfC qual (aa st) s.heap.objs.size f cdv))→sp vs H Q E→
   ∃t,PSs (cxOf CX0 P w K mg base N qual (aa st) f cdv A outer s H E).nox (ai st) t∧t {nx:=fun _ H'=>Q .non H',rt:=Q} (start N vs) H):FnOk P w K mg base CX0 (k+1) f fd ps sp:=by
 obtain⟨oc,od,kV,doc,pm,an,cdv,ct,osl,rfl,lk,hcd⟩:=F.ex
 refine fn_of lk hcd S len fun A outer s H vs Q E hr hsp=>?_
 obtain⟨t,h,q⟩:=hbody cdv A outer s H vs Q E hr hsp
 exact⟨t,h.nox,q⟩
theorem Fun.binds {x qual:Str}{st:Stmt}{f:Addr}{fd:FuncData}{ps:List Str}(F:Fun K x qual st f fd)
  (h:∀(kV doc pm:Value) (an:Option Addr) (cdv ct:Value) (us:List Value),us.length=ps.length→bindArgs (PySem.W.fnOf x qual (defArgs st) (ai st) (aa st) .none kV doc pm an cdv ct) ⟨us,[]⟩=pure (ps.zip us)):Binds K fd ps []:=by
 obtain⟨oc,od,kV,doc,pm,an,cdv,ct,osl,rfl,lk,hcd⟩:=F.ex
 exact .all (h kV doc pm an cdv ct)
theorem fun_mk {x qual:Str}{st:Stmt}{f:Addr}{oc:Value}{od an:Option Addr}{osl:Array (Option Value)}{kV doc pm cdv ct:Value}(l:K.lookup f=some ⟨oc,od,.func (PySem.W.fnOf x qual (defArgs st) (ai st) (aa st) .none kV doc pm an cdv ct),osl⟩)
  (c:PySem.W.codeIn K cdv qual=true) (k:PySem.W.keepIn K (.ref f)=true):Fun K x qual st f (PySem.W.fnOf x qual (defArgs st) (ai st) (aa st) .none kV doc pm an cdv ct):=⟨⟨oc,od,kV,doc,pm,an,cdv,ct,osl,rfl,l,c⟩,k⟩
end
section
variable{X:Cx}
end
theorem iteF {A B:Prop}(h:B):if false=true then A else B:=by
 rw[if_neg Bool.false_ne_true]
 exact h
theorem iteT {A B:Prop}(h:A):if true=true then A else B:=by
 rw[if_pos rfl]
 exact h
noncomputable def Same (H H':Hp):Prop:=∀b o,H b=some o→H' b=some o
theorem Same.refl (H:Hp):Same H H:=fun _ _ h=>h
theorem Same.trans {H H1 H2:Hp}(a:Same H H1) (b:Same H1 H2):Same H H2:=fun c o h=>b c o (a c o h)
theorem Same.free {H H':Hp}(e:Same H H') {l:Addr}(h:H' l=Option.none):H l=Option.none:=by
 cases q:H l with
 |none=>rfl
 |some o=>
  rw[e l o q]at h
  cases h
section
variable{κ:Type}[DecidableEq κ]
end
end L2
namespace L2
open PySem PySem.Spec PyProof.Rows
noncomputable abbrev ao (X:Cx) (scope:Scope) (cl:List (Str×Addr)) (C:Addr) (s₂:Shared) (H₂:Hp) (ex:List Addr) (pn:List (Addr×Obj)):Cx:=
 {X with s₀:=s₂,H₀:=H₂,env:=compEnvC scope cl C X.env,outer:=X.stack,stack:=X.stack,ex:=ex,fn:=fun _=>false,pn:=pn,xe:=fun _ _=>False}
noncomputable def mask (bs:List Bool) (σ:St):St:=List.zipWith (fun(b:Bool) o=>if b=true then o else none) bs σ
theorem mask_length {bs:List Bool}{σ:St}(h:bs.length=σ.length):(mask bs σ).length=σ.length:=by
 unfold mask;rw[List.length_zipWith,h,Nat.min_self]
theorem mask_get {bs:List Bool}{σ:St}{i:Nat}{v:V}(h:(mask bs σ)[i]?=some (some v)):bs[i]?=some true∧σ[i]?=some (some v):=by
 unfold mask at h
 rw[List.getElem?_zipWith]at h
 cases e1:bs[i]? with
 |none=>rw[e1]at h;simp at h
 |some b=>
  cases e2:σ[i]? with
  |none=>rw[e1,e2]at h;simp at h
  |some o=>
   rw[e1,e2]at h
   simp only[Option.some.injEq]at h
   cases b with
   |false=>simp at h
   |true=>simp at h;exact⟨rfl,by rw[h]⟩
noncomputable def PTs (X:Cx) (ifs:List Expr) (t:TT):Prop:=
 ∀(pins:List (Addr×Obj)) (s:Shared) (σ:St) (H:Hp) (Q:Bool→Hp→Prop),Inv X pins σ H s→t σ H Q→
  wpAny (model X.prog X.w) X.A (forIn ifs true fun c r=>if r=true then do let ok ←isTrue c X.env (eval c X.env);pure (ForInStep.yield ok) else pure (ForInStep.yield r)) (TP X pins σ Q) X.xe s
noncomputable def tTrue:TT:=fun _ H Q=>Q true H
theorem pts_nil {X:Cx}:PTs X [] tTrue:=fun pins s σ H Q I h=>wpAny_tests_nil ⟨H,I,h⟩
theorem pts_one {X:Cx}{c:Expr}{t:TT}(h:PT X c t):PTs X [c] t:=fun pins s σ H Q I hq=>wpAny_tests_one (h pins s σ H Q I hq)
noncomputable def closL (env:Env):List (Str×NameKind)→List (Str×Addr)→List (Str×Addr)
 |[],acc=>acc
 |(n,k)::r,acc=>if(k==NameKind.free)=true then closL env r ((n,(env.cells.lookup n).getD 0)::acc) else closL env r acc
theorem closL_eq (env:Env):∀(names:List (Str×NameKind)) (acc:List (Str×Addr)),(∀y∈names,y.2=.free→∃c,env.cells.lookup y.1=some c)→
  (forIn names acc (fun(x:Str×NameKind) (cs:List (Str×Addr))=>(match x with
   |(name,kind)=>if(kind==.free)=true then(do let c ←cellOf env name;pure (ForInStep.yield ((name,c)::cs))) else pure (ForInStep.yield cs):Sem (ForInStep (List (Str×Addr))))))=pure (closL env names acc)
 |[],acc,_=>rfl
 |(n,k)::r,acc,h=>by
  by_cases hk:k=.free
  ·subst hk
   obtain⟨c,e⟩:=h (n,.free) List.mem_cons_self rfl
   have ih:=closL_eq env r ((n,c)::acc) fun y hy=>h y (List.mem_cons_of_mem _ hy)
   have ec:cellOf env n=pure c:=by unfold cellOf;rw[e]
   rw[List.forIn_cons]
   simp only[beq_self_eq_true,if_true,ec,pure_bind]
   rw[ih]
   simp only[closL,beq_self_eq_true,if_true,e,Option.getD_some]
  ·have hb:(k==NameKind.free)=false:=by simpa using hk
   have ih:=closL_eq env r acc fun y hy=>h y (List.mem_cons_of_mem _ hy)
   rw[List.forIn_cons]
   simp only[hb,Bool.false_eq_true,if_false,pure_bind]
   rw[ih]
   conv=>rhs;rw[closL.eq_def]
   simp only[hb,Bool.false_eq_true,if_false]
theorem closL_cons (env:Env):∀(names:List (Str×NameKind)) (acc:List (Str×Addr)),(∀y∈names,y.2=.free→∃c,env.cells.lookup y.1=some c)→
  (∀x c,acc.lookup x=some c→env.cells.lookup x=some c)→∀x c,(closL env names acc).lookup x=some c→env.cells.lookup x=some c
 |[],acc,_,ha=>ha
 |(n,k)::r,acc,h,ha=>by
  have hr:∀y∈r,y.2=.free→∃c,env.cells.lookup y.1=some c:=fun y hy=>h y (List.mem_cons_of_mem _ hy)
  unfold closL
  by_cases hk:(k==NameKind.free)=true
  ·rw[if_pos hk]
   obtain⟨c,e⟩:=h (n,k) List.mem_cons_self (eq_of_beq hk)
   refine closL_cons env r _ hr fun x d hx=>?_
   rw[List.lookup_cons]at hx
   cases q:x==n with
   |true=>
    rw[q,e]at hx
    rw[eq_of_beq q,e]
    simpa using hx
   |false=>rw[q]at hx;exact ha x d hx
  ·rw[if_neg hk];exact closL_cons env r acc hr ha
theorem closL_has (env:Env) (x:Str):∀(names:List (Str×NameKind)) (acc:List (Str×Addr)),((x,NameKind.free)∈names∨∃c,acc.lookup x=some c)→∃c,(closL env names acc).lookup x=some c
 |[],acc,h=>by
  rcases h with h|h
  ·cases h
  ·exact h
 |(n,k)::r,acc,h=>by
  unfold closL
  by_cases hk:(k==NameKind.free)=true
  ·rw[if_pos hk]
   refine closL_has env x r _ ?_
   by_cases q:(x==n)=true
   ·exact .inr ⟨_,by rw[List.lookup_cons,q]⟩
   ·rcases h with h|⟨c,h⟩
    ·rcases List.mem_cons.mp h with h|h
     ·cases h;simp at q
     ·exact .inl h
    ·exact .inr ⟨c,by rw[List.lookup_cons];simp[q,h]⟩
  ·rw[if_neg hk]
   refine closL_has env x r _ ?_
   rcases h with h|h
   ·rcases List.mem_cons.mp h with h|h
    ·cases h;simp at hk
    ·exact .inl h
   ·exact .inr h
theorem closureFor_eq {scope:Scope}{env:Env}(h:∀y∈scope.names,y.2=.free→∃c,env.cells.lookup y.1=some c):closureFor scope env=pure (closL env scope.names []):=by
 have e:=closL_eq env scope.names [] h
 have q:closureFor scope env=((forIn scope.names [] (fun(x:Str×NameKind) (cs:List (Str×Addr))=>(match x with
   |(name,kind)=>if(kind==.free)=true then(do let c ←cellOf env name;pure (ForInStep.yield ((name,c)::cs))) else pure (ForInStep.yield cs):Sem (ForInStep (List (Str×Addr)))))) >>= fun cs=>pure cs):=rfl
 rw[q,e,pure_bind]
theorem lookup_relabel {env:Env}:∀{names:List (Str×NameKind)}{x:Str}{k:NameKind},
  (names.map fun(n,k)=>if(k==NameKind.free&&env.scope.kind==.function&&env.kindOf n==some .cell) then(n,NameKind.cell) else(n,k)).lookup x=some k→
  names.lookup x=some k∨(names.lookup x=some .free∧k=.cell)
 |[],_,_,h=>by simp at h
 |(n,k')::r,x,k,h=>by
  have ih:=@lookup_relabel env r x k
  have h':List.lookup x ((if(k'==NameKind.free&&env.scope.kind==.function&&env.kindOf n==some .cell)=true then(n,NameKind.cell) else(n,k'))::(r.map fun(n,k)=>if(k==NameKind.free&&env.scope.kind==.function&&env.kindOf n==some .cell) then(n,NameKind.cell) else(n,k)))=some k:=h
  by_cases hc:(k'==NameKind.free&&env.scope.kind==.function&&env.kindOf n==some .cell)=true
  ·rw[if_pos hc]at h'
   rw[List.lookup_cons]at h'⊢
   cases hx:x==n with
   |true=>
    rw[hx]at h'
    simp at h'
    have:k'=.free:=by
     have:=hc
     simp only[Bool.and_eq_true]at this
     exact eq_of_beq this.1.1
    exact .inr ⟨by rw[this],h'.symm⟩
   |false=>rw[hx]at h';exact ih h'
  ·rw[if_neg hc]at h'
   rw[List.lookup_cons]at h'⊢
   cases hx:x==n with
   |true=>rw[hx]at h';exact .inl h'
   |false=>rw[hx]at h';exact ih h'
noncomputable def tComp (wi:TI) (bs:List Bool) (g:TG) (tt:TT) (te:TE):TE:=fun σ H Q=>wi σ H fun J H1=>∀acc,H1 acc=none→
 ∃W:Nat→Nat→List V→St→Hp→Prop,(∃m,W 0 m [] (mask bs σ) (upd H1 acc (.lst [])))∧∀i m ys σ H,W i m ys σ H→H acc=some (.lst ys)∧
  ((J.stop i H∧Q (.ref acc) H)∨(J.go i H∧∀x H',J.yld i H x H'→g x σ H' fun σ2 H2=>tt σ2 H2 fun ok H3=>if ok=true
   then te σ2 H3 fun v H4=>H4 acc=some (.lst ys)∧ys.length<sizeLine∧∃m',m'<m∧W (i+1) m' (ys++[v]) σ2 (upd H4 acc (.lst (ys++[v])))
   else ∃m',m'<m∧W (i+1) m' ys σ2 H3))
section
variable{X:Cx}{pins:List (Addr×Obj)}{σ:St}{H:Hp}{s:Shared}{scope:Scope}{bs:List Bool}{fp:List Addr}
structure CompScope (X:Cx) (scope:Scope) (bs:List Bool):Prop where
 kind:scope.kind=.function
 cell:∀y∈scope.names,y.2≠.cell
 loc:∀y∈scope.names,y.2=.local→scope.names.lookup y.1=some .local
 fre:∀y∈scope.names,y.2=.free→scope.names.lookup y.1=some .free∧(X.env.kindOf y.1=some .cell∨X.env.kindOf y.1=some .free)
 len:bs.length=X.N.length
 vis:∀(i:Nat) (x:Str),X.N[i]?=some x→bs[i]?=some true→scope.names.lookup x=some .free
theorem CompScope.has (S:CompScope X scope bs) (I:Inv X pins σ H s):∀y∈scope.names,y.2=.free→∃c,X.env.cells.lookup y.1=some c:=fun y hy e=>I.ok.has y.1 (S.fre y hy e).2
theorem inv_comp {h':Heap}{m:Str→Option Value}(S:CompScope X scope bs) (I:Inv X pins σ H s) (hf:∀b∈fp,FpOk X pins H b) (ho:∀b∈fp,∃o,s.heap.get? b=some o)
  (hns:h'.Ns s.heap.objs.size m) (hk:∀b o,s.heap.get? b=some o→h'.get? b=some o) {t':Nat}:
  Inv (ao X scope (closL X.env scope.names []) s.heap.objs.size s H fp (X.pn++pins)) [] (mask bs σ) H {s with heap:=h',toks:=t'}:=by
 have hh:=S.has I
 have cons:=closL_cons X.env scope.names [] hh (fun x c e=>by simp at e)
 refine⟨⟨I.ok.mod,S.kind,I.ok.glob,I.ok.blt,Nat.le_refl _,fun x y c h1 h2=>I.ok.inj x y c (cons x c h1) (cons y c h2),fun x hx=>?_,(fun x c h=>nomatch h),I.ok.hd,I.ok.frames,.inl rfl,fun b hb=>⟨?_,fun x c e=>(hf b hb).2.2.2.2.1 x c (cons x c e)⟩,
  I.bs,Nat.le_trans I.ok.bsz I.sz,fun b o e hb=>?_,fun b hb z=>?_,I.stack,I.stkFree⟩,
  rfl,I.bare,Un.kept hk,⟨m,hns,fun i x v e1 e2 e3=>?_⟩,fun x c e=>?_,I.hok.fresh (Nat.le_refl _),fun x c e=>I.freeC x c (cons x c e),fun p hp=>?_,I.hok.kept hk,?_⟩
 ·have hx':(relabel scope X.env).names.lookup x=some .cell∨(relabel scope X.env).names.lookup x=some .free:=hx
  have key:(x,NameKind.free)∈scope.names:=by
   rcases hx' with q|q
   ·rcases lookup_relabel q with q|⟨q,_⟩
    ·exact absurd rfl (S.cell _ (PySem.mem_of_lookup q))
    ·exact PySem.mem_of_lookup q
   ·rcases lookup_relabel q with q|⟨_,q⟩
    ·exact PySem.mem_of_lookup q
    ·cases q
  exact closL_has X.env x scope.names [] (.inl key)
 ·obtain⟨o,e⟩:=ho b hb
  exact Nat.ne_of_lt (Heap.lt_size e)
 ·rcases(hf b hb).2.2.2.1 with z|z
  ·exact I.ok.noex b o e z
  ·exact absurd (Nat.lt_of_lt_of_le (Heap.lt_size (I.ok.bs b o e).1) z) (Nat.lt_irrefl _)
 ·rcases List.mem_cons.mp (I.stkSub b z)with q|q
  ·exact(hf b hb).2.1 q
  ·exact(hf b hb).2.2.1 q
 ·obtain⟨hb,hs⟩:=mask_get e2
  have hfr:=S.vis i x e1 hb
  obtain⟨_,hkd⟩:=S.fre _ (PySem.mem_of_lookup hfr) rfl
  obtain⟨m0,hn0,hl⟩:=I.loc
  have hvis:Vis X.env.scope x:=hkd.elim (fun z=>.inr (.inl z)) fun z=>.inr (.inr z)
  obtain⟨u,ru,lk⟩:=hl i x v e1 hs hvis
  refine⟨u,ru,.inr ⟨?_,?_⟩⟩
  ·rcases e3 with q|q|q
   ·rcases lookup_relabel (show(relabel scope X.env).names.lookup x=some .local from q)with q|⟨_,q⟩
    ·rw[hfr]at q;cases q
    ·cases q
   ·exact .inl q
   ·exact .inr q
  ·rcases lk with⟨kl,_⟩|⟨_,c,ec,ic⟩
   ·rcases hkd with z|z
    ·rw[kl]at z;cases z
    ·rw[kl]at z;cases z
   ·obtain⟨c',e'⟩:=closL_has X.env x scope.names [] (.inl (PySem.mem_of_lookup hfr))
    have e'':=cons x c' e'
    rw[ec]at e'';cases e''
    obtain⟨o,q1,q2⟩:=ic
    exact⟨c,e',o,hk c o q1,q2⟩
 ·obtain⟨v,o,q1,q2⟩:=I.cell x c (cons x c e)
  exact⟨v,o,hk c o q1,q2⟩
 ·have hp':p∈X.pn++pins:=by
   have q:p∈(X.pn++pins)++([]:List (Addr×Obj)):=hp
   rwa[List.append_nil]at q
  obtain⟨e,n,ne,nf,d⟩:=I.pin p hp'
  refine⟨hk _ _ e,n,Nat.ne_of_lt (Heap.lt_size e),fun z=>?_,d⟩
  rcases List.mem_cons.mp (I.stkSub p.1 z)with q|q
  ·exact ne q
  ·exact nf q
 ·rw[mask_length (by rw[S.len,I.len])]
  exact I.len
theorem inv_back {cl:List (Str×Addr)}{pins':List (Addr×Obj)}{σ':St}{H':Hp}{s':Shared}{C:Addr}(I:Inv X pins σ H s) (hf:∀b∈fp,FpOk X pins H b)
  (J:Inv (ao X scope cl C s H fp (X.pn++pins)) pins' σ' H' s'):Inv X pins σ H' s':=by
 refine I.call' (ch:=fp) J.os J.base J.hok J.bare fun b hb=>?_
 obtain⟨f0,f1,f2,f3,f4,f5⟩:=hf b hb
 exact⟨f3,f1,f4,f5⟩
end
section
variable{prog:Program}{w:World}{A:Around}{E:Value→Shared→Prop}{R:Result→Shared→Prop}{s:Shared}
theorem compLoop_go {elt target iter:Expr}{ifs:List Expr}{scope:Scope}{pos:Pos}{it acc:Value}{env:Env}(I:Nat→Shared→Prop)
  (turn:∀n s,I n s→wpAny (model prog w) A (pyNext it) (fun r s₁=>match r with
   |none=>R (.ok .next) s₁
   |some v=>wpAny (model prog w) A (letOwnedTupleGo target it v) (fun _ s₁=>wpAny (model prog w) A (assign target env v) (fun _ s₂=>
     wpAny (model prog w) A (forIn ifs true fun c r=>if r=true then do let ok ←isTrue c env (eval c env);pure (ForInStep.yield ok) else pure (ForInStep.yield r)) (fun ok s₃=>
      if ok=true then wpAny (model prog w) A (eval elt env) (fun x s₄=>
       wpAny (model prog w) A (call (.builtin "list.append") [acc,x]) (fun _ s₅=>∃m,m<n∧I m s₅) (fun _ _=>False) s₄) (fun _ _=>False) s₃
      else ∃m,m<n∧I m s₃) (fun _ _=>False) s₂) (fun _ _=>False) s₁) (fun _ _=>False) s₁) (fun _ _=>False) s)
  (n:Nat) (h:I n s):
  codeAny (model prog w) A (.compLoop (.ListComp elt [⟨target,iter,ifs,0⟩] scope pos) 0 it acc env) R s:=by
 refine codeAny_loop rfl I (fun n s hI=>?_) n h
 show wpAny _ A ((compTurn (.ListComp elt [⟨target,iter,ifs,0⟩] scope pos) 0 it acc env).onRaise (fun x=>do noteFrame x env;theTreesLotGoes x)) _ _ s
 refine wpAny_noted ?_
 rw[compTurn_list]
 refine wpAny_bind (wpAny_standAt (wpAny_bind (wpAny_mono (turn n s hI) (fun r s₁ h₁=>?_) fun _ _ h'=>h'.elim)))
 cases r with
 |none=>exact wpAny_pure h₁
 |some v=>
  refine wpAny_bind (wpAny_mono h₁ (fun _ s₁' h₁'=>?_) fun _ _ h'=>h'.elim)
  refine wpAny_bind (wpAny_mono h₁' (fun _ s₂ h₂=>wpAny_bind (wpAny_mono h₂ (fun ok s₃ h₃=>?_) fun _ _ h'=>h'.elim)) fun _ _ h'=>h'.elim)
  cases ok with
  |false=>exact wpAny_pure ⟨rfl,h₃⟩
  |true=>
   exact wpAny_bind (wpAny_bind (wpAny_mono h₃ (fun x s₄ h₄=>wpAny_bind (wpAny_mono h₄ (fun _ s₅ h₅=>wpAny_pure (wpAny_pure ⟨rfl,h₅⟩)) fun _ _ h'=>h'.elim)) fun _ _ h'=>h'.elim))
end
section
variable{X:Cx}{elt tg iter:Expr}{ifs:List Expr}{scope:Scope}{pos:Pos}{wi:TI}{g:TG}{tt:TT}{te:TE}{bs:List Bool}
theorem comp_block {pins:List (Addr×Obj)}{σ:St}{H:Hp}{s:Shared}{it:Addr}{fp:List Addr}{tn:Nat→Heap→Prop}{J:It}{Q:VK}{E:Value→Shared→Prop}{RR:Value→Addr→Result→Shared→Prop}
  (hc:X.calm=true) (S:CompScope X scope bs)
  (hg:∀cl C s₂ H₂ ex pn,PG (ao X scope cl C s₂ H₂ ex pn) tg g) (ht:∀cl C s₂ H₂ ex pn,PTs (ao X scope cl C s₂ H₂ ex pn) ifs tt) (he:∀cl C s₂ H₂ ex pn,PE (ao X scope cl C s₂ H₂ ex pn) elt te)
  (I:Inv X pins σ H s) (T:Turn X.prog X.w X.K tg J fp it tn) (st:tn 0 s.heap) (hf:∀b∈fp,FpOk X pins H b)
  (hq:∀acc,H acc=none→
   ∃W:Nat→Nat→List V→St→Hp→Prop,(∃m,W 0 m [] (mask bs σ) (upd H acc (.lst [])))∧∀i m ys σ H,W i m ys σ H→H acc=some (.lst ys)∧
    ((J.stop i H∧Q (.ref acc) H)∨(J.go i H∧∀x H',J.yld i H x H'→g x σ H' fun σ2 H2=>tt σ2 H2 fun ok H3=>if ok=true
     then te σ2 H3 fun v H4=>H4 acc=some (.lst ys)∧ys.length<sizeLine∧∃m',m'<m∧W (i+1) m' (ys++[v]) σ2 (upd H4 acc (.lst (ys++[v])))
     else ∃m',m'<m∧W (i+1) m' ys σ2 H3)))
  (hRR:∀D C s' H' m',Inv X pins σ H' s'→Q (.ref D) H'→s'.heap.Ns C m'→H' C=none→C≠X.env.locals→C∉X.fs→X.s₀.heap.objs.size≤C→(∀x c,X.env.cells.lookup x=some c→c≠C)→(∀p∈X.pn++pins,p.1≠C)→
   RR (.ref D) C (.ok .next) s'):
  wpAny (model X.prog X.w) X.A (newList []) (fun acc s₃=>wpAny (model X.prog X.w) X.A (newFunctionEnv scope X.env.globals (closL X.env scope.names []) [] X.env.qual none .none (some X.env)) (fun cenv s₄=>
   codeAny (model X.prog X.w) X.A (.compStart (.ListComp elt [⟨tg,iter,ifs,0⟩] scope pos) 0 (.ref it) acc {cenv with scope:=relabel scope X.env}) (RR acc cenv.locals) s₄) E s₃) E s:=by
 refine wpAny_newObj_type ?_
 have hfr:H s.heap.objs.size=none:=I.fresh
 have I3:Inv X pins σ (upd H s.heap.objs.size (.lst [])) {s with heap:=s.heap.push {cls:=.type "list",dict:=none,data:=.seq ([]:List Value).toArray}}:=I.lnew (its:=[]) (t':=s.toks) .nil (Nat.zero_le _)
 have stp:tn 0 (s.heap.push {cls:=.type "list",dict:=none,data:=.seq ([]:List Value).toArray}):=T.keep _ _ _ st fun b _ o e=>Heap.get?_push_of_some _ e
 have hlt:∀b∈fp,b<s.heap.objs.size:=fun b hb=>by
  obtain⟨o,e,_⟩:=T.obj _ _ st b hb
  exact Heap.lt_size e
 have f3:∀b∈fp,FpOk X pins (upd H s.heap.objs.size (.lst [])) b:=fun b hb=>⟨by rw[upd_ne (Nat.ne_of_lt (hlt b hb))];exact(hf b hb).1,(hf b hb).2⟩
 obtain⟨W,⟨m0,w0⟩,turn⟩:=hq s.heap.objs.size hfr
 generalize hacc:s.heap.objs.size=acc at*
 generalize hs3:({s with heap:=s.heap.push {cls:=.type "list",dict:=none,data:=.seq ([]:List Value).toArray}}:Shared)=s3 at*
 have stp3:tn 0 s3.heap:=by rw[←hs3];exact stp
 refine wpAny_newFunctionEnv S.cell (fun y hy=>by simp at hy) (fun h₁ hns₁ hsb₁=>?_) S.kind
 have keep:∀b o,s3.heap.get? b=some o→h₁.get? b=some o:=fun b o e=>(hsb₁.2 b (Nat.ne_of_lt (Heap.lt_size e))).trans (Heap.get?_push_of_some _ e)
 have ob3:∀b∈fp,∃o,s3.heap.get? b=some o:=fun b hb=>by
  obtain⟨o,e,_⟩:=T.obj _ _ stp3 b hb
  exact⟨o,e⟩
 have I4:=inv_comp (t':=s3.toks+([]:List (Str×Value)).length) S I3 f3 ob3 hns₁ keep
 have st4:tn 0 h₁:=T.keep _ _ _ stp3 fun b _ o e=>keep b o e
 have stat:∀{H':Hp}{pl:List (Addr×Obj)},(∀b∈fp,H' b=none)→∀b∈fp,FpOk (ao X scope (closL X.env scope.names []) s3.heap.objs.size s3 (upd H acc (.lst [])) fp (X.pn++pins)) [] H' b:=fun{H' pl} hn b hb=>by
  obtain⟨_,f1,f2,f3',f4,f5⟩:=f3 b hb
  obtain⟨o,e⟩:=ob3 b hb
  refine⟨hn b hb,Nat.ne_of_lt (Heap.lt_size e),fun z=>?_,.inl hb,fun x c e=>f4 x c (closL_cons X.env scope.names [] (S.has I3) (fun x c e=>by simp at e) x c e),fun p hp=>?_⟩
  ·rcases List.mem_cons.mp (I3.stkSub b z)with q|q
   ·exact f1 q
   ·exact f2 q
  ·have q:p∈(X.pn++pins)++([]:List (Addr×Obj)):=hp
   rw[List.append_nil]at q
   exact f5 p q
 let X':Cx:=ao X scope (closL X.env scope.names []) s3.heap.objs.size s3 (upd H acc (.lst [])) fp (X.pn++pins)
 have loop:∀s5:Shared,s5={s3 with heap:=h₁,toks:=s3.toks+([]:List (Str×Value)).length}→
   codeAny (model X.prog X.w) X.A (.compLoop (.ListComp elt [⟨tg,iter,ifs,0⟩] scope pos) 0 (.ref it) (.ref acc) (compEnvC scope (closL X.env scope.names []) s3.heap.objs.size X.env)) (RR (.ref acc) s3.heap.objs.size) s5:=by
  rintro s5 rfl
  refine compLoop_go (fun n s'=>∃i ys σ' H',Inv (ao X scope (closL X.env scope.names []) s3.heap.objs.size s3 (upd H acc (.lst [])) fp (X.pn++pins)) [] σ' H' s'∧tn i s'.heap∧(∀b∈fp,H' b=none)∧W i n ys σ' H') ?_ m0
   ⟨0,[],mask bs σ,upd H acc (.lst []),I4,st4,fun b hb=>(f3 b hb).1,w0⟩
  rintro n s6 ⟨i,ys,σ6,H6,I6,st6,fr6,w6⟩
  obtain⟨hac,way⟩:=turn i n ys σ6 H6 w6
  rcases way with⟨stop,qn⟩|⟨go,step⟩
  ·refine thn (T.done X' rfl rfl rfl hc i [] s6 σ6 H6 (fun _ _=>False) I6 (stat (pl:=[]) fr6) st6 stop) fun r s7 ⟨hr,I7⟩=>?_
   subst hr
   obtain⟨m',hn',_⟩:=I7.loc
   have IX:=inv_back (C:=s3.heap.objs.size) I3 f3 I7
   refine hRR acc s3.heap.objs.size s7 H6 m' IX qn hn' I7.free (Nat.ne_of_gt I3.lt) (I3.nofs (Nat.le_refl _)) I3.sz (fun x c e z=>?_) fun p hp z=>?_
   ·obtain⟨v,q⟩:=I3.cell x c e
    exact absurd q.lt (by rw[z];exact Nat.lt_irrefl _)
   ·exact absurd (Heap.lt_size (I3.pin p hp).1) (by rw[z];exact Nat.lt_irrefl _)
  ·refine thn (T.item X' rfl rfl rfl hc i [] s6 σ6 H6 (fun _ _=>False) I6 (stat (pl:=[]) fr6) st6 go) fun r s7 ⟨u,hr,h7⟩=>?_
   subst hr
   refine thn h7 fun _ s8 ⟨x,H8,I8,r8,y8,st8,fr8⟩=>?_
   have I8':=I8.pinned (stat (pl:=[]) fr8) (T.obj _ _ st8)
   refine thn (hg _ _ _ _ _ _ _ s8 σ6 H8 x u _ I8' r8 (step x H8 y8)) fun _ s9 ⟨σ9,H9,I9,q9⟩=>?_
   refine thn (ht _ _ _ _ _ _ _ s9 σ9 H9 _ I9 q9) fun ok s10 ⟨H10,I10,q10⟩=>?_
   have back:∀{σ':St}{H':Hp}{s':Shared},Inv (ao X scope (closL X.env scope.names []) s3.heap.objs.size s3 (upd H acc (.lst [])) fp (X.pn++pins)) ([]++pinsAt fp s8.heap) σ' H' s'→tn (i+1) s'.heap∧∀b∈fp,H' b=none:=fun{σ' H' s'} K=>by
    refine⟨T.keep _ _ _ st8 fun b hb o e=>(K.pin (b,o) (List.mem_append_right _ (List.mem_append_right _ (mem_pinsAt hb e)))).1,fun b hb=>?_⟩
    obtain⟨o,e,d⟩:=T.obj _ _ st8 b hb
    exact(K.pin (b,o) (List.mem_append_right _ (List.mem_append_right _ (mem_pinsAt hb e)))).2.1
   cases ok with
   |false=>
    rw[if_neg Bool.false_ne_true]at q10⊢
    obtain⟨m',hm,w'⟩:=q10
    obtain⟨b1,b2⟩:=back I10
    exact⟨m',hm,i+1,ys,σ9,H10,I10.unpinned,b1,b2,w'⟩
   |true=>
    rw[if_pos rfl]at q10⊢
    refine thn (he _ _ _ _ _ _ _ s10 σ9 H10 _ I10 q10) fun y s11 ⟨v,H11,I11,r11,hac11,hz,m',hm,w'⟩=>?_
    have ap:=mt_append (X:=X') _ s11 σ9 H11 (.ref acc) [v] (.ref acc) [y] (fun(z:V) (H':Hp)=>H'=upd H11 acc (.lst (ys++[v]))) I11 rfl (.cons r11 .nil) ⟨acc,ys,v,rfl,rfl,hac11,hz,rfl⟩
    refine thn ap fun _ s12 ⟨_,H12,I12,_,e12⟩=>?_
    subst e12
    obtain⟨b1,b2⟩:=back I12
    exact⟨m',hm,i+1,ys++[v],σ9,_,I12.unpinned,b1,b2,w'⟩
 exact codeAny_compStart_list (loop _ rfl) (T.self _ 0 _ _ _ st4 (loop _ rfl))
theorem pe_comp (hc:X.calm=true) (hi:PI X tg iter wi) (S:CompScope X scope bs)
  (hg:∀cl C s₂ H₂ ex pn,PG (ao X scope cl C s₂ H₂ ex pn) tg g) (ht:∀cl C s₂ H₂ ex pn,PTs (ao X scope cl C s₂ H₂ ex pn) ifs tt) (he:∀cl C s₂ H₂ ex pn,PE (ao X scope cl C s₂ H₂ ex pn) elt te)
  (hs:∀x,foldedSetIterable iter X.env x=pure x:=by intro _;rfl):PE X (.ListComp elt [⟨tg,iter,ifs,0⟩] scope pos) (tComp wi bs g tt te):=by
 intro pins s σ H Q I h
 rw[eval_ListComp]
 refine wpAny_comprehension_free (use:=none) rfl hs (closureFor_eq (S.has I)) S.kind S.loc (thn (hi pins s σ H _ I h) fun v s1 h1=>thn h1 fun itv s2 h2=>?_)
 obtain⟨it,fp,tn,J,H2,e,I2,T,st2,f2,hq⟩:=h2
 subst e
 refine comp_block (RR:=fun acc C=>compPost (model X.prog X.w) X.A X.xe none (EP X pins σ Q) acc C) hc S hg ht he I2 T st2 f2 hq ?_
 intro D C s' H' m' I' q' hn hC hL hF hz hcl hp
 refine⟨m',hn,fun h'' hs''=>⟨.ref D,H',?_,rfl,q'⟩⟩
 exact I'.turned (t':=s'.toks) (fun b o hb e=>(hs''.2 b hb).trans e) hC hL (.inr hz) hcl hp
theorem ps_setc {i:Nat}{y:Str}{py spos:Pos}(hc:X.calm=true) (hi:PI X tg iter wi) (S:CompScope X scope bs)
  (hg:∀cl C s₂ H₂ ex pn,PG (ao X scope cl C s₂ H₂ ex pn) tg g) (ht:∀cl C s₂ H₂ ex pn,PTs (ao X scope cl C s₂ H₂ ex pn) ifs tt) (he:∀cl C s₂ H₂ ex pn,PE (ao X scope cl C s₂ H₂ ex pn) elt te)
  (hN:X.N.Nodup) (hiN:X.N[i]?=some y) (hy:X.env.scope.names.lookup y=some .local)
  (hsw:swapsWith (.ListComp elt [⟨tg,iter,ifs,0⟩] scope pos) (some (.Name y py)) spos.line X.env=pure true:=by rfl)
  (hs:∀x,foldedSetIterable iter X.env x=pure x:=by intro _;rfl):PS X (.Assign [.Name y py] (.ListComp elt [⟨tg,iter,ifs,0⟩] scope pos) spos) (tAsg (tComp wi bs g tt te) (gName i)):=by
 intro pins s σ H D I h
 rw[exec_Assign_Name_used _ _ _ _ hsw]
 refine wpAny_bind (wpAny_standAt (wpAny_bind ?_))
 show wpAny _ X.A (do let _ ←comprehension (.ListComp elt [⟨tg,iter,ifs,0⟩] scope pos) scope X.env _ (newList []) false (eval iter X.env) (some (assign (.Name y py) X.env))) _ _ s
 refine wpAny_bind (wpAny_mono (wpAny_comprehension_free (use:=some (assign (.Name y py) X.env)) (Q:=fun _ s'=>SP X pins D .next s') rfl hs (closureFor_eq (S.has I)) S.kind S.loc
  (thn (hi pins s σ H _ I h) fun v s1 h1=>thn h1 fun itv s2 h2=>?_)) (fun _ s' hq=>wpAny_pure (wpAny_pure hq)) fun _ _ e=>e)
 obtain⟨it,fp,tn,J,H2,e,I2,T,st2,f2,hq⟩:=h2
 subst e
 refine comp_block (Q:=fun x H1=>gName i x σ H1 D.nx) (RR:=fun acc C=>compPost (model X.prog X.w) X.A X.xe (some (assign (.Name y py) X.env)) (fun _ s'=>SP X pins D .next s') acc C) hc S hg ht he I2 T st2 f2 hq ?_
 intro A C s' H' m' I' q' hn hC hL hF hz hcl hp
 show wpAny _ X.A (assign (.Name y py) X.env (.ref A)) _ _ _
 refine wpAny_assign_Name (store_ok2 I' hN hiN (.inl hy) (v:=.ref A) rfl (fun s2 I2 hsb=>?_) (.inr hy))
 obtain⟨a,sb,ha⟩:=hsb
 have hCa:C≠a:=by
  rcases ha with z|z
  ·rw[z];exact hL
  ·exact fun q=>hcl y a z q.symm
 refine⟨m',hn.sameBut sb hCa,fun h'' hs''=>⟨σ.set i (some (.ref A)),H',?_,q'⟩⟩
 exact I2.turned (t':=s2.toks) (fun b o hb e=>(hs''.2 b hb).trans e) hC hL (.inr hz) hcl hp
end
end L2
namespace L2
open PySem PySem.Spec PyProof.Rows
mutual
noncomputable def D.flat:D→Bool
 |.non=>true|.bl _=>true|.int _=>true|.str _=>true
 |.tup ds=>D.flats ds
 |.lst _=>false|.dT _ _=>false|.dK _ _=>false|.dD _ _=>false|.sp _ _=>false
noncomputable def D.flats:List D→Bool
 |[]=>true
 |d::ds=>d.flat&&D.flats ds
end
noncomputable def LstS (K:Frag) (B:Addr→Prop) (H:Hp) (a:Addr) (xs:List V):Prop:=
 (B a∧H a=some (.lst xs))∨(∃o,H a=some (.frz o (.lst xs)))∨
  ∃(o:Obj) (its:Array Value) (n:Nat),K.lookup a=some o∧o.cls=.type "list"∧o.dict=none∧o.data=.seq its n∧its.size≤sizeLine∧Vals xs its.toList
theorem LstS.sq {K:Frag}{B:Addr→Prop}{H:Hp}{a:Addr}{xs:List V}(h:LstS K B H a xs):SqL K H a xs:=by
 rcases h with⟨_,h⟩|⟨o,h⟩|h
 ·exact .inl (.inl h)
 ·exact .inl (.inr ⟨o,h⟩)
 ·exact .inr h
noncomputable def DicTS (B:Addr→Prop) (H:Hp) (a:Addr) (kvs:List (List Key×V)):Prop:=(B a∧H a=some (.dT kvs))∨∃o,H a=some (.frz o (.dT kvs))
noncomputable def DicKS (B:Addr→Prop) (H:Hp) (a:Addr) (kvs:List (Key×V)):Prop:=(B a∧H a=some (.dK kvs))∨∃o,H a=some (.frz o (.dK kvs))
noncomputable def DicDS (B:Addr→Prop) (H:Hp) (a:Addr) (kvs:List (D×V)):Prop:=∃ep,(B a∧H a=some (.dD kvs ep))∨∃o,H a=some (.frz o (.dD kvs ep))
mutual
noncomputable def Rep (K:Frag) (B:Addr→Prop) (H:Hp):D→V→Prop
 |.non,v=>v=.non
 |.bl b,v=>v=.bl b
 |.int i,v=>v=.int i
 |.str x,v=>v=.str x
 |.tup ds,v=>∃a xs,v=.ref a∧H a=some (.tup xs)∧Reps K B H ds xs
 |.lst ds,v=>∃a xs,v=.ref a∧LstS K B H a xs∧Reps K B H ds xs
 |.dT ks ds,v=>∃a kvs,v=.ref a∧DicTS B H a kvs∧kvs.map (·.1)=ks∧Reps K B H ds (kvs.map (·.2))
 |.dK ks ds,v=>∃a kvs,v=.ref a∧DicKS B H a kvs∧kvs.map (·.1)=ks∧Reps K B H ds (kvs.map (·.2))
 |.dD ks ds,v=>∃a kvs,v=.ref a∧DicDS B H a kvs∧kvs.map (·.1)=ks∧Reps K B H ds (kvs.map (·.2))
 |.sp false x,v=>∃f,v=.ref f∧PySem.W.nsIn K mainGlobals x=some (some (.ref f))
 |.sp true x,v=>∃a o c u,v=.ref a∧H a=some (.frz o (.own u))∧o.cls=.ref c∧PySem.W.nsIn K mainGlobals x=some (some (.ref c))
noncomputable def Reps (K:Frag) (B:Addr→Prop) (H:Hp):List D→List V→Prop
 |[],xs=>xs=[]
 |d::ds,xs=>∃x r,xs=x::r∧Rep K B H d x∧Reps K B H ds r
end
structure Ext (B:Addr→Prop) (H H':Hp):Prop where
 tups:∀a xs,H a=some (.tup xs)→H' a=some (.tup xs)
 frzs:∀a o u,H a=some (.frz o u)→H' a=some (.frz o u)
 lent:∀a,B a→H' a=H a
theorem Ext.refl {B:Addr→Prop}{H:Hp}:Ext B H H:=⟨fun _ _ h=>h,fun _ _ _ h=>h,fun _ _=>rfl⟩
theorem Ext.trans {B:Addr→Prop}{H H1 H2:Hp}(a:Ext B H H1) (b:Ext B H1 H2):Ext B H H2:=
 ⟨fun x y h=>b.tups x y (a.tups x y h),fun x y z h=>b.frzs x y z (a.frzs x y z h),fun x h=>(b.lent x h).trans (a.lent x h)⟩
section
variable{K:Frag}{B B':Addr→Prop}{H H':Hp}
theorem LstS.ext {a:Addr}{xs:List V}(h:LstS K B H a xs) (e:Ext B H H'):LstS K B H' a xs:=by
 rcases h with⟨b,h⟩|⟨o,h⟩|h
 ·exact .inl ⟨b,(e.lent a b).trans h⟩
 ·exact .inr (.inl ⟨o,e.frzs _ _ _ h⟩)
 ·exact .inr (.inr h)
theorem LstS.more {a:Addr}{xs:List V}(h:LstS K B H a xs) (e:∀a,B a→B' a):LstS K B' H a xs:=by
 rcases h with⟨b,h⟩|h|h
 ·exact .inl ⟨e a b,h⟩
 ·exact .inr (.inl h)
 ·exact .inr (.inr h)
theorem DicTS.ext {a:Addr}{xs:List (List Key×V)}(h:DicTS B H a xs) (e:Ext B H H'):DicTS B H' a xs:=by
 rcases h with⟨b,h⟩|⟨o,h⟩
 ·exact .inl ⟨b,(e.lent a b).trans h⟩
 ·exact .inr ⟨o,e.frzs _ _ _ h⟩
theorem DicKS.ext {a:Addr}{xs:List (Key×V)}(h:DicKS B H a xs) (e:Ext B H H'):DicKS B H' a xs:=by
 rcases h with⟨b,h⟩|⟨o,h⟩
 ·exact .inl ⟨b,(e.lent a b).trans h⟩
 ·exact .inr ⟨o,e.frzs _ _ _ h⟩
theorem DicDS.ext {a:Addr}{xs:List (D×V)}(h:DicDS B H a xs) (e:Ext B H H'):DicDS B H' a xs:=by
 obtain⟨ep,h⟩:=h
 rcases h with⟨b,h⟩|⟨o,h⟩
 ·exact⟨ep,.inl ⟨b,(e.lent a b).trans h⟩⟩
 ·exact⟨ep,.inr ⟨o,e.frzs _ _ _ h⟩⟩
mutual
theorem Rep.ext (e:Ext B H H'):∀{d:D}{v:V},Rep K B H d v→Rep K B H' d v
 |.non,v,h=>by simpa only[Rep]using h
 |.bl b,v,h=>by simpa only[Rep]using h
 |.int i,v,h=>by simpa only[Rep]using h
 |.str x,v,h=>by simpa only[Rep]using h
 |.tup ds,v,h=>by
  simp only[Rep]at h⊢
  obtain⟨a,xs,hv,hq,hr⟩:=h
  exact⟨a,xs,hv,e.tups _ _ hq,Reps.ext e hr⟩
 |.lst ds,v,h=>by
  simp only[Rep]at h⊢
  obtain⟨a,xs,hv,hq,hr⟩:=h
  exact⟨a,xs,hv,hq.ext e,Reps.ext e hr⟩
 |.dT ks ds,v,h=>by
  simp only[Rep]at h⊢
  obtain⟨a,xs,hv,hq,hk,hr⟩:=h
  exact⟨a,xs,hv,hq.ext e,hk,Reps.ext e hr⟩
 |.dK ks ds,v,h=>by
  simp only[Rep]at h⊢
  obtain⟨a,xs,hv,hq,hk,hr⟩:=h
  exact⟨a,xs,hv,hq.ext e,hk,Reps.ext e hr⟩
 |.dD ks ds,v,h=>by
  simp only[Rep]at h⊢
  obtain⟨a,xs,hv,hq,hk,hr⟩:=h
  exact⟨a,xs,hv,hq.ext e,hk,Reps.ext e hr⟩
 |.sp false x,v,h=>by simpa only[Rep]using h
 |.sp true x,v,h=>by
  simp only[Rep]at h⊢
  obtain⟨a,o,c,u,hv,hq,hr⟩:=h
  exact⟨a,o,c,u,hv,e.frzs _ _ _ hq,hr⟩
theorem Reps.ext (e:Ext B H H'):∀{ds:List D}{xs:List V},Reps K B H ds xs→Reps K B H' ds xs
 |[],xs,h=>by simpa only[Reps]using h
 |d::ds,xs,h=>by
  simp only[Reps]at h⊢
  obtain⟨x,r,hx,h1,h2⟩:=h
  exact⟨x,r,hx,Rep.ext e h1,Reps.ext e h2⟩
end
mutual
theorem Rep.more (e:∀a,B a→B' a):∀{d:D}{v:V},Rep K B H d v→Rep K B' H d v
 |.non,v,h=>by simpa only[Rep]using h
 |.bl b,v,h=>by simpa only[Rep]using h
 |.int i,v,h=>by simpa only[Rep]using h
 |.str x,v,h=>by simpa only[Rep]using h
 |.tup ds,v,h=>by
  simp only[Rep]at h⊢
  obtain⟨a,xs,hv,hq,hr⟩:=h
  exact⟨a,xs,hv,hq,Reps.more e hr⟩
 |.lst ds,v,h=>by
  simp only[Rep]at h⊢
  obtain⟨a,xs,hv,hq,hr⟩:=h
  exact⟨a,xs,hv,hq.more e,Reps.more e hr⟩
 |.dT ks ds,v,h=>by
  simp only[Rep]at h⊢
  obtain⟨a,xs,hv,hq,hk,hr⟩:=h
  exact⟨a,xs,hv,hq.imp (fun z=>⟨e a z.1,z.2⟩) fun z=>z,hk,Reps.more e hr⟩
 |.dK ks ds,v,h=>by
  simp only[Rep]at h⊢
  obtain⟨a,xs,hv,hq,hk,hr⟩:=h
  exact⟨a,xs,hv,hq.imp (fun z=>⟨e a z.1,z.2⟩) fun z=>z,hk,Reps.more e hr⟩
 |.dD ks ds,v,h=>by
  simp only[Rep]at h⊢
  obtain⟨a,xs,hv,⟨ep,hq⟩,hk,hr⟩:=h
  exact⟨a,xs,hv,⟨ep,hq.imp (fun z=>⟨e a z.1,z.2⟩) fun z=>z⟩,hk,Reps.more e hr⟩
 |.sp false x,v,h=>by simpa only[Rep]using h
 |.sp true x,v,h=>by simpa only[Rep]using h
theorem Reps.more (e:∀a,B a→B' a):∀{ds:List D}{xs:List V},Reps K B H ds xs→Reps K B' H ds xs
 |[],xs,h=>by simpa only[Reps]using h
 |d::ds,xs,h=>by
  simp only[Reps]at h⊢
  obtain⟨x,r,hx,h1,h2⟩:=h
  exact⟨x,r,hx,Rep.more e h1,Reps.more e h2⟩
end
mutual
theorem Rep.flat:∀{d:D}{v:V},d.flat=true→Rep K B H d v→Rep K B' H d v
 |.non,v,_,h=>by simpa only[Rep]using h
 |.bl b,v,_,h=>by simpa only[Rep]using h
 |.int i,v,_,h=>by simpa only[Rep]using h
 |.str x,v,_,h=>by simpa only[Rep]using h
 |.tup ds,v,f,h=>by
  simp only[Rep]at h⊢
  simp only[D.flat]at f
  obtain⟨a,xs,hv,hq,hr⟩:=h
  exact⟨a,xs,hv,hq,Reps.flat f hr⟩
 |.lst ds,v,f,_=>by simp[D.flat]at f
 |.dT _ _,v,f,_=>by simp[D.flat]at f
 |.dK _ _,v,f,_=>by simp[D.flat]at f
 |.dD _ _,v,f,_=>by simp[D.flat]at f
 |.sp _ _,v,f,_=>by simp[D.flat]at f
theorem Reps.flat:∀{ds:List D}{xs:List V},D.flats ds=true→Reps K B H ds xs→Reps K B' H ds xs
 |[],xs,_,h=>by simpa only[Reps]using h
 |d::ds,xs,f,h=>by
  simp only[Reps]at h⊢
  simp only[D.flats,Bool.and_eq_true]at f
  obtain⟨x,r,hx,h1,h2⟩:=h
  exact⟨x,r,hx,Rep.flat f.1 h1,Reps.flat f.2 h2⟩
end
theorem Reps.length:∀{ds:List D}{xs:List V},Reps K B H ds xs→ds.length=xs.length
 |[],xs,h=>by simp only[Reps]at h;subst h;rfl
 |d::ds,xs,h=>by
  simp only[Reps]at h
  obtain⟨x,r,hx,h1,h2⟩:=h
  subst hx
  simp only[List.length_cons,Reps.length h2]
theorem Reps.nil:Reps K B H [] []:=by simp only[Reps]
theorem Reps.cons {d:D}{ds:List D}{x:V}{xs:List V}(h:Rep K B H d x) (t:Reps K B H ds xs):Reps K B H (d::ds) (x::xs):=by
 simp only[Reps];exact⟨x,xs,rfl,h,t⟩
theorem Reps.uncons {d:D}{ds:List D}{x:V}{xs:List V}(h:Reps K B H (d::ds) (x::xs)):Rep K B H d x∧Reps K B H ds xs:=by
 simp only[Reps]at h
 obtain⟨y,r,e,h1,h2⟩:=h
 cases e
 exact⟨h1,h2⟩
theorem Reps.get:∀{ds:List D}{xs:List V}{i:Nat}{d:D},Reps K B H ds xs→ds[i]?=some d→∃x,xs[i]?=some x∧Rep K B H d x
 |[],_,_,_,_,e=>by simp at e
 |d::ds,xs,0,e,h,he=>by
  simp only[Reps]at h
  obtain⟨x,r,hx,h1,h2⟩:=h
  subst hx
  simp at he;subst he
  exact⟨x,rfl,h1⟩
 |d::ds,xs,i+1,e,h,he=>by
  simp only[Reps]at h
  obtain⟨x,r,hx,h1,h2⟩:=h
  subst hx
  exact Reps.get (i:=i) h2 (by simpa using he)
theorem Reps.get':∀{ds:List D}{xs:List V}{i:Nat}{x:V},Reps K B H ds xs→xs[i]?=some x→∃d,ds[i]?=some d∧Rep K B H d x:=fun{ds xs i x} h e=>by
 have hl:=h.length
 have hi:i<ds.length:=by rw[hl];exact(List.getElem?_eq_some_iff.mp e).1
 obtain⟨y,hy,r⟩:=h.get (i:=i) (d:=ds[i]) (by simp[hi])
 rw[e]at hy;cases hy
 exact⟨ds[i],by simp[hi],r⟩
theorem Reps.append:∀{ds es:List D}{xs ys:List V},Reps K B H ds xs→Reps K B H es ys→Reps K B H (ds++es) (xs++ys)
 |[],es,xs,ys,h,t=>by simp only[Reps]at h;subst h;simpa using t
 |d::ds,es,xs,ys,h,t=>by
  simp only[Reps]at h
  obtain⟨x,r,hx,h1,h2⟩:=h
  subst hx
  exact Reps.cons h1 (Reps.append h2 t)
theorem Reps.take:∀{ds:List D}{xs:List V}(n:Nat),Reps K B H ds xs→Reps K B H (ds.take n) (xs.take n)
 |_,_,0,_=>by simp only[List.take_zero];exact Reps.nil
 |[],xs,n+1,h=>by simp only[Reps]at h;subst h;exact Reps.nil
 |d::ds,xs,n+1,h=>by
  simp only[Reps]at h
  obtain⟨x,r,hx,h1,h2⟩:=h
  subst hx
  exact Reps.cons h1 (Reps.take n h2)
theorem Reps.drop:∀{ds:List D}{xs:List V}(n:Nat),Reps K B H ds xs→Reps K B H (ds.drop n) (xs.drop n)
 |_,_,0,h=>h
 |[],xs,n+1,h=>by simp only[Reps]at h;subst h;exact Reps.nil
 |d::ds,xs,n+1,h=>by
  simp only[Reps]at h
  obtain⟨x,r,hx,h1,h2⟩:=h
  subst hx
  exact Reps.drop n h2
end
noncomputable abbrev DEnv:=List (Option (D×Bool))
noncomputable def ObR (K:Frag) (B:Addr→Prop) (H:Hp) (d:D) (a:Addr):Prop:=match d with
 |.lst ds=>∃xs,H a=some (.lst xs)∧Reps K B H ds xs
 |.dT ks ds=>∃kvs,H a=some (.dT kvs)∧kvs.map (·.1)=ks∧Reps K B H ds (kvs.map (·.2))
 |.dK ks ds=>∃kvs,H a=some (.dK kvs)∧kvs.map (·.1)=ks∧Reps K B H ds (kvs.map (·.2))
 |.dD ks ds=>∃kvs,(∃ep,H a=some (.dD kvs ep))∧kvs.map (·.1)=ks∧Reps K B H ds (kvs.map (·.2))
 |_=>False
structure Rel (K:Frag) (B:Addr→Prop) (Hk:Hp) (δ:DEnv) (σ:St) (H:Hp):Prop where
 same:Same Hk H
 bor:∀a,B a→∃o,Hk a=some o
 len:δ.length=σ.length
 var:∀(i:Nat) d,δ[i]?=some (some (d,false))→∃v,σ[i]?=some (some v)∧Rep K B H d v
 own:∀(i:Nat) d,δ[i]?=some (some (d,true))→∃a,σ[i]?=some (some (.ref a))∧Hk a=none∧ObR K B H d a
 dis:∀(i j:Nat) d e a,i≠j→δ[i]?=some (some (d,true))→δ[j]?=some (some (e,true))→σ[i]?=some (some (.ref a))→σ[j]?=some (some (.ref a))→False
noncomputable def BO (B:Addr→Prop) (δ:DEnv) (σ:St) (a:Addr):Prop:=B a∨∃(i:Nat) (d:D),δ[i]?=some (some (d,true))∧σ[i]?=some (some (.ref a))
noncomputable def bset (m:Bool) (B:Addr→Prop) (δ:DEnv) (σ:St):Addr→Prop:=if m=true then BO B δ σ else B
section
variable{K:Frag}{B B':Addr→Prop}{Hk H H':Hp}{δ:DEnv}{σ:St}
theorem Same.ext (s:Same H H') (b:∀a,B a→∃o,H a=some o):Ext B H H':=
 ⟨fun a xs h=>s a _ h,fun a o u h=>s a _ h,fun a h=>by obtain⟨o,e⟩:=b a h;rw[e,s a o e]⟩
theorem ObR.ext {d:D}{a:Addr}(h:ObR K B H d a) (e:Ext B H H') (ha:∀o,H a=some o→H' a=some o):ObR K B H' d a:=by
 cases d with
 |lst ds=>obtain⟨xs,h1,h2⟩:=h;exact⟨xs,ha _ h1,h2.ext e⟩
 |dT ks ds=>obtain⟨xs,h1,h0,h2⟩:=h;exact⟨xs,ha _ h1,h0,h2.ext e⟩
 |dK ks ds=>obtain⟨xs,h1,h0,h2⟩:=h;exact⟨xs,ha _ h1,h0,h2.ext e⟩
 |dD ks ds=>obtain⟨xs,⟨ep,h1⟩,h0,h2⟩:=h;exact⟨xs,⟨ep,ha _ h1⟩,h0,h2.ext e⟩
 |_=>exact(show False from h).elim
theorem ObR.there {d:D}{a:Addr}(h:ObR K B H d a):∃o,H a=some o:=by
 cases d with
 |lst ds=>obtain⟨xs,h1,h2⟩:=h;exact⟨_,h1⟩
 |dT ks ds=>obtain⟨xs,h1,h0,h2⟩:=h;exact⟨_,h1⟩
 |dK ks ds=>obtain⟨xs,h1,h0,h2⟩:=h;exact⟨_,h1⟩
 |dD ks ds=>obtain⟨xs,⟨ep,h1⟩,h0,h2⟩:=h;exact⟨_,h1⟩
 |_=>exact(show False from h).elim
theorem Rel.borH (R:Rel K B Hk δ σ H):∀a,B a→∃o,H a=some o:=fun a h=>by
 obtain⟨o,e⟩:=R.bor a h
 exact⟨o,R.same a o e⟩
theorem Rel.boH (R:Rel K B Hk δ σ H):∀a,BO B δ σ a→∃o,H a=some o:=fun a h=>by
 rcases h with h|⟨i,d,h1,h2⟩
 ·exact R.borH a h
 ·obtain⟨b,e,_,ob⟩:=R.own i d h1
  rw[h2]at e;cases e
  exact ob.there
theorem Rel.bsH (R:Rel K B Hk δ σ H) (m:Bool):∀a,bset m B δ σ a→∃o,H a=some o:=by
 unfold bset
 cases m with
 |true=>exact R.boH
 |false=>exact R.borH
theorem Rel.to (R:Rel K B Hk δ σ H) (s:Same H H'):Rel K B Hk δ σ H':=by
 have e:Ext B H H':=s.ext R.borH
 refine⟨R.same.trans s,R.bor,R.len,fun i d h=>?_,fun i d h=>?_,R.dis⟩
 ·obtain⟨v,h1,h2⟩:=R.var i d h
  exact⟨v,h1,h2.ext e⟩
 ·obtain⟨a,h1,h2,h3⟩:=R.own i d h
  exact⟨a,h1,h2,h3.ext e fun o q=>s a o q⟩
theorem Rep.same {m:Bool}{d:D}{v:V}(r:Rep K (bset m B δ σ) H d v) (R:Rel K B Hk δ σ H) (s:Same H H'):Rep K (bset m B δ σ) H' d v:=r.ext (s.ext (R.bsH m))
theorem Reps.same {m:Bool}{d:List D}{v:List V}(r:Reps K (bset m B δ σ) H d v) (R:Rel K B Hk δ σ H) (s:Same H H'):Reps K (bset m B δ σ) H' d v:=r.ext (s.ext (R.bsH m))
theorem bset_of (m:Bool):∀a,B a→bset m B δ σ a:=fun a h=>by
 unfold bset
 cases m with
 |true=>exact .inl h
 |false=>exact h
theorem ObR.rep {d:D}{a:Addr}(h:ObR K B H d a) (hb:B' a) (hs:∀a,B a→B' a):Rep K B' H d (.ref a):=by
 cases d with
 |lst ds=>obtain⟨xs,h1,h2⟩:=h;simp only[Rep];exact⟨a,xs,rfl,.inl ⟨hb,h1⟩,h2.more hs⟩
 |dT ks ds=>obtain⟨xs,h1,h0,h2⟩:=h;simp only[Rep];exact⟨a,xs,rfl,.inl ⟨hb,h1⟩,h0,h2.more hs⟩
 |dK ks ds=>obtain⟨xs,h1,h0,h2⟩:=h;simp only[Rep];exact⟨a,xs,rfl,.inl ⟨hb,h1⟩,h0,h2.more hs⟩
 |dD ks ds=>obtain⟨xs,⟨ep,h1⟩,h0,h2⟩:=h;simp only[Rep];exact⟨a,xs,rfl,⟨ep,.inl ⟨hb,h1⟩⟩,h0,h2.more hs⟩
 |_=>exact(show False from h).elim
end
end L2
namespace L2
open PySem PySem.Spec PyProof.Rows
theorem PE.imp {X:Cx}{e:Expr}{t t':TE}(h:PE X e t) (i:∀σ H Q,t' σ H Q→t σ H Q):PE X e t':=fun pins s σ H Q I q=>h pins s σ H Q I (i σ H Q q)
theorem PT.imp {X:Cx}{e:Expr}{t t':TT}(h:PT X e t) (i:∀σ H Q,t' σ H Q→t σ H Q):PT X e t':=fun pins s σ H Q I q=>h pins s σ H Q I (i σ H Q q)
theorem PW.imp {X:Cx}{e:Expr}{t t':TT}(h:PW X e t) (i:∀σ H Q,t' σ H Q→t σ H Q):PW X e t':=fun whole pins s σ H Q I q=>h whole pins s σ H Q I (i σ H Q q)
theorem PA.imp {X:Cx}{e:List Expr}{t t':TA}(h:PA X e t) (i:∀σ H Q,t' σ H Q→t σ H Q):PA X e t':=fun pos pins s σ H Q I q=>h pos pins s σ H Q I (i σ H Q q)
theorem PI.imp {X:Cx}{tg e:Expr}{t t':TI}(h:PI X tg e t) (i:∀σ H Q,t' σ H Q→t σ H Q):PI X tg e t':=fun pins s σ H Q I q=>h pins s σ H Q I (i σ H Q q)
theorem PS.imp {X:Cx}{e:Stmt}{t t':TS}(h:PS X e t) (i:∀D σ H,t' D σ H→t D σ H):PS X e t':=fun pins s σ H D I q=>h pins s σ H D I (i D σ H q)
theorem PSs.imp {X:Cx}{e:List Stmt}{t t':TS}(h:PSs X e t) (i:∀D σ H,t' D σ H→t D σ H):PSs X e t':=fun pins s σ H D I q=>h pins s σ H D I (i D σ H q)
inductive tM (K:Frag) (m:Bool) (f:DEnv→Option D) (σ:St) (H:Hp) (Q:VK):Prop
 |mk (B:Addr→Prop) (Hk:Hp) (δ:DEnv) (d:D) (a_:Rel K B Hk δ σ H) (b_:f δ=some d) (c_:∀v H',Same H H'→Rep K (bset m B δ σ) H' d v→Q v H'):tM K m f σ H Q
inductive tF (K:Frag) (f:DEnv→Option D) (σ:St) (H:Hp) (Q:VK):Prop
 |mk (B:Addr→Prop) (Hk:Hp) (δ:DEnv) (d:D) (a_:Rel K B Hk δ σ H) (b_:f δ=some d) (c_:∀a H',Same H H'→H a=none→ObR K B H' d a→Q (.ref a) H'):tF K f σ H Q
inductive tMT (K:Frag) (f:DEnv→Option Bool) (σ:St) (H:Hp) (Q:(Bool→Hp→Prop)):Prop
 |mk (B:Addr→Prop) (Hk:Hp) (δ:DEnv) (d:Bool) (a_:Rel K B Hk δ σ H) (b_:f δ=some d) (c_:∀H',Same H H'→Q d H'):tMT K f σ H Q
inductive tMA (K:Frag) (m:Bool) (f:DEnv→Option (List D)) (σ:St) (H:Hp) (Q:(List V→Hp→Prop)):Prop
 |mk (B:Addr→Prop) (Hk:Hp) (δ:DEnv) (ds:List D) (a_:Rel K B Hk δ σ H) (b_:f δ=some ds) (c_:∀vs H',Same H H'→Reps K (bset m B δ σ) H' ds vs→Q vs H'):tMA K m f σ H Q
noncomputable abbrev DE (X:Cx) (m:Bool) (e:Expr) (f:DEnv→Option D):Prop:=PE X e (tM X.K m f)
noncomputable abbrev DF (X:Cx) (e:Expr) (f:DEnv→Option D):Prop:=PE X e (tF X.K f)
noncomputable abbrev DT (X:Cx) (e:Expr) (f:DEnv→Option Bool):Prop:=PT X e (tMT X.K f)
noncomputable abbrev DA (X:Cx) (m:Bool) (es:List Expr) (f:DEnv→Option (List D)):Prop:=PA X es (tMA X.K m f)
section
variable{X:Cx}{m m':Bool}{a b:Expr}{fa fb:DEnv→Option D}{pos:Pos}
noncomputable def rd (m:Bool) (i:Nat) (δ:DEnv):Option D:=match δ[i]? with|some (some (d,o))=>if(o&&!m)=true then none else some d|_=>none
theorem rd_some {m:Bool}{i:Nat}{δ:DEnv}{d:D}(h:rd m i δ=some d):∃o,δ[i]?=some (some (d,o))∧(o=true→m=true):=by
 unfold rd at h
 split at h
 ·rename_i d' o e
  by_cases q:(o&&!m)=true
  ·rw[if_pos q]at h;cases h
  ·rw[if_neg q]at h;cases h
   refine⟨o,e,fun z=>?_⟩
   subst z
   cases m with
   |true=>rfl
   |false=>simp at q
 ·cases h
theorem Rel.rd {K:Frag}{B:Addr→Prop}{Hk H:Hp}{δ:DEnv}{σ:St}{i:Nat}{d:D}(R:Rel K B Hk δ σ H) (h:rd m i δ=some d):∃v,σ[i]?=some (some v)∧Rep K (bset m B δ σ) H d v:=by
 obtain⟨o,e,ho⟩:=rd_some h
 cases o with
 |false=>
  obtain⟨v,h1,h2⟩:=R.var i d e
  exact⟨v,h1,h2.more fun a h=>bset_of m a h⟩
 |true=>
  obtain⟨a,h1,h2,h3⟩:=R.own i d e
  obtain rfl:=ho rfl
  exact⟨_,h1,h3.rep (B':=bset true B δ σ) (by unfold bset;rw[if_pos rfl];exact .inr ⟨i,d,e,h1⟩) fun a h=>bset_of true a h⟩
theorem de_var {i:Nat}{x:Str}(hN:X.N[i]?=some x) (hv:Vis X.env.scope x) (hd:(x==("__debug__":Str))=false:=by decide) (hcd:(x==("__classdict__":Str))=false:=by decide):DE X m (.Name x pos) (rd m i):=
 (pe_var hN hv hd hcd).imp fun σ H Q ⟨B,Hk,δ,d,R,e,k⟩=>by
  obtain⟨v,h1,h2⟩:=R.rd e
  exact⟨v,h1,k v H (Same.refl H) h2⟩
theorem ae {i:Int}{j:Nat}:DE X m (.Constant (.int i) j pos) (fun _=>some (.int i)):=pe_int.imp fun σ H Q ⟨B,Hk,δ,d,R,e,k⟩=>by cases e;exact k _ H (Same.refl H) rfl
theorem am {x:Str}{j:Nat}:DE X m (.Constant (.str x) j pos) (fun _=>some (.str x)):=pe_str.imp fun σ H Q ⟨B,Hk,δ,d,R,e,k⟩=>by cases e;exact k _ H (Same.refl H) rfl
theorem de_bl {x:Bool}{j:Nat}:DE X m (.Constant (.bool x) j pos) (fun _=>some (.bl x)):=pe_bl.imp fun σ H Q ⟨B,Hk,δ,d,R,e,k⟩=>by cases e;exact k _ H (Same.refl H) rfl
theorem de_non {j:Nat}:DE X m (.Constant .none j pos) (fun _=>some .non):=pe_non.imp fun σ H Q ⟨B,Hk,δ,d,R,e,k⟩=>by cases e;exact k _ H (Same.refl H) rfl
theorem two {K:Frag}{σ:St}{H:Hp}{B:Addr→Prop}{Hk:Hp}{δ:DEnv}{d1 d2:D}{P:V→V→Hp→Prop}(R:Rel K B Hk δ σ H) (e1:fa δ=some d1) (e2:fb δ=some d2)
  (k:∀v u H',Same H H'→Rel K B Hk δ σ H'→Rep K (bset m B δ σ) H' d1 v→Rep K (bset m' B δ σ) H' d2 u→P v u H'):tM K m fa σ H fun x H1=>tM K m' fb σ H1 fun y H2=>P x y H2:=
 ⟨B,Hk,δ,d1,R,e1,fun v H1 s1 r1=>⟨B,Hk,δ,d2,R.to s1,e2,fun u H2 s2 r2=>k v u H2 (s1.trans s2) (R.to (s1.trans s2)) (r1.same (R.to s1) s2) r2⟩⟩
noncomputable def bI (C:Int→Int→Bool) (g:Int→Int→D) (x y:Option D):Option D:=match x,y with|some (.int i),some (.int j)=>if C i j=true then some (g i j) else none|_,_=>none
theorem bI_some {C:Int→Int→Bool}{g:Int→Int→D}{x y:Option D}{d:D}(h:bI C g x y=some d):∃i j,x=some (.int i)∧y=some (.int j)∧C i j=true∧d=g i j:=by
 unfold bI at h
 split at h
 ·rename_i i j
  by_cases q:C i j=true
  ·rw[if_pos q]at h;cases h;exact⟨i,j,rfl,rfl,q,rfl⟩
  ·rw[if_neg q]at h;cases h
 ·cases h
theorem bI_eq {C:Int→Int→Bool}{g:Int→Int→D}{i j:Int}(h:C i j=true):bI C g (some (.int i)) (some (.int j))=some (g i j):=by unfold bI;simp only[if_pos h]
noncomputable def cT:Int→Int→Bool:=fun _ _=>true
noncomputable def cMul:Int→Int→Bool:=fun i j=>decide ((-(2 ^ 64)<i∧i<2 ^ 64)∨(-(2 ^ 64)<j∧j<2 ^ 64))
noncomputable def cDiv:Int→Int→Bool:=fun _ j=>decide (0<j∧j<1073741824)
noncomputable def cMod:Int→Int→Bool:=fun _ j=>decide (0<j)
theorem de_op {op:Operator}{C:Int→Int→Bool}{g:Int→Int→Int}{r:R2}{mm:Bool}(ho:OpR X (binaryOp op) r) (hr:∀i j H Q,C i j=true→Q (V.int (g i j)) H→r (.int i) (.int j) H Q) (ha:DE X m a fa) (hb:DE X m' b fb):
  DE X mm (.BinOp a op b pos) (fun δ=>bI C (fun i j=>.int (g i j)) (fa δ) (fb δ)):=
 (pe_op ho ha hb).imp fun σ H Q ⟨B,Hk,δ,d,R,e,k⟩=>by
  obtain⟨i,j,e1,e2,hc,rfl⟩:=bI_some e
  refine two R e1 e2 fun v u H' s R' r1 r2=>?_
  simp only[Rep]at r1 r2
  subst r1 r2
  exact hr i j H' Q hc (k _ H' s (by simp only[Rep]))
noncomputable def addI (x y:Option D):Option D:=bI cT (fun i j=>.int (i+j)) x y
noncomputable def mulI (x y:Option D):Option D:=bI cMul (fun i j=>.int (i*j)) x y
noncomputable def divI (x y:Option D):Option D:=bI cDiv (fun i j=>.int (i / j)) x y
noncomputable def modI (x y:Option D):Option D:=bI cMod (fun i j=>.int (i%j)) x y
theorem de_add {mm:Bool}(ha:DE X m a fa) (hb:DE X m' b fb):DE X mm (.BinOp a .Add b pos) (fun δ=>addI (fa δ) (fb δ)):=de_op op_add (fun i j H Q _ q=>⟨i,j,rfl,rfl,q⟩) ha hb
theorem de_mul {mm:Bool}(ha:DE X m a fa) (hb:DE X m' b fb):DE X mm (.BinOp a .Mult b pos) (fun δ=>mulI (fa δ) (fb δ)):=de_op op_mul (fun i j H Q c q=>⟨i,j,rfl,rfl,(show(-(2 ^ 64)<i∧i<2 ^ 64)∨(-(2 ^ 64)<j∧j<2 ^ 64) from of_decide_eq_true c),q⟩) ha hb
theorem de_div {mm:Bool}(ha:DE X m a fa) (hb:DE X m' b fb):DE X mm (.BinOp a .FloorDiv b pos) (fun δ=>divI (fa δ) (fb δ)):=de_op op_fdiv (fun i j H Q c q=>⟨i,j,rfl,rfl,(show 0<j∧j<1073741824 from of_decide_eq_true c),q⟩) ha hb
theorem de_mod {mm:Bool}(ha:DE X m a fa) (hb:DE X m' b fb):DE X mm (.BinOp a .Mod b pos) (fun δ=>modI (fa δ) (fb δ)):=de_op op_mod (fun i j H Q c q=>⟨i,j,rfl,rfl,(show 0<j from of_decide_eq_true c),q⟩) ha hb
theorem de_cmp {op:CmpOp}{g:Int→Int→Bool}{mm:Bool}(ho:OpR X (compareOp op) (rI0 fun i j=>.bl (g i j))) (hm:behindInMarks op b=false) (ha:DE X m a fa) (hb:DE X m' b fb):
  DE X mm (.Compare a [op] [b] pos) (fun δ=>bI cT (fun i j=>.bl (g i j)) (fa δ) (fb δ)):=
 (pe_cmpR ho ha hb hm).imp fun σ H Q ⟨B,Hk,δ,d,R,e,k⟩=>by
  obtain⟨i,j,e1,e2,hc,rfl⟩:=bI_some e
  refine two R e1 e2 fun v u H' s R' r1 r2=>?_
  simp only[Rep]at r1 r2
  subst r1 r2
  exact⟨i,j,rfl,rfl,k _ H' s (by simp only[Rep])⟩
noncomputable def cI (g:Int→Int→Bool) (x y:Option D):Option Bool:=match x,y with|some (.int i),some (.int j)=>some (g i j)|_,_=>none
theorem cI_some {g:Int→Int→Bool}{x y:Option D}{c:Bool}(h:cI g x y=some c):∃i j,x=some (.int i)∧y=some (.int j)∧c=g i j:=by
 unfold cI at h
 split at h
 ·rename_i i j;cases h;exact⟨i,j,rfl,rfl,rfl⟩
 ·cases h
theorem dt_cmp {op:CmpOp}{g:Int→Int→Bool}(ho:OpR X (compareOp op) (rI0 fun i j=>.bl (g i j))) (hm:behindInMarks op b=false) (ha:DE X m a fa) (hb:DE X m' b fb):
  DT X (.Compare a [op] [b] pos) (fun δ=>cI g (fa δ) (fb δ)):=
 (pt_cmpR ho ha hb hm).imp fun σ H Q ⟨B,Hk,δ,d,R,e,k⟩=>by
  obtain⟨i,j,e1,e2,rfl⟩:=cI_some e
  refine two R e1 e2 fun v u H' s R' r1 r2=>?_
  simp only[Rep]at r1 r2
  subst r1 r2
  exact⟨i,j,rfl,rfl,_,rfl,k H' s⟩
noncomputable abbrev gLt:Int→Int→Bool:=fun i j=>decide (i<j)
noncomputable abbrev gLe:Int→Int→Bool:=fun i j=>decide (i≤j)
noncomputable abbrev gGt:Int→Int→Bool:=fun i j=>decide (j<i)
noncomputable def tyB (x:Option D):Option Bool:=match x with|some (.bl b)=>some b|_=>none
noncomputable def ofB (x:Option Bool):Option D:=match x with|some b=>some (.bl b)|none=>none
theorem tyB_some {x:Option D}{c:Bool}(h:tyB x=some c):x=some (.bl c):=by
 unfold tyB at h
 split at h
 ·cases h;rfl
 ·cases h
theorem dt_val (ha:DE X m a fa) (he:∀whole,isTrue a X.env whole=(do let v ←whole;standAt a.pos;holding [v] (truthy v)):=by intro _;rfl):DT X a (fun δ=>tyB (fa δ)):=
 (pt_val ha he).imp fun σ H Q ⟨B,Hk,δ,d,R,e,k⟩=>⟨B,Hk,δ,_,R,tyB_some e,fun v H' s r=>by
  simp only[Rep]at r
  subst r
  exact⟨d,rfl,k H' s⟩⟩
variable{fc ga gb:DEnv→Option Bool}{rest:List Expr}
noncomputable def andO (x y:Option Bool):Option Bool:=match x with|some true=>y|some false=>some false|none=>none
noncomputable def orO (x y:Option Bool):Option Bool:=match x with|some true=>some true|some false=>y|none=>none
noncomputable def notO (x:Option Bool):Option Bool:=match x with|some c=>some (!c)|none=>none
noncomputable abbrev DW (X:Cx) (e:Expr) (f:DEnv→Option Bool):Prop:=PW X e (tMT X.K f)
theorem dw_and1 (ha:DT X a ga):DW X (.BoolOp .And [a] pos) ga:=pw_and1 ha
theorem dw_or1 (ha:DT X a ga):DW X (.BoolOp .Or [a] pos) ga:=pw_or1 ha
theorem dw_and (ha:DT X a ga) (hb:DW X (.BoolOp .And (b::rest) pos) gb):DW X (.BoolOp .And (a::b::rest) pos) (fun δ=>andO (ga δ) (gb δ)):=
 (pw_and ha hb).imp fun σ H Q ⟨B,Hk,δ,d,R,e,k⟩=>by
  unfold andO at e
  split at e
  ·rename_i q
   exact⟨B,Hk,δ,true,R,q,fun H1 s1=>iteT (⟨B,Hk,δ,d,R.to s1,e,fun H2 s2=>k H2 (s1.trans s2)⟩)⟩
  ·rename_i q;cases e
   exact⟨B,Hk,δ,false,R,q,fun H1 s1=>iteF (k H1 s1)⟩
  ·cases e
theorem dw_or (ha:DT X a ga) (hb:DW X (.BoolOp .Or (b::rest) pos) gb):DW X (.BoolOp .Or (a::b::rest) pos) (fun δ=>orO (ga δ) (gb δ)):=
 (pw_or ha hb).imp fun σ H Q ⟨B,Hk,δ,d,R,e,k⟩=>by
  unfold orO at e
  split at e
  ·rename_i q;cases e
   exact⟨B,Hk,δ,true,R,q,fun H1 s1=>iteT (k H1 s1)⟩
  ·rename_i q
   exact⟨B,Hk,δ,false,R,q,fun H1 s1=>iteF (⟨B,Hk,δ,d,R.to s1,e,fun H2 s2=>k H2 (s1.trans s2)⟩)⟩
  ·cases e
theorem dt_not (ha:DT X a ga):DT X (.UnaryOp .Not a pos) (fun δ=>notO (ga δ)):=
 (pt_not ha).imp fun σ H Q ⟨B,Hk,δ,d,R,e,k⟩=>by
  dsimp only[notO]at e
  split at e
  ·rename_i c q;cases e
   exact⟨B,Hk,δ,c,R,q,fun H1 s1=>k H1 s1⟩
  ·cases e
theorem de_one {op:BoolOp}{mm:Bool}(ha:DE X m a fa) (hk:m=mm:=by rfl):DE X mm (.BoolOp op [a] pos) fa:=by subst hk;exact pe_one ha
theorem de_and {mm:Bool}(ha:DE X m a fa) (hb:DE X mm (.BoolOp .And (b::rest) pos) fb):DE X mm (.BoolOp .And (a::b::rest) pos) (fun δ=>match tyB (fa δ)with|some true=>fb δ|some false=>some (.bl false)|none=>none):=
 (pe_and ha hb).imp fun σ H Q ⟨B,Hk,δ,d,R,e,k⟩=>by
  split at e
  ·rename_i q
   exact⟨B,Hk,δ,_,R,tyB_some q,fun v H1 s1 r=>by
    simp only[Rep]at r
    exact⟨true,r,by rw[if_pos rfl];exact⟨B,Hk,δ,d,R.to s1,e,fun v H2 s2=>k v H2 (s1.trans s2)⟩⟩⟩
  ·rename_i q;cases e
   exact⟨B,Hk,δ,_,R,tyB_some q,fun v H1 s1 r=>by
    simp only[Rep]at r
    exact⟨false,r,by rw[if_neg Bool.false_ne_true];exact k _ H1 s1 (by simp only[Rep])⟩⟩
  ·cases e
theorem de_or {mm:Bool}(ha:DE X m a fa) (hb:DE X mm (.BoolOp .Or (b::rest) pos) fb):DE X mm (.BoolOp .Or (a::b::rest) pos) (fun δ=>match tyB (fa δ)with|some true=>some (.bl true)|some false=>fb δ|none=>none):=
 (pe_or ha hb).imp fun σ H Q ⟨B,Hk,δ,d,R,e,k⟩=>by
  split at e
  ·rename_i q;cases e
   exact⟨B,Hk,δ,_,R,tyB_some q,fun v H1 s1 r=>by
    simp only[Rep]at r
    exact⟨true,r,by rw[if_pos rfl];exact k _ H1 s1 (by simp only[Rep])⟩⟩
  ·rename_i q
   exact⟨B,Hk,δ,_,R,tyB_some q,fun v H1 s1 r=>by
    simp only[Rep]at r
    exact⟨false,r,by rw[if_neg Bool.false_ne_true];exact⟨B,Hk,δ,d,R.to s1,e,fun v H2 s2=>k v H2 (s1.trans s2)⟩⟩⟩
  ·cases e
theorem de_not {mm:Bool}(ha:DE X m a fa):DE X mm (.UnaryOp .Not a pos) (fun δ=>ofB (notO (tyB (fa δ)))):=
 (pe_not ha).imp fun σ H Q ⟨B,Hk,δ,d,R,e,k⟩=>by
  cases q:tyB (fa δ)with
  |none=>simp only[q,notO,ofB]at e;cases e
  |some c=>
   simp only[q,notO,ofB]at e;cases e
   exact⟨B,Hk,δ,_,R,tyB_some q,fun v H1 s1 r=>by
    simp only[Rep]at r
    exact⟨c,r,k _ H1 s1 (by simp only[Rep])⟩⟩
theorem de_ifExp {c:Expr}{mm:Bool}(hc:DT X c fc) (ha:DE X mm a fa) (hb:DE X mm b fb):DE X mm (.IfExp c a b pos) (fun δ=>match fc δ with|some true=>fa δ|some false=>fb δ|none=>none):=
 (pe_ifExp hc ha hb).imp fun σ H Q ⟨B,Hk,δ,d,R,e,k⟩=>by
  split at e
  ·rename_i q
   exact⟨B,Hk,δ,true,R,q,fun H1 s1=>iteT (⟨B,Hk,δ,d,R.to s1,e,fun v H2 s2=>k v H2 (s1.trans s2)⟩)⟩
  ·rename_i q
   exact⟨B,Hk,δ,false,R,q,fun H1 s1=>iteF (⟨B,Hk,δ,d,R.to s1,e,fun v H2 s2=>k v H2 (s1.trans s2)⟩)⟩
  ·cases e
noncomputable def af (x:Option D) (y:Option (List D)):Option (List D):=match x,y with|some d,some ds=>some (d::ds)|_,_=>none
theorem consO_some {x:Option D}{y:Option (List D)}{l:List D}(h:af x y=some l):∃d ds,x=some d∧y=some ds∧l=d::ds:=by
 unfold af at h
 split at h
 ·rename_i d ds;cases h;exact⟨d,ds,rfl,rfl,rfl⟩
 ·cases h
variable{e:Expr}{es:List Expr}{fe:DEnv→Option D}{fs:DEnv→Option (List D)}
theorem ag:DA X m [] (fun _=>some []):=pa_nil.imp fun σ H Q ⟨B,Hk,δ,d,R,e,k⟩=>by cases e;exact k [] H (Same.refl H) Reps.nil
theorem ac (ha:DE X m e fe) (hr:DA X m es fs) (hs:starEach (e::es) X.env=(false,eval e X.env)::starEach es X.env:=by rfl):DA X m (e::es) (fun δ=>af (fe δ) (fs δ)):=
 (pa_cons ha hr hs).imp fun σ H Q ⟨B,Hk,δ,l,R,e,k⟩=>by
  obtain⟨d,ds,e1,e2,rfl⟩:=consO_some e
  exact⟨B,Hk,δ,d,R,e1,fun v H1 s1 r1=>⟨B,Hk,δ,ds,R.to s1,e2,fun vs H2 s2 r2=>k (v::vs) H2 (s1.trans s2) (Reps.cons (r1.same (R.to s1) s2) r2)⟩⟩
noncomputable def lim:Nat:=1000000
theorem lim_line {n:Nat}(h:n≤lim):n≤sizeLine:=Nat.le_trans h (by decide)
noncomputable def tupO (x:Option (List D)):Option D:=match x with|some ds=>if ds.length≤lim then some (.tup ds) else none|none=>none
noncomputable def lstO (x:Option (List D)):Option D:=match x with|some ds=>if ds.length≤lim then some (.lst ds) else none|none=>none
theorem tupO_some {x:Option (List D)}{d:D}(h:tupO x=some d):∃ds,x=some ds∧ds.length≤lim∧d=.tup ds:=by
 unfold tupO at h
 split at h
 ·rename_i ds
  by_cases q:ds.length≤lim
  ·rw[if_pos q]at h;cases h;exact⟨ds,rfl,q,rfl⟩
  ·rw[if_neg q]at h;cases h
 ·cases h
theorem lstO_some {x:Option (List D)}{d:D}(h:lstO x=some d):∃ds,x=some ds∧ds.length≤lim∧d=.lst ds:=by
 unfold lstO at h
 split at h
 ·rename_i ds
  by_cases q:ds.length≤lim
  ·rw[if_pos q]at h;cases h;exact⟨ds,rfl,q,rfl⟩
  ·rw[if_neg q]at h;cases h
 ·cases h
theorem same_upd {H:Hp}{p:Addr}{o:HO}(h:H p=none):Same H (upd H p o):=fun b u e=>by rw[upd_ne (ne_of_none e h)];exact e
theorem de_tup {x1:Nat}(h:DA X m es fs):DE X m (.Tuple es x1 pos) (fun δ=>tupO (fs δ)):=
 (pe_tup h).imp fun σ H Q ⟨B,Hk,δ,d,R,e,k⟩=>by
  obtain⟨ds,e1,hl,rfl⟩:=tupO_some e
  refine⟨B,Hk,δ,ds,R,e1,fun vs H1 s1 r1=>⟨by rw[←r1.length];exact lim_line hl,fun p hp=>?_⟩⟩
  have s2:=same_upd (o:=.tup vs) hp
  refine k _ _ (s1.trans s2) ?_
  simp only[Rep]
  exact⟨p,vs,rfl,upd_same,r1.same (R.to s1) s2⟩
theorem df_lst (h:DA X false es fs):DF X (.List es pos) (fun δ=>lstO (fs δ)):=
 (pe_lst h).imp fun σ H Q ⟨B,Hk,δ,d,R,e,k⟩=>by
  obtain⟨ds,e1,hl,rfl⟩:=lstO_some e
  refine⟨B,Hk,δ,ds,R,e1,fun vs H1 s1 r1=>⟨by rw[←r1.length];exact lim_line hl,fun p hp=>?_⟩⟩
  have s2:=same_upd (o:=.lst vs) hp
  exact k p _ (s1.trans s2) (s1.free hp) ⟨vs,upd_same,r1.same (m:=false) (R.to s1) s2⟩
end
end L2
namespace L2
open PySem PySem.Spec PyProof.Rows
noncomputable def okD:Nat→D→Bool
 |_,.non=>true
 |_,.int _=>true
 |_,.str _=>true
 |n+1,.tup ds=>ds.all (okD n)
 |n+1,.lst ds=>ds.all (okD n)
 |_,_=>false
theorem okD_tup {n:Nat}{ds:List D}(h:okD n (.tup ds)=true):∃k,n=k+1∧ds.all (okD k)=true:=by
 cases n with
 |zero=>simp[okD]at h
 |succ k=>exact⟨k,rfl,by simpa only[okD]using h⟩
theorem okD_lst {n:Nat}{ds:List D}(h:okD n (.lst ds)=true):∃k,n=k+1∧ds.all (okD k)=true:=by
 cases n with
 |zero=>simp[okD]at h
 |succ k=>exact⟨k,rfl,by simpa only[okD]using h⟩
section
variable{X:Cx}{pins:List (Addr×Obj)}{σ:St}{H:Hp}{s:Shared}{B B':Addr→Prop}
theorem list_not_tuple {a:Addr}{xs ys:List V}(I:Inv X pins σ H s) (h:SqL X.K H a xs) (h':SqT X.K H a ys):False:=by
 obtain⟨its,_,⟨o,n,e,hc,_,_⟩,_⟩:=I.list h
 obtain⟨its',_,⟨o',e',hc',_⟩,_⟩:=I.tuple h'
 rw[e]at e';cases e'
 rw[hc]at hc'
 injection hc' with z
 exact absurd z (by decide)
mutual
theorem Rep.inj (I:Inv X pins σ H s):∀{n n':Nat}{d e:D}{v:V},okD n d=true→okD n' e=true→Rep X.K B H d v→Rep X.K B' H e v→d=e
 |n,n',.non,e,v,hd,he,r,r'=>by
  simp only[Rep]at r;subst r
  cases e with
  |non=>rfl
  |dT _ _=>simp[okD]at he
  |dK _ _=>simp[okD]at he
  |dD _ _=>simp[okD]at he
  |sp _ _=>simp[okD]at he
  |tup _=>simp only[Rep]at r';obtain⟨a,xs,z,_⟩:=r';cases z
  |lst _=>simp only[Rep]at r';obtain⟨a,xs,z,_⟩:=r';cases z
  |_=>simp only[Rep]at r';cases r'
 |n,n',.bl _,e,v,hd,he,r,r'=>by simp[okD]at hd
 |n,n',.dT _ _,e,v,hd,he,r,r'=>by simp[okD]at hd
 |n,n',.dK _ _,e,v,hd,he,r,r'=>by simp[okD]at hd
 |n,n',.dD _ _,e,v,hd,he,r,r'=>by simp[okD]at hd
 |n,n',.sp _ _,e,v,hd,he,r,r'=>by simp[okD]at hd
 |n,n',.int i,e,v,hd,he,r,r'=>by
  simp only[Rep]at r;subst r
  cases e with
  |int j=>simp only[Rep]at r';cases r';rfl
  |dT _ _=>simp[okD]at he
  |dK _ _=>simp[okD]at he
  |dD _ _=>simp[okD]at he
  |sp _ _=>simp[okD]at he
  |tup _=>simp only[Rep]at r';obtain⟨a,xs,z,_⟩:=r';cases z
  |lst _=>simp only[Rep]at r';obtain⟨a,xs,z,_⟩:=r';cases z
  |_=>simp only[Rep]at r';cases r'
 |n,n',.str i,e,v,hd,he,r,r'=>by
  simp only[Rep]at r;subst r
  cases e with
  |str j=>simp only[Rep]at r';cases r';rfl
  |dT _ _=>simp[okD]at he
  |dK _ _=>simp[okD]at he
  |dD _ _=>simp[okD]at he
  |sp _ _=>simp[okD]at he
  |tup _=>simp only[Rep]at r';obtain⟨a,xs,z,_⟩:=r';cases z
  |lst _=>simp only[Rep]at r';obtain⟨a,xs,z,_⟩:=r';cases z
  |_=>simp only[Rep]at r';cases r'
 |n,n',.tup ds,e,v,hd,he,r,r'=>by
  simp only[Rep]at r
  obtain⟨a,xs,rfl,hq,hr⟩:=r
  obtain⟨k,_,hd⟩:=okD_tup hd
  cases e with
  |tup es=>
   simp only[Rep]at r'
   obtain⟨b,ys,z,hq',hr'⟩:=r'
   cases z
   obtain rfl:=I.tuple_inj (SqT.of hq) (SqT.of hq')
   obtain⟨k',_,he⟩:=okD_tup he
   rw[Reps.inj I hd he hr hr']
  |lst es=>
   simp only[Rep]at r'
   obtain⟨b,ys,z,hq',hr'⟩:=r'
   cases z
   exact(list_not_tuple I hq'.sq (SqT.of hq)).elim
  |dT _ _=>simp[okD]at he
  |dK _ _=>simp[okD]at he
  |dD _ _=>simp[okD]at he
  |sp _ _=>simp[okD]at he
  |_=>simp only[Rep]at r';cases r'
 |n,n',.lst ds,e,v,hd,he,r,r'=>by
  simp only[Rep]at r
  obtain⟨a,xs,rfl,hq,hr⟩:=r
  obtain⟨k,_,hd⟩:=okD_lst hd
  cases e with
  |lst es=>
   simp only[Rep]at r'
   obtain⟨b,ys,z,hq',hr'⟩:=r'
   cases z
   obtain rfl:=I.list_inj hq.sq hq'.sq
   obtain⟨k',_,he⟩:=okD_lst he
   rw[Reps.inj I hd he hr hr']
  |tup es=>
   simp only[Rep]at r'
   obtain⟨b,ys,z,hq',hr'⟩:=r'
   cases z
   exact(list_not_tuple I hq.sq (SqT.of hq')).elim
  |dT _ _=>simp[okD]at he
  |dK _ _=>simp[okD]at he
  |dD _ _=>simp[okD]at he
  |sp _ _=>simp[okD]at he
  |_=>simp only[Rep]at r';cases r'
theorem Reps.inj (I:Inv X pins σ H s):∀{n n':Nat}{ds es:List D}{xs:List V},ds.all (okD n)=true→es.all (okD n')=true→Reps X.K B H ds xs→Reps X.K B' H es xs→ds=es
 |n,n',[],es,xs,hd,he,r,r'=>by
  simp only[Reps]at r;subst r
  cases es with
  |nil=>rfl
  |cons e es=>simp only[Reps]at r';obtain⟨_,_,z,_⟩:=r';cases z
 |n,n',d::ds,es,xs,hd,he,r,r'=>by
  simp only[Reps]at r
  obtain⟨x,t,rfl,r1,r2⟩:=r
  cases es with
  |nil=>simp only[Reps]at r';cases r'
  |cons e es=>
   obtain⟨q1,q2⟩:=r'.uncons
   rw[List.all_cons,Bool.and_eq_true]at hd he
   rw[Rep.inj I hd.1 he.1 r1 q1,Reps.inj I hd.2 he.2 r2 q2]
end
theorem all_range_eq:∀(ds es:List D),(ds.length=es.length)→((List.range ds.length).all fun j=>decide (ds[j]?=es[j]?))=decide (ds=es):=by
 intro ds es hl
 rw[Bool.eq_iff_iff,List.all_eq_true,decide_eq_true_iff]
 constructor
 ·intro h
  apply List.ext_getElem?
  intro j
  by_cases hj:j<ds.length
  ·exact of_decide_eq_true (h j (List.mem_range.mpr hj))
  ·rw[List.getElem?_eq_none (by omega),List.getElem?_eq_none (by omega)]
 ·intro h j _
  subst h
  exact decide_eq_true rfl
theorem all_range_tup:∀(ds es:List D),(((List.range (min ds.length es.length)).all fun j=>decide (ds[j]?=es[j]?))&&ds.length==es.length)=decide (ds=es):=by
 intro ds es
 by_cases hl:ds.length=es.length
 ·rw[hl,Nat.min_self,beq_self_eq_true,Bool.and_true,←hl,all_range_eq ds es hl]
 ·have h1:(ds.length==es.length)=false:=by simpa using hl
  have h2:¬ds=es:=fun z=>hl (by rw[z])
  rw[h1,Bool.and_false,decide_eq_false h2]
open SeqAt in
theorem eq_D (I:Inv X pins σ H s):∀(n:Nat) (d e:D) (x y:V) (u w:Value) (A:Around),okD n d=true→okD n e=true→A.units+n+1<cLine→Rep X.K B H d x→Rep X.K B' H e y→RelV x u→RelV y w→
  RcAt A s u w (decide (d=e))∧EqAt A s u w (decide (d=e))∧RcNeAt A s u w (!decide (d=e)):=by
 intro n
 induction n using Nat.strongRecOn with
 |ind n ih=>
 intro d e x y u w A hd he hA rd re rx ry
 have hu:A.units<cLine:=by omega
 cases d with
 |bl _=>simp[okD]at hd
 |dT _ _=>simp[okD]at hd
 |dK _ _=>simp[okD]at hd
 |dD _ _=>simp[okD]at hd
 |sp _ _=>simp[okD]at hd
 |non=>
  simp only[Rep]at rd;subst rd;cases rx
  cases e with
  |bl _=>simp[okD]at he
  |dT _ _=>simp[okD]at he
  |dK _ _=>simp[okD]at he
  |dD _ _=>simp[okD]at he
  |sp _ _=>simp[okD]at he
  |non=>simp only[Rep]at re;subst re;cases ry;rw[decide_eq_true rfl];exact⟨RcAt.none_none,EqAt.same _,RcNeAt.none_none⟩
  |int j=>simp only[Rep]at re;subst re;obtain⟨t,rfl⟩:=ry;rw[decide_eq_false (by intro z;cases z)];exact⟨RcAt.none_int j t,EqAt.none_int j t,RcNeAt.none_int j t⟩
  |str j=>simp only[Rep]at re;subst re;obtain⟨t,rfl⟩:=ry;rw[decide_eq_false (by intro z;cases z)];exact⟨RcAt.none_str j t,EqAt.none_str j t,RcNeAt.none_str j t⟩
  |tup es=>
   simp only[Rep]at re;obtain⟨b,ys,rfl,hq,hr⟩:=re;cases ry
   obtain⟨its,rv,ht,_⟩:=I.tuple (SqT.of hq)
   rw[decide_eq_false (by intro z;cases z)];exact⟨RcAt.none_tuple ht hu,EqAt.none_tuple ht hu,RcNeAt.none_tuple ht hu⟩
  |lst es=>
   simp only[Rep]at re;obtain⟨b,ys,rfl,hq,hr⟩:=re;cases ry
   obtain⟨its,rv,ht,_⟩:=I.list hq.sq
   rw[decide_eq_false (by intro z;cases z)];exact⟨RcAt.none_list ht.isList hu,EqAt.none_list ht.isList hu,RcNeAt.none_list ht.isList hu⟩
 |int i=>
  simp only[Rep]at rd;subst rd;obtain⟨t',rfl⟩:=rx
  cases e with
  |bl _=>simp[okD]at he
  |dT _ _=>simp[okD]at he
  |dK _ _=>simp[okD]at he
  |dD _ _=>simp[okD]at he
  |sp _ _=>simp[okD]at he
  |non=>simp only[Rep]at re;subst re;cases ry;rw[decide_eq_false (by intro z;cases z)];exact⟨RcAt.int_none i t',EqAt.int_none i t',RcNeAt.int_none i t'⟩
  |int j=>
   simp only[Rep]at re;subst re;obtain⟨t,rfl⟩:=ry
   have q:decide (D.int i=D.int j)=(i==j):=by rw[Bool.eq_iff_iff,decide_eq_true_iff,beq_iff_eq,D.int.injEq]
   rw[q];exact⟨RcAt.int_int i t' j t,EqAt.int_int i t' j t,RcNeAt.int_int i t' j t⟩
  |str j=>simp only[Rep]at re;subst re;obtain⟨t,rfl⟩:=ry;rw[decide_eq_false (by intro z;cases z)];exact⟨RcAt.int_str i t' j t,EqAt.int_str i t' j t,RcNeAt.int_str i t' j t⟩
  |tup es=>
   simp only[Rep]at re;obtain⟨b,ys,rfl,hq,hr⟩:=re;cases ry
   obtain⟨its,rv,ht,_⟩:=I.tuple (SqT.of hq)
   rw[decide_eq_false (by intro z;cases z)];exact⟨RcAt.int_tuple i t' ht hu,EqAt.int_tuple i t' ht hu,RcNeAt.int_tuple i t' ht hu⟩
  |lst es=>
   simp only[Rep]at re;obtain⟨b,ys,rfl,hq,hr⟩:=re;cases ry
   obtain⟨its,rv,ht,_⟩:=I.list hq.sq
   rw[decide_eq_false (by intro z;cases z)];exact⟨RcAt.int_list i t' ht.isList hu,EqAt.int_list i t' ht.isList hu,RcNeAt.int_list i t' ht.isList hu⟩
 |str i=>
  simp only[Rep]at rd;subst rd;obtain⟨t',rfl⟩:=rx
  cases e with
  |bl _=>simp[okD]at he
  |dT _ _=>simp[okD]at he
  |dK _ _=>simp[okD]at he
  |dD _ _=>simp[okD]at he
  |sp _ _=>simp[okD]at he
  |non=>simp only[Rep]at re;subst re;cases ry;rw[decide_eq_false (by intro z;cases z)];exact⟨RcAt.str_none i t',EqAt.str_none i t',RcNeAt.str_none i t'⟩
  |int j=>simp only[Rep]at re;subst re;obtain⟨t,rfl⟩:=ry;rw[decide_eq_false (by intro z;cases z)];exact⟨RcAt.str_int i t' j t,EqAt.str_int i t' j t,RcNeAt.str_int i t' j t⟩
  |str j=>
   simp only[Rep]at re;subst re;obtain⟨t,rfl⟩:=ry
   have q:decide (D.str i=D.str j)=(i==j):=by rw[Bool.eq_iff_iff,decide_eq_true_iff,beq_iff_eq,D.str.injEq]
   rw[q];exact⟨RcAt.str_str i t' j t,EqAt.str_str i t' j t,RcNeAt.str_str i t' j t⟩
  |tup es=>
   simp only[Rep]at re;obtain⟨b,ys,rfl,hq,hr⟩:=re;cases ry
   obtain⟨its,rv,ht,_⟩:=I.tuple (SqT.of hq)
   rw[decide_eq_false (by intro z;cases z)];exact⟨RcAt.str_tuple i t' ht hu,EqAt.str_tuple i t' ht hu,RcNeAt.str_tuple i t' ht hu⟩
  |lst es=>
   simp only[Rep]at re;obtain⟨b,ys,rfl,hq,hr⟩:=re;cases ry
   obtain⟨its,rv,ht,_⟩:=I.list hq.sq
   rw[decide_eq_false (by intro z;cases z)];exact⟨RcAt.str_list i t' ht.isList hu,EqAt.str_list i t' ht.isList hu,RcNeAt.str_list i t' ht.isList hu⟩
 |tup ds=>
  simp only[Rep]at rd;obtain⟨a,xs,rfl,hp,hr⟩:=rd;cases rx
  obtain⟨its,rv,hta,_⟩:=I.tuple (SqT.of hp)
  obtain⟨k,rfl,hd'⟩:=okD_tup hd
  cases e with
  |bl _=>simp[okD]at he
  |dT _ _=>simp[okD]at he
  |dK _ _=>simp[okD]at he
  |dD _ _=>simp[okD]at he
  |sp _ _=>simp[okD]at he
  |non=>simp only[Rep]at re;subst re;cases ry;rw[decide_eq_false (by intro z;cases z)];exact⟨RcAt.tuple_none hta hu,EqAt.tuple_none hta hu,RcNeAt.tuple_none hta hu⟩
  |int j=>simp only[Rep]at re;subst re;obtain⟨t,rfl⟩:=ry;rw[decide_eq_false (by intro z;cases z)];exact⟨RcAt.tuple_int j t hta hu,EqAt.tuple_int j t hta hu,RcNeAt.tuple_int j t hta hu⟩
  |str j=>simp only[Rep]at re;subst re;obtain⟨t,rfl⟩:=ry;rw[decide_eq_false (by intro z;cases z)];exact⟨RcAt.tuple_str j t hta hu,EqAt.tuple_str j t hta hu,RcNeAt.tuple_str j t hta hu⟩
  |lst es=>
   simp only[Rep]at re;obtain⟨b,ys,rfl,hq,hr⟩:=re;cases ry
   obtain⟨its,rv,ht,_⟩:=I.list hq.sq
   rw[decide_eq_false (by intro z;cases z)];exact⟨RcAt.tuple_list hta ht.isList hu,EqAt.tuple_list hta ht.isList hu,RcNeAt.tuple_list hta ht.isList hu⟩
  |tup es=>
   simp only[Rep]at re;obtain⟨b,ys,rfl,hq,hr2⟩:=re;cases ry
   obtain⟨its2,rv2,htb,_⟩:=I.tuple (SqT.of hq)
   obtain⟨k',e',he'⟩:=okD_tup he
   cases e'
   have l1:=hr.length;have l2:=rv.length;have l3:=hr2.length;have l4:=rv2.length
   have el:∀j (h1:j<its.toArray.size) (h2:j<its2.toArray.size),EqAt A.in1 s its.toArray[j] its2.toArray[j] (decide (ds[j]?=es[j]?)):=fun j h1 h2=>by
    simp only[List.size_toArray]at h1 h2
    obtain⟨d',hd1⟩:∃d',ds[j]?=some d':=⟨ds[j]'(by omega),by simp⟩
    obtain⟨e',he1⟩:∃e',es[j]?=some e':=⟨es[j]'(by omega),by simp⟩
    obtain⟨x',hx1,rx'⟩:=hr.get hd1
    obtain⟨y',hy1,ry'⟩:=hr2.get he1
    obtain⟨u',hu1,ru'⟩:=rv.get hx1
    obtain⟨w',hw1,rw'⟩:=rv2.get hy1
    have q:=(ih k (Nat.lt_succ_self k) d' e' x' y' u' w' A.in1 ((List.all_eq_true.mp hd') d' (List.mem_of_getElem? hd1)) ((List.all_eq_true.mp he') e' (List.mem_of_getElem? he1)) (by show A.units+1+k+1<cLine;omega) rx' ry' ru' rw').2.1
    have g1:its.toArray[j]=u':=by
     have:=List.getElem?_eq_some_iff.mp hu1
     simpa using this.2
    have g2:its2.toArray[j]=w':=by
     have:=List.getElem?_eq_some_iff.mp hw1
     simpa using this.2
    rw[g1,g2,hd1,he1]
    have q2:decide (some d'=some e')=decide (d'=e'):=by simp
    rw[q2]
    exact q
   have key:((List.range (min its.toArray.size its2.toArray.size)).all (fun j=>decide (ds[j]?=es[j]?))&&its.toArray.size==its2.toArray.size)=decide (D.tup ds=D.tup es):=by
    rw[List.size_toArray,List.size_toArray,←l2,←l4,←l1,←l3,all_range_tup]
    simp only[D.tup.injEq]
   have rc:=RcAt.tuples hta htb hu el
   have rn:=RcNeAt.tuples hta htb hu el
   rw[key]at rc rn
   refine⟨rc,?_,rn⟩
   by_cases hab:a=b
   ·subst hab
    obtain rfl:=I.tuple_inj (SqT.of hp) (SqT.of hq)
    have:=Reps.inj I hd' he' hr hr2
    subst this
    rw[decide_eq_true rfl]
    exact EqAt.same _
   ·exact EqAt.of_refs hab rc
 |lst ds=>
  simp only[Rep]at rd;obtain⟨a,xs,rfl,hp,hr⟩:=rd;cases rx
  obtain⟨its,rv,hta,_⟩:=I.list hp.sq
  obtain⟨k,rfl,hd'⟩:=okD_lst hd
  cases e with
  |bl _=>simp[okD]at he
  |dT _ _=>simp[okD]at he
  |dK _ _=>simp[okD]at he
  |dD _ _=>simp[okD]at he
  |sp _ _=>simp[okD]at he
  |non=>simp only[Rep]at re;subst re;cases ry;rw[decide_eq_false (by intro z;cases z)];exact⟨RcAt.list_none hta.isList hu,EqAt.list_none hta.isList hu,RcNeAt.list_none hta.isList hu⟩
  |int j=>simp only[Rep]at re;subst re;obtain⟨t,rfl⟩:=ry;rw[decide_eq_false (by intro z;cases z)];exact⟨RcAt.list_int j t hta.isList hu,EqAt.list_int j t hta.isList hu,RcNeAt.list_int j t hta.isList hu⟩
  |str j=>simp only[Rep]at re;subst re;obtain⟨t,rfl⟩:=ry;rw[decide_eq_false (by intro z;cases z)];exact⟨RcAt.list_str j t hta.isList hu,EqAt.list_str j t hta.isList hu,RcNeAt.list_str j t hta.isList hu⟩
  |tup es=>
   simp only[Rep]at re;obtain⟨b,ys,rfl,hq,hr⟩:=re;cases ry
   obtain⟨its,rv,ht,_⟩:=I.tuple (SqT.of hq)
   rw[decide_eq_false (by intro z;cases z)];exact⟨RcAt.list_tuple hta.isList ht hu,EqAt.list_tuple hta.isList ht hu,RcNeAt.list_tuple hta.isList ht hu⟩
  |lst es=>
   simp only[Rep]at re;obtain⟨b,ys,rfl,hq,hr2⟩:=re;cases ry
   obtain⟨its2,rv2,htb,_⟩:=I.list hq.sq
   obtain⟨k',e',he'⟩:=okD_lst he
   cases e'
   have l1:=hr.length;have l2:=rv.length;have l3:=hr2.length;have l4:=rv2.length
   have el:∀j (h1:j<its.toArray.size) (h2:j<its2.toArray.size),EqAt A.in1 s its.toArray[j] its2.toArray[j] (decide (ds[j]?=es[j]?)):=fun j h1 h2=>by
    simp only[List.size_toArray]at h1 h2
    obtain⟨d',hd1⟩:∃d',ds[j]?=some d':=⟨ds[j]'(by omega),by simp⟩
    obtain⟨e',he1⟩:∃e',es[j]?=some e':=⟨es[j]'(by omega),by simp⟩
    obtain⟨x',hx1,rx'⟩:=hr.get hd1
    obtain⟨y',hy1,ry'⟩:=hr2.get he1
    obtain⟨u',hu1,ru'⟩:=rv.get hx1
    obtain⟨w',hw1,rw'⟩:=rv2.get hy1
    have q:=(ih k (Nat.lt_succ_self k) d' e' x' y' u' w' A.in1 ((List.all_eq_true.mp hd') d' (List.mem_of_getElem? hd1)) ((List.all_eq_true.mp he') e' (List.mem_of_getElem? he1)) (by show A.units+1+k+1<cLine;omega) rx' ry' ru' rw').2.1
    have g1:its.toArray[j]=u':=by
     have:=List.getElem?_eq_some_iff.mp hu1
     simpa using this.2
    have g2:its2.toArray[j]=w':=by
     have:=List.getElem?_eq_some_iff.mp hw1
     simpa using this.2
    rw[g1,g2,hd1,he1]
    have q2:decide (some d'=some e')=decide (d'=e'):=by simp
    rw[q2]
    exact q
   by_cases hsz:its.toArray.size=its2.toArray.size
   ·have key:((List.range its.toArray.size).all (fun j=>decide (ds[j]?=es[j]?)))=decide (D.lst ds=D.lst es):=by
     have hl:ds.length=es.length:=by simp only[List.size_toArray]at hsz;omega
     rw[List.size_toArray,←l2,←l1,all_range_eq _ _ hl]
     simp only[D.lst.injEq]
    have rc:=RcAt.lists hta.isList htb.isList hsz hu el
    have rn:=RcNeAt.lists hta.isList htb.isList hsz hu el
    rw[key]at rc rn
    refine⟨rc,?_,rn⟩
    by_cases hab:a=b
    ·subst hab
     obtain rfl:=I.list_inj hp.sq hq.sq
     have:=Reps.inj I hd' he' hr hr2
     subst this
     rw[decide_eq_true rfl]
     exact EqAt.same _
    ·exact EqAt.of_refs hab rc
   ·have hne:¬D.lst ds=D.lst es:=fun z=>hsz (by
     cases z
     simp only[List.size_toArray];omega)
    have hb:(its.toArray.size != its2.toArray.size)=true:=by simpa using hsz
    rw[decide_eq_false hne]
    have rc:=RcAt.lists_lengths hta.isList htb.isList hb hu
    refine⟨rc,?_,RcNeAt.lists_lengths hta.isList htb.isList hb hu⟩
    have hab:a≠b:=fun z=>by
     subst z
     obtain rfl:=I.list_inj hp.sq hq.sq
     exact hsz (by simp only[List.size_toArray];omega)
    exact EqAt.of_refs hab rc
end
section
variable{X:Cx}{m m' mm:Bool}{a b:Expr}{fa fb:DEnv→Option D}{pos:Pos}
noncomputable def ok2 (x y:D):Bool:=okD 16 x&&okD 16 y
noncomputable def eqO (x y:Option D):Option Bool:=match x,y with|some d,some e=>if ok2 d e=true then some (decide (d=e)) else none|_,_=>none
theorem eqO_some {x y:Option D}{c:Bool}(h:eqO x y=some c):∃d e,x=some d∧y=some e∧okD 16 d=true∧okD 16 e=true∧c=decide (d=e):=by
 unfold eqO at h
 split at h
 ·rename_i d e
  by_cases q:ok2 d e=true
  ·rw[if_pos q]at h
   cases h
   unfold ok2 at q
   rw[Bool.and_eq_true]at q
   exact⟨d,e,rfl,rfl,q.1,q.2,rfl⟩
  ·rw[if_neg q]at h;cases h
 ·cases h
noncomputable def neO (x y:Option D):Option Bool:=notO (eqO x y)
noncomputable def rD (K:Frag) (g:D→D→Bool):R2:=fun x y H Q=>∃B B' d e,okD 16 d=true∧okD 16 e=true∧Rep K B H d x∧Rep K B' H e y∧Q (.bl (g d e)) H
theorem op_eqD (hu:X.A.units+64<cLine):OpR X (compareOp .Eq) (rD X.K fun d e=>decide (d=e)):=by
 intro pins s σ H x y v u Q I rx ry h
 obtain⟨B,B',d,e,hd,he,r1,r2,q⟩:=h
 exact(eq_D I 16 d e x y v u X.A hd he (by omega) r1 r2 rx ry).1 X.prog X.w X.xe _ ⟨.bl _,H,I,rfl,q⟩
theorem op_neD (hu:X.A.units+64<cLine):OpR X (compareOp .NotEq) (rD X.K fun d e=>!decide (d=e)):=by
 intro pins s σ H x y v u Q I rx ry h
 obtain⟨B,B',d,e,hd,he,r1,r2,q⟩:=h
 exact(eq_D I 16 d e x y v u X.A hd he (by omega) r1 r2 rx ry).2.2 X.prog X.w X.xe _ ⟨.bl _,H,I,rfl,q⟩
theorem de_eq (hu:X.A.units+64<cLine) (ha:DE X m a fa) (hb:DE X m' b fb):DE X mm (.Compare a [.Eq] [b] pos) (fun δ=>ofB (eqO (fa δ) (fb δ))):=
 (pe_cmpR (op_eqD hu) ha hb (nomark _)).imp fun σ H Q ⟨B,Hk,δ,d,R,e,k⟩=>by
  cases q:eqO (fa δ) (fb δ)with
  |none=>simp only[q,ofB]at e;cases e
  |some c=>
   simp only[q,ofB]at e;cases e
   obtain⟨d1,d2,e1,e2,o1,o2,rfl⟩:=eqO_some q
   exact two R e1 e2 fun v u H' s R' r1 r2=>⟨_,_,d1,d2,o1,o2,r1,r2,k _ H' s (by simp only[Rep])⟩
theorem dt_eq (hu:X.A.units+64<cLine) (ha:DE X m a fa) (hb:DE X m' b fb):DT X (.Compare a [.Eq] [b] pos) (fun δ=>eqO (fa δ) (fb δ)):=
 (pt_cmpR (op_eqD hu) ha hb (nomark _)).imp fun σ H Q ⟨B,Hk,δ,d,R,q,k⟩=>by
  obtain⟨d1,d2,e1,e2,o1,o2,rfl⟩:=eqO_some q
  exact two R e1 e2 fun v u H' s R' r1 r2=>⟨_,_,d1,d2,o1,o2,r1,r2,_,rfl,k H' s⟩
theorem dt_ne (hu:X.A.units+64<cLine) (ha:DE X m a fa) (hb:DE X m' b fb):DT X (.Compare a [.NotEq] [b] pos) (fun δ=>neO (fa δ) (fb δ)):=
 (pt_cmpR (op_neD hu) ha hb (nomark _)).imp fun σ H Q ⟨B,Hk,δ,d,R,e,k⟩=>by
  cases q:eqO (fa δ) (fb δ)with
  |none=>simp only[q,neO,notO]at e;cases e
  |some c=>
   simp only[q,neO,notO]at e;cases e
   obtain⟨d1,d2,e1,e2,o1,o2,rfl⟩:=eqO_some q
   exact two R e1 e2 fun v u H' s R' r1 r2=>⟨_,_,d1,d2,o1,o2,r1,r2,_,rfl,k H' s⟩
noncomputable def itemsD:D→Option (List D)
 |.lst ds=>some ds
 |.tup ds=>some ds
 |_=>none
noncomputable def inO (x y:Option D):Option Bool:=match x,y with|some d,some e=>(match itemsD e with|some es=>if(okD 16 d&&es.all (okD 16))=true then some (decide (d∈es)) else none|none=>none)|_,_=>none
theorem inO_some {x y:Option D}{c:Bool}(h:inO x y=some c):∃d e es,x=some d∧y=some e∧itemsD e=some es∧okD 16 d=true∧es.all (okD 16)=true∧c=decide (d∈es):=by
 unfold inO at h
 split at h
 ·rename_i d e
  split at h
  ·rename_i es he
   by_cases q:(okD 16 d&&es.all (okD 16))=true
   ·rw[if_pos q]at h
    cases h
    rw[Bool.and_eq_true]at q
    exact⟨d,e,es,rfl,rfl,he,q.1,q.2,rfl⟩
   ·rw[if_neg q]at h;cases h
  ·cases h
 ·cases h
noncomputable def notInO (x y:Option D):Option Bool:=notO (inO x y)
theorem Rep.items {K:Frag}{B:Addr→Prop}{H:Hp}{e:D}{es:List D}{y:V}(r:Rep K B H e y) (h:itemsD e=some es):∃p xs,y=.ref p∧(SqL K H p xs∨SqT K H p xs)∧Reps K B H es xs:=by
 cases e with
 |lst ds=>simp only[itemsD]at h;cases h;simp only[Rep]at r;obtain⟨a,xs,e,hq,hr⟩:=r;exact⟨a,xs,e,.inl hq.sq,hr⟩
 |tup ds=>simp only[itemsD]at h;cases h;simp only[Rep]at r;obtain⟨a,xs,e,hq,hr⟩:=r;exact⟨a,xs,e,.inr (SqT.of hq),hr⟩
 |_=>simp[itemsD]at h
open Classical in
theorem in_ok {pins:List (Addr×Obj)}{σ:St}{H:Hp}{s:Shared}{B B':Addr→Prop}{d:D}{es:List D}{x:V}{v:Value}{xs:List V}{its:List Value}(hu:X.A.units+64<cLine) (I:Inv X pins σ H s) (hd:okD 16 d=true) (he:es.all (okD 16)=true)
  (r1:Rep X.K B H d x) (r2:Reps X.K B' H es xs) (rx:RelV x v) (rv:Vals xs its):∃e:Value→Bool,(∀y,y∈its.toArray→SeqAt.EqAt X.A.in1 s y v (e y))∧its.toArray.any e=decide (d∈es):=by
 have one:∀j u,its[j]?=some u→∃d' x',es[j]?=some d'∧okD 16 d'=true∧Rep X.K B' H d' x'∧RelV x' u:=fun j u hj=>by
  have hl:=rv.length
  have hlt:j<xs.length:=by rw[hl];exact(List.getElem?_eq_some_iff.mp hj).1
  obtain⟨u',hu',ru⟩:=rv.get (i:=j) (x:=xs[j]) (by simp[hlt])
  rw[hj]at hu';cases hu'
  obtain⟨d',hd',rd'⟩:=r2.get' (i:=j) (x:=xs[j]) (by simp[hlt])
  exact⟨d',xs[j],hd',(List.all_eq_true.mp he) d' (List.mem_of_getElem? hd'),rd',ru⟩
 refine⟨fun u=>decide (∃d' x',okD 16 d'=true∧Rep X.K B' H d' x'∧RelV x' u∧d'=d),fun u hu'=>?_,?_⟩
 ·obtain⟨j,hj⟩:=List.getElem?_of_mem (show u∈its by simpa using hu')
  obtain⟨d',x',_,o',rd',ru⟩:=one j u hj
  have q:=(eq_D I 16 d' d x' x u v X.A.in1 o' hd (by show X.A.units+1+16+1<cLine;omega) rd' r1 ru rx).2.1
  have key:decide (∃d' x',okD 16 d'=true∧Rep X.K B' H d' x'∧RelV x' u∧d'=d)=decide (d'=d):=by
   rw[Bool.eq_iff_iff,decide_eq_true_iff,decide_eq_true_iff]
   constructor
   ·rintro⟨d2,x2,o2,r2',ru2,e2⟩
    rw[←e2]
    have ex:=ru.inj ru2
    subst ex
    exact Rep.inj I o' o2 rd' r2'
   ·intro e2
    exact⟨d',x',o',rd',ru,e2⟩
  show SeqAt.EqAt X.A.in1 s u v (decide (∃d' x',okD 16 d'=true∧Rep X.K B' H d' x'∧RelV x' u∧d'=d))
  rw[key]
  exact q
 ·rw[Bool.eq_iff_iff,decide_eq_true_iff,Array.any_eq_true]
  constructor
  ·rintro⟨j,hj,h⟩
   have h':=of_decide_eq_true h
   obtain⟨d2,x2,o2,r2',ru2,e2⟩:=h'
   have hj':its[j]?=some its.toArray[j]:=by
    simp only[List.size_toArray]at hj
    simp[hj]
   obtain⟨d',x',hd',o',rd',ru⟩:=one j _ hj'
   have ex:=ru.inj ru2
   subst ex
   have:=Rep.inj I o' o2 rd' r2'
   subst this
   rw[←e2]
   exact List.mem_of_getElem? hd'
  ·intro h
   obtain⟨j,hj⟩:=List.getElem?_of_mem h
   obtain⟨y,hy,ry⟩:=r2.get hj
   obtain⟨u,hu',ru⟩:=rv.get hy
   obtain⟨hlt,ge⟩:=List.getElem?_eq_some_iff.mp hu'
   refine⟨j,by simpa using hlt,decide_eq_true ⟨d,y,hd,ry,?_,rfl⟩⟩
   simpa[ge]using ru
noncomputable def rInD (K:Frag) (neg:Bool):R2:=fun x y H Q=>∃B B' d e es,itemsD e=some es∧okD 16 d=true∧es.all (okD 16)=true∧Rep K B H d x∧Rep K B' H e y∧Q (.bl (if neg then !decide (d∈es) else decide (d∈es))) H
theorem op_inD (hu:X.A.units+64<cLine):OpR X (compareOp .In) (rInD X.K false):=by
 intro pins s σ H x y v u Q I rx ry h
 obtain⟨B,B',d,e,es,hi,hd,he,r1,r2,q⟩:=h
 obtain⟨p,xs,rfl,hq,rs⟩:=r2.items hi
 cases ry
 rcases hq with hq|hq
 ·obtain⟨its,r,pl,hz⟩:=I.list hq
  obtain⟨g,g1,g2⟩:=in_ok hu I hd he r1 rs rx r
  exact SeqAt.in_listAt g pl.isList g1 ⟨.bl _,H,I,rfl,by rw[g2];exact q⟩
 ·obtain⟨its,r,pl,hz⟩:=I.tuple hq
  obtain⟨g,g1,g2⟩:=in_ok hu I hd he r1 rs rx r
  exact SeqAt.in_tupleAt g pl g1 ⟨.bl _,H,I,rfl,by rw[g2];exact q⟩
theorem op_notInD (hu:X.A.units+64<cLine):OpR X (compareOp .NotIn) (rInD X.K true):=by
 intro pins s σ H x y v u Q I rx ry h
 obtain⟨B,B',d,e,es,hi,hd,he,r1,r2,q⟩:=h
 obtain⟨p,xs,rfl,hq,rs⟩:=r2.items hi
 cases ry
 rcases hq with hq|hq
 ·obtain⟨its,r,pl,hz⟩:=I.list hq
  obtain⟨g,g1,g2⟩:=in_ok hu I hd he r1 rs rx r
  exact SeqAt.notIn_listAt g pl.isList g1 ⟨.bl _,H,I,rfl,by rw[g2];exact q⟩
 ·obtain⟨its,r,pl,hz⟩:=I.tuple hq
  obtain⟨g,g1,g2⟩:=in_ok hu I hd he r1 rs rx r
  exact SeqAt.notIn_tupleAt g pl g1 ⟨.bl _,H,I,rfl,by rw[g2];exact q⟩
theorem dt_in (hu:X.A.units+64<cLine) (ha:DE X m a fa) (hb:DE X m' b fb) (hm:behindInMarks .In b=false:=by rfl):DT X (.Compare a [.In] [b] pos) (fun δ=>inO (fa δ) (fb δ)):=
 (pt_cmpR (op_inD hu) ha hb hm).imp fun σ H Q ⟨B,Hk,δ,d,R,q,k⟩=>by
  obtain⟨d1,d2,es,e1,e2,hi,o1,o2,rfl⟩:=inO_some q
  exact two R e1 e2 fun v u H' s R' r1 r2=>⟨_,_,d1,d2,es,hi,o1,o2,r1,r2,_,rfl,k H' s⟩
theorem dt_notIn (hu:X.A.units+64<cLine) (ha:DE X m a fa) (hb:DE X m' b fb) (hm:behindInMarks .NotIn b=false:=by rfl):DT X (.Compare a [.NotIn] [b] pos) (fun δ=>notInO (fa δ) (fb δ)):=
 (pt_cmpR (op_notInD hu) ha hb hm).imp fun σ H Q ⟨B,Hk,δ,d,R,e,k⟩=>by
  cases q:inO (fa δ) (fb δ)with
  |none=>simp only[q,notInO,notO]at e;cases e
  |some c=>
   simp only[q,notInO,notO]at e;cases e
   obtain⟨d1,d2,es,e1,e2,hi,o1,o2,rfl⟩:=inO_some q
   exact two R e1 e2 fun v u H' s R' r1 r2=>⟨_,_,d1,d2,es,hi,o1,o2,r1,r2,_,rfl,k H' s⟩
theorem de_in (hu:X.A.units+64<cLine) (ha:DE X m a fa) (hb:DE X m' b fb) (hm:behindInMarks .In b=false:=by rfl):DE X mm (.Compare a [.In] [b] pos) (fun δ=>ofB (inO (fa δ) (fb δ))):=
 (pe_cmpR (op_inD hu) ha hb hm).imp fun σ H Q ⟨B,Hk,δ,d,R,e,k⟩=>by
  cases q:inO (fa δ) (fb δ)with
  |none=>simp only[q,ofB]at e;cases e
  |some c=>
   simp only[q,ofB]at e;cases e
   obtain⟨d1,d2,es,e1,e2,hi,o1,o2,rfl⟩:=inO_some q
   exact two R e1 e2 fun v u H' s R' r1 r2=>⟨_,_,d1,d2,es,hi,o1,o2,r1,r2,k _ H' s (by simp only[Rep];rfl)⟩
end
end L2
namespace L2
open PySem PySem.Spec PyProof.Rows
section
variable{X:Cx}{m m' mm:Bool}{a b:Expr}{fa fb:DEnv→Option D}{pos:Pos}
noncomputable def ixO (x y:Option D):Option D:=match x,y with|some d,some (.int i)=>(match itemsD d with|some ds=>atI ds i|none=>none)|_,_=>none
theorem ixO_some {x y:Option D}{d:D}(h:ixO x y=some d):∃e i es,x=some e∧y=some (.int i)∧itemsD e=some es∧atI es i=some d:=by
 unfold ixO at h
 split at h
 ·rename_i e i
  split at h
  ·rename_i es he;exact⟨e,i,es,rfl,rfl,he,h⟩
  ·cases h
 ·cases h
theorem Reps.atI {K:Frag}{B:Addr→Prop}{H:Hp}{ds:List D}{xs:List V}{i:Int}{d:D}(r:Reps K B H ds xs) (h:atI ds i=some d):∃x,atI xs i=some x∧Rep K B H d x:=by
 unfold L2.atI at h⊢
 rw[r.length]at h
 cases q:ixN xs.length i with
 |none=>rw[q]at h;cases h
 |some j=>
  rw[q]at h
  exact r.get (i:=j) h
theorem ix_items {K:Frag}{B:Addr→Prop}{H:Hp}{e:D}{es:List D}{y:V}{i:Int}{d:D}{Q:VK}(r:Rep K B H e y) (h:itemsD e=some es) (hi:atI es i=some d) (k:∀v,Rep K B H d v→Q v H):rIx K y (.int i) H Q:=by
 obtain⟨p,xs,rfl,hq,rs⟩:=r.items h
 obtain⟨x,hx,rx⟩:=rs.atI hi
 rcases hq with hq|hq
 ·exact .inl ⟨p,xs,i,x,rfl,rfl,hq,hx,k x rx⟩
 ·exact .inr (.inl ⟨p,xs,i,x,rfl,rfl,hq,hx,k x rx⟩)
theorem de_ix (ha:DE X m a fa) (hb:DE X m' b fb) (hs:PlainIx b:=by exact fun _ _=>rfl):DE X m (.Subscript a b pos) (fun δ=>ixO (fa δ) (fb δ)):=
 (pe_ix ix_seq ha hb hs).imp fun σ H Q ⟨B,Hk,δ,d,R,e,k⟩=>by
  obtain⟨d1,i,es,e1,e2,hi,hd⟩:=ixO_some e
  refine two R e1 e2 fun v u H' s R' r1 r2=>?_
  simp only[Rep]at r2
  subst r2
  exact ix_items r1 hi hd fun v rv=>k v H' s rv
noncomputable def ixSO (x y:Option D):Option D:=match x,y with|some (.str z),some (.int i)=>if z.length≤lim then(match atI z.cps.toList i with|some c=>some (.str ⟨#[c]⟩)|none=>none) else none|_,_=>none
theorem ixSO_some {x y:Option D}{d:D}(h:ixSO x y=some d):∃z i c,x=some (.str z)∧y=some (.int i)∧z.length≤lim∧atI z.cps.toList i=some c∧d=.str ⟨#[c]⟩:=by
 unfold ixSO at h
 split at h
 ·rename_i z i
  by_cases q:z.length≤lim
  ·rw[if_pos q]at h
   split at h
   ·rename_i c hc;cases h;exact⟨z,i,c,rfl,rfl,q,hc,rfl⟩
   ·cases h
  ·rw[if_neg q]at h;cases h
 ·cases h
theorem de_ixS (ha:DE X m a fa) (hb:DE X m' b fb) (hs:PlainIx b:=by exact fun _ _=>rfl):DE X mm (.Subscript a b pos) (fun δ=>ixSO (fa δ) (fb δ)):=
 (pe_ix ix_str ha hb hs).imp fun σ H Q ⟨B,Hk,δ,d,R,e,k⟩=>by
  obtain⟨z,i,c,e1,e2,hl,hc,rfl⟩:=ixSO_some e
  refine two R e1 e2 fun v u H' s R' r1 r2=>?_
  simp only[Rep]at r1 r2
  subst r1 r2
  exact⟨z,i,c,rfl,rfl,lim_line hl,hc,k _ H' s (by simp only[Rep])⟩
noncomputable def lenO (x:Option D):Option D:=match x with|some d=>(match itemsD d with|some ds=>some (.int ds.length)|none=>(match d with|.str z=>if z.length≤lim then some (.int z.length) else none|_=>none))|none=>none
noncomputable def lenL (x:Option D):Option D:=match x with|some d=>(match itemsD d with|some ds=>some (.int ds.length)|none=>none)|none=>none
theorem lenL_some {x:Option D}{d:D}(h:lenL x=some d):∃e es,x=some e∧itemsD e=some es∧d=.int es.length:=by
 unfold lenL at h
 split at h
 ·rename_i e
  split at h
  ·rename_i es he;cases h;exact⟨e,es,rfl,he,rfl⟩
  ·cases h
 ·cases h
theorem oneA {K:Frag}{σ:St}{H:Hp}{B:Addr→Prop}{Hk:Hp}{δ:DEnv}{d:D}{P:List V→Hp→Prop}(R:Rel K B Hk δ σ H) (e:fa δ=some d)
  (k:∀v H',Same H H'→Rel K B Hk δ σ H'→Rep K (bset m B δ σ) H' d v→P [v] H'):tCons (tM K m fa) tNil σ H P:=
 ⟨B,Hk,δ,d,R,e,fun v H1 s1 r1=>k v H1 s1 (R.to s1) r1⟩
theorem de_len (g:Gl X "len") (hm:X.mg "len"=none) {p:Pos}(ha:DE X m a fa) (hs:starEach [a] X.env=[(false,eval a X.env)]:=by rfl) (hd1:((Str.ofString "len")==("__debug__":Str))=false:=by decide):DE X mm (.Call (.Name "len" p) [a] [] pos) (fun δ=>lenL (fa δ)):=
 (pe_callB call_len_seq g hm PySem.boot_len (pa_cons ha pa_nil hs) (he:=hs)).imp fun σ H Q ⟨B,Hk,δ,d,R,e,k⟩=>by
  obtain⟨d1,es,e1,hi,rfl⟩:=lenL_some e
  refine oneA R e1 fun v H' s R' r=>?_
  obtain⟨p,xs,rfl,hq,rs⟩:=r.items hi
  exact⟨p,xs,rfl,hq,k _ H' s (by simp only[Rep,rs.length])⟩
theorem Inv.frz {pins:List (Addr×Obj)}{σ:St}{H:Hp}{s:Shared}{p:Addr}{u:HO}(I:Inv X pins σ H s) (h:H p=some u) (mu:Mut (some u)):∃o,Inv X pins σ (upd H p (.frz o u)) s:=by
 have hob:=I.hok p u h
 have hlt:=hob.lt
 have mu':Mut (H p):=by rw[h];exact mu
 have heo:∃o,s.heap.get? p=some o:=by
  cases u with
  |lst xs=>obtain⟨_,_,_,_,e⟩:=hob;exact⟨_,e⟩
  |tup xs=>exact mu.elim
  |dK kvs=>obtain⟨_,_,_,_,o,_,_,e,_⟩:=hob;exact⟨_,e⟩
  |dD kvs ep=>obtain⟨_,_,_,_,o,_,e,_⟩:=hob;exact⟨_,e⟩
  |dT kvs=>obtain⟨_,_,_,_,o,_,_,e,_⟩:=hob;exact⟨_,e⟩
  |set S n=>obtain⟨o,_,_,_,e,_⟩:=hob;exact⟨_,e⟩
  |ins C dx fs=>obtain⟨_,_,_,e,_⟩:=hob;exact⟨_,e⟩
  |own y=>exact mu.elim
  |xd fs=>exact mu.elim
  |rng lo hi=>exact mu.elim
  |frz ob u=>exact mu.elim
  |tbl ps=>exact mu.elim
  |met f y=>exact mu.elim
  |ext φ=>obtain⟨_,⟨_,e⟩,_⟩:=hob;exact⟨_,e⟩
 obtain⟨o,ho⟩:=heo
 refine⟨o,?_⟩
 have nown:∀c y,H c=some (.own y)→c≠p:=fun c y r z=>by subst z;rw[h]at r;cases r;exact mu
 have ntup:∀c xs,H c=some (.tup xs)→c≠p:=fun c xs r z=>by subst z;rw[h]at r;cases r;exact mu
 have new:ObjOk X.prog X.w (upd H p (.frz o u)) s.heap p (.frz o u):=⟨ho,hob.stay (fun b v _ q=>q) (fun b q=>by rw[upd_ne (nown b p q)];exact q) fun b xs q=>by rw[upd_ne (ntup b xs q)];exact q⟩
 exact I.un (t':=s.toks) (Un.write mu' (.inl rfl) (fun b v _ q=>q) ⟨o,ho⟩) (I.hok.write mu' (.inl rfl) (fun b v _ q=>q) ⟨o,ho⟩ new)
theorem ObR.mut {K:Frag}{B:Addr→Prop}{H:Hp}{d:D}{p:Addr}(h:ObR K B H d p):∃u,H p=some u∧Mut (some u):=by
 cases d with
 |lst ds=>obtain⟨xs,h1,h2⟩:=h;exact⟨_,h1,trivial⟩
 |dT ks ds=>obtain⟨xs,h1,h0,h2⟩:=h;exact⟨_,h1,trivial⟩
 |dK ks ds=>obtain⟨xs,h1,h0,h2⟩:=h;exact⟨_,h1,trivial⟩
 |dD ks ds=>obtain⟨xs,⟨ep,h1⟩,h0,h2⟩:=h;exact⟨_,h1,trivial⟩
 |_=>exact(show False from h).elim
theorem ext_upd {B:Addr→Prop}{H:Hp}{p:Addr}{u o:HO}(h:H p=some u) (mu:Mut (some u)) (hb:¬B p):Ext B H (upd H p o):=
 ⟨fun c xs r=>by rw[upd_ne (fun z=>by subst z;rw[h]at r;cases r;exact mu)];exact r,fun c x y r=>by rw[upd_ne (fun z=>by subst z;rw[h]at r;cases r;exact mu)];exact r,
  fun c r=>by rw[upd_ne (fun z=>by subst z;exact hb r)]⟩
theorem ObR.frozen {K:Frag}{B B':Addr→Prop}{H:Hp}{d:D}{p:Addr}{u:HO}{o:Obj}(h:ObR K B H d p) (hu:H p=some u) (hb:¬B p) (hs:∀a,B a→B' a):Rep K B' (upd H p (.frz o u)) d (.ref p):=by
 obtain⟨u',e,mu⟩:=h.mut
 rw[hu]at e;cases e
 have ex:Ext B H (upd H p (.frz o u)):=ext_upd hu mu hb
 cases d with
 |lst ds=>
  obtain⟨xs,h1,h2⟩:=h
  rw[hu]at h1;cases h1
  simp only[Rep]
  exact⟨p,xs,rfl,.inr (.inl ⟨o,upd_same⟩),(h2.ext ex).more hs⟩
 |dT ks ds=>
  obtain⟨xs,h1,h0,h2⟩:=h
  rw[hu]at h1;cases h1
  simp only[Rep]
  exact⟨p,xs,rfl,.inr ⟨o,upd_same⟩,h0,(h2.ext ex).more hs⟩
 |dK ks ds=>
  obtain⟨xs,h1,h0,h2⟩:=h
  rw[hu]at h1;cases h1
  simp only[Rep]
  exact⟨p,xs,rfl,.inr ⟨o,upd_same⟩,h0,(h2.ext ex).more hs⟩
 |dD ks ds=>
  obtain⟨xs,⟨ep,h1⟩,h0,h2⟩:=h
  rw[hu]at h1;cases h1
  simp only[Rep]
  exact⟨p,xs,rfl,⟨ep,.inr ⟨o,upd_same⟩⟩,h0,(h2.ext ex).more hs⟩
 |_=>exact(show False from h).elim
theorem DF.share (h:DF X a fa):DE X m a fa:=by
 intro pins s σ H Q I hq
 obtain⟨B,Hk,δ,d,R,e,k⟩:=hq
 have h1:=h pins s σ H (fun v H'=>∃p,v=.ref p∧Same H H'∧H p=none∧ObR X.K B H' d p) I ⟨B,Hk,δ,d,R,e,fun p H' s n ob=>⟨p,rfl,s,n,ob⟩⟩
 refine thn h1 fun u s1 ⟨v,H1,I1,rv,p,ev,sm,hn,ob⟩=>?_
 subst ev
 obtain⟨u',hu,mu⟩:=ob.mut
 obtain⟨o,I2⟩:=I1.frz hu mu
 have hb:¬B p:=fun z=>by
  obtain⟨o',e'⟩:=R.borH p z
  rw[hn]at e';cases e'
 refine⟨.ref p,_,I2,rv,k _ _ (fun c o' r=>?_) (ob.frozen hu hb fun a h=>bset_of m a h)⟩
 rw[upd_ne (ne_of_none r hn)]
 exact sm c o' r
end
noncomputable def NRep (K:Frag) (B:Addr→Prop) (Hk H:Hp) (d:D) (v:V):Prop:=match d with
 |.lst es=>∃b xs,v=.ref b∧Hk b=none∧H b=some (.lst xs)∧Reps K B H es xs
 |d=>Rep K B H d v
noncomputable def NReps (K:Frag) (B:Addr→Prop) (Hk H:Hp):List D→List V→Prop
 |[],vs=>vs=[]
 |d::ds,vs=>∃x r,vs=x::r∧NRep K B Hk H d x∧NReps K B Hk H ds r
noncomputable def RepT (K:Frag) (B:Addr→Prop) (Hk H:Hp) (d:D) (v:V):Prop:=match d with
 |.tup ds=>∃a vs,v=.ref a∧H a=some (.tup vs)∧NReps K B Hk H ds vs
 |_=>False
noncomputable def MRep (K:Frag) (B:Addr→Prop) (Hk H:Hp) (d:D) (v:V):Prop:=Rep K B H d v∨∃es b xs,d=.lst es∧v=.ref b∧Hk b=none∧H b=some (.lst xs)∧Reps K B H es xs
noncomputable def MReps (K:Frag) (B:Addr→Prop) (Hk H:Hp):List D→List V→Prop
 |[],vs=>vs=[]
 |d::ds,vs=>∃x r,vs=x::r∧MRep K B Hk H d x∧MReps K B Hk H ds r
theorem NRep.m {K:Frag}{B:Addr→Prop}{Hk H:Hp}{d:D}{v:V}(h:NRep K B Hk H d v):MRep K B Hk H d v:=by
 cases d with
 |lst es=>obtain⟨b,xs,h1,h2,h3,h4⟩:=h;exact .inr ⟨es,b,xs,rfl,h1,h2,h3,h4⟩
 |_=>exact .inl h
theorem NReps.m {K:Frag}{B:Addr→Prop}{Hk H:Hp}:∀{ds:List D}{vs:List V},NReps K B Hk H ds vs→MReps K B Hk H ds vs
 |[],vs,h=>h
 |d::ds,vs,h=>by obtain⟨x,r,e,h1,h2⟩:=h;exact⟨x,r,e,h1.m,NReps.m h2⟩
theorem NReps.length {K:Frag}{B:Addr→Prop}{Hk H:Hp}:∀{ds:List D}{vs:List V},NReps K B Hk H ds vs→ds.length=vs.length
 |[],vs,h=>by rw[show vs=[] from h];rfl
 |d::ds,vs,h=>by obtain⟨x,r,rfl,h1,h2⟩:=h;rw[List.length_cons,List.length_cons,NReps.length h2]
theorem MReps.frz1 {K:Frag}{B:Addr→Prop}{Hk H:Hp}{b:Addr}{xs:List V}{o:Obj}(hx:H b=some (.lst xs)) (ex:Ext B H (upd H b (.frz o (.lst xs)))):∀{ds:List D}{vs:List V},MReps K B Hk H ds vs→MReps K B Hk (upd H b (.frz o (.lst xs))) ds vs
 |[],vs,h=>h
 |d::ds,vs,h=>by
  obtain⟨x,r,e,h1,h2⟩:=h
  refine⟨x,r,e,?_,MReps.frz1 hx ex h2⟩
  rcases h1 with h1|⟨es,b',xs',rfl,rfl,n,hb',rs⟩
  ·exact .inl (h1.ext ex)
  ·by_cases q:b'=b
   ·subst q
    rw[hx]at hb';cases hb'
    refine .inl ?_
    simp only[Rep]
    exact⟨b',xs,rfl,.inr (.inl ⟨o,upd_same⟩),rs.ext ex⟩
   ·exact .inr ⟨es,b',xs',rfl,rfl,n,by rw[upd_ne q];exact hb',rs.ext ex⟩
theorem frzT {X:Cx}{pins:List (Addr×Obj)}{σ:St}{s:Shared}{B:Addr→Prop}{Hk:Hp}(hB:∀a,B a→∃o,Hk a=some o):∀(ds:List D) (vs:List V) (H:Hp),Inv X pins σ H s→MReps X.K B Hk H ds vs→
  ∃H',Inv X pins σ H' s∧Ext B H H'∧(∀c o,Hk c=some o→H c=some o→H' c=some o)∧Reps X.K B H' ds vs
 |[],vs,H,I,h=>⟨H,I,Ext.refl,fun _ _ _ q=>q,by rw[show vs=[] from h];exact Reps.nil⟩
 |d::ds,vs,H,I,h=>by
  obtain⟨x,r,rfl,h1,h2⟩:=h
  rcases h1 with h1|⟨es,b,xs,rfl,rfl,n,hb,rs⟩
  ·obtain⟨H',I',e',k',r'⟩:=frzT hB ds r H I h2
   exact⟨H',I',e',k',Reps.cons (h1.ext e') r'⟩
  ·obtain⟨o,I1⟩:=I.frz hb trivial
   have nb:¬B b:=fun z=>by obtain⟨o',q⟩:=hB b z;rw[n]at q;cases q
   have ex:Ext B H (upd H b (.frz o (.lst xs))):=ext_upd hb trivial nb
   obtain⟨H',I',e',k',r'⟩:=frzT hB ds r _ I1 (MReps.frz1 hb ex h2)
   refine⟨H',I',ex.trans e',fun c o' q1 q2=>k' c o' q1 (by rw[upd_ne (ne_of_none q1 n)];exact q2),Reps.cons (Rep.ext e' ?_) r'⟩
   simp only[Rep]
   exact⟨b,xs,rfl,.inr (.inl ⟨o,upd_same⟩),rs.ext ex⟩
noncomputable def RepR (K:Frag) (B:Addr→Prop) (Hk H':Hp) (d:D) (fr:Bool) (v:V):Prop:=if fr=true then(∃a,v=.ref a∧Hk a=none∧ObR K B H' d a)∨RepT K B Hk H' d v else Rep K B H' d v
inductive spM (K:Frag) (f:List D→Option (D×Bool)) (vs:List V) (H:Hp) (Q:VK) (E:XK):Prop
 |mk (B:Addr→Prop) (ds:List D) (r:D) (fr:Bool) (a_:(∀a,B a→∃o,H a=some o)) (b_:Reps K B H ds vs) (c_:f ds=some (r,fr)) (d_:∀v H',Same H H'→RepR K B H H' r fr v→Q v H'):spM K f vs H Q E
structure FnM (P:Program) (w:World) (K:Frag) (mg:Str→Option Value) (base:Heap) (k:Nat) (x:Str) (f:List D→Option (D×Bool)):Prop where
 ex:∃(p:Addr) (fd:FuncData) (ps:List Str),FnOk P w K mg base CX0 k p fd ps (spM K f)∧mg x=some (.ref p)∧PySem.W.keepIn K (.ref p)=true∧Binds K fd ps []
noncomputable def ah {α β:Type}(x:Option α) (f:α→Option β):Option β:=match x with|some a=>f a|none=>none
theorem aq {α β:Type}{x:Option α}{f:α→Option β}{b:β}(h:ah x f=some b):∃a,x=some a∧f a=some b:=by
 cases x with
 |none=>cases h
 |some a=>exact⟨a,rfl,h⟩
noncomputable def shO (x:Option (D×Bool)):Option D:=match x with|some (d,_)=>some d|none=>none
noncomputable def frO (x:Option (D×Bool)):Option D:=match x with|some (.tup _,true)=>none|some (d,true)=>some d|_=>none
section
variable{X:Cx}{m m' mm:Bool}{a b e:Expr}{es:List Expr}{fa fb:DEnv→Option D}{fs:DEnv→Option (List D)}{pos p:Pos}{k:Nat}{x:Str}{f:List D→Option (D×Bool)}
theorem call_un (F:FnM X.prog X.w X.K X.mg X.base k x f) (hr:Room k X.A) (hg:Gl X x) (ha:DA X m (e::es) fs) (hdb:(x==("__debug__":Str))=false) (he:starEach (e::es) X.env=(false,eval e X.env)::starEach es X.env) (hpl:(backTo pos (starEach es X.env)).any (·.1)=false):
  PE X (.Call (.Name x p) (e::es) [] pos) (fun σ H Q=>∃B Hk δ ds r fr,Rel X.K B Hk δ σ H∧fs δ=some ds∧f ds=some (r,fr)∧∀v H1 H',Same H H1→Same H1 H'→RepR X.K (bset m B δ σ) H1 H' r fr v→Q v H'):=by
 obtain⟨q,fd,ps,h1,h2,h3,h4⟩:=F.ex
 refine(pe_call (ds:=[]) (dvs:=[]) h1 hr hg h2 h3 h4 .nil pass0 ha hdb he hpl).imp fun σ H Q ⟨B,Hk,δ,ds,r,fr,R,e1,e2,kk⟩=>?_
 refine⟨B,Hk,δ,ds,R,e1,fun vs H1 s1 rs=>?_⟩
 show spM X.K f (vs++[]) H1 Q E0
 rw[List.append_nil]
 exact⟨bset m B δ σ,ds,r,fr,(R.to s1).bsH m,rs,e2,fun v H' s2 rr=>kk v H1 H' s1 s2 rr⟩
theorem df_call (F:FnM X.prog X.w X.K X.mg X.base k x f) (hr:Room k X.A) (hg:Gl X x) (ha:DA X false (e::es) fs) (hdb:(x==("__debug__":Str))=false:=by decide) (he:starEach (e::es) X.env=(false,eval e X.env)::starEach es X.env:=by rfl)
  (hpl:(backTo pos (starEach es X.env)).any (·.1)=false:=by rfl):DF X (.Call (.Name x p) (e::es) [] pos) (fun δ=>frO (ah (fs δ) f)):=
 (call_un F hr hg ha hdb he hpl).imp fun σ H Q ⟨B,Hk,δ,d,R,e,kk⟩=>by
  cases q:ah (fs δ) f with
  |none=>simp only[q,frO]at e;cases e
  |some p=>
   obtain⟨d',fr⟩:=p
   obtain⟨ds,e1,e2⟩:=aq q
   cases fr with
   |false=>cases d'<;>simp only[q,frO]at e<;>cases e
   |true=>
    have hd:d'=d∧∀ts,d≠.tup ts:=by
     cases d' with
     |tup ts=>simp only[q,frO]at e;cases e
     |_=>simp only[q,frO]at e;cases e;exact⟨rfl,fun ts z=>by cases z⟩
    obtain⟨rfl,nt⟩:=hd
    refine⟨B,Hk,δ,ds,_,_,R,e1,e2,fun v H1 H' s1 s2 rr=>?_⟩
    unfold RepR at rr
    rw[if_pos rfl]at rr
    rcases rr with⟨a,rfl,n,ob⟩|rt
    ·exact kk a H' (s1.trans s2) (s1.free n) ob
    ·cases d' with
     |tup ts=>exact(nt ts rfl).elim
     |_=>exact(show False from rt).elim
theorem de_call (F:FnM X.prog X.w X.K X.mg X.base k x f) (hr:Room k X.A) (hg:Gl X x) (ha:DA X m (e::es) fs) (hdb:(x==("__debug__":Str))=false:=by decide) (he:starEach (e::es) X.env=(false,eval e X.env)::starEach es X.env:=by rfl)
  (hpl:(backTo pos (starEach es X.env)).any (·.1)=false:=by rfl):DE X m (.Call (.Name x p) (e::es) [] pos) (fun δ=>shO (ah (fs δ) f)):=by
 intro pins s σ H Q I hq
 obtain⟨B,Hk,δ,d,R,e,kk⟩:=hq
 unfold shO at e
 split at e
 ·rename_i d' fr q
  cases e
  obtain⟨ds,e1,e2⟩:=aq q
  have h1:=call_un (p:=p) F hr hg ha hdb he hpl pins s σ H (fun v H'=>∃H1,Same H H1∧Same H1 H'∧RepR X.K (bset m B δ σ) H1 H' d fr v) I ⟨B,Hk,δ,ds,d,fr,R,e1,e2,fun v H1 H' s1 s2 rr=>⟨H1,s1,s2,rr⟩⟩
  refine thn h1 fun u s1 ⟨v,H',I1,rv,H1,sm1,sm2,rr⟩=>?_
  cases fr with
  |false=>
   unfold RepR at rr
   rw[if_neg Bool.false_ne_true]at rr
   exact⟨v,H',I1,rv,kk v H' (sm1.trans sm2) rr⟩
  |true=>
   unfold RepR at rr
   rw[if_pos rfl]at rr
   rcases rr with⟨p,rfl,n,ob⟩|rt
   rotate_left
   ·cases d with
    |tup ts=>
     obtain⟨a,vs,rfl,ha',rs⟩:=rt
     obtain⟨H2,I2,e2,k2,r2⟩:=frzT (B:=bset m B δ σ) (Hk:=H1) (fun c z=>by obtain⟨o',e'⟩:=R.bsH m c z;exact⟨o',sm1 c o' e'⟩) ts vs H' I1 rs.m
     refine⟨.ref a,H2,I2,rv,kk _ _ (fun c o' r=>k2 c o' (sm1 c o' r) (sm2 c o' (sm1 c o' r))) ?_⟩
     simp only[Rep]
     exact⟨a,vs,rfl,e2.tups _ _ ha',r2⟩
    |_=>exact(show False from rt).elim
   obtain⟨u',hu,mu⟩:=ob.mut
   obtain⟨o,I2⟩:=I1.frz hu mu
   have hb:¬bset m B δ σ p:=fun z=>by
    obtain⟨o',e'⟩:=R.bsH m p z
    have:=sm1 p o' e'
    rw[n]at this;cases this
   refine⟨.ref p,_,I2,rv,kk _ _ (fun c o' r=>?_) (ob.frozen hu hb fun a h=>h)⟩
   rw[upd_ne (ne_of_none (sm1 c o' r) n)]
   exact sm2 c o' (sm1 c o' r)
 ·cases e
end
inductive Out where
 |next (δ:DEnv)|ret (d:D) (fr:Bool)|brk (δ:DEnv)|cont (δ:DEnv)
noncomputable def OutK (K:Frag) (B:Addr→Prop) (Hk H:Hp) (Dn:Ends):Out→Prop
 |.next δ=>∀σ' H',Ext B H H'→Rel K B Hk δ σ' H'→Dn.nx σ' H'
 |.brk δ=>∀σ' H',Ext B H H'→Rel K B Hk δ σ' H'→Dn.bk σ' H'
 |.cont δ=>∀σ' H',Ext B H H'→Rel K B Hk δ σ' H'→Dn.ct σ' H'
 |.ret d fr=>∀v H',Ext B H H'→Same Hk H'→RepR K B Hk H' d fr v→Dn.rt v H'
inductive tD (K:Frag) (g:DEnv→Option Out) (Dn:Ends) (σ:St) (H:Hp):Prop
 |mk (B:Addr→Prop) (Hk:Hp) (δ:DEnv) (o:Out) (a_:Rel K B Hk δ σ H) (b_:g δ=some o) (c_:OutK K B Hk H Dn o):tD K g Dn σ H
noncomputable abbrev DS (X:Cx) (st:Stmt) (g:DEnv→Option Out):Prop:=PS X st (tD X.K g)
noncomputable abbrev DSs (X:Cx) (sts:List Stmt) (g:DEnv→Option Out):Prop:=PSs X sts (tD X.K g)
theorem OutK.ext {K:Frag}{B:Addr→Prop}{Hk H H1:Hp}{Dn:Ends}{o:Out}(h:OutK K B Hk H Dn o) (e:Ext B H H1):OutK K B Hk H1 Dn o:=by
 cases o with
 |next δ=>exact fun σ' H' x r=>h σ' H' (e.trans x) r
 |brk δ=>exact fun σ' H' x r=>h σ' H' (e.trans x) r
 |cont δ=>exact fun σ' H' x r=>h σ' H' (e.trans x) r
 |ret d fr=>exact fun v H' x r=>h v H' (e.trans x) r
noncomputable def nextO (δ:DEnv):Option Out:=some (.next δ)
noncomputable def seqO (x:Option Out) (k:DEnv→Option Out):Option Out:=match x with|some (.next δ)=>k δ|o=>o
section
variable{X:Cx}{m m' mm:Bool}{a b e:Expr}{es:List Expr}{fa fb:DEnv→Option D}{fs:DEnv→Option (List D)}{pos p:Pos}{st:Stmt}{rest:List Stmt}{g g1 g2:DEnv→Option Out}{fc:DEnv→Option Bool}
theorem dss_nil:DSs X [] nextO:=pss_nil.imp fun Dn σ H ⟨B,Hk,δ,o,R,e,k⟩=>by
 cases e
 exact k σ H Ext.refl R
theorem ad (h1:DS X st g1) (h2:DSs X rest g2):DSs X (st::rest) (fun δ=>seqO (g1 δ) g2):=
 (pss_cons h1 h2).imp fun Dn σ H ⟨B,Hk,δ,o,R,e,k⟩=>by
  cases q:g1 δ with
  |none=>simp only[q,seqO]at e;cases e
  |some o1=>
   cases o1 with
   |next δ1=>
    simp only[q,seqO]at e
    exact⟨B,Hk,δ,_,R,q,fun σ' H' x R'=>⟨B,Hk,δ1,o,R',e,k.ext x⟩⟩
   |brk δ1=>simp only[q,seqO]at e;cases e;exact⟨B,Hk,δ,_,R,q,k⟩
   |cont δ1=>simp only[q,seqO]at e;cases e;exact⟨B,Hk,δ,_,R,q,k⟩
   |ret d fr=>simp only[q,seqO]at e;cases e;exact⟨B,Hk,δ,_,R,q,k⟩
theorem ak (h1:DS X st g1):DSs X [st] g1:=pss_one h1
noncomputable def ifO (c:Option Bool) (x y:Option Out):Option Out:=match c with|some true=>x|some false=>y|none=>none
theorem Rel.ext {K:Frag}{B:Addr→Prop}{Hk H H':Hp}{δ:DEnv}{σ:St}(R:Rel K B Hk δ σ H) (s:Same H H'):Ext B H H':=s.ext R.borH
theorem ds_if {c:Expr}{x y:List Stmt}(hc:DT X c fc) (ha:DSs X x g1) (hb:DSs X y g2):DS X (.If c x y pos) (fun δ=>ifO (fc δ) (g1 δ) (g2 δ)):=
 (ps_if hc ha hb).imp fun Dn σ H ⟨B,Hk,δ,o,R,e,k⟩=>by
  unfold ifO at e
  split at e
  ·rename_i q
   exact⟨B,Hk,δ,true,R,q,fun H1 s1=>iteT ⟨B,Hk,δ,o,R.to s1,e,k.ext (R.ext s1)⟩⟩
  ·rename_i q
   exact⟨B,Hk,δ,false,R,q,fun H1 s1=>iteF ⟨B,Hk,δ,o,R.to s1,e,k.ext (R.ext s1)⟩⟩
  ·cases e
theorem Rel.set {K:Frag}{B:Addr→Prop}{Hk H:Hp}{δ:DEnv}{σ:St}{i:Nat}{d:D}{v:V}(R:Rel K B Hk δ σ H) (hi:i<σ.length) (r:Rep K B H d v):Rel K B Hk (δ.set i (some (d,false))) (σ.set i (some v)) H:=by
 have hi':i<δ.length:=by rw[R.len];exact hi
 refine⟨R.same,R.bor,by simpa using R.len,fun j e h=>?_,fun j e h=>?_,fun j k e f q hjk h1 h2 h3 h4=>?_⟩
 ·by_cases hj:j=i
  ·subst hj
   rw[List.getElem?_set_self hi']at h
   cases h
   exact⟨v,by rw[List.getElem?_set_self hi],r⟩
  ·rw[List.getElem?_set_ne (Ne.symm hj)]at h
   rw[List.getElem?_set_ne (Ne.symm hj)]
   exact R.var j e h
 ·by_cases hj:j=i
  ·subst hj
   rw[List.getElem?_set_self hi']at h
   cases h
  ·rw[List.getElem?_set_ne (Ne.symm hj)]at h
   rw[List.getElem?_set_ne (Ne.symm hj)]
   exact R.own j e h
 ·have nj:j≠i:=fun z=>by subst z;rw[List.getElem?_set_self hi']at h1;cases h1
  have nk:k≠i:=fun z=>by subst z;rw[List.getElem?_set_self hi']at h2;cases h2
  rw[List.getElem?_set_ne (Ne.symm nj)]at h1 h3
  rw[List.getElem?_set_ne (Ne.symm nk)]at h2 h4
  exact R.dis j k e f q hjk h1 h2 h3 h4
theorem Rel.setOwn {K:Frag}{B:Addr→Prop}{Hk H:Hp}{δ:DEnv}{σ:St}{i:Nat}{d:D}{a:Addr}(R:Rel K B Hk δ σ H) (hi:i<σ.length) (hk:Hk a=none) (ob:ObR K B H d a)
  (ho:∀(j:Nat) e,j≠i→δ[j]?=some (some (e,true))→σ[j]?≠some (some (.ref a))):Rel K B Hk (δ.set i (some (d,true))) (σ.set i (some (.ref a))) H:=by
 have hi':i<δ.length:=by rw[R.len];exact hi
 refine⟨R.same,R.bor,by simpa using R.len,fun j e h=>?_,fun j e h=>?_,fun j k e f q hjk h1 h2 h3 h4=>?_⟩
 ·by_cases hj:j=i
  ·subst hj
   rw[List.getElem?_set_self hi']at h
   cases h
  ·rw[List.getElem?_set_ne (Ne.symm hj)]at h
   rw[List.getElem?_set_ne (Ne.symm hj)]
   exact R.var j e h
 ·by_cases hj:j=i
  ·subst hj
   rw[List.getElem?_set_self hi']at h
   cases h
   exact⟨a,by rw[List.getElem?_set_self hi],hk,ob⟩
  ·rw[List.getElem?_set_ne (Ne.symm hj)]at h
   rw[List.getElem?_set_ne (Ne.symm hj)]
   exact R.own j e h
 ·by_cases nj:j=i
  ·subst nj
   have nk:k≠j:=fun z=>hjk z.symm
   rw[List.getElem?_set_self hi]at h3
   cases h3
   rw[List.getElem?_set_ne (Ne.symm nk)]at h2 h4
   exact ho k f nk h2 h4
  ·rw[List.getElem?_set_ne (Ne.symm nj)]at h1 h3
   by_cases nk:k=i
   ·subst nk
    rw[List.getElem?_set_self hi]at h4
    cases h4
    exact ho j e nj h1 h3
   ·rw[List.getElem?_set_ne (Ne.symm nk)]at h2 h4
    exact R.dis j k e f q hjk h1 h2 h3 h4
noncomputable def setO (i:Nat) (x:Option D) (δ:DEnv):Option Out:=match x with|some d=>if i<δ.length then some (.next (δ.set i (some (d,false)))) else none|none=>none
noncomputable def setF (i:Nat) (x:Option D) (δ:DEnv):Option Out:=match x with|some d=>if i<δ.length then some (.next (δ.set i (some (d,true)))) else none|none=>none
theorem setO_some {i:Nat}{x:Option D}{δ:DEnv}{o:Out}(h:setO i x δ=some o):∃d,x=some d∧i<δ.length∧o=.next (δ.set i (some (d,false))):=by
 unfold setO at h
 split at h
 ·rename_i d
  by_cases q:i<δ.length
  ·rw[if_pos q]at h;cases h;exact⟨d,rfl,q,rfl⟩
  ·rw[if_neg q]at h;cases h
 ·cases h
theorem setF_some {i:Nat}{x:Option D}{δ:DEnv}{o:Out}(h:setF i x δ=some o):∃d,x=some d∧i<δ.length∧o=.next (δ.set i (some (d,true))):=by
 unfold setF at h
 split at h
 ·rename_i d
  by_cases q:i<δ.length
  ·rw[if_pos q]at h;cases h;exact⟨d,rfl,q,rfl⟩
  ·rw[if_neg q]at h;cases h
 ·cases h
theorem asg_set {i:Nat}{Dn:Ends}{σ:St}{H:Hp}(h:tD X.K (fun δ=>setO i (fa δ) δ) Dn σ H):tAsg (tM X.K false fa) (gName i) Dn σ H:=by
 obtain⟨B,Hk,δ,o,R,e,k⟩:=h
 obtain⟨d,e1,hi,rfl⟩:=setO_some e
 exact⟨B,Hk,δ,d,R,e1,fun v H' s r=>k _ H' (R.ext s) ((R.to s).set (by rw[←R.len];exact hi) r)⟩
theorem asg_setF {i:Nat}{Dn:Ends}{σ:St}{H:Hp}(h:tD X.K (fun δ=>setF i (fa δ) δ) Dn σ H):tAsg (tF X.K fa) (gName i) Dn σ H:=by
 obtain⟨B,Hk,δ,o,R,e,k⟩:=h
 obtain⟨d,e1,hi,rfl⟩:=setF_some e
 refine⟨B,Hk,δ,d,R,e1,fun a H' s n ob=>k _ H' (R.ext s) ((R.to s).setOwn (by rw[←R.len];exact hi) (R.same.free n) ob fun j e hj h1 h2=>?_)⟩
 obtain⟨b,h3,_,ob'⟩:=R.own j e h1
 rw[h2]at h3;cases h3
 obtain⟨o,e'⟩:=ob'.there
 rw[n]at e';cases e'
theorem ds_set {i:Nat}{x:Str}{pos':Pos}(hN:X.N.Nodup) (ha:DE X false a fa) (hi:X.N[i]?=some x:=by rfl) (hx:Loc X.env.scope x:=by first|exact Or.inl rfl|exact Or.inr rfl) (hs:swapsWith a (some (.Name x pos')) pos.line X.env=pure false:=by rfl)
  (hf:X.fn x=true∨X.env.scope.names.lookup x=some .local:=by first|exact .inl rfl|exact .inr rfl):DS X (.Assign [.Name x pos'] a pos) (fun δ=>setO i (fa δ) δ):=
 (ps_set hN hi hx ha hs hf).imp fun Dn σ H h=>asg_set h
theorem ds_setF {i:Nat}{x:Str}{pos':Pos}(hN:X.N.Nodup) (ha:DF X a fa) (hi:X.N[i]?=some x:=by rfl) (hx:Loc X.env.scope x:=by first|exact Or.inl rfl|exact Or.inr rfl) (hs:swapsWith a (some (.Name x pos')) pos.line X.env=pure false:=by rfl)
  (hf:X.fn x=true∨X.env.scope.names.lookup x=some .local:=by first|exact .inl rfl|exact .inr rfl):DS X (.Assign [.Name x pos'] a pos) (fun δ=>setF i (fa δ) δ):=
 (ps_set hN hi hx ha hs hf).imp fun Dn σ H h=>asg_setF h
noncomputable def retO (x:Option D):Option Out:=match x with|some d=>some (.ret d false)|none=>none
noncomputable def retF (x:Option D):Option Out:=match x with|some d=>some (.ret d true)|none=>none
theorem ds_ret (ha:DE X false a fa):DS X (.Return (some a) pos) (fun δ=>retO (fa δ)):=
 (ps_ret ha).imp fun Dn σ H ⟨B,Hk,δ,o,R,e,k⟩=>by
  cases q:fa δ with
  |none=>simp only[q,retO]at e;cases e
  |some d=>
   simp only[q,retO]at e;cases e
   exact⟨B,Hk,δ,d,R,q,fun v H' s r=>k v H' (R.ext s) (R.same.trans s) (by unfold RepR;rw[if_neg Bool.false_ne_true];exact r)⟩
theorem ds_retF (ha:DF X a fa):DS X (.Return (some a) pos) (fun δ=>retF (fa δ)):=
 (ps_ret ha).imp fun Dn σ H ⟨B,Hk,δ,o,R,e,k⟩=>by
  cases q:fa δ with
  |none=>simp only[q,retF]at e;cases e
  |some d=>
   simp only[q,retF]at e;cases e
   exact⟨B,Hk,δ,d,R,q,fun p H' s n ob=>k (.ref p) H' (R.ext s) (R.same.trans s) (by unfold RepR;rw[if_pos rfl];exact .inl ⟨p,rfl,R.same.free n,ob⟩)⟩
noncomputable def rdOwn (i:Nat) (δ:DEnv):Option D:=match δ[i]? with|some (some (d,true))=>some d|_=>none
theorem rdOwn_some {i:Nat}{δ:DEnv}{d:D}(h:rdOwn i δ=some d):δ[i]?=some (some (d,true)):=by
 unfold rdOwn at h
 split at h
 ·rename_i d' e;cases h;exact e
 ·cases h
theorem ds_retv {i:Nat}{x:Str}{px:Pos}(hN:X.N[i]?=some x:=by rfl) (hv:Vis X.env.scope x:=by first|exact Or.inl rfl|exact Or.inr (Or.inl rfl)|exact Or.inr (Or.inr rfl)) (hd:(x==("__debug__":Str))=false:=by decide) (hcd:(x==("__classdict__":Str))=false:=by decide):
  DS X (.Return (some (.Name x px)) pos) (fun δ=>retF (rdOwn i δ)):=
 (ps_ret (pe_var hN hv hd hcd)).imp fun Dn σ H ⟨B,Hk,δ,o,R,e,k⟩=>by
  cases q:rdOwn i δ with
  |none=>simp only[q,retF]at e;cases e
  |some d=>
   simp only[q,retF]at e;cases e
   obtain⟨p,h1,h2,h3⟩:=R.own i d (rdOwn_some q)
   exact⟨.ref p,h1,k (.ref p) H Ext.refl R.same (by unfold RepR;rw[if_pos rfl];exact .inl ⟨p,rfl,h2,h3⟩)⟩
theorem Rel.lset {K:Frag}{B:Addr→Prop}{Hk H:Hp}{δ:DEnv}{σ:St}{i:Nat}{ds ds':List D}{l:Addr}{xs xs':List V}(R:Rel K B Hk δ σ H) (h:δ[i]?=some (some (.lst ds,true))) (hl:σ[i]?=some (some (.ref l))) (hx:H l=some (.lst xs)) (r:Reps K B H ds' xs'):
  Ext B H (upd H l (.lst xs'))∧Rel K B Hk (δ.set i (some (.lst ds',true))) σ (upd H l (.lst xs')):=by
 obtain⟨a,e1,e2,ys,e3,_⟩:=R.own i _ h
 rw[hl]at e1;cases e1
 have hb:¬B l:=fun z=>by obtain⟨o,q⟩:=R.bor l z;rw[e2]at q;cases q
 have ex:Ext B H (upd H l (.lst xs')):=ext_upd hx trivial hb
 have hi':i<δ.length:=(List.getElem?_eq_some_iff.mp h).1
 refine⟨ex,⟨fun b o q=>?_,R.bor,by simpa using R.len,fun j e q=>?_,fun j e q=>?_,fun j k e f q hjk h1 h2 h3 h4=>?_⟩⟩
 ·rw[upd_ne (ne_of_none q e2)];exact R.same b o q
 ·by_cases hj:j=i
  ·subst hj
   rw[List.getElem?_set_self hi']at q
   cases q
  ·rw[List.getElem?_set_ne (Ne.symm hj)]at q
   obtain⟨v,q1,q2⟩:=R.var j e q
   exact⟨v,q1,q2.ext ex⟩
 ·by_cases hj:j=i
  ·subst hj
   rw[List.getElem?_set_self hi']at q
   cases q
   exact⟨l,hl,e2,xs',upd_same,r.ext ex⟩
  ·rw[List.getElem?_set_ne (Ne.symm hj)]at q
   obtain⟨c,q1,q2,q3⟩:=R.own j e q
   have hc:c≠l:=fun z=>by subst z;exact R.dis j i e _ c hj q h q1 hl
   exact⟨c,q1,q2,q3.ext ex fun o q=>by rw[upd_ne hc];exact q⟩
 ·have h1':∃e',δ[j]?=some (some (e',true)):=by
   by_cases hj:j=i
   ·subst hj;exact⟨_,h⟩
   ·rw[List.getElem?_set_ne (Ne.symm hj)]at h1;exact⟨_,h1⟩
  have h2':∃e',δ[k]?=some (some (e',true)):=by
   by_cases hj:k=i
   ·subst hj;exact⟨_,h⟩
   ·rw[List.getElem?_set_ne (Ne.symm hj)]at h2;exact⟨_,h2⟩
  obtain⟨e',h1'⟩:=h1'
  obtain⟨f',h2'⟩:=h2'
  exact R.dis j k e' f' q hjk h1' h2' h3 h4
noncomputable def appO (i:Nat) (x:Option D) (δ:DEnv):Option Out:=match rdOwn i δ,x with|some (.lst ds),some d=>if ds.length<lim then some (.next (δ.set i (some (.lst (ds++[d]),true)))) else none|_,_=>none
theorem appO_some {i:Nat}{x:Option D}{δ:DEnv}{o:Out}(h:appO i x δ=some o):∃ds d,δ[i]?=some (some (.lst ds,true))∧x=some d∧ds.length<lim∧o=.next (δ.set i (some (.lst (ds++[d]),true))):=by
 unfold appO at h
 split at h
 ·rename_i ds d q
  by_cases hl:ds.length<lim
  ·rw[if_pos hl]at h;cases h;exact⟨ds,d,rdOwn_some q,rfl,hl,rfl⟩
  ·rw[if_neg hl]at h;cases h
 ·cases h
theorem ds_append {i:Nat}{x:Str}{px apos cpos:Pos}(ha:DE X false a fa) (hN:X.N[i]?=some x:=by rfl) (hv:Vis X.env.scope x:=by first|exact Or.inl rfl|exact Or.inr (Or.inl rfl)|exact Or.inr (Or.inr rfl))
  (hbase:attributeBase (.Name x px) "append" X.env (eval (.Name x px) X.env)=eval (.Name x px) X.env:=by rfl)
  (hfew:((backTo cpos (starEach [a] X.env)).all (fun x=>!x.1)&&(backToKw cpos (keywordEach [] X.env)).all (fun x=>x.1.isSome)&&decide (([a]).length+([]:List Keyword).length+(if([]:List Keyword).isEmpty then 0 else 1)<30))=true:=by rfl)
  (hline:(apos.endLine==cpos.line)=true:=by rfl) (hs:starEach [a] X.env=(false,eval a X.env)::starEach [] X.env:=by rfl) (hd:(x==("__debug__":Str))=false:=by decide) (hcd:(x==("__classdict__":Str))=false:=by decide)
  (hsw:swapsWith (.Call (.Attribute (.Name x px) "append" apos) [a] [] cpos) none pos.line X.env=pure false:=by rfl):DS X (.Expr (.Call (.Attribute (.Name x px) "append" apos) [a] [] cpos) pos) (fun δ=>appO i (fa δ) δ):=
 (ps_expr (pe_bm PySem.F.plainAttrs_list PySem.F.slot_list_append PySem.F.type_list_append mt_append (pe_var hN hv hd hcd) (pa_cons ha pa_nil hs) hbase hfew hline hs) hsw).imp fun Dn σ H ⟨B,Hk,δ,o,R,e,k⟩=>by
  obtain⟨ds,d,h1,e1,hl,rfl⟩:=appO_some e
  obtain⟨l,h2,h3,xs,h4,h5⟩:=R.own i _ h1
  refine⟨.ref l,h2,.inl ⟨rfl,xs,SqL.of h4⟩,oneA R e1 fun v H' s R' r=>?_⟩
  have h4':=s l _ h4
  have h5':Reps X.K B H' ds xs:=h5.ext (R.ext s)
  obtain⟨x1,x2⟩:=R'.lset (ds':=ds++[d]) (xs':=xs++[v]) h1 h2 h4' (h5'.append (Reps.cons r Reps.nil))
  exact⟨l,xs,v,rfl,rfl,h4',by rw[←h5.length];exact Nat.lt_of_lt_of_le hl (lim_line (Nat.le_refl _)),k σ _ ((R.ext s).trans x1) x2⟩
noncomputable def frzE (i:Nat) (δ:DEnv):DEnv:=match δ[i]? with|some (some (d,true))=>δ.set i (some (d,false))|_=>δ
theorem Rel.frzE {pins:List (Addr×Obj)}{σ:St}{H:Hp}{s:Shared}{B:Addr→Prop}{Hk:Hp}{δ:DEnv}(i:Nat) (I:Inv X pins σ H s) (R:Rel X.K B Hk δ σ H):∃H',Inv X pins σ H' s∧Ext B H H'∧Rel X.K B Hk (frzE i δ) σ H':=by
 unfold L2.frzE
 split
 ·rename_i d h
  obtain⟨a,e1,e2,ob⟩:=R.own i d h
  obtain⟨u,hu,mu⟩:=ob.mut
  obtain⟨o,I2⟩:=I.frz hu mu
  have hb:¬B a:=fun z=>by obtain⟨o,q⟩:=R.bor a z;rw[e2]at q;cases q
  have ex:Ext B H (upd H a (.frz o u)):=ext_upd hu mu hb
  have hi':i<δ.length:=(List.getElem?_eq_some_iff.mp h).1
  refine⟨_,I2,ex,⟨fun b o' q=>?_,R.bor,by simpa using R.len,fun j e q=>?_,fun j e q=>?_,fun j k e f q hjk h1 h2 h3 h4=>?_⟩⟩
  ·rw[upd_ne (ne_of_none q e2)];exact R.same b o' q
  ·by_cases hj:j=i
   ·subst hj
    rw[List.getElem?_set_self hi']at q
    cases q
    exact⟨_,e1,ob.frozen hu hb fun a h=>h⟩
   ·rw[List.getElem?_set_ne (Ne.symm hj)]at q
    obtain⟨v,q1,q2⟩:=R.var j e q
    exact⟨v,q1,q2.ext ex⟩
  ·by_cases hj:j=i
   ·subst hj
    rw[List.getElem?_set_self hi']at q
    cases q
   ·rw[List.getElem?_set_ne (Ne.symm hj)]at q
    obtain⟨c,q1,q2,q3⟩:=R.own j e q
    have hc:c≠a:=fun z=>by subst z;exact R.dis j i e _ c hj q h q1 e1
    exact⟨c,q1,q2,q3.ext ex fun o q=>by rw[upd_ne hc];exact q⟩
  ·have nj:j≠i:=fun z=>by subst z;rw[List.getElem?_set_self hi']at h1;cases h1
   have nk:k≠i:=fun z=>by subst z;rw[List.getElem?_set_self hi']at h2;cases h2
   rw[List.getElem?_set_ne (Ne.symm nj)]at h1
   rw[List.getElem?_set_ne (Ne.symm nk)]at h2
   exact R.dis j k e f q hjk h1 h2 h3 h4
 ·exact⟨H,I,Ext.refl,R⟩
theorem ds_frz (i:Nat) (h:DS X st g):DS X st (fun δ=>g (frzE i δ)):=by
 intro pins s σ H Dn I ⟨B,Hk,δ,o,R,e,k⟩
 obtain⟨H',I',x,R'⟩:=R.frzE i I
 exact h pins s σ H' Dn I' ⟨B,Hk,_,o,R',e,k.ext x⟩
theorem dss_frz {sts:List Stmt}(i:Nat) (h:DSs X sts g):DSs X sts (fun δ=>g (frzE i δ)):=by
 intro pins s σ H Dn I ⟨B,Hk,δ,o,R,e,k⟩
 obtain⟨H',I',x,R'⟩:=R.frzE i I
 exact h pins s σ H' Dn I' ⟨B,Hk,_,o,R',e,k.ext x⟩
end
end L2
namespace L2
open PySem PySem.Spec PyProof.Rows
inductive tG (K:Frag) (τ:D→DEnv→Option DEnv) (v:V) (σ:St) (H:Hp) (Q:(St→Hp→Prop)):Prop
 |mk (B:Addr→Prop) (Hk:Hp) (δ:DEnv) (d:D) (δ':DEnv) (a_:Rel K B Hk δ σ H) (b_:Rep K B H d v) (c_:τ d δ=some δ') (d_:∀σ',Rel K B Hk δ' σ' H→Q σ' H):tG K τ v σ H Q
inductive tGs (K:Frag) (τ:List D→DEnv→Option DEnv) (vs:List V) (σ:St) (H:Hp) (Q:(St→Hp→Prop)):Prop
 |mk (B:Addr→Prop) (Hk:Hp) (δ:DEnv) (ds:List D) (δ':DEnv) (a_:Rel K B Hk δ σ H) (b_:Reps K B H ds vs) (c_:τ ds δ=some δ') (d_:∀σ',Rel K B Hk δ' σ' H→Q σ' H):tGs K τ vs σ H Q
noncomputable abbrev DG (X:Cx) (tg:Expr) (τ:D→DEnv→Option DEnv):Prop:=PG X tg (tG X.K τ)
noncomputable abbrev DGs (X:Cx) (tg:List Expr) (τ:List D→DEnv→Option DEnv):Prop:=PGs X tg (tGs X.K τ)
noncomputable def aj (i:Nat) (d:D) (δ:DEnv):Option DEnv:=if i<δ.length then some (δ.set i (some (d,false))) else none
noncomputable def toNil (ds:List D) (δ:DEnv):Option DEnv:=match ds with|[]=>some δ|_=>none
noncomputable def toCons (τ:D→DEnv→Option DEnv) (υ:List D→DEnv→Option DEnv) (ds:List D) (δ:DEnv):Option DEnv:=match ds with|d::r=>ah (τ d δ) (υ r)|[]=>none
noncomputable def toTup (υ:List D→DEnv→Option DEnv) (d:D) (δ:DEnv):Option DEnv:=match d with|.tup ds=>υ ds δ|_=>none
theorem PG.imp {X:Cx}{tg:Expr}{t t':TG}(h:PG X tg t) (i:∀v σ H Q,t' v σ H Q→t v σ H Q):PG X tg t':=fun pins s σ H v u Q I r q=>h pins s σ H v u Q I r (i v σ H Q q)
theorem PGs.imp {X:Cx}{tg:List Expr}{t t':TGs}(h:PGs X tg t) (i:∀v σ H Q,t' v σ H Q→t v σ H Q):PGs X tg t':=fun pins s σ H v u Q I r q=>h pins s σ H v u Q I r (i v σ H Q q)
section
variable{X:Cx}{pos:Pos}
theorem dg_name {i:Nat}{x:Str}(hN:X.N.Nodup) (hi:X.N[i]?=some x:=by rfl) (hx:Loc X.env.scope x:=by first|exact Or.inl rfl|exact Or.inr rfl) (hf:X.fn x=true∨X.env.scope.names.lookup x=some .local:=by first|exact .inl rfl|exact .inr rfl):DG X (.Name x pos) (aj i):=
 (pg_name hN hi hx hf).imp fun v σ H Q ⟨B,Hk,δ,d,δ',R,r,e,k⟩=>by
  unfold aj at e
  by_cases q:i<δ.length
  ·rw[if_pos q]at e;cases e
   exact k _ (R.set (by rw[←R.len];exact q) r)
  ·rw[if_neg q]at e;cases e
theorem dgs_nil:DGs X [] toNil:=pgs_nil.imp fun v σ H Q ⟨B,Hk,δ,ds,δ',R,r,e,k⟩=>by
 cases ds with
 |nil=>simp only[toNil]at e;cases e;simp only[Reps]at r;exact⟨r,k σ R⟩
 |cons d ds=>simp only[toNil]at e;cases e
theorem dgs_cons {e:Expr}{es:List Expr}{τ:D→DEnv→Option DEnv}{υ:List D→DEnv→Option DEnv}(h1:DG X e τ) (h2:DGs X es υ) (hs:(assignEach (e::es) X.env).map (·.2)=assign e X.env::(assignEach es X.env).map (·.2):=by rfl):DGs X (e::es) (toCons τ υ):=
 (pgs_cons h1 h2 hs).imp fun v σ H Q ⟨B,Hk,δ,ds,δ',R,r,e,k⟩=>by
  cases ds with
  |nil=>simp only[toCons]at e;cases e
  |cons d ds=>
   simp only[toCons]at e
   obtain⟨δ1,e1,e2⟩:=aq e
   simp only[Reps]at r
   obtain⟨x,xs,rfl,r1,r2⟩:=r
   exact⟨x,xs,rfl,B,Hk,δ,d,δ1,R,r1,e1,fun σ1 R1=>⟨B,Hk,δ1,ds,δ',R1,r2,e2,k⟩⟩
theorem toCons_len {τ:D→DEnv→Option DEnv}{υ:List D→DEnv→Option DEnv}{n:Nat}(h:∀ds δ δ',υ ds δ=some δ'→ds.length=n) (ds:List D) (δ δ':DEnv) (e:toCons τ υ ds δ=some δ'):ds.length=n+1:=by
 cases ds with
 |nil=>simp only[toCons]at e;cases e
 |cons d ds=>
  simp only[toCons]at e
  obtain⟨δ1,_,e2⟩:=aq e
  rw[List.length_cons,h _ _ _ e2]
theorem toNil_len (ds:List D) (δ δ':DEnv) (e:toNil ds δ=some δ'):ds.length=0:=by
 cases ds with
 |nil=>rfl
 |cons d ds=>simp only[toNil]at e;cases e
theorem dg_tup {es:List Expr}{k:Nat}{υ:List D→DEnv→Option DEnv}{n:Nat}(hc:X.calm=true) (h:DGs X es υ) (hl:∀ds δ δ',υ ds δ=some δ'→ds.length=n)
  (hn:(assignEach es X.env).length=n:=by rfl) (hst:(assignEach es X.env).findIdx? (·.1)=none:=by rfl):DG X (.Tuple es k pos) (toTup υ):=
 (pg_tup hc h hn hst).imp fun v σ H Q ⟨B,Hk,δ,d,δ',R,r,e,k⟩=>by
  cases d with
  |tup ds=>
   simp only[toTup]at e
   simp only[Rep]at r
   obtain⟨a,xs,rfl,hq,rs⟩:=r
   exact⟨a,xs,rfl,SqT.of hq,by rw[←rs.length];exact hl _ _ _ e,B,Hk,δ,ds,δ',R,rs,e,k⟩
  |_=>simp only[toTup]at e;cases e
end
noncomputable def NoOwn (δ:DEnv):Prop:=∀(i:Nat) d,δ[i]?≠some (some (d,true))
structure Anew (τ:D→DEnv→Option DEnv):Prop where
 new:∀d d' δ δ',τ d δ=some δ'→τ d' δ'=τ d' δ
 own:∀d δ δ',τ d δ=some δ'→NoOwn δ→NoOwn δ'
theorem noOwn_set {δ:DEnv}{i:Nat}{d:D}(h:NoOwn δ):NoOwn (δ.set i (some (d,false))):=fun j e q=>by
 by_cases hj:i=j
 ·subst hj
  rw[List.getElem?_set]at q
  simp at q
 ·rw[List.getElem?_set_ne hj]at q
  exact h j e q
theorem own_name (i:Nat):∀d δ δ',aj i d δ=some δ'→NoOwn δ→NoOwn δ':=fun d δ δ' h n=>by
 unfold aj at h
 by_cases q:i<δ.length
 ·rw[if_pos q]at h;cases h;exact noOwn_set n
 ·rw[if_neg q]at h;cases h
theorem own_nil:∀ds δ δ',toNil ds δ=some δ'→NoOwn δ→NoOwn δ':=fun ds δ δ' h n=>by
 cases ds with
 |nil=>simp only[toNil]at h;cases h;exact n
 |cons d ds=>simp only[toNil]at h;cases h
theorem own_cons {τ:D→DEnv→Option DEnv}{υ:List D→DEnv→Option DEnv}(h1:∀d δ δ',τ d δ=some δ'→NoOwn δ→NoOwn δ') (h2:∀ds δ δ',υ ds δ=some δ'→NoOwn δ→NoOwn δ'):∀ds δ δ',toCons τ υ ds δ=some δ'→NoOwn δ→NoOwn δ':=fun ds δ δ' h n=>by
 cases ds with
 |nil=>simp only[toCons]at h;cases h
 |cons d ds=>
  simp only[toCons]at h
  obtain⟨δ1,e1,e2⟩:=aq h
  exact h2 _ _ _ e2 (h1 _ _ _ e1 n)
theorem own_tup {υ:List D→DEnv→Option DEnv}(h2:∀ds δ δ',υ ds δ=some δ'→NoOwn δ→NoOwn δ'):∀d δ δ',toTup υ d δ=some δ'→NoOwn δ→NoOwn δ':=fun d δ δ' h n=>by
 cases d with
 |tup ds=>exact h2 ds δ δ' h n
 |_=>simp only[toTup]at h;cases h
theorem anew_name (i:Nat):Anew (aj i):=Anew.mk (own:=own_name i)<|fun d d' δ δ' h=>by
 unfold aj at h⊢
 by_cases q:i<δ.length
 ·rw[if_pos q]at h;cases h
  rw[List.length_set,if_pos q,if_pos q,List.set_set]
 ·rw[if_neg q]at h;cases h
theorem anew_pair (i j:Nat) (hij:i≠j):Anew (toTup (toCons (aj i) (toCons (aj j) toNil))):=Anew.mk (own:=own_tup (own_cons (own_name i) (own_cons (own_name j) own_nil)))<|fun d d' δ δ' h=>by
 cases d with
 |tup ds=>
  cases ds with
  |nil=>simp only[toTup,toCons]at h;cases h
  |cons a ds=>
   cases ds with
   |nil=>simp only[toTup,toCons]at h;obtain⟨_,_,h⟩:=aq h;cases h
   |cons b ds=>
    cases ds with
    |cons c ds=>simp only[toTup,toCons]at h;obtain⟨_,_,h⟩:=aq h;obtain⟨_,_,h⟩:=aq h;simp only[toNil]at h;cases h
    |nil=>
     simp only[toTup,toCons]at h
     obtain⟨δ1,h1,h⟩:=aq h
     obtain⟨δ2,h2,h⟩:=aq h
     simp only[toNil]at h
     cases h
     unfold aj at h1
     by_cases qi:i<δ.length
     ·rw[if_pos qi]at h1;cases h1
      unfold aj at h2
      by_cases qj:j<(δ.set i (some (a,false))).length
      ·rw[if_pos qj]at h2;cases h2
       rw[List.length_set]at qj
       cases d' with
       |tup es=>
        cases es with
        |nil=>rfl
        |cons a' es=>
         cases es with
         |nil=>
          simp only[toTup,toCons,aj,List.length_set]
          rw[if_pos qi,if_pos qi];rfl
         |cons b' es=>
          have e3:(((List.set δ i (some (a,false))).set j (some (b,false))).set i (some (a',false))).set j (some (b',false))=(List.set δ i (some (a',false))).set j (some (b',false)):=by
           rw[List.set_comm _ _ hij.symm,List.set_set,List.set_set]
          simp only[toTup,toCons,aj,List.length_set]
          rw[if_pos qi,if_pos qi]
          simp only[ah,toCons,aj,List.length_set]
          rw[if_pos qj,if_pos qj,e3]
       |_=>rfl
      ·rw[if_neg qj]at h2;cases h2
     ·rw[if_neg qi]at h1;cases h1
 |_=>simp only[toTup]at h;cases h
noncomputable def ItD (K:Frag) (B:Addr→Prop) (H1:Hp) (J:It) (ds:List D):Prop:=∀H',Ext B H1 H'→J.stop ds.length H'∧∀(i:Nat) d,ds[i]?=some d→J.go i H'∧∀x H'',J.yld i H' x H''→Same H' H''∧Rep K B H'' d x
inductive tI (K:Frag) (m:Bool) (f:DEnv→Option (List D)) (σ:St) (H:Hp) (R:(It→Hp→Prop)):Prop
 |mk (B:Addr→Prop) (Hk:Hp) (δ:DEnv) (ds:List D) (a_:Rel K B Hk δ σ H) (b_:f δ=some ds) (c_:∀J H1,Same H H1→ItD K (bset m B δ σ) H1 J ds→R J H1):tI K m f σ H R
noncomputable abbrev DI (X:Cx) (m:Bool) (tg iter:Expr) (f:DEnv→Option (List D)):Prop:=PI X tg iter (tI X.K m f)
noncomputable def lstL (x:Option D):Option (List D):=match x with|some (.lst ds)=>some ds|_=>none
noncomputable def tupL (x:Option D):Option (List D):=match x with|some (.tup ds)=>some ds|_=>none
theorem lstL_some {x:Option D}{ds:List D}(h:lstL x=some ds):x=some (.lst ds):=by
 unfold lstL at h
 split at h
 ·cases h;rfl
 ·cases h
theorem tupL_some {x:Option D}{ds:List D}(h:tupL x=some ds):x=some (.tup ds):=by
 unfold tupL at h
 split at h
 ·cases h;rfl
 ·cases h
noncomputable def rngL (lo:Int) (n:Nat):List D:=(List.range n).map fun(i:Nat)=>.int (lo+(i:Int))
section
variable{X:Cx}{m m' mm:Bool}{a b tg:Expr}{fa fb:DEnv→Option D}{pos p:Pos}
theorem di_list (h:DE X m a fa):DI X m tg a (fun δ=>lstL (fa δ)):=
 (pi_list h).imp fun σ H Q ⟨B,Hk,δ,ds,R,e,k⟩=>by
  refine⟨B,Hk,δ,_,R,lstL_some e,fun v H' s r=>?_⟩
  simp only[Rep]at r
  obtain⟨l,xs,rfl,hq,rs⟩:=r
  refine⟨l,rfl,⟨xs,hq.sq⟩,k _ H' s fun H2 x=>?_⟩
  have hq2:=hq.ext x
  have rs2:=rs.ext x
  refine⟨⟨xs,hq2.sq,by rw[rs.length];exact Nat.le_refl _⟩,fun i d hd=>?_⟩
  obtain⟨y,hy,ry⟩:=rs2.get hd
  refine⟨⟨xs,y,hq2.sq,hy⟩,fun z H3 ⟨e3,hz⟩=>⟨by rw[e3];exact Same.refl _,?_⟩⟩
  rw[e3]
  have:=hz xs hq2.sq
  rw[hy]at this;cases this
  exact ry
theorem di_tup (h:DE X m a fa):DI X m tg a (fun δ=>tupL (fa δ)):=
 (pi_tup h).imp fun σ H Q ⟨B,Hk,δ,ds,R,e,k⟩=>by
  refine⟨B,Hk,δ,_,R,tupL_some e,fun v H' s r=>?_⟩
  simp only[Rep]at r
  obtain⟨l,xs,rfl,hq,rs⟩:=r
  refine⟨l,rfl,⟨xs,SqT.of hq⟩,k _ H' s fun H2 x=>?_⟩
  have hq2:SqT X.K H2 l xs:=SqT.of (x.tups _ _ hq)
  have rs2:=rs.ext x
  refine⟨⟨xs,hq2,by rw[rs.length];exact Nat.le_refl _⟩,fun i d hd=>?_⟩
  obtain⟨y,hy,ry⟩:=rs2.get hd
  refine⟨⟨xs,y,hq2,hy⟩,fun z H3 ⟨e3,hz⟩=>⟨by rw[e3];exact Same.refl _,?_⟩⟩
  rw[e3]
  have:=hz xs hq2
  rw[hy]at this;cases this
  exact ry
theorem itd_rng {K:Frag}{B:Addr→Prop}{H1:Hp}(lo:Int) (n:Nat):ItD K B H1 (Itr lo n) (rngL lo n):=fun H' x=>by
 refine⟨by show n≤(rngL lo n).length;unfold rngL;simp,fun i d hd=>?_⟩
 unfold rngL at hd
 rw[List.getElem?_map]at hd
 cases q:(List.range n)[i]? with
 |none=>rw[q]at hd;cases hd
 |some j=>
  rw[q]at hd
  obtain⟨hi,ej⟩:=List.getElem?_eq_some_iff.mp q
  rw[List.getElem_range]at ej
  subst ej
  rw[List.length_range]at hi
  simp only[Option.map_some,Option.some.injEq]at hd
  subst hd
  refine⟨hi,fun z H3 ⟨e3,hz⟩=>⟨by rw[e3];exact Same.refl _,?_⟩⟩
  simp only[Rep]
  exact hz
noncomputable def rng1 (x:Option D):Option (List D):=match x with|some (.int j)=>if(decide (-(2 ^ 62)≤j∧j<2 ^ 62))=true then some (rngL 0 j.toNat) else none|_=>none
theorem di_rng1 (g:Gl X "range") (hm:X.mg "range"=none) (h:DE X m a fa) (hs:starEach [a] X.env=[(false,eval a X.env)]:=by rfl):DI X mm tg (.Call (.Name "range" p) [a] [] pos) (fun δ=>rng1 (fa δ)):=
 (pi_range1 g hm (pa_cons h pa_nil hs) hs).imp fun σ H Q ⟨B,Hk,δ,ds,R,e,k⟩=>by
  unfold rng1 at e
  split at e
  ·rename_i j q
   by_cases c:(decide (-(2 ^ 62)≤j∧j<2 ^ 62))=true
   ·rw[if_pos c]at e;cases e
    have c':=of_decide_eq_true c
    refine oneA R q fun v H' s R' r=>?_
    simp only[Rep]at r
    subst r
    exact⟨j,rfl,c'.1,c'.2,k _ H' s (itd_rng 0 _)⟩
   ·rw[if_neg c]at e;cases e
  ·cases e
end
noncomputable def loopD (body:D→DEnv→Option Out):List D→DEnv→Option Out
 |[],δ=>some (.next δ)
 |d::ds,δ=>match body d δ with
  |some (.next δ')=>loopD body ds δ'
  |some (.cont δ')=>loopD body ds δ'
  |some (.brk δ')=>some (.next δ')
  |some (.ret e fr)=>some (.ret e fr)
  |none=>none
section
variable{X:Cx}{tg iter:Expr}{body:List Stmt}{fi:DEnv→Option (List D)}{τ:D→DEnv→Option DEnv}{gb:DEnv→Option Out}{pos:Pos}
theorem ds_for (hp:PassesOwn (model X.prog X.w) X.A X.env X.xe) (hc:X.calm=true) (hi:DI X false tg iter fi) (hg:DG X tg τ) (hb:DSs X body gb) (hs:∀x,foldedSetIterable iter X.env x=pure x:=by intro _;rfl):
  DS X (.For tg iter body [] pos) (fun δ=>ah (fi δ) fun ds=>loopD (fun d δ=>ah (τ d δ) gb) ds δ):=
 (ps_for hp hc hi hg hb hs).imp fun Dn σ H ⟨B,Hk,δ,o,R,e,k⟩=>by
  obtain⟨ds,e1,e2⟩:=aq e
  refine⟨B,Hk,δ,ds,R,e1,fun J H1 s1 it=>?_⟩
  have it':ItD X.K B H1 J ds:=it
  refine⟨fun i n σ' H'=>n=ds.length - i∧i≤ds.length∧Ext B H1 H'∧∃δ',Rel X.K B Hk δ' σ' H'∧loopD (fun d δ=>ah (τ d δ) gb) (ds.drop i) δ'=some o,
   ⟨ds.length,by simp,Nat.zero_le _,Ext.refl,δ,R.to s1,e2⟩,?_⟩
  rintro i n σ' H' ⟨rfl,hi,x,δ',R',e'⟩
  obtain⟨hst,hgo⟩:=it' H' x
  by_cases hlt:i<ds.length
  ·obtain⟨go,yl⟩:=hgo i ds[i] (by simp[hlt])
   refine .inr ⟨go,fun σ2 H2=>Ext B H1 H2∧∃δ2,Rel X.K B Hk δ2 σ2 H2∧loopD (fun d δ=>ah (τ d δ) gb) (ds.drop (i+1)) δ2=some o,fun σ2 H2 z=>⟨_,by omega,rfl,hlt,z⟩,fun v H2 hy=>?_⟩
   obtain⟨sy,rv⟩:=yl v H2 hy
   replace x:=x.trans (R'.ext sy)
   replace R':=R'.to sy
   rw[List.drop_eq_getElem_cons hlt]at e'
   simp only[loopD]at e'
   cases q:ah (τ ds[i] δ') gb with
   |none=>rw[q]at e';cases e'
   |some o1=>
    rw[q]at e'
    obtain⟨δ1,q1,q2⟩:=aq q
    refine⟨B,Hk,δ',ds[i],δ1,R',rv,q1,fun σ3 R3=>⟨B,Hk,δ1,o1,R3,q2,?_⟩⟩
    have kx:=k.ext (R.ext s1)
    cases o1 with
    |next δ3=>exact fun σ4 H4 x4 R4=>⟨x.trans x4,δ3,R4,e'⟩
    |cont δ3=>exact fun σ4 H4 x4 R4=>⟨x.trans x4,δ3,R4,e'⟩
    |brk δ3=>simp only at e';cases e';exact fun σ4 H4 x4 R4=>kx σ4 H4 (x.trans x4) R4
    |ret d fr=>simp only at e';cases e';exact fun v4 H4 x4 R4=>kx v4 H4 (x.trans x4) R4
  ·have hi':i=ds.length:=by omega
   subst hi'
   rw[List.drop_length]at e'
   simp only[loopD]at e'
   cases e'
   exact .inl ⟨hst,k σ' H' ((R.ext s1).trans x) R'⟩
end
noncomputable def compO (h:D→Option (Option D)):List D→Option (List D)
 |[]=>some []
 |d::ds=>match h d with
  |none=>none
  |some none=>compO h ds
  |some (some y)=>match compO h ds with
   |some l=>some (y::l)
   |none=>none
noncomputable def maskD (bo:Bool) (bs:List Bool) (δ:DEnv):DEnv:=List.zipWith (fun(b:Bool) (o:Option (D×Bool))=>if b=true then(match o with|some (d,ow)=>if(ow&&!bo)=true then none else some (d,false)|none=>none) else none) bs δ
theorem maskD_get {bo:Bool}{bs:List Bool}{δ:DEnv}{i:Nat}{d:D}{ow:Bool}(h:(maskD bo bs δ)[i]?=some (some (d,ow))):bs[i]?=some true∧ow=false∧rd bo i δ=some d:=by
 unfold maskD at h
 rw[List.getElem?_zipWith]at h
 cases e1:bs[i]? with
 |none=>rw[e1]at h;simp at h
 |some b=>
  cases e2:δ[i]? with
  |none=>rw[e1,e2]at h;simp at h
  |some o=>
   rw[e1,e2]at h
   simp only[Option.some.injEq]at h
   cases b with
   |false=>simp at h
   |true=>
    rw[if_pos rfl]at h
    cases o with
    |none=>cases h
    |some q=>
     obtain⟨d',ow'⟩:=q
     simp only at h
     by_cases c:(ow'&&!bo)=true
     ·rw[if_pos c]at h;cases h
     ·rw[if_neg c]at h;cases h
      exact⟨rfl,rfl,by unfold rd;rw[e2];simp only[if_neg c]⟩
theorem rel_block {K:Frag}{B:Addr→Prop}{Hk H:Hp}{δ:DEnv}{σ:St}{bo:Bool}{bs:List Bool}(R:Rel K B Hk δ σ H) (hl:bs.length=σ.length):Rel K (bset bo B δ σ) H (maskD bo bs δ) (mask bs σ) H:=by
 refine⟨Same.refl H,R.bsH bo,?_,fun i d h=>?_,fun i d h=>?_,fun i j d e a hij h=>?_⟩
 ·unfold maskD;rw[List.length_zipWith,mask_length hl,R.len,hl,Nat.min_self]
 ·obtain⟨h1,_,h3⟩:=maskD_get h
  obtain⟨v,h4,h5⟩:=R.rd h3
  refine⟨v,?_,h5⟩
  unfold mask
  rw[List.getElem?_zipWith,h1,h4]
  simp
 ·obtain⟨_,h2,_⟩:=maskD_get h
  cases h2
 ·obtain⟨_,h2,_⟩:=maskD_get h
  cases h2
noncomputable def lstLim (x:Option (List D)):Option D:=match x with|some ds=>some (.lst ds)|none=>none
section
variable{X:Cx}{elt tg iter:Expr}{ifs:List Expr}{scope:Scope}{pos:Pos}{bo:Bool}{fi:DEnv→Option (List D)}{τ:D→DEnv→Option DEnv}{ft:DEnv→Option Bool}{fe:DEnv→Option D}{bs:List Bool}
noncomputable abbrev DTs (X:Cx) (ifs:List Expr) (f:DEnv→Option Bool):Prop:=PTs X ifs (tMT X.K f)
theorem dts_nil {X:Cx}:DTs X [] (fun _=>some true):=fun pins s σ H Q I ⟨B,Hk,δ,d,R,e,k⟩=>by cases e;exact pts_nil pins s σ H Q I (k H (Same.refl H))
theorem dts_one {X:Cx}{c:Expr}{f:DEnv→Option Bool}(h:DT X c f):DTs X [c] f:=pts_one h
noncomputable def itemO (τ:D→DEnv→Option DEnv) (ft:DEnv→Option Bool) (fe:DEnv→Option D) (δ:DEnv) (d:D):Option (Option D):=ah (τ d δ) fun δ'=>match ft δ' with|some true=>(match fe δ' with|some y=>some (some y)|none=>none)|some false=>some none|none=>none
noncomputable def runC (bo:Bool) (bs:List Bool) (τ:D→DEnv→Option DEnv) (ft:DEnv→Option Bool) (fe:DEnv→Option D) (δ:DEnv) (ds:List D):Option (List D):=if ds.length≤lim then compO (itemO τ ft fe (maskD bo bs δ)) ds else none
theorem comp_core {K:Frag}{σ:St}{H:Hp}{Q:VK}(hτ:Anew τ) (hl:bs.length=σ.length) {B:Addr→Prop}{Hk:Hp}{δ:DEnv}{ds ls:List D}(R:Rel K B Hk δ σ H) (e1:fi δ=some ds) (e2:runC bo bs τ ft fe δ ds=some ls)
  (k:∀a H',Same H H'→H a=none→(∃xs,H' a=some (.lst xs)∧Reps K (bset bo B δ σ) H' ls xs)→Q (.ref a) H'):tComp (tI K bo fi) bs (tG K τ) (tMT K ft) (tM K false fe) σ H Q:=by
 unfold runC at e2
 by_cases hlim:ds.length≤lim
 ·rw[if_pos hlim]at e2
  refine⟨B,Hk,δ,ds,R,e1,fun J H1 s1 it acc hacc=>?_⟩
  have R1:=R.to s1
  have nb:¬bset bo B δ σ acc:=fun z=>by obtain⟨o,q⟩:=R1.bsH bo acc z;rw[hacc]at q;cases q
  have R2:Rel K (bset bo B δ σ) H1 (maskD bo bs δ) (mask bs σ) (upd H1 acc (.lst [])):=(rel_block (bo:=bo) (bs:=bs) R1 hl).to (same_upd hacc)
  have no0:NoOwn (maskD bo bs δ):=fun j d h=>by obtain⟨_,h2,_⟩:=maskD_get h;cases h2
  have x0:Ext (bset bo B δ σ) H1 (upd H1 acc (.lst [])):=(same_upd hacc).ext (R1.bsH bo)
  refine⟨fun i n ys σ' H'=>n=ds.length - i∧i≤ds.length∧ys.length≤i∧H' acc=some (.lst ys)∧Ext (bset bo B δ σ) H1 H'∧∃δ' l1 l2,Rel K (bset bo B δ σ) H1 δ' σ' H'∧(∀d,τ d δ'=τ d (maskD bo bs δ))∧NoOwn δ'∧ls=l1++l2∧Reps K (bset bo B δ σ) H' l1 ys∧compO (itemO τ ft fe (maskD bo bs δ)) (ds.drop i)=some l2,
   ⟨ds.length,by simp,Nat.zero_le _,Nat.le_refl _,upd_same,x0,maskD bo bs δ,[],ls,R2,fun _=>rfl,no0,rfl,Reps.nil,e2⟩,?_⟩
  rintro i n ys σ' H' ⟨rfl,hi,hys,ha,x,δ',l1,l2,R',hd',nw',hls,rs,ec⟩
  refine⟨ha,?_⟩
  obtain⟨hst,hgo⟩:=it H' x
  by_cases hlt:i<ds.length
  ·obtain⟨go,yl⟩:=hgo i ds[i] (by simp[hlt])
   refine .inr ⟨go,fun v H2 hy=>?_⟩
   obtain⟨sy,rv⟩:=yl v H2 hy
   have xy:=R'.ext sy
   replace ha:=sy acc _ ha
   replace rs:=rs.ext xy
   replace x:=x.trans xy
   replace R':=R'.to sy
   rw[List.drop_eq_getElem_cons hlt]at ec
   simp only[compO]at ec
   cases q:itemO τ ft fe (maskD bo bs δ) ds[i]with
   |none=>rw[q]at ec;cases ec
   |some oy=>
    rw[q]at ec
    obtain⟨δ1,q1,q2⟩:=aq q
    have q1':τ ds[i] δ'=some δ1:=by rw[hd'];exact q1
    have hd1:∀d,τ d δ1=τ d (maskD bo bs δ):=fun d=>by rw[hτ.new _ d _ _ q1',hd' d]
    have nw1:NoOwn δ1:=hτ.own _ _ _ q1' nw'
    refine⟨_,H1,δ',ds[i],δ1,R',rv,q1',fun σ3 R3=>?_⟩
    split at q2
    ·rename_i qt
     refine⟨_,H1,δ1,true,R3,qt,fun H3 s3=>iteT ?_⟩
     split at q2
     ·rename_i y qe
      cases q2
      simp only at ec
      cases qc:compO (itemO τ ft fe (maskD bo bs δ)) (ds.drop (i+1))with
      |none=>rw[qc]at ec;cases ec
      |some l3=>
       rw[qc]at ec
       cases ec
       refine⟨_,H1,δ1,y,R3.to s3,qe,fun v4 H4 s4 r4=>?_⟩
       have s34:=s3.trans s4
       have ha4:H4 acc=some (.lst ys):=s34 acc _ ha
       have x4:Ext (bset bo B δ σ) H2 H4:=R3.ext s34
       have rs4:Reps K (bset bo B δ σ) H4 l1 ys:=rs.ext x4
       have r4':Rep K (bset bo B δ σ) H4 y v4:=r4
       have x5:Ext (bset bo B δ σ) H4 (upd H4 acc (.lst (ys++[v4]))):=ext_upd ha4 trivial nb
       have R5:Rel K (bset bo B δ σ) H1 δ1 σ3 (upd H4 acc (.lst (ys++[v4]))):=by
        have R4:=R3.to s34
        refine⟨fun b o q=>?_,R4.bor,R4.len,fun j d h=>?_,fun j d h=>?_,R4.dis⟩
        ·rw[upd_ne (ne_of_none q hacc)];exact R4.same b o q
        ·obtain⟨v,h1,h2⟩:=R4.var j d h
         exact⟨v,h1,h2.ext x5⟩
        ·obtain⟨c,h1,h2,h3⟩:=R4.own j d h
         exact(nw1 j d h).elim
       refine⟨ha4,by have:=lim_line hlim;omega,ds.length - (i+1),by omega,rfl,hlt,by rw[List.length_append,List.length_singleton];omega,upd_same,x.trans (x4.trans x5),δ1,l1++[y],l3,R5,hd1,nw1,by rw[hls,List.append_assoc];rfl,?_,qc⟩
       exact(rs4.ext x5).append (Reps.cons (r4'.ext x5) Reps.nil)
     ·cases q2
    ·rename_i qt
     cases q2
     refine⟨_,H1,δ1,false,R3,qt,fun H3 s3=>iteF ?_⟩
     exact⟨ds.length - (i+1),by omega,rfl,hlt,by omega,s3 acc _ ha,x.trans (R3.ext s3),δ1,l1,l2,R3.to s3,hd1,nw1,hls,rs.ext (R3.ext s3),ec⟩
    ·cases q2
  ·have hi':i=ds.length:=by omega
   subst hi'
   rw[List.drop_length]at ec
   simp only[compO]at ec
   cases ec
   rw[List.append_nil]at hls
   subst hls
   exact .inl ⟨hst,k acc H' (s1.trans R'.same) (s1.free hacc) ⟨ys,ha,rs⟩⟩
 ·rw[if_neg hlim]at e2;cases e2
end
end L2
namespace L2
open PySem PySem.Spec PyProof.Rows
section
variable{X:Cx}{elt tg iter:Expr}{ifs:List Expr}{scope:Scope}{pos:Pos}{bo:Bool}{fi:DEnv→Option (List D)}{τ:D→DEnv→Option DEnv}{ft:DEnv→Option Bool}{fe:DEnv→Option D}{bs:List Bool}
theorem comp_un (hc:X.calm=true) (hτ:Anew τ) (hi:DI X bo tg iter fi) (S:CompScope X scope bs)
  (hg:∀cl C s₂ H₂ ex pn,DG (ao X scope cl C s₂ H₂ ex pn) tg τ) (ht:∀cl C s₂ H₂ ex pn,DTs (ao X scope cl C s₂ H₂ ex pn) ifs ft) (he:∀cl C s₂ H₂ ex pn,DE (ao X scope cl C s₂ H₂ ex pn) false elt fe)
  (hs:∀x,foldedSetIterable iter X.env x=pure x):PE X (.ListComp elt [⟨tg,iter,ifs,0⟩] scope pos) (fun σ H Q=>∃B Hk δ ds ls,Rel X.K B Hk δ σ H∧fi δ=some ds∧runC bo bs τ ft fe δ ds=some ls∧
   ∀a H',Same H H'→H a=none→(∃xs,H' a=some (.lst xs)∧Reps X.K (bset bo B δ σ) H' ls xs)→Q (.ref a) H'):=by
 intro pins s σ H Q I ⟨B,Hk,δ,ds,ls,R,e1,e2,k⟩
 exact pe_comp hc hi S hg ht he hs pins s σ H Q I (comp_core hτ (by rw[S.len,I.len]) R e1 e2 k)
theorem df_comp (hc:X.calm=true) (hτ:Anew τ) (hi:DI X false tg iter fi) (S:CompScope X scope bs)
  (hg:∀cl C s₂ H₂ ex pn,DG (ao X scope cl C s₂ H₂ ex pn) tg τ) (ht:∀cl C s₂ H₂ ex pn,DTs (ao X scope cl C s₂ H₂ ex pn) ifs ft) (he:∀cl C s₂ H₂ ex pn,DE (ao X scope cl C s₂ H₂ ex pn) false elt fe)
  (hs:∀x,foldedSetIterable iter X.env x=pure x:=by intro _;rfl):DF X (.ListComp elt [⟨tg,iter,ifs,0⟩] scope pos) (fun δ=>lstLim (ah (fi δ) (runC false bs τ ft fe δ))):=
 (comp_un hc hτ hi S hg ht he hs).imp fun σ H Q ⟨B,Hk,δ,d,R,e,k⟩=>by
  cases q:ah (fi δ) (runC false bs τ ft fe δ)with
  |none=>simp only[q,lstLim]at e;cases e
  |some ls=>
   simp only[q,lstLim]at e
   cases e
   obtain⟨ds,e1,e2⟩:=aq q
   exact⟨B,Hk,δ,ds,ls,R,e1,e2,fun a H' s n ob=>k a H' s n ob⟩
theorem ds_setc {i:Nat}{y:Str}{py spos:Pos}(hN:X.N.Nodup) (hc:X.calm=true) (hτ:Anew τ) (hi:DI X false tg iter fi) (S:CompScope X scope bs)
  (hg:∀cl C s₂ H₂ ex pn,DG (ao X scope cl C s₂ H₂ ex pn) tg τ) (ht:∀cl C s₂ H₂ ex pn,DTs (ao X scope cl C s₂ H₂ ex pn) ifs ft) (he:∀cl C s₂ H₂ ex pn,DE (ao X scope cl C s₂ H₂ ex pn) false elt fe)
  (hiN:X.N[i]?=some y:=by rfl) (hy:X.env.scope.names.lookup y=some .local:=by rfl)
  (hsw:swapsWith (.ListComp elt [⟨tg,iter,ifs,0⟩] scope pos) (some (.Name y py)) spos.line X.env=pure true:=by rfl)
  (hs:∀x,foldedSetIterable iter X.env x=pure x:=by intro _;rfl):DS X (.Assign [.Name y py] (.ListComp elt [⟨tg,iter,ifs,0⟩] scope pos) spos) (fun δ=>setF i (lstLim (ah (fi δ) (runC false bs τ ft fe δ))) δ):=by
 intro pins s σ H Dn I ⟨B,Hk,δ,o,R,e,k⟩
 obtain⟨d,ed,hlt,rfl⟩:=setF_some e
 cases q:ah (fi δ) (runC false bs τ ft fe δ)with
 |none=>simp only[q,lstLim]at ed;cases ed
 |some ls=>
  simp only[q,lstLim]at ed
  cases ed
  obtain⟨ds,e1,e2⟩:=aq q
  refine ps_setc hc hi S hg ht he hN hiN hy hsw hs pins s σ H Dn I (comp_core (Q:=fun x H1=>gName i x σ H1 Dn.nx) hτ (by rw[S.len,I.len]) R e1 e2 fun a H' s n ob=>?_)
  refine k _ H' (R.ext s) ((R.to s).setOwn (by rw[←R.len];exact hlt) (R.same.free n) ob fun j e hj h1 h2=>?_)
  obtain⟨b,h3,_,ob'⟩:=R.own j e h1
  rw[h2]at h3;cases h3
  obtain⟨o,e'⟩:=ob'.there
  rw[n]at e';cases e'
end
noncomputable def startD (n:Nat) (ds:List D):DEnv:=ds.map (fun d=>some (d,false))++List.replicate (n - ds.length) none
noncomputable def outF (x:Option Out):Option (D×Bool):=match x with|some (.ret d fr)=>some (d,fr)|some (.next _)=>some (.non,false)|_=>none
noncomputable def runF (n np:Nat) (g:DEnv→Option Out) (ds:List D):Option (D×Bool):=if ds.length=np then outF (g (startD n ds)) else none
theorem rel_start {K:Frag}{B:Addr→Prop}{H:Hp}{N:List Str}{ds:List D}{vs:List V}(hb:∀a,B a→∃o,H a=some o) (r:Reps K B H ds vs) (hl:ds.length≤N.length):Rel K B H (startD N.length ds) (start N vs) H:=by
 have el:=r.length
 have key:∀(i:Nat) d ow,(startD N.length ds)[i]?=some (some (d,ow))→ow=false∧ds[i]?=some d:=fun i d ow h=>by
  unfold startD at h
  by_cases hi:i<ds.length
  ·rw[List.getElem?_append_left (by simpa using hi),List.getElem?_map]at h
   cases q:ds[i]? with
   |none=>rw[q]at h;cases h
   |some e=>rw[q]at h;simp only[Option.map_some,Option.some.injEq,Prod.mk.injEq]at h;exact⟨h.2.symm,by rw[h.1]⟩
  ·rw[List.getElem?_append_right (by simpa using hi),List.getElem?_replicate]at h
   split at h<;>cases h
 refine⟨Same.refl H,hb,?_,fun i d h=>?_,fun i d h=>?_,fun i j d e a _ h=>?_⟩
 ·unfold startD start
  simp only[List.length_append,List.length_map,List.length_replicate]
  omega
 ·obtain⟨_,h2⟩:=key i d _ h
  obtain⟨v,h3,h4⟩:=r.get h2
  refine⟨v,?_,h4⟩
  have hi:i<vs.length:=(List.getElem?_eq_some_iff.mp h3).1
  unfold start
  rw[List.getElem?_append_left (by simpa using hi),List.getElem?_map,h3]
  rfl
 ·have:=(key i d _ h).1;cases this
 ·have:=(key i d _ h).1;cases this
section
variable{P:Program}{w:World}{K:Frag}{mg:Str→Option Value}{base:Heap}
theorem fnM_of {x qual:Str}{st:Stmt}{f:Addr}{fd:FuncData}{N ps:List Str}{k:Nat}{g:DEnv→Option Out}(F:Fun K x qual st f fd) (S:FnScope N ps (aa st)) (hb:Binds K fd ps []) (hm:mg x=some (.ref f)) (hn:ps.length≤N.length)
  (body:∀(cdv:Value) (A:Around) (outer:List Env) (s:Shared) (H:Hp) (E:XK),Room k (A.deeper (envOfC qual (aa st) s.heap.objs.size f cdv))→DSs (cxOf CX0 P w K mg base N qual (aa st) f cdv A outer s H E).nox (ai st) g):
  FnOk P w K mg base CX0 (k+1) f fd ps (spM K (runF N.length ps.length g))∧FnM P w K mg base (k+1) x (runF N.length ps.length g):=by
 have key:FnOk P w K mg base CX0 (k+1) f fd ps (spM K (runF N.length ps.length g)):=by
  refine F.ok S (fun vs H Q E h=>?_) (fun cdv A outer s H vs Q E hr h=>?_)
  ·obtain⟨B,ds,r,fr,_,hr,hf,_⟩:=h
   unfold runF at hf
   by_cases q:ds.length=ps.length
   ·rw[←hr.length,q]
   ·rw[if_neg q]at hf;cases hf
  ·obtain⟨B,ds,r,fr,hB,hrs,hf,kk⟩:=h
   refine⟨_,body cdv A outer s H E hr,?_⟩
   unfold runF at hf
   by_cases q:ds.length=ps.length
   ·rw[if_pos q]at hf
    have R:Rel K B H (startD N.length ds) (start N vs) H:=rel_start hB hrs (by omega)
    cases qo:g (startD N.length ds)with
    |none=>rw[qo]at hf;cases hf
    |some o=>
     rw[qo]at hf
     refine⟨B,H,startD N.length ds,o,R,by first|exact qo|rfl,?_⟩
     cases o with
     |ret d fr'=>
      simp only[outF,Option.some.injEq,Prod.mk.injEq]at hf
      obtain⟨rfl,rfl⟩:=hf
      exact fun v H' x s rr=>kk v H' s rr
     |next δ=>
      simp only[outF,Option.some.injEq,Prod.mk.injEq]at hf
      obtain⟨rfl,rfl⟩:=hf
      exact fun σ' H' x R'=>kk .non H' R'.same (by unfold RepR;rw[if_neg Bool.false_ne_true];simp only[Rep])
     |brk δ=>simp only[outF]at hf;cases hf
     |cont δ=>simp only[outF]at hf;cases hf
   ·rw[if_neg q]at hf;cases hf
 exact⟨key,⟨f,fd,ps,key,hm,F.kp,hb⟩⟩
end
end L2
namespace L2
open PySem PySem.Spec PyProof.Rows
theorem bt_list:bootBuiltins "list"=some (.type "list"):=by decide +kernel
theorem bt_tuple:bootBuiltins "tuple"=some (.type "tuple"):=by decide +kernel
theorem bt_isinstance:bootBuiltins "isinstance"=some (.builtin "isinstance"):=by decide +kernel
theorem bt_str:bootBuiltins "str"=some (.type "str"):=by decide +kernel
theorem bt_set:bootBuiltins "set"=some (.type "set"):=by decide +kernel
theorem bt_sorted:bootBuiltins "sorted"=some (.builtin "sorted"):=by decide +kernel
noncomputable def cutS (x:Str) (lo hi:Option Int):Str:=if((Builtin.Str.strSliceIndices lo hi 1 x.length).length==x.length)=true then x else⟨((Builtin.Str.strSliceIndices lo hi 1 x.length).filterMap (x.cps[·]?)).toArray⟩
theorem cutS_len (x:Str) (lo hi:Option Int):(cutS x lo hi).length≤x.length:=by
 unfold cutS
 split
 ·exact Nat.le_refl _
 ·show((Builtin.Str.strSliceIndices lo hi 1 x.length).filterMap (x.cps[·]?)).toArray.size≤_
  rw[List.size_toArray]
  exact Nat.le_trans (List.length_filterMap_le _ _) (sliceIndices_le lo hi x.length)
section
variable{X:Cx}
theorem part_of {v:Value}{o:Option Int}(h:IsPart v o):∃l:Option (Int×Tok),v=partValue l∧l.map (·.1)=o:=by
 cases h with
 |none=>exact⟨none,rfl,rfl⟩
 |int i t=>exact⟨some (i,t),rfl,rfl⟩
theorem sl_str:SlR X (fun x lo hi H Q=>∃z,x=.str z∧z.length≤sizeLine∧Q (.str (cutS z lo hi)) H):=by
 intro pins s σ H x v vl vu lo hi sl Q I rx hs pl pu h
 obtain⟨z,rfl,hz,q⟩:=h
 obtain⟨t,rfl⟩:=rx
 obtain⟨l,rfl,rfl⟩:=part_of pl
 obtain⟨u,rfl,rfl⟩:=part_of pu
 refine⟨"str",_,F.slot_str_getitem.lookup,typeIs_str s z t,wpAny_getItem_str_slice (l:=l) (u:=u) (st:=none) hs rfl ?_⟩
 have key:(sliceMade z t l u none)=if((Builtin.Str.strSliceIndices (l.map (·.1)) (u.map (·.1)) 1 z.length).length==z.length)=true then Made.val (.str z t) else Made.str ⟨((Builtin.Str.strSliceIndices (l.map (·.1)) (u.map (·.1)) 1 z.length).filterMap (z.cps[·]?)).toArray⟩:=by
  unfold sliceMade slicePicked
  simp
 rw[key]
 refine post_val_or_made (fun hc=>?_) fun t' k=>⟨.str (cutS z (l.map (·.1)) (u.map (·.1))),H,I.tok k,⟨t',rfl⟩,q⟩
 have hle:=cutS_len z (l.map (·.1)) (u.map (·.1))
 unfold cutS at hle
 rw[if_neg hc]at hle
 exact Nat.le_trans hle hz
end
noncomputable def DO (X:Cx) (e:Option Expr) (f:DEnv→Option (Option Int)):Prop:=PO X e (fun σ H Q=>∃B Hk δ o,Rel X.K B Hk δ σ H∧f δ=some o∧∀H',Same H H'→Q o H')
theorem PO.imp {X:Cx}{e:Option Expr}{t t':TO}(h:PO X e t) (i:∀σ H Q,t' σ H Q→t σ H Q):PO X e t':=fun pins s σ H Q I q=>h pins s σ H Q I (i σ H Q q)
noncomputable def partI (x:Option D):Option (Option Int):=match x with|some (.int i)=>some (some i)|_=>none
section
variable{X:Cx}{m m' mm:Bool}{a b:Expr}{fa fb:DEnv→Option D}{pos p p2:Pos}{lo hi:Option Expr}{fl fh:DEnv→Option (Option Int)}
theorem do_none:DO X none (fun _=>some none):=po_none.imp fun σ H Q ⟨B,Hk,δ,o,R,e,k⟩=>by cases e;exact k H (Same.refl H)
theorem do_some (h:DE X m a fa):DO X (some a) (fun δ=>partI (fa δ)):=(po_some h).imp fun σ H Q ⟨B,Hk,δ,o,R,e,k⟩=>by
 unfold partI at e
 dsimp only at e
 split at e
 ·rename_i i q
  cases e
  refine⟨B,Hk,δ,_,R,q,fun v H' s r=>?_⟩
  simp only[Rep]at r
  exact⟨i,r,k H' s⟩
 ·cases e
theorem three {K:Frag}{σ:St}{H:Hp}{B:Addr→Prop}{Hk:Hp}{δ:DEnv}{d:D}{l u:Option Int}{r:V→Option Int→Option Int→Hp→VK→Prop}{Q:VK}(R:Rel K B Hk δ σ H) (e1:fa δ=some d) (e2:fl δ=some l) (e3:fh δ=some u)
  (k:∀v H',Same H H'→Rel K B Hk δ σ H'→Rep K (bset m B δ σ) H' d v→r v l u H' Q):
  tSl r (tM K m fa) (fun σ H Q=>∃B Hk δ o,Rel K B Hk δ σ H∧fl δ=some o∧∀H',Same H H'→Q o H') (fun σ H Q=>∃B Hk δ o,Rel K B Hk δ σ H∧fh δ=some o∧∀H',Same H H'→Q o H') σ H Q:=
 ⟨B,Hk,δ,d,R,e1,fun v H1 s1 r1=>⟨B,Hk,δ,l,R.to s1,e2,fun H2 s2=>⟨B,Hk,δ,u,R.to (s1.trans s2),e3,fun H3 s3=>k v H3 (s1.trans (s2.trans s3)) (R.to (s1.trans (s2.trans s3))) (r1.same (R.to s1) (s2.trans s3))⟩⟩⟩
noncomputable def cutSO (x:Option D) (l u:Option (Option Int)):Option D:=match x,l,u with|some (.str z),some l,some u=>if z.length≤lim then some (.str (cutS z l u)) else none|_,_,_=>none
theorem de_cutS (ha:DE X m a fa) (hl:DO X lo fl) (hh:DO X hi fh):DE X mm (.Subscript a (.Slice lo hi none p2) pos) (fun δ=>cutSO (fa δ) (fl δ) (fh δ)):=
 (pe_slice sl_str ha hl hh).imp fun σ H Q ⟨B,Hk,δ,d,R,e,k⟩=>by
  unfold cutSO at e
  split at e
  ·rename_i z l u q1 q2 q3
   by_cases hz:z.length≤lim
   ·rw[if_pos hz]at e;cases e
    refine three R q1 q2 q3 fun v H' s R' r=>?_
    simp only[Rep]at r
    exact⟨z,r,lim_line hz,k _ H' s (by simp only[Rep])⟩
   ·rw[if_neg hz]at e;cases e
  ·cases e
noncomputable def cutD (ds:List D) (lo hi:Option Int):List D:=(ds.drop (HT.sIx ds.length 0 lo)).take (HT.sIx ds.length ds.length hi - HT.sIx ds.length 0 lo)
theorem Reps.cut {K:Frag}{B:Addr→Prop}{H:Hp}{ds:List D}{xs:List V}(r:Reps K B H ds xs) (lo hi:Option Int):Reps K B H (cutD ds lo hi) (cutV xs lo hi):=by
 unfold cutD cutV
 rw[r.length]
 exact(r.drop _).take _
noncomputable def cutLO (x:Option D) (l u:Option (Option Int)):Option D:=match x,l,u with|some (.lst ds),some l,some u=>some (.lst (cutD ds l u))|_,_,_=>none
theorem df_cutL (ha:DE X false a fa) (hl:DO X lo fl) (hh:DO X hi fh):DF X (.Subscript a (.Slice lo hi none p2) pos) (fun δ=>cutLO (fa δ) (fl δ) (fh δ)):=
 (pe_slice sl_list ha hl hh).imp fun σ H Q ⟨B,Hk,δ,d,R,e,k⟩=>by
  unfold cutLO at e
  split at e
  ·rename_i ds l u q1 q2 q3
   cases e
   refine three R q1 q2 q3 fun v H' s R' r=>?_
   simp only[Rep]at r
   obtain⟨c,xs,rfl,hq,rs⟩:=r
   refine⟨c,xs,rfl,hq.sq,fun p hp=>?_⟩
   have s2:=same_upd (o:=.lst (cutV xs l u)) hp
   exact k p _ (s.trans s2) (s.free hp) ⟨_,upd_same,(rs.cut l u).same (m:=false) R' s2⟩
  ·cases e
noncomputable def addS (x y:Option D):Option D:=match x,y with|some (.str i),some (.str j)=>if i.length+j.length≤lim then some (.str (i++j)) else none|_,_=>none
theorem de_addS (ha:DE X m a fa) (hb:DE X m' b fb):DE X mm (.BinOp a .Add b pos) (fun δ=>addS (fa δ) (fb δ)):=
 (pe_op op_add_str ha hb).imp fun σ H Q ⟨B,Hk,δ,d,R,e,k⟩=>by
  unfold addS at e
  split at e
  ·rename_i i j q1 q2
   by_cases hz:i.length+j.length≤lim
   ·rw[if_pos hz]at e;cases e
    refine two R q1 q2 fun v u H' s R' r1 r2=>?_
    simp only[Rep]at r1 r2
    subst r1 r2
    exact⟨i,j,rfl,rfl,lim_line hz,k _ H' s (by simp only[Rep])⟩
   ·rw[if_neg hz]at e;cases e
  ·cases e
noncomputable def listO (x:Option D):Option D:=match x with|some d=>(match itemsD d with|some ds=>some (.lst ds)|none=>none)|none=>none
theorem itemsO {x:Option D}{g:List D→D}{d:D}(h:(match x with|some d=>(match itemsD d with|some ds=>some (g ds)|none=>none)|none=>none)=some d):∃e es,x=some e∧itemsD e=some es∧d=g es:=by
 split at h
 ·rename_i e
  split at h
  ·rename_i es he;cases h;exact⟨e,es,rfl,he,rfl⟩
  ·cases h
 ·cases h
noncomputable def tupleO (x:Option D):Option D:=match x with|some d=>(match itemsD d with|some ds=>some (.tup ds)|none=>none)|none=>none
theorem de_tuple (g:Gl X "tuple") (hm:X.mg "tuple"=none) (ha:DE X m a fa) (hs:starEach [a] X.env=[(false,eval a X.env)]:=by rfl):DE X m (.Call (.Name "tuple" p) [a] [] pos) (fun δ=>tupleO (fa δ)):=
 (pe_callTy call_tuple_of g hm bt_tuple (pa_cons ha pa_nil hs) (he:=hs)).imp fun σ H Q ⟨B,Hk,δ,d,R,e,k⟩=>by
  obtain⟨d1,es,e1,hi,rfl⟩:=itemsO (g:=D.tup) e
  refine oneA R e1 fun v H' s R' r=>?_
  cases d1 with
  |lst ds=>
   simp only[itemsD]at hi;cases hi
   simp only[Rep]at r
   obtain⟨c,xs,rfl,hq,rs⟩:=r
   refine⟨c,xs,rfl,.inl ⟨hq.sq,fun l hl=>?_⟩⟩
   have s2:=same_upd (o:=.tup xs) hl
   refine k _ _ (s.trans s2) ?_
   simp only[Rep]
   exact⟨l,xs,rfl,upd_same,rs.same R' s2⟩
  |tup ds=>
   simp only[itemsD]at hi;cases hi
   have r':=r
   simp only[Rep]at r
   obtain⟨c,xs,rfl,hq,rs⟩:=r
   exact⟨c,xs,rfl,.inr ⟨SqT.of hq,k _ H' s r'⟩⟩
  |_=>simp[itemsD]at hi
noncomputable def tyD:D→Option String
 |.non=>some "NoneType"|.bl _=>some "bool"|.int _=>some "int"|.str _=>some "str"|.tup _=>some "tuple"|.lst _=>some "list"|_=>none
noncomputable def isiT (t c:String):Bool:=t==c||(t=="bool"&&c=="int")
noncomputable def isiO (c:String) (x:Option D):Option D:=match x with|some d=>(match tyD d with|some t=>some (.bl (isiT t c))|none=>none)|none=>none
theorem call_isi {c:String}(hc:c="int"∨c="bool"∨c="str"∨c="list"∨c="tuple"):CallR X (.builtin "isinstance") (fun xs H Q=>∃B d x t,xs=[x,.ty c]∧Rep X.K B H d x∧tyD d=some t∧Q (.bl (isiT t c)) H):=by
 intro pins s σ H xs us Q I r h
 obtain⟨B,d,x,t,rfl,rx,ht,q⟩:=h
 obtain⟨u,w',rfl,ru,rw'⟩:=vals2 r
 cases rw'
 have fin:∀b,b=isiT t c→∀tk,EP X pins σ Q (.bool b) {s with toks:=tk}:=fun b e tk=>⟨.bl b,H,I.tok tk,rfl,by rw[e];exact q⟩
 have kit:∀(T:String),(T="NoneType"∨T="bool"∨T="int"∨T="str"∨T="list"∨T="tuple")→PySem.W.kitOne X.K (.type T) (.type c)=some (isiT T c):=fun T hT=>by
  rcases hc with rfl|rfl|rfl|rfl|rfl<;>rcases hT with rfl|rfl|rfl|rfl|rfl|rfl<;>rfl
 cases d with
 |non=>simp only[tyD,Option.some.injEq]at ht;subst ht;simp only[Rep]at rx;subst rx;exact isinst_ok I ru (.non) (kit _ (by simp)) (fin _ rfl)
 |bl b=>simp only[tyD,Option.some.injEq]at ht;subst ht;simp only[Rep]at rx;subst rx;exact isinst_ok I ru (.bl b) (kit _ (by simp)) (fin _ rfl)
 |int b=>simp only[tyD,Option.some.injEq]at ht;subst ht;simp only[Rep]at rx;subst rx;exact isinst_ok I ru (.int b) (kit _ (by simp)) (fin _ rfl)
 |str b=>simp only[tyD,Option.some.injEq]at ht;subst ht;simp only[Rep]at rx;subst rx;exact isinst_ok I ru (.str b) (kit _ (by simp)) (fin _ rfl)
 |tup ds=>
  simp only[tyD,Option.some.injEq]at ht;subst ht
  simp only[Rep]at rx
  obtain⟨a,xs,rfl,hq,_⟩:=rx
  cases ru
  obtain⟨its,_,⟨o,h1,h2,_⟩,_⟩:=I.tuple (SqT.of hq)
  exact PySem.W.kia_one PySem.W.kitx_tuple I.kIn ⟨o,h1,h2⟩ (kit _ (by simp)) (fun z=>nomatch z) (fin _ rfl)
 |lst ds=>
  simp only[tyD,Option.some.injEq]at ht;subst ht
  simp only[Rep]at rx
  obtain⟨a,xs,rfl,hq,_⟩:=rx
  cases ru
  obtain⟨its,_,⟨o,n,h1,h2,_⟩,_⟩:=I.list hq.sq
  exact PySem.W.kia_one PySem.W.kitx_list I.kIn ⟨o,h1,h2⟩ (kit _ (by simp)) (fun z=>nomatch z) (fin _ rfl)
 |dT _ _=>simp[tyD]at ht
 |dK _ _=>simp[tyD]at ht
 |dD _ _=>simp[tyD]at ht
 |sp _ _=>simp[tyD]at ht
theorem de_isi {c:Str}{cs:String}{pc:Pos}(hc:cs="int"∨cs="bool"∨cs="str"∨cs="list"∨cs="tuple") (g:Gl X "isinstance") (hm:X.mg "isinstance"=none) (gc:Gl X c) (hmc:X.mg c=none) (hv:bootBuiltins c=some (.type cs)) (ha:DE X m a fa)
  (hs:starEach [a,.Name c pc] X.env=[(false,eval a X.env),(false,eval (.Name c pc) X.env)]:=by rfl) (hs2:starEach [.Name c pc] X.env=[(false,eval (.Name c pc) X.env)]:=by rfl) (hn:c≠"__name__":=by decide) (hd:(c==("__debug__":Str))=false:=by decide)
  (hpl:(backTo pos (starEach [.Name c pc] X.env)).any (·.1)=false:=by rfl):
  DE X mm (.Call (.Name "isinstance" p) [a,.Name c pc] [] pos) (fun δ=>isiO cs (fa δ)):=
 (pe_callB (call_isi hc) g hm bt_isinstance (pa_cons ha (pa_cons (pe_bltn (v:=.ty cs) gc hmc hv rfl hn hd) pa_nil hs2) (by rw[hs,hs2])) (he:=by rw[hs,hs2]) (hpl:=hpl)).imp fun σ H Q ⟨B,Hk,δ,d,R,e,k⟩=>by
  unfold isiO at e
  split at e
  ·rename_i d1 q
   split at e
   ·rename_i t qt
    cases e
    exact⟨B,Hk,δ,d1,R,q,fun v H' s r=>⟨_,d1,v,t,rfl,r,qt,k _ H' s (by simp only[Rep])⟩⟩
   ·cases e
  ·cases e
end
end L2
namespace L2
open PySem PySem.Spec PyProof.Rows PySem.W
noncomputable def kin {α:Type}(n:Nat) (lt:Nat→Nat→Bool):KasT α→Prop
 |.ret _=>True
 |.ask i j k=>i<n∧j<n∧kin n lt (k (lt i j))
section
variable{n:Nat}{lt:Nat→Nat→Bool}
structure Ord (lt:Nat→Nat→Bool):Prop where
 asym:∀i j,lt i j=true→lt j i=false
 tr:∀i j k,lt j i=false→lt k j=false→lt k i=false
variable(O:Ord lt)
structure Ok (n:Nat) (p:Array Nat):Prop where
 sz:p.size=n
 pm:p.toList.Perm (List.range n)
include O in
include O in
include O in
include O in
include O in
include O in
include O in
include O in
end
end L2
namespace L2
open PySem PySem.Spec PyProof.Rows PySem.W
section
variable{X:Cx}
end
noncomputable def keyOf1:D→Option Key
 |.int i=>some (.inl i)
 |.str x=>some (.inr x)
 |_=>none
noncomputable def keysOf:List D→Option (List Key)
 |[]=>some []
 |d::ds=>(match keyOf1 d,keysOf ds with|some k,some ks=>some (k::ks)|_,_=>none)
section
variable{X:Cx}{m m' mm:Bool}{a b c:Expr}{fa fb fc:DEnv→Option D}{pos apos cpos:Pos}
end
end L2
namespace L2
open PySem PySem.Spec PyProof.Rows PySem.W
noncomputable def strsD:List D→Option (List Str)
 |[]=>some []
 |.str i::ds=>(match strsD ds with|some l=>some (i::l)|none=>none)
 |_=>none
theorem strsD_map (ns:List Str):strsD (ns.map D.str)=some ns:=by
 induction ns with
 |nil=>rfl
 |cons n ns ih=>simp only[List.map_cons,strsD,ih]
theorem strsD_some:∀{ds:List D}{ns:List Str},strsD ds=some ns→ds=ns.map D.str
 |[],ns,h=>by simp only[strsD,Option.some.injEq]at h;subst h;rfl
 |.str i::ds,ns,h=>by
  simp only[strsD]at h
  cases q:strsD ds with
  |none=>rw[q]at h;cases h
  |some l=>
   rw[q]at h
   simp only[Option.some.injEq]at h
   subst h
   rw[List.map_cons,strsD_some q]
 |.non::ds,ns,h=>by simp[strsD]at h
 |.bl _::ds,ns,h=>by simp[strsD]at h
 |.int _::ds,ns,h=>by simp[strsD]at h
 |.tup _::ds,ns,h=>by simp[strsD]at h
 |.lst _::ds,ns,h=>by simp[strsD]at h
 |.dT _ _::ds,ns,h=>by simp[strsD]at h
 |.dK _ _::ds,ns,h=>by simp[strsD]at h
 |.dD _ _::ds,ns,h=>by simp[strsD]at h
 |.sp _ _::ds,ns,h=>by simp[strsD]at h
theorem Reps.strs {K:Frag}{B:Addr→Prop}{H:Hp}:∀{ns:List Str}{xs:List V},Reps K B H (ns.map D.str) xs→xs=ns.map V.str
 |[],xs,h=>by simpa only[List.map_nil,Reps]using h
 |n::ns,xs,h=>by
  simp only[List.map_cons,Reps]at h
  obtain⟨x,r,rfl,h1,h2⟩:=h
  simp only[Rep]at h1
  rw[List.map_cons,h1,Reps.strs h2]
theorem strsAre_of {ns:List Str}:∀{us:List Value},Vals (ns.map V.str) us→StrsAre us ns:=by
 induction ns with
 |nil=>intro us r;rw[List.map_nil]at r;cases r;exact .nil
 |cons n ns ih=>
  intro us r
  rw[List.map_cons]at r
  cases r with
  |cons r1 r2=>
   obtain⟨t,e⟩:=r1
   subst e
   exact .cons n t (ih r2)
section
variable{X:Cx}{m m' mm:Bool}{a b:Expr}{fa fb:DEnv→Option D}{pos p apos cpos:Pos}
theorem mt_join:MtM X "str.join" (fun x vs H Q=>∃(z:Str) (p:Addr) (ys:List Str),x=.str z∧vs=[.ref p]∧SqL X.K H p (ys.map V.str)∧(ys.map (·.length)).sum+ys.length*z.length≤16777216∧Q (.str (Txt.join z ys)) H):=by
 intro pins s σ H x vs v us Q I rx rv h
 obtain⟨z,p,ys,rfl,rfl,hq,hl,q⟩:=h
 obtain⟨t,rfl⟩:=rx
 obtain⟨u,rfl,ru⟩:=rv.one
 cases ru
 obtain⟨its,r,pl,hz⟩:=I.list hq
 exact join_list pl.isList (by simpa using strsAre_of r) hl fun t' k=>⟨.str _,H,I.tok k,⟨t',rfl⟩,q⟩
noncomputable def joinO (x y:Option D):Option D:=match x,y with|some (.str z),some (.lst ds)=>(match strsD ds with|some ys=>if(ys.map (·.length)).sum+ys.length*z.length≤16777216 then some (.str (Txt.join z ys)) else none|none=>none)|_,_=>none
theorem de_join (ha:DE X m a fa) (hb:DE X m' b fb) (hbase:attributeBase a "join" X.env (eval a X.env)=eval a X.env:=by rfl)
  (hfew:((backTo cpos (starEach [b] X.env)).all (fun x=>!x.1)&&(backToKw cpos (keywordEach [] X.env)).all (fun x=>x.1.isSome)&&decide (([b]).length+([]:List Keyword).length+(if([]:List Keyword).isEmpty then 0 else 1)<30))=true:=by rfl)
  (hline:(apos.endLine==cpos.line)=true:=by rfl) (hs:starEach [b] X.env=(false,eval b X.env)::starEach [] X.env:=by rfl):DE X mm (.Call (.Attribute a "join" apos) [b] [] cpos) (fun δ=>joinO (fa δ) (fb δ)):=
 (pe_bm PySem.F.plainAttrs_str PySem.F.slot_str_join PySem.F.type_str_join mt_join ha (pa_cons hb pa_nil hs) hbase hfew hline hs).imp fun σ H Q ⟨B,Hk,δ,d,R,e,k⟩=>by
  unfold joinO at e
  split at e
  ·rename_i z ds q1 q2
   split at e
   ·rename_i ys qs
    obtain rfl:=strsD_some qs
    by_cases c:(ys.map (·.length)).sum+ys.length*z.length≤16777216
    ·rw[if_pos c]at e;cases e
     refine⟨B,Hk,δ,_,R,q1,fun v H1 s1 r1=>?_⟩
     simp only[Rep]at r1
     subst r1
     refine⟨rfl,oneA (R.to s1) q2 fun w H2 s2 R2 r2=>?_⟩
     simp only[Rep]at r2
     obtain⟨l,xs,rfl,hq,rs⟩:=r2
     obtain rfl:=rs.strs
     exact⟨z,l,ys,rfl,rfl,hq.sq,c,k _ H2 (s1.trans s2) (by simp only[Rep])⟩
    ·rw[if_neg c]at e;cases e
   ·cases e
  ·cases e
theorem mt_find:MtM X "str.find" (fun x vs H Q=>∃(z y:Str),x=.str z∧vs=[.str y]∧Q (.int (Txt.find z y)) H):=by
 intro pins s σ H x vs v us Q I rx rv h
 obtain⟨z,y,rfl,rfl,q⟩:=h
 obtain⟨t,rfl⟩:=rx
 obtain⟨u,rfl,ru⟩:=rv.one
 obtain⟨t',rfl⟩:=ru
 exact SC.find ⟨.int _,H,I.tok _,⟨_,rfl⟩,q⟩
noncomputable def findO (x y:Option D):Option D:=match x,y with|some (.str z),some (.str w)=>some (.int (Txt.find z w))|_,_=>none
theorem de_find (ha:DE X m a fa) (hb:DE X m' b fb) (hbase:attributeBase a "find" X.env (eval a X.env)=eval a X.env:=by rfl)
  (hfew:((backTo cpos (starEach [b] X.env)).all (fun x=>!x.1)&&(backToKw cpos (keywordEach [] X.env)).all (fun x=>x.1.isSome)&&decide (([b]).length+([]:List Keyword).length+(if([]:List Keyword).isEmpty then 0 else 1)<30))=true:=by rfl)
  (hline:(apos.endLine==cpos.line)=true:=by rfl) (hs:starEach [b] X.env=(false,eval b X.env)::starEach [] X.env:=by rfl):DE X mm (.Call (.Attribute a "find" apos) [b] [] cpos) (fun δ=>findO (fa δ) (fb δ)):=
 (pe_bm PySem.F.plainAttrs_str PySem.F.slot_str_find PySem.F.type_str_find mt_find ha (pa_cons hb pa_nil hs) hbase hfew hline hs).imp fun σ H Q ⟨B,Hk,δ,d,R,e,k⟩=>by
  unfold findO at e
  split at e
  ·rename_i z y q1 q2
   cases e
   refine⟨B,Hk,δ,_,R,q1,fun v H1 s1 r1=>?_⟩
   simp only[Rep]at r1
   subst r1
   refine⟨rfl,oneA (R.to s1) q2 fun w H2 s2 R2 r2=>?_⟩
   simp only[Rep]at r2
   subst r2
   exact⟨z,y,rfl,rfl,k _ H2 (s1.trans s2) (by simp only[Rep])⟩
  ·cases e
theorem lst_add_m (l:Addr) (items:Array Value) (n:Nat) (b:Addr) (items2:Array Value) (n2:Nat) (s1 s2:Array (Option Value)) (hc0:items.size+items2.size≤sizeLine):
  Meets (Builtin.«list.__add__» ⟨[.ref l,.ref b],[]⟩) (fun _ R s=>s.heap.get? l=some ⟨.type "list",none,.seq items n,s1⟩∧s.heap.get? b=some ⟨.type "list",none,.seq items2 n2,s2⟩∧R (.ok (.ret (Value.ref s.heap.objs.size))) {s with heap:=s.heap.push {cls:=Value.type "list",data:=Data.seq (items++items2)}}):=
 .of_wp fun prog w A R s h=>by
  obtain⟨hp,g,d,tk,os⟩:=s
  obtain⟨hl,hb,h⟩:=h
  have f1:=AutoSeq1.idx_int;have f2:=AutoSeq1.sub_tuple_tuple;have f3:=AutoSeq1.sub_list_list;have f4:=AutoSeq1.sub_tuple_list;have f5:=AutoSeq1.sub_list_tuple
  wp_walk using AutoSeq1.wpAny_loadPart' hl,AutoSeq1.wpAny_loadPart' hb
  exact⟨_,rfl,h⟩
theorem add_lists {P:Program}{w:World}{A:Around}{E:Value→Shared→Prop}{s:Shared}{l b:Addr}{its its2:Array Value}{Q:Value→Shared→Prop}(hl:PlainL s.heap l its) (hb:PlainL s.heap b its2)
  (h:Q (.ref s.heap.objs.size) {s with heap:=s.heap.push {cls:=.type "list",data:=.seq (its++its2)}}) (hsz:its.size+its2.size≤sizeLine):wpAny (model P w) A (binaryOp .Add (.ref l) (.ref b)) Q E s:=by
 obtain⟨⟨c1,d1,a1,s1⟩,n1,e1,rfl,rfl,rfl⟩:=hl
 obtain⟨⟨c2,d2,a2,s2⟩,n2,e2,rfl,rfl,rfl⟩:=hb
 exact concat_meets ⟨_,e1,rfl⟩ ⟨_,e2,rfl⟩ noFill_list_add seq_list_add F.slot_list_add F.entry_list_add (F.args_list_add_2 _ _) (lst_add_m l its n1 b its2 n2 s1 s2 hsz) ⟨e1,e2,h⟩
theorem op_catS:OpR X (binaryOp .Add) (fun x y H Q=>∃l b xs zs,x=.ref l∧y=.ref b∧SqL X.K H l xs∧SqL X.K H b zs∧xs.length+zs.length≤sizeLine∧∀p,H p=none→Q (.ref p) (upd H p (.lst (xs++zs)))):=by
 intro pins s σ H x y v u Q I rx ry h
 obtain⟨l,b,xs,zs,rfl,rfl,hH,hB,hz,q⟩:=h
 cases rx
 cases ry
 obtain⟨its,r,pl,_⟩:=I.list hH
 obtain⟨its2,r2,pl2,_⟩:=I.list hB
 have hl:=r.length
 have hl2:=r2.length
 refine add_lists pl pl2 ?_ (by rw[List.size_toArray,List.size_toArray];omega)
 have ea:its.toArray++its2.toArray=(its++its2).toArray:=by simp
 rw[ea]
 exact⟨.ref _,_,I.lnew (t':=s.toks) (r.append r2) (by rw[List.length_append];omega),rfl,q _ I.fresh⟩
noncomputable def catO (x y:Option D):Option D:=match x,y with|some (.lst i),some (.lst j)=>if i.length+j.length≤lim then some (.lst (i++j)) else none|_,_=>none
theorem df_cat (ha:DE X false a fa) (hb:DE X false b fb):DF X (.BinOp a .Add b pos) (fun δ=>catO (fa δ) (fb δ)):=
 (pe_op op_catS ha hb).imp fun σ H Q ⟨B,Hk,δ,d,R,e,k⟩=>by
  unfold catO at e
  split at e
  ·rename_i i j q1 q2
   by_cases hz:i.length+j.length≤lim
   ·rw[if_pos hz]at e;cases e
    refine two R q1 q2 fun v u H' s R' r1 r2=>?_
    simp only[Rep]at r1 r2
    obtain⟨c,xs,rfl,hq,rs⟩:=r1
    obtain⟨c2,xs2,rfl,hq2,rs2⟩:=r2
    refine⟨c,c2,xs,xs2,rfl,rfl,hq.sq,hq2.sq,by rw[←rs.length,←rs2.length];exact lim_line hz,fun p hp=>?_⟩
    have s2:=same_upd (o:=.lst (xs++xs2)) hp
    exact k p _ (s.trans s2) (s.free hp) ⟨_,upd_same,(rs.append rs2).same (m:=false) R' s2⟩
   ·rw[if_neg hz]at e;cases e
  ·cases e
noncomputable def extO (i:Nat) (x:Option D) (δ:DEnv):Option Out:=match rdOwn i δ,x with|some (.lst ds),some (.lst es)=>if ds.length+es.length≤lim then some (.next (δ.set i (some (.lst (ds++es),true)))) else none|_,_=>none
theorem extO_some {i:Nat}{x:Option D}{δ:DEnv}{o:Out}(h:extO i x δ=some o):∃ds es,δ[i]?=some (some (.lst ds,true))∧x=some (.lst es)∧ds.length+es.length≤lim∧o=.next (δ.set i (some (.lst (ds++es),true))):=by
 unfold extO at h
 split at h
 ·rename_i ds d q
  by_cases hl:ds.length+d.length≤lim
  ·rw[if_pos hl]at h;cases h;exact⟨ds,d,rdOwn_some q,rfl,hl,rfl⟩
  ·rw[if_neg hl]at h;cases h
 ·cases h
theorem ds_extend {i:Nat}{x:Str}{px apos cpos:Pos}(ha:DF X a fa) (hN:X.N[i]?=some x:=by rfl) (hv:Vis X.env.scope x:=by first|exact Or.inl rfl|exact Or.inr (Or.inl rfl)|exact Or.inr (Or.inr rfl))
  (hbase:attributeBase (.Name x px) "extend" X.env (eval (.Name x px) X.env)=eval (.Name x px) X.env:=by rfl)
  (hfew:((backTo cpos (starEach [a] X.env)).all (fun x=>!x.1)&&(backToKw cpos (keywordEach [] X.env)).all (fun x=>x.1.isSome)&&decide (([a]).length+([]:List Keyword).length+(if([]:List Keyword).isEmpty then 0 else 1)<30))=true:=by rfl)
  (hline:(apos.endLine==cpos.line)=true:=by rfl) (hs:starEach [a] X.env=(false,eval a X.env)::starEach [] X.env:=by rfl) (hd:(x==("__debug__":Str))=false:=by decide) (hcd:(x==("__classdict__":Str))=false:=by decide)
  (hsw:swapsWith (.Call (.Attribute (.Name x px) "extend" apos) [a] [] cpos) none pos.line X.env=pure false:=by rfl):DS X (.Expr (.Call (.Attribute (.Name x px) "extend" apos) [a] [] cpos) pos) (fun δ=>extO i (fa δ) δ):=
 (ps_expr (pe_bm PySem.F.plainAttrs_list PySem.F.slot_list_extend PySem.F.type_list_extend mt_extend (pe_var hN hv hd hcd) (pa_cons ha pa_nil hs) hbase hfew hline hs) hsw).imp fun Dn σ H ⟨B,Hk,δ,o,R,e,k⟩=>by
  obtain⟨ds,es,h1,e1,hl,rfl⟩:=extO_some e
  obtain⟨l,h2,h3,xs,h4,h5⟩:=R.own i _ h1
  refine⟨.ref l,h2,.inl ⟨rfl,xs,SqL.of h4⟩,B,Hk,δ,_,R,e1,fun p H' s hp ob=>?_⟩
  have R':=R.to s
  have h4':=s l _ h4
  have h5':Reps X.K B H' ds xs:=h5.ext (R.ext s)
  obtain⟨zs,h6,h7⟩:=ob
  obtain⟨x1,x2⟩:=R'.lset (ds':=ds++es) (xs':=xs++zs) h1 h2 h4' (h5'.append h7)
  exact⟨l,p,xs,zs,rfl,rfl,h4',h6,by rw[←h5.length,←h7.length];exact lim_line hl,k σ _ ((R.ext s).trans x1) x2⟩
end
end L2
namespace L2
open PySem PySem.Spec PyProof.Rows
noncomputable def chkComp (osc:Scope) (scope:Scope) (N:List Str) (bs:List Bool):Bool:=
 decide (scope.kind=.function)&&scope.names.all (fun y=>!decide (y.2=.cell))&&scope.names.all (fun y=>!decide (y.2=.local)||decide (scope.names.lookup y.1=some .local))&&
 scope.names.all (fun y=>!decide (y.2=.free)||(decide (scope.names.lookup y.1=some .free)&&(decide (osc.names.lookup y.1=some .cell)||decide (osc.names.lookup y.1=some .free))))&&
 decide (bs.length=N.length)&&(N.zip bs).all (fun p=>!p.2||decide (scope.names.lookup p.1=some .free))
theorem compScope_of {X:Cx}{osc scope:Scope}{N:List Str}{bs:List Bool}(h1:X.env.scope=osc) (h2:X.N=N) (h:chkComp osc scope N bs=true):CompScope X scope bs:=by
 unfold chkComp at h
 simp only[Bool.and_eq_true,decide_eq_true_eq]at h
 obtain⟨⟨⟨⟨⟨a,b⟩,c⟩,d⟩,e⟩,f⟩:=h
 refine⟨a,fun y hy z=>?_,fun y hy z=>?_,fun y hy z=>?_,by rw[h2];exact e,fun i x hx hb=>?_⟩
 ·have:=List.all_eq_true.mp b y hy
  rw[decide_eq_true z]at this;cases this
 ·have:=List.all_eq_true.mp c y hy
  rw[decide_eq_true z]at this
  simpa using this
 ·have:=List.all_eq_true.mp d y hy
  rw[decide_eq_true z]at this
  simp only[Bool.not_true,Bool.false_or,Bool.and_eq_true,Bool.or_eq_true,decide_eq_true_eq]at this
  refine⟨this.1,?_⟩
  unfold Env.kindOf
  rw[h1]
  exact this.2
 ·rw[h2]at hx
  have hz:(N.zip bs)[i]?=some (x,true):=by rw[List.getElem?_zip_eq_some];exact⟨hx,hb⟩
  have:=List.all_eq_true.mp f _ (List.mem_of_getElem? hz)
  simpa using this
end L2
namespace L2
open PySem PySem.Spec PyProof.Rows
structure Nm (X:Cx) (i:Nat) (x:Str):Prop where
 at':X.N[i]?=some x
 vis:Vis X.env.scope x
 d1:(x==("__debug__":Str))=false
 d2:(x==("__classdict__":Str))=false
structure Lc (X:Cx) (i:Nat) (x:Str):Prop where
 at':X.N[i]?=some x
 loc:Loc X.env.scope x
 fnl:X.fn x=true∨X.env.scope.names.lookup x=some .local
structure Gb (X:Cx) (x:Str):Prop where
 gl:Gl X x
 d1:(x==("__debug__":Str))=false
noncomputable def kVis:Option NameKind→Bool
 |some .local=>true|some .cell=>true|some .free=>true|_=>false
noncomputable def kLoc:Option NameKind→Bool
 |some .local=>true|some .cell=>true|_=>false
noncomputable def nmB (N:List Str) (sc:Scope) (i:Nat) (x:Str):Bool:=decide (N[i]?=some x)&&kVis (sc.names.lookup x)&&!(x==("__debug__":Str))&&!(x==("__classdict__":Str))
noncomputable def lcB (N:List Str) (sc:Scope) (i:Nat) (x:Str):Bool:=decide (N[i]?=some x)&&kLoc (sc.names.lookup x)
noncomputable def lclB (N:List Str) (sc:Scope) (i:Nat) (x:Str):Bool:=decide (N[i]?=some x)&&decide (sc.names.lookup x=some .local)
noncomputable def gbB (sc:Scope) (x:Str):Bool:=decide (sc.names.lookup x=some .globalImplicit)&&!(x==("__debug__":Str))
theorem kVis_vis {sc:Scope}{x:Str}(h:kVis (sc.names.lookup x)=true):Vis sc x:=by
 unfold kVis at h
 split at h
 ·rename_i e;exact .inl e
 ·rename_i e;exact .inr (.inl e)
 ·rename_i e;exact .inr (.inr e)
 ·cases h
theorem kLoc_loc {sc:Scope}{x:Str}(h:kLoc (sc.names.lookup x)=true):Loc sc x:=by
 unfold kLoc at h
 split at h
 ·rename_i e;exact .inl e
 ·rename_i e;exact .inr e
 ·cases h
structure Has (X:Cx) (N:List Str) (sc:Scope):Prop where
 n:X.N=N
 sc:X.env.scope=sc
 calm:X.calm=true
 nd:X.N.Nodup
theorem Has.nm {X:Cx}{N:List Str}{sc:Scope}{i:Nat}{x:Str}(h:Has X N sc) (b:nmB N sc i x=true):Nm X i x:=by
 unfold nmB at b
 simp only[Bool.and_eq_true,decide_eq_true_eq,Bool.not_eq_true']at b
 exact⟨by rw[h.n];exact b.1.1.1,by rw[h.sc];exact kVis_vis b.1.1.2,b.1.2,b.2⟩
theorem Has.lc {X:Cx}{N:List Str}{sc:Scope}{i:Nat}{x:Str}(h:Has X N sc) (hf:∀x,X.fn x=true) (b:lcB N sc i x=true):Lc X i x:=by
 unfold lcB at b
 simp only[Bool.and_eq_true,decide_eq_true_eq]at b
 exact⟨by rw[h.n];exact b.1,by rw[h.sc];exact kLoc_loc b.2,.inl (hf x)⟩
theorem Has.lcl {X:Cx}{N:List Str}{sc:Scope}{i:Nat}{x:Str}(h:Has X N sc) (b:lclB N sc i x=true):Lc X i x:=by
 unfold lclB at b
 simp only[Bool.and_eq_true,decide_eq_true_eq]at b
 exact⟨by rw[h.n];exact b.1,by rw[h.sc];exact .inl b.2,.inr (by rw[h.sc];exact b.2)⟩
theorem Has.gb {X:Cx}{N:List Str}{sc:Scope}{x:Str}(h:Has X N sc) (b:gbB sc x=true):Gb X x:=by
 unfold gbB at b
 simp only[Bool.and_eq_true,decide_eq_true_eq,Bool.not_eq_true']at b
 refine⟨?_,b.2⟩
 unfold Gl Env.kindOf
 rw[h.sc];exact b.1
noncomputable def relS (scope sc:Scope):Scope:=
 {scope with names:=scope.names.map fun(n,k)=>if(k==.free&&sc.kind==.function&&sc.names.lookup n==some .cell) then(n,.cell) else(n,k)}
theorem relS_of {scope sc:Scope}{env:Env}(h:env.scope=sc):relabel scope env=relS scope sc:=by subst h;rfl
theorem Has.comp {X:Cx}{N:List Str}{sc:Scope}(h:Has X N sc) (scope:Scope) (cl:List (Str×Addr)) (C:Addr) (s₂:Shared) (H₂:Hp) (ex:List Addr) (pn:List (Addr×Obj)):Has (ao X scope cl C s₂ H₂ ex pn) N (relS scope sc):=
 ⟨h.n,relS_of h.sc,h.calm,h.nd⟩
theorem CompScope.of' {X:Cx}{N:List Str}{sc scope:Scope}{bs:List Bool}(h:Has X N sc) (b:chkComp sc scope N bs=true):CompScope X scope bs:=compScope_of h.sc h.n b
section
variable{X:Cx}{m m' mm:Bool}{a b e:Expr}{es:List Expr}{fa fb:DEnv→Option D}{fs:DEnv→Option (List D)}{pos p:Pos}{k:Nat}{x:Str}{f:List D→Option (D×Bool)}{i:Nat}
theorem nv (m:Bool) (n:Nm X i x):DE X m (.Name x pos) (rd m i):=de_var n.at' n.vis n.d1 n.d2
theorem ds_set' {pos':Pos}(n:X.N.Nodup) (l:Lc X i x) (ha:DE X false a fa) (hs:swapsWith a (some (.Name x pos')) pos.line X.env=pure false:=by rfl):DS X (.Assign [.Name x pos'] a pos) (fun δ=>setO i (fa δ) δ):=ds_set (i:=i) (x:=x) (pos:=pos) (pos':=pos') n ha l.at' l.loc hs l.fnl
theorem ds_setF' {pos':Pos}(n:X.N.Nodup) (l:Lc X i x) (ha:DF X a fa) (hs:swapsWith a (some (.Name x pos')) pos.line X.env=pure false:=by rfl):DS X (.Assign [.Name x pos'] a pos) (fun δ=>setF i (fa δ) δ):=ds_setF (i:=i) (x:=x) (pos:=pos) (pos':=pos') n ha l.at' l.loc hs l.fnl
theorem dg_name' (n:X.N.Nodup) (l:Lc X i x):DG X (.Name x pos) (aj i):=dg_name n l.at' l.loc l.fnl
theorem ds_retv' {px:Pos}(n:Nm X i x):DS X (.Return (some (.Name x px)) pos) (fun δ=>retF (rdOwn i δ)):=ds_retv (i:=i) (x:=x) (px:=px) (pos:=pos) n.at' n.vis n.d1 n.d2
theorem al (F:FnM X.prog X.w X.K X.mg X.base k x f) (hr:Room k X.A) (g:Gb X x) (ha:DA X m (e::es) fs) (he:starEach (e::es) X.env=(false,eval e X.env)::starEach es X.env:=by rfl)
  (hpl:(backTo pos (starEach es X.env)).any (·.1)=false:=by rfl):DE X m (.Call (.Name x p) (e::es) [] pos) (fun δ=>shO (ah (fs δ) f)):=de_call F hr g.gl ha g.d1 he hpl
theorem df_call' (F:FnM X.prog X.w X.K X.mg X.base k x f) (hr:Room k X.A) (g:Gb X x) (ha:DA X false (e::es) fs) (he:starEach (e::es) X.env=(false,eval e X.env)::starEach es X.env:=by rfl)
  (hpl:(backTo pos (starEach es X.env)).any (·.1)=false:=by rfl):DF X (.Call (.Name x p) (e::es) [] pos) (fun δ=>frO (ah (fs δ) f)):=df_call (p:=p) F hr g.gl ha g.d1 he hpl
theorem de_len' {p:Pos}(g:Gb X "len") (hm:X.mg "len"=none) (ha:DE X m a fa) (hs:starEach [a] X.env=[(false,eval a X.env)]:=by rfl):DE X mm (.Call (.Name "len" p) [a] [] pos) (fun δ=>lenL (fa δ)):=de_len g.gl hm ha hs g.d1
variable{apos cpos px:Pos}
theorem ds_append' (n:Nm X i x) (ha:DE X false a fa)
  (hbase:attributeBase (.Name x px) "append" X.env (eval (.Name x px) X.env)=eval (.Name x px) X.env:=by rfl)
  (hfew:((backTo cpos (starEach [a] X.env)).all (fun x=>!x.1)&&(backToKw cpos (keywordEach [] X.env)).all (fun x=>x.1.isSome)&&decide (([a]).length+([]:List Keyword).length+(if([]:List Keyword).isEmpty then 0 else 1)<30))=true:=by rfl)
  (hline:(apos.endLine==cpos.line)=true:=by rfl) (hs:starEach [a] X.env=(false,eval a X.env)::starEach [] X.env:=by rfl)
  (hsw:swapsWith (.Call (.Attribute (.Name x px) "append" apos) [a] [] cpos) none pos.line X.env=pure false:=by rfl):DS X (.Expr (.Call (.Attribute (.Name x px) "append" apos) [a] [] cpos) pos) (fun δ=>appO i (fa δ) δ):=
 ds_append ha n.at' n.vis hbase hfew hline hs n.d1 n.d2 hsw
theorem ds_extend' (n:Nm X i x) (ha:DF X a fa)
  (hbase:attributeBase (.Name x px) "extend" X.env (eval (.Name x px) X.env)=eval (.Name x px) X.env:=by rfl)
  (hfew:((backTo cpos (starEach [a] X.env)).all (fun x=>!x.1)&&(backToKw cpos (keywordEach [] X.env)).all (fun x=>x.1.isSome)&&decide (([a]).length+([]:List Keyword).length+(if([]:List Keyword).isEmpty then 0 else 1)<30))=true:=by rfl)
  (hline:(apos.endLine==cpos.line)=true:=by rfl) (hs:starEach [a] X.env=(false,eval a X.env)::starEach [] X.env:=by rfl)
  (hsw:swapsWith (.Call (.Attribute (.Name x px) "extend" apos) [a] [] cpos) none pos.line X.env=pure false:=by rfl):DS X (.Expr (.Call (.Attribute (.Name x px) "extend" apos) [a] [] cpos) pos) (fun δ=>extO i (fa δ) δ):=
 ds_extend ha n.at' n.vis hbase hfew hline hs n.d1 n.d2 hsw
noncomputable def swB (sc scope:Scope) (t:Str) (l1 l2:Nat):Bool:=
 ((if sc.kind.isAnnotationScope then ScopeKind.function else sc.kind)==.function)&&sc.names.lookup t==some .local&&l1==l2&&!(scope.names.any fun(n,k)=>n==t&&(k==.local||k==.cell))
theorem swaps_comp {N:List Str}{sc scope:Scope}{c:Bool}{elt:Expr}{gens:List Comprehension}{pos':Pos}{l:Nat}(h:Has X N sc) (q:swB sc scope x pos'.line pos.line=c):
  swapsWith (.ListComp elt gens scope pos) (some (.Name x pos')) l X.env=pure c:=by
 subst q
 unfold swB
 rw[←h.sc]
 rfl
variable{elt tg iter:Expr}{ifs:List Expr}{scope:Scope}{bo:Bool}{fi:DEnv→Option (List D)}{τ:D→DEnv→Option DEnv}{ft:DEnv→Option Bool}{fe:DEnv→Option D}{bs:List Bool}
theorem lc_lookup {y:Str}{N:List Str}{sc:Scope}(h:Has X N sc) (b:decide (sc.names.lookup y=some .local)=true):X.env.scope.names.lookup y=some .local:=by rw[h.sc];exact of_decide_eq_true b
theorem ds_setc' {y:Str}{py spos:Pos}{N:List Str}{sc:Scope}(h:Has X N sc) (l:Lc X i y) (hτ:Anew τ) (hi:DI X false tg iter fi) (S:CompScope X scope bs)
  (hg:∀cl C s₂ H₂ ex pn,DG (ao X scope cl C s₂ H₂ ex pn) tg τ) (ht:∀cl C s₂ H₂ ex pn,DTs (ao X scope cl C s₂ H₂ ex pn) ifs ft) (he:∀cl C s₂ H₂ ex pn,DE (ao X scope cl C s₂ H₂ ex pn) false elt fe)
  (b1:decide (sc.names.lookup y=some .local)=true) (b2:swB sc scope y py.line pos.line=true)
  (hs:∀x,foldedSetIterable iter X.env x=pure x:=by intro _;rfl):DS X (.Assign [.Name y py] (.ListComp elt [⟨tg,iter,ifs,0⟩] scope pos) spos) (fun δ=>setF i (lstLim (ah (fi δ) (runC false bs τ ft fe δ))) δ):=
 ds_setc h.nd h.calm hτ hi S hg ht he l.at' (lc_lookup h b1) (swaps_comp h b2) hs
end
theorem hasX {P:Program}{w:World}{K:Frag}{mg:Str→Option Value}{base:Heap}{f:Addr}{cdv:Value}{A:Around}{outer:List Env}{s:Shared}{H:Hp}{E:XK}{N:List Str}{q:Str}{sc:Scope}(nd:N.Nodup):
  Has (cxOf CX0 P w K mg base N q sc f cdv A outer s H E).nox N sc:=⟨rfl,rfl,rfl,nd⟩
theorem spM_law {K:Frag}{H:Hp}{a:Addr}{ns:List Int}{f:List D→Option (D×Bool)}(hS:SqL K H a (ns.map V.int)) (h:f [.lst (ns.map D.int)]=some (.bl true,false)):
  spM K f [.ref a] H (fun v _=>v=.bl true) fun _ _ _=>False:=by
 have hr:Reps K (fun b=>∃o,H b=some o) H (ns.map D.int) (ns.map V.int):=by
  clear hS h
  induction ns with
  |nil=>exact Reps.nil
  |cons n ns ih=>exact Reps.cons (by simp only[Rep]) ih
 refine⟨fun b=>∃o,H b=some o,[.lst (ns.map D.int)],.bl true,false,fun _ h=>h,Reps.cons ?_ Reps.nil,h,fun v H' _ r=>?_⟩
 ·simp only[Rep]
  refine⟨a,_,rfl,?_,hr⟩
  rcases hS with(h1|⟨o,h1⟩)|h1
  ·exact .inl ⟨⟨_,h1⟩,h1⟩
  ·exact .inr (.inl ⟨o,h1⟩)
  ·exact .inr (.inr h1)
 ·unfold RepR at r
  rw[if_neg Bool.false_ne_true]at r
  simpa only[Rep]using r
end L2
namespace L2
open PySem
noncomputable def Ris (xs:List Nat):Prop:=xs.Pairwise (· < ·)
theorem Ris.at {xs:List Nat}(h:Ris xs) {i j:Nat}(hij:i<j) (hj:j<xs.length):xs[i]'(Nat.lt_trans hij hj)<xs[j]:=(List.pairwise_iff_getElem.mp h) i j (Nat.lt_trans hij hj) hj hij
theorem below_go {xs:Array Nat}(h:Ris xs.toList) (j:Nat):∀(fuel lo hi:Nat),hi - lo≤fuel→lo≤hi→hi≤xs.size→(∀i (hi':i<xs.size),i<lo→xs[i]<j)→(∀i (hi':i<xs.size),hi≤i→j≤xs[i])→
  (∀i (hi':i<xs.size),i<SetTable.below.go xs j fuel lo hi→xs[i]<j)∧(∀i (hi':i<xs.size),SetTable.below.go xs j fuel lo hi≤i→j≤xs[i])∧SetTable.below.go xs j fuel lo hi≤xs.size
 |0,lo,hi,h1,h2,h3,h4,h5=>by
  have:lo=hi:=by omega
  subst this
  exact⟨fun i hi' q=>h4 i hi' q,fun i hi' q=>h5 i hi' q,h3⟩
 |fuel+1,lo,hi,h1,h2,h3,h4,h5=>by
  unfold SetTable.below.go
  by_cases hl:lo<hi
  ·rw[if_pos hl]
   have hm1:(lo+hi) / 2<hi:=by omega
   have hm2:lo≤(lo+hi) / 2:=by omega
   have hm:(lo+hi) / 2<xs.size:=by omega
   have hg:xs.getD ((lo+hi) / 2) j=xs[(lo+hi) / 2]:=by simp[Array.getD,hm]
   dsimp only
   rw[hg]
   have mono:∀a b (ha:a<xs.size) (hb:b<xs.size),a≤b→xs[a]≤xs[b]:=fun a b ha hb hab=>by
    rcases Nat.lt_or_eq_of_le hab with q|q
    ·have:=Ris.at h q (by simpa using hb)
     simp only[Array.getElem_toList]at this
     omega
    ·subst q;exact Nat.le_refl _
   by_cases hq:xs[(lo+hi) / 2]<j
   ·rw[if_pos hq]
    refine below_go h j fuel ((lo+hi) / 2+1) hi (by omega) (by omega) h3 (fun i hi' q=>?_) h5
    exact Nat.lt_of_le_of_lt (mono i ((lo+hi) / 2) hi' hm (by omega)) hq
   ·rw[if_neg hq]
    refine below_go h j fuel lo ((lo+hi) / 2) (by omega) hm2 (by omega) h4 (fun i hi' q=>?_)
    exact Nat.le_trans (by omega) (mono ((lo+hi) / 2) i hm hi' q)
  ·rw[if_neg hl]
   have:lo=hi:=by omega
   subst this
   exact⟨fun i hi' q=>h4 i hi' q,fun i hi' q=>h5 i hi' q,h3⟩
theorem below_of {xs:Array Nat}(h:Ris xs.toList) (j:Nat):(∀i (hi':i<xs.size),i<SetTable.below xs j→xs[i]<j)∧(∀i (hi':i<xs.size),SetTable.below xs j≤i→j≤xs[i])∧SetTable.below xs j≤xs.size:=
 below_go h j xs.size 0 xs.size (by omega) (Nat.zero_le _) (Nat.le_refl _) (fun i _ q=>absurd q (Nat.not_lt_zero i)) fun i hi' q=>absurd q (by omega)
theorem below_at {xs:Array Nat}(h:Ris xs.toList) {i:Nat}(hi:i<xs.size):SetTable.below xs xs[i]=i:=by
 obtain⟨h1,h2,h3⟩:=below_of h xs[i]
 rcases Nat.lt_trichotomy (SetTable.below xs xs[i]) i with q|q|q
 ·have hb:SetTable.below xs xs[i]<xs.size:=by omega
  have:=h2 _ hb (Nat.le_refl _)
  have q2:=Ris.at h q (by simpa using hi)
  simp only[Array.getElem_toList]at q2
  omega
 ·exact q
 ·have:=h1 i hi q;omega
theorem below_succ {xs:Array Nat}(h:Ris xs.toList) {i:Nat}(hi:i<xs.size):SetTable.below xs (xs[i]+1)=i+1:=by
 obtain⟨h1,h2,h3⟩:=below_of h (xs[i]+1)
 rcases Nat.lt_trichotomy (SetTable.below xs (xs[i]+1)) (i+1)with q|q|q
 ·have:=h2 i hi (by omega);omega
 ·exact q
 ·have hb:i+1<xs.size:=by omega
  have:=h1 (i+1) hb q
  have q2:=Ris.at h (show i<i+1 by omega) (by simpa using hb)
  simp only[Array.getElem_toList]at q2
  omega
theorem ris_insert {xs:Array Nat}(h:Ris xs.toList) {j:Nat}(hj:∀i (hi:i<xs.size),xs[i]≠j):Ris (SetTable.insertAt xs (SetTable.below xs j) j).toList:=by
 obtain⟨h1,h2,h3⟩:=below_of h j
 rw[SetTable.toList_insertAt]
 generalize SetTable.below xs j=p at h1 h2 h3⊢
 unfold Ris
 rw[List.pairwise_append,List.pairwise_cons]
 have hx:=List.pairwise_iff_getElem.mp h
 have ht:∀a∈xs.toList.take p,a<j:=fun a ha=>by
  obtain⟨i,hi,rfl⟩:=List.mem_iff_getElem.mp ha
  rw[List.length_take]at hi
  rw[List.getElem_take]
  have hi2:i<xs.size:=by have:xs.toList.length=xs.size:=Array.length_toList;omega
  have:=h1 i hi2 (by omega)
  simpa using this
 have hd:∀a∈xs.toList.drop p,j<a:=fun a ha=>by
  obtain⟨i,hi,rfl⟩:=List.mem_iff_getElem.mp ha
  rw[List.length_drop]at hi
  rw[List.getElem_drop]
  have hi2:p+i<xs.size:=by have:xs.toList.length=xs.size:=Array.length_toList;omega
  have:=h2 (p+i) hi2 (by omega)
  have:=hj (p+i) hi2
  simp only[Array.getElem_toList]
  omega
 refine⟨h.sublist (List.take_sublist _ _),⟨hd,h.sublist (List.drop_sublist _ _)⟩,fun a ha b hb=>?_⟩
 rcases List.mem_cons.mp hb with rfl|hb
 ·exact ht a ha
 ·exact Nat.lt_trans (ht a ha) (hd b hb)
theorem slot_live {t:SetTable}(h:Ris t.place.toList) {i:Nat}(hi:i<t.place.size):t.slot t.place[i]=.live i:=by
 unfold SetTable.slot
 dsimp only
 rw[below_at h hi]
 simp[hi]
theorem slot_not {t:SetTable}(h:Ris t.place.toList) (hd:t.dummies=#[]) {j:Nat}(hj:∀i (hi:i<t.place.size),t.place[i]≠j):t.slot j=.empty:=by
 unfold SetTable.slot
 dsimp only
 have:(t.place[SetTable.below t.place j]?==some j)=false:=by
  cases q:t.place[SetTable.below t.place j]? with
  |none=>rfl
  |some v=>
   obtain⟨hi,e⟩:=Array.getElem?_eq_some_iff.mp q
   have:=hj _ hi
   rw[e]at this
   simpa using this
 rw[this,hd]
 simp[SetTable.has]
theorem slot_some {t:SetTable}{j i:Nat}(h:t.slot j=.live i):∃hi:i<t.place.size,t.place[i]=j:=by
 unfold SetTable.slot at h
 dsimp only at h
 split at h
 ·rename_i q
  cases h
  obtain⟨hi,e⟩:=Array.getElem?_eq_some_iff.mp (beq_iff_eq.mp q)
  exact⟨hi,e⟩
 ·split at h<;>cases h
end L2
namespace L2
open PySem
noncomputable def advN (t:SetTable):Nat→SetTable.Probe→SetTable.Probe
 |0,p=>p
 |n+1,p=>advN t n (t.advance p)
theorem advN_succ (t:SetTable) (n:Nat) (p:SetTable.Probe):advN t (n+1) p=t.advance (advN t n p):=by
 induction n generalizing p with
 |zero=>rfl
 |succ n ih=>show advN t (n+1) (t.advance p)=_;rw[ih];rfl
theorem advN_add (t:SetTable) (m n:Nat) (p:SetTable.Probe):advN t (m+n) p=advN t n (advN t m p):=by
 induction m generalizing p with
 |zero=>rw[Nat.zero_add];rfl
 |succ m ih=>rw[Nat.succ_add];show advN t (m+n) (t.advance p)=_;rw[ih];rfl
theorem adv_dummy (t:SetTable) (p:SetTable.Probe):(t.advance p).dummy=p.dummy:=by
 unfold SetTable.advance;split<;>rfl
theorem advN_dummy (t:SetTable) (n:Nat) (p:SetTable.Probe):(advN t n p).dummy=p.dummy:=by
 induction n generalizing p with
 |zero=>rfl
 |succ n ih=>show(advN t n (t.advance p)).dummy=_;rw[ih,adv_dummy]
theorem adv_mask {t u:SetTable}(h:t.mask=u.mask) (p:SetTable.Probe):t.advance p=u.advance p:=by
 unfold SetTable.advance;rw[h]
theorem advN_mask {t u:SetTable}(h:t.mask=u.mask) (n:Nat) (p:SetTable.Probe):advN t n p=advN u n p:=by
 induction n generalizing p with
 |zero=>rfl
 |succ n ih=>show advN t n (t.advance p)=advN u n (u.advance p);rw[adv_mask h,ih]
theorem start_mask {t u:SetTable}(h:t.mask=u.mask) (x:Int):t.probeStart x=u.probeStart x:=by
 unfold SetTable.probeStart;rw[h]
noncomputable def baseN (mask:Nat) (h:Int):Nat→Nat×Nat
 |0=>(SetTable.bits h%(mask+1),SetTable.bits h)
 |m+1=>SetTable.leap mask (baseN mask h m).1 (baseN mask h m).2
noncomputable def atBase (mask:Nat) (b:Nat×Nat):SetTable.Probe:={j:=b.1,more:=SetTable.runEnd mask b.1 - b.1,i:=b.1,perturb:=b.2,dummy:=none}
theorem run_le (mask i:Nat):SetTable.runEnd mask i - i≤9:=by unfold SetTable.runEnd;split<;>omega
theorem adv_more (t:SetTable):∀(k:Nat) (p:SetTable.Probe),k≤p.more→advN t k p={p with j:=p.j+k,more:=p.more - k}
 |0,p,_=>rfl
 |k+1,p,h=>by
  show advN t k (t.advance p)=_
  have:t.advance p={p with j:=p.j+1,more:=p.more - 1}:=by unfold SetTable.advance;rw[if_pos (by omega)]
  rw[this,adv_more t k _ (show k≤p.more - 1 by omega)]
  show SetTable.Probe.mk _ _ _ _ _=SetTable.Probe.mk _ _ _ _ _
  congr 1<;>(dsimp only;omega)
theorem adv_run (t:SetTable) (b:Nat×Nat):advN t (SetTable.runEnd t.mask b.1 - b.1+1) (atBase t.mask b)=atBase t.mask (SetTable.leap t.mask b.1 b.2):=by
 rw[advN_succ,adv_more t (SetTable.runEnd t.mask b.1 - b.1) _ (show SetTable.runEnd t.mask b.1 - b.1≤(atBase t.mask b).more from Nat.le_refl _)]
 unfold SetTable.advance atBase
 rw[if_neg (by dsimp only;omega)]
theorem at_base (t:SetTable) (h:Int):∀m:Nat,∃n,n≤10*m∧advN t n (t.probeStart h)=atBase t.mask (baseN t.mask h m)
 |0=>⟨0,Nat.le_refl _,rfl⟩
 |m+1=>by
  obtain⟨n,hn,e⟩:=at_base t h m
  have hr:=run_le t.mask (baseN t.mask h m).1
  refine⟨n+(SetTable.runEnd t.mask (baseN t.mask h m).1 - (baseN t.mask h m).1+1),by omega,?_⟩
  rw[advN_add,e,adv_run]
  rfl
theorem pert (mask:Nat) (h:Int):∀m,(baseN mask h m).2=SetTable.bits h / 32 ^ m
 |0=>by simp[baseN]
 |m+1=>by
  show(baseN mask h m).2 / 32=_
  rw[pert mask h m,Nat.div_div_eq_div_mul,Nat.pow_succ]
theorem bits_lt (h:Int):SetTable.bits h<2 ^ 64:=by unfold SetTable.bits;omega
theorem pert0 (mask:Nat) (h:Int) (m:Nat):(baseN mask h (13+m)).2=0:=by
 rw[pert]
 apply Nat.div_eq_of_lt
 refine Nat.lt_of_lt_of_le (bits_lt h) ?_
 rw[Nat.pow_add]
 exact Nat.le_trans (by decide:2 ^ 64≤32 ^ 13) (Nat.le_mul_of_pos_right _ (Nat.pow_pos (by decide)))
noncomputable def lcg (mask:Nat):Nat→Nat→Nat
 |0,x=>x
 |n+1,x=>(lcg mask n x*5+1)%(mask+1)
theorem base_lcg (mask:Nat) (h:Int) (m:Nat):(baseN mask h (13+m)).1=lcg mask m (baseN mask h 13).1:=by
 induction m with
 |zero=>rfl
 |succ m ih=>
  show(SetTable.leap mask (baseN mask h (13+m)).1 (baseN mask h (13+m)).2).1=(lcg mask m _*5+1)%(mask+1)
  rw[pert0,ih]
  rfl
theorem base_lt (mask:Nat) (h:Int):∀m,(baseN mask h m).1<mask+1
 |0=>Nat.mod_lt _ (Nat.succ_pos _)
 |m+1=>Nat.mod_lt _ (Nat.succ_pos _)
noncomputable def lcgs (mask:Nat):Nat→Nat→List Nat
 |0,_=>[]
 |n+1,x=>x::lcgs mask n ((x*5+1)%(mask+1))
theorem lcg_shift (mask:Nat):∀n x,lcg mask n ((x*5+1)%(mask+1))=lcg mask (n+1) x
 |0,x=>rfl
 |n+1,x=>by
  show(lcg mask n ((x*5+1)%(mask+1))*5+1)%(mask+1)=(lcg mask (n+1) x*5+1)%(mask+1)
  rw[lcg_shift mask n x]
theorem lcgs_mem {mask j:Nat}:∀{n x:Nat},j∈lcgs mask n x→∃k,k<n∧lcg mask k x=j
 |0,x,h=>by simp[lcgs]at h
 |n+1,x,h=>by
  rcases List.mem_cons.mp h with rfl|h
  ·exact⟨0,Nat.succ_pos _,rfl⟩
  ·obtain⟨k,hk,e⟩:=lcgs_mem h
   exact⟨k+1,Nat.succ_lt_succ hk,by rw[←lcg_shift];exact e⟩
theorem lcg_add (mask:Nat) (m n x:Nat):lcg mask (m+n) x=lcg mask m (lcg mask n x):=by
 induction m with
 |zero=>rw[Nat.zero_add];rfl
 |succ m ih=>rw[Nat.succ_add];show(lcg mask (m+n) x*5+1)%(mask+1)=(lcg mask m (lcg mask n x)*5+1)%(mask+1);rw[ih]
noncomputable def coversB (mask:Nat):Bool:=let l:=lcgs mask (mask+1) 0;((List.range (mask+1)).all fun j=>l.contains j)&&lcg mask (mask+1) 0==0
theorem cov7:coversB 7=true:=by decide +kernel
theorem cov31:coversB 31=true:=by decide +kernel
theorem cov127:coversB 127=true:=by decide +kernel
noncomputable def Msk (mask:Nat):Prop:=mask=7∨mask=31∨mask=127
theorem Msk.cov {mask:Nat}(h:Msk mask):coversB mask=true:=by
 rcases h with rfl|rfl|rfl
 ·exact cov7
 ·exact cov31
 ·exact cov127
theorem covered {mask x j:Nat}(h:Msk mask) (hx:x<mask+1) (hj:j<mask+1):∃n,n<mask+1∧lcg mask n x=j:=by
 have hc:=h.cov
 unfold coversB at hc
 dsimp only at hc
 rw[Bool.and_eq_true,beq_iff_eq]at hc
 have at0:∀y,y<mask+1→∃k,k<mask+1∧lcg mask k 0=y:=fun y hy=>lcgs_mem (List.contains_iff_mem.mp (List.all_eq_true.mp hc.1 y (List.mem_range.mpr hy)))
 obtain⟨k0,h0,e0⟩:=at0 x hx
 obtain⟨k1,h1,e1⟩:=at0 j hj
 by_cases hk:k0≤k1
 ·refine⟨k1 - k0,by omega,?_⟩
  rw[←e0,←lcg_add,Nat.sub_add_cancel hk,e1]
 ·refine⟨k1+(mask+1) - k0,by omega,?_⟩
  rw[←e0,←lcg_add,Nat.sub_add_cancel (by omega),lcg_add,hc.2,e1]
theorem reached {t:SetTable}(hm:Msk t.mask) (h:Int) {j:Nat}(hj:j<t.mask+1):∃n,n<10*SetTable.turns t.mask∧(advN t n (t.probeStart h)).j=j:=by
 obtain⟨k,hk,e⟩:=covered hm (base_lt t.mask h 13) hj
 obtain⟨n,hn,en⟩:=at_base t h (13+k)
 refine⟨n,by unfold SetTable.turns;omega,?_⟩
 rw[en]
 show(baseN t.mask h (13+k)).1=j
 rw[base_lcg,e]
theorem probe_go {t:SetTable}{hashAt:Nat→Int}{h:Int}:∀(n fuel:Nat) (p:SetTable.Probe),n<fuel→(∀m,m<n→∃i,t.slot (advN t m p).j=.live i∧(hashAt i==h)=false)→
  (t.slot (advN t n p).j=.empty→SetTable.probe.go t hashAt h fuel p=some (.empty (advN t n p).j (advN t n p).dummy))∧
  (∀i,t.slot (advN t n p).j=.live i→(hashAt i==h)=true→SetTable.probe.go t hashAt h fuel p=some (.candidate (advN t n p).j i (t.advance (advN t n p))))
 |0,fuel+1,p,_,_=>by
  refine⟨fun e=>?_,fun i e q=>?_⟩
  ·unfold SetTable.probe.go
   rw[show t.slot p.j=.empty from e]
   rfl
  ·unfold SetTable.probe.go
   rw[show t.slot p.j=.live i from e]
   dsimp only
   rw[if_pos q]
   rfl
 |n+1,fuel+1,p,hn,hm=>by
  obtain⟨i,e,q⟩:=hm 0 (Nat.succ_pos _)
  have ih:=probe_go (hashAt:=hashAt) (h:=h) n fuel (t.advance p) (by omega) fun m hm'=>hm (m+1) (by omega)
  have e0:SetTable.probe.go t hashAt h (fuel+1) p=SetTable.probe.go t hashAt h fuel (t.advance p):=by
   conv=>lhs;unfold SetTable.probe.go
   rw[show t.slot p.j=.live i from e]
   dsimp only
   rw[if_neg (by rw[q];exact Bool.false_ne_true)]
  rw[e0]
  exact ih
end L2
namespace L2
open PySem
noncomputable abbrev way (t:SetTable) (h:Int) (n:Nat):Nat:=(advN t n (t.probeStart h)).j
structure Tab (t:SetTable) (hs:List Int):Prop where
 msk:Msk t.mask
 dum:t.dummies=#[]
 len:t.place.size=hs.length
 ris:Ris t.place.toList
 le:∀j∈t.place.toList,j≤t.mask
 rch:∀(i:Nat) h j,hs[i]?=some h→t.place.toList[i]?=some j→∃n,n<10*SetTable.turns t.mask∧way t h n=j∧∀m,m<n→∃k,t.slot (way t h m)=.live k
theorem Tab.fresh (f m:Nat) (l:Bool):Tab (SetTable.fresh f m l) []:=by
 refine⟨.inl rfl,rfl,rfl,List.Pairwise.nil,fun j hj=>absurd hj (by simp[SetTable.fresh]),fun i h j e=>absurd e (by simp)⟩
theorem Tab.slots {t:SetTable}{hs:List Int}(T:Tab t hs) (j:Nat):t.slot j=.empty∨∃k,t.slot j=.live k:=by
 by_cases h:∃i,∃hi:i<t.place.size,t.place[i]=j
 ·obtain⟨i,hi,e⟩:=h
  exact .inr ⟨i,by rw[←e];exact slot_live T.ris hi⟩
 ·exact .inl (slot_not T.ris T.dum fun i hi e=>h ⟨i,hi,e⟩)
theorem gap:∀(n:Nat) (xs:List Nat),Ris xs→xs.length=n→∃j,j≤n∧j∉xs
 |n,xs,h,hl=>by
  by_cases q:∀i (hi:i<xs.length),xs[i]=i
  ·refine⟨n,Nat.le_refl _,fun m=>?_⟩
   obtain⟨i,hi,e⟩:=List.mem_iff_getElem.mp m
   rw[q i hi]at e
   omega
  ·have hex:∃i,∃hi:i<xs.length,xs[i]≠i:=by
    obtain⟨i,hi⟩:=Classical.not_forall.mp q
    obtain⟨hi,ne⟩:=Classical.not_forall.mp hi
    exact⟨i,hi,ne⟩
   obtain⟨i,⟨hi,ne⟩,hmin⟩:∃i,(∃hi:i<xs.length,xs[i]≠i)∧∀k,k<i→¬∃hk:k<xs.length,xs[k]≠k:=by
    obtain⟨i,hi⟩:=hex
    induction i using Nat.strongRecOn with
    |_ i ih=>
     by_cases z:∃k,k<i∧∃hk:k<xs.length,xs[k]≠k
     ·obtain⟨k,hk,hk2⟩:=z
      exact ih k hk hk2
     ·exact⟨i,hi,fun k hk hh=>z ⟨k,hk,hh⟩⟩
   have hlow:∀k (hk:k<xs.length),k<i→xs[k]=k:=fun k hk hki=>Classical.byContradiction fun z=>hmin k hki ⟨hk,z⟩
   have hgt:i<xs[i]:=by
    rcases Nat.lt_trichotomy i xs[i]with z|z|z
    ·exact z
    ·exact absurd z.symm ne
    ·have e1:=hlow xs[i] (by omega) z
     have e2:=Ris.at h z hi
     rw[e1]at e2
     omega
   refine⟨i,by omega,fun m=>?_⟩
   obtain⟨k,hk,e⟩:=List.mem_iff_getElem.mp m
   rcases Nat.lt_trichotomy k i with z|z|z
   ·have:=hlow k hk z;omega
   ·subst z;omega
   ·have:=Ris.at h z hk;omega
theorem least {P:Nat→Prop}{n:Nat}(h:P n):∃m,m≤n∧P m∧∀k,k<m→¬P k:=by
 induction n using Nat.strongRecOn with
 |_ n ih=>
  by_cases z:∃k,k<n∧P k
  ·obtain⟨k,hk,pk⟩:=z
   obtain⟨m,hm,r⟩:=ih k hk pk
   exact⟨m,by omega,r⟩
  ·exact⟨n,Nat.le_refl _,h,fun k hk pk=>z ⟨k,hk,pk⟩⟩
theorem Tab.free {t:SetTable}{hs:List Int}(T:Tab t hs) (hf:t.place.size≤t.mask) (h:Int):∃n,n<10*SetTable.turns t.mask∧t.slot (way t h n)=.empty∧∀m,m<n→∃k,t.slot (way t h m)=.live k:=by
 obtain⟨j,hj,nj⟩:=gap t.place.size t.place.toList T.ris (by simp)
 obtain⟨n,hn,e⟩:=reached T.msk h (show j<t.mask+1 by omega)
 have:t.slot (way t h n)=.empty:=by
  show t.slot (advN t n (t.probeStart h)).j=.empty
  rw[e]
  exact slot_not T.ris T.dum fun i hi q=>nj (by rw[←q];simp)
 obtain⟨m,hm,e1,e2⟩:=least (P:=fun n=>t.slot (way t h n)=.empty) this
 refine⟨m,by omega,e1,fun k hk=>?_⟩
 rcases T.slots (way t h k)with q|q
 ·exact absurd q (e2 k hk)
 ·exact q
theorem way_mask {t u:SetTable}(h:t.mask=u.mask) (x:Int) (n:Nat):way t x n=way u x n:=by
 unfold way;rw[start_mask h,advN_mask h]
theorem insertAt_len {α:Type}(xs:Array α) (p:Nat) (x:α):(SetTable.insertAt xs p x).size=xs.size+1:=by
 have:=(SetTable.insertAt_perm xs p x).length_eq
 simpa using this
theorem insat_get {α:Type}(l:List α) (x:α) {p:Nat}(hp:p≤l.length) (i:Nat):(l.take p++x::l.drop p)[i]?=if i<p then l[i]? else if i=p then some x else l[i - 1]?:=by
 by_cases h1:i<p
 ·rw[if_pos h1,List.getElem?_append_left (by rw[List.length_take];omega),List.getElem?_take_of_lt h1]
 ·rw[if_neg h1,List.getElem?_append_right (by rw[List.length_take];omega),List.length_take,Nat.min_eq_left hp]
  by_cases h2:i=p
  ·rw[if_pos h2,h2,Nat.sub_self];rfl
  ·rw[if_neg h2]
   obtain⟨d,rfl⟩:∃d,i=p+1+d:=⟨i - p - 1,by omega⟩
   rw[show p+1+d - p=d+1 by omega,List.getElem?_cons_succ,List.getElem?_drop]
   congr 1;omega
theorem Tab.put {t:SetTable}{hs:List Int}(T:Tab t hs) {h:Int}{n:Nat}(hn:n<10*SetTable.turns t.mask) (he:t.slot (way t h n)=.empty) (hw:∀m,m<n→∃k,t.slot (way t h m)=.live k) (hj:way t h n≤t.mask):
  Tab (t.put (way t h n)).1 (hs.take (t.put (way t h n)).2++h::hs.drop (t.put (way t h n)).2)∧(t.put (way t h n)).2≤hs.length:=by
 generalize hJ:way t h n=J at he hj⊢
 have nin:∀i (hi:i<t.place.size),t.place[i]≠J:=fun i hi q=>by
  rw[←q,slot_live T.ris hi]at he;cases he
 have hp:(t.put J).1.place=SetTable.insertAt t.place (SetTable.below t.place J) J:=rfl
 have h2:(t.put J).2=SetTable.below t.place J:=rfl
 have hpl:(t.put J).1.place.toList=t.place.toList.take (SetTable.below t.place J)++J::t.place.toList.drop (SetTable.below t.place J):=by rw[hp,SetTable.toList_insertAt]
 have hd:(t.put J).1.dummies=#[]:=by
  show(if SetTable.has t.dummies J then SetTable.eraseAt t.dummies (SetTable.below t.dummies J) else t.dummies)=#[]
  rw[T.dum]
  simp[SetTable.has]
 have hr:Ris (t.put J).1.place.toList:=by rw[hp];exact ris_insert T.ris nin
 have ble:=(below_of T.ris J).2.2
 have keep:∀j,(∃k,t.slot j=.live k)→∃k,(t.put J).1.slot j=.live k:=fun j ⟨k,hk⟩=>by
  obtain⟨hi,e⟩:=slot_some hk
  have:j∈(t.put J).1.place.toList:=by
   rw[hp];exact(SetTable.insertAt_perm _ _ _).mem_iff.mpr (by rw[←e];simp)
  obtain⟨i,hi,e⟩:=List.mem_iff_getElem.mp this
  have hi':i<(t.put J).1.place.size:=by simpa using hi
  exact⟨i,by rw[←e];simpa using slot_live hr hi'⟩
 have em:(t.put J).1.mask=t.mask:=rfl
 have hll:=T.len
 rw[h2]
 refine⟨⟨T.msk,hd,?_,hr,?_,?_⟩,by omega⟩
 ·rw[hp,insertAt_len]
  simp;omega
 ·intro j hj'
  rw[hp]at hj'
  have:=(SetTable.insertAt_perm _ _ _).mem_iff.mp hj'
  simp only[Array.toList_push,List.mem_append,List.mem_singleton]at this
  rcases this with q|q
  ·exact T.le j q
  ·rw[q];exact hj
 ·intro i h' j' e1 e2
  rw[hpl]at e2
  rw[insat_get _ _ (by rw[←hll];exact ble)]at e1
  rw[insat_get _ _ (by simpa using ble)]at e2
  have old:∀k,hs[k]?=some h'→t.place.toList[k]?=some j'→∃n,n<10*SetTable.turns (t.put J).1.mask∧way (t.put J).1 h' n=j'∧∀m,m<n→∃q,(t.put J).1.slot (way (t.put J).1 h' m)=.live q:=fun k q1 q2=>by
   obtain⟨n,a1,a2,a3⟩:=T.rch k h' j' q1 q2
   refine⟨n,a1,by rw[way_mask em];exact a2,fun m hm=>?_⟩
   rw[way_mask em]
   exact keep _ (a3 m hm)
  by_cases z1:i<SetTable.below t.place J
  ·rw[if_pos z1]at e1 e2
   exact old i e1 e2
  ·rw[if_neg z1]at e1 e2
   by_cases z2:i=SetTable.below t.place J
   ·rw[if_pos z2]at e1 e2
    cases e1;cases e2
    refine⟨n,hn,by rw[way_mask em];exact hJ,fun m hm=>?_⟩
    rw[way_mask em]
    exact keep _ (hw m hm)
   ·rw[if_neg z2]at e1 e2
    exact old (i - 1) e1 e2
end L2
namespace L2
open PySem
noncomputable abbrev dummyT (mask:Nat):SetTable:={mask:=mask,place:=#[],dummies:=#[],finger:=0,led:=true,moves:=0,plain:=true}
noncomputable abbrev wayM (mask:Nat) (h:Int) (n:Nat):Nat:=way (dummyT mask) h n
noncomputable def Own (o:Array (Option Nat)) (j:Nat):Prop:=∃k,o[j]?=some (some k)
theorem run_lt {mask i:Nat}(h:i<mask+1):SetTable.runEnd mask i<mask+1:=by unfold SetTable.runEnd;split<;>omega
theorem run_ge (mask i:Nat):i≤SetTable.runEnd mask i:=by unfold SetTable.runEnd;split<;>omega
theorem adv_in (mask:Nat) (b:Nat×Nat) (k:Nat) (hk:k≤SetTable.runEnd mask b.1 - b.1):(advN (dummyT mask) k (atBase mask b)).j=b.1+k:=by
 rw[adv_more (dummyT mask) k (atBase mask b) hk]
 rfl
theorem free_of {mask:Nat}{o:Array (Option Nat)}(hs:o.size=mask+1) (h:Int):∀(fuel m n:Nat),n≤10*m→advN (dummyT mask) n ((dummyT mask).probeStart h)=atBase mask (baseN mask h m)→(∀q,q<n→Own o (wayM mask h q))→
  (∃j n',SetTable.layClean.free mask o fuel (baseN mask h m).1 (baseN mask h m).2=some j∧n'<10*(m+fuel)∧wayM mask h n'=j∧o[j]?=some none∧∀q,q<n'→Own o (wayM mask h q))∨
  (SetTable.layClean.free mask o fuel (baseN mask h m).1 (baseN mask h m).2=none∧∀k,k<fuel→Own o (baseN mask h (m+k)).1)
 |0,m,n,_,_,_=>.inr ⟨rfl,fun k hk=>absurd hk (Nat.not_lt_zero k)⟩
 |fuel+1,m,n,hn,e,hq=>by
  have hb:=base_lt mask h m
  have hr:=run_lt hb
  have hg:=run_ge mask (baseN mask h m).1
  have h9:=run_le mask (baseN mask h m).1
  have inb:∀k,k≤SetTable.runEnd mask (baseN mask h m).1 - (baseN mask h m).1→wayM mask h (n+k)=(baseN mask h m).1+k:=fun k hk=>by
   show(advN (dummyT mask) (n+k) ((dummyT mask).probeStart h)).j=_
   rw[advN_add,e,adv_in mask _ k hk]
  have own:∀k,k≤SetTable.runEnd mask (baseN mask h m).1 - (baseN mask h m).1→(o.getD ((baseN mask h m).1+k) (some 0)).isNone=false→Own o ((baseN mask h m).1+k):=fun k hk q=>by
   have hlt:(baseN mask h m).1+k<o.size:=by omega
   have:o.getD ((baseN mask h m).1+k) (some 0)=o[(baseN mask h m).1+k]:=by simp[Array.getD,hlt]
   rw[this]at q
   cases z:o[(baseN mask h m).1+k]with
   |none=>rw[z]at q;cases q
   |some v=>exact⟨v,by rw[Array.getElem?_eq_getElem hlt,z]⟩
  unfold SetTable.layClean.free
  cases hf:(List.range (SetTable.runEnd mask (baseN mask h m).1+1 - (baseN mask h m).1)).find? fun k=>(o.getD ((baseN mask h m).1+k) (some 0)).isNone with
  |some k=>
   obtain⟨pk,as,bs,eab,hall⟩:=List.find?_eq_some_iff_append.mp hf
   have hkr:k<SetTable.runEnd mask (baseN mask h m).1+1 - (baseN mask h m).1:=List.mem_range.mp (by rw[eab];simp)
   have has:as.length=k:=by
    have h1:(List.range (SetTable.runEnd mask (baseN mask h m).1+1 - (baseN mask h m).1))[as.length]?=some k:=by rw[eab];simp
    have h2:=(List.getElem?_eq_some_iff.mp h1)
    obtain⟨hl,e2⟩:=h2
    simpa using e2
   have hlow:∀q,q<k→(o.getD ((baseN mask h m).1+q) (some 0)).isNone=false:=fun q hqk=>by
    have:q∈as:=by
     have h1:(List.range (SetTable.runEnd mask (baseN mask h m).1+1 - (baseN mask h m).1))[q]?=some q:=by rw[List.getElem?_range (by omega)]
     rw[eab,List.getElem?_append_left (by omega)]at h1
     exact List.mem_of_getElem? h1
    have:=hall q this
    rwa[Bool.not_eq_true']at this
   refine .inl ⟨(baseN mask h m).1+k,n+k,rfl,by omega,inb k (by omega),?_,fun q hqn=>?_⟩
   ·have hlt:(baseN mask h m).1+k<o.size:=by omega
    have e3:o.getD ((baseN mask h m).1+k) (some 0)=o[(baseN mask h m).1+k]:=by simp[Array.getD,hlt]
    rw[e3]at pk
    rw[Array.getElem?_eq_getElem hlt]
    cases z:o[(baseN mask h m).1+k]with
    |none=>rfl
    |some v=>rw[z]at pk;cases pk
   ·by_cases z:q<n
    ·exact hq q z
    ·obtain⟨d,rfl⟩:∃d,q=n+d:=⟨q - n,by omega⟩
     rw[inb d (by omega)]
     exact own d (by omega) (hlow d (by omega))
  |none=>
   dsimp only
   have hall:=List.find?_eq_none.mp hf
   have hown:∀k,k≤SetTable.runEnd mask (baseN mask h m).1 - (baseN mask h m).1→Own o ((baseN mask h m).1+k):=fun k hk=>own k hk (by
    have:=hall k (List.mem_range.mpr (by omega))
    exact Bool.not_eq_true _▸this)
   have hstep:advN (dummyT mask) (n+(SetTable.runEnd mask (baseN mask h m).1 - (baseN mask h m).1+1)) ((dummyT mask).probeStart h)=atBase mask (baseN mask h (m+1)):=by
    rw[advN_add,e]
    exact adv_run (dummyT mask) _
   have ih:=free_of hs h fuel (m+1) (n+(SetTable.runEnd mask (baseN mask h m).1 - (baseN mask h m).1+1)) (by omega) hstep fun q hqn=>by
    by_cases z:q<n
    ·exact hq q z
    ·obtain⟨d,rfl⟩:∃d,q=n+d:=⟨q - n,by omega⟩
     rw[inb d (by omega)]
     exact hown d (by omega)
   rcases ih with⟨j,n',a1,a2,a3,a4,a5⟩|⟨a1,a2⟩
   ·exact .inl ⟨j,n',a1,by omega,a3,a4,a5⟩
   ·refine .inr ⟨a1,fun k hk=>?_⟩
    cases k with
    |zero=>exact hown 0 (by omega)
    |succ k=>
     have:=a2 k (by omega)
     rwa[show m+(k+1)=m+1+k by omega]
theorem free_ok {mask:Nat}{o:Array (Option Nat)}(hm:Msk mask) (hs:o.size=mask+1) (h:Int) {j:Nat}(hj:j<mask+1) (hfree:o[j]?=some none):
  ∃J n,SetTable.layClean.free mask o (SetTable.turns mask) (SetTable.bits h%(mask+1)) (SetTable.bits h)=some J∧n<10*SetTable.turns mask∧wayM mask h n=J∧o[J]?=some none∧∀q,q<n→Own o (wayM mask h q):=by
 rcases free_of hs h (SetTable.turns mask) 0 0 (Nat.le_refl _) rfl (fun q hq=>absurd hq (Nat.not_lt_zero q))with⟨J,n,a1,a2,a3⟩|⟨a1,a2⟩
 ·exact⟨J,n,a1,by omega,a3⟩
 ·obtain⟨k,hk,e⟩:=covered hm (base_lt mask h 13) hj
  obtain⟨v,hv⟩:=a2 (13+k) (by unfold SetTable.turns;omega)
  rw[Nat.zero_add,base_lcg,e,hfree]at hv
  cases hv
end L2
namespace L2
open PySem
structure Lain (mask:Nat) (hs:List Int) (o:Array (Option Nat)):Prop where
 sz:o.size=mask+1
 cnt:o.toList.countP (·.isSome)=hs.length
 lt:∀(j:Nat) v,o[j]?=some (some v)→v<hs.length
 inj:∀(j j':Nat) v,o[j]?=some (some v)→o[j']?=some (some v)→j=j'
 at':∀(v:Nat) h,hs[v]?=some h→∃j n,o[j]?=some (some v)∧n<10*SetTable.turns mask∧wayM mask h n=j∧∀q,q<n→Own o (wayM mask h q)
theorem Lain.nil (mask:Nat):Lain mask [] (Array.replicate (mask+1) none):=by
 refine⟨by simp,?_,fun j v e=>?_,fun j j' v e=>?_,fun v h e=>by simp at e⟩
 ·simp
 ·rw[Array.getElem?_replicate]at e;split at e<;>cases e
 ·rw[Array.getElem?_replicate]at e;split at e<;>cases e
theorem Lain.hole {mask:Nat}{hs:List Int}{o:Array (Option Nat)}(L:Lain mask hs o) (h:hs.length≤mask):∃j,j<mask+1∧o[j]?=some none:=by
 apply Classical.byContradiction
 intro hn
 have:∀x∈o.toList,x.isSome=true:=fun x hx=>by
  obtain⟨i,hi,e⟩:=List.mem_iff_getElem.mp hx
  have hi':i<o.size:=by simpa using hi
  cases x with
  |some v=>rfl
  |none=>exact absurd ⟨i,by rw[←L.sz];exact hi',by rw[Array.getElem?_eq_getElem hi'];simpa using e⟩ hn
 have e:=List.countP_eq_length.mpr this
 have e2:=L.cnt
 have e3:=L.sz
 rw[e]at e2
 simp only[Array.length_toList]at e2
 omega
theorem Lain.step {mask:Nat}{hs:List Int}{o:Array (Option Nat)}(hm:Msk mask) (L:Lain mask hs o) (h:Int) (hl:hs.length≤mask):
  ∃J,SetTable.layClean.free mask o (SetTable.turns mask) (SetTable.bits h%(mask+1)) (SetTable.bits h)=some J∧Lain mask (hs++[h]) (o.setIfInBounds J (some hs.length)):=by
 obtain⟨j,hj,hf⟩:=L.hole hl
 obtain⟨J,n,a1,a2,a3,a4,a5⟩:=free_ok hm L.sz h hj hf
 obtain⟨hJ,eJ⟩:=Array.getElem?_eq_some_iff.mp a4
 have keep:∀(i:Nat),Own o i→Own (o.setIfInBounds J (some hs.length)) i:=fun i ⟨v,hv⟩=>by
  refine⟨v,?_⟩
  rw[Array.getElem?_setIfInBounds,if_neg (by intro e;rw[e,hv]at a4;cases a4)]
  exact hv
 have at0:(o.setIfInBounds J (some hs.length))[J]?=some (some hs.length):=by rw[Array.getElem?_setIfInBounds,if_pos rfl,if_pos hJ]
 have atn:∀i,i≠J→(o.setIfInBounds J (some hs.length))[i]?=o[i]?:=fun i hi=>by rw[Array.getElem?_setIfInBounds,if_neg (fun e=>hi e.symm)]
 refine⟨J,a1,⟨by simp[L.sz],?_,fun i v e=>?_,fun i i' v e e'=>?_,fun v h' e=>?_⟩⟩
 ·rw[Array.toList_setIfInBounds,List.countP_set (by simpa using hJ),L.cnt]
  have:o.toList[J]'(by simpa using hJ)=none:=by simpa using eJ
  rw[this]
  simp
 ·rw[List.length_append]
  by_cases z:i=J
  ·rw[z,at0]at e;cases e;simp
  ·rw[atn i z]at e
   have:=L.lt i v e
   simp;omega
 ·by_cases z:i=J<;>by_cases z':i'=J
  ·rw[z,z']
  ·rw[z,at0]at e;cases e
   rw[atn i' z']at e'
   exact absurd (L.lt i' _ e') (Nat.lt_irrefl _)
  ·rw[z',at0]at e';cases e'
   rw[atn i z]at e
   exact absurd (L.lt i _ e) (Nat.lt_irrefl _)
  ·rw[atn i z]at e
   rw[atn i' z']at e'
   exact L.inj i i' v e e'
 ·by_cases z:v<hs.length
  ·rw[List.getElem?_append_left z]at e
   obtain⟨j,n,b1,b2,b3,b4⟩:=L.at' v h' e
   refine⟨j,n,?_,b2,b3,fun q hq=>keep _ (b4 q hq)⟩
   rw[atn j (by intro e;rw[e,a4]at b1;cases b1)]
   exact b1
  ·have hv:v=hs.length:=by
    have:=(List.getElem?_eq_some_iff.mp e).1
    simp at this;omega
   subst hv
   simp at e
   subst e
   exact⟨J,n,at0,a2,a3,fun q hq=>keep _ (a5 q hq)⟩
theorem lay_fold {mask:Nat}(hm:Msk mask):∀(post pre:List Int) (o:Array (Option Nat)),Lain mask pre o→(pre++post).length≤mask→
  ∃o',post.foldl (fun(acc:Option (Array (Option Nat)×Nat)) h=>do
   let (owner,k) ←acc
   let j ←SetTable.layClean.free mask owner (SetTable.turns mask) (SetTable.bits h%(mask+1)) (SetTable.bits h)
   pure (owner.setIfInBounds j (some k),k+1)) (some (o,pre.length))=some (o',(pre++post).length)∧Lain mask (pre++post) o'
 |[],pre,o,L,_=>⟨o,by simp,by simpa using L⟩
 |h::post,pre,o,L,hl=>by
  rw[List.length_append,List.length_cons]at hl
  obtain⟨J,e,L1⟩:=L.step hm h (by omega)
  obtain⟨o',e',L'⟩:=lay_fold hm post (pre++[h]) _ L1 (by simp;omega)
  refine⟨o',?_,by simpa using L'⟩
  rw[List.foldl_cons]
  have:(do
   let (owner,k) ←some (o,pre.length)
   let j ←SetTable.layClean.free mask owner (SetTable.turns mask) (SetTable.bits h%(mask+1)) (SetTable.bits h)
   pure (owner.setIfInBounds j (some k),k+1))=some (o.setIfInBounds J (some pre.length),(pre++[h]).length):=by
   show(SetTable.layClean.free mask o (SetTable.turns mask) (SetTable.bits h%(mask+1)) (SetTable.bits h)).bind _=_
   rw[e]
   simp
  rw[this,e']
  simp
theorem lay_ok {mask:Nat}(hm:Msk mask) (hs:List Int) (hl:hs.length≤mask):∃o,SetTable.layClean mask hs.toArray=some o∧Lain mask hs o:=by
 obtain⟨o,e,L⟩:=lay_fold hm hs [] _ (Lain.nil mask) (by simpa using hl)
 refine⟨o,?_,by simpa using L⟩
 unfold SetTable.layClean
 rw[List.foldl_toArray]
 rw[show(some (Array.replicate (mask+1) (none:Option Nat),0))=some (Array.replicate (mask+1) none,([]:List Int).length) from rfl]
 rw[e]
 rfl
theorem live_fst {β:Type}(g:Nat→Option β):∀l:List Nat,(l.filterMap fun j=>(g j).map (j,·)).map (·.1)=l.filter fun j=>(g j).isSome
 |[]=>rfl
 |x::l=>by
  rw[List.filterMap_cons,List.filter_cons]
  cases e:g x with
  |none=>simpa using live_fst g l
  |some v=>simpa using live_fst g l
theorem live_snd {β:Type}(g:Nat→Option β):∀l:List Nat,(l.filterMap fun j=>(g j).map (j,·)).map (·.2)=l.filterMap g
 |[]=>rfl
 |x::l=>by
  rw[List.filterMap_cons,List.filterMap_cons]
  cases e:g x with
  |none=>simpa using live_snd g l
  |some v=>simpa using live_snd g l
theorem laid_ok {mask:Nat}(hm:Msk mask) (hs:List Int) (hl:hs.length≤mask) (finger moves:Nat) (led plain:Bool):∃t order,SetTable.laid mask finger moves led plain hs.toArray=some (t,order)∧
  order.toList.Perm (List.range hs.length)∧Tab t (order.toList.map fun i=>hs.getD i 0)∧t.mask=mask∧t.led=led∧t.plain=plain∧t.place.size=hs.length:=by
 obtain⟨o,e,L⟩:=lay_ok hm hs hl
 unfold SetTable.laid
 rw[e]
 refine⟨_,_,rfl,?_⟩
 dsimp only
 have gd:∀j v,o.getD j none=some v↔o[j]?=some (some v):=fun j v=>by
  unfold Array.getD
  by_cases h:j<o.size
  ·simp[h]
  ·simp[h]
 generalize hlive:((List.range (mask+1)).filterMap fun j=>(o.getD j none).map (j,·))=live
 have hf:live.map (·.1)=(List.range (mask+1)).filter fun j=>(o.getD j none).isSome:=by rw[←hlive];exact live_fst (fun j=>o.getD j none) _
 have hsn:live.map (·.2)=(List.range (mask+1)).filterMap fun j=>o.getD j none:=by rw[←hlive];exact live_snd (fun j=>o.getD j none) _
 have mem:∀j v,(j,v)∈live↔o[j]?=some (some v):=fun j v=>by
  rw[←hlive,List.mem_filterMap]
  constructor
  ·rintro⟨i,_,h⟩
   cases q:o.getD i none with
   |none=>rw[q]at h;cases h
   |some u=>rw[q]at h;simp at h;rw[←h.1,←h.2];exact(gd i u).mp q
  ·intro h
   refine⟨j,List.mem_range.mpr ?_,by rw[(gd j v).mpr h];rfl⟩
   have:=(Array.getElem?_eq_some_iff.mp h).1
   rw[L.sz]at this;exact this
 have nd:(live.map (·.2)).Nodup:=by
  rw[hsn]
  unfold List.Nodup
  rw[List.pairwise_filterMap]
  refine List.Pairwise.imp ?_ (List.nodup_range (n:=mask+1))
  intro a b hab x hx y hy hxy
  subst hxy
  exact hab (L.inj a b x ((gd a x).mp hx) ((gd b x).mp hy))
 have perm:(live.map (·.2)).Perm (List.range hs.length):=by
  refine(List.perm_ext_iff_of_nodup nd List.nodup_range).mpr fun v=>?_
  rw[List.mem_range]
  constructor
  ·intro h
   obtain⟨⟨j,u⟩,hp,rfl⟩:=List.mem_map.mp h
   exact L.lt j u ((mem j u).mp hp)
  ·intro h
   obtain⟨j,n,a1,_⟩:=L.at' v hs[v] (by simp[h])
   exact List.mem_map.mpr ⟨(j,v),(mem j v).mpr a1,rfl⟩
 have ris:Ris (live.map (·.1)):=by
  rw[hf]
  exact List.Pairwise.filter _ (List.pairwise_lt_range (n:=mask+1))
 have llen:live.length=hs.length:=by have:=perm.length_eq;simpa using this
 refine⟨by simpa using perm,⟨hm,rfl,?_,by simpa using ris,?_,?_⟩,rfl,rfl,rfl,by simpa using llen⟩
 ·simp
 ·intro j hj
  have:j∈live.map (·.1):=by simpa using hj
  rw[hf]at this
  have:=List.mem_range.mp (List.mem_filter.mp this).1
  show j≤mask
  omega
 ·intro i h j e1 e2
  have e2:(live.map (·.1))[i]?=some j:=by simpa using e2
  have e1:((live.map (·.2)).map fun i=>hs.getD i 0)[i]?=some h:=by simpa using e1
  obtain⟨⟨j',v⟩,hp,rfl⟩:∃p,live[i]?=some p∧p.1=j:=by
   rw[List.getElem?_map]at e2
   cases q:live[i]? with
   |none=>rw[q]at e2;cases e2
   |some p=>rw[q]at e2;cases e2;exact⟨p,rfl,rfl⟩
  have ho:=(mem j' v).mp (List.mem_of_getElem? hp)
  have hv:=L.lt j' v ho
  have eh:h=hs[v]:=by
   rw[List.getElem?_map,List.getElem?_map,hp]at e1
   simp[hv]at e1
   exact e1.symm
  subst eh
  obtain⟨j2,n,b1,b2,b3,b4⟩:=L.at' v hs[v] (by simp[hv])
  have:j2=j':=L.inj j2 j' v b1 ho
  subst this
  refine⟨n,b2,?_,fun m hm'=>?_⟩
  ·exact(way_mask (t:={mask:=mask,place:=(live.map (·.1)).toArray,dummies:=#[],finger:=finger,led:=led,moves:=moves,plain:=plain}) (u:=dummyT mask) rfl _ _).trans b3
  ·rw[way_mask (t:={mask:=mask,place:=(live.map (·.1)).toArray,dummies:=#[],finger:=finger,led:=led,moves:=moves,plain:=plain}) (u:=dummyT mask) rfl]
   obtain⟨u,hu⟩:=b4 m hm'
   have hmem:wayM mask hs[v] m∈live.map (·.1):=List.mem_map.mpr ⟨(_,u),(mem _ u).mpr hu,rfl⟩
   obtain⟨k,hk,ek⟩:=List.mem_iff_getElem.mp hmem
   refine⟨k,?_⟩
   have hk2:k<((live.map (·.1)).toArray).size:=by simpa using hk
   have:=slot_live (t:={mask:=mask,place:=(live.map (·.1)).toArray,dummies:=#[],finger:=finger,led:=led,moves:=moves,plain:=plain}) (by simpa using ris) hk2
   have ek2:((live.map (·.1)).toArray)[k]=way (dummyT mask) hs[v] m:=by simpa using ek
   rw[←ek2]
   exact this
end L2
namespace L2
open PySem PySem.Spec PyProof.Rows
section
variable{X:Cx}{pins:List (Addr×Obj)}{σ:St}{H:Hp}{s:Shared}{B:Addr→Prop}
theorem hash_D (I:Inv X pins σ H s):∀(n:Nat) (d:D) (x:V) (u:Value) (A:Around) (tk:Nat) (Q:Int→Shared→Prop) (E:Value→Shared→Prop),hasH n d=true→A.units+2*n+2<cLine→Rep X.K B H d x→RelV x u→
  (∀t',tk≤t'→Q (hashD X.w d) {s with toks:=t'})→wpAny (model X.prog X.w) A (pyHash u) Q E {s with toks:=tk}:=by
 intro n
 induction n using Nat.strongRecOn with
 |ind n ih=>
 intro d x u A tk Q E hd hA rd rx hQ
 cases d with
 |int i=>
  simp only[Rep]at rd;subst rd;obtain⟨t,rfl⟩:=rx
  simp only[hashD]at hQ
  exact wpAny_pyHash_int (hQ _ (Nat.le_succ _))
 |str i=>
  simp only[Rep]at rd;subst rd;obtain⟨t,rfl⟩:=rx
  simp only[hashD]at hQ
  exact wpAny_pyHash_str (hQ _ (Nat.le_succ _))
 |tup ds=>
  simp only[Rep]at rd;obtain⟨a,xs,rfl,hp,hr⟩:=rd;cases rx
  obtain⟨k,rfl,hd'⟩:=hasH_tup hd
  obtain⟨its,rv,hta,_⟩:=I.tuple (SqT.of hp)
  obtain⟨o,ho,hc,m,hdat⟩:=hta
  have hT:Shared.TypeIs {s with toks:=tk} (.ref a) "tuple":=⟨o,ho,hc⟩
  unfold pyHash
  unfold pyHashByItsType
  refine wpAny_bind (wpAny_cRoomFor_or (.inr (by omega)) ?_)
  refine wpAny_bind (wpAny_specialOf hT F.slot_tuple_hash.lookup ?_)
  show wpAny _ _ (if(some (Value.builtin "tuple.__hash__")==some Value.none)=true then _ else _) Q E _
  rw[if_neg (by rw[beq_builtin_none];exact Bool.false_ne_true)]
  refine wpAny_bind (wpAny_specialOf hT F.slot_tuple_hash.lookup ?_)
  show wpAny _ _ (callSpecialIfBoundUnlessNone? (.ref a) "__hash__" _ >>= _) Q E _
  refine wpAny_bind (wpAny_callSpecialIfBoundUnlessNone?_slot hT F.slot_tuple_hash (wpAny_call_entry F.slot_tuple_hash hT F.entry_tuple_hash ?_ (F.args_tuple_hash_1 _)))
  show wpAny _ _ (Builtin.Tuple.tupleItemsOf (.ref a) >>= _) _ _ _
  refine wpAny_bind (wpAny_tupleItemsOf ho hdat ?_)
  refine wpAny_bind ?_
  rw[←Array.forIn_toList]
  refine wpAny_forIn_list _
   (fun rest (b:Array Int) s'=>∃done left,ds=done++left∧(∃ys,Reps X.K B H left ys∧Vals ys rest)∧b.toList=done.map (hashD X.w)∧∃t',tk≤t'∧s'={s with toks:=t'})
   _ ?_ ?_ _ _ ⟨[],ds,rfl,⟨xs,hr,by simpa using rv⟩,rfl,tk,Nat.le_refl _,rfl⟩
  ·rintro v rest b s' ⟨done,left,rfl,⟨ys,hl,hv⟩,hb,t',ht',rfl⟩
   cases left with
   |nil=>simp only[Reps]at hl;subst hl;cases hv
   |cons d' left'=>
    cases hv with
    | @cons y _ ys' _ h1 hv'=>
    obtain⟨r1,r2⟩:=hl.uncons
    have hd1:hasH k d'=true:=by
     rw[List.all_append,Bool.and_eq_true,List.all_cons,Bool.and_eq_true]at hd';exact hd'.2.1
    refine wpAny_bind (ih k (by omega) d' y v _ t' _ _ hd1 ?_ r1 h1 fun t2 ht2=>?_)
    ·show A.units+1+2*k+2<cLine;omega
    ·first
      |exact wpAny_pure ⟨done++[d'],left',by simp,⟨ys',r2,hv'⟩,by simp[hb],t2,Nat.le_trans ht' ht2,rfl⟩
      |exact wpAny_bind (wpAny_pure (wpAny_pure ⟨done++[d'],left',by simp,⟨ys',r2,hv'⟩,by simp[hb],t2,Nat.le_trans ht' ht2,rfl⟩))
  ·rintro b s' ⟨done,left,rfl,⟨ys,hl,hv⟩,hb,t',ht',rfl⟩
   cases hv
   have hleft:left=[]:=by
    have:=hl.length
    cases left with
    |nil=>rfl
    |cons _ _=>simp at this
   subst hleft
   rw[List.append_nil]at hQ
   simp only[hashD,hashDs_map]at hQ
   show wpAny _ _ (retInt (Builtin.Tuple.tupleHashOf b.toList)) _ _ _
   rw[hb]
   refine wpAny_ret_mkInt ?_
   show wpAny _ _ (if(decide (-(2:Int) ^ 63≤Builtin.Tuple.tupleHashOf (done.map (hashD X.w)))&&decide (Builtin.Tuple.tupleHashOf (done.map (hashD X.w))<2 ^ 63))=true then _ else _) Q E _
   unfold reduceHash at hQ
   by_cases hr:(decide (-(2:Int) ^ 63≤Builtin.Tuple.tupleHashOf (done.map (hashD X.w)))&&decide (Builtin.Tuple.tupleHashOf (done.map (hashD X.w))<2 ^ 63))=true
   ·rw[if_pos hr]
    rw[if_pos hr]at hQ
    exact wpAny_pure (hQ _ (by first|exact ht'|exact Nat.le_succ_of_le ht'))
   ·rw[if_neg hr]
    rw[if_neg hr]at hQ
    exact wpAny_bind (wpAny_rule (wpAny_pure (hQ _ (by first|exact ht'|exact Nat.le_succ_of_le ht'))))
 |non=>simp[hasH]at hd
 |bl _=>simp[hasH]at hd
 |lst _=>simp[hasH]at hd
 |dT _ _=>simp[hasH]at hd
 |dK _ _=>simp[hasH]at hd
 |dD _ _=>simp[hasH]at hd
 |sp _ _=>simp[hasH]at hd
end
end L2
namespace L2
open PySem PySem.Spec PyProof.Rows
section
variable{X:Cx}{pins:List (Addr×Obj)}{σ:St}{H:Hp}{s:Shared}{B:Addr→Prop}
theorem quiet_D (I:Inv X pins σ H s):∀(n:Nat) (d:D) (x:V) (u:Value) (A:Around) (Q:Bool→Shared→Prop) (E:Value→Shared→Prop),hasH n d=true→Rep X.K B H d x→RelV x u→
  Q true s→wpAny (model X.prog X.w) A (eqIsQuiet n u) Q E s:=by
 intro n
 induction n using Nat.strongRecOn with
 |ind n ih=>
 intro d x u A Q E hd rd rx hQ
 cases d with
 |int i=>simp only[Rep]at rd;subst rd;obtain⟨t,rfl⟩:=rx;unfold eqIsQuiet;exact wpAny_pure hQ
 |str i=>simp only[Rep]at rd;subst rd;obtain⟨t,rfl⟩:=rx;unfold eqIsQuiet;exact wpAny_pure hQ
 |tup ds=>
  simp only[Rep]at rd;obtain⟨a,xs,rfl,hp,hr⟩:=rd;cases rx
  obtain⟨k,rfl,hd'⟩:=hasH_tup hd
  obtain⟨its,rv,hta,_⟩:=I.tuple (SqT.of hp)
  obtain⟨o,ho,hc,m,hdat⟩:=hta
  have hT:s.TypeIs (.ref a) "tuple":=⟨o,ho,hc⟩
  unfold eqIsQuiet
  refine wpAny_bind (wpAny_specialOf hT F.slot_tuple_eq.lookup ?_)
  dsimp only
  refine wpAny_bind (wpAny_isInstance hT isSubtype_tuple_tuple ?_)
  simp only[Bool.not_true,Bool.false_eq_true,if_false]
  refine wpAny_bind (wpAny_seqItems ho hdat ?_)
  refine wpAny_bind ?_
  simp only[Option.getD_some]
  rw[←Array.forIn_toList]
  refine wpAny_forIn_list _
   (fun rest b s'=>b.1=none∧s'=s∧∃left ys,left.all (hasH k)=true∧Reps X.K B H left ys∧Vals ys rest)
   _ ?_ ?_ _ _ ⟨rfl,rfl,ds,xs,hd',hr,by simpa using rv⟩
  ·rintro v rest b s' ⟨hb,rfl,left,ys,hall,hl,hv⟩
   cases left with
   |nil=>simp only[Reps]at hl;subst hl;cases hv
   |cons d' left'=>
    cases hv with
    | @cons y _ ys' _ h1 hv'=>
    obtain⟨r1,r2⟩:=hl.uncons
    rw[List.all_cons,Bool.and_eq_true]at hall
    refine wpAny_bind (ih k (by omega) d' y v _ _ _ hall.1 r1 h1 ?_)
    simp only[Bool.not_true,Bool.false_eq_true,if_false]
    exact wpAny_pure ⟨rfl,rfl,left',ys',hall.2,r2,hv'⟩
  ·rintro⟨b1,b2⟩ s' ⟨hb,rfl,_⟩
   simp only at hb;subst hb
   exact wpAny_pure hQ
 |non=>simp[hasH]at hd
 |bl _=>simp[hasH]at hd
 |lst _=>simp[hasH]at hd
 |dT _ _=>simp[hasH]at hd
 |dK _ _=>simp[hasH]at hd
 |dD _ _=>simp[hasH]at hd
 |sp _ _=>simp[hasH]at hd
theorem plain_D (I:Inv X pins σ H s):∀(n:Nat) (d:D) (x:V) (u:Value) (A:Around) (Q:Bool→Shared→Prop) (E:Value→Shared→Prop),hasH n d=true→Rep X.K B H d x→RelV x u→
  Q false s→wpAny (model X.prog X.w) A (ofAClassStatement n u) Q E s:=by
 intro n
 induction n using Nat.strongRecOn with
 |ind n ih=>
 intro d x u A Q E hd rd rx hQ
 cases d with
 |int i=>simp only[Rep]at rd;subst rd;obtain⟨t,rfl⟩:=rx;unfold ofAClassStatement;exact wpAny_pure hQ
 |str i=>simp only[Rep]at rd;subst rd;obtain⟨t,rfl⟩:=rx;unfold ofAClassStatement;exact wpAny_pure hQ
 |tup ds=>
  simp only[Rep]at rd;obtain⟨a,xs,rfl,hp,hr⟩:=rd;cases rx
  obtain⟨k,rfl,hd'⟩:=hasH_tup hd
  obtain⟨its,rv,hta,_⟩:=I.tuple (SqT.of hp)
  obtain⟨o,ho,hc,m,hdat⟩:=hta
  have hT:s.TypeIs (.ref a) "tuple":=⟨o,ho,hc⟩
  unfold ofAClassStatement
  refine wpAny_bind (wpAny_typeOf hT ?_)
  dsimp only
  rw[if_pos (by decide)]
  refine wpAny_bind (wpAny_pure ?_)
  simp only[Bool.not_true,Bool.false_eq_true,if_false]
  refine wpAny_bind (wpAny_seqItems ho hdat ?_)
  dsimp only
  refine wpAny_bind ?_
  rw[←Array.forIn_toList]
  refine wpAny_forIn_list _
   (fun rest b s'=>b.1=none∧s'=s∧∃left ys,left.all (hasH k)=true∧Reps X.K B H left ys∧Vals ys rest)
   _ ?_ ?_ _ _ ⟨rfl,rfl,ds,xs,hd',hr,by simpa using rv⟩
  ·rintro v rest b s' ⟨hb,rfl,left,ys,hall,hl,hv⟩
   cases left with
   |nil=>simp only[Reps]at hl;subst hl;cases hv
   |cons d' left'=>
    cases hv with
    | @cons y _ ys' _ h1 hv'=>
    obtain⟨r1,r2⟩:=hl.uncons
    rw[List.all_cons,Bool.and_eq_true]at hall
    refine wpAny_bind (ih k (by omega) d' y v _ _ _ hall.1 r1 h1 ?_)
    simp only[Bool.false_eq_true,if_false]
    exact wpAny_pure ⟨rfl,rfl,left',ys',hall.2,r2,hv'⟩
  ·rintro⟨b1,b2⟩ s' ⟨hb,rfl,_⟩
   simp only at hb;subst hb
   exact wpAny_pure hQ
 |non=>simp[hasH]at hd
 |bl _=>simp[hasH]at hd
 |lst _=>simp[hasH]at hd
 |dT _ _=>simp[hasH]at hd
 |dK _ _=>simp[hasH]at hd
 |dD _ _=>simp[hasH]at hd
 |sp _ _=>simp[hasH]at hd
theorem byVal_D (I:Inv X pins σ H s):∀(n:Nat) (d:D) (x:V) (u:Value) (A:Around) (Q:Bool→Shared→Prop) (E:Value→Shared→Prop),hasH n d=true→Rep X.K B H d x→RelV x u→
  (∀b,Q b s)→wpAny (model X.prog X.w) A (hashByValue n u) Q E s:=by
 intro n
 induction n using Nat.strongRecOn with
 |ind n ih=>
 intro d x u A Q E hd rd rx hQ
 cases d with
 |int i=>simp only[Rep]at rd;subst rd;obtain⟨t,rfl⟩:=rx;unfold hashByValue;exact wpAny_pure (hQ _)
 |str i=>simp only[Rep]at rd;subst rd;obtain⟨t,rfl⟩:=rx;unfold hashByValue;exact wpAny_pure (hQ _)
 |tup ds=>
  simp only[Rep]at rd;obtain⟨a,xs,rfl,hp,hr⟩:=rd;cases rx
  obtain⟨k,rfl,hd'⟩:=hasH_tup hd
  obtain⟨its,rv,hta,_⟩:=I.tuple (SqT.of hp)
  obtain⟨o,ho,hc,m,hdat⟩:=hta
  have hT:s.TypeIs (.ref a) "tuple":=⟨o,ho,hc⟩
  unfold hashByValue
  refine wpAny_bind (wpAny_specialOf hT F.slot_tuple_hash.lookup ?_)
  dsimp only
  refine wpAny_bind (wpAny_seqItems ho hdat ?_)
  refine wpAny_bind ?_
  simp only[Option.getD_some]
  rw[←Array.forIn_toList]
  refine wpAny_forIn_list _
   (fun rest b s'=>s'=s∧∃left ys,left.all (hasH k)=true∧Reps X.K B H left ys∧Vals ys rest)
   _ ?_ ?_ _ _ ⟨rfl,ds,xs,hd',hr,by simpa using rv⟩
  ·rintro v rest b s' ⟨rfl,left,ys,hall,hl,hv⟩
   cases left with
   |nil=>simp only[Reps]at hl;subst hl;cases hv
   |cons d' left'=>
    cases hv with
    | @cons y _ ys' _ h1 hv'=>
    obtain⟨r1,r2⟩:=hl.uncons
    rw[List.all_cons,Bool.and_eq_true]at hall
    refine wpAny_bind (ih k (by omega) d' y v _ _ _ hall.1 r1 h1 fun b=>?_)
    cases b with
    |true=>
     simp only[Bool.not_true,Bool.false_eq_true,if_false]
     exact wpAny_pure ⟨rfl,left',ys',hall.2,r2,hv'⟩
    |false=>
     simp only[Bool.not_false,if_true]
     exact wpAny_pure (by first|exact wpAny_pure (hQ _)|exact hQ _|exact rfl)
  ·rintro⟨b1,b2⟩ s' ⟨rfl,_⟩
   cases b1 with
   |none=>exact wpAny_pure (hQ _)
   |some b=>exact wpAny_pure (hQ _)
 |non=>simp[hasH]at hd
 |bl _=>simp[hasH]at hd
 |lst _=>simp[hasH]at hd
 |dT _ _=>simp[hasH]at hd
 |dK _ _=>simp[hasH]at hd
 |dD _ _=>simp[hasH]at hd
 |sp _ _=>simp[hasH]at hd
end
end L2
namespace L2
open PySem PySem.Spec PyProof.Rows
theorem Tab.fits {t:SetTable}{hs:List Int}(T:Tab t hs) (hf:t.place.size≤t.mask):t.fits hs.length=true:=by
 unfold SetTable.fits SetTable.fill
 rw[T.dum,T.len]
 rw[T.len]at hf
 simp[hf]
theorem Tab.odd {t:SetTable}{hs:List Int}(T:Tab t hs):t.gaveWay=false:=by
 unfold SetTable.gaveWay
 rcases T.msk with h|h|h<;>rw[h]<;>rfl
section
variable{prog:Program}{w:World}{A:Around}{E:Value→Shared→Prop}{s:Shared}{a:Addr}{o:Obj}{es:List (Int×Value)}{ep:Nat}{t:SetTable}{x:Value}{hx:Int}
theorem search_from (ho:s.heap.get? a=some o) (hd:o.data=.set es.toArray ep t) (T:Tab t (es.map (·.1))) (hf:t.place.size≤t.mask) (eqb:Value→Bool) (hrefs:∀e∈es,∃b,e.2=.ref b)
  (heq:∀e∈es,e.1=hx→SeqAt.EqAt A s e.2 x (eqb e.2)) (hquiet:∀l:List Value,(∀y∈l,∃e∈es,e.2=y)→∀Q:Bool→Shared→Prop,Q false s→wpAny (model prog w) A (searchCouldBeSeen x l) Q E s)
  {Q:SetFound→Shared→Prop}{N:Nat}(hN:N<10*SetTable.turns t.mask) (hw:∀m,m<N→∃k,t.slot (way t hx m)=.live k)
  (hend:(t.slot (way t hx N)=.empty∧(∀e∈es,e.1=hx→eqb e.2=false)∧Q (.free (way t hx N) false) s)∨(∃i e,t.slot (way t hx N)=.live i∧es[i]?=some e∧e.1=hx∧eqb e.2=true)∧Q (.there none) s)
  (hthere:(∃e∈es,e.1=hx∧eqb e.2=true)→Q (.there none) s):
  ∀(fuel m:Nat) (st:Option SetTable.Probe),m≤N→N - m<fuel→st.getD (t.probeStart hx)=advN t m (t.probeStart hx)→wpAny (model prog w) A (setSearchFrom a x hx true fuel st) Q E s:=by
 intro fuel
 induction fuel with
 |zero=>intro m st _ h;exact absurd h (Nat.not_lt_zero _)
 |succ fuel ih=>
  intro m st hm hfu hst
  have hfit:t.fits es.toArray.size=true:=by simpa using T.fits hf
  unfold setSearchFrom
  refine wpAny_bind (wpAny_setState_of ho hd hfit ?_)
  dsimp only
  rw[T.odd]
  simp only[Bool.false_eq_true,if_false]
  rw[hst]
  let hashAt:Nat→Int:=fun i=>(es.toArray[i]?.map (·.1)).getD 0
  have hat:∀i e,es[i]?=some e→hashAt i=e.1:=fun i e h=>by show(es.toArray[i]?.map (·.1)).getD 0=_;simp[h]
  have tellsN:t.slot (way t hx N)=.empty∨∃i,t.slot (way t hx N)=.live i∧(hashAt i==hx)=true:=by
   rcases hend with⟨h,_⟩|⟨⟨i,e,h1,h2,h3,_⟩,_⟩
   ·exact .inl h
   ·exact .inr ⟨i,h1,by rw[hat i e h2,h3];exact beq_self_eq_true _⟩
  obtain⟨n,hn,tell,before⟩:=least (P:=fun k=>t.slot (way t hx (m+k))=.empty∨∃i,t.slot (way t hx (m+k))=.live i∧(hashAt i==hx)=true) (n:=N - m) (by rw[show m+(N - m)=N by omega];exact tellsN)
  have hadd:∀k,(advN t k (advN t m (t.probeStart hx))).j=way t hx (m+k):=fun k=>by rw[←advN_add]
  have live:∀k,k<n→∃i,t.slot (way t hx (m+k))=.live i:=fun k hk=>hw (m+k) (by omega)
  obtain⟨go1,go2⟩:=probe_go (t:=t) (hashAt:=hashAt) (h:=hx) n (10*SetTable.turns t.mask) (advN t m (t.probeStart hx)) (by omega) fun k hk=>by
   obtain⟨i,hi⟩:=live k hk
   refine⟨i,by rw[hadd];exact hi,?_⟩
   cases q:(hashAt i==hx)with
   |false=>rfl
   |true=>exact absurd (.inr ⟨i,hi,q⟩) (before k hk)
  rw[hadd]at go1 go2
  have dum0:(advN t n (advN t m (t.probeStart hx))).dummy=none:=by rw[advN_dummy,advN_dummy];rfl
  rw[dum0]at go1
  rcases tell with te|⟨i,ti,hi⟩
  ·-- an empty one:it is the last
   have hnN:m+n=N:=by
    rcases Nat.lt_or_ge (m+n) N with z|z
    ·obtain⟨k,hk⟩:=hw (m+n) z;rw[te]at hk;cases hk
    ·omega
   have hp:∀f:Nat→Int,f=hashAt→t.probe f hx (advN t m (t.probeStart hx))=some (.empty (way t hx (m+n)) none):=fun f e=>by rw[e];exact go1 te
   rw[hp]
   rotate_left
   ·rfl
   dsimp only
   rcases hend with⟨_,_,h⟩|⟨⟨i,e,h1,_⟩,_⟩
   ·rw[hnN];exact wpAny_pure h
   ·rw[←hnN,te]at h1;cases h1
  ·have hp:∀f:Nat→Int,f=hashAt→t.probe f hx (advN t m (t.probeStart hx))=some (.candidate (way t hx (m+n)) i (t.advance (advN t n (advN t m (t.probeStart hx))))):=fun f e=>by rw[e];exact go2 i ti hi
   rw[hp]
   rotate_left
   ·rfl
   dsimp only
   obtain⟨hil,hpl⟩:=slot_some ti
   have hie:i<es.length:=by have:=T.len;simp at this;omega
   have hes:es[i]?=some es[i]:=by simp[hie]
   have hh:es[i].1=hx:=by
    have:=hat i _ hes
    rw[this]at hi
    exact beq_iff_eq.mp hi
   have hmem:es[i]∈es:=List.getElem_mem hie
   obtain⟨b,hb⟩:=hrefs _ hmem
   have tail:wpAny (model prog w) A (do
     let some (_,y):=es.toArray[i]?|unsupported "internal:set-entry"
     let equal ←holding [y] (eqBool y x)
     let (es',_,t') ←setState a
     if true&&equal then return .there none
     let some same:=t'.sameMemory t.moves t.mask|unsupported "set.changed-during-lookup:is-the-new-block-at-the-old-address"
     let still ←match(if same then t'.slot (way t hx (m+n)) else .empty)with
      |.live i'=>match es'[i']? with
       |some (_,y')=>do pure (if ←isSame y' y then some i' else none)
       |none=>pure none
      |_=>pure none
     match still with
     |none=>rule "set.search.anew";setSearchFrom a x hx true fuel none
     |some i'=>if equal then return .there (some i') else setSearchFrom a x hx true fuel (some (t.advance (advN t n (advN t m (t.probeStart hx)))))) Q E s:=by
    have e1:es.toArray[i]?=some es[i]:=by simp[hie]
    rw[e1]
    dsimp only
    refine wpAny_bind (wpAny_holding (heq _ hmem hh _ _ _ _ ?_))
    refine wpAny_bind (wpAny_setState_of ho hd hfit ?_)
    dsimp only
    cases hq:eqb es[i].2 with
    |true=>
     simp only[Bool.and_true,if_true]
     exact wpAny_pure (hthere ⟨_,hmem,hh,hq⟩)
    |false=>
     simp only[Bool.and_false,Bool.false_eq_true,if_false]
     have sm:t.sameMemory t.moves t.mask=some true:=by unfold SetTable.sameMemory;rw[if_pos (beq_self_eq_true _)]
     rw[sm]
     dsimp only
     simp only[if_true]
     rw[ti]
     dsimp only
     rw[e1]
     dsimp only
     rw[hb]
     have e3:isSame (.ref b) (.ref b)=pure true:=by unfold isSame;dsimp only;rw[if_pos (beq_self_eq_true _)]
     rw[e3]
     refine wpAny_bind (wpAny_pure (wpAny_bind (wpAny_pure ?_)))
     simp only[if_true,Bool.false_eq_true,if_false]
     ·have h1:m+n+1≤N:=by
       rcases Nat.lt_or_ge (m+n) N with z|z
       ·omega
       ·have zN:m+n=N:=by omega
        rcases hend with⟨h,_⟩|⟨⟨i',e,h1,h2,h3,h4⟩,_⟩
        ·rw[←zN,ti]at h;cases h
        ·rw[←zN,ti]at h1
         cases h1
         rw[hes]at h2;cases h2
         rw[hq]at h4;cases h4
      refine ih (m+n+1) _ h1 (by omega) ?_
      ·show t.advance (advN t n (advN t m (t.probeStart hx)))=_
       rw[←advN_add,advN_succ]
   cases hled:t.led with
   |true=>
    simp only[Bool.not_true,Bool.false_eq_true,if_false]
    exact tail
   |false=>
    simp only[Bool.not_false,if_true]
    refine wpAny_bind (hquiet _ (fun y hy=>?_) _ ?_)
    ·obtain⟨e,he,rfl⟩:=List.mem_map.mp hy
     refine⟨e,?_,rfl⟩
     have:e∈(es.toArray.filter fun z=>z.1==hx).toList:=he
     simp at this
     exact this.1
    ·simp only[Bool.false_eq_true,if_false]
     exact tail
end
end L2
namespace L2
open PySem PySem.Spec PyProof.Rows
noncomputable def SetAt (h:Heap) (a:Addr) (es:List (Int×Value)) (led:Bool):Prop:=
 ∃o ep t,h.get? a=some o∧o.ExactSet∧o.data=.set es.toArray ep t∧Tab t (es.map (·.1))∧t.place.size*5<t.mask*3∧t.led=led
theorem Tab.plain {t:SetTable}{hs:List Int}(T:Tab t hs) (b:Bool):Tab {t with plain:=b} hs:=by
 refine⟨T.msk,T.dum,T.len,T.ris,T.le,fun i h j e1 e2=>?_⟩
 obtain⟨n,a1,a2,a3⟩:=T.rch i h j e1 e2
 refine⟨n,a1,(way_mask (t:={t with plain:=b}) (u:=t) rfl _ _).trans a2,fun m hm=>?_⟩
 rw[way_mask (t:={t with plain:=b}) (u:=t) rfl]
 exact a3 m hm
theorem order_es {es:List (Int×Value)}{order:List Nat}(h:order.Perm (List.range es.length)):(order.filterMap (es[·]?)).Perm es∧(order.filterMap (es[·]?)).map (·.1)=order.map fun i=>(es.map (·.1)).getD i 0:=by
 refine⟨?_,?_⟩
 ·have h1:=h.filterMap (es[·]?)
  rw[List.filterMap_getElem?_range_length]at h1
  exact h1
 ·have hl:∀i∈order,i<es.length:=fun i hi=>List.mem_range.mp (h.mem_iff.mp hi)
  clear h
  induction order with
  |nil=>rfl
  |cons i order ih=>
   have hi:=hl i (List.mem_cons_self ..)
   rw[List.filterMap_cons,List.map_cons]
   simp only[List.getElem?_eq_getElem hi,List.map_cons]
   rw[ih fun k hk=>hl k (List.mem_cons_of_mem _ hk)]
   simp[hi]
section
variable{prog:Program}{w:World}{A:Around}{E:Value→Shared→Prop}{s:Shared}{a:Addr}
theorem relay_eq (a:Addr) (wanted:Nat):setRelay a wanted=(do
  let (es,_,t) ←setState a
  if SetTable.sizeAbove wanted>sizeLine then unsupported "set:memory"
  let (es,t) ←(do
   let some (t,order):=t.relaid (es.map (·.1)) wanted|unsupported "internal:set-table-without-room"
   let es':=order.filterMap (es[·]?)
   if es'.size != es.size then unsupported "internal:set-table-lost-an-element"
   pure (es',t))
  storeSet a es t):=rfl
theorem set_store {h:Heap}{o:Obj}{es es':Array (Int×Value)}{ep:Nat}{t t':SetTable}(ho:h.get? a=some o) (hd:o.data=.set es ep t):(h.update a (Obj.putSet es' t')).get? a=some {o with data:=.set es' (ep+1) t'}:=by
 have:=Heap.get?_update_self (Obj.putSet es' t') ho (by rw[putSet_of es' t' hd];rfl)
 rw[putSet_of es' t' hd]at this;exact this
theorem adv_le {t:SetTable}{p:SetTable.Probe}(h:p.j+p.more≤t.mask):(t.advance p).j+(t.advance p).more≤t.mask:=by
 unfold SetTable.advance
 split
 ·dsimp only;omega
 ·unfold SetTable.leap
  dsimp only
  have h1:(p.i*5+1+p.perturb / 32)%(t.mask+1)<t.mask+1:=Nat.mod_lt _ (Nat.succ_pos _)
  have:=run_lt h1
  have:=run_ge t.mask ((p.i*5+1+p.perturb / 32)%(t.mask+1))
  omega
theorem at_way (t:SetTable) (hx:Int) (n:Nat):∃m,m≤t.mask∧way t hx n=m:=by
 have:∀n,(advN t n (t.probeStart hx)).j+(advN t n (t.probeStart hx)).more≤t.mask:=fun n=>by
  induction n with
  |zero=>
   show(t.probeStart hx).j+(t.probeStart hx).more≤t.mask
   unfold SetTable.probeStart
   dsimp only
   have h1:SetTable.bits hx%(t.mask+1)<t.mask+1:=Nat.mod_lt _ (Nat.succ_pos _)
   have:=run_lt h1
   have:=run_ge t.mask (SetTable.bits hx%(t.mask+1))
   omega
  |succ n ih=>rw[advN_succ];exact adv_le ih
 exact⟨_,by have:=this n;show(advN t n (t.probeStart hx)).j≤t.mask;omega,rfl⟩
theorem relay_ok {o:Obj}{es:List (Int×Value)}{ep:Nat}{t:SetTable}{wanted mask':Nat}{Q:Unit→Shared→Prop}(ho:s.heap.get? a=some o) (hex:o.ExactSet) (hd:o.data=.set es.toArray ep t) (T:Tab t (es.map (·.1))) (hf:t.place.size≤t.mask)
  (hw:SetTable.sizeAbove wanted=mask'+1) (hm:Msk mask') (hfew:es.length*5<mask'*3)
  (h:∀es' t',es'.Perm es→SetAt (s.heap.update a (Obj.putSet es'.toArray t')) a es' t.led→Q () {s with heap:=s.heap.update a (Obj.putSet es'.toArray t')}):
  wpAny (model prog w) A (setRelay a wanted) Q E s:=by
 have hsz:mask'≤127:=by rcases hm with h|h|h<;>omega
 have hel:es.length≤mask':=by omega
 obtain⟨t',order,e1,e2,e3,e4,e5,e6,e7⟩:=laid_ok hm (es.map (·.1)) (by simpa using hel) t.finger (t.movedTo (SetTable.sizeAbove wanted - 1)) t.led t.plain
 rw[List.length_map]at e2 e7
 obtain⟨p1,p2⟩:=order_es e2
 rw[relay_eq]
 have hfit:t.fits es.toArray.size=true:=by simpa using T.fits hf
 refine wpAny_bind (wpAny_setState_of ho hd hfit ?_)
 dsimp only
 rw[if_neg (by rw[hw,sizeLine_eq];omega)]
 have er:t.relaid (es.toArray.map (·.1)) wanted=some (t',order):=by
  unfold SetTable.relaid
  rw[List.map_toArray,hw,Nat.add_sub_cancel]
  rw[hw,Nat.add_sub_cancel]at e1
  exact e1
 rw[er]
 dsimp only
 have es':(order.filterMap (es.toArray[·]?)).toList=order.toList.filterMap (es[·]?):=by simp
 have el:(order.filterMap (es.toArray[·]?))=(order.toList.filterMap (es[·]?)).toArray:=by rw[←es']
 rw[el]
 have hlen:(order.toList.filterMap (es[·]?)).length=es.length:=p1.length_eq
 have hne:((order.toList.filterMap (es[·]?)).toArray.size != es.toArray.size)=false:=by simp[hlen]
 rw[hne]
 simp only[Bool.false_eq_true,if_false]
 refine wpAny_bind (wpAny_pure ?_)
 dsimp only
 refine wpAny_storeSet_of ho hd ?_ (by rw[sizeLine_eq];simp[hlen];omega)
 refine h _ t' p1 ?_
 exact⟨_,ep+1,t',set_store ho hd,hex,rfl,by rw[p2];exact e3,by rw[e7,e4];exact hfew,e5⟩
theorem add_tail {o:Obj}{es:List (Int×Value)}{ep:Nat}{t:SetTable}{x:Value}{hx:Int}{n:Nat}{Q:Bool→Shared→Prop}(ho:s.heap.get? a=some o) (hex:o.ExactSet) (hd:o.data=.set es.toArray ep t) (T:Tab t (es.map (·.1)))
  (hf:t.place.size*5<t.mask*3) (h75:es.length≤75) (hn:n<10*SetTable.turns t.mask) (he:t.slot (way t hx n)=.empty) (hw:∀m,m<n→∃k,t.slot (way t hx m)=.live k)
  (hbv:∀R:Bool→Shared→Prop,(∀b,R b s)→wpAny (model prog w) A (hashByValue 8 x) R E s) {J:Nat}(hJ:way t hx n=J)
  (h:∀h' es',Heap.SameBut a s.heap h'→es'.Perm ((hx,x)::es)→SetAt h' a es' t.led→Q true {s with heap:=h'}):
  wpAny (model prog w) A (do
   let (es,_,t) ←setState a
   let (t,p):=t.put J
   let byValue ←if t.plain then hashByValue 8 x else pure true
   let t:=if byValue then t else{t with plain:=false}
   storeSet a (SetTable.insertAt es p (hx,x)) t
   if !false&&t.tooFull then setRelay a (SetTable.grown (es.size+1))
   return true) Q E s:=by
 subst hJ
 have hl:=T.len
 rw[List.length_map]at hl
 have hfit:t.fits es.toArray.size=true:=by simpa using T.fits (by omega)
 refine wpAny_bind (wpAny_setState_of ho hd hfit ?_)
 dsimp only
 have hjm:way t hx n≤t.mask:=by
  obtain⟨m,hm,e⟩:=at_way t hx n
  omega
 obtain⟨T1,hp⟩:=T.put hn he hw hjm
 rw[List.length_map]at hp
 generalize ht1:(t.put (way t hx n)).1=t1 at T1⊢
 generalize hp1:(t.put (way t hx n)).2=p at T1 hp⊢
 have hm1:t1.mask=t.mask:=by rw[←ht1];rfl
 have hl1:t1.led=t.led:=by rw[←ht1];rfl
 have ei:SetTable.insertAt es.toArray p (hx,x)=(es.take p++(hx,x)::es.drop p).toArray:=by
  apply Array.ext'
  rw[SetTable.toList_insertAt]
 have emap:(es.take p++(hx,x)::es.drop p).map (·.1)=(es.map (·.1)).take p++hx::(es.map (·.1)).drop p:=by
  rw[List.map_append,List.map_cons,List.map_take,List.map_drop]
 have eperm:(es.take p++(hx,x)::es.drop p).Perm ((hx,x)::es):=by
  have:=List.perm_middle (a:=(hx,x)) (l₁:=es.take p) (l₂:=es.drop p)
  rwa[List.take_append_drop]at this
 have elen:(es.take p++(hx,x)::es.drop p).length=es.length+1:=eperm.length_eq
 rw[←emap]at T1
 rw[ei]
 generalize hes1:es.take p++(hx,x)::es.drop p=es1 at T1 eperm elen⊢
 have core:∀b:Bool,wpAny (model prog w) A (do
   storeSet a es1.toArray (if b=true then t1 else{t1 with plain:=false})
   if(!false&&(if b=true then t1 else{t1 with plain:=false}).tooFull)=true then do
     setRelay a (SetTable.grown (es.toArray.size+1))
     pure true
    else pure true) Q E s:=fun b=>by
  have Tb:Tab (if b=true then t1 else{t1 with plain:=false}) (es1.map (·.1)):=by
   cases b with
   |true=>exact T1
   |false=>exact T1.plain false
  have mb:(if b=true then t1 else{t1 with plain:=false}).mask=t.mask:=by cases b<;>exact hm1
  have lb:(if b=true then t1 else{t1 with plain:=false}).led=t.led:=by cases b<;>exact hl1
  generalize (if b=true then t1 else{t1 with plain:=false})=tb at Tb mb lb⊢
  have plb:=Tb.len
  rw[List.length_map]at plb
  refine wpAny_bind (wpAny_storeSet_of ho hd ?_ (by rw[sizeLine_eq];simp[elen];omega))
  have hst:=set_store (es':=es1.toArray) (t':=tb) ho hd
  have hsb:Heap.SameBut a s.heap (s.heap.update a (Obj.putSet es1.toArray tb)):=Heap.SameBut.update s.heap a _
  have tf:tb.tooFull=decide (tb.place.size*5≥tb.mask*3):=by
   unfold SetTable.tooFull SetTable.fill
   rw[Tb.dum]
   rfl
  cases hfull:tb.tooFull with
  |false=>
   simp only[Bool.not_false,Bool.and_false,Bool.false_eq_true,if_false]
   rw[hfull]at tf
   have:=of_decide_eq_false tf.symm
   exact wpAny_pure (h _ es1 hsb eperm ⟨_,ep+1,tb,hst,hex,rfl,Tb,by omega,lb⟩)
  |true=>
   simp only[Bool.not_false,Bool.and_true,if_true]
   rw[hfull]at tf
   have hge:=of_decide_eq_true tf.symm
   have hsz:es.toArray.size=es.length:=by simp
   rw[hsz]
   have go:∀wanted mask',SetTable.grown (es.length+1)=wanted→SetTable.sizeAbove wanted=mask'+1→Msk mask'→es1.length*5<mask'*3→
     wpAny (model prog w) A (do setRelay a (SetTable.grown (es.length+1));pure true) Q E {s with heap:=s.heap.update a (Obj.putSet es1.toArray tb)}:=fun wanted mask' e1 e2 e3 e4=>by
    rw[e1]
    refine wpAny_bind (relay_ok (s:={s with heap:=s.heap.update a (Obj.putSet es1.toArray tb)}) (o:={o with data:=.set es1.toArray (ep+1) tb}) hst hex rfl Tb (by omega) e2 e3 e4 fun es2 t2 p2 S2=>?_)
    rw[lb]at S2
    exact wpAny_pure (h _ es2 (hsb.trans (Heap.SameBut.update _ a _)) (p2.trans eperm) S2)
   rcases T.msk with z|z|z
   ·have:es.length=4:=by omega
    exact go 20 31 (by rw[this];rfl) (by decide) (.inr (.inl rfl)) (by omega)
   ·have:es.length=18:=by omega
    exact go 76 127 (by rw[this];rfl) (by decide) (.inr (.inr rfl)) (by omega)
   ·omega
 cases hpl:t1.plain with
 |true=>
  simp only[if_true]
  exact wpAny_bind (hbv _ fun b=>core b)
 |false=>
  simp only[Bool.false_eq_true,if_false]
  exact wpAny_bind (wpAny_pure (core true))
end
end L2
namespace L2
open PySem PySem.Spec PyProof.Rows
section
variable{prog:Program}{w:World}{A:Around}{E:Value→Shared→Prop}{s:Shared}{a:Addr}
theorem add_ref {es:List (Int×Value)}{led:Bool}{b:Addr}{hx:Int}{Q:Bool→Shared→Prop}(S:SetAt s.heap a es led) (h75:es.length≤75) (eqb:Value→Bool) (hrefs:∀e∈es,∃b,e.2=.ref b)
  (heq:∀e∈es,e.1=hx→SeqAt.EqAt A s e.2 (.ref b) (eqb e.2)) (himp:∀e∈es,eqb e.2=true→e.1=hx)
  (hquiet:∀l:List Value,(∀y∈l,∃e∈es,e.2=y)→∀Q:Bool→Shared→Prop,Q false s→wpAny (model prog w) A (searchCouldBeSeen (.ref b) l) Q E s)
  (hbv:∀R:Bool→Shared→Prop,(∀b,R b s)→wpAny (model prog w) A (hashByValue 8 (.ref b)) R E s)
  (h1:(∃e∈es,eqb e.2=true)→Q false s)
  (h2:(∀e∈es,eqb e.2=false)→∀h' es',Heap.SameBut a s.heap h'→es'.Perm ((hx,.ref b)::es)→SetAt h' a es' led→Q true {s with heap:=h'}):
  wpAny (model prog w) A (setAddHashed a (.ref b) hx) Q E s:=by
 obtain⟨o,ep,t,ho,hex,hd,T,hf,hled⟩:=S
 have hl:=T.len
 rw[List.length_map]at hl
 have hfm:t.place.size≤t.mask:=by omega
 have hfit:t.fits es.toArray.size=true:=by simpa using T.fits hfm
 unfold setAddHashed setAddHashedIn
 refine wpAny_holding (wpAny_bind (wpAny_setState_of ho hd hfit ?_))
 dsimp only
 have hbs:byScan (.ref b) es.toArray=false:=by unfold byScan Value.scannable;rfl
 rw[hbs]
 simp only[Bool.false_eq_true,if_false]
 unfold setSearch
 by_cases hyes:∃e∈es,eqb e.2=true
 ·obtain⟨e,hem,heb⟩:=hyes
  obtain⟨i,hi,rfl⟩:=List.mem_iff_getElem.mp hem
  have hh:=himp _ hem heb
  have hip:i<t.place.size:=by omega
  obtain⟨N,n1,n2,n3⟩:=T.rch i es[i].1 t.place[i] (by simp[hi]) (by simp[hip])
  rw[hh]at n2 n3
  refine wpAny_bind (search_from ho hd T hfm eqb hrefs heq hquiet n1 n3 (.inr ⟨⟨i,es[i],by rw[n2];exact slot_live T.ris hip,by simp[hi],hh,heb⟩,?_⟩) (fun _=>?_) 100000 0 none (Nat.zero_le _) ?_ rfl)
  ·exact wpAny_pure (h1 ⟨_,hem,heb⟩)
  ·exact wpAny_pure (h1 ⟨_,hem,heb⟩)
  ·have:SetTable.turns t.mask≤142:=by unfold SetTable.turns;rcases T.msk with z|z|z<;>omega
   omega
 ·have hno:∀e∈es,eqb e.2=false:=fun e he=>by
   cases q:eqb e.2 with
   |false=>rfl
   |true=>exact absurd ⟨e,he,q⟩ hyes
  obtain⟨N,n1,n2,n3⟩:=T.free hfm hx
  refine wpAny_bind (search_from ho hd T hfm eqb hrefs heq hquiet n1 n3 (.inl ⟨n2,fun e he _=>hno e he,?_⟩) (fun⟨e,he,_,q⟩=>absurd ⟨e,he,q⟩ hyes) 100000 0 none (Nat.zero_le _) ?_ rfl)
  ·exact add_tail ho hex hd T hf h75 n1 n2 n3 hbv rfl fun h' es' k p S'=>h2 hno h' es' k p (hled▸S')
  ·have:SetTable.turns t.mask≤142:=by unfold SetTable.turns;rcases T.msk with z|z|z<;>omega
   omega
theorem freeSlot_eq {t:SetTable}{hs:List Int}(T:Tab t hs) {hx:Int}{n:Nat}(hn:n<10*SetTable.turns t.mask) (he:t.slot (way t hx n)=.empty) (hw:∀m,m<n→∃k,t.slot (way t hx m)=.live k):
  t.freeSlot hx=some (way t hx n,false):=by
 unfold SetTable.freeSlot
 have:=(probe_go (t:=t) (hashAt:=fun _=>hx+1) (h:=hx) n (10*SetTable.turns t.mask) (t.probeStart hx) hn fun m hm=>by
  obtain⟨k,hk⟩:=hw m hm
  refine⟨k,hk,?_⟩
  simp only[beq_eq_false_iff_ne,ne_eq]
  omega).1 he
 have e:t.probe (fun _=>hx+1) hx (t.probeStart hx)=some (.empty (way t hx n) none):=by
  unfold SetTable.probe
  rw[this,advN_dummy]
  rfl
 rw[e]
 rfl
theorem add_scan {es:List (Int×Value)}{led:Bool}{k:Key}{x:Value}{Q:Bool→Shared→Prop}(S:SetAt s.heap a es led) (h75:es.length≤75) (hkey:(mixKind prog w).is k x=true) (hsc:x.scannable=true) (hel:ElemsOf (mixKind prog w) es)
  (h1:(∃e∈es,(mixKind prog w).is k e.2=true)→Q false s)
  (h2:(∀e∈es,(mixKind prog w).is k e.2=false)→∀h' es',Heap.SameBut a s.heap h'→es'.Perm (((mixKind prog w).hash k,x)::es)→SetAt h' a es' led→Q true {s with heap:=h'}):
  wpAny (model prog w) A (setAddHashed a x ((mixKind prog w).hash k)) Q E s:=by
 obtain⟨o,ep,t,ho,hex,hd,T,hf,hled⟩:=S
 have hl:=T.len
 rw[List.length_map]at hl
 have hfm:t.place.size≤t.mask:=by omega
 have hfit:t.fits es.toArray.size=true:=by simpa using T.fits hfm
 have hel':ElemsOf (mixKind prog w) es.toArray.toList:=by simpa using hel
 unfold setAddHashed setAddHashedIn
 refine wpAny_holding (wpAny_bind (wpAny_setState_of ho hd hfit ?_))
 dsimp only
 rw[byScan_of hsc (by unfold scanBound;simp;omega) hel']
 simp only[↓reduceIte]
 unfold setAddByScan
 refine wpAny_bind ?_
 refine wpAny_bind (wpAny_rule ?_)
 refine wpAny_bind (wpAny_setScan_of hkey ho hd hfit hel' ?_)
 cases hr:List.findIdx? (fun e=>(mixKind prog w).is k e.2) es.toArray.toList with
 |some j=>
  dsimp only
  obtain⟨hj,hpj,_⟩:=List.findIdx?_eq_some_iff_getElem.mp hr
  refine wpAny_pure (wpAny_pure (h1 ⟨es[j]'(by simpa using hj),List.getElem_mem _,by simpa using hpj⟩))
 |none=>
  dsimp only
  have hno:∀e∈es,(mixKind prog w).is k e.2=false:=fun e he=>List.findIdx?_eq_none_iff.mp hr e (by simpa using he)
  obtain⟨n,n1,n2,n3⟩:=T.free hfm ((mixKind prog w).hash k)
  generalize hhx:(mixKind prog w).hash k=hx at n1 n2 n3 h2⊢
  have hjm:way t hx n≤t.mask:=by obtain⟨m,hm,e⟩:=at_way t hx n;omega
  obtain⟨T1,hp⟩:=T.put n1 n2 n3 hjm
  rw[List.length_map]at hp
  generalize ht1:(t.put (way t hx n)).1=t1 at T1
  generalize hp1:(t.put (way t hx n)).2=p at T1 hp
  have hm1:t1.mask=t.mask:=by rw[←ht1];rfl
  have hl1:t1.led=t.led:=by rw[←ht1];rfl
  have ei:SetTable.insertAt es.toArray p (hx,x)=(es.take p++(hx,x)::es.drop p).toArray:=by
   apply Array.ext'
   rw[SetTable.toList_insertAt]
  have emap:(es.take p++(hx,x)::es.drop p).map (·.1)=(es.map (·.1)).take p++hx::(es.map (·.1)).drop p:=by
   rw[List.map_append,List.map_cons,List.map_take,List.map_drop]
  have eperm:(es.take p++(hx,x)::es.drop p).Perm ((hx,x)::es):=by
   have:=List.perm_middle (a:=(hx,x)) (l₁:=es.take p) (l₂:=es.drop p)
   rwa[List.take_append_drop]at this
  have elen:(es.take p++(hx,x)::es.drop p).length=es.length+1:=eperm.length_eq
  rw[←emap]at T1
  generalize hes1:es.take p++(hx,x)::es.drop p=es1 at T1 eperm elen ei
  have pl1:=T1.len
  rw[List.length_map]at pl1
  have hfit1:t1.fits es1.toArray.size=true:=by simpa using T1.fits (by omega)
  have elay:layNew t es.toArray hx x=(es1.toArray,t1,false,false):=by
   unfold layNew
   rw[freeSlot_eq T n1 n2 n3]
   dsimp only
   rw[show t.put (way t hx n)=(t1,p) from Prod.ext ht1 hp1]
   dsimp only
   rw[ei]
   unfold SetTable.orStandIn
   rw[hfit1]
   rfl
  rw[elay]
  dsimp only
  refine wpAny_bind (wpAny_pure ?_)
  have core:∀b:Bool,wpAny (model prog w) A (do
    storeSet a es1.toArray (if b=true then t1 else{t1 with plain:=false})
    if(!false&&(if b=true then t1 else{t1 with plain:=false}).tooFull)=true then do
      (match(relayAll (if b=true then t1 else{t1 with plain:=false}) es1.toArray (SetTable.grown es1.toArray.size)).2.2 with|true=>rule "set.scan.the-table-gave-way"|false=>pure ())
      storeSet a (relayAll (if b=true then t1 else{t1 with plain:=false}) es1.toArray (SetTable.grown es1.toArray.size)).1 (relayAll (if b=true then t1 else{t1 with plain:=false}) es1.toArray (SetTable.grown es1.toArray.size)).2.1
      pure (some true)
     else pure (some true)) (fun r s'=>wpAny (model prog w) A (match r with|some added=>pure added|none=>setAddHashedIn a x hx 99999) Q E s') E s:=fun b=>by
   have Tb:Tab (if b=true then t1 else{t1 with plain:=false}) (es1.map (·.1)):=by
    cases b with
    |true=>exact T1
    |false=>exact T1.plain false
   have mb:(if b=true then t1 else{t1 with plain:=false}).mask=t.mask:=by cases b<;>exact hm1
   have lb:(if b=true then t1 else{t1 with plain:=false}).led=t.led:=by cases b<;>exact hl1
   generalize (if b=true then t1 else{t1 with plain:=false})=tb at Tb mb lb⊢
   have plb:=Tb.len
   rw[List.length_map]at plb
   refine wpAny_bind (wpAny_storeSet_of ho hd ?_ (by rw[sizeLine_eq];simp[elen];omega))
   have hst:=set_store (es':=es1.toArray) (t':=tb) ho hd
   have hsb:Heap.SameBut a s.heap (s.heap.update a (Obj.putSet es1.toArray tb)):=Heap.SameBut.update s.heap a _
   have tf:tb.tooFull=decide (tb.place.size*5≥tb.mask*3):=by
    unfold SetTable.tooFull SetTable.fill
    rw[Tb.dum]
    rfl
   cases hfull:tb.tooFull with
   |false=>
    simp only[Bool.not_false,Bool.and_false,Bool.false_eq_true,if_false]
    rw[hfull]at tf
    have:=of_decide_eq_false tf.symm
    exact wpAny_pure (wpAny_pure (h2 hno _ es1 hsb eperm ⟨_,ep+1,tb,hst,hex,rfl,Tb,by omega,lb.trans hled⟩))
   |true=>
    simp only[Bool.not_false,Bool.and_true,if_true]
    rw[hfull]at tf
    have hge:=of_decide_eq_true tf.symm
    have hsz:es1.toArray.size=es.length+1:=by simp[elen]
    have go:∀wanted mask',SetTable.grown (es.length+1)=wanted→SetTable.sizeAbove wanted=mask'+1→Msk mask'→es1.length*5<mask'*3→
      ∃(es2:List (Int×Value)) (t2:SetTable),relayAll tb es1.toArray (SetTable.grown es1.toArray.size)=(es2.toArray,t2,false)∧es2.Perm es1∧Tab t2 (es2.map (·.1))∧t2.place.size*5<t2.mask*3∧t2.led=t.led:=fun wanted mask' e1 e2 e3 e4=>by
     obtain⟨t',order,q1,q2,q3,q4,q5,q6,q7⟩:=laid_ok e3 (es1.map (·.1)) (by simp;omega) tb.finger (tb.movedTo mask') tb.led tb.plain
     rw[List.length_map]at q2 q7
     obtain⟨p1,p2⟩:=order_es q2
     refine⟨order.toList.filterMap (es1[·]?),t',?_,p1,by rw[p2];exact q3,by rw[q7,q4];exact e4,q5.trans lb⟩
     unfold relayAll
     have er:tb.relaid (es1.toArray.map (·.1)) (SetTable.grown es1.toArray.size)=some (t',order):=by
      unfold SetTable.relaid
      rw[List.map_toArray,hsz,e1,e2,Nat.add_sub_cancel]
      exact q1
     rw[er]
     dsimp only
     have el:(order.filterMap (es1.toArray[·]?))=(order.toList.filterMap (es1[·]?)).toArray:=by apply Array.ext';simp
     rw[el]
     have hlen:(order.toList.filterMap (es1[·]?)).length=es1.length:=p1.length_eq
     have c1:coversAll order es1.toArray.size=true:=by
      unfold coversAll
      rw[List.isPerm_iff]
      simpa using q2
     have c2:t'.fits (order.toList.filterMap (es1[·]?)).toArray.size=true:=by
      have:=q3.fits (by rw[q7,q4];omega)
      rw[List.length_map]at this
      have ho':=q2.length_eq
      rw[List.length_range]at ho'
      rw[List.size_toArray,hlen,←ho']
      exact this
     rw[c1,c2]
     rfl
    have fin:∃(es2:List (Int×Value)) (t2:SetTable),relayAll tb es1.toArray (SetTable.grown es1.toArray.size)=(es2.toArray,t2,false)∧es2.Perm es1∧Tab t2 (es2.map (·.1))∧t2.place.size*5<t2.mask*3∧t2.led=t.led:=by
     rcases T.msk with z|z|z
     ·have:es.length=4:=by omega
      exact go 20 31 (by rw[this];rfl) (by decide) (.inr (.inl rfl)) (by omega)
     ·have:es.length=18:=by omega
      exact go 76 127 (by rw[this];rfl) (by decide) (.inr (.inr rfl)) (by omega)
     ·omega
    obtain⟨es2,t2,r1,r2,r3,r4,r5⟩:=fin
    rw[r1]
    dsimp only
    refine wpAny_bind (wpAny_pure ?_)
    refine wpAny_bind (wpAny_storeSet_of (s:={s with heap:=s.heap.update a (Obj.putSet es1.toArray tb)}) (o:={o with data:=.set es1.toArray (ep+1) tb}) hst rfl ?_ (by rw[sizeLine_eq];have:=r2.length_eq;simp[this,elen];omega))
    refine wpAny_pure (wpAny_pure (h2 hno _ es2 (hsb.trans (Heap.SameBut.update _ a _)) (r2.trans eperm) ⟨_,ep+2,t2,set_store (o:={o with data:=.set es1.toArray (ep+1) tb}) hst rfl,hex,rfl,r3,r4,r5.trans hled⟩))
  split
  ·refine wpAny_bind ?_
   rw[hashByValue_scannable 8 hsc]
   exact wpAny_pure (core (plainKind x))
  ·exact wpAny_bind (wpAny_pure (core true))
end
end L2
namespace L2
open PySem PySem.Spec PyProof.Rows
noncomputable def scD:D→Bool
 |.int _=>true
 |.str _=>true
 |_=>false
theorem hasH_okD:∀{n:Nat}{d:D},hasH n d=true→okD n d=true:=by
 intro n
 induction n using Nat.strongRecOn with
 |ind n ih=>
 intro d h
 cases d with
 |int i=>cases n<;>rfl
 |str i=>cases n<;>rfl
 |tup ds=>
  obtain⟨k,rfl,h'⟩:=hasH_tup h
  show ds.all (okD k)=true
  rw[List.all_eq_true]at h'⊢
  exact fun x hx=>ih k (by omega) (h' x hx)
 |non=>cases n<;>simp[hasH]at h
 |bl _=>cases n<;>simp[hasH]at h
 |lst _=>cases n<;>simp[hasH]at h
 |dT _ _=>cases n<;>simp[hasH]at h
 |dK _ _=>cases n<;>simp[hasH]at h
 |dD _ _=>cases n<;>simp[hasH]at h
 |sp _ _=>cases n<;>simp[hasH]at h
noncomputable abbrev El:=D×V×Value
structure ElOk (K:Frag) (B:Addr→Prop) (H:Hp) (sc:Bool) (t:El):Prop where
 rep:Rep K B H t.1 t.2.1
 rel:RelV t.2.1 t.2.2
 has:hasH 8 t.1=true
 sc:scD t.1=sc
noncomputable abbrev elE (w:World) (t:El):Int×Value:=(hashD w t.1,t.2.2)
theorem perm_map {α β:Type}(f:α→β):∀{l1 l2:List β},l1.Perm l2→∀l:List α,l2=l.map f→∃l':List α,l'.Perm l∧l1=l'.map f:=by
 intro l1 l2 p
 induction p with
 |nil=>intro l h;exact⟨l,List.Perm.refl _,h⟩
 |cons x p ih=>
  intro l h
  cases l with
  |nil=>cases h
  |cons a l=>
   simp only[List.map_cons,List.cons.injEq]at h
   obtain⟨l',p',e'⟩:=ih l h.2
   exact⟨a::l',List.Perm.cons a p',by rw[List.map_cons,h.1,e']⟩
 |swap x y l0=>
  intro l h
  cases l with
  |nil=>cases h
  |cons a l=>
   cases l with
   |nil=>cases h
   |cons b l=>
    simp only[List.map_cons,List.cons.injEq]at h
    exact⟨b::a::l,List.Perm.swap a b l,by rw[List.map_cons,List.map_cons,h.1,h.2.1,h.2.2]⟩
 |trans p q ih1 ih2=>
  intro l h
  obtain⟨l2,p2,e2⟩:=ih2 l h
  obtain⟨l1,p1,e1⟩:=ih1 l2 e2
  exact⟨l1,p1.trans p2,e1⟩
section
variable{X:Cx}{pins:List (Addr×Obj)}{σ:St}{H:Hp}{s:Shared}{B:Addr→Prop}{A:Around}{E:Value→Shared→Prop}{a:Addr}{sc led:Bool}
theorem ref_of {t:El}(h:ElOk X.K B H false t):∃b,t.2.1=.ref b∧t.2.2=.ref b:=by
 obtain⟨d,x,u⟩:=t
 have r:=h.rep
 have q:=h.rel
 have hs:=h.sc
 have hh:=h.has
 cases d with
 |tup ds=>
  simp only[Rep]at r
  obtain⟨b,xs,rfl,_⟩:=r
  exact⟨b,rfl,q⟩
 |int i=>cases hs
 |str i=>cases hs
 |non=>simp[hasH]at hh
 |bl _=>simp[hasH]at hh
 |lst _=>simp[hasH]at hh
 |dT _ _=>simp[hasH]at hh
 |dK _ _=>simp[hasH]at hh
 |dD _ _=>simp[hasH]at hh
 |sp _ _=>simp[hasH]at hh
theorem elKey {t:El}(h:ElOk X.K B H true t):∃k:Key,(mixKind X.prog X.w).is k t.2.2=true∧t.2.2.scannable=true∧(mixKind X.prog X.w).hash k=hashD X.w t.1∧∀t':El,ElOk X.K B H true t'→(mixKind X.prog X.w).is k t'.2.2=decide (t'.1=t.1):=by
 obtain⟨d,x,u⟩:=t
 have r:=h.rep
 have q:=h.rel
 have hs:=h.sc
 cases d with
 |int i=>
  simp only[Rep]at r;subst r
  obtain⟨tk,rfl⟩:=q
  refine⟨.inl i,mixKind_int _ _ _ _,rfl,by simp only[hashD];rfl,fun t' h'=>?_⟩
  obtain⟨d',x',u'⟩:=t'
  have r':=h'.rep
  have q':=h'.rel
  have s':=h'.sc
  cases d' with
  |int j=>
   simp only[Rep]at r';subst r'
   obtain⟨tk',rfl⟩:=q'
   rw[KeyKind.is_eq_decide (mixKind_int X.prog X.w j tk') (.inl i)]
   simp only[Sum.inl.injEq,D.int.injEq]
   exact decide_eq_decide.mpr ⟨fun e=>e.symm,fun e=>e.symm⟩
  |str j=>
   simp only[Rep]at r';subst r'
   obtain⟨tk',rfl⟩:=q'
   rw[KeyKind.is_eq_decide (mixKind_str X.prog X.w j tk') (.inl i)]
   simp
  |_=>cases s'
 |str i=>
  simp only[Rep]at r;subst r
  obtain⟨tk,rfl⟩:=q
  refine⟨.inr i,mixKind_str _ _ _ _,rfl,by simp only[hashD];rfl,fun t' h'=>?_⟩
  obtain⟨d',x',u'⟩:=t'
  have r':=h'.rep
  have q':=h'.rel
  have s':=h'.sc
  cases d' with
  |str j=>
   simp only[Rep]at r';subst r'
   obtain⟨tk',rfl⟩:=q'
   rw[KeyKind.is_eq_decide (mixKind_str X.prog X.w j tk') (.inr i)]
   simp only[Sum.inr.injEq,D.str.injEq]
   exact decide_eq_decide.mpr ⟨fun e=>e.symm,fun e=>e.symm⟩
  |int j=>
   simp only[Rep]at r';subst r'
   obtain⟨tk',rfl⟩:=q'
   rw[KeyKind.is_eq_decide (mixKind_int X.prog X.w j tk') (.inr i)]
   simp
  |_=>cases s'
 |_=>cases hs
theorem seen_D (I:Inv X pins σ H s) {t:El}(ht:ElOk X.K B H false t) (l:List Value) (hl:∀y∈l,∃t':El,ElOk X.K B H false t'∧t'.2.2=y) {Q:Bool→Shared→Prop}(hQ:Q false s):wpAny (model X.prog X.w) A (searchCouldBeSeen t.2.2 l) Q E s:=by
 unfold searchCouldBeSeen
 refine wpAny_bind ?_
 refine wpAny_forIn_list _ (fun rest b s'=>b.1=none∧s'=s∧∀y∈rest,∃t':El,ElOk X.K B H false t'∧t'.2.2=y) _ ?_ ?_ _ _ ⟨rfl,rfl,hl⟩
 ·rintro y rest b s' ⟨hb,rfl,hr⟩
  have hr':∀z∈rest,∃t':El,ElOk X.K B H false t'∧t'.2.2=z:=fun z hz=>hr z (List.mem_cons_of_mem _ hz)
  obtain⟨t',h',rfl⟩:=hr y (List.mem_cons_self ..)
  obtain⟨c,_,hc⟩:=ref_of ht
  obtain⟨c',_,hc'⟩:=ref_of h'
  have q1:=ht.rel
  have q2:=h'.rel
  rw[hc]at q1⊢
  rw[hc']at q2⊢
  dsimp only
  split
  ·exact wpAny_pure ⟨rfl,rfl,hr'⟩
  ·refine wpAny_bind (quiet_D I 8 _ _ _ _ _ _ ht.has ht.rep q1 ?_)
   simp only[Bool.not_true,Bool.false_eq_true,if_false]
   refine wpAny_bind (quiet_D I 8 _ _ _ _ _ _ h'.has h'.rep q2 ?_)
   simp only[Bool.not_true,Bool.false_eq_true,if_false]
   refine wpAny_bind (plain_D I 8 _ _ _ _ _ _ ht.has ht.rep q1 ?_)
   simp only[Bool.false_eq_true,if_false]
   refine wpAny_bind (plain_D I 8 _ _ _ _ _ _ h'.has h'.rep q2 ?_)
   simp only[Bool.false_eq_true,if_false]
   exact wpAny_pure ⟨rfl,rfl,hr'⟩
 ·rintro⟨b1,b2⟩ s' ⟨hb,rfl,_⟩
  simp only at hb;subst hb
  exact wpAny_pure hQ
theorem add_D (I:Inv X pins σ H s) (hA:A.units+32<cLine) {ts:List El}{t:El}{Q:Bool→Shared→Prop}(S:SetAt s.heap a (ts.map (elE X.w)) led) (h75:ts.length≤75) (hts:∀t∈ts,ElOk X.K B H sc t) (ht:ElOk X.K B H sc t)
  (h:∀h' ts' tk,s.toks≤tk→Heap.SameBut a s.heap h'→(ts'=ts∧t.1∈ts.map (·.1)∨ts'.Perm (t::ts)∧t.1∉ts.map (·.1))→SetAt h' a (ts'.map (elE X.w)) led→∀b,Q b {s with heap:=h',toks:=tk}):
  wpAny (model X.prog X.w) A (setAdd a t.2.2) Q E s:=by
 unfold setAdd
 refine wpAny_holding (wpAny_bind ?_)
 refine hash_D I 8 t.1 t.2.1 t.2.2 A s.toks _ _ ht.has (by omega) ht.rep ht.rel fun tk htk=>?_
 have I':Inv X pins σ H {s with toks:=tk}:=I.tok tk
 cases sc with
 |false=>
  obtain⟨b,_,hb⟩:=ref_of ht
  have inj:∀t1∈ts,∀t2∈ts,t1.2.2=t2.2.2→t1.1=t2.1:=fun t1 h1 t2 h2 e=>by
   obtain⟨b1,x1,u1⟩:=ref_of (hts t1 h1)
   obtain⟨b2,x2,u2⟩:=ref_of (hts t2 h2)
   rw[u1,u2]at e
   cases e
   have r1:=(hts t1 h1).rep
   have r2:=(hts t2 h2).rep
   rw[x1]at r1
   rw[x2]at r2
   exact Rep.inj I (hasH_okD (hts t1 h1).has) (hasH_okD (hts t2 h2).has) r1 r2
  have S':SetAt {s with toks:=tk}.heap a (ts.map (elE X.w)) led:=S
  open Classical in
  rw[hb]
  refine add_ref (s:={s with toks:=tk}) (led:=led) (es:=ts.map (elE X.w)) S' (by simpa using h75) (fun v=>decide (∃t1∈ts,t1.2.2=v∧t1.1=t.1)) ?_ ?_ ?_ ?_ ?_ ?_ ?_
  ·intro e he
   obtain⟨t1,h1,rfl⟩:=List.mem_map.mp he
   obtain⟨b1,_,u1⟩:=ref_of (hts t1 h1)
   exact⟨b1,u1⟩
  ·intro e he _
   obtain⟨t1,h1,rfl⟩:=List.mem_map.mp he
   have:=(eq_D I' 8 t1.1 t.1 t1.2.1 t.2.1 t1.2.2 t.2.2 A (hasH_okD (hts t1 h1).has) (hasH_okD ht.has) (by omega) (hts t1 h1).rep ht.rep (hts t1 h1).rel ht.rel).2.1
   rw[hb]at this
   have e2:decide (∃t2∈ts,t2.2.2=t1.2.2∧t2.1=t.1)=decide (t1.1=t.1):=by
    apply decide_eq_decide.mpr
    constructor
    ·rintro⟨t2,h2,e1,e2⟩
     rw[←inj t2 h2 t1 h1 e1];exact e2
    ·exact fun e=>⟨t1,h1,rfl,e⟩
   show SeqAt.EqAt A _ t1.2.2 (.ref b) (decide (∃t2∈ts,t2.2.2=t1.2.2∧t2.1=t.1))
   rw[e2]
   exact this
  ·intro e he hq
   obtain⟨t1,h1,rfl⟩:=List.mem_map.mp he
   obtain⟨t2,h2,e1,e2⟩:=of_decide_eq_true hq
   show hashD X.w t1.1=hashD X.w t.1
   rw[←inj t2 h2 t1 h1 e1,e2]
  ·intro l hl Q' hQ'
   have:=seen_D (A:=A) (E:=E) I' ht l (fun y hy=>by
    obtain⟨e,he,rfl⟩:=hl y hy
    obtain⟨t1,h1,rfl⟩:=List.mem_map.mp he
    exact⟨t1,hts t1 h1,rfl⟩) hQ'
   rw[hb]at this
   exact this
  ·intro R hR
   have:=byVal_D I' 8 t.1 t.2.1 t.2.2 A R E ht.has ht.rep ht.rel hR
   rw[hb]at this
   exact this
  ·rintro⟨e,he,hq⟩
   obtain⟨t2,h2,e1,e2⟩:=of_decide_eq_true hq
   exact h s.heap ts tk htk (Heap.SameBut.refl a s.heap) (.inl ⟨rfl,List.mem_map.mpr ⟨t2,h2,e2⟩⟩) S false
  ·intro hno h' es' hsb hp S2
   obtain⟨ts',pt,rfl⟩:=perm_map (elE X.w) hp (t::ts) (by rw[List.map_cons];show _=(hashD X.w t.1,t.2.2)::_;rw[hb])
   refine h h' ts' tk htk hsb (.inr ⟨pt,fun hm=>?_⟩) S2 true
   obtain⟨t2,h2,e2⟩:=List.mem_map.mp hm
   have:=hno (elE X.w t2) (List.mem_map.mpr ⟨t2,h2,rfl⟩)
   exact absurd ⟨t2,h2,rfl,e2⟩ (of_decide_eq_false this)
 |true=>
  obtain⟨k,k1,k2,k3,k4⟩:=elKey ht
  rw[←k3]
  refine add_scan (s:={s with toks:=tk}) (led:=led) (es:=ts.map (elE X.w)) S (by simpa using h75) k1 k2 ?_ ?_ ?_
  ·intro e he
   obtain⟨t1,h1,rfl⟩:=List.mem_map.mp he
   obtain⟨k',a1,a2,a3,_⟩:=elKey (hts t1 h1)
   exact⟨⟨k',a1,a3.symm⟩,a2⟩
  ·rintro⟨e,he,hq⟩
   obtain⟨t1,h1,rfl⟩:=List.mem_map.mp he
   have hq:(mixKind X.prog X.w).is k t1.2.2=true:=hq
   rw[k4 t1 (hts t1 h1)]at hq
   exact h s.heap ts tk htk (Heap.SameBut.refl a s.heap) (.inl ⟨rfl,List.mem_map.mpr ⟨t1,h1,of_decide_eq_true hq⟩⟩) S false
  ·intro hno h' es' hsb hp S2
   rw[k3]at hp
   obtain⟨ts',pt,rfl⟩:=perm_map (elE X.w) hp (t::ts) rfl
   refine h h' ts' tk htk hsb (.inr ⟨pt,fun hm=>?_⟩) S2 true
   obtain⟨t1,h1,e1⟩:=List.mem_map.mp hm
   have hq:=hno (elE X.w t1) (List.mem_map.mpr ⟨t1,h1,rfl⟩)
   have hq:(mixKind X.prog X.w).is k t1.2.2=false:=hq
   rw[k4 t1 (hts t1 h1)]at hq
   exact absurd e1 (of_decide_eq_false hq)
end
end L2
namespace L2
open PySem PySem.Spec PyProof.Rows
structure Fill (X:Cx) (B:Addr→Prop) (H:Hp) (sc led:Bool) (h:Heap) (a:Addr) (done:List D) (ts:List El):Prop where
 at':SetAt h a (ts.map (elE X.w)) led
 ok:∀t∈ts,ElOk X.K B H sc t
 nd:(ts.map (·.1)).Nodup
 mem:∀d,d∈ts.map (·.1)↔d∈done
theorem SetAt.same {h h':Heap}{a:Addr}{es:List (Int×Value)}{led:Bool}(S:SetAt h a es led) (k:∀o,h.get? a=some o→h'.get? a=some o):SetAt h' a es led:=by
 obtain⟨o,ep,t,ho,r⟩:=S
 exact⟨o,ep,t,k o ho,r⟩
theorem nodup_le {l m:List D}(hl:l.Nodup) (h:∀x∈l,x∈m):l.length≤m.length:=by
 induction l generalizing m with
 |nil=>exact Nat.zero_le _
 |cons x l ih=>
  have hx:=h x (List.mem_cons_self ..)
  obtain⟨h1,h2⟩:=List.nodup_cons.mp hl
  have:=ih (m:=m.erase x) h2 fun y hy=>(List.mem_erase_of_ne (fun(e:y=x)=>h1 (e▸hy))).mpr (h y (List.mem_cons_of_mem _ hy))
  rw[List.length_erase_of_mem hx]at this
  have:0<m.length:=List.length_pos_of_mem hx
  rw[List.length_cons];omega
noncomputable def uniqD:List D→List D
 |[]=>[]
 |d::ds=>if d∈ds then uniqD ds else d::uniqD ds
theorem uniqD_mem (x:D):∀ds:List D,x∈uniqD ds↔x∈ds
 |[]=>Iff.rfl
 |d::ds=>by
  unfold uniqD
  split
  ·rename_i h
   rw[uniqD_mem x ds,List.mem_cons]
   exact⟨.inr,fun z=>z.elim (fun e=>e▸h) id⟩
  ·rw[List.mem_cons,List.mem_cons,uniqD_mem x ds]
theorem uniqD_nodup:∀ds:List D,(uniqD ds).Nodup
 |[]=>List.nodup_nil
 |d::ds=>by
  unfold uniqD
  split
  ·exact uniqD_nodup ds
  ·rename_i h
   exact List.nodup_cons.mpr ⟨fun z=>h ((uniqD_mem d ds).mp z),uniqD_nodup ds⟩
theorem uniqD_len (ds:List D):(uniqD ds).length≤ds.length:=nodup_le (uniqD_nodup ds) fun x hx=>(uniqD_mem x ds).mp hx
section
variable{X:Cx}{pins:List (Addr×Obj)}{σ:St}{H:Hp}{s:Shared}{B:Addr→Prop}{A:Around}{sc led:Bool}{R:Result→Shared→Prop}{It:Addr}{fp wr:List Addr}{G:Array GenState→Array GenState→Prop}{n:Nat}{P:Nat→Value→Prop}{St:Nat→Shared→Prop}
theorem set_loop (I:Inv X pins σ H s) (hA:A.units+40<cLine) (W:WalksS X.prog X.w A.in1 It fp wr G n P St) (hG:∀a b,G a b→b=a) (S:Addr) (hSf:S∉fp) (hS0:s.heap.get? S=none) (hwr:∀b∈wr,s.heap.get? b=none) (ds:List D) (hn:ds.length=n) (h76:(uniqD ds).length≤75)
  (hval:∀i v d,P i v→ds[i]?=some d→∃x,ElOk X.K B H sc (d,x,v)):
  ∀(k i:Nat) (h:Heap) (tk:Nat) (ts:List El),n - i=k→i≤n→St i {s with heap:=h,toks:=tk}→(∀b o,s.heap.get? b=some o→h.get? b=some o)→Fill X B H sc led h S (ds.take i) ts→
   (∀h' tk' ts',(∀b o,s.heap.get? b=some o→h'.get? b=some o)→Fill X B H sc led h' S ds ts'→R (.ok (.ret .none)) {s with heap:=h',toks:=tk'})→
   codeAny (model X.prog X.w) A (.builtin "set.update.loop" ⟨[.ref S,.ref It],[]⟩) R {s with heap:=h,toks:=tk}:=by
 have hSw:S∉wr:=fun h=>hSf (W.sub _ h)
 have back:∀{h:Heap}{tk:Nat}{s':Shared},(∀b o,s.heap.get? b=some o→h.get? b=some o)→Moved wr G {s with heap:=h,toks:=tk} s'→s'={s with heap:=s'.heap,toks:=s'.toks}∧∀b o,s.heap.get? b=some o→s'.heap.get? b=some o:=fun{h tk s'} hk hm=>by
  have e1:s'.gens=s.gens:=hG _ _ hm.gens
  have e2:s'.drawn=s.drawn:=hm.drawn
  have e3:s'.os=s.os:=hm.os
  refine⟨?_,fun b o e=>?_⟩
  ·obtain⟨h',g',d',t',o'⟩:=s'
   simp only at e1 e2 e3
   subst e1;subst e2;subst e3
   rfl
  ·refine hm.heap b o (fun hb=>?_) (hk b o e)
   rw[hwr b hb]at e;cases e
 intro k
 induction k with
 |zero=>
  intro i h tk ts hk hi hst hkeep hF hR
  have hin:i=n:=by omega
  subst hin
  refine codeAny_builtin F.entry_set_update_loop ?_
  rw[Around.under_plainId F.plain_set_update_loop _]
  show wpAny _ A.in1 (pyNext (.ref It) >>= _) _ _ _
  refine wpAny_bind (W.done _ _ _ hst fun s' hm=>?_)
  obtain⟨es,hkeep'⟩:=back hkeep hm
  show wpAny _ A.in1 (ret Value.none) _ _ s'
  rw[es]
  refine wpAny_pure (hR s'.heap s'.toks ts hkeep' ⟨hF.at'.same fun o e=>hm.heap S o hSw e,hF.ok,hF.nd,fun d=>?_⟩)
  rw[hF.mem d,←hn,List.take_length]
 |succ k ih=>
  intro i h tk ts hk hi hst hkeep hF hR
  have hlt:i<n:=by omega
  refine codeAny_builtin F.entry_set_update_loop ?_
  rw[Around.under_plainId F.plain_set_update_loop _]
  show wpAny _ A.in1 (pyNext (.ref It) >>= _) _ _ _
  refine wpAny_bind (W.item i _ _ _ hlt hst fun v s' hP hst' hm=>?_)
  obtain⟨es,hkeep'⟩:=back hkeep hm
  have hil:i<ds.length:=by omega
  obtain⟨x,hx⟩:=hval i v ds[i] hP (by simp[hil])
  have hat:SetAt s'.heap S (ts.map (elE X.w)) led:=hF.at'.same fun o e=>hm.heap S o hSw e
  have I':Inv X pins σ H {s with heap:=s'.heap,toks:=s'.toks}:=I.kept hkeep'
  have h75:ts.length≤75:=by
   have:=nodup_le hF.nd fun d hd=>(uniqD_mem d ds).mpr (List.mem_of_mem_take ((hF.mem d).mp hd))
   rw[List.length_map]at this
   omega
  show wpAny _ A.in1 (holding [v] (setAdd S v) >>= _) _ _ s'
  refine wpAny_bind (wpAny_holding ?_)
  rw[es]at hst'⊢
  refine add_D (t:=(ds[i],x,v)) I' (by show A.units+1+32<cLine;omega) hat h75 hF.ok hx fun h' ts' tk' htk hsb hor hS' b=>?_
  have keep2:∀b o,s.heap.get? b=some o→h'.get? b=some o:=fun b o e=>by
   rw[hsb.2 b (fun z=>by rw[z,hS0]at e;cases e)]
   exact hkeep' b o e
  have F':Fill X B H sc led h' S (ds.take (i+1)) ts':=by
   have htake:ds.take (i+1)=ds.take i++[ds[i]]:=by rw[List.take_succ];simp[hil]
   rcases hor with⟨rfl,hm'⟩|⟨hp,hm'⟩
   ·refine⟨hS',hF.ok,hF.nd,fun d=>?_⟩
    rw[hF.mem d,htake,List.mem_append,List.mem_singleton]
    constructor
    ·exact .inl
    ·rintro(h|rfl)
     ·exact h
     ·exact(hF.mem _).mp hm'
   ·have hp2:=hp.map (·.1)
    rw[List.map_cons]at hp2
    refine⟨hS',fun t ht=>?_,?_,fun d=>?_⟩
    ·rcases List.mem_cons.mp (hp.mem_iff.mp ht)with rfl|h
     ·exact hx
     ·exact hF.ok t h
    ·rw[hp2.nodup_iff,List.nodup_cons];exact⟨hm',hF.nd⟩
    ·rw[hp2.mem_iff,List.mem_cons,hF.mem d,htake,List.mem_append,List.mem_singleton]
     exact Or.comm
  refine wpAny_pure ⟨plainId_quiet F.plain_set_update_loop _,ih (i+1) h' tk' ts' (by omega) hlt ?_ keep2 F' hR⟩
  exact W.frame _ {s with heap:=s'.heap,toks:=s'.toks} _ _ hst' htk fun b hb o e=>by
   rw[hsb.2 b (fun h:b=S=>hSf (by rw[←h];exact hb))];exact e
end
end L2
namespace L2
open PySem PySem.Spec PyProof.Rows
noncomputable abbrev ledOf (w:World):Bool:=!w.params.followText "set-order"
noncomputable abbrev setNew (led:Bool):Obj:={cls:=.type "set",dict:=none,data:=.set #[] 0 (.fresh 0 0 led)}
section
variable{prog:Program}{w:World}{A:Around}{E:Value→Shared→Prop}{s:Shared}
theorem code_set_led (a:Value) {Q₁:Value→Shared→Prop}(h:Q₁ (.ref s.heap.objs.size) {s with heap:=s.heap.push (setNew (ledOf w))}):
  codeAny (model prog w) A (.call (.builtin "set.__new__") ⟨[.type "set",a],[]⟩) (wants Q₁ E) s:=by
 refine codeAny_of_tree ?_
 show wpAny _ A.in1 (do checkBuiltinCall "set.__new__" ⟨[.type "set",a],[]⟩;again (.builtin "set.__new__" ⟨[.type "set",a],[]⟩)) _ _ s
 refine wpAny_bind (wpAny_of_eq (F.newCall_set_1 a) (wpAny_pure ⟨plainId_quiet F.plain_set_new _,codeAny_builtin F.entry_set_new ?_⟩))
 rw[Around.under_plainId F.plain_set_new _]
 unfold Builtin.«set.__new__» Builtin.Frozenset.newClass
 have hsub:=sub_set_self
 obtain⟨hp,g,d,tk,os⟩:=s
 dsimp only
 wp_walk
 refine wpAny_askSetting (wpAny_pure ?_)
 dsimp only
 simp only[newObj]
 refine wpAny_bind (wpAny_alloc (wpAny_pure ?_))
 exact wpAny_pure h
end
section
variable{X:Cx}{pins:List (Addr×Obj)}{σ:St}{H:Hp}{s:Shared}{B:Addr→Prop}{A:Around}{E:Value→Shared→Prop}{sc:Bool}
theorem fill_new {h:Heap}{a:Addr}(e:h.get? a=some (setNew (ledOf X.w))):Fill X B H sc (ledOf X.w) h a [] []:=
 ⟨⟨_,0,_,e,⟨rfl,rfl,rfl⟩,rfl,Tab.fresh _ _ _,by simp[SetTable.fresh],rfl⟩,fun t ht=>by simp at ht,List.nodup_nil,fun d=>Iff.rfl⟩
theorem call_set_D (I:Inv X pins σ H s) (hh:A.handled=none) (hA:A.units+50<cLine) {l:Addr}{items:Array Value}{Q:Value→Shared→Prop}(hl:s.heap.IsList l items) (ds:List D) (hlen:ds.length=items.size) (h76:(uniqD ds).length≤75)
  (hel:∀(i:Nat) v d,items[i]?=some v→ds[i]?=some d→∃x,ElOk X.K B H sc (d,x,v))
  (h:∀(h':Heap) (tk:Nat) ts,(∀b o,s.heap.get? b=some o→h'.get? b=some o)→Fill X B H sc (ledOf X.w) h' s.heap.objs.size ds ts→Q (.ref s.heap.objs.size) {s with heap:=h',toks:=tk}):
  wpAny (model X.prog X.w) A (call (.type "set") [.ref l]) Q E s:=by
 obtain⟨c,tl,hmro⟩:=F.called_set.mro
 have hmade:=F.called_set.made
 have hsub:=F.called_set.sub
 refine wpAny_call (codeAny_of_tree ?_)
 show wpAny _ _ (callAny (.type "set") _) _ _ _
 refine wpAny_pure ⟨Code.quiet_builtin _ (by decide +kernel),codeAny_builtin F.entry_type_call ?_⟩
 rw[Around.under_plain (weight_type_call_type "set" [.ref l] []) rfl]
 have h1:=F.called_set.notType
 have h2:=F.called_set.canCreate
 have hct:=F.typeCall_set_1 (.ref l)
 repeat (any_goals (first|assumption|wp_step))
 refine codeAny_mono (code_set_led (.ref l) (E:=E) (Q₁:=fun obj s₁=>obj=.ref s.heap.objs.size∧s₁={s with heap:=s.heap.push (setNew (ledOf X.w))}) ⟨rfl,rfl⟩) fun r s₁ hr=>?_
 cases r with
 |error e=>exact hr
 |ok fl=>
  cases fl with
  |ret obj=>
   obtain⟨rfl,rfl⟩:=hr
   have hS:(s.heap.push (setNew (ledOf X.w))).get? s.heap.objs.size=some (setNew (ledOf X.w)):=Heap.get?_push_size _ rfl
   have hT:Shared.TypeIs {s with heap:=s.heap.push (setNew (ledOf X.w))} (.ref s.heap.objs.size) "set":=⟨_,hS,rfl⟩
   have hli:=F.called_set.init.lookup
   have hbi:=F.called_set.init.bind (.ref s.heap.objs.size)
   repeat (any_goals (first|assumption|wp_step))
   refine codeAny_mono (codeAny_call_builtin (R:=wants (fun r s₂=>r=.none∧∃h' tk ts,s₂={s with heap:=h',toks:=tk}∧Fill X B H sc (ledOf X.w) h' s.heap.objs.size ds ts∧
     (∀b o,s.heap.get? b=some o→h'.get? b=some o)) E) F.called_set.init.plain F.entry_set_init (check_set_init_1 hT ?_)) fun r₂ s₂ hr₂=>?_
   ·obtain⟨ol,hol,hcl,nl,hdl⟩:=hl
    obtain⟨ocls,odict,odata,oslots⟩:=ol
    simp only at hcl hdl
    subst hcl;subst hdl
    have hol':(s.heap.push (setNew (ledOf X.w))).get? l=some {cls:=.type "list",dict:=odict,data:=.seq items nl,slots:=oslots}:=Heap.get?_push_of_some _ hol
    have hsls:=F.sub_list_set
    have hslf:=F.sub_list_frozenset
    have hne:(Value.type "list"==Value.type "dict")=false:=by decide
    have hl1:(s.heap.push (setNew (ledOf X.w))).IsList l items:=⟨_,hol',rfl,nl,rfl⟩
    unfold Builtin.«set.__init__» noKeywords Builtin.Frozenset.updateFrom
    generalize hPI:pyIter=PI
    wp_walk
    subst hPI
    refine wpAny_pyIter_list hl1 ?_
    refine wpAny_bind (wpAny_runValue ?_)
    have hlS:l<s.heap.objs.size:=Heap.lt_size hol
    have hh3:A.in1.in1.in1.handled=none:=by simp[hh]
    have hneI:l≠(s.heap.push (setNew (ledOf X.w))).objs.size:=by
     rw[Heap.size_push];exact Nat.ne_of_lt (Nat.lt_succ_of_lt hlS)
    have hSf:s.heap.objs.size∉[(s.heap.push (setNew (ledOf X.w))).objs.size,l]:=by
     rw[Heap.size_push];simp only[List.mem_cons,List.mem_singleton,List.not_mem_nil,or_false,not_or]
     exact⟨Nat.ne_of_lt (Nat.lt_succ_self _),Nat.ne_of_gt hlS⟩
    have hnone:∀b,s.heap.objs.size≤b→s.heap.get? b=none:=fun b hb=>by
     cases q:s.heap.get? b with
     |none=>rfl
     |some o=>exact absurd (Heap.lt_size q) (Nat.not_lt.mpr hb)
    refine set_loop (s:=s) (X:=X) (σ:=σ) (pins:=pins) (H:=H) (B:=B) (sc:=sc) (led:=ledOf X.w) I ?_ ((Walks.list hh3 _ l hneI items).toS) ?_ s.heap.objs.size
     hSf (hnone _ (Nat.le_refl _)) ?_ ds hlen h76 (fun i v d hv hd=>hel i v d hv hd) (items.size - 0) 0 _ s.toks [] (by omega) (Nat.zero_le _)
     ⟨⟨_,Heap.get?_push_size _ rfl,rfl,rfl⟩,(hl1.push _)⟩ (fun b o e=>Heap.get?_push_of_some _ (Heap.get?_push_of_some _ e)) ?_ ?_
    ·show A.units+1+1+40<cLine;omega
    ·intro a b e;exact e
    ·intro b hb
     simp only[List.mem_singleton]at hb
     rw[hb,Heap.size_push]
     exact hnone _ (Nat.le_succ _)
    ·exact fill_new (Heap.get?_push_of_some _ hS)
    ·intro h' tk' ts hk hF
     show wpAny _ _ _ _ _ _
     refine wpAny_pure ?_
     show wpAny _ _ (ret Value.none) _ _ _
     exact wpAny_pure ⟨rfl,h',tk',ts,rfl,hF,hk⟩
   ·cases r₂ with
    |error e=>exact hr₂
    |ok fl₂=>
     cases fl₂ with
     |ret r=>
      obtain⟨rfl,h',tk,ts,rfl,hF,hk⟩:=hr₂
      repeat (any_goals (first|assumption|wp_step))
      exact h _ _ _ hk hF
     |_=>exact hr₂.elim
  |_=>exact hr.elim
end
end L2
namespace L2
open PySem PySem.Spec PyProof.Rows
theorem slot_si_next:Slot "set_iterator" "__next__" "set_iterator.__next__":=
 .of (owner:="set_iterator") (n:="__next__") (by rw[typeLookup_type,builtinLookup_eq_fast];kernel_rfl) (by decide +kernel) (by decide +kernel) (by decide +kernel)
  (by first|exact .inl (by decide +kernel)|exact .inr (by decide +kernel)) (by rw[isSubtype_type];kernel_rfl)
theorem entry_si_next:entryFor table "set_iterator.__next__"=some Builtin.«set_iterator.__next__»:=entryFor_of_tree (by kernel_rfl)
theorem slot_si_iter:Slot "set_iterator" "__iter__" "set_iterator.__iter__":=
 .of (owner:="set_iterator") (n:="__iter__") (by rw[typeLookup_type,builtinLookup_eq_fast];kernel_rfl) (by decide +kernel) (by decide +kernel) (by decide +kernel)
  (by first|exact .inl (by decide +kernel)|exact .inr (by decide +kernel)) (by rw[isSubtype_type];kernel_rfl)
theorem entry_si_iter:entryFor table "set_iterator.__iter__"=some Builtin.«dict_keyiterator.__iter__»:=
 entryFor_alias (id':="dict_keyiterator.__iter__") (by kernel_rfl) rfl (by decide +kernel) (by kernel_rfl)
theorem entry_set_iter':entryFor table "set.__iter__"=some Builtin.«frozenset.__iter__»:=
 entryFor_alias (id':="frozenset.__iter__") (by kernel_rfl) rfl (by decide +kernel) (by kernel_rfl)
theorem args_si_next (a:Value):argsOk "set_iterator.__next__" ⟨[a],[]⟩:=by
 unfold argsOk;kernel_rfl
theorem args_si_iter (a:Value):argsOk "set_iterator.__iter__" ⟨[a],[]⟩:=by
 unfold argsOk;kernel_rfl
theorem erase_perm {α:Type}{l:List α}{i:Nat}(h:i<l.length):(l[i]::l.eraseIdx i).Perm l:=by
 rw[List.eraseIdx_eq_take_drop_succ]
 refine List.perm_middle.symm.trans ?_
 rw[←List.drop_eq_getElem_cons h,List.take_append_drop]
theorem draw_order {prog:Program}{w:World}{A:Around}{E:Value→Shared→Prop}{α:Type}:∀(n:Nat) (xs:List α) (s:Shared) (Q:List α→Shared→Prop),xs.length=n→
  (∀ys d,ys.Perm xs→Q ys {s with drawn:=d})→wpAny (model prog w) A (drawOrder n xs) Q E s
 |0,xs,s,Q,hl,hQ=>by
  have:xs=[]:=List.length_eq_zero_iff.mp hl
  subst this
  unfold drawOrder
  exact wpAny_pure (hQ [] s.drawn (List.Perm.refl _))
 |n+1,[],s,Q,hl,hQ=>by cases hl
 |n+1,x::xs,s,Q,hl,hQ=>by
  unfold drawOrder
  refine wpAny_bind (Q:=Q) ?_
  intro Γ p hΓ
  refine⟨by simp,?_⟩
  generalize hd:s.drawn.bump .order=d1
  generalize hi:(model prog w).w.draws .order (s.drawn.get .order)%(x::xs).length=i
  have hlt:i<(x::xs).length:=by rw[←hi];exact Nat.mod_lt _ (by simp)
  have key:wpAny (model prog w) A (match(x::xs)[i]? with|some y=>(do return y::(←drawOrder n ((x::xs).eraseIdx i)))|none=>unsupported "internal:drawOrder") Q E {s with drawn:=d1}:=by
   rw[List.getElem?_eq_getElem hlt]
   dsimp only
   refine wpAny_bind (draw_order n ((x::xs).eraseIdx i) _ _ (by rw[List.length_eraseIdx_of_lt hlt,hl];rfl) fun ys d hp=>?_)
   refine wpAny_pure (hQ _ d ?_)
   exact(List.Perm.cons _ hp).trans (erase_perm hlt)
  exact key
theorem pick_go {α:Type}(f:Nat→Nat):∀(fuel k:Nat) (left:List α) (out:Array α),fuel=left.length→(pickOrder.go f fuel k left out).toList.Perm (out.toList++left)
 |0,k,left,out,h=>by
  have:left=[]:=List.length_eq_zero_iff.mp h.symm
  subst this
  unfold pickOrder.go
  simp
 |fuel+1,k,left,out,h=>by
  unfold pickOrder.go
  have hlt:f k%left.length<left.length:=Nat.mod_lt _ (by omega)
  rw[List.getElem?_eq_getElem hlt]
  dsimp only
  refine(pick_go f fuel (k+1) _ _ (by rw[List.length_eraseIdx_of_lt hlt];omega)).trans ?_
  rw[Array.toList_push,List.append_assoc]
  exact List.Perm.append_left _ (erase_perm hlt)
theorem pick_perm {α:Type}(f:Nat→Nat) (xs:Array α):(pickOrder f xs).toList.Perm xs.toList:=by
 unfold pickOrder
 simpa using pick_go f xs.size 0 xs.toList #[] (by simp)
end L2
namespace L2
open PySem PySem.Spec PyProof.Rows
structure SetIs (h:Heap) (S:Addr) (es:List (Int×Value)) (ep:Nat) (t:SetTable):Prop where
 ob:∃o,h.get? S=some o∧o.ExactSet∧o.data=.set es.toArray ep t
 tab:Tab t (es.map (·.1))
 few:t.place.size≤t.mask
theorem SetIs.fits {h:Heap}{S:Addr}{es:List (Int×Value)}{ep:Nat}{t:SetTable}(x:SetIs h S es ep t):t.fits es.toArray.size=true:=by simpa using x.tab.fits x.few
theorem SetIs.at {h h':Heap}{S:Addr}{es:List (Int×Value)}{ep:Nat}{t:SetTable}(x:SetIs h S es ep t) (k:∀o,h.get? S=some o→h'.get? S=some o):SetIs h' S es ep t:=by
 obtain⟨⟨o,ho,r⟩,a,b⟩:=x
 exact⟨⟨o,k o ho,r⟩,a,b⟩
noncomputable def IterAt (h:Heap) (I:Addr) (first:Value) (i:Nat) (S:Addr) (n ep:Nat):Prop:=∃o,h.get? I=some o∧o.cls=.type "set_iterator"∧o.data=.fields #[first,rawInt i,.ref S,rawInt n,rawInt ep]
theorem IterAt.typeIs {s:Shared}{I S:Addr}{first:Value}{i n ep:Nat}(x:IterAt s.heap I first i S n ep):s.TypeIs (.ref I) "set_iterator":=by
 obtain⟨o,ho,hc,_⟩:=x
 exact⟨o,ho,hc⟩
theorem IterAt.at {h h':Heap}{I S:Addr}{first:Value}{i n ep:Nat}(x:IterAt h I first i S n ep) (k:∀o,h.get? I=some o→h'.get? I=some o):IterAt h' I first i S n ep:=by
 obtain⟨o,ho,r⟩:=x
 exact⟨o,k o ho,r⟩
section
variable{prog:Program}{w:World}{A:Around}{E:Value→Shared→Prop}{s:Shared}{I S:Addr}{es:List (Int×Value)}{ep:Nat}{t:SetTable}{i:Nat}
theorem si_next_slot {sl nx:Nat}{v:Value}{Q:Option Value→Shared→Prop}(hne:S≠I) (it:IterAt s.heap I (rawInt sl) i S es.length ep) (st:SetIs s.heap S es ep t)
  (hn:∀(s:Shared) (R:Option (Value×Nat)→Shared→Prop) (E:Value→Shared→Prop),SetIs s.heap S es ep t→R (some (v,nx)) s→wpAny (model prog w) A.in1 (setNext S sl i ep) R E s)
  (hQ:∀h',IterAt h' I (rawInt nx) (i+1) S es.length ep→(∀b o,b≠I→s.heap.get? b=some o→h'.get? b=some o)→Q (some v) {s with heap:=h'}):wpAny (model prog w) A (pyNext (.ref I)) Q E s:=by
 have hT:=it.typeIs
 obtain⟨o,ho,hc,hd⟩:=it
 unfold pyNext
 refine wpAny_bind (wpAny_attempt (wpAny_callSpecial?_slot (name:=Str.ofString "__next__") hT slot_si_next (wpAny_call_entry slot_si_next hT entry_si_next ?_ (args_si_next _))))
 unfold Builtin.«set_iterator.__next__»
 refine wpAny_bind (m:=slotArgs "__next__" 0 _) (wpAny_pure ?_)
 dsimp only
 refine wpAny_bind (wpAny_fieldsOf ho hd ?_)
 dsimp only[rawInt]
 obtain⟨os,hos,hex,hds⟩:=st.ob
 refine wpAny_bind (wpAny_setEntries_of hos hds st.fits ?_)
 rw[if_neg (by simp)]
 simp only[Int.toNat_natCast]
 refine wpAny_bind (hn s _ _ st ?_)
 dsimp only
 refine wpAny_bind (wpAny_setField ho hd (by simp) ?_)
 have g1:=Heap.get?_update_self (Obj.mapFields (·.setIfInBounds 0 (rawInt nx))) ho (Obj.isFreed_of_fields (Obj.data_mapFields hd _))
 refine wpAny_bind (wpAny_setField g1 (Obj.data_mapFields hd _) (by simp) ?_)
 have g2:=Heap.get?_update_self (Obj.mapFields (·.setIfInBounds 1 (rawInt ((i:Int)+1)))) g1 (Obj.isFreed_of_fields (Obj.data_mapFields (Obj.data_mapFields hd _) _))
 refine wpAny_pure ⟨_,rfl,wpAny_pure (hQ _ ?_ ?_)⟩
 ·exact⟨_,g2,(Obj.cls_mapFields ..).trans ((Obj.cls_mapFields ..).trans hc),by rw[Obj.data_mapFields (Obj.data_mapFields hd _)];simp[rawInt]⟩
 ·intro b o' hb e
  exact(Heap.get?_update_other _ _ (Ne.symm hb)).trans ((Heap.get?_update_other _ _ (Ne.symm hb)).trans e)
theorem si_next_drawn {T:Addr}{ps:List Nat}{p:Nat}{e:Int×Value}{Q:Option Value→Shared→Prop}(hne:S≠I) (it:IterAt s.heap I (.ref T) i S es.length ep) (st:SetIs s.heap S es ep t) (ht:∃o n,s.heap.get? T=some o∧o.data=.seq (ps.map fun(k:Nat)=>rawInt k).toArray n)
  (hp:ps[i]?=some p) (he:es[p]?=some e)
  (hQ:∀h',IterAt h' I (.ref T) (i+1) S es.length ep→(∀b o,b≠I→s.heap.get? b=some o→h'.get? b=some o)→Q (some e.2) {s with heap:=h'}):wpAny (model prog w) A (pyNext (.ref I)) Q E s:=by
 have hT:=it.typeIs
 obtain⟨o,ho,hc,hd⟩:=it
 unfold pyNext
 refine wpAny_bind (wpAny_attempt (wpAny_callSpecial?_slot (name:=Str.ofString "__next__") hT slot_si_next (wpAny_call_entry slot_si_next hT entry_si_next ?_ (args_si_next _))))
 unfold Builtin.«set_iterator.__next__»
 refine wpAny_bind (m:=slotArgs "__next__" 0 _) (wpAny_pure ?_)
 dsimp only
 refine wpAny_bind (wpAny_fieldsOf ho hd ?_)
 dsimp only[rawInt]
 obtain⟨os,hos,hex,hds⟩:=st.ob
 refine wpAny_bind (wpAny_setEntries_of hos hds st.fits ?_)
 rw[if_neg (by simp)]
 simp only[Int.toNat_natCast]
 obtain⟨oT,nT,hoT,hdT⟩:=ht
 refine wpAny_bind (wpAny_seqItems hoT hdT ?_)
 dsimp only
 have e1:(ps.map fun(k:Nat)=>rawInt k).toArray[i]?=some (rawInt p):=by simp[hp]
 rw[e1]
 dsimp only[rawInt]
 simp only[Int.toNat_natCast]
 refine wpAny_bind ?_
 unfold setNextDrawn
 refine wpAny_bind (wpAny_setState_of hos hds st.fits ?_)
 dsimp only
 rw[if_neg (by simp)]
 have e2:es.toArray[p]?=some e:=by simp[he]
 rw[e2]
 dsimp only
 refine wpAny_pure ?_
 refine wpAny_bind (wpAny_setField ho hd (by simp) ?_)
 have g2:=Heap.get?_update_self (Obj.mapFields (·.setIfInBounds 1 (rawInt ((i:Int)+1)))) ho (Obj.isFreed_of_fields (Obj.data_mapFields hd _))
 refine wpAny_pure ⟨_,rfl,wpAny_pure (hQ _ ?_ ?_)⟩
 ·exact⟨_,g2,(Obj.cls_mapFields ..).trans hc,by rw[Obj.data_mapFields hd];simp[rawInt]⟩
 ·intro b o' hb e
  exact(Heap.get?_update_other _ _ (Ne.symm hb)).trans e
theorem si_end_slot {sl:Nat}{Q:Option Value→Shared→Prop}(hh:A.handled=none) (it:IterAt s.heap I (rawInt sl) i S es.length ep) (st:SetIs s.heap S es ep t)
  (hn:∀(s:Shared) (R:Option (Value×Nat)→Shared→Prop) (E:Value→Shared→Prop),SetIs s.heap S es ep t→R none s→wpAny (model prog w) A.in1 (setNext S sl i ep) R E s)
  (hQ:∀h',(∀b o,b≠I→s.heap.get? b=some o→h'.get? b=some o)→Q none {s with heap:=h'}):wpAny (model prog w) A (pyNext (.ref I)) Q E s:=by
 have hT:=it.typeIs
 obtain⟨o,ho,hc,hd⟩:=it
 unfold pyNext
 refine wpAny_bind (wpAny_attempt (wpAny_callSpecial?_slot (name:=Str.ofString "__next__") hT slot_si_next (wpAny_call_entry slot_si_next hT entry_si_next ?_ (args_si_next _))))
 unfold Builtin.«set_iterator.__next__»
 refine wpAny_bind (m:=slotArgs "__next__" 0 _) (wpAny_pure ?_)
 dsimp only
 refine wpAny_bind (wpAny_fieldsOf ho hd ?_)
 dsimp only[rawInt]
 obtain⟨os,hos,hex,hds⟩:=st.ob
 refine wpAny_bind (wpAny_setEntries_of hos hds st.fits ?_)
 rw[if_neg (by simp)]
 simp only[Int.toNat_natCast]
 refine wpAny_bind (hn s _ _ st ?_)
 dsimp only
 refine wpAny_bind (wpAny_setField ho hd (by simp) ?_)
 refine wpAny_bind ?_
 simp only[newExc,newTuple]
 refine wpAny_bind (wpAny_newObj_type ?_ (by size_fits))
 refine wpAny_bind (m:=firstArgMember _ _) (wpAny_of_eq (a:=Value.none) (by first|rfl|(simp only[firstArgMember];rfl)) ?_)
 refine wpAny_newObj_type ?_ (by size_fits)
 simp only[raiseNew]
 refine wpAny_bind (wpAny_handled ?_)
 rw[show A.in1.handled=none from hh]
 refine wpAny_bind (wpAny_pure (wpAny_throw ?_))
 refine wpAny_bind (wpAny_isInstance (T:="StopIteration") (b:=true) ⟨_,Heap.get?_push_size _ rfl,rfl⟩ isSubtype_stop ?_)
 exact wpAny_pure (hQ _ fun b o' hb e=>Heap.get?_push_of_some _ (Heap.get?_push_of_some _ ((Heap.get?_update_other _ _ (Ne.symm hb)).trans e)))
theorem si_end_drawn {T:Addr}{ps:List Nat}{Q:Option Value→Shared→Prop}(hh:A.handled=none) (it:IterAt s.heap I (.ref T) i S es.length ep) (st:SetIs s.heap S es ep t) (ht:∃o n,s.heap.get? T=some o∧o.data=.seq (ps.map fun(k:Nat)=>rawInt k).toArray n)
  (hp:ps[i]?=none) (hQ:∀h',(∀b o,b≠I→s.heap.get? b=some o→h'.get? b=some o)→Q none {s with heap:=h'}):wpAny (model prog w) A (pyNext (.ref I)) Q E s:=by
 have hT:=it.typeIs
 obtain⟨o,ho,hc,hd⟩:=it
 unfold pyNext
 refine wpAny_bind (wpAny_attempt (wpAny_callSpecial?_slot (name:=Str.ofString "__next__") hT slot_si_next (wpAny_call_entry slot_si_next hT entry_si_next ?_ (args_si_next _))))
 unfold Builtin.«set_iterator.__next__»
 refine wpAny_bind (m:=slotArgs "__next__" 0 _) (wpAny_pure ?_)
 dsimp only
 refine wpAny_bind (wpAny_fieldsOf ho hd ?_)
 dsimp only[rawInt]
 obtain⟨os,hos,hex,hds⟩:=st.ob
 refine wpAny_bind (wpAny_setEntries_of hos hds st.fits ?_)
 rw[if_neg (by simp)]
 simp only[Int.toNat_natCast]
 obtain⟨oT,nT,hoT,hdT⟩:=ht
 refine wpAny_bind (wpAny_seqItems hoT hdT ?_)
 dsimp only
 have e1:(ps.map fun(k:Nat)=>rawInt k).toArray[i]?=none:=by simpa using hp
 rw[e1]
 dsimp only
 refine wpAny_bind (wpAny_setField ho hd (by simp) ?_)
 have g1:=Heap.get?_update_self (Obj.mapFields (·.setIfInBounds 0 (rawInt 0))) ho (Obj.isFreed_of_fields (Obj.data_mapFields hd _))
 refine wpAny_bind (wpAny_setField g1 (Obj.data_mapFields hd _) (by simp) ?_)
 refine wpAny_bind ?_
 simp only[newExc,newTuple]
 refine wpAny_bind (wpAny_newObj_type ?_ (by size_fits))
 refine wpAny_bind (m:=firstArgMember _ _) (wpAny_of_eq (a:=Value.none) (by first|rfl|(simp only[firstArgMember];rfl)) ?_)
 refine wpAny_newObj_type ?_ (by size_fits)
 simp only[raiseNew]
 refine wpAny_bind (wpAny_handled ?_)
 rw[show A.in1.handled=none from hh]
 refine wpAny_bind (wpAny_pure (wpAny_throw ?_))
 refine wpAny_bind (wpAny_isInstance (T:="StopIteration") (b:=true) ⟨_,Heap.get?_push_size _ rfl,rfl⟩ isSubtype_stop ?_)
 exact wpAny_pure (hQ _ fun b o' hb e=>Heap.get?_push_of_some _ (Heap.get?_push_of_some _ ((Heap.get?_update_other _ _ (Ne.symm hb)).trans ((Heap.get?_update_other _ _ (Ne.symm hb)).trans e))))
theorem si_self {first:Value}{n:Nat}{Q:Value→Shared→Prop}(it:IterAt s.heap I first i S n ep) (hQ:Q (.ref I) s):wpAny (model prog w) A (pyIter (.ref I)) Q E s:=by
 refine wpAny_pyIter_slot it.typeIs slot_si_iter (wpAny_call_entry slot_si_iter it.typeIs entry_si_iter ?_ (args_si_iter _))
 show wpAny _ _ (ret (.ref I)) _ _ s
 exact wpAny_pure ⟨_,rfl,"set_iterator",_,it.typeIs,slot_si_next.lookup,hQ⟩
end
end L2
namespace L2
open PySem PySem.Spec PyProof.Rows
section
variable{prog:Program}{w:World}{A:Around}{E:Value→Shared→Prop}{s:Shared}{S:Addr}{es:List (Int×Value)}{ep:Nat}{t:SetTable}{i sl:Nat}
theorem setNext_eq (a:Addr) (slot given epochThen:Nat):setNext a slot given epochThen=(do
  let (es,epoch,t) ←setState a
  if ←setsByText then
   if epoch != epochThen then unsupported "set_iterator.__next__:elements-changed"
   return ((←setWalk a)[given]?).map fun e=>(e.2,slot)
  if !t.plain&&es.size>1 then unsupported "set_iterator.__next__:the-table-is-plain-no-more"
  (if(!t.led&&!es.isEmpty)=true then unsupported "set:maker-not-led" else pure ():Sem Unit)
  let i:=SetTable.below t.place slot
  return match es[i]?,t.place[i]? with
   |some (_,x),some j=>some (x,j+1)
   |_,_=>none):=rfl
theorem next_text (hb:w.params.followText "set-order"=true) (st:SetIs s.heap S es ep t) {R:Option (Value×Nat)→Shared→Prop}
  (h:R (((pickOrder (w.params.setOrder S ep) es.toArray)[i]?).map fun e=>(e.2,sl)) s):wpAny (model prog w) A (setNext S sl i ep) R E s:=by
 obtain⟨os,hos,hex,hds⟩:=st.ob
 rw[setNext_eq]
 refine wpAny_bind (wpAny_setState_of hos hds st.fits ?_)
 dsimp only
 unfold setsByText
 refine wpAny_bind (wpAny_bind (wpAny_askSetting (wpAny_pure ?_)))
 show wpAny _ _ (if w.params.followText "set-order"=true then _ else _) _ _ _
 rw[if_pos hb,if_neg (by simp)]
 refine wpAny_bind ?_
 unfold setWalk setsByText
 refine wpAny_bind (wpAny_setState_of hos hds st.fits ?_)
 dsimp only
 refine wpAny_bind (wpAny_bind (wpAny_askSetting (wpAny_pure ?_)))
 show wpAny _ _ (if w.params.followText "set-order"=true then _ else _) _ _ _
 rw[if_pos hb]
 refine wpAny_bind (wpAny_askSetting (wpAny_pure ?_))
 exact wpAny_pure h
theorem next_slot (hb:w.params.followText "set-order"=false) (st:SetIs s.heap S es ep t) (hled:t.led=true) (hpl:(!t.plain&&decide (es.toArray.size>1))=false) {R:Option (Value×Nat)→Shared→Prop}
  (h:R (match es.toArray[SetTable.below t.place sl]?,t.place[SetTable.below t.place sl]? with|some (_,x),some j=>some (x,j+1)|_,_=>none) s):wpAny (model prog w) A (setNext S sl i ep) R E s:=by
 obtain⟨os,hos,hex,hds⟩:=st.ob
 rw[setNext_eq]
 refine wpAny_bind (wpAny_setState_of hos hds st.fits ?_)
 dsimp only
 unfold setsByText
 refine wpAny_bind (wpAny_bind (wpAny_askSetting (wpAny_pure ?_)))
 show wpAny _ _ (if w.params.followText "set-order"=true then _ else _) _ _ _
 rw[if_neg (by rw[hb];exact Bool.false_ne_true),if_neg (by rw[hpl];exact Bool.false_ne_true),if_neg (by rw[hled];simp)]
 refine wpAny_bind (wpAny_pure ?_)
 exact wpAny_pure h
end
noncomputable def slotAt (t:SetTable) (i:Nat):Nat:=match i with|0=>0|k+1=>t.place.getD k 0+1
theorem below_zero {t:SetTable}{hs:List Int}(T:Tab t hs):SetTable.below t.place 0=0:=by
 obtain⟨h1,h2,h3⟩:=below_of T.ris 0
 rcases Nat.eq_zero_or_pos (SetTable.below t.place 0)with z|z
 ·exact z
 ·have:=h1 0 (by omega) z
  exact absurd this (Nat.not_lt_zero _)
theorem below_slotAt {t:SetTable}{hs:List Int}(T:Tab t hs) {i:Nat}(hi:i≤t.place.size):SetTable.below t.place (slotAt t i)=i:=by
 cases i with
 |zero=>exact below_zero T
 |succ k=>
  have hk:k<t.place.size:=by omega
  show SetTable.below t.place (t.place.getD k 0+1)=k+1
  have:t.place.getD k 0=t.place[k]:=by simp[Array.getD,hk]
  rw[this]
  exact below_succ T.ris hk
section
variable{prog:Program}{w:World}{A:Around}{E:Value→Shared→Prop}{s:Shared}{I S:Addr}{es:List (Int×Value)}{ep:Nat}{t:SetTable}
theorem walks_text (hb:w.params.followText "set-order"=true) (hh:A.handled=none) (hne:S≠I):Walks prog w A I [I,S] [I] es.length (fun i v=>((pickOrder (w.params.setOrder S ep) es.toArray).toList.map (·.2))[i]?=some v)
  (fun i h=>IterAt h I (rawInt 0) i S es.length ep∧SetIs h S es ep t) where
 sub:=fun b hb=>by simp at hb;simp[hb]
 frame:=fun _ _ _ st hk=>⟨st.1.at fun o e=>hk I (by simp) o e,st.2.at fun o e=>hk S (by simp) o e⟩
 item:=fun i s Q E hi st hQ=>by
  have hl:(pickOrder (w.params.setOrder S ep) es.toArray).toList.length=es.length:=by have:=(pick_perm (w.params.setOrder S ep) es.toArray).length_eq;simpa using this
  have hi':i<(pickOrder (w.params.setOrder S ep) es.toArray).size:=by rw[←Array.length_toList];omega
  refine si_next_slot (sl:=0) (nx:=0) (v:=((pickOrder (w.params.setOrder S ep) es.toArray)[i]).2) hne st.1 st.2 (fun s R E st' hR=>next_text hb st' (by rw[Array.getElem?_eq_getElem hi'];exact hR)) fun h' it' k=>?_
  exact hQ _ h' s.toks (by simp[hi']) ⟨it',st.2.at fun o e=>k S o hne e⟩ fun b o hb e=>k b o (fun z=>hb (by simp[z])) e
 done:=fun s Q E st hQ=>by
  have hl:(pickOrder (w.params.setOrder S ep) es.toArray).size=es.length:=by have:=(pick_perm (w.params.setOrder S ep) es.toArray).length_eq;simpa using this
  exact si_end_slot hh st.1 st.2 (fun s R E st' hR=>next_text hb st' (by rw[Array.getElem?_eq_none (by omega)];exact hR)) fun h' k=>hQ h' s.toks fun b o hb e=>k b o (fun z=>hb (by simp[z])) e
 self:=fun _ _ _ _ st hQ=>si_self st.1 hQ
theorem walks_slot (hb:w.params.followText "set-order"=false) (hled:t.led=true) (hpl:(!t.plain&&decide (es.toArray.size>1))=false) (hh:A.handled=none) (hne:S≠I):Walks prog w A I [I,S] [I] es.length (fun i v=>(es.map (·.2))[i]?=some v)
  (fun i h=>IterAt h I (rawInt (slotAt t i)) i S es.length ep∧SetIs h S es ep t) where
 sub:=fun b hb=>by simp at hb;simp[hb]
 frame:=fun _ _ _ st hk=>⟨st.1.at fun o e=>hk I (by simp) o e,st.2.at fun o e=>hk S (by simp) o e⟩
 item:=fun i s Q E hi st hQ=>by
  have hl:=st.2.tab.len
  rw[List.length_map]at hl
  have hip:i<t.place.size:=by omega
  refine si_next_slot (sl:=slotAt t i) (nx:=slotAt t (i+1)) (v:=es[i].2) hne st.1 st.2 (fun s R E st' hR=>next_slot hb st' hled hpl (by
   rw[below_slotAt st.2.tab (by omega)]
   rw[show es.toArray[i]?=some es[i] by simp[hi],Array.getElem?_eq_getElem hip]
   dsimp only
   have:slotAt t (i+1)=t.place[i]+1:=by show t.place.getD i 0+1=_;simp[Array.getD,hip]
   rw[this]at hR
   exact hR)) fun h' it' k=>?_
  exact hQ _ h' s.toks (by simp[hi]) ⟨it',st.2.at fun o e=>k S o hne e⟩ fun b o hb e=>k b o (fun z=>hb (by simp[z])) e
 done:=fun s Q E st hQ=>by
  have hl:=st.2.tab.len
  rw[List.length_map]at hl
  exact si_end_slot hh st.1 st.2 (fun s R E st' hR=>next_slot hb st' hled hpl (by
   rw[below_slotAt st.2.tab (by omega)]
   rw[show es.toArray[es.length]?=none by simp]
   exact hR)) fun h' k=>hQ h' s.toks fun b o hb e=>k b o (fun z=>hb (by simp[z])) e
 self:=fun _ _ _ _ st hQ=>si_self st.1 hQ
theorem walks_drawn {T:Addr}{ps:List Nat}(hp:ps.Perm (List.range es.length)) (hh:A.handled=none) (hne:S≠I) (hTI:T≠I):Walks prog w A I [I,S,T] [I] es.length (fun i v=>((ps.filterMap (es[·]?)).map (·.2))[i]?=some v)
  (fun i h=>IterAt h I (.ref T) i S es.length ep∧SetIs h S es ep t∧∃o n,h.get? T=some o∧o.data=.seq (ps.map fun(k:Nat)=>rawInt k).toArray n) where
 sub:=fun b hb=>by simp at hb;simp[hb]
 frame:=fun _ _ _ st hk=>⟨st.1.at fun o e=>hk I (by simp) o e,st.2.1.at fun o e=>hk S (by simp) o e,by obtain⟨o,n,e,r⟩:=st.2.2;exact⟨o,n,hk T (by simp) o e,r⟩⟩
 item:=fun i s Q E hi st hQ=>by
  have hpl:=hp.length_eq
  rw[List.length_range]at hpl
  have hip:i<ps.length:=by omega
  have hpe:ps[i]<es.length:=List.mem_range.mp (hp.mem_iff.mp (List.getElem_mem hip))
  refine si_next_drawn (ps:=ps) (p:=ps[i]) (e:=es[ps[i]]) hne st.1 st.2.1 st.2.2 (by simp[hip]) (by simp[hpe]) fun h' it' k=>?_
  refine hQ _ h' s.toks ?_ ⟨it',st.2.1.at fun o e=>k S o hne e,by obtain⟨o,n,e,r⟩:=st.2.2;exact⟨o,n,k T o hTI e,r⟩⟩ fun b o hb e=>k b o (fun z=>hb (by simp[z])) e
  have e1:ps.filterMap (es[·]?)=ps.map fun k=>es.getD k (0,.none):=by
   have hall:∀k∈ps,k<es.length:=fun k hk=>List.mem_range.mp (hp.mem_iff.mp hk)
   clear hpl hip hpe hp hi hQ st
   induction ps with
   |nil=>rfl
   |cons k ps ih=>
    have hk:=hall k (List.mem_cons_self ..)
    rw[List.filterMap_cons,List.getElem?_eq_getElem hk,List.map_cons,ih fun z hz=>hall z (List.mem_cons_of_mem _ hz)]
    simp[hk]
  rw[e1]
  simp[hip,hpe]
 done:=fun s Q E st hQ=>by
  have hpl:=hp.length_eq
  rw[List.length_range]at hpl
  exact si_end_drawn hh st.1 st.2.1 st.2.2 (by rw[List.getElem?_eq_none (by omega)]) fun h' k=>hQ h' s.toks fun b o hb e=>k b o (fun z=>hb (by simp[z])) e
 self:=fun _ _ _ _ st hQ=>si_self st.1 hQ
end
end L2
namespace L2
open PySem PySem.Spec PyProof.Rows
theorem setDrawn_eq (a:Addr):setDrawn a=(do
  let (es,_,t) ←setState a
  let byText ←setsByText
  return !byText&&(!t.plain&&es.size>1)):=rfl
theorem nolen_set:typeLookup (.type "set") "__len__"=pure (some (.builtin "set.__len__")):=F.slot_set_len.lookup
section
variable{prog:Program}{w:World}{A:Around}{E:Value→Shared→Prop}{s:Shared}{S:Addr}{es:List (Int×Value)}{ep:Nat}{t:SetTable}
theorem iter_set (st:SetIs s.heap S es ep t) (hled:t.led=ledOf w) (hn:es.length≤1000) {Q:Value→Shared→Prop}
  (hQ:∀(I:Addr) (vs:List Value) (fp:List Addr) (St:Nat→Heap→Prop) (h':Heap) (d:Drawn),vs.Perm (es.map (·.2))→(∀A':Around,A'.handled=none→Walks prog w A' I fp [I] es.length (fun i v=>vs[i]?=some v) St)→St 0 h'→
   (∀b o,s.heap.get? b=some o→h'.get? b=some o)→s.heap.objs.size≤I→I∈fp→(∀b∈fp,b=S∨s.heap.objs.size≤b)→Q (.ref I) {s with heap:=h',drawn:=d}):wpAny (model prog w) A (pyIter (.ref S)) Q E s:=by
 obtain⟨os,hos,hex,hds⟩:=id st.ob
 have hT:s.TypeIs (.ref S) "set":=⟨os,hos,hex.1⟩
 have hSlt:S<s.heap.objs.size:=Heap.lt_size hos
 refine wpAny_pyIter_slot hT F.slot_set_iter (wpAny_call_entry F.slot_set_iter hT entry_set_iter' ?_ (F.args_set_iter_1 _))
 unfold Builtin.«frozenset.__iter__» Builtin.Frozenset.slot0 slotArgs
 simp only[List.isEmpty_nil,Bool.not_true,Bool.false_eq_true,↓reduceIte,bind_assoc,List.length_nil,bne_self_eq_false]
 unfold Builtin.Frozenset.addrOf Builtin.Frozenset.sizeOf
 refine wpAny_bind (wpAny_pure ?_)
 try dsimp only
 refine wpAny_bind (wpAny_pure ?_)
 refine wpAny_bind (wpAny_bind (wpAny_setEntries_of hos hds st.fits (wpAny_pure ?_)))
 refine wpAny_bind ?_
 rw[setDrawn_eq]
 refine wpAny_bind (wpAny_setState_of hos hds st.fits ?_)
 dsimp only
 refine wpAny_bind ?_
 unfold setsByText
 refine wpAny_bind (wpAny_askSetting (wpAny_pure ?_))
 refine wpAny_pure ?_
 have hsz:es.toArray.size=es.length:=by simp
 show wpAny _ _ (if(!w.params.followText "set-order"&&(!t.plain&&decide (es.toArray.size>1)))=true then _ else _) _ _ _
 by_cases hdr:(!w.params.followText "set-order"&&(!t.plain&&decide (es.toArray.size>1)))=true
 ·rw[if_pos hdr]
  refine wpAny_bind (draw_order es.toArray.size (List.range es.toArray.size) s _ (by simp) fun ps d hp=>?_)
  rw[hsz]at hp⊢
  have hpl:=hp.length_eq
  rw[List.length_range]at hpl
  unfold newTuple
  refine wpAny_bind (wpAny_newObj_type ?_ (by show(ps.map fun(i:Nat)=>rawInt i).toArray.size≤sizeLine;rw[sizeLine_eq];simp;omega))
  have g1:(s.heap.push {cls:=.type "tuple",data:=.seq (ps.map fun(i:Nat)=>rawInt i).toArray}).get? S=some os:=Heap.get?_push_of_some _ hos
  refine wpAny_bind (wpAny_setEpoch_of (s:={s with heap:=s.heap.push {cls:=.type "tuple",data:=.seq (ps.map fun(i:Nat)=>rawInt i).toArray},drawn:=d}) g1 hds st.fits ?_)
  unfold newFields
  refine wpAny_bind (wpAny_newObj_type ?_ (by size_fits))
  refine wpAny_pure ⟨_,rfl,"set_iterator",_,⟨_,Heap.get?_push_size _ rfl,rfl⟩,slot_si_next.lookup,?_⟩
  have sz1:(s.heap.push {cls:=.type "tuple",data:=.seq (ps.map fun(i:Nat)=>rawInt i).toArray}).objs.size=s.heap.objs.size+1:=Heap.size_push ..
  refine hQ (s.heap.push {cls:=.type "tuple",data:=.seq (ps.map fun(i:Nat)=>rawInt i).toArray}).objs.size ((ps.filterMap (es[·]?)).map (·.2)) [(s.heap.push {cls:=.type "tuple",data:=.seq (ps.map fun(i:Nat)=>rawInt i).toArray}).objs.size,S,s.heap.objs.size] _ _ d ((order_es hp).1.map _)
   (fun A' hA'=>walks_drawn (T:=s.heap.objs.size) (ps:=ps) (es:=es) (S:=S) (ep:=ep) (t:=t) hp hA' ?_ ?_) ?_ (fun b o e=>Heap.get?_push_of_some _ (Heap.get?_push_of_some _ e)) ?_ (by simp) ?_
  ·rw[sz1];exact Nat.ne_of_lt (Nat.lt_succ_of_lt hSlt)
  ·rw[sz1];exact Nat.ne_of_lt (Nat.lt_succ_self _)
  ·exact⟨⟨_,Heap.get?_push_size _ rfl,rfl,rfl⟩,st.at fun o e=>Heap.get?_push_of_some _ (Heap.get?_push_of_some _ e),_,_,Heap.get?_push_of_some _ (Heap.get?_push_size _ rfl),rfl⟩
  ·rw[sz1];exact Nat.le_succ _
  ·intro b hb
   simp only[List.mem_cons,List.not_mem_nil,or_false]at hb
   rcases hb with rfl|rfl|rfl
   ·right;rw[sz1];exact Nat.le_succ _
   ·left;rfl
   ·right;exact Nat.le_refl _
 ·rw[if_neg hdr]
  refine wpAny_bind (wpAny_pure ?_)
  refine wpAny_bind (wpAny_setEpoch_of hos hds st.fits ?_)
  unfold newFields
  refine wpAny_bind (wpAny_newObj_type ?_ (by size_fits))
  refine wpAny_pure ⟨_,rfl,"set_iterator",_,⟨_,Heap.get?_push_size _ rfl,rfl⟩,slot_si_next.lookup,?_⟩
  rw[hsz]
  have fin:∀(vs:List Value) (St:Nat→Heap→Prop),vs.Perm (es.map (·.2))→(∀A':Around,A'.handled=none→Walks prog w A' s.heap.objs.size [s.heap.objs.size,S] [s.heap.objs.size] es.length (fun i v=>vs[i]?=some v) St)→
    St 0 (s.heap.push {cls:=.type "set_iterator",data:=.fields [rawInt 0,rawInt 0,.ref S,rawInt es.length,rawInt ep].toArray})→
    Q (.ref s.heap.objs.size) {s with heap:=s.heap.push {cls:=.type "set_iterator",data:=.fields [rawInt 0,rawInt 0,.ref S,rawInt es.length,rawInt ep].toArray}}:=fun vs St hp W h0=>by
   refine hQ s.heap.objs.size vs [s.heap.objs.size,S] St _ s.drawn hp W h0 (fun b o e=>Heap.get?_push_of_some _ e) (Nat.le_refl _) (by simp) fun b hb=>?_
   simp only[List.mem_cons,List.not_mem_nil,or_false]at hb
   rcases hb with rfl|rfl
   ·exact .inr (Nat.le_refl _)
   ·exact .inl rfl
  cases hbt:w.params.followText "set-order" with
  |true=>
   refine fin _ _ ?_ (fun A' hA'=>walks_text (S:=S) (es:=es) (ep:=ep) (t:=t) hbt hA' (Nat.ne_of_lt hSlt)) ⟨⟨_,Heap.get?_push_size _ rfl,rfl,rfl⟩,st.at fun o e=>Heap.get?_push_of_some _ e⟩
   have:=(pick_perm (w.params.setOrder S ep) es.toArray).map (·.2)
   simpa using this
  |false=>
   have hpl:(!t.plain&&decide (es.toArray.size>1))=false:=by
    rw[hbt]at hdr
    simpa using hdr
   exact fin _ _ (List.Perm.refl _) (fun A' hA'=>walks_slot (S:=S) (es:=es) (ep:=ep) (t:=t) hbt (by rw[hled,ledOf,hbt];rfl) hpl hA' (Nat.ne_of_lt hSlt)) ⟨⟨_,Heap.get?_push_size _ rfl,rfl,rfl⟩,st.at fun o e=>Heap.get?_push_of_some _ e⟩
theorem collect_set (hh:A.handled=none) (st:SetIs s.heap S es ep t) (hled:t.led=ledOf w) (hn:es.length≤1000) {Q:List Value→Shared→Prop}
  (hQ:∀(vs:List Value) (h':Heap) (d:Drawn) (tk:Nat),vs.Perm (es.map (·.2))→(∀b o,s.heap.get? b=some o→h'.get? b=some o)→s.heap.objs.size≤h'.objs.size→Q vs {s with heap:=h',drawn:=d,toks:=tk}):wpAny (model prog w) A (collect (.ref S)) Q E s:=by
 obtain⟨os,hos,hex,hds⟩:=id st.ob
 have hSlt:S<s.heap.objs.size:=Heap.lt_size hos
 unfold collect
 refine wpAny_bind (wpAny_runValue (codeAny_builtin F.entry_proto_collect ?_))
 rw[Around.under_plainId F.plain_proto_collect _]
 show wpAny _ A.in1 (newList [] >>= fun l=>again (.builtin "list.__iadd__" ⟨[l,.ref S],[]⟩)) _ _ s
 refine wpAny_bind (wpAny_newObj_type ?_)
 refine wpAny_pure ⟨plainId_quiet F.plain_list_iadd _,codeAny_builtin F.entry_list_iadd ?_⟩
 rw[Around.under_plainId F.plain_list_iadd _]
 generalize hL:s.heap.objs.size=L
 have hst1:SetIs (s.heap.push {cls:=.type "list",data:=.seq ([]:List Value).toArray}) S es ep t:=st.at fun o e=>Heap.get?_push_of_some _ e
 have g0:(s.heap.push {cls:=.type "list",data:=.seq ([]:List Value).toArray}).get? L=some {cls:=.type "list",data:=.seq ([]:List Value).toArray}:=by rw[←hL];exact Heap.get?_push_size _ rfl
 have hS1:(s.heap.push {cls:=.type "list",data:=.seq ([]:List Value).toArray}).get? S=some os:=Heap.get?_push_of_some _ hos
 have hT1:Shared.TypeIs {s with heap:=s.heap.push {cls:=.type "list",data:=.seq ([]:List Value).toArray}} (.ref S) "set":=⟨os,hS1,hex.1⟩
 show wpAny _ A.in1 (Builtin.List.listExtendWith (.ref L) (.ref S) (.ref L)) _ _ _
 unfold Builtin.List.listExtendWith
 refine wpAny_bind (wpAny_typeOf hT1 ?_)
 have h1:Builtin.List.listSameRef (.ref L) (.ref S)=false:=by simp[Builtin.List.listSameRef];rw[←hL];exact Nat.ne_of_gt hSlt
 have h2:(Value.type "set"==Value.type "list")=false:=by decide
 have h3:(Value.type "set"==Value.type "tuple")=false:=by decide
 simp only[h1,h2,h3,Bool.or_false,Bool.false_eq_true,if_false]
 refine wpAny_bind (iter_set (s:={s with heap:=s.heap.push {cls:=.type "list",data:=.seq ([]:List Value).toArray}}) hst1 hled hn fun I vs fp St h' d hp W hS0 hk hI hIf hfp=>?_)
 have hT2:Shared.TypeIs {s with heap:=h',drawn:=d} (.ref S) "set":=⟨os,hk S os hS1,hex.1⟩
 have gL:h'.get? L=some {cls:=.type "list",data:=.seq ([]:List Value).toArray}:=hk L _ g0
 refine wpAny_bind (wpAny_holding ?_)
 unfold Builtin.List.listLengthHint
 refine wpAny_bind (wpAny_specialOf hT2 nolen_set ?_)
 generalize hid:("set.__len__":String)=id0
 wp_delta
 rw[show splitId id0=some ("set","__len__") from by subst hid;decide +kernel]
 subst hid
 dsimp only
 refine wpAny_bind (wpAny_isInstance (b:=true) hT2 (by rw[isSubtype_type];kernel_rfl) ?_)
 rw[if_neg (by decide)]
 rw[if_pos (by decide +kernel)]
 refine wpAny_bind (wpAny_typeOf hT2 ?_)
 dsimp only
 refine wpAny_pure ?_
 rw[if_pos (by decide +kernel)]
 refine wpAny_bind (wpAny_rule ?_)
 refine wpAny_bind ?_
 show wpAny _ A.in1 (updateSeq L (·.push .none) >>= fun _=>updateSeq L (·.pop)) _ _ _
 refine wpAny_bind (wpAny_updateSeq gL rfl ?_)
 have gL2:=Heap.get?_update_self (Obj.mapSeq (·.push Value.none)) gL rfl
 refine wpAny_updateSeq gL2 rfl ?_
 have gL3:=Heap.get?_update_self (Obj.mapSeq (·.pop)) gL2 rfl
 have oth:∀b o,b≠L→h'.get? b=some o→((h'.update L (Obj.mapSeq (·.push Value.none))).update L (Obj.mapSeq (·.pop))).get? b=some o:=
  fun b o hb e=>(Heap.get?_update_other _ _ (Ne.symm hb)).trans ((Heap.get?_update_other _ _ (Ne.symm hb)).trans e)
 have WS:=(W A.in1 (by simp[hh])).toS
 have hLS:L≠S:=by rw[←hL];exact Nat.ne_of_gt hSlt
 have hLf:L∉fp:=fun hm=>by
  rcases hfp L hm with e|e
  ·exact hLS e
  ·have e2:s.heap.objs.size+1≤L:=by have:=e;rwa[Heap.size_push]at this
   rw[hL]at e2
   exact Nat.lt_irrefl _ e2
 refine wpAny_pure ⟨plainId_quiet F.plain_extend_loop _,codeAny_extend_loopS WS (by rw[sizeLine_eq];omega) L hLf _ es.length 0 _ _ _ rfl (Nat.zero_le _)
  (WS.frame 0 ({s with heap:=h',drawn:=d}:Shared) _ s.toks hS0 (Nat.le_refl _) fun b hb o e=>oth b o (fun h=>hLf (h▸hb)) e) gL3 (ItemsOf.nil _) fun s' acc' c' hm hS' hacc=>?_⟩
 show wpAny _ A (load L >>= _) _ _ s'
 refine wpAny_bind (wpAny_load hS' ?_)
 have e1:s'.gens=s.gens:=hm.gens
 have e2:s'.drawn=d:=hm.drawn
 have e3:s'.os=s.os:=hm.os
 obtain⟨hh',gg',dd',tt',oo'⟩:=s'
 simp only at e1 e2 e3
 subst e1;subst e2;subst e3
 refine wpAny_pure (hQ acc'.toList hh' dd' tt' ?_ (fun b o e=>?_) (by rw[hL];exact Nat.le_of_lt (Heap.lt_size hS')))
 ·have:acc'.toList=vs:=by
   have hvl:=hp.length_eq
   rw[List.length_map]at hvl
   apply List.ext_getElem?
   intro j
   by_cases hj:j<acc'.size
   ·have:=hacc.2 j acc'[j] (by simp[hj])
    rw[this];simp[hj]
   ·rw[List.getElem?_eq_none (by simpa using hj),List.getElem?_eq_none (by rw[hvl,←hacc.1];omega)]
  rw[this];exact hp
 ·have hbL:b≠L:=by rw[←hL];exact Nat.ne_of_lt (Heap.lt_size e)
  have hbI:b≠I:=fun z=>by
   have h5:s.heap.objs.size+1≤I:=by have:=hI;rwa[Heap.size_push]at this
   have:=Heap.lt_size e
   rw[z]at this
   exact absurd (Nat.lt_of_lt_of_le (Nat.lt_succ_of_lt this) h5) (Nat.lt_irrefl _)
  refine hm.heap b o (by simp only[List.mem_cons,List.not_mem_nil,or_false,not_or];exact⟨hbL,hbI⟩) (oth b o hbL (hk b o (Heap.get?_push_of_some _ e)))
end
end L2
namespace L2
open PySem PySem.Spec PyProof.Rows
theorem Inv.drawn {X:Cx}{pins:List (Addr×Obj)}{σ:St}{H:Hp}{s:Shared}(I:Inv X pins σ H s) (d:Drawn):Inv X pins σ H {s with drawn:=d}:=
 ⟨I.ok,I.os,I.bare,I.base,I.loc,I.cell,I.free,I.freeC,I.pin,I.hok,I.len⟩
noncomputable def setHO (w:World) (S:Addr) (ts:List El):HO:=.ext fun h=>∃ts':List El,ts'.Perm ts∧SetAt h S (ts'.map (elE w)) (ledOf w)
section
variable{X:Cx}{sc:Bool}
theorem call_setR (hc:X.calm=true) (hu:X.A.units+64<cLine):CallR X (.type "set") (fun xs H Q=>∃B l ds ys,xs=[.ref l]∧SqL X.K H l ys∧Reps X.K B H ds ys∧(uniqD ds).length<64∧ds.all (hasH 8)=true∧(ds.all fun d=>scD d==sc)=true∧
  ∀S ts,H S=none→(∀t∈ts,ElOk X.K B H sc t)→(ts.map (·.1)).Nodup→(∀d,d∈ts.map (·.1)↔d∈ds)→Q (.ref S) (upd H S (setHO X.w S ts))):=by
 intro pins s σ H xs us Q I r h
 obtain⟨B,l,ds,ys,rfl,hq,rs,h64,hh8,hsc,q⟩:=h
 obtain⟨u,rfl,rx⟩:=vals1 r
 cases rx
 obtain⟨its,rv,pl,hz⟩:=I.list hq
 have l1:=rs.length
 have l2:=rv.length
 refine call_set_D (B:=B) (sc:=sc) I (I.ok.hd hc) (by omega) pl.isList ds (by simp;omega) (by omega) (fun i v d hv hd=>?_) fun h' tk ts hk hF=>?_
 ·obtain⟨x,hx,rx⟩:=rs.get hd
  obtain⟨u,hu',ru⟩:=rv.get hx
  have:u=v:=by
   have:its[i]?=some v:=by simpa using hv
   rw[hu']at this;exact Option.some.inj this
  subst this
  have hm:=List.mem_of_getElem? hd
  exact⟨x,rx,ru,List.all_eq_true.mp hh8 d hm,beq_iff_eq.mp (List.all_eq_true.mp hsc d hm)⟩
 ·have hfr:H s.heap.objs.size=none:=I.fresh
  refine⟨.ref s.heap.objs.size,_,I.laid (a:=s.heap.objs.size) (o:=setHO X.w s.heap.objs.size ts) (h':=h') (t':=tk) hk (Nat.le_refl _) ?_,rfl,q _ ts hfr hF.ok hF.nd hF.mem⟩
  obtain⟨o,ep,t,ho,r⟩:=hF.at'
  exact⟨⟨ts,List.Perm.refl _,o,ep,t,ho,r⟩,⟨o,ho⟩,fun h1 h2 ⟨ts',p,a⟩ k=>⟨ts',p,a.same k⟩⟩
theorem reps_els {K:Frag}{B:Addr→Prop}{H:Hp}:∀{ts:List El},(∀t∈ts,ElOk K B H sc t)→Reps K B H (ts.map (·.1)) (ts.map (·.2.1))∧Vals (ts.map (·.2.1)) (ts.map (·.2.2))
 |[],_=>⟨Reps.nil,.nil⟩
 |t::ts,h=>by
  obtain⟨a,b⟩:=reps_els (ts:=ts) fun z hz=>h z (List.mem_cons_of_mem _ hz)
  have ht:=h t (List.mem_cons_self ..)
  exact⟨Reps.cons ht.rep a,.cons ht.rel b⟩
variable{a:Expr}{fa:DEnv→Option D}{pos pos2 p p2:Pos}
end
end L2
namespace L2
open PySem
@[simp] theorem lim_eq:lim=1000000:=by decide
@[simp] theorem bindO_s {α β:Type}(a:α) (f:α→Option β):ah (some a) f=f a:=(rfl)
@[simp] theorem shO_s (d:D) (b:Bool):shO (some (d,b))=some d:=(rfl)
@[simp] theorem frO_s (ds:List D):frO (some (.lst ds,true))=some (.lst ds):=(rfl)
@[simp] theorem consO_s (a:D) (l:List D):af (some a) (some l)=some (a::l):=(rfl)
@[simp] theorem seqO_n (δ:DEnv) (k:DEnv→Option Out):seqO (some (.next δ)) k=k δ:=(rfl)
@[simp] theorem seqO_r (d:D) (b:Bool) (k:DEnv→Option Out):seqO (some (.ret d b)) k=some (.ret d b):=(rfl)
@[simp] theorem ifO_t (x y:Option Out):ifO (some true) x y=x:=(rfl)
@[simp] theorem ifO_f (x y:Option Out):ifO (some false) x y=y:=(rfl)
@[simp] theorem retO_s (d:D):retO (some d)=some (.ret d false):=(rfl)
@[simp] theorem retF_s (d:D):retF (some d)=some (.ret d true):=(rfl)
@[simp] theorem outF_r (d:D) (b:Bool):outF (some (.ret d b))=some (d,b):=(rfl)
@[simp] theorem nextO_s (δ:DEnv):nextO δ=some (.next δ):=(rfl)
@[simp] theorem setO_s (i:Nat) (d:D) (δ:DEnv) (h:i<δ.length):setO i (some d) δ=some (.next (δ.set i (some (d,false)))):=by unfold setO;simp only[if_pos h]
@[simp] theorem setF_s (i:Nat) (d:D) (δ:DEnv) (h:i<δ.length):setF i (some d) δ=some (.next (δ.set i (some (d,true)))):=by unfold setF;simp only[if_pos h]
@[simp] theorem toName_s (i:Nat) (d:D) (δ:DEnv) (h:i<δ.length):aj i d δ=some (δ.set i (some (d,false))):=by unfold aj;simp only[if_pos h]
@[simp] theorem toTup_s (υ:List D→DEnv→Option DEnv) (ds:List D) (δ:DEnv):toTup υ (.tup ds) δ=υ ds δ:=(rfl)
@[simp] theorem toCons_s (τ:D→DEnv→Option DEnv) (υ:List D→DEnv→Option DEnv) (d:D) (ds:List D) (δ:DEnv):toCons τ υ (d::ds) δ=ah (τ d δ) (υ ds):=(rfl)
@[simp] theorem toNil_s (δ:DEnv):toNil [] δ=some δ:=(rfl)
@[simp] theorem addI_s (i j:Int):addI (some (.int i)) (some (.int j))=some (.int (i+j)):=(rfl)
@[simp] theorem mulI_s (i j:Int) (h:(-(2 ^ 64)<i∧i<2 ^ 64)∨(-(2 ^ 64)<j∧j<2 ^ 64)):mulI (some (.int i)) (some (.int j))=some (.int (i*j)):=bI_eq (by unfold cMul;exact decide_eq_true h)
@[simp] theorem modI_s (i j:Int) (h:0<j):modI (some (.int i)) (some (.int j))=some (.int (i%j)):=bI_eq (by unfold cMod;exact decide_eq_true h)
@[simp] theorem divI_s (i j:Int) (h:0<j∧j<1073741824):divI (some (.int i)) (some (.int j))=some (.int (i / j)):=bI_eq (by unfold cDiv;exact decide_eq_true h)
@[simp] theorem tupO_s (ds:List D) (h:ds.length≤lim):tupO (some ds)=some (.tup ds):=by unfold tupO;simp only[if_pos h]
@[simp] theorem lstO_s (ds:List D) (h:ds.length≤lim):lstO (some ds)=some (.lst ds):=by unfold lstO;simp only[if_pos h]
@[simp] theorem lstLim_s (ds:List D):lstLim (some ds)=some (.lst ds):=(rfl)
@[simp] theorem lstL_s (ds:List D):lstL (some (.lst ds))=some ds:=(rfl)
@[simp] theorem tupL_s (ds:List D):tupL (some (.tup ds))=some ds:=(rfl)
@[simp] theorem tupleO_l (ds:List D):tupleO (some (.lst ds))=some (.tup ds):=(rfl)
@[simp] theorem lenL_l (ds:List D):lenL (some (.lst ds))=some (.int ds.length):=(rfl)
@[simp] theorem ixO_l (ds:List D) (i:Int):ixO (some (.lst ds)) (some (.int i))=atI ds i:=(rfl)
@[simp] theorem ixO_t (ds:List D) (i:Int):ixO (some (.tup ds)) (some (.int i))=atI ds i:=(rfl)
@[simp] theorem partI_s (i:Int):partI (some (.int i))=some (some i):=(rfl)
@[simp] theorem cutLO_s (ds:List D) (l u:Option Int):cutLO (some (.lst ds)) (some l) (some u)=some (.lst (cutD ds l u)):=(rfl)
@[simp] theorem cutSO_s (z:Str) (l u:Option Int) (h:z.length≤lim):cutSO (some (.str z)) (some l) (some u)=some (.str (cutS z l u)):=by unfold cutSO;simp only[if_pos h]
@[simp] theorem addS_s (x y:Str) (h:x.length+y.length≤lim):addS (some (.str x)) (some (.str y))=some (.str (x++y)):=by unfold addS;simp only[if_pos h]
@[simp] theorem findO_s (x y:Str):findO (some (.str x)) (some (.str y))=some (.int (Txt.find x y)):=(rfl)
@[simp] theorem catO_s (x y:List D) (h:x.length+y.length≤lim):catO (some (.lst x)) (some (.lst y))=some (.lst (x++y)):=by unfold catO;simp only[if_pos h]
@[simp] theorem notO_s (b:Bool):notO (some b)=some (!b):=(rfl)
@[simp] theorem tyB_s (b:Bool):tyB (some (.bl b))=some b:=(rfl)
@[simp] theorem ofB_s (b:Bool):ofB (some b)=some (.bl b):=(rfl)
@[simp] theorem orO_t (y:Option Bool):orO (some true) y=some true:=(rfl)
@[simp] theorem orO_f (y:Option Bool):orO (some false) y=y:=(rfl)
@[simp] theorem andO_t (y:Option Bool):andO (some true) y=y:=(rfl)
@[simp] theorem andO_f (y:Option Bool):andO (some false) y=some false:=(rfl)
@[simp] theorem cI_s (g:Int→Int→Bool) (i j:Int):cI g (some (.int i)) (some (.int j))=some (g i j):=(rfl)
theorem eqO_s (x y:D) (h:ok2 x y=true):eqO (some x) (some y)=some (decide (x=y)):=by unfold eqO;simp only[if_pos h]
@[simp] theorem eqO_int (i j:Int):eqO (some (.int i)) (some (.int j))=some (decide (i=j)):=by
 rw[eqO_s _ _ (by rfl)];simp only[D.int.injEq]
theorem neO_s (x y:D) (h:ok2 x y=true):neO (some x) (some y)=some (!decide (x=y)):=by unfold neO;rw[eqO_s _ _ h];rfl
theorem rng1_s (j:Int) (h: -(2 ^ 62)≤j∧j<2 ^ 62):rng1 (some (.int j))=some (rngL 0 j.toNat):=by unfold rng1;simp only[decide_eq_true h,if_true]
theorem appO_s {δ:DEnv}{i:Nat}{ds:List D}(d:D) (h:δ[i]?=some (some (.lst ds,true))) (hl:ds.length<lim):appO i (some d) δ=some (.next (δ.set i (some (.lst (ds++[d]),true)))):=by
 unfold appO rdOwn;simp only[h,if_pos hl]
@[simp] theorem rd_0 (m:Bool) (d:D) (δ:DEnv):rd m 0 (some (d,false)::δ)=some d:=(rfl)
@[simp] theorem rd_0o (d:D) (δ:DEnv):rd true 0 (some (d,true)::δ)=some d:=(rfl)
@[simp] theorem rd_1 (m:Bool) (i:Nat) (x:Option (D×Bool)) (δ:DEnv):rd m (i+1) (x::δ)=rd m i δ:=(rfl)
@[simp] theorem rdOwn_0 (d:D) (δ:DEnv):rdOwn 0 (some (d,true)::δ)=some d:=(rfl)
@[simp] theorem rdOwn_1 (i:Nat) (x:Option (D×Bool)) (δ:DEnv):rdOwn (i+1) (x::δ)=rdOwn i δ:=(rfl)
@[simp] theorem frzE_0 (d:D) (b:Bool) (δ:DEnv):frzE 0 (some (d,b)::δ)=some (d,false)::δ:=by cases b<;>rfl
@[simp] theorem frzE_1 (i:Nat) (x:Option (D×Bool)) (δ:DEnv):frzE (i+1) (x::δ)=x::frzE i δ:=by
 unfold frzE
 rw[List.getElem?_cons_succ]
 split<;>simp_all
theorem appO_u (i:Nat) (d:D) (δ:DEnv):appO i (some d) δ=(match rdOwn i δ with|some (.lst ds)=>if ds.length<lim then some (.next (δ.set i (some (.lst (ds++[d]),true)))) else none|_=>none):=by
 unfold appO
 split
 ·rename_i e1 e2;cases e2;rw[e1]
 ·rename_i h
  split
  ·rename_i ds e;exact absurd rfl (h ds d e)
  ·rfl
theorem extO_u (i:Nat) (es:List D) (δ:DEnv):extO i (some (.lst es)) δ=(match rdOwn i δ with|some (.lst ds)=>if ds.length+es.length≤lim then some (.next (δ.set i (some (.lst (ds++es),true)))) else none|_=>none):=by
 unfold extO
 split
 ·rename_i e1 e2;cases e2;rw[e1]
 ·rename_i h
  split
  ·rename_i ds e;exact absurd rfl (h ds es e)
  ·rfl
theorem runF_s {n np:Nat}{g:DEnv→Option Out}{ds:List D}(h:ds.length=np):runF n np g ds=outF (g (startD n ds)):=by unfold runF;rw[if_pos h]
theorem runF_eq {f:List D→Option (D×Bool)}{n np:Nat}{g:DEnv→Option Out}{ds:List D}{δ:DEnv}(hf:f=runF n np g) (hl:ds.length=np) (hs:startD n ds=δ):f ds=outF (g δ):=by subst hf hs;exact runF_s hl
theorem atI_in {α:Type}{xs:List α}{i:Int}(h0:0≤i) (h1:i<xs.length):∃v,v∈xs∧xs[i.toNat]?=some v∧atI xs i=some v:=by
 have hi:i.toNat<xs.length:=by omega
 refine⟨xs[i.toNat],List.getElem_mem hi,by simp[hi],?_⟩
 have:=atI_nat (xs:=xs) (j:=i.toNat) (v:=xs[i.toNat]) (by simp[hi])
 rwa[Int.toNat_of_nonneg h0]at this
theorem atI_eq {α:Type}{xs:List α}{i:Int}{v:α}(h0:0≤i) (h:xs[i.toNat]?=some v):atI xs i=some v:=by
 have:=atI_nat h
 rwa[Int.toNat_of_nonneg h0]at this
theorem compO_map {h:D→Option (Option D)}{g:D→D}:∀{ds:List D},(∀d∈ds,h d=some (some (g d)))→compO h ds=some (ds.map g)
 |[],_=>rfl
 |d::ds,e=>by
  unfold compO
  rw[e d (List.mem_cons_self ..),compO_map fun x hx=>e x (List.mem_cons_of_mem _ hx)]
  rfl
theorem compO_ex {h:D→Option (Option D)}{P:D→D→Prop}:∀{ds:List D},(∀d∈ds,∃y,h d=some (some y)∧P d y)→∃g:List D,compO h ds=some g∧g.length=ds.length∧∀(i:Nat) d,ds[i]?=some d→∃y,g[i]?=some y∧P d y
 |[],_=>⟨[],rfl,rfl,fun i d h=>by simp at h⟩
 |d::ds,e=>by
  obtain⟨y,e1,p⟩:=e d (List.mem_cons_self ..)
  obtain⟨g,e2,hl,hp⟩:=compO_ex fun x hx=>e x (List.mem_cons_of_mem _ hx)
  refine⟨y::g,?_,by simp[hl],fun i z hz=>?_⟩
  ·unfold compO;rw[e1,e2]
  ·cases i with
   |zero=>simp at hz;subst hz;exact⟨y,rfl,p⟩
   |succ i=>simpa using hp i z (by simpa using hz)
theorem runC_s {bo:Bool}{bs:List Bool}{τ:D→DEnv→Option DEnv}{ft:DEnv→Option Bool}{fe:DEnv→Option D}{δ:DEnv}{ds:List D}(h:ds.length≤lim):runC bo bs τ ft fe δ ds=compO (itemO τ ft fe (maskD bo bs δ)) ds:=by unfold runC;rw[if_pos h]
theorem loopD_inv {body:D→DEnv→Option Out}(I:List D→DEnv→Prop):∀(post pre:List D) (δ:DEnv),I pre δ→(∀p d q δ,p++d::q=pre++post→I p δ→∃δ',(body d δ=some (.next δ')∨body d δ=some (.cont δ'))∧I (p++[d]) δ')→
  ∃δ',loopD body post δ=some (.next δ')∧I (pre++post) δ'
 |[],pre,δ,h,_=>⟨δ,rfl,by simpa using h⟩
 |d::post,pre,δ,h,st=>by
  obtain⟨δ1,e1,i1⟩:=st pre d post δ rfl h
  obtain⟨δ',e',i'⟩:=loopD_inv I post (pre++[d]) δ1 i1 fun p d' q δ e i=>st p d' q δ (by simpa using e) i
  refine⟨δ',?_,by simpa using i'⟩
  unfold loopD
  rcases e1 with e1|e1<;>rw[e1]<;>exact e'
theorem loopD_all {body:D→DEnv→Option Out}(I:DEnv→Prop) {ds:List D}{δ:DEnv}(h:I δ) (st:∀d∈ds,∀δ,I δ→∃δ',(body d δ=some (.next δ')∨body d δ=some (.cont δ'))∧I δ'):∃δ',loopD body ds δ=some (.next δ')∧I δ':=by
 have:=loopD_inv (body:=body) (fun _ δ=>I δ) ds [] δ h fun p d q δ e i=>st d (by rw[List.nil_append]at e;rw[←e];simp) δ i
 simpa using this
theorem rngL_mem {lo:Int}{n:Nat}{d:D}(h:d∈rngL lo n):∃i:Nat,i<n∧d=.int (lo+i):=by
 unfold rngL at h
 obtain⟨i,hi,e⟩:=List.mem_map.mp h
 exact⟨i,List.mem_range.mp hi,e.symm⟩
theorem rngL_len (lo:Int) (n:Nat):(rngL lo n).length=n:=by unfold rngL;simp
theorem join0_len:∀(ts:List Str),(Txt.join "" ts).length=(ts.map (·.length)).sum:=by
 intro ts
 show(Builtin.Str.glued "" ts).length=_
 rw[StrLaws.glued_eq_join]
 induction ts with
 |nil=>rfl
 |cons x r ih=>
  cases r with
  |nil=>show x.length=_;simp
  |cons y r=>
   show(x++("":Str)++Str.join "" (y::r)).length=_
   rw[Str.length_append,Str.length_append,ih]
   have:Str.length ""=0:=by decide +kernel
   simp only[List.map_cons,List.sum_cons]
   omega
theorem strs_of {P:D→D→Prop}{ds g:List D}{Q:Str→Prop}(hl:g.length=ds.length) (h:∀(i:Nat) d,ds[i]?=some d→∃y,g[i]?=some y∧P d y) (hP:∀d y,P d y→∃x,y=.str x∧Q x):∃ss:List Str,g=ss.map D.str∧∀x∈ss,Q x:=by
 have hy:∀y∈g,∃x,y=.str x∧Q x:=fun y hy=>by
  obtain⟨i,hi,e⟩:=List.mem_iff_getElem.mp hy
  obtain⟨z,ez,p⟩:=h i (ds[i]'(by omega)) (by simp[show i<ds.length by omega])
  rw[List.getElem?_eq_getElem hi]at ez
  cases ez
  rw[←e]
  exact hP _ _ p
 clear h hl
 induction g with
 |nil=>exact⟨[],rfl,by simp⟩
 |cons y g ih=>
  obtain⟨x,e,q⟩:=hy y (List.mem_cons_self ..)
  obtain⟨ss,e2,q2⟩:=ih fun z hz=>hy z (List.mem_cons_of_mem _ hz)
  refine⟨x::ss,by rw[e,e2];rfl,fun z hz=>?_⟩
  rcases List.mem_cons.mp hz with hz|hz
  ·rw[hz];exact q
  ·exact q2 z hz
theorem joinO_s (z:Str) (ys:List Str) (h:(ys.map (·.length)).sum+ys.length*z.length≤16777216):joinO (some (.str z)) (some (.lst (ys.map D.str)))=some (.str (Txt.join z ys)):=by
 unfold joinO;simp only[strsD_map,if_pos h]
theorem ones_sum {ss:List Str}(h:∀x∈ss,x.length=1):(ss.map (·.length)).sum=ss.length:=by
 induction ss with
 |nil=>rfl
 |cons x r ih=>
  have h1:=h x (List.mem_cons_self ..)
  have h2:=ih fun y hy=>h y (List.mem_cons_of_mem _ hy)
  simp only[List.map_cons,List.sum_cons,List.length_cons,h1,h2];omega
theorem ixSO_in (z:Str) (i:Int) (hz:z.length≤lim) (h0:0≤i) (h1:i<z.length):∃x:Str,x.length=1∧ixSO (some (.str z)) (some (.int i))=some (.str x):=by
 obtain⟨c,_,_,e⟩:=atI_in (xs:=z.cps.toList) (i:=i) h0 (by simpa[Str.length]using h1)
 refine⟨⟨#[c]⟩,rfl,?_⟩
 unfold ixSO;simp only[if_pos hz,e]
end L2
namespace L2
open PySem PySem.Spec PyProof.Rows
section
variable{X:Cx}{c a b:Expr}{body:List Stmt}{ft:DEnv→Option Bool}{gb:DEnv→Option Out}{pos:Pos}{fa fb:DEnv→Option D}{m m' mm:Bool}
noncomputable def isNO (x:Option D):Option Bool:=match x with|some d=>some (decide (d=.non))|none=>none
theorem Rep.non {K:Frag}{B:Addr→Prop}{H:Hp}{d:D}{v:V}(r:Rep K B H d v):(v=.non)=(d=.non):=by
 cases d
 case sp k x=>
  cases k<;>simp only[Rep]at r
  ·obtain⟨p,rfl,_⟩:=r;simp
  ·obtain⟨p,o,c,u,rfl,_⟩:=r;simp
 all_goals simp only[Rep]at r
 case non=>simp[r]
 all_goals first
  |(subst r;simp)
  |(obtain⟨p,xs,rfl,_⟩:=r;simp)
theorem isN_dec {K:Frag}{B:Addr→Prop}{H:Hp}{d:D}{v:V}(r:Rep K B H d v):decide (v=.non)=decide (d=.non):=by
 by_cases h:d=.non
 ·rw[decide_eq_true h,decide_eq_true (by rw[r.non];exact h)]
 ·rw[decide_eq_false h,decide_eq_false (by rw[r.non];exact h)]
theorem isNO_some {x:Option D}{c:Bool}(h:isNO x=some c):∃d,x=some d∧c=decide (d=.non):=by
 unfold isNO at h
 split at h
 ·cases h;exact⟨_,rfl,rfl⟩
 ·cases h
theorem dt_isN {tk:Nat}{p:Pos}(ha:DE X m a fa) (hm:behindInMarks .Is (.Constant .none tk p)=false:=by rfl):DT X (.Compare a [.Is] [.Constant .none tk p] pos) (fun δ=>isNO (fa δ)):=
 (pt_cmpR op_isN ha (de_non (m:=false)) hm).imp fun σ H Q ⟨B,Hk,δ,d,R,e,k⟩=>by
  obtain⟨z,q,rfl⟩:=isNO_some e
  refine two (fb:=fun _=>some .non) R q rfl fun v u H' s R' r1 r2=>?_
  simp only[Rep]at r2
  exact⟨r2,_,rfl,by rw[isN_dec r1];exact k H' s⟩
theorem dt_notN {tk:Nat}{p:Pos}(ha:DE X m a fa) (hm:behindInMarks .IsNot (.Constant .none tk p)=false:=by rfl):DT X (.Compare a [.IsNot] [.Constant .none tk p] pos) (fun δ=>notO (isNO (fa δ))):=
 (pt_cmpR op_notN ha (de_non (m:=false)) hm).imp fun σ H Q ⟨B,Hk,δ,d,R,e,k⟩=>by
  cases h:isNO (fa δ)with
  |none=>simp only[h,notO]at e;cases e
  |some c=>
   simp only[h,notO]at e;cases e
   obtain⟨z,q,rfl⟩:=isNO_some h
   refine two (fb:=fun _=>some .non) R q rfl fun v u H' s R' r1 r2=>?_
   simp only[Rep]at r2
   exact⟨r2,_,rfl,by rw[isN_dec r1];exact k H' s⟩
end
end L2
namespace L2
open PySem PySem.Spec PyProof.Rows
mutual
theorem KR.raw {P:Program}{w:World}{H:Hp}{h:Heap}(ok:HOk P w H h):∀{d:D}{v:V}{u:Value},KR H d v→RelV v u→RH h d u
 |.int i,v,u,r,q=>by simp only[KR]at r;subst r;obtain⟨t,rfl⟩:=q;simp only[RH];exact⟨t,rfl⟩
 |.str i,v,u,r,q=>by simp only[KR]at r;subst r;obtain⟨t,rfl⟩:=q;simp only[RH];exact⟨t,rfl⟩
 |.tup ds,v,u,r,q=>by
  simp only[KR]at r
  obtain⟨a,xs,rfl,g,rs⟩:=r
  cases q
  obtain⟨_,its,rv,ht⟩:=(show ObjOk P w H h a (.tup xs) from ok a _ g)
  simp only[RH]
  exact⟨a,its,rfl,ht,KRs.raw ok rs rv⟩
 |.non,v,u,r,_=>by simp only[KR]at r
 |.bl _,v,u,r,_=>by simp only[KR]at r
 |.lst _,v,u,r,_=>by simp only[KR]at r
 |.dT _ _,v,u,r,_=>by simp only[KR]at r
 |.dK _ _,v,u,r,_=>by simp only[KR]at r
 |.dD _ _,v,u,r,_=>by simp only[KR]at r
 |.sp _ _,v,u,r,_=>by simp only[KR]at r
theorem KRs.raw {P:Program}{w:World}{H:Hp}{h:Heap}(ok:HOk P w H h):∀{ds:List D}{xs:List V}{us:List Value},KRs H ds xs→Vals xs us→RHs h ds us
 |[],xs,us,r,q=>by simp only[KRs]at r;subst r;cases q;simp only[RHs]
 |d::ds,xs,us,r,q=>by
  simp only[KRs]at r
  obtain⟨x,t,rfl,r1,r2⟩:=r
  cases q with
  |cons q1 q2=>simp only[RHs];exact⟨_,_,rfl,KR.raw ok r1 q1,KRs.raw ok r2 q2⟩
end
mutual
theorem Rep.key {K:Frag}{B:Addr→Prop}{H:Hp}:∀{n:Nat}{d:D}{v:V},hasH n d=true→Rep K B H d v→KR H d v
 |n,.int i,v,_,r=>by simp only[Rep]at r;simp only[KR];exact r
 |n,.str i,v,_,r=>by simp only[Rep]at r;simp only[KR];exact r
 |n,.tup ds,v,h,r=>by
  simp only[Rep]at r
  obtain⟨a,xs,rfl,g,rs⟩:=r
  obtain⟨k,_,hd⟩:=hasH_tup h
  simp only[KR]
  exact⟨a,xs,rfl,g,Reps.key hd rs⟩
 |n,.non,v,h,_=>by cases n<;>simp[hasH]at h
 |n,.bl _,v,h,_=>by cases n<;>simp[hasH]at h
 |n,.lst _,v,h,_=>by cases n<;>simp[hasH]at h
 |n,.dT _ _,v,h,_=>by cases n<;>simp[hasH]at h
 |n,.dK _ _,v,h,_=>by cases n<;>simp[hasH]at h
 |n,.dD _ _,v,h,_=>by cases n<;>simp[hasH]at h
 |n,.sp _ _,v,h,_=>by cases n<;>simp[hasH]at h
theorem Reps.key {K:Frag}{B:Addr→Prop}{H:Hp}:∀{n:Nat}{ds:List D}{xs:List V},ds.all (hasH n)=true→Reps K B H ds xs→KRs H ds xs
 |n,[],xs,_,r=>by simp only[Reps]at r;simp only[KRs];exact r
 |n,d::ds,xs,h,r=>by
  rw[List.all_cons,Bool.and_eq_true]at h
  simp only[Reps]at r
  obtain⟨x,t,rfl,r1,r2⟩:=r
  simp only[KRs]
  exact⟨x,t,rfl,Rep.key h.1 r1,Reps.key h.2 r2⟩
end
mutual
theorem KR.rep {K:Frag}{B:Addr→Prop}{H:Hp}:∀{d:D}{v:V},KR H d v→Rep K B H d v
 |.int i,v,r=>by simp only[KR]at r;simp only[Rep];exact r
 |.str i,v,r=>by simp only[KR]at r;simp only[Rep];exact r
 |.tup ds,v,r=>by
  simp only[KR]at r
  obtain⟨a,xs,rfl,g,rs⟩:=r
  simp only[Rep]
  exact⟨a,xs,rfl,g,KRs.rep rs⟩
 |.non,v,r=>by simp only[KR]at r
 |.bl _,v,r=>by simp only[KR]at r
 |.lst _,v,r=>by simp only[KR]at r
 |.dT _ _,v,r=>by simp only[KR]at r
 |.dK _ _,v,r=>by simp only[KR]at r
 |.dD _ _,v,r=>by simp only[KR]at r
 |.sp _ _,v,r=>by simp only[KR]at r
theorem KRs.rep {K:Frag}{B:Addr→Prop}{H:Hp}:∀{ds:List D}{xs:List V},KRs H ds xs→Reps K B H ds xs
 |[],xs,r=>by simp only[KRs]at r;simp only[Reps];exact r
 |d::ds,xs,r=>by
  simp only[KRs]at r
  obtain⟨x,t,rfl,r1,r2⟩:=r
  simp only[Reps]
  exact⟨x,t,rfl,KR.rep r1,KRs.rep r2⟩
end
section
variable{P:Program}{w:World}{H:Hp}{h:Heap}{a:Addr}
end
section
variable{X:Cx}{pins:List (Addr×Obj)}{σ:St}{H:Hp}{s:Shared}{a b:Addr}{kvs:List (D×V)}{ep:Nat}{k:D}{v:V}{r:Value}{A:Around}{E:Value→Shared→Prop}
end
end L2
namespace L2
open PySem PySem.Spec PyProof.Rows
section
variable{X:Cx}{pos cpos apos p:Pos}{m m' mm:Bool}{a b c:Expr}{fa fb fc:DEnv→Option D}
noncomputable def bolsD:List D→Option (List Bool)
 |[]=>some []
 |.bl b::ds=>(match bolsD ds with|some bs=>some (b::bs)|none=>none)
 |_=>none
theorem bolsD_some:∀{ds:List D}{bs:List Bool},bolsD ds=some bs→ds=bs.map D.bl
 |[],bs,h=>by cases h;rfl
 |.bl b::ds,bs,h=>by
  simp only[bolsD]at h
  split at h
  ·rename_i bs' q
   cases h
   rw[bolsD_some q];rfl
  ·cases h
 |.non::ds,bs,h=>by simp[bolsD]at h
 |.int _::ds,bs,h=>by simp[bolsD]at h
 |.str _::ds,bs,h=>by simp[bolsD]at h
 |.tup _::ds,bs,h=>by simp[bolsD]at h
 |.lst _::ds,bs,h=>by simp[bolsD]at h
 |.dT _ _::ds,bs,h=>by simp[bolsD]at h
 |.dK _ _::ds,bs,h=>by simp[bolsD]at h
 |.dD _ _::ds,bs,h=>by simp[bolsD]at h
 |.sp _ _::ds,bs,h=>by simp[bolsD]at h
theorem Reps.bols {K:Frag}{B:Addr→Prop}{H:Hp}:∀{bs:List Bool}{xs:List V},Reps K B H (bs.map D.bl) xs→xs=bs.map V.bl
 |[],xs,r=>r
 |b::bs,xs,r=>by
  rw[List.map_cons]at r
  simp only[Reps]at r
  obtain⟨x,t,rfl,r1,r2⟩:=r
  simp only[Rep]at r1
  rw[r1,Reps.bols r2];rfl
end
end L2
namespace L2
open PySem PySem.Spec PyProof.Rows
section
variable{K:Frag}{B:Addr→Prop}{Hk H H' H1:Hp}
theorem NRep.ext {d:D}{v:V}(h:NRep K B Hk H d v) (s:Same H H') (x:Ext B H H'):NRep K B Hk H' d v:=by
 cases d with
 |lst es=>obtain⟨b,xs,h1,h2,h3,h4⟩:=h;exact⟨b,xs,h1,h2,s _ _ h3,h4.ext x⟩
 |_=>exact Rep.ext x h
theorem NReps.ext (s:Same H H') (x:Ext B H H'):∀{ds:List D}{vs:List V},NReps K B Hk H ds vs→NReps K B Hk H' ds vs
 |[],vs,h=>h
 |d::ds,vs,h=>by obtain⟨y,r,e,h1,h2⟩:=h;exact⟨y,r,e,h1.ext s x,NReps.ext s x h2⟩
theorem NReps.get:∀{ds:List D}{vs:List V}{j:Nat}{d:D},NReps K B Hk H ds vs→ds[j]?=some d→∃v,vs[j]?=some v∧NRep K B Hk H d v
 |[],vs,j,d,h,e=>by simp at e
 |c::ds,vs,j,d,h,e=>by
  obtain⟨y,r,rfl,h1,h2⟩:=h
  cases j with
  |zero=>simp only[List.getElem?_cons_zero,Option.some.injEq]at e;subst e;exact⟨y,rfl,h1⟩
  |succ j=>simp only[List.getElem?_cons_succ]at e⊢;exact NReps.get h2 e
theorem RepT.ext {d:D}{v:V}(h:RepT K B Hk H d v) (s:Same H H') (x:Ext B H H'):RepT K B Hk H' d v:=by
 cases d with
 |tup ds=>obtain⟨a,vs,h1,h2,h3⟩:=h;exact⟨a,vs,h1,s _ _ h2,NReps.ext s x h3⟩
 |_=>exact h
theorem ObR.more {B':Addr→Prop}{d:D}{a:Addr}(h:ObR K B H d a) (e:∀a,B a→B' a):ObR K B' H d a:=by
 cases d with
 |lst ds=>obtain⟨xs,h1,h2⟩:=h;exact⟨xs,h1,Reps.more e h2⟩
 |dT ks ds=>obtain⟨xs,h1,h0,h2⟩:=h;exact⟨xs,h1,h0,Reps.more e h2⟩
 |dK ks ds=>obtain⟨xs,h1,h0,h2⟩:=h;exact⟨xs,h1,h0,Reps.more e h2⟩
 |dD ks ds=>obtain⟨xs,h1,h0,h2⟩:=h;exact⟨xs,h1,h0,Reps.more e h2⟩
 |_=>exact(show False from h).elim
noncomputable def BN (B:Addr→Prop) (H1 H:Hp) (b:Addr):Prop:=B b∨(H1 b=none∧∃xs,H b=some (.lst xs))
theorem NRep.view {d:D}{v:V}(h:NRep K B H1 H d v):Rep K (BN B H1 H) H d v:=by
 cases d with
 |lst es=>
  obtain⟨b,xs,h1,h2,h3,h4⟩:=h
  simp only[Rep]
  exact⟨b,xs,h1,.inl ⟨.inr ⟨h2,xs,h3⟩,h3⟩,Reps.more (fun _ z=>.inl z) h4⟩
 |_=>exact Rep.more (fun _ z=>.inl z) h
theorem NReps.view:∀{ds:List D}{vs:List V},NReps K B H1 H ds vs→Reps K (BN B H1 H) H ds vs
 |[],vs,h=>by rw[show vs=[] from h];exact Reps.nil
 |d::ds,vs,h=>by obtain⟨y,r,rfl,h1,h2⟩:=h;exact Reps.cons h1.view (NReps.view h2)
theorem RepT.view {d:D}{v:V}(h:RepT K B H1 H d v):Rep K (BN B H1 H) H d v:=by
 cases d with
 |tup ds=>
  obtain⟨a,vs,h1,h2,h3⟩:=h
  simp only[Rep]
  exact⟨a,vs,h1,h2,h3.view⟩
 |_=>exact(show False from h).elim
noncomputable def NewT (K:Frag) (B:Addr→Prop) (Hk:Hp) (δ:DEnv) (σ:St) (H:Hp) (d:D) (v:V):Prop:=
 ∃H1,Same Hk H1∧RepT K B H1 H d v∧∀(k:Nat) e a,δ[k]?=some (some (e,true))→σ[k]?=some (some (.ref a))→∃o,H1 a=some o
theorem NewT.same {δ:DEnv}{σ:St}{d:D}{v:V}(h:NewT K B Hk δ σ H d v) (R:Rel K B Hk δ σ H) (s:Same H H'):NewT K B Hk δ σ H' d v:=by
 obtain⟨H1,h1,h2,h3⟩:=h
 exact⟨H1,h1,h2.ext s (R.ext s),h3⟩
open Classical in
theorem Rel.view {δ:DEnv}{σ:St}{i:Nat}{d:D}{v:V}(R:Rel K B Hk δ σ H) (hv:σ[i]?=some (some v)) (n:NewT K B Hk δ σ H d v):∃B' Hk',Rel K B' Hk' (δ.set i (some (d,false))) σ H:=by
 obtain⟨H1,h1,h2,h3⟩:=n
 have hi:i<σ.length:=(List.getElem?_eq_some_iff.mp hv).1
 have hi':i<δ.length:=by rw[R.len];exact hi
 have nk:∀a o,H1 a=some o→∀z:H1 a=none∧∃xs,H a=some (.lst xs),False:=fun a o q z=>by rw[q]at z;cases z.1
 refine⟨BN B H1 H,fun a=>if H1 a=none∧∃xs,H a=some (.lst xs) then H a else Hk a,⟨fun a o q=>?_,fun a q=>?_,by simpa using R.len,fun j e q=>?_,fun j e q=>?_,fun j k e f q hjk h1 h2 h3 h4=>?_⟩⟩
 ·split at q
  ·exact q
  ·exact R.same a o q
 ·by_cases z:H1 a=none∧∃xs,H a=some (.lst xs)
  ·obtain⟨_,xs,hx⟩:=id z
   exact⟨_,by rw[if_pos z];exact hx⟩
  ·rcases q with q|q
   ·obtain⟨o,q⟩:=R.bor a q
    exact⟨o,by rw[if_neg z];exact q⟩
   ·exact(z q).elim
 ·by_cases hj:j=i
  ·subst hj
   rw[List.getElem?_set_self hi']at q
   cases q
   exact⟨v,hv,h2.view⟩
  ·rw[List.getElem?_set_ne (Ne.symm hj)]at q
   obtain⟨u,q1,q2⟩:=R.var j e q
   exact⟨u,q1,Rep.more (fun _ z=>.inl z) q2⟩
 ·by_cases hj:j=i
  ·subst hj
   rw[List.getElem?_set_self hi']at q
   cases q
  ·rw[List.getElem?_set_ne (Ne.symm hj)]at q
   obtain⟨a,q1,q2,q3⟩:=R.own j e q
   obtain⟨o,ho⟩:=h3 j e a q q1
   refine⟨a,q1,by rw[if_neg (nk a o ho)];exact q2,ObR.more (show ObR K B H e a from q3) fun _ z=>.inl z⟩
 ·have hj:¬j=i:=fun z=>by subst z;rw[List.getElem?_set_self hi']at h1;cases h1
  have hk:¬k=i:=fun z=>by subst z;rw[List.getElem?_set_self hi']at h2;cases h2
  rw[List.getElem?_set_ne (Ne.symm hj)]at h1
  rw[List.getElem?_set_ne (Ne.symm hk)]at h2
  exact R.dis j k e f q hjk h1 h2 h3 h4
theorem Rel.unset {δ:DEnv}{σ:St}{i:Nat}{v:V}(R:Rel K B Hk δ σ H) (hi:i<σ.length):Rel K B Hk (δ.set i none) (σ.set i (some v)) H:=by
 have hi':i<δ.length:=by rw[R.len];exact hi
 have key:∀(j:Nat) p,(δ.set i none)[j]?=some (some p)→j≠i∧δ[j]?=some (some p)∧(σ.set i (some v))[j]?=σ[j]?:=fun j p q=>by
  by_cases hj:j=i
  ·subst hj;rw[List.getElem?_set_self hi']at q;cases q
  ·rw[List.getElem?_set_ne (Ne.symm hj)]at q
   exact⟨hj,q,by rw[List.getElem?_set_ne (Ne.symm hj)]⟩
 refine⟨R.same,R.bor,by simpa using R.len,fun j e q=>?_,fun j e q=>?_,fun j k e f q hjk h1 h2 h3 h4=>?_⟩
 ·obtain⟨_,q1,q2⟩:=key j _ q
  obtain⟨u,q3,q4⟩:=R.var j e q1
  exact⟨u,by rw[q2];exact q3,q4⟩
 ·obtain⟨_,q1,q2⟩:=key j _ q
  obtain⟨a,q3,q4⟩:=R.own j e q1
  exact⟨a,by rw[q2];exact q3,q4⟩
 ·obtain⟨_,q1,q2⟩:=key j _ h1
  obtain⟨_,q3,q4⟩:=key k _ h2
  rw[q2]at h3
  rw[q4]at h4
  exact R.dis j k e f q hjk q1 q3 h3 h4
theorem set_none_self {δ:DEnv}{i:Nat}(h:δ[i]?=some none):δ.set i none=δ:=by
 apply List.ext_getElem?
 intro j
 by_cases hj:j=i
 ·subst hj;rw[List.getElem?_set_self (List.getElem?_eq_some_iff.mp h).1,h]
 ·rw[List.getElem?_set_ne (Ne.symm hj)]
theorem Rel.updN {δ:DEnv}{σ:St}{b:Addr}{xs ys:List V}(R:Rel K B Hk δ σ H) (s1:Same Hk H1) (h1:H1 b=none) (hb:H b=some (.lst xs)) (h3:∀(k:Nat) e a,δ[k]?=some (some (e,true))→σ[k]?=some (some (.ref a))→∃o,H1 a=some o):
  Ext B H (upd H b (.lst ys))∧Rel K B Hk δ σ (upd H b (.lst ys)):=by
 have hk:Hk b=none:=s1.free h1
 have nb:¬B b:=fun z=>by obtain⟨o,q⟩:=R.bor b z;rw[hk]at q;cases q
 have ex:Ext B H (upd H b (.lst ys)):=ext_upd hb trivial nb
 refine⟨ex,fun c o q=>?_,R.bor,R.len,fun j e q=>?_,fun j e q=>?_,R.dis⟩
 ·rw[upd_ne (ne_of_none q hk)];exact R.same c o q
 ·obtain⟨v,q1,q2⟩:=R.var j e q;exact⟨v,q1,q2.ext ex⟩
 ·obtain⟨a,q1,q2,q3⟩:=R.own j e q
  obtain⟨o,ho⟩:=h3 j e a q q1
  have na:a≠b:=fun z=>by subst z;rw[h1]at ho;cases ho
  exact⟨a,q1,q2,q3.ext ex fun o' z=>by rw[upd_ne na];exact z⟩
end
inductive tN (K:Frag) (i:Nat) (g:DEnv→Option Out) (Dn:Ends) (σ:St) (H:Hp):Prop
 |mk (B:Addr→Prop) (Hk:Hp) (δ:DEnv) (d:D) (v:V) (o:Out) (a_:Rel K B Hk δ σ H) (b_:δ[i]?=some none) (c_:σ[i]?=some (some v)) (d_:NewT K B Hk δ σ H d v) (e_:g (δ.set i (some (d,false)))=some o) (f_:OutK K B Hk H Dn o):tN K i g Dn σ H
noncomputable abbrev DNs (X:Cx) (i:Nat) (sts:List Stmt) (g:DEnv→Option Out):Prop:=PSs X sts (tN X.K i g)
noncomputable def tpO (x:Option (D×Bool)):Option D:=match x with|some (.tup ds,true)=>some (.tup ds)|_=>none
noncomputable def onlyRet (x:Option Out):Option Out:=match x with|some (.ret d fr)=>some (.ret d fr)|_=>none
theorem onlyRet_some {x:Option Out}{o:Out}(h:onlyRet x=some o):x=some o:=by
 unfold onlyRet at h
 split at h
 ·exact h
 ·cases h
noncomputable def apnO (i:Nat) (jx x:Option D) (δ:DEnv) (k:DEnv→Option Out):Option Out:=match δ[i]?,jx,x with
 |some (some (.tup ds,false)),some (.int j),some _=>(match atI ds j with|some (.lst es)=>if es.length<lim then k (δ.set i none) else none|_=>none)
 |_,_,_=>none
theorem apnO_some {i:Nat}{jx x:Option D}{δ:DEnv}{k:DEnv→Option Out}{o:Out}(h:apnO i jx x δ k=some o):∃ds j y es,δ[i]?=some (some (.tup ds,false))∧jx=some (.int j)∧x=some y∧atI ds j=some (.lst es)∧es.length<lim∧k (δ.set i none)=some o:=by
 unfold apnO at h
 split at h
 ·rename_i ds j y q
  split at h
  ·rename_i es he
   by_cases hl:es.length<lim
   ·rw[if_pos hl]at h;exact⟨ds,j,y,es,q,rfl,rfl,he,hl,h⟩
   ·rw[if_neg hl]at h;cases h
  ·cases h
 ·cases h
section
variable{X:Cx}{i:Nat}{x y:Str}{rest:List Stmt}{gr gb:DEnv→Option Out}{pos pos' p cpos apos px:Pos}{k:Nat}{f:List D→Option (D×Bool)}{e a b:Expr}{es:List Expr}{fs:DEnv→Option (List D)}{fa fb:DEnv→Option D}{ft:DEnv→Option Bool}
theorem dn_if {body:List Stmt}(hc:DT X e ft) (hb:DSs X body gb) (hrest:DNs X i rest gr):DNs X i (.If e body [] pos::rest) (fun δ=>ifO (ft δ) (onlyRet (gb (δ.set i none))) (gr δ)):=by
 refine(pss_cons (ps_if hc hb pss_nil) hrest).imp fun Dn σ H ⟨B,Hk,δ,d,v,o,R,hd,hv,n,e,kk⟩=>?_
 obtain⟨B',Hk',R'⟩:=R.view hv n
 unfold ifO at e
 split at e
 ·rename_i q
  refine⟨B',Hk',_,true,R',q,fun H1 s1=>iteT ?_⟩
  have e':=onlyRet_some e
  rw[List.set_set,set_none_self hd]at e'
  refine⟨B,Hk,δ,o,R.to s1,e',?_⟩
  have kk':=kk.ext (R.ext s1)
  unfold onlyRet at e
  split at e
  ·cases e;exact kk'
  ·cases e
 ·rename_i q
  refine⟨B',Hk',_,false,R',q,fun H1 s1=>iteF ?_⟩
  exact⟨B,Hk,δ,d,v,o,R.to s1,hd,hv,n.same R s1,e,kk.ext (R.ext s1)⟩
 ·cases e
theorem dn_append (n:Nm X i x) (hb:DE X false b fb) (ha:DE X false a fa) (hrest:DSs X rest gr) (hsb:PlainIx b:=by exact fun _ _=>rfl)
  (hbase:attributeBase (.Subscript (.Name x px) b p) "append" X.env (eval (.Subscript (.Name x px) b p) X.env)=eval (.Subscript (.Name x px) b p) X.env:=by rfl)
  (hfew:((backTo cpos (starEach [a] X.env)).all (fun x=>!x.1)&&(backToKw cpos (keywordEach [] X.env)).all (fun x=>x.1.isSome)&&decide (([a]).length+([]:List Keyword).length+(if([]:List Keyword).isEmpty then 0 else 1)<30))=true:=by rfl)
  (hline:(apos.endLine==cpos.line)=true:=by rfl) (hs:starEach [a] X.env=(false,eval a X.env)::starEach [] X.env:=by rfl)
  (hsw:swapsWith (.Call (.Attribute (.Subscript (.Name x px) b p) "append" apos) [a] [] cpos) none pos.line X.env=pure false:=by rfl):
  DNs X i (.Expr (.Call (.Attribute (.Subscript (.Name x px) b p) "append" apos) [a] [] cpos) pos::rest) (fun δ=>apnO i (fb (δ.set i none)) (fa (δ.set i none)) δ gr):=
 (pss_cons (ps_expr (pe_bm PySem.F.plainAttrs_list PySem.F.slot_list_append PySem.F.type_list_append mt_append (pe_ix ix_seq (pe_var n.at' n.vis n.d1 n.d2) hb hsb) (pa_cons ha pa_nil hs) hbase hfew hline hs) hsw) hrest).imp
  fun Dn σ H ⟨B,Hk,δ,d,v,o,R,hd,hv,nt,e,kk⟩=>by
  have hi:i<δ.length:=(List.getElem?_eq_some_iff.mp hd).1
  obtain⟨ds,j,y,es,h1,e2,e3,hj,hl,e4⟩:=apnO_some e
  rw[List.set_set,set_none_self hd]at e2 e3 e4
  rw[List.getElem?_set_self hi]at h1
  cases h1
  refine⟨v,hv,B,Hk,δ,_,R,e2,fun u H' s r2=>?_⟩
  simp only[Rep]at r2
  subst r2
  obtain⟨H0,n1,n2,n3⟩:=nt.same R s
  obtain⟨q,vs,rfl,hq,rs⟩:=n2
  have hj':∃jj,ixN vs.length j=some jj∧ds[jj]?=some (.lst es):=by
   unfold atI at hj
   rw[rs.length]at hj
   cases z:ixN vs.length j with
   |none=>rw[z]at hj;cases hj
   |some jj=>rw[z]at hj;exact⟨jj,rfl,hj⟩
  obtain⟨jj,z1,z2⟩:=hj'
  obtain⟨w,hw,b',xs,rfl,nb,hb',rxs⟩:=rs.get z2
  refine .inr (.inl ⟨q,vs,j,.ref b',rfl,rfl,SqT.of hq,by unfold atI;rw[z1];exact hw,.inl ⟨rfl,xs,SqL.of hb'⟩,oneA (R.to s) e3 fun v2 H2 s2 R2 r3=>?_⟩)
  have hb2:=s2 b' _ hb'
  obtain⟨x1,x2⟩:=R2.updN (ys:=xs++[v2]) n1 nb hb2 n3
  exact⟨b',xs,v2,rfl,rfl,hb2,by rw[←rxs.length];exact Nat.lt_of_lt_of_le hl (lim_line (Nat.le_refl _)),B,Hk,δ,o,x2,e4,kk.ext (((R.ext s).trans ((R.to s).ext s2)).trans x1)⟩
end
inductive tNA (K:Frag) (f:DEnv→Option (List D)) (σ:St) (H:Hp) (Q:(List V→Hp→Prop)):Prop
 |mk (B:Addr→Prop) (Hk:Hp) (δ:DEnv) (ds:List D) (a_:Rel K B Hk δ σ H) (b_:f δ=some ds) (c_:∀vs H',Same H H'→NReps K B Hk H' ds vs→Q vs H'):tNA K f σ H Q
noncomputable abbrev DNA (X:Cx) (es:List Expr) (f:DEnv→Option (List D)):Prop:=PA X es (tNA X.K f)
noncomputable def newN (x:Option D):Option D:=match x with|some (.lst ds)=>some (.lst ds)|_=>none
theorem newN_some {x:Option D}{d:D}(h:newN x=some d):∃ds,x=some (.lst ds)∧d=.lst ds:=by
 unfold newN at h
 split at h
 ·cases h;exact⟨_,rfl,rfl⟩
 ·cases h
section
variable{X:Cx}{i:Nat}{x:Str}{e:Expr}{es:List Expr}{fs:DEnv→Option (List D)}{fe:DEnv→Option D}{pos px:Pos}
theorem dna_nil:DNA X [] (fun _=>some []):=pa_nil.imp fun σ H Q ⟨B,Hk,δ,d,R,e,k⟩=>by cases e;exact k [] H (Same.refl H) rfl
end
end L2
namespace L2
open PySem PySem.Spec PyProof.Rows
theorem ObjOk.obj {P:Program}{w:World}{H:Hp}{h:Heap}{a:Addr}{u:HO}(hob:ObjOk P w H h a u):∃o,h.get? a=some o:=by
 cases u with
 |lst xs=>obtain⟨_,_,_,_,e⟩:=hob;exact⟨_,e⟩
 |tup xs=>obtain⟨_,_,_,o,e,_⟩:=hob;exact⟨_,e⟩
 |dK kvs=>obtain⟨_,_,_,_,o,_,_,e,_⟩:=hob;exact⟨_,e⟩
 |dD kvs ep=>obtain⟨_,_,_,_,o,_,e,_⟩:=hob;exact⟨_,e⟩
 |dT kvs=>obtain⟨_,_,_,_,o,_,_,e,_⟩:=hob;exact⟨_,e⟩
 |set S n=>obtain⟨o,_,_,_,e,_⟩:=hob;exact⟨_,e⟩
 |ins C dx fs=>obtain⟨_,_,_,e,_⟩:=hob;exact⟨_,e⟩
 |own y=>exact hob
 |xd fs=>obtain⟨_,⟨o,_,_,e,_⟩,_⟩:=hob;exact⟨o,e⟩
 |rng lo hi=>obtain⟨_,_,_,e⟩:=hob;exact⟨_,e⟩
 |frz ob u=>exact⟨_,hob.1⟩
 |tbl ps=>exact⟨_,hob⟩
 |met f y=>exact⟨_,hob⟩
 |ext φ=>obtain⟨_,⟨_,e⟩,_⟩:=hob;exact⟨_,e⟩
structure Fly (P:Program) (w:World) (K:Frag) (C:Str) (l:List Env) (fl:Value) (a:Addr) (a0:Value) (B:Heap) (H H':Hp) (s:Shared) (c:Addr) (s':Shared):Prop where
 os:s'.os=s.os
 bare:AllBare s'.gens
 cls:PySem.W.nsIn K mainGlobals C=some (some (.ref c))
 same:Same H H'
 free:∀b o,s.heap.get? b=some o→H b=none→H' b=none
 slot:∀b o,s.heap.get? b=some o→b∈frs l→∃sl,s'.heap.get? b=some {o with slots:=sl}
 stay:B.StaysIn s'.heap
 new:B.get? a=none
 fun_:s'.heap.FunFrames B l
 tr:s'.heap.TracedAtW B a (.ref c) a0 fl
 old:∀b o,s.heap.get? b=some o→H b=none→b∉frs l→B.get? b=some o
 ok:HOk P w H' B
section
variable{P:Program}{w:World}{K:Frag}{C:Str}{l:List Env}{fl fl':Value}{H H':Hp}{s s':Shared}{a c:Addr}{a0:Value}{B:Heap}
theorem Fly.hok (F:Fly P w K C l fl a a0 B H H' s c s'):HOk P w H' s'.heap:=F.ok.kept F.stay
theorem Fly.notrk (F:Fly P w K C l fl a a0 B H H' s c s'):H' a=none:=by
 cases q:H' a with
 |none=>rfl
 |some u=>
  obtain⟨o,e⟩:=ObjOk.obj (F.ok a u q)
  rw[F.new]at e;cases e
theorem Fly.un (F:Fly P w K C l fl a a0 B H H' s c s'):Un (frs l) [] H H' s.heap s'.heap:=by
 refine⟨fun b o q n hb _=>F.stay b o (F.old b o q n hb),fun b o q _ hb _=>F.slot b o q hb,fun b o q n _=>F.free b o q n,fun b o q _=>?_,fun b xs q=>F.same _ _ q,fun b o u q=>F.same _ _ q,fun b ps q=>⟨#[],by rw[F.same _ _ q];simp⟩⟩
 cases hb:H b with
 |none=>
  by_cases z:b∈frs l
  ·obtain⟨sl,x⟩:=F.slot b o q z;exact⟨_,x⟩
  ·exact⟨o,F.stay b o (F.old b o q hb z)⟩
 |some u=>
  obtain⟨o',x⟩:=ObjOk.obj (F.ok b u (F.same _ _ hb))
  exact⟨o',F.stay b o' x⟩
theorem Fly.go {h':Heap}(F:Fly P w K C l fl a a0 B H H' s c s') (k:B.StaysIn h') (fu:h'.FunFrames B l) (tr:h'.TracedAtW B a (.ref c) a0 fl') (up:s'.heap.UpToSlots h'):
  Fly P w K C l fl' a a0 B H H' s c {s' with heap:=h'}:=by
 refine⟨F.os,F.bare,F.cls,F.same,F.free,fun b o q hb=>?_,k,F.new,fu,tr,F.old,F.ok⟩
 obtain⟨sl,x⟩:=F.slot b o q hb
 obtain⟨_,o',x',nf⟩:=F.fun_.mem hb
 rw[x]at x';cases x'
 obtain⟨sl',y⟩:=up b _ x nf
 exact⟨sl',y⟩
end
section
variable{X:Cx}{pins:List (Addr×Obj)}{σ:St}{C:Str}{fl:Value}{H H':Hp}{s s':Shared}{a c:Addr}{a0:Value}{B:Heap}
theorem Fly.inv (F:Fly X.prog X.w X.K C X.stack fl a a0 B H H' s c s') (I:Inv X pins σ H s):Inv X pins σ H' s':=
 I.call' (ch:=[]) F.os F.un F.hok F.bare fun b z=>absurd z (by simp)
end
noncomputable def CX1 (P:Program) (w:World) (K:Frag) (C:Str):CXT:=fun outer H s E e s'=>∃H' c a a0 B,e=.ref a∧Fly P w K C outer .none a a0 B H H' s c s'∧E (.ref c) none H'
noncomputable def ThrowsC (X:Cx) (C:Str) (Hk:Hp):Prop:=∀(pins:List (Addr×Obj)) (σ:St) (H H':Hp) (s:Shared) (a c:Addr) (a0:Value) (B:Heap) (s':Shared),Inv X pins σ H s→Fly X.prog X.w X.K C X.stack .none a a0 B H H' s c s'→Same Hk H'→X.xe (.ref a) s'
structure FlyAt (X:Cx) (C:Str) (fl:Value) (a:Addr) (a0:Value) (B:Heap) (H':Hp) (c:Addr) (s':Shared):Prop where
 os:s'.os=X.s₀.os
 bare:AllBare s'.gens
 cls:PySem.W.nsIn X.K mainGlobals C=some (some (.ref c))
 free:∀b o,X.s₀.heap.get? b=some o→X.H₀ b=none→b∉X.ex→H' b=none
 slot:∀b o,X.s₀.heap.get? b=some o→X.H₀ b=none→b∈frs X.stack→b∉X.ex→∃sl,s'.heap.get? b=some {o with slots:=sl}
 stay:B.StaysIn s'.heap
 new:B.get? a=none
 fun_:s'.heap.FunFrames B X.stack
 tr:s'.heap.TracedAtW B a (.ref c) a0 fl
 old:∀b o,X.s₀.heap.get? b=some o→X.H₀ b=none→b∉frs X.stack→b∉X.ex→B.get? b=some o
 ok:HOk X.prog X.w H' B
noncomputable def ThrowsF (X:Cx) (C:Str) (Hk:Hp):Prop:=∀(fl:Value) (a:Addr) (a0:Value) (B:Heap) (H':Hp) (c:Addr) (s':Shared),X.Ok→FlyAt X C fl a a0 B H' c s'→Same Hk H'→X.xe (.ref a) s'
noncomputable def ThrowsM (X:Cx) (C:Str) (Hk:Hp):Prop:=∀(pins:List (Addr×Obj)) (σ:St) (H:Hp) (s:Shared) (e c:Addr) (h':Heap) (args:List Value),Inv X pins σ H s→PySem.W.nsIn X.K mainGlobals C=some (some (.ref c))→
 Heap.MadeExcOf s.heap h' e (.ref c) args→Same Hk H→X.xe (.ref e) {s with heap:=h'}
theorem ThrowsC.passes {X:Cx}{C:Str}{Hk:Hp}(h:ThrowsC X C Hk):Passes (CX1 X.prog X.w X.K C) X (fun _ _ H'=>Same Hk H'):=
 fun pins σ H s e s' I ⟨H',c,a,a0,B,ea,F,sm⟩=>by subst ea;exact h pins σ H H' s a c a0 B s' I F sm
theorem passesNo {X:Cx}{C:Str}:Passes (CX1 X.prog X.w X.K C) X (fun _ _ _=>False):=fun _ _ _ _ _ _ _ ⟨_,_,_,_,_,_,_,z⟩=>z.elim
section
variable{X:Cx}{pins:List (Addr×Obj)}{σ:St}{C:Str}{fl:Value}{H H':Hp}{s s':Shared}{a c:Addr}{a0:Value}{B:Heap}
theorem Cx.Ok.stkOut (ok:X.Ok) {b:Addr}{o:Obj}(e:X.s₀.heap.get? b=some o) (h:b∈frs X.stack):b∈X.fs:=by
 rcases ok.stk with z|⟨z,hf⟩
 ·rw[z]at h;exact h
 ·rw[z]at h
  unfold frs at h
  rw[List.filterMap_cons,hf]at h
  rcases List.mem_cons.mp h with q|q
  ·exact absurd (Nat.lt_of_lt_of_le (Heap.lt_size e) ok.above) (by rw[q];exact Nat.lt_irrefl _)
  ·exact q
theorem Cx.Ok.outStk (ok:X.Ok) {b:Addr}(h:b∈X.fs):b∈frs X.stack:=by
 rcases ok.stk with z|⟨z,hf⟩
 ·rw[z];exact h
 ·rw[z]
  obtain⟨en,h1,h2⟩:=List.mem_filterMap.mp h
  exact List.mem_filterMap.mpr ⟨en,List.mem_cons_of_mem _ h1,h2⟩
theorem Fly.at (F:Fly X.prog X.w X.K C X.stack fl a a0 B H H' s c s') (I:Inv X pins σ H s):FlyAt X C fl a a0 B H' c s':=by
 refine⟨F.os.trans I.os,F.bare,F.cls,fun b o q n hx=>?_,fun b o q n hb hx=>?_,F.stay,F.new,F.fun_,F.tr,fun b o q n hb hx=>?_,F.ok⟩
 ·obtain⟨o',e⟩:=I.base.there b o q hx
  exact F.free b o' e (I.base.free b o q n hx)
 ·obtain⟨sl,e⟩:=I.base.slot b o q n (I.ok.stkOut q hb) hx
  obtain⟨sl',e'⟩:=F.slot b _ e hb
  exact⟨sl',e'⟩
 ·exact F.old b o (I.base.keep b o q n (fun z=>hb (I.ok.outStk z)) hx) (I.base.free b o q n hx) hb
theorem ThrowsF.toC {Hk:Hp}(h:ThrowsF X C Hk):ThrowsC X C Hk:=fun pins σ H H' s a c a0 B s' I F sm=>h .none a a0 B H' c s' I.ok (F.at I) sm
theorem FlyAt.goF {fl':Value}{h':Heap}(F:FlyAt X C fl a a0 B H' c s') (k:B.StaysIn h') (fu:h'.FunFrames B X.stack) (tr:h'.TracedAtW B a (.ref c) a0 fl') (up:∀b o,b∈frs X.stack→s'.heap.get? b=some o→(∀vs,o.data≠.fields vs)→∃sl,h'.get? b=some {o with slots:=sl}):
  FlyAt X C fl' a a0 B H' c {s' with heap:=h'}:=by
 refine⟨F.os,F.bare,F.cls,F.free,fun b o q n hb hx=>?_,k,F.new,fu,tr,F.old,F.ok⟩
 obtain⟨sl,x⟩:=F.slot b o q n hb hx
 obtain⟨_,o',x',nf⟩:=F.fun_.mem hb
 rw[x]at x';cases x'
 obtain⟨sl',y⟩:=up b _ hb x nf
 exact⟨sl',y⟩
theorem FlyAt.go {fl':Value}{h':Heap}(F:FlyAt X C fl a a0 B H' c s') (k:B.StaysIn h') (fu:h'.FunFrames B X.stack) (tr:h'.TracedAtW B a (.ref c) a0 fl') (up:s'.heap.UpToSlots h'):
  FlyAt X C fl' a a0 B H' c {s' with heap:=h'}:=F.goF k fu tr fun b o _ q nf=>up b o q nf
end
theorem note_any {M:Model}{A:Around}{E:Value→Shared→Prop}{s:Shared}{base:Heap}{env:Env}{outer:List Env}{L e:Addr}{cls a0 fl:Value}{Q:Unit→Shared→Prop}(hfr:A.frames=some (env::outer)) (hf:env.frame=some L) (st:base.StaysIn s.heap) (nw:base.get? e=none)
  (fu:s.heap.FunFrames base (env::outer)) (tr:s.heap.TracedAtW base e cls a0 fl) (h:∀h',base.StaysIn h'→h'.FunFrames base (env::outer)→h'.TracedAtW base e cls a0 (rawInt L)→s.heap.UpToSlots h'→Q () {s with heap:=h'}):wpAny M A (noteFrame (.ref e) env) Q E s:=by
 by_cases z:fl=rawInt L
 ·subst z
  exact wpAny_noteFrame_againW hf tr (h s.heap st fu tr (Heap.UpToSlots.refl _))
 obtain⟨oe,vs,T,oT,ts,g1,⟨rfl,g0⟩,g2,g3,g4,g5,g6,g7,g8⟩:=tr
 have apart:∀b o,s.heap.get? b=some o→(∀ws,o.data≠.fields ws)→b≠T:=fun b o q nf y=>by
  subst y;rw[g6]at q;cases q;exact nf ts g7
 have rest:∀b,b≠T→(s.heap.update T (Obj.mapFields (·.setIfInBounds 3 Value.none))).get? b=s.heap.get? b:=fun b y=>Heap.get?_update_other _ _ fun q=>y q.symm
 unfold noteFrame
 simp only[hf]
 refine wpAny_bind (wpAny_field g1 g2 g3 ?_)
 rw[if_pos (by simp)]
 refine wpAny_bind (wpAny_field g6 g7 g8 ?_)
 rw[if_neg (by simpa using z)]
 refine wpAny_bind (wpAny_setField g6 g7 (Array.getElem?_eq_some_iff.mp g8).1 ?_)
 have stay:base.StaysIn (s.heap.update T (Obj.mapFields (·.setIfInBounds 3 Value.none))):=fun b o q=>(rest b fun y=>by rw[y,g4]at q;cases q).trans (st b o q)
 refine wpAny_entryW hfr (fu.of_keeps fun b o q nf=>⟨o,(rest b (apart b o q nf)).trans q,rfl⟩) hf ((rest e fun y=>g5 y.symm).trans g1) stay nw g2 (Array.getElem?_eq_some_iff.mp g3).1 g0 fun h' y=>?_
 obtain⟨y1,y2,y3,y4⟩:=y
 exact h h' y1 y2 y3 fun b o q nf=>y4 b o ((rest b (apart b o q nf)).trans q) nf
section
variable{P:Program}{w:World}{K:Frag}{mg:Str→Option Value}{base:Heap}{N:List Str}{qual:Str}{scope:Scope}{f:Addr}{cd:Value}{A:Around}{outer:List Env}{s₀:Shared}{H₀:Hp}{E:XK}{C:Str}
theorem FlyAt.left {H':Hp}{s':Shared}{a c:Addr}{a0:Value}{B:Heap}{fl:Value}{h':Heap}(ok:(cxOf (CX1 P w K C) P w K mg base N qual scope f cd A outer s₀ H₀ E).Ok)
  (F:FlyAt (cxOf (CX1 P w K C) P w K mg base N qual scope f cd A outer s₀ H₀ E) C fl a a0 B H' c s') (sm:Same H₀ H') (g:Heap.FlyingW B outer a (.ref c) a0 h') (up:s'.heap.UpToSlots h'):
  Fly P w K C outer .none a a0 B H₀ H' s₀ c {s' with heap:=h'}:=by
 have nx:∀b:Addr,b∉(cxOf (CX1 P w K C) P w K mg base N qual scope f cd A outer s₀ H₀ E).ex:=fun b z=>absurd (show b∈([]:List Addr) from z) (by simp)
 obtain⟨g1,g2,g3,g4⟩:=g
 refine⟨F.os,F.bare,F.cls,sm,fun b o q hb=>F.free b o q hb (nx b),fun b o q hb=>?_,g1,g2,g3,g4,fun b o q hb hn=>?_,F.ok⟩
 ·have hb':=ok.outStk (show b∈(cxOf (CX1 P w K C) P w K mg base N qual scope f cd A outer s₀ H₀ E).fs from hb)
  obtain⟨sl,x⟩:=F.slot b o q (ok.frf b hb) hb' (nx b)
  obtain⟨_,o',x',nf⟩:=F.fun_.mem hb'
  rw[x]at x';cases x'
  obtain⟨sl',y⟩:=up b _ x nf
  exact⟨sl',y⟩
 ·exact F.old b o q hb (fun z=>hn (ok.stkOut (show _ from q) z)) (nx b)
theorem throwsF_of (hE:∀c H',PySem.W.nsIn K mainGlobals C=some (some (.ref c))→Same H₀ H'→E (.ref c) none H'):ThrowsF (cxOf (CX1 P w K C) P w K mg base N qual scope f cd A outer s₀ H₀ E) C H₀:=by
 intro fl a a0 B H' c s' ok F sm
 show wpAny (model P w) (A.deeper (envOfC qual scope s₀.heap.objs.size f cd)) (leaving (envOfC qual scope s₀.heap.objs.size f cd) (.ref a)) (fun _ s''=>CX1 P w K C outer H₀ s₀ E (.ref a) s'') (fun e' s''=>CX1 P w K C outer H₀ s₀ E e' s'') s'
 have hst:(A.deeper (envOfC qual scope s₀.heap.objs.size f cd)).frames=some (envOfC qual scope s₀.heap.objs.size f cd::outer):=ok.frames
 unfold leaving
 refine wpAny_bind (note_any (base:=B) (L:=s₀.heap.objs.size) (cls:=.ref c) (a0:=a0) (fl:=fl) hst rfl F.stay F.new F.fun_ F.tr fun h1 k1 k2 k3 k4=>?_)
 have F1:=F.go k1 k2 k3 k4
 refine wpAny_landsW (base:=B) (l:=envOfC qual scope s₀.heap.objs.size f cd::outer) (cls:=.ref c) (a0:=a0) (L:=s₀.heap.objs.size) ⟨k1,F.new,k2,k3⟩ fun h' hfl up=>?_
 obtain⟨k5,k6,⟨_,_,k7⟩,k8⟩:=hfl
 exact⟨H',c,a,a0,B,rfl,F1.left ok sm ⟨k5,k6,k7,k8⟩ up,hE c H' F.cls sm⟩
theorem throwsM_of (hE:∀c H',PySem.W.nsIn K mainGlobals C=some (some (.ref c))→Same H₀ H'→E (.ref c) none H'):ThrowsM (cxOf (CX1 P w K C) P w K mg base N qual scope f cd A outer s₀ H₀ E) C H₀:=by
 intro pins σ H s e c h1 args I hc mk sm
 show wpAny (model P w) (A.deeper (envOfC qual scope s₀.heap.objs.size f cd)) (leaving (envOfC qual scope s₀.heap.objs.size f cd) (.ref e)) (fun _ s''=>CX1 P w K C outer H₀ s₀ E (.ref e) s'') (fun e' s''=>CX1 P w K C outer H₀ s₀ E e' s'') {s with heap:=h1}
 have hst:(A.deeper (envOfC qual scope s₀.heap.objs.size f cd)).frames=some (envOfC qual scope s₀.heap.objs.size f cd::outer):=I.ok.frames
 have nx:∀b:Addr,b∉(cxOf (CX1 P w K C) P w K mg base N qual scope f cd A outer s₀ H₀ E).ex:=fun b z=>absurd (show b∈([]:List Addr) from z) (by simp)
 let l:=envOfC qual scope s₀.heap.objs.size f cd::outer
 let B:=PySem.W.hideAll s.heap (frs l)
 have hB:B.StaysIn s.heap:=fun b o q=>PySem.W.of_hideAll _ q
 have fun0:s.heap.FunFrames base l:=I.stack
 have hfu:s.heap.FunFrames B l:=PySem.W.funFrames_hide fun0 fun env he b hb=>List.mem_filterMap.mpr ⟨env,he,hb⟩
 have hok:HOk P w H B:=fun b u q=>by
  have hb:b∉frs l:=fun z=>by have:=I.stkFree b z;rw[q]at this;cases this
  refine(I.hok b u q).stay (fun c v hc r=>PySem.W.hideAll_get _ r fun z=>?_) (fun c r=>r) fun c xs r=>r
  have:=I.stkFree c z
  rcases hc with rfl|hc
  ·rw[q]at this;cases this
  ·rw[hc]at this;cases this
 refine wpAny_leaves_madeW (base:=B) hst rfl hB hfu mk fun h' t x1 x2 x3 up=>?_
 refine⟨H,c,e,.ref t,B,rfl,?_,hE c H hc sm⟩
 obtain⟨g1,g2,g3,g4⟩:=x1
 have up':s.heap.UpToSlots h':=(Heap.UpToSlots.of_keeps mk.keeps).trans up
 refine⟨I.os,I.bare,hc,sm,fun b o q hb=>I.base.free b o q hb (nx b),fun b o q hb=>?_,g1,g2,g3,g4,fun b o q hb hn=>?_,hok⟩
 ·obtain⟨sl,x⟩:=I.base.slot b o q (I.ok.frf b hb) hb (nx b)
  have hb':b∈frs l:=by
   obtain⟨en,h1,h2⟩:=List.mem_filterMap.mp hb
   exact List.mem_filterMap.mpr ⟨en,List.mem_cons_of_mem _ h1,h2⟩
  obtain⟨_,o',x',nf⟩:=hfu.mem hb'
  rw[x]at x';cases x'
  obtain⟨sl',y⟩:=up' b _ x nf
  exact⟨sl',y⟩
 ·refine PySem.W.hideAll_get _ (I.base.keep b o q hb hn (nx b)) fun z=>?_
  rcases List.mem_cons.mp (I.stkSub b z)with q1|q1
  ·have hl:b=s₀.heap.objs.size:=q1
   exact absurd (Heap.lt_size q) (by rw[hl];exact Nat.lt_irrefl _)
  ·exact hn q1
end
end L2
namespace L2
open PySem PySem.Spec PyProof.Rows
inductive tMR (K:Frag) (m:Bool) (f:DEnv→Option (Option D)) (T:Hp→Prop) (σ:St) (H:Hp) (Q:VK):Prop
 |mk (B:Addr→Prop) (Hk:Hp) (δ:DEnv) (r:Option D) (a_:Rel K B Hk δ σ H) (b_:f δ=some r) (c_:match r with
 |some d=>∀v H',Same H H'→Rep K (bset m B δ σ) H' d v→Q v H'
 |none=>T Hk):tMR K m f T σ H Q
noncomputable abbrev tMx (X:Cx) (C:Str) (m:Bool) (f:DEnv→Option (Option D)):TE:=tMR X.K m f (ThrowsF X C)
noncomputable abbrev DEc (X:Cx) (C:Str) (m:Bool) (e:Expr) (f:DEnv→Option (Option D)):Prop:=PE X e (tMR X.K m f (ThrowsC X C))
theorem PE.impT {X:Cx}{e:Expr}{m:Bool}{f:DEnv→Option (Option D)}{T T':Hp→Prop}(h:PE X e (tMR X.K m f T)) (i:∀Hk,T' Hk→T Hk):PE X e (tMR X.K m f T'):=h.imp fun σ H Q ⟨B,Hk,δ,r,R,e,k⟩=>by
 cases r with
 |none=>exact⟨B,Hk,δ,none,R,e,i Hk k⟩
 |some d=>exact⟨B,Hk,δ,some d,R,e,k⟩
inductive tFx (X:Cx) (C:Str) (f:DEnv→Option (Option D)) (σ:St) (H:Hp) (Q:VK):Prop
 |mk (B:Addr→Prop) (Hk:Hp) (δ:DEnv) (r:Option D) (a_:Rel X.K B Hk δ σ H) (b_:f δ=some r) (c_:match r with
 |some d=>∀a H',Same H H'→H a=none→ObR X.K B H' d a→Q (.ref a) H'
 |none=>ThrowsF X C Hk):tFx X C f σ H Q
inductive tAx (X:Cx) (C:Str) (m:Bool) (f:DEnv→Option (Option (List D))) (σ:St) (H:Hp) (Q:(List V→Hp→Prop)):Prop
 |mk (B:Addr→Prop) (Hk:Hp) (δ:DEnv) (r:Option (List D)) (a_:Rel X.K B Hk δ σ H) (b_:f δ=some r) (c_:match r with
 |some ds=>∀vs H',Same H H'→Reps X.K (bset m B δ σ) H' ds vs→Q vs H'
 |none=>ThrowsF X C Hk):tAx X C m f σ H Q
noncomputable abbrev DEx (X:Cx) (C:Str) (m:Bool) (e:Expr) (f:DEnv→Option (Option D)):Prop:=PE X e (tMx X C m f)
noncomputable abbrev DFx (X:Cx) (C:Str) (e:Expr) (f:DEnv→Option (Option D)):Prop:=PE X e (tFx X C f)
noncomputable abbrev DAx (X:Cx) (C:Str) (m:Bool) (es:List Expr) (f:DEnv→Option (Option (List D))):Prop:=PA X es (tAx X C m f)
noncomputable def upO {α:Type}(x:Option α):Option (Option α):=match x with|some d=>some (some d)|none=>none
noncomputable def consX (x:Option (Option D)) (y:Option (Option (List D))):Option (Option (List D)):=match x with
 |some (some d)=>(match y with|some (some ds)=>some (some (d::ds))|some none=>some none|none=>none)
 |some none=>some none
 |none=>none
noncomputable def tupX (x:Option (Option (List D))):Option (Option D):=match x with|some (some ds)=>if ds.length≤lim then some (some (.tup ds)) else none|some none=>some none|none=>none
section
variable{X:Cx}{C:Str}{m m' mm:Bool}{a b e:Expr}{es:List Expr}{fa:DEnv→Option D}{fx:DEnv→Option (Option D)}{fs:DEnv→Option (List D)}{fxs:DEnv→Option (Option (List D))}{pos p:Pos}{k:Nat}{x:Str}
theorem dex_up (h:DE X m a fa):DEx X C m a (fun δ=>upO (fa δ)):=h.imp fun σ H Q ⟨B,Hk,δ,r,R,e,k⟩=>by
 cases q:fa δ with
 |none=>simp only[q,upO]at e;cases e
 |some d=>simp only[q,upO]at e;cases e;exact⟨B,Hk,δ,d,R,q,k⟩
theorem dax_up (h:DA X m es fs):DAx X C m es (fun δ=>upO (fs δ)):=h.imp fun σ H Q ⟨B,Hk,δ,r,R,e,k⟩=>by
 cases q:fs δ with
 |none=>simp only[q,upO]at e;cases e
 |some d=>simp only[q,upO]at e;cases e;exact⟨B,Hk,δ,d,R,q,k⟩
theorem dax_cons (ha:DEx X C m e fx) (hr:DAx X C m es fxs) (hs:starEach (e::es) X.env=(false,eval e X.env)::starEach es X.env:=by rfl):DAx X C m (e::es) (fun δ=>consX (fx δ) (fxs δ)):=
 (pa_cons ha hr hs).imp fun σ H Q ⟨B,Hk,δ,l,R,e,k⟩=>by
  cases q:fx δ with
  |none=>simp only[q,consX]at e;cases e
  |some r=>
   cases r with
   |none=>simp only[q,consX]at e;cases e;exact⟨B,Hk,δ,none,R,q,k⟩
   |some d=>
    cases q2:fxs δ with
    |none=>simp only[q,q2,consX]at e;cases e
    |some r2=>
     cases r2 with
     |none=>simp only[q,q2,consX]at e;cases e;exact⟨B,Hk,δ,some d,R,q,fun v H1 s1 r1=>⟨B,Hk,δ,none,R.to s1,q2,k⟩⟩
     |some ds=>
      simp only[q,q2,consX]at e;cases e
      exact⟨B,Hk,δ,some d,R,q,fun v H1 s1 r1=>⟨B,Hk,δ,some ds,R.to s1,q2,fun vs H2 s2 r2=>k (v::vs) H2 (s1.trans s2) (Reps.cons (r1.same (R.to s1) s2) r2)⟩⟩
theorem dex_tup {x1:Nat}(h:DAx X C m es fxs):DEx X C m (.Tuple es x1 pos) (fun δ=>tupX (fxs δ)):=
 (pe_tup h).imp fun σ H Q ⟨B,Hk,δ,r,R,e,k⟩=>by
  cases q:fxs δ with
  |none=>simp only[q,tupX]at e;cases e
  |some r2=>
   cases r2 with
   |none=>simp only[q,tupX]at e;cases e;exact⟨B,Hk,δ,none,R,q,k⟩
   |some ds=>
    simp only[q,tupX]at e
    by_cases hl:ds.length≤lim
    ·rw[if_pos hl]at e;cases e
     refine⟨B,Hk,δ,some ds,R,q,fun vs H1 s1 r1=>⟨by rw[←r1.length];exact lim_line hl,fun p hp=>?_⟩⟩
     have s2:=same_upd (o:=.tup vs) hp
     refine k _ _ (s1.trans s2) ?_
     simp only[Rep]
     exact⟨p,vs,rfl,upd_same,r1.same (R.to s1) s2⟩
    ·rw[if_neg hl]at e;cases e
theorem DFx.share (h:DFx X C a fx):DEx X C m a fx:=by
 intro pins s σ H Q I hq
 obtain⟨B,Hk,δ,r,R,e,kk⟩:=hq
 cases r with
 |none=>exact h pins s σ H Q I ⟨B,Hk,δ,none,R,e,kk⟩
 |some d=>
  have h1:=h pins s σ H (fun v H'=>∃a,v=.ref a∧Same H H'∧H a=none∧ObR X.K B H' d a) I ⟨B,Hk,δ,some d,R,e,fun a H' s1 n ob=>⟨a,rfl,s1,n,ob⟩⟩
  refine thn h1 fun u s1 ⟨v,H',I1,rv,p,hv,sm,n,ob⟩=>?_
  subst hv
  obtain⟨u',hu,mu⟩:=ob.mut
  obtain⟨o,I2⟩:=I1.frz hu mu
  have hb:¬B p:=fun z=>by
   obtain⟨o',e'⟩:=R.borH p z
   rw[n]at e';cases e'
  refine⟨.ref p,_,I2,rv,kk _ _ (fun c o' r=>?_) (ob.frozen hu hb fun a h=>bset_of m a h)⟩
  rw[upd_ne (ne_of_none r n)]
  exact sm c o' r
end
inductive spX (K:Frag) (C:Str) (f:List D→Option (Option (D×Bool))) (vs:List V) (H:Hp) (Q:VK) (E:XK):Prop
 |mk (B:Addr→Prop) (ds:List D) (r:Option (D×Bool)) (a_:(∀a,B a→∃o,H a=some o)) (b_:Reps K B H ds vs) (c_:f ds=some r) (d_:match r with
 |some (d,fr)=>∀v H',Same H H'→RepR K B H H' d fr v→Q v H'
 |none=>∀c H',PySem.W.nsIn K mainGlobals C=some (some (.ref c))→Same H H'→E (.ref c) none H'):spX K C f vs H Q E
structure FnX (P:Program) (w:World) (K:Frag) (mg:Str→Option Value) (base:Heap) (k:Nat) (x C:Str) (f:List D→Option (Option (D×Bool))):Prop where
 ex:∃(p:Addr) (fd:FuncData) (ps:List Str),FnOk P w K mg base (CX1 P w K C) k p fd ps (spX K C f)∧mg x=some (.ref p)∧PySem.W.keepIn K (.ref p)=true∧Binds K fd ps []∧PySem.W.nsIn K mainGlobals x=some (some (.ref p))
noncomputable def shX (x:Option (Option (D×Bool))):Option (Option D):=match x with|some (some (d,_))=>some (some d)|some none=>some none|none=>none
section
variable{X:Cx}{C:Str}{m m' mm:Bool}{a b e:Expr}{es:List Expr}{fs:DEnv→Option (List D)}{pos p:Pos}{k:Nat}{x:Str}{f:List D→Option (Option (D×Bool))}
theorem EP.shareR {pins:List (Addr×Obj)}{σ:St}{H H1 H':Hp}{s1:Shared}{B:Addr→Prop}{Hk:Hp}{δ:DEnv}{d:D}{fr:Bool}{v:V}{u:Value}{Q:VK}(R:Rel X.K B Hk δ σ H) (I1:Inv X pins σ H' s1) (rv:RelV v u) (sm1:Same H H1) (sm2:Same H1 H')
  (rr:RepR X.K (bset m B δ σ) H1 H' d fr v) (kk:∀v H',Same H H'→Rep X.K (bset m B δ σ) H' d v→Q v H'):EP X pins σ Q u s1:=by
 cases fr with
 |false=>
  unfold RepR at rr
  rw[if_neg Bool.false_ne_true]at rr
  exact⟨v,H',I1,rv,kk v H' (sm1.trans sm2) rr⟩
 |true=>
  unfold RepR at rr
  rw[if_pos rfl]at rr
  rcases rr with⟨p,rfl,n,ob⟩|rt
  rotate_left
  ·cases d with
   |tup ts=>
    obtain⟨a,vs,rfl,ha',rs⟩:=rt
    obtain⟨H2,I2,e2,k2,r2⟩:=frzT (B:=bset m B δ σ) (Hk:=H1) (fun c z=>by obtain⟨o',e'⟩:=R.bsH m c z;exact⟨o',sm1 c o' e'⟩) ts vs H' I1 rs.m
    refine⟨.ref a,H2,I2,rv,kk _ _ (fun c o' r=>k2 c o' (sm1 c o' r) (sm2 c o' (sm1 c o' r))) ?_⟩
    simp only[Rep]
    exact⟨a,vs,rfl,e2.tups _ _ ha',r2⟩
   |_=>exact(show False from rt).elim
  obtain⟨u',hu,mu⟩:=ob.mut
  obtain⟨o,I2⟩:=I1.frz hu mu
  have hb:¬bset m B δ σ p:=fun z=>by
   obtain⟨o',e'⟩:=R.bsH m p z
   have:=sm1 p o' e'
   rw[n]at this;cases this
  refine⟨.ref p,_,I2,rv,kk _ _ (fun c o' r=>?_) (ob.frozen hu hb fun a h=>h)⟩
  rw[upd_ne (ne_of_none (sm1 c o' r) n)]
  exact sm2 c o' (sm1 c o' r)
theorem dec_call (F:FnX X.prog X.w X.K X.mg X.base k x C f) (hr:Room k X.A) (hg:Gl X x) (ha:DA X m (e::es) fs) (hdb:(x==("__debug__":Str))=false:=by decide) (he:starEach (e::es) X.env=(false,eval e X.env)::starEach es X.env:=by rfl)
  (hpl:(backTo pos (starEach es X.env)).any (·.1)=false:=by rfl):DEc X C m (.Call (.Name x p) (e::es) [] pos) (fun δ=>shX (ah (fs δ) f)):=by
 intro pins s σ H Q I hq
 obtain⟨B,Hk,δ,r,R,e,kk⟩:=hq
 obtain⟨q,fd,ps,h1,h2,h3,h4,h5⟩:=F.ex
 cases qf:ah (fs δ) f with
 |none=>simp only[qf,shX]at e;cases e
 |some r1=>
  obtain⟨ds,e1,e2⟩:=aq qf
  cases r1 with
  |none=>
   simp only[qf,shX]at e;cases e
   have th:ThrowsC X C Hk:=kk
   refine pe_call (ds:=[]) (dvs:=[]) h1 hr hg h2 h3 h4 .nil th.passes ha hdb he hpl pins s σ H Q I ⟨B,Hk,δ,ds,R,e1,fun vs H1 s1 rs=>?_⟩
   show spX X.K C f (vs++[]) H1 Q _
   rw[List.append_nil]
   exact⟨bset m B δ σ,ds,none,(R.to s1).bsH m,rs,e2,fun c H' _ s2=>R.same.trans (s1.trans s2)⟩
  |some dr=>
   obtain⟨d,fr⟩:=dr
   simp only[qf,shX]at e;cases e
   have h6:=pe_call (ds:=[]) (dvs:=[]) (p:=p) (pos:=pos) h1 hr hg h2 h3 h4 .nil passesNo ha hdb he hpl pins s σ H (fun v H'=>∃H1,Same H H1∧Same H1 H'∧RepR X.K (bset m B δ σ) H1 H' d fr v) I ⟨B,Hk,δ,ds,R,e1,fun vs H1 s1 rs=>by
    show spX X.K C f (vs++[]) H1 _ _
    rw[List.append_nil]
    exact⟨bset m B δ σ,ds,some (d,fr),(R.to s1).bsH m,rs,e2,fun v H' s2 rr=>⟨H1,s1,s2,rr⟩⟩⟩
   refine thn h6 fun u s1 ⟨v,H',I1,rv,H1,sm1,sm2,rr⟩=>EP.shareR R I1 rv sm1 sm2 rr kk
theorem DEc.toX {fx:DEnv→Option (Option D)}(h:DEc X C m a fx):DEx X C m a fx:=PE.impT h fun _ t=>t.toC
theorem pe_callL {CX:CXT}{fp:Addr}{fd:FuncData}{ps:List Str}{sp:Sp}{E:XK}{t:TA}{i:Nat}(F:FnOk X.prog X.w X.K X.mg X.base CX k fp fd ps sp) (hr:Room k X.A) (hN:X.N[i]?=some x) (hv:Vis X.env.scope x) (hk:PySem.W.keepIn X.K (.ref fp)=true) (hb:Binds X.K fd ps []) (hx:Passes CX X E)
  (ha:PA X (e::es) t) (hd:(x==("__debug__":Str))=false:=by decide) (hcd:(x==("__classdict__":Str))=false:=by decide) (he:starEach (e::es) X.env=(false,eval e X.env)::starEach es X.env:=by rfl) (hpl:(backTo pos (starEach es X.env)).any (·.1)=false:=by rfl):
  PE X (.Call (.Name x p) (e::es) [] pos) (fun σ H Q=>σ[i]?=some (some (.ref fp))∧tCall sp [] E t σ H Q):=by
 intro pins s σ H Q I ⟨hs,h⟩
 refine wpAny_Call_Name_kw (thn (pe_var hN hv hd hcd pins s σ H (fun v H'=>v=.ref fp∧H'=H) I ⟨.ref fp,hs,rfl,rfl⟩) fun v s1 ⟨x1,H1,I1,r1,q1,q2⟩=>?_)
 subst q1;subst q2
 obtain rfl:v=.ref fp:=r1
 refine PySem.W.callWith_K (h₀:=X.base) I.ok.mod.kin hk (thn (ha pos pins s1 σ H1 _ I1 h) fun us s2 ⟨vs,H2,I2,r,q⟩=>⟨I2.kIn,?_⟩) he hpl
 exact run_fn F hr hb .nil hx I2 r q
noncomputable def spO (b:Bool) (i:Nat) (y:Str) (δ:DEnv) (r:Option (Option D)):Option (Option D):=match rd b i δ with|some (.sp false z)=>if z=y then r else none|_=>none
theorem dec_callV {i:Nat}{y:Str}(F:FnX X.prog X.w X.K X.mg X.base k y C f) (hr:Room k X.A) (ha:DA X m (e::es) fs) (hN:X.N[i]?=some x) (hv:Vis X.env.scope x) (hd:(x==("__debug__":Str))=false:=by decide) (hcd:(x==("__classdict__":Str))=false:=by decide)
  (he:starEach (e::es) X.env=(false,eval e X.env)::starEach es X.env:=by rfl) (hpl:(backTo pos (starEach es X.env)).any (·.1)=false:=by rfl):DEc X C m (.Call (.Name x p) (e::es) [] pos) (fun δ=>spO false i y δ (shX (ah (fs δ) f))):=by
 intro pins s σ H Q I hq
 obtain⟨B,Hk,δ,r,R,e,kk⟩:=hq
 obtain⟨q,fd,ps,h1,h2,h3,h4,h5⟩:=F.ex
 unfold spO at e
 split at e
 rotate_left
 ·cases e
 rename_i z hz
 by_cases hzy:z=y
 rotate_left
 ·rw[if_neg hzy]at e;cases e
 subst hzy
 rw[if_pos rfl]at e
 have hσ:σ[i]?=some (some (.ref q)):=by
  have hz':δ[i]?=some (some (.sp false z,false)):=by
   unfold rd at hz
   split at hz
   ·rename_i d ow hd
    cases ow with
    |false=>simp at hz;rw[hz]at hd;exact hd
    |true=>simp at hz
   ·cases hz
  obtain⟨v,hv1,hv2⟩:=R.var i _ hz'
  simp only[Rep]at hv2
  obtain⟨p',rfl,hp'⟩:=hv2
  rw[h5]at hp';cases hp'
  exact hv1
 cases qf:ah (fs δ) f with
 |none=>simp only[qf,shX]at e;cases e
 |some r1=>
  obtain⟨ds,e1,e2⟩:=aq qf
  cases r1 with
  |none=>
   simp only[qf,shX]at e;cases e
   have th:ThrowsC X C Hk:=kk
   refine pe_callL h1 hr hN hv h3 h4 th.passes ha hd hcd he hpl pins s σ H Q I ⟨hσ,⟨B,Hk,δ,ds,R,e1,fun vs H1 s1 rs=>?_⟩⟩
   show spX X.K C f (vs++[]) H1 Q _
   rw[List.append_nil]
   exact⟨bset m B δ σ,ds,none,(R.to s1).bsH m,rs,e2,fun c H' _ s2=>R.same.trans (s1.trans s2)⟩
  |some dr=>
   obtain⟨d,fr⟩:=dr
   simp only[qf,shX]at e;cases e
   have h6:=pe_callL (p:=p) (pos:=pos) h1 hr hN hv h3 h4 passesNo ha hd hcd he hpl pins s σ H (fun v H'=>∃H1,Same H H1∧Same H1 H'∧RepR X.K (bset m B δ σ) H1 H' d fr v) I ⟨hσ,⟨B,Hk,δ,ds,R,e1,fun vs H1 s1 rs=>by
    show spX X.K C f (vs++[]) H1 _ _
    rw[List.append_nil]
    exact⟨bset m B δ σ,ds,some (d,fr),(R.to s1).bsH m,rs,e2,fun v H' s2 rr=>⟨H1,s1,s2,rr⟩⟩⟩⟩
   refine thn h6 fun u s1 ⟨v,H',I1,rv,H1,sm1,sm2,rr⟩=>EP.shareR R I1 rv sm1 sm2 rr kk
end
inductive OutX where
 |o (x:Out)|rai
noncomputable def OutKx (X:Cx) (C:Str) (B:Addr→Prop) (Hk H:Hp) (Dn:Ends):OutX→Prop
 |.o y=>OutK X.K B Hk H Dn y
 |.rai=>ThrowsF X C Hk∧ThrowsM X C Hk
theorem OutKx.ext {X:Cx}{C:Str}{B:Addr→Prop}{Hk H H1:Hp}{Dn:Ends}{o:OutX}(h:OutKx X C B Hk H Dn o) (e:Ext B H H1):OutKx X C B Hk H1 Dn o:=by
 cases o with
 |rai=>exact h
 |o y=>exact OutK.ext (show OutK X.K B Hk H Dn y from h) e
inductive tDx (X:Cx) (C:Str) (g:DEnv→Option OutX) (Dn:Ends) (σ:St) (H:Hp):Prop
 |mk (B:Addr→Prop) (Hk:Hp) (δ:DEnv) (o:OutX) (a_:Rel X.K B Hk δ σ H) (b_:g δ=some o) (c_:OutKx X C B Hk H Dn o):tDx X C g Dn σ H
noncomputable abbrev DSx (X:Cx) (C:Str) (st:Stmt) (g:DEnv→Option OutX):Prop:=PS X st (tDx X C g)
noncomputable abbrev DSsx (X:Cx) (C:Str) (sts:List Stmt) (g:DEnv→Option OutX):Prop:=PSs X sts (tDx X C g)
noncomputable def upS (x:Option Out):Option OutX:=match x with|some y=>some (.o y)|none=>none
noncomputable def seqX (x:Option OutX) (k:DEnv→Option OutX):Option OutX:=match x with|some (.o (.next δ))=>k δ|o=>o
noncomputable def ifX' (c:Option Bool) (x y:Option OutX):Option OutX:=match c with|some true=>x|some false=>y|none=>none
section
variable{X:Cx}{C:Str}{st:Stmt}{rest sts:List Stmt}{g:DEnv→Option Out}{g1 g2:DEnv→Option OutX}{pos:Pos}{a:Expr}{fx:DEnv→Option (Option D)}{fc:DEnv→Option Bool}
theorem dsx_up (h:DS X st g):DSx X C st (fun δ=>upS (g δ)):=h.imp fun Dn σ H ⟨B,Hk,δ,o,R,e,k⟩=>by
 cases q:g δ with
 |none=>simp only[q,upS]at e;cases e
 |some y=>simp only[q,upS]at e;cases e;exact⟨B,Hk,δ,y,R,q,k⟩
theorem dssx_nil:DSsx X C [] (fun δ=>some (.o (.next δ))):=pss_nil.imp fun Dn σ H ⟨B,Hk,δ,o,R,e,k⟩=>by
 cases e
 exact k σ H Ext.refl R
theorem dssx_cons (h1:DSx X C st g1) (h2:DSsx X C rest g2):DSsx X C (st::rest) (fun δ=>seqX (g1 δ) g2):=
 (pss_cons h1 h2).imp fun Dn σ H ⟨B,Hk,δ,o,R,e,k⟩=>by
  cases q:g1 δ with
  |none=>simp only[q,seqX]at e;cases e
  |some o1=>
   cases o1 with
   |rai=>simp only[q,seqX]at e;cases e;exact⟨B,Hk,δ,.rai,R,q,k⟩
   |o y=>
    cases y with
    |next δ1=>
     simp only[q,seqX]at e
     exact⟨B,Hk,δ,.o (.next δ1),R,q,fun σ' H' x R'=>⟨B,Hk,δ1,o,R',e,k.ext x⟩⟩
    |brk δ1=>simp only[q,seqX]at e;cases e;exact⟨B,Hk,δ,_,R,q,k⟩
    |cont δ1=>simp only[q,seqX]at e;cases e;exact⟨B,Hk,δ,_,R,q,k⟩
    |ret d fr=>simp only[q,seqX]at e;cases e;exact⟨B,Hk,δ,_,R,q,k⟩
theorem dssx_one (h1:DSx X C st g1):DSsx X C [st] g1:=pss_one h1
theorem dsx_if {c:Expr}{x y:List Stmt}(hc:DT X c fc) (ha:DSsx X C x g1) (hb:DSsx X C y g2):DSx X C (.If c x y pos) (fun δ=>ifX' (fc δ) (g1 δ) (g2 δ)):=
 (ps_if hc ha hb).imp fun Dn σ H ⟨B,Hk,δ,o,R,e,k⟩=>by
  unfold ifX' at e
  split at e
  ·rename_i q
   exact⟨B,Hk,δ,true,R,q,fun H1 s1=>iteT ⟨B,Hk,δ,o,R.to s1,e,k.ext (R.ext s1)⟩⟩
  ·rename_i q
   exact⟨B,Hk,δ,false,R,q,fun H1 s1=>iteF ⟨B,Hk,δ,o,R.to s1,e,k.ext (R.ext s1)⟩⟩
  ·cases e
noncomputable def dropX (x:Option (Option D)) (δ:DEnv):Option OutX:=match x with|some (some _)=>some (.o (.next δ))|some none=>some .rai|none=>none
theorem dsx_expr (h:DEx X C false a fx) (hs:swapsWith a none pos.line X.env=pure false:=by rfl):DSx X C (.Expr a pos) (fun δ=>dropX (fx δ) δ):=
 (ps_expr h hs).imp fun Dn σ H ⟨B,Hk,δ,o,R,e,k⟩=>by
  cases q:fx δ with
  |none=>simp only[q,dropX]at e;cases e
  |some r=>
   cases r with
   |none=>simp only[q,dropX]at e;cases e;exact⟨B,Hk,δ,none,R,q,k.1⟩
   |some d=>simp only[q,dropX]at e;cases e;exact⟨B,Hk,δ,some d,R,q,fun v H' s _=>k σ H' (R.ext s) (R.to s)⟩
noncomputable def setX (i:Nat) (x:Option (Option D)) (δ:DEnv):Option OutX:=match x with|some (some d)=>if i<δ.length then some (.o (.next (δ.set i (some (d,false))))) else none|some none=>some .rai|none=>none
theorem dsx_set {i:Nat}{x:Str}{pos':Pos}(hN:X.N.Nodup) (ha:DEx X C false a fx) (hi:X.N[i]?=some x:=by rfl) (hx:Loc X.env.scope x:=by first|exact Or.inl rfl|exact Or.inr rfl) (hs:swapsWith a (some (.Name x pos')) pos.line X.env=pure false:=by rfl)
  (hf:X.fn x=true∨X.env.scope.names.lookup x=some .local:=by first|exact .inl rfl|exact .inr rfl):DSx X C (.Assign [.Name x pos'] a pos) (fun δ=>setX i (fx δ) δ):=
 (ps_set hN hi hx ha hs hf).imp fun Dn σ H ⟨B,Hk,δ,o,R,e,k⟩=>by
  cases q:fx δ with
  |none=>simp only[q,setX]at e;cases e
  |some r=>
   cases r with
   |none=>simp only[q,setX]at e;cases e;exact⟨B,Hk,δ,none,R,q,k.1⟩
   |some d=>
    simp only[q,setX]at e
    by_cases hl:i<δ.length
    ·rw[if_pos hl]at e;cases e
     exact⟨B,Hk,δ,some d,R,q,fun v H' s r=>k _ H' (R.ext s) ((R.to s).set (by rw[←R.len];exact hl) r)⟩
    ·rw[if_neg hl]at e;cases e
noncomputable def retX (x:Option (Option D)):Option OutX:=match x with|some (some d)=>some (.o (.ret d false))|some none=>some .rai|none=>none
theorem dsx_ret (ha:DEx X C false a fx):DSx X C (.Return (some a) pos) (fun δ=>retX (fx δ)):=
 (ps_ret ha).imp fun Dn σ H ⟨B,Hk,δ,o,R,e,k⟩=>by
  cases q:fx δ with
  |none=>simp only[q,retX]at e;cases e
  |some r=>
   cases r with
   |none=>simp only[q,retX]at e;cases e;exact⟨B,Hk,δ,none,R,q,k.1⟩
   |some d=>
    simp only[q,retX]at e;cases e
    exact⟨B,Hk,δ,some d,R,q,fun v H' s r=>k v H' (R.ext s) (R.same.trans s) (by unfold RepR;rw[if_neg Bool.false_ne_true];exact r)⟩
end
noncomputable def outX (x:Option OutX):Option (Option (D×Bool)):=match x with|some (.o (.ret d fr))=>some (some (d,fr))|some (.o (.next _))=>some (some (.non,false))|some .rai=>some none|_=>none
noncomputable def runX (n np:Nat) (g:DEnv→Option OutX) (ds:List D):Option (Option (D×Bool)):=if ds.length=np then outX (g (startD n ds)) else none
section
variable{P:Program}{w:World}{K:Frag}{mg:Str→Option Value}{base:Heap}{C:Str}
theorem fnX_of {x qual:Str}{st:Stmt}{f:Addr}{fd:FuncData}{N ps:List Str}{k:Nat}{g:DEnv→Option OutX}(F:Fun K x qual st f fd) (S:FnScope N ps (aa st)) (hb:Binds K fd ps []) (hm:mg x=some (.ref f)) (hns:PySem.W.nsIn K mainGlobals x=some (some (.ref f))) (hn:ps.length≤N.length)
  (body:∀(cdv:Value) (A:Around) (outer:List Env) (s:Shared) (H:Hp) (E:XK),Room k (A.deeper (envOfC qual (aa st) s.heap.objs.size f cdv))→DSsx (cxOf (CX1 P w K C) P w K mg base N qual (aa st) f cdv A outer s H E) C (ai st) g):
  FnX P w K mg base (k+1) x C (runX N.length ps.length g):=by
 have key:FnOk P w K mg base (CX1 P w K C) (k+1) f fd ps (spX K C (runX N.length ps.length g)):=by
  obtain⟨oc,od,kV,doc,pm,an,cdv,ct,osl,rfl,lk,hcd⟩:=F.ex
  refine fn_of lk hcd S (fun vs H Q E h=>?_) fun A outer s H vs Q E hr h=>?_
  ·obtain⟨B,ds,r,_,hr,hf,_⟩:=h
   unfold runX at hf
   by_cases q:ds.length=ps.length
   ·rw[←hr.length,q]
   ·rw[if_neg q]at hf;cases hf
  ·obtain⟨B,ds,r,hB,hrs,hf,kk⟩:=h
   refine⟨_,body cdv A outer s H E hr,?_⟩
   unfold runX at hf
   by_cases q:ds.length=ps.length
   ·rw[if_pos q]at hf
    have R:Rel K B H (startD N.length ds) (start N vs) H:=rel_start hB hrs (by omega)
    cases qo:g (startD N.length ds)with
    |none=>rw[qo]at hf;cases hf
    |some o=>
     rw[qo]at hf
     refine⟨B,H,startD N.length ds,o,R,by first|exact qo|rfl,?_⟩
     cases o with
     |rai=>
      simp only[outX,Option.some.injEq]at hf
      subst hf
      exact⟨throwsF_of kk,throwsM_of kk⟩
     |o y=>
      cases y with
      |ret d fr'=>
       simp only[outX,Option.some.injEq]at hf
       subst hf
       exact fun v H' x s rr=>kk v H' s rr
      |next δ=>
       simp only[outX,Option.some.injEq]at hf
       subst hf
       exact fun σ' H' x R'=>kk .non H' R'.same (by unfold RepR;rw[if_neg Bool.false_ne_true];simp only[Rep])
      |brk δ=>simp only[outX]at hf;cases hf
      |cont δ=>simp only[outX]at hf;cases hf
   ·rw[if_neg q]at hf;cases hf
 exact⟨f,fd,ps,key,hm,F.kp,hb,hns⟩
end
end L2
namespace L2
open PySem PySem.Spec PyProof.Rows
noncomputable abbrev bmV:List Value:=[.type "ValueError",.type "Exception",.type "BaseException",.type "object"]
structure ErrC (K:Frag) (mg:Str→Option Value) (C:Str) (c:Addr):Prop where
 nm:PySem.W.nsIn K mainGlobals C=some (some (.ref c))
 bound:mg C=some (.ref c)
 exc:PySem.W.excIn K c bmV "ValueError.__new__"=true
theorem exc_obj {K:Frag}{h:Heap}{c:Addr}{bmB:List Value}{newId:String}(KX:K.In h) (q:PySem.W.excIn K c bmB newId=true):
  ∃tl ns nm qn bs hd sn sub ab col dd k0 k1 k2 k3 k5 mN,h.get? c=some (excClassObj nm qn c ns bs tl hd sn sub ab col dd k0 k1 k2 k3 k5 newId)∧h.Ns ns mN∧mN "__init__"=none∧OwnTail h bmB tl:=by
 unfold PySem.W.excIn at q
 split at q
 rotate_left
 ·cases q
 rename_i dd cd sl lk
 split at q
 rotate_left
 ·cases q
 rename_i c1 tl s0 s1 s2 s3 nid s5 em es
 simp only[beq_iff_eq,Bool.not_eq_true',Bool.and_eq_true]at q
 obtain⟨⟨⟨⟨⟨z1,z2⟩,z3⟩,z4⟩,z5⟩,z6⟩:=q
 subst z1;subst z2
 have hsl:sl=#[s0,s1,s2,s3,some (.builtin nid),s5]:=by
  cases sl with
  |mk l=>exact congrArg Array.mk es
 subst hsl
 have lk':=KX _ _ lk
 obtain⟨nm,bs,mro,ns,qn,hd,sn,sub,ab,col,del⟩:=cd
 cases em;cases z3
 exact⟨tl,ns,nm,qn,bs,hd,sn,sub,ab,col,dd,s0,s1,s2,s3,s5,_,lk',.of_isNs (PySem.W.isNs_of_in KX z5),PySem.W.nsMap_none_of_in KX z5 z6,PySem.W.tail_of_in KX z4⟩
section
variable{X:Cx}{C:Str}{c:Addr}{m:Bool}{a:Expr}{fa:DEnv→Option D}{np cpos pos:Pos}
noncomputable def raiO (x:Option D):Option OutX:=match x with|some _=>some .rai|none=>none
theorem dsx_raise (hc:X.calm=true) (ec:ErrC X.K X.mg C c) (hg:Gl X C) (ha:DE X m a fa) (hd:(C==("__debug__":Str))=false:=by decide)
  (he:starEach [a] X.env=[(false,eval a X.env)]:=by rfl):DSx X C (.Raise (some (.Call (.Name C np) [a] [] cpos)) none pos) (fun δ=>raiO (fa δ)):=by
 intro pins s σ H Dn I ⟨B,Hk,δ,o,R,e,k⟩
 cases q:fa δ with
 |none=>simp only[q,raiO]at e;cases e
 |some d=>
  simp only[q,raiO]at e;cases e
  obtain⟨tF,tM⟩:=(show ThrowsF X C Hk∧ThrowsM X C Hk from k)
  obtain⟨tl,ns,nm,qn,bs,hdc,sn,sub,ab,col,dd,k0,k1,k2,k3,k5,mN,o1,o2,o3,o4⟩:=exc_obj I.mod.kin ec.exc
  refine wpAny_Raise_call_subT (B:="ValueError") (initId:="ValueError.__init__") (nm:=nm) (q:=qn) (C:=c) (N:=ns) (bs:=bs) (bm:=tl) (hdct:=hdc) (sn:=sn) (sub:=sub) (ab:=ab) (col:=col) (dd:=dd) (k0:=k0) (k1:=k1) (k2:=k2) (k3:=k3) (k5:=k5)
   (mN:=mN) PySem.F.excBase_ValueError (o4.hasType (by decide)) (I.ok.hd hc) (by rw[he];rfl) o3 (ld_glob I hg ec.bound ⟨rfl,?_⟩ hd)
  rw[he]
  have ar:DA X m [a] (fun δ=>af (fa δ) (some [])):=ac ha ag (by rw[he];rfl)
  have w1:=ar cpos pins s σ H (fun vs H'=>Same H H'∧vs.length=1) I ⟨B,Hk,δ,[d],R,by simp only[q];rfl,fun vs H' s1 rs=>⟨s1,rs.length.symm⟩⟩
  rw[he]at w1
  refine Calls.evalArgs_plain (wpAny_mono w1 (fun us s2 ⟨vs,H2,I2,rv,sm,hl⟩=>?_) fun _ _ y=>y)
  have kp:∀b o,X.base.get? b=some o→s2.heap.get? b=some o:=I2.bk
  refine⟨rfl,?_,kp _ _ o1,o2.keeps kp,o4.keeps kp,fun h' e2 mk=>tM pins σ H2 s2 e2 c h' us I2 ec.nm mk (R.same.trans sm)⟩
  rw[←rv.length,hl];decide
end
end L2
namespace L2
open PySem PySem.Spec PyProof.Rows
theorem setFlight_any {M:Model}{A:Around}{E:Value→Shared→Prop}{s:Shared}{base:Heap}{l:List Env}{e:Addr}{fr:Option Addr}{cls a0 fl:Value}{Q:Unit→Shared→Prop}(st:base.StaysIn s.heap) (fu:s.heap.FunFrames base l) (tr:s.heap.TracedAtW base e cls a0 fl)
  (h:∀h',base.StaysIn h'→h'.FunFrames base l→h'.TracedAtW base e cls a0 (fr.elim .none fun f=>rawInt f)→s.heap.UpToSlots h'→Q () {s with heap:=h'}):wpAny M A (setFlight (.ref e) fr) Q E s:=by
 obtain⟨oe,vs,T,oT,ts,g1,g0,g2,g3,g4,g5,g6,g7,g8⟩:=tr
 have hl:3<ts.size:=(Array.getElem?_eq_some_iff.mp g8).1
 have apart:∀b o,s.heap.get? b=some o→(∀ws,o.data≠.fields ws)→b≠T:=fun b o q nf y=>by
  subst y;rw[g6]at q;cases q;exact nf ts g7
 have rest:∀b,b≠T→(s.heap.update T (Obj.mapFields (·.setIfInBounds 3 (fr.elim Value.none fun f=>rawInt f)))).get? b=s.heap.get? b:=fun b y=>Heap.get?_update_other _ _ fun q=>y q.symm
 unfold setFlight
 refine wpAny_bind (wpAny_field g1 g2 g3 ?_)
 rw[if_pos (by simp)]
 refine wpAny_setField g6 g7 hl (h _ (fun b o q=>(rest b fun y=>by rw[y,g4]at q;cases q).trans (st b o q)) (fu.of_keeps fun b o q nf=>⟨o,(rest b (apart b o q nf)).trans q,rfl⟩) ?_ fun b o q nf=>⟨o.slots,(rest b (apart b o q nf)).trans q⟩)
 refine⟨oe,vs,T,_,_,(rest e fun y=>g5 y.symm).trans g1,g0,g2,g3,g4,g5,Heap.get?_update_self _ g6 (Obj.isFreed_of_fields (Obj.data_mapFields g7 _)),Obj.data_mapFields g7 _,?_⟩
 simp[hl]
theorem funFrames_but {base h h':Heap}:∀{l:List Env},(∀b∈frs l,∀o,h.get? b=some o→h'.get? b=some o)→h.FunFrames base l→h'.FunFrames base l
 |[],_,_=>trivial
 |env::r,k,⟨h1,⟨L,o,h2,h3,h4,h5⟩,h6⟩=>
  ⟨h1,⟨L,o,h2,h3,k L (by unfold frs;rw[List.filterMap_cons,h2];exact List.mem_cons_self) o h4,h5⟩,funFrames_but (fun b hb=>k b (by unfold frs;rw[List.filterMap_cons,h2];exact List.mem_cons_of_mem _ hb)) h6⟩
section
variable{prog:Program}{w:World}{A:Around}{R:Result→Shared→Prop}{s:Shared}
theorem compLoop_goX {elt target iter:Expr}{ifs:List Expr}{scope:Scope}{pos:Pos}{it acc:Value}{env:Env}{W:Value→Shared→Prop}(I:Nat→Shared→Prop)
  (turn:∀n s,I n s→wpAny (model prog w) A (pyNext it) (fun r s₁=>match r with
   |none=>R (.ok .next) s₁
   |some v=>wpAny (model prog w) A (letOwnedTupleGo target it v) (fun _ s₁=>wpAny (model prog w) A (assign target env v) (fun _ s₂=>
     wpAny (model prog w) A (forIn ifs true fun c r=>if r=true then do let ok ←isTrue c env (eval c env);pure (ForInStep.yield ok) else pure (ForInStep.yield r)) (fun ok s₃=>
      if ok=true then wpAny (model prog w) A (eval elt env) (fun x s₄=>
       wpAny (model prog w) A (call (.builtin "list.append") [acc,x]) (fun _ s₅=>∃m,m<n∧I m s₅) W s₄) W s₃
      else ∃m,m<n∧I m s₃) W s₂) W s₁) W s₁) W s)
  (hW:∀x s',W x s'→notedBy (model prog w) A env (fun x s''=>R (.error x) s'') x s')
  (n:Nat) (h:I n s):
  codeAny (model prog w) A (.compLoop (.ListComp elt [⟨target,iter,ifs,0⟩] scope pos) 0 it acc env) R s:=by
 refine codeAny_loop rfl I (fun n s hI=>?_) n h
 show wpAny _ A ((compTurn (.ListComp elt [⟨target,iter,ifs,0⟩] scope pos) 0 it acc env).onRaise (fun x=>do noteFrame x env;theTreesLotGoes x)) _ _ s
 refine wpAny_noted ?_
 rw[compTurn_list]
 refine wpAny_bind (wpAny_standAt (wpAny_bind (wpAny_mono (turn n s hI) (fun r s₁ h₁=>?_) hW)))
 cases r with
 |none=>exact wpAny_pure h₁
 |some v=>
  refine wpAny_bind (wpAny_mono h₁ (fun _ s₁' h₁'=>?_) hW)
  refine wpAny_bind (wpAny_mono h₁' (fun _ s₂ h₂=>wpAny_bind (wpAny_mono h₂ (fun ok s₃ h₃=>?_) hW)) hW)
  cases ok with
  |false=>exact wpAny_pure ⟨rfl,h₃⟩
  |true=>
   exact wpAny_bind (wpAny_bind (wpAny_mono h₃ (fun x s₄ h₄=>wpAny_bind (wpAny_mono h₄ (fun _ s₅ h₅=>wpAny_pure (wpAny_pure ⟨rfl,h₅⟩)) hW)) hW))
end
noncomputable def WC (X:Cx) (Cn:Str) (Hk:Hp) (scope:Scope) (cl:List (Str×Addr)) (C:Addr) (s₂:Shared) (H₂:Hp) (ex:List Addr) (pn:List (Addr×Obj)):Value→Shared→Prop:=fun e s'=>
 ∃a c a0 B H H' s pins σ,e=.ref a∧Inv (ao X scope cl C s₂ H₂ ex pn) pins σ H s∧Fly X.prog X.w X.K Cn X.stack .none a a0 B H H' s c s'∧Same Hk H'
section
variable{X:Cx}{elt tg iter:Expr}{ifs:List Expr}{scope:Scope}{pos:Pos}{wi:TI}{g:TG}{tt:TT}{te:TE}{bs:List Bool}{Cn:Str}{Hk:Hp}
theorem WC.at {pins:List (Addr×Obj)}{σ:St}{H3:Hp}{s3 s':Shared}{fp:List Addr}{cl:List (Str×Addr)}{a c:Addr}{a0:Value}{B:Heap}{H H':Hp}{s:Shared}{pins':List (Addr×Obj)}{σ':St}{pn:List (Addr×Obj)}
  (I3:Inv X pins σ H3 s3) (hf:∀b∈fp,FpOk X pins H3 b) (I:Inv (ao X scope cl s3.heap.objs.size s3 H3 fp pn) pins' σ' H s) (F:Fly X.prog X.w X.K Cn X.stack .none a a0 B H H' s c s'):
  FlyAt X Cn .none a a0 (PySem.W.hideAll B [s3.heap.objs.size]) H' c s':=by
 have J:Inv (ao X scope cl s3.heap.objs.size s3 H3 fp pn) pins' σ' H' s':=Fly.inv (X:=ao X scope cl s3.heap.objs.size s3 H3 fp pn) F I
 have F0:FlyAt (ao X scope cl s3.heap.objs.size s3 H3 fp pn) Cn .none a a0 B H' c s':=Fly.at (X:=ao X scope cl s3.heap.objs.size s3 H3 fp pn) F I
 have sub:(PySem.W.hideAll B [s3.heap.objs.size]).StaysIn B:=fun b o q=>PySem.W.of_hideAll _ q
 have hid:∀b,B.get? b=none→(PySem.W.hideAll B [s3.heap.objs.size]).get? b=none:=fun b n=>by
  cases q:(PySem.W.hideAll B [s3.heap.objs.size]).get? b with
  |none=>rfl
  |some o=>have:=sub b o q;rw[n]at this;cases this
 have nfp:∀b o,X.s₀.heap.get? b=some o→b∉X.ex→b∉fp:=fun b o q hx z=>by
  rcases(hf b z).2.2.2.1 with y|y
  ·exact hx y
  ·exact absurd (Nat.lt_of_lt_of_le (Heap.lt_size q) y) (Nat.lt_irrefl _)
 have free:(ao X scope cl s3.heap.objs.size s3 H3 fp pn).env.locals=s3.heap.objs.size:=rfl
 have hC:H' s3.heap.objs.size=none:=J.free
 refine⟨F0.os.trans I3.os,F0.bare,F0.cls,fun b o q n hx=>?_,fun b o q n hb hx=>?_,fun b o q=>F0.stay b o (sub b o q),hid _ F0.new,PySem.W.funFrames_base sub F0.fun_,?_,fun b o q n hb hx=>?_,fun b u q=>?_⟩
 ·obtain⟨o',e⟩:=I3.base.there b o q hx
  exact F0.free b o' e (I3.base.free b o q n hx) (nfp b o q hx)
 ·obtain⟨sl,e⟩:=I3.base.slot b o q n (I3.ok.stkOut q hb) hx
  obtain⟨sl',e'⟩:=F0.slot b _ e (I3.base.free b o q n hx) hb (nfp b o q hx)
  exact⟨sl',e'⟩
 ·obtain⟨oe,vs,T,oT,ts,g1,g0,g2,g3,g4,g⟩:=F0.tr
  exact⟨oe,vs,T,oT,ts,g1,g0,g2,g3,hid _ g4,g⟩
 ·have e:=I3.base.keep b o q n (fun z=>hb (I3.ok.outStk z)) hx
  refine PySem.W.hideAll_get _ (F0.old b o e (I3.base.free b o q n hx) hb (nfp b o q hx)) fun z=>?_
  rw[List.mem_singleton]at z
  exact absurd (Heap.lt_size e) (by rw[z];exact Nat.lt_irrefl _)
 ·have ne:∀d v,H' d=some v→d∉[s3.heap.objs.size]:=fun d v r z=>by
   rw[List.mem_singleton]at z
   rw[z,hC]at r;cases r
  refine(F0.ok b u q).stay (fun d v hd r=>PySem.W.hideAll_get _ r ?_) (fun d r=>r) fun d xs r=>r
  rcases hd with rfl|hd
  ·exact ne _ _ q
  ·exact ne _ _ hd
theorem err_comp {pins:List (Addr×Obj)}{σ:St}{H3:Hp}{s3 s':Shared}{fp:List Addr}{cl:List (Str×Addr)}{pn:List (Addr×Obj)}{e acc:Value}{Q:Value→Shared→Prop}{use:Option (Value→Sem Unit)}
  (hst:X.stack=X.env::X.outer∧X.env.frame=some X.env.locals) (th:ThrowsF X Cn Hk) (I3:Inv X pins σ H3 s3) (hf:∀b∈fp,FpOk X pins H3 b) (hw:WC X Cn Hk scope cl s3.heap.objs.size s3 H3 fp pn e s'):
  notedBy (model X.prog X.w) X.A (compEnvC scope cl s3.heap.objs.size X.env) (fun x s''=>compPost (model X.prog X.w) X.A X.xe use Q acc s3.heap.objs.size (.error x) s'') e s':=by
 obtain⟨a,c,a0,B,H,H',s,pins',σ',rfl,I,F,sm⟩:=hw
 have J:Inv (ao X scope cl s3.heap.objs.size s3 H3 fp pn) pins' σ' H' s':=Fly.inv (X:=ao X scope cl s3.heap.objs.size s3 H3 fp pn) F I
 have FA:=WC.at I3 hf I F
 generalize hB:PySem.W.hideAll B [s3.heap.objs.size]=B' at FA
 have BC:B'.get? s3.heap.objs.size=none:=by rw[←hB];exact PySem.W.hideAll_none _ (List.mem_singleton.mpr rfl)
 obtain⟨m,hns,_⟩:=J.loc
 have hns:s'.heap.Ns s3.heap.objs.size m:=hns
 have frC:∀b∈frs X.stack,b≠s3.heap.objs.size:=fun b hb z=>by
  obtain⟨_,o,q,_⟩:=I3.stack.mem hb
  exact absurd (Heap.lt_size q) (by rw[z];exact Nat.lt_irrefl _)
 show wpAny (model X.prog X.w) X.A (noteFrame (.ref a) X.env) _ _ s'
 have hfr:X.A.frames=some (X.env::X.outer):=by rw[←hst.1];exact I3.ok.frames
 have fu0:s'.heap.FunFrames B' (X.env::X.outer):=by rw[←hst.1];exact FA.fun_
 refine note_any hfr hst.2 FA.stay FA.new fu0 FA.tr fun h1 k1 k2 k3 k4=>?_
 have F1:FlyAt X Cn (rawInt X.env.locals) a a0 B' H' c {s' with heap:=h1}:=FA.go k1 (by rw[hst.1];exact k2) k3 k4
 have ns1:h1.Ns s3.heap.objs.size m:=k4.ns hns
 have post:∃m,h1.Ns s3.heap.objs.size m∧∀h',Heap.SameBut s3.heap.objs.size h1 h'→∀cenv:Env,cenv.locals=s3.heap.objs.size→wpAny (model X.prog X.w) X.A (PySem.passOn "comprehension.variables-let-go" (.ref a) cenv:Sem Value) (fun _ _=>False) X.xe {s' with heap:=h'}:=by
  refine⟨m,ns1,fun h' sb cenv _=>?_⟩
  have dictC:∀b o vs,h1.get? b=some o→o.data=.fields vs→b≠s3.heap.objs.size:=fun b o vs q d z=>by
   obtain⟨o',es,ep,q',d',_⟩:=ns1
   rw[z,q']at q;cases q
   rw[d']at d;cases d
  obtain⟨oe,vs,T,oT,ts,g1,g0,g2,g3,g4,g5,g6,g7,g8⟩:=F1.tr
  have e1:h'.get? a=some oe:=(sb.2 a (dictC a oe vs g1 g2)).trans g1
  have e2:h'.get? T=some oT:=(sb.2 T (dictC T oT ts g6 g7)).trans g6
  have st':B'.StaysIn h':=fun b o q=>(sb.2 b fun z=>by rw[z,BC]at q;cases q).trans (k1 b o q)
  have fu':h'.FunFrames B' X.stack:=funFrames_but (fun b hb o q=>(sb.2 b (frC b hb)).trans q) F1.fun_
  have tr':h'.TracedAtW B' a (.ref c) a0 (rawInt X.env.locals):=⟨oe,vs,T,oT,ts,e1,g0,g2,g3,g4,g5,e2,g7,g8⟩
  have F2:FlyAt X Cn (rawInt X.env.locals) a a0 B' H' c {s' with heap:=h'}:=F1.goF st' fu' tr' fun b o hb q nf=>⟨o.slots,(sb.2 b (frC b hb)).trans q⟩
  unfold PySem.passOn
  refine wpAny_bind (wpAny_field e1 g2 g3 ?_)
  rw[if_neg (by simp)]
  refine wpAny_bind (setFlight_any F2.stay F2.fun_ F2.tr fun h2 y1 y2 y3 y4=>?_)
  exact wpAny_throw (th _ a a0 B' H' c {s' with heap:=h2} I3.ok (F2.go y1 y2 y3 y4) sm)
 unfold compPost
 cases use<;>exact post
theorem comp_blockX {pins:List (Addr×Obj)}{σ:St}{H:Hp}{s:Shared}{it:Addr}{fp:List Addr}{tn:Nat→Heap→Prop}{J:It}{Q:VK}{E:Value→Shared→Prop}{RR:Value→Addr→Result→Shared→Prop}
  (hc:X.calm=true) (S:CompScope X scope bs)
  (hg:∀cl C s₂ H₂ ex pn,PG (ao X scope cl C s₂ H₂ ex pn) tg g) (ht:∀cl C s₂ H₂ ex pn,PTs (ao X scope cl C s₂ H₂ ex pn) ifs tt) (he:∀cl C s₂ H₂ ex pn,PE ((ao X scope cl C s₂ H₂ ex pn).wish (WC X Cn Hk scope cl C s₂ H₂ ex pn)) elt te)
  (I:Inv X pins σ H s) (T:Turn X.prog X.w X.K tg J fp it tn) (st:tn 0 s.heap) (hf:∀b∈fp,FpOk X pins H b)
  (hq:∀acc,H acc=none→
   ∃W:Nat→Nat→List V→St→Hp→Prop,(∃m,W 0 m [] (mask bs σ) (upd H acc (.lst [])))∧∀i m ys σ H,W i m ys σ H→H acc=some (.lst ys)∧
    ((J.stop i H∧Q (.ref acc) H)∨(J.go i H∧∀x H',J.yld i H x H'→g x σ H' fun σ2 H2=>tt σ2 H2 fun ok H3=>if ok=true
     then te σ2 H3 fun v H4=>H4 acc=some (.lst ys)∧ys.length<sizeLine∧∃m',m'<m∧W (i+1) m' (ys++[v]) σ2 (upd H4 acc (.lst (ys++[v])))
     else ∃m',m'<m∧W (i+1) m' ys σ2 H3)))
  (hRR:∀D C s' H' m',Inv X pins σ H' s'→Q (.ref D) H'→s'.heap.Ns C m'→H' C=none→C≠X.env.locals→C∉X.fs→X.s₀.heap.objs.size≤C→(∀x c,X.env.cells.lookup x=some c→c≠C)→(∀p∈X.pn++pins,p.1≠C)→
   RR (.ref D) C (.ok .next) s')
  (hEr:∀D s3 H3 e s',Inv X pins σ H3 s3→(∀b∈fp,FpOk X pins H3 b)→WC X Cn Hk scope (closL X.env scope.names []) s3.heap.objs.size s3 H3 fp (X.pn++pins) e s'→
   notedBy (model X.prog X.w) X.A (compEnvC scope (closL X.env scope.names []) s3.heap.objs.size X.env) (fun x s''=>RR (.ref D) s3.heap.objs.size (.error x) s'') e s'):
  wpAny (model X.prog X.w) X.A (newList []) (fun acc s₃=>wpAny (model X.prog X.w) X.A (newFunctionEnv scope X.env.globals (closL X.env scope.names []) [] X.env.qual none .none (some X.env)) (fun cenv s₄=>
   codeAny (model X.prog X.w) X.A (.compStart (.ListComp elt [⟨tg,iter,ifs,0⟩] scope pos) 0 (.ref it) acc {cenv with scope:=relabel scope X.env}) (RR acc cenv.locals) s₄) E s₃) E s:=by
 refine wpAny_newObj_type ?_
 have hfr:H s.heap.objs.size=none:=I.fresh
 have I3:Inv X pins σ (upd H s.heap.objs.size (.lst [])) {s with heap:=s.heap.push {cls:=.type "list",dict:=none,data:=.seq ([]:List Value).toArray}}:=I.lnew (its:=[]) (t':=s.toks) .nil (Nat.zero_le _)
 have stp:tn 0 (s.heap.push {cls:=.type "list",dict:=none,data:=.seq ([]:List Value).toArray}):=T.keep _ _ _ st fun b _ o e=>Heap.get?_push_of_some _ e
 have hlt:∀b∈fp,b<s.heap.objs.size:=fun b hb=>by
  obtain⟨o,e,_⟩:=T.obj _ _ st b hb
  exact Heap.lt_size e
 have f3:∀b∈fp,FpOk X pins (upd H s.heap.objs.size (.lst [])) b:=fun b hb=>⟨by rw[upd_ne (Nat.ne_of_lt (hlt b hb))];exact(hf b hb).1,(hf b hb).2⟩
 obtain⟨W,⟨m0,w0⟩,turn⟩:=hq s.heap.objs.size hfr
 generalize hacc:s.heap.objs.size=acc at*
 generalize hs3:({s with heap:=s.heap.push {cls:=.type "list",dict:=none,data:=.seq ([]:List Value).toArray}}:Shared)=s3 at*
 have stp3:tn 0 s3.heap:=by rw[←hs3];exact stp
 refine wpAny_newFunctionEnv S.cell (fun y hy=>by simp at hy) (fun h₁ hns₁ hsb₁=>?_) S.kind
 have keep:∀b o,s3.heap.get? b=some o→h₁.get? b=some o:=fun b o e=>(hsb₁.2 b (Nat.ne_of_lt (Heap.lt_size e))).trans (Heap.get?_push_of_some _ e)
 have ob3:∀b∈fp,∃o,s3.heap.get? b=some o:=fun b hb=>by
  obtain⟨o,e,_⟩:=T.obj _ _ stp3 b hb
  exact⟨o,e⟩
 have I4:=inv_comp (t':=s3.toks+([]:List (Str×Value)).length) S I3 f3 ob3 hns₁ keep
 have st4:tn 0 h₁:=T.keep _ _ _ stp3 fun b _ o e=>keep b o e
 have stat:∀{H':Hp}{pl:List (Addr×Obj)},(∀b∈fp,H' b=none)→∀b∈fp,FpOk (ao X scope (closL X.env scope.names []) s3.heap.objs.size s3 (upd H acc (.lst [])) fp (X.pn++pins)) [] H' b:=fun{H' pl} hn b hb=>by
  obtain⟨_,f1,f2,f3',f4,f5⟩:=f3 b hb
  obtain⟨o,e⟩:=ob3 b hb
  refine⟨hn b hb,Nat.ne_of_lt (Heap.lt_size e),fun z=>?_,.inl hb,fun x c e=>f4 x c (closL_cons X.env scope.names [] (S.has I3) (fun x c e=>by simp at e) x c e),fun p hp=>?_⟩
  ·rcases List.mem_cons.mp (I3.stkSub b z)with q|q
   ·exact f1 q
   ·exact f2 q
  ·have q:p∈(X.pn++pins)++([]:List (Addr×Obj)):=hp
   rw[List.append_nil]at q
   exact f5 p q
 let X':Cx:=ao X scope (closL X.env scope.names []) s3.heap.objs.size s3 (upd H acc (.lst [])) fp (X.pn++pins)
 have loop:∀s5:Shared,s5={s3 with heap:=h₁,toks:=s3.toks+([]:List (Str×Value)).length}→
   codeAny (model X.prog X.w) X.A (.compLoop (.ListComp elt [⟨tg,iter,ifs,0⟩] scope pos) 0 (.ref it) (.ref acc) (compEnvC scope (closL X.env scope.names []) s3.heap.objs.size X.env)) (RR (.ref acc) s3.heap.objs.size) s5:=by
  rintro s5 rfl
  refine compLoop_goX (W:=WC X Cn Hk scope (closL X.env scope.names []) s3.heap.objs.size s3 (upd H acc (.lst [])) fp (X.pn++pins)) (fun n s'=>∃i ys σ' H',Inv (ao X scope (closL X.env scope.names []) s3.heap.objs.size s3 (upd H acc (.lst [])) fp (X.pn++pins)) [] σ' H' s'∧tn i s'.heap∧(∀b∈fp,H' b=none)∧W i n ys σ' H') ?_ (fun e s' hw=>hEr acc s3 (upd H acc (.lst [])) e s' I3 f3 hw) m0
   ⟨0,[],mask bs σ,upd H acc (.lst []),I4,st4,fun b hb=>(f3 b hb).1,w0⟩
  rintro n s6 ⟨i,ys,σ6,H6,I6,st6,fr6,w6⟩
  obtain⟨hac,way⟩:=turn i n ys σ6 H6 w6
  rcases way with⟨stop,qn⟩|⟨go,step⟩
  ·refine thn (T.done X' rfl rfl rfl hc i [] s6 σ6 H6 (WC X Cn Hk scope (closL X.env scope.names []) s3.heap.objs.size s3 (upd H acc (.lst [])) fp (X.pn++pins)) I6 (stat (pl:=[]) fr6) st6 stop) fun r s7 ⟨hr,I7⟩=>?_
   subst hr
   obtain⟨m',hn',_⟩:=I7.loc
   have IX:=inv_back (C:=s3.heap.objs.size) I3 f3 I7
   refine hRR acc s3.heap.objs.size s7 H6 m' IX qn hn' I7.free (Nat.ne_of_gt I3.lt) (I3.nofs (Nat.le_refl _)) I3.sz (fun x c e z=>?_) fun p hp z=>?_
   ·obtain⟨v,q⟩:=I3.cell x c e
    exact absurd q.lt (by rw[z];exact Nat.lt_irrefl _)
   ·exact absurd (Heap.lt_size (I3.pin p hp).1) (by rw[z];exact Nat.lt_irrefl _)
  ·refine thn (T.item X' rfl rfl rfl hc i [] s6 σ6 H6 (WC X Cn Hk scope (closL X.env scope.names []) s3.heap.objs.size s3 (upd H acc (.lst [])) fp (X.pn++pins)) I6 (stat (pl:=[]) fr6) st6 go) fun r s7 ⟨u,hr,h7⟩=>?_
   subst hr
   refine thn h7 fun _ s8 ⟨x,H8,I8,r8,y8,st8,fr8⟩=>?_
   have I8':=I8.pinned (stat (pl:=[]) fr8) (T.obj _ _ st8)
   refine wpAny_mono (hg _ _ _ _ _ _ _ s8 σ6 H8 x u _ I8' r8 (step x H8 y8)) (fun _ s9 ⟨σ9,H9,I9,q9⟩=>?_) fun _ _ z=>(show False from z).elim
   refine wpAny_mono (ht _ _ _ _ _ _ _ s9 σ9 H9 _ I9 q9) (fun ok s10 ⟨H10,I10,q10⟩=>?_) fun _ _ z=>(show False from z).elim
   have back:∀{σ':St}{H':Hp}{s':Shared},Inv (ao X scope (closL X.env scope.names []) s3.heap.objs.size s3 (upd H acc (.lst [])) fp (X.pn++pins)) ([]++pinsAt fp s8.heap) σ' H' s'→tn (i+1) s'.heap∧∀b∈fp,H' b=none:=fun{σ' H' s'} K=>by
    refine⟨T.keep _ _ _ st8 fun b hb o e=>(K.pin (b,o) (List.mem_append_right _ (List.mem_append_right _ (mem_pinsAt hb e)))).1,fun b hb=>?_⟩
    obtain⟨o,e,d⟩:=T.obj _ _ st8 b hb
    exact(K.pin (b,o) (List.mem_append_right _ (List.mem_append_right _ (mem_pinsAt hb e)))).2.1
   cases ok with
   |false=>
    rw[if_neg Bool.false_ne_true]at q10⊢
    obtain⟨m',hm,w'⟩:=q10
    obtain⟨b1,b2⟩:=back I10
    exact⟨m',hm,i+1,ys,σ9,H10,I10.unpinned,b1,b2,w'⟩
   |true=>
    rw[if_pos rfl]at q10⊢
    refine thn (he _ _ _ _ _ _ _ s10 σ9 H10 _ (I10.wish _) q10) fun y s11 ⟨v,H11,I11',r11,hac11,hz,m',hm,w'⟩=>?_
    have I11:=I11'.unwish
    have ap:=mt_append (X:=X') _ s11 σ9 H11 (.ref acc) [v] (.ref acc) [y] (fun(z:V) (H':Hp)=>H'=upd H11 acc (.lst (ys++[v]))) I11 rfl (.cons r11 .nil) ⟨acc,ys,v,rfl,rfl,hac11,hz,rfl⟩
    refine wpAny_mono ap (fun _ s12 ⟨_,H12,I12,_,e12⟩=>?_) fun _ _ z=>(show False from z).elim
    subst e12
    obtain⟨b1,b2⟩:=back I12
    exact⟨m',hm,i+1,ys++[v],σ9,_,I12.unpinned,b1,b2,w'⟩
 exact codeAny_compStart_list (loop _ rfl) (T.self _ 0 _ _ _ st4 (loop _ rfl))
theorem pe_compX (hst:X.stack=X.env::X.outer∧X.env.frame=some X.env.locals) (hc:X.calm=true) (hi:PI X tg iter wi) (S:CompScope X scope bs)
  (hg:∀cl C s₂ H₂ ex pn,PG (ao X scope cl C s₂ H₂ ex pn) tg g) (ht:∀cl C s₂ H₂ ex pn,PTs (ao X scope cl C s₂ H₂ ex pn) ifs tt) (he:∀cl C s₂ H₂ ex pn,PE ((ao X scope cl C s₂ H₂ ex pn).wish (WC X Cn Hk scope cl C s₂ H₂ ex pn)) elt te)
  (th:ThrowsF X Cn Hk) (hs:∀x,foldedSetIterable iter X.env x=pure x:=by intro _;rfl):PE X (.ListComp elt [⟨tg,iter,ifs,0⟩] scope pos) (tComp wi bs g tt te):=by
 intro pins s σ H Q I h
 rw[eval_ListComp]
 refine wpAny_comprehension_free (use:=none) rfl hs (closureFor_eq (S.has I)) S.kind S.loc (thn (hi pins s σ H _ I h) fun v s1 h1=>thn h1 fun itv s2 h2=>?_)
 obtain⟨it,fp,tn,J,H2,e,I2,T,st2,f2,hq⟩:=h2
 subst e
 refine comp_blockX (Cn:=Cn) (Hk:=Hk) (RR:=fun acc C=>compPost (model X.prog X.w) X.A X.xe none (EP X pins σ Q) acc C) hc S hg ht he I2 T st2 f2 hq ?_ ?_
 ·intro D C s' H' m' I' q' hn hC hL hF hz hcl hp
  refine⟨m',hn,fun h'' hs''=>⟨.ref D,H',?_,rfl,q'⟩⟩
  exact I'.turned (t':=s'.toks) (fun b o hb e=>(hs''.2 b hb).trans e) hC hL (.inr hz) hcl hp
 ·exact fun D s3 H3 e s' I3 f3 hw=>err_comp hst th I3 f3 hw
end
end L2
namespace L2
open PySem PySem.Spec PyProof.Rows
noncomputable def compX (h:D→Option (Option D)):List D→Option (Option (List D))
 |[]=>some (some [])
 |d::ds=>match h d with
  |none=>none
  |some none=>some none
  |some (some y)=>match compX h ds with
   |some (some l)=>some (some (y::l))
   |some none=>some none
   |none=>none
noncomputable def itemX (τ:D→DEnv→Option DEnv) (fe:DEnv→Option (Option D)) (δ:DEnv) (d:D):Option (Option D):=ah (τ d δ) fe
noncomputable def runCX (bo:Bool) (bs:List Bool) (τ:D→DEnv→Option DEnv) (fe:DEnv→Option (Option D)) (δ:DEnv) (ds:List D):Option (Option (List D)):=if ds.length≤lim then compX (itemX τ fe (maskD bo bs δ)) ds else none
noncomputable def lstX (x:Option (Option (List D))):Option (Option D):=match x with|some (some ds)=>some (some (.lst ds))|some none=>some none|none=>none
section
variable{X:Cx}{elt tg iter:Expr}{scope:Scope}{pos:Pos}{bo:Bool}{fi:DEnv→Option (List D)}{τ:D→DEnv→Option DEnv}{fe:DEnv→Option (Option D)}{bs:List Bool}{Cn:Str}
theorem comp_coreX {K:Frag}{σ:St}{H:Hp}{Q:VK}{T:Hp→Prop}(hτ:Anew τ) (hl:bs.length=σ.length) {B:Addr→Prop}{Hk:Hp}{δ:DEnv}{ds:List D}{r:Option (List D)}(R:Rel K B Hk δ σ H) (e1:fi δ=some ds) (e2:runCX bo bs τ fe δ ds=some r)
  (k:∀ls,r=some ls→∀a H',Same H H'→H a=none→(∃xs,H' a=some (.lst xs)∧Reps K (bset bo B δ σ) H' ls xs)→Q (.ref a) H') (hT:r=none→∀H1,Same H H1→T H1):tComp (tI K bo fi) bs (tG K τ) (tMT K fun _=>some true) (tMR K false fe T) σ H Q:=by
 unfold runCX at e2
 by_cases hlim:ds.length≤lim
 ·rw[if_pos hlim]at e2
  refine⟨B,Hk,δ,ds,R,e1,fun J H1 s1 it acc hacc=>?_⟩
  have R1:=R.to s1
  have nb:¬bset bo B δ σ acc:=fun z=>by obtain⟨o,q⟩:=R1.bsH bo acc z;rw[hacc]at q;cases q
  have R2:Rel K (bset bo B δ σ) H1 (maskD bo bs δ) (mask bs σ) (upd H1 acc (.lst [])):=(rel_block (bo:=bo) (bs:=bs) R1 hl).to (same_upd hacc)
  have no0:NoOwn (maskD bo bs δ):=fun j d h=>by obtain⟨_,h2,_⟩:=maskD_get h;cases h2
  have x0:Ext (bset bo B δ σ) H1 (upd H1 acc (.lst [])):=(same_upd hacc).ext (R1.bsH bo)
  refine⟨fun i n ys σ' H'=>n=ds.length - i∧i≤ds.length∧ys.length≤i∧H' acc=some (.lst ys)∧Ext (bset bo B δ σ) H1 H'∧∃δ' l1 r2,Rel K (bset bo B δ σ) H1 δ' σ' H'∧(∀d,τ d δ'=τ d (maskD bo bs δ))∧NoOwn δ'∧Reps K (bset bo B δ σ) H' l1 ys∧compX (itemX τ fe (maskD bo bs δ)) (ds.drop i)=some r2∧(r2=none→r=none)∧∀l2,r2=some l2→r=some (l1++l2),
   ⟨ds.length,by simp,Nat.zero_le _,Nat.le_refl _,upd_same,x0,maskD bo bs δ,[],r,R2,fun _=>rfl,no0,Reps.nil,e2,fun z=>z,fun l2 z=>by simpa using z⟩,?_⟩
  rintro i n ys σ' H' ⟨rfl,hi,hys,ha,x,δ',l1,r2,R',hd',nw',rs,ec,er1,er2⟩
  refine⟨ha,?_⟩
  obtain⟨hst,hgo⟩:=it H' x
  by_cases hlt:i<ds.length
  ·obtain⟨go,yl⟩:=hgo i ds[i] (by simp[hlt])
   refine .inr ⟨go,fun v H2 hy=>?_⟩
   obtain⟨sy,rv⟩:=yl v H2 hy
   have xy:=R'.ext sy
   replace ha:=sy acc _ ha
   replace rs:=rs.ext xy
   replace x:=x.trans xy
   replace R':=R'.to sy
   rw[List.drop_eq_getElem_cons hlt]at ec
   simp only[compX]at ec
   cases q:itemX τ fe (maskD bo bs δ) ds[i]with
   |none=>rw[q]at ec;cases ec
   |some oy=>
    rw[q]at ec
    obtain⟨δ1,q1,q2⟩:=aq q
    have q1':τ ds[i] δ'=some δ1:=by rw[hd'];exact q1
    have hd1:∀d,τ d δ1=τ d (maskD bo bs δ):=fun d=>by rw[hτ.new _ d _ _ q1',hd' d]
    have nw1:NoOwn δ1:=hτ.own _ _ _ q1' nw'
    refine⟨_,H1,δ',ds[i],δ1,R',rv,q1',fun σ3 R3=>?_⟩
    refine⟨_,H1,δ1,true,R3,rfl,fun H3 s3=>iteT ?_⟩
    cases oy with
    |none=>
     simp only at ec
     cases ec
     exact⟨_,H1,δ1,none,R3.to s3,q2,hT (er1 rfl) H1 s1⟩
    |some y=>
     simp only at ec
     cases qc:compX (itemX τ fe (maskD bo bs δ)) (ds.drop (i+1))with
     |none=>rw[qc]at ec;cases ec
     |some r3=>
      rw[qc]at ec
      have er3:(r3=none→r=none)∧∀l2,r3=some l2→r=some ((l1++[y])++l2):=by
       cases r3 with
       |none=>simp only at ec;cases ec;exact⟨fun _=>er1 rfl,fun l2 z=>(by cases z)⟩
       |some l3=>
        simp only at ec;cases ec
        refine⟨fun z=>(by cases z),fun l2 z=>?_⟩
        cases z
        rw[er2 _ rfl,List.append_assoc];rfl
      refine⟨_,H1,δ1,some y,R3.to s3,q2,fun v4 H4 s4 r4=>?_⟩
      have s34:=s3.trans s4
      have ha4:H4 acc=some (.lst ys):=s34 acc _ ha
      have x4:Ext (bset bo B δ σ) H2 H4:=R3.ext s34
      have rs4:Reps K (bset bo B δ σ) H4 l1 ys:=rs.ext x4
      have r4':Rep K (bset bo B δ σ) H4 y v4:=r4
      have x5:Ext (bset bo B δ σ) H4 (upd H4 acc (.lst (ys++[v4]))):=ext_upd ha4 trivial nb
      have R5:Rel K (bset bo B δ σ) H1 δ1 σ3 (upd H4 acc (.lst (ys++[v4]))):=by
       have R4:=R3.to s34
       refine⟨fun b o q=>?_,R4.bor,R4.len,fun j d h=>?_,fun j d h=>?_,R4.dis⟩
       ·rw[upd_ne (ne_of_none q hacc)];exact R4.same b o q
       ·obtain⟨v,h1,h2⟩:=R4.var j d h
        exact⟨v,h1,h2.ext x5⟩
       ·exact(nw1 j d h).elim
      refine⟨ha4,by have:=lim_line hlim;omega,ds.length - (i+1),by omega,rfl,hlt,by rw[List.length_append,List.length_singleton];omega,upd_same,x.trans (x4.trans x5),δ1,l1++[y],r3,R5,hd1,nw1,?_,qc,er3.1,er3.2⟩
      exact(rs4.ext x5).append (Reps.cons (r4'.ext x5) Reps.nil)
  ·have hE:i=ds.length:=by omega
   rw[hE,List.drop_length]at ec
   simp only[compX]at ec
   cases ec
   rw[hE]
   refine .inl ⟨hst,k l1 ?_ acc H' (s1.trans R'.same) (s1.free hacc) ⟨ys,ha,rs⟩⟩
   have:=er2 [] rfl
   rwa[List.append_nil]at this
 ·rw[if_neg hlim]at e2;cases e2
theorem dfx_comp (hst:X.stack=X.env::X.outer∧X.env.frame=some X.env.locals) (hc:X.calm=true) (hτ:Anew τ) (hi:DI X false tg iter fi) (S:CompScope X scope bs)
  (hg:∀cl C s₂ H₂ ex pn,DG (ao X scope cl C s₂ H₂ ex pn) tg τ) (he:∀cl C s₂ H₂ ex pn W,DEc ((ao X scope cl C s₂ H₂ ex pn).wish W) Cn false elt fe)
  (hs:∀x,foldedSetIterable iter X.env x=pure x:=by intro _;rfl):DFx X Cn (.ListComp elt [⟨tg,iter,[],0⟩] scope pos) (fun δ=>lstX (ah (fi δ) (runCX false bs τ fe δ))):=by
 intro pins s σ H Q I ⟨B,Hk,δ,r,R,e,k⟩
 have hl:bs.length=σ.length:=by rw[S.len,I.len]
 cases q:ah (fi δ) (runCX false bs τ fe δ)with
 |none=>simp only[q,lstX]at e;cases e
 |some r1=>
  obtain⟨ds,e1,e2⟩:=aq q
  cases r1 with
  |some ls=>
   simp only[q,lstX]at e;cases e
   have he':∀cl C s₂ H₂ ex pn,PE (ao X scope cl C s₂ H₂ ex pn) elt (tMR X.K false fe fun _=>False):=fun cl C s₂ H₂ ex pn=>PE.impT (he cl C s₂ H₂ ex pn fun _ _=>False) fun _ z=>z.elim
   refine pe_comp hc hi S hg (fun cl C s₂ H₂ ex pn=>dts_nil) he' hs pins s σ H Q I (comp_coreX hτ hl R e1 e2 (fun l hl a H' s1 n ob=>?_) fun z=>by cases z)
   cases hl
   exact k a H' s1 n ob
  |none=>
   simp only[q,lstX]at e;cases e
   have th:ThrowsF X Cn Hk:=k
   have he':∀cl C s₂ H₂ ex pn,PE ((ao X scope cl C s₂ H₂ ex pn).wish (WC X Cn Hk scope cl C s₂ H₂ ex pn)) elt (tMR X.K false fe fun Hk'=>Same Hk Hk'):=fun cl C s₂ H₂ ex pn=>
    PE.impT (he cl C s₂ H₂ ex pn (WC X Cn Hk scope cl C s₂ H₂ ex pn)) fun Hk' sm pins σ H H' s a c a0 B s' I F sm'=>⟨a,c,a0,B,H,H',s,pins,σ,rfl,I.unwish,F,sm.trans sm'⟩
   exact pe_compX hst hc hi S hg (fun cl C s₂ H₂ ex pn=>dts_nil) he' th hs pins s σ H Q I (comp_coreX hτ hl R e1 e2 (fun l hl=>by cases hl) fun _ H1 s1=>R.same.trans s1)
end
end L2
namespace L2
open PySem PySem.Spec PyProof.Rows
noncomputable def subIn (K:Frag) (c d:Addr):Option Bool:=match K.lookup c with|some ⟨_,_,.cls cd,_⟩=>some (cd.mro.contains (.ref d))|_=>none
theorem subIn_tail {K:Frag}{h:Heap}{c d ns:Addr}{tl bs sub:List Value}{nm qn:Str}{hd ab:Bool}{sn:List Str}{col:Option Bool}{dd:Option Addr}{k0 k1 k2 k3 k5:Option Value}{newId:String}{b:Bool}(KX:K.In h)
  (e:h.get? c=some (excClassObj nm qn c ns bs tl hd sn sub ab col dd k0 k1 k2 k3 k5 newId)) (q:subIn K c d=some b):(Value.ref c::tl).contains (.ref d)=b:=by
 unfold subIn at q
 split at q
 ·rename_i cd _ lk
  have:=KX _ _ lk
  rw[e]at this
  cases this
  exact Option.some.inj q
 ·cases q
theorem exc_sub {M:Model}{A:Around}{E:Value→Shared→Prop}{s:Shared}{c d ns ns' e:Addr}{oe:Obj}{tl tl' bs bs' sub sub':List Value}{nm qn nm' qn':Str}{hd ab hd' ab':Bool}{sn sn':List Str}{col col':Option Bool}{dd dd':Option Addr}{k0 k1 k2 k3 k5 j0 j1 j2 j3 j5:Option Value}{newId newId':String}{b:Bool}{Q:Bool→Shared→Prop}
  (hc:s.heap.get? c=some (excClassObj nm qn c ns bs tl hd sn sub ab col dd k0 k1 k2 k3 k5 newId)) (hd:s.heap.get? d=some (excClassObj nm' qn' d ns' bs' tl' hd' sn' sub' ab' col' dd' j0 j1 j2 j3 j5 newId'))
  (he:s.heap.get? e=some oe) (ho:oe.cls=.ref c) (hb:tl'.contains (.type "BaseException")=true) (hs:(Value.ref c::tl).contains (.ref d)=b) (hq:Q b s):wpAny M A (excMatches (.ref e) (.ref d)) Q E s:=by
 obtain⟨h,g,dr,t,os⟩:=s
 have h2:(Value.ref d::tl').contains (.type "BaseException")=true:=by rw[List.contains_cons,hb,Bool.or_true]
 have f:=tc_notTuple
 unfold excMatches
 repeat (first|(with_reducible refine wpAny_loadPart_at he ?_;rw[ho])|with_reducible refine wpAny_loadPart_at hd ?_|(with_reducible refine wpAny_isSubtype_exc hd ?_;rw[h2])|(with_reducible refine wpAny_isSubtype_exc hc ?_;rw[hs])|wp_step)
 cases b<;>(wp_walk;exact hq)
section
variable{X:Cx}{pins:List (Addr×Obj)}{σ:St}{C:Str}{fl:Value}{H H':Hp}{s s':Shared}{a c:Addr}{a0:Value}{B:Heap}
theorem Fly.fresh (F:Fly X.prog X.w X.K C X.stack fl a a0 B H H' s c s'):s.heap.get? a=none:=by
 cases q:s.heap.get? a with
 |none=>rfl
 |some o=>
  have hn:H a=none:=F.same.free F.notrk
  by_cases z:a∈frs X.stack
  ·obtain⟨_,o',x,nf⟩:=F.fun_.mem z
   obtain⟨oe,vs,_,_,_,g1,_,g2,_⟩:=F.tr
   rw[g1]at x;cases x
   exact(nf vs g2).elim
  ·have:=F.old a o q hn z
   rw[F.new]at this;cases this
theorem Fly.track (F:Fly X.prog X.w X.K C X.stack fl a a0 B H H' s c s') (I:Inv X pins σ H s):∃oe,oe.cls=.ref c∧Inv X pins σ (upd H' a (.frz oe (.own 0))) s':=by
 obtain⟨oe,vs,T,oT,ts,g1,g0,_⟩:=F.tr
 have n:=F.notrk
 refine⟨oe,g0.1,I.call' (ch:=[]) F.os ⟨F.un.keep,F.un.slot,fun b o q hn hx=>?_,F.un.there,fun b xs q=>?_,fun b o u q=>?_,fun b ps q=>?_⟩ (fun b u q=>?_) F.bare fun b z=>absurd z (by simp)⟩
 ·rw[upd_ne (fun z=>by rw[z,F.fresh]at q;cases q)];exact F.free b o q hn
 ·rw[upd_ne (ne_of_none (F.same _ _ q) n)];exact F.same _ _ q
 ·rw[upd_ne (ne_of_none (F.same _ _ q) n)];exact F.same _ _ q
 ·exact⟨#[],by rw[upd_ne (ne_of_none (F.same _ _ q) n),F.same _ _ q];simp⟩
 ·by_cases hb:b=a
  ·subst hb;rw[upd_same]at q;cases q;exact⟨g1,oe,g1⟩
  ·rw[upd_ne hb]at q
   exact(F.hok b u q).stay (fun d v _ r=>r) (fun d r=>by rw[upd_ne (ne_of_none r n)];exact r) fun d xs r=>by rw[upd_ne (ne_of_none r n)];exact r
theorem Inv.goes {k t':Nat}{n:Str}{h':Heap}{v:Option Value}{m:Str→Option Value}(I:Inv X pins σ H s) (hN:X.N.Nodup) (hk:X.N[k]?=some n)
  (hm:∀(i:Nat) (x:Str) (v:V),X.N[i]?=some x→σ[i]?=some (some v)→Vis X.env.scope x→∃u,RelV v u∧Look X.env s.heap m x u) (hn':h'.Ns X.env.locals (fun x=>if x=n then v else m x)) (hs:Heap.SameBut X.env.locals s.heap h'):Inv X pins (σ.set k none) H {s with heap:=h',toks:=t'}:=by
 have lo:∀b o,X.s₀.heap.get? b=some o→b≠X.env.locals:=fun b o e=>Nat.ne_of_lt (Nat.lt_of_lt_of_le (Heap.lt_size e) I.ok.above)
 refine⟨I.ok,I.os,I.bare,⟨fun b o e n hb hx=>(hs.2 b (lo b o e)).trans (I.base.keep b o e n hb hx),fun b o e n hb hx=>?_,I.base.free,fun b o e hx=>?_,I.base.tups,I.base.frzs,I.base.tbls⟩,
  ⟨_,hn',fun j y w e1 e2 e3=>?_⟩,fun y c e=>?_,I.free,I.freeC,fun p hp=>?_,fun b u e=>?_,by simpa using I.len⟩
 ·obtain⟨sl,e1⟩:=I.base.slot b o e n hb hx
  exact⟨sl,(hs.2 b (lo b o e)).trans e1⟩
 ·obtain⟨o',e1⟩:=I.base.there b o e hx
  exact⟨o',(hs.2 b (lo b o e)).trans e1⟩
 ·by_cases hj:j=k
  ·subst hj
   rw[List.getElem?_set]at e2
   simp at e2
  ·rw[List.getElem?_set_ne (Ne.symm hj)]at e2
   obtain⟨u,r,q⟩:=hm j y w e1 e2 e3
   refine⟨u,r,?_⟩
   rcases q with⟨k1,e⟩|⟨k1,c,e,z⟩
   ·refine .inl ⟨k1,?_⟩
    have:y≠n:=fun e=>hj (nodup_ix hN e1 (e▸hk))
    simp[this,e]
   ·exact .inr ⟨k1,c,e,z.sameBut hs (I.cne y c e)⟩
 ·obtain⟨w',z⟩:=I.cell y c e
  exact⟨w',z.sameBut hs (I.cne y c e)⟩
 ·obtain⟨e,n,ne,nf,d⟩:=I.pin p hp
  exact⟨(hs.2 p.1 ne).trans e,n,ne,nf,d⟩
 ·refine(I.hok b u e).stay (fun c w' hc q=>(hs.2 c ?_).trans q) (fun _ q=>q) fun _ _ q=>q
  rintro rfl
  rcases hc with rfl|hc
  ·rw[I.free]at e;cases e
  ·rw[I.free]at hc;cases hc
end
theorem Rel.drop1 {K:Frag}{B:Addr→Prop}{Hk H:Hp}{δ:DEnv}{σ:St}(R:Rel K B Hk δ σ H) (k:Nat) (x:Option V):Rel K B Hk (δ.set k none) (σ.set k x) H:=by
 have key:∀(i:Nat) d,(δ.set k none)[i]?=some (some d)→i≠k∧δ[i]?=some (some d):=fun i d h=>by
  by_cases z:i=k
  ·subst z
   rw[List.getElem?_set]at h
   simp at h
  ·rw[List.getElem?_set_ne (Ne.symm z)]at h;exact⟨z,h⟩
 refine⟨R.same,R.bor,by simpa using R.len,fun i d h=>?_,fun i d h=>?_,fun i j d e a hij h1 h2 h3 h4=>?_⟩
 ·obtain⟨z,h⟩:=key i _ h
  obtain⟨v,h1,h2⟩:=R.var i d h
  exact⟨v,by rw[List.getElem?_set_ne (Ne.symm z)];exact h1,h2⟩
 ·obtain⟨z,h⟩:=key i _ h
  obtain⟨v,h1,h2⟩:=R.own i d h
  exact⟨v,by rw[List.getElem?_set_ne (Ne.symm z)];exact h1,h2⟩
 ·obtain⟨z1,h1⟩:=key i _ h1
  obtain⟨z2,h2⟩:=key j _ h2
  rw[List.getElem?_set_ne (Ne.symm z1)]at h3
  rw[List.getElem?_set_ne (Ne.symm z2)]at h4
  exact R.dis i j d e a hij h1 h2 h3 h4
section
variable{X:Cx}{C M f x y n:Str}{c cm:Addr}{e:Expr}{es:List Expr}{fs:DEnv→Option (List D)}{p1 p2 p3 p4 p5 p6 p7 p8 p9 p10:Pos}{kk i j k:Nat}{fm:List D→Option (Option (D×Bool))}
theorem try_err {pins:List (Addr×Obj)}{σ:St}{H1 H':Hp}{s1 s':Shared}{a:Addr}{a0:Value}{B:Heap}{D:Ends}(hno:∀e s',X.xe e s'→False) (hst:X.stack=X.env::X.outer∧X.env.frame=some X.env.locals) (hN:X.N.Nodup)
  (hj:X.N[j]?=some y) (lj:Loc X.env.scope y) (fj:X.fn y=true∨X.env.scope.names.lookup y=some .local) (hk:X.N[k]?=some n) (lk:X.env.scope.names.lookup n=some .local) (ec:ErrC X.K X.mg C c) (em:ErrC X.K X.mg M cm) (hsub:subIn X.K c cm=some true) (hgM:Gl X M)
  (I:Inv X pins σ H1 s1) (F:Fly X.prog X.w X.K C X.stack .none a a0 B H1 H' s1 c s')
  (hq:∀H2 oe,H' a=none→oe.cls=.ref c→H2=upd H' a (.frz oe (.own 0))→D.nx (((σ.set k (some (.ref a))).set j (some (.ref a))).set k none) H2)
  (hdM:(M==("__debug__":Str))=false:=by decide) (hdn:(n==("__debug__":Str))=false:=by decide) (hsw:swapsWith (.Name n p7) (some (.Name y p6)) p8.line X.env=pure false:=by rfl):
  wpAny (model X.prog X.w) X.A (noteFrame (.ref a) X.env) (fun _ s₂=>wpAny (model X.prog X.w) X.A (setFlight (.ref a) none) (fun _ s₃=>wpAny (model X.prog X.w) X.A (handleBy (.ref a) X.env [.ExceptHandler (some (.Name M p5)) (some n) [.Assign [.Name y p6] (.Name n p7) p8] p9]) (SP X pins D) X.xe s₃) X.xe s₂) X.xe s':=by
 have hfr:X.A.frames=some (X.env::X.outer):=by rw[←hst.1];exact I.ok.frames
 have fu0:s'.heap.FunFrames B (X.env::X.outer):=by rw[←hst.1];exact F.fun_
 refine note_any hfr hst.2 F.stay F.new fu0 F.tr fun h2 k1 k2 k3 k4=>?_
 have F2:Fly X.prog X.w X.K C X.stack (rawInt X.env.locals) a a0 B H1 H' s1 c {s' with heap:=h2}:=F.go k1 (by rw[hst.1];exact k2) k3 k4
 refine setFlight_any F2.stay F2.fun_ F2.tr fun h3 k5 k6 k7 k8=>?_
 have F3:Fly X.prog X.w X.K C X.stack .none a a0 B H1 H' s1 c {s' with heap:=h3}:=F2.go k5 k6 k7 k8
 have I3:=F3.inv I
 refine wpAny_handleBy_cons (codeAny_handlers_test ?_) (by intro q;cases q)
 refine Calls.Name_function_global I3.ok.kind hgM (Calls.loadGlobal_global (by rw[I3.ok.glob];exact I3.mod.glob.keeps I3.bk) em.bound ?_) hdM
 obtain⟨tl,ns,nm,qn,bs,hdc,sn,sub,ab,col,dd,j0,j1,j2,j3,j5,mN,o1,o2,o3,o4⟩:=exc_obj I3.kIn ec.exc
 obtain⟨tl',ns',nm',qn',bs',hdc',sn',sub',ab',col',dd',i0,i1,i2,i3,i5,mN',r1,r2,r3,r4⟩:=exc_obj I3.kIn em.exc
 obtain⟨oe,g1,g0⟩:=Heap.TracedAtW.there k7
 refine exc_sub o1 r1 g1 g0 (r4.hasType (by decide)) (subIn_tail I3.kIn o1 hsub) ?_
 show codeAny _ _ _ _ _
 refine codeAny_handlers_suite_as ?_
 refine setFlight_any F3.stay F3.fun_ F3.tr fun h4 k9 k10 k11 k12=>?_
 have F4:Fly X.prog X.w X.K C X.stack .none a a0 B H1 H' s1 c {s' with heap:=h4}:=F3.go k9 k10 k11 k12
 obtain⟨oe,hoe,I4⟩:=F4.track I
 refine store_ok (v:=.ref a) I4 hN hk (.inl lk) rfl (fun s5 I5=>?_) (.inr lk)
 refine wpAny_execs_cons (wpAny_Assign_Name ?_ hsw)
 obtain⟨m5,hn5,hl5⟩:=id I5.loc
 have hks:k<σ.length:=by rw[I4.len];exact(List.getElem?_eq_some_iff.mp hk).1
 obtain⟨u,ru,lu⟩:=hl5 k n (.ref a) hk (by rw[List.getElem?_set_self hks]) (.inl lk)
 obtain rfl:u=.ref a:=ru
 have hu:m5 n=some (.ref a):=by
  rcases lu with⟨_,z⟩|⟨z,_⟩
  ·exact z
  ·rcases z with z|z
   ·have z':X.env.scope.names.lookup n=some .cell:=z
    rw[lk]at z';cases z'
   ·have z':X.env.scope.names.lookup n=some .free:=z
    rw[lk]at z';cases z'
 refine wpAny_Name (wpAny_loadName_local I5.ok.kind lk hn5 hu ?_) hdn
 refine store_ok (v:=.ref a) I5 hN hj lj rfl (fun s6 I6=>wpAny_execs_nil ?_) fj
 obtain⟨m6,hn6,hl6⟩:=id I6.loc
 refine wpAny_nameGoes_keeps lk hn6 (by rw[I6.ok.kind];rfl) fun h7 v7 hn7 sb7=>?_
 exact⟨_,_,I6.goes hN hk hl6 hn7 sb7,hq _ oe F4.notrk hoe rfl⟩
end
end L2
namespace L2
open PySem PySem.Spec PyProof.Rows
section
variable{X:Cx}{C M f x y n:Str}{c cm:Addr}{m:Bool}{e:Expr}{es:List Expr}{fs:DEnv→Option (List D)}{p1 p2 p3 p4 p5 p6 p7 p8 p9 p10:Pos}{kk i j k:Nat}{fm:List D→Option (Option (D×Bool))}
theorem call_try {pins:List (Addr×Obj)}{σ:St}{H:Hp}{s:Shared}{Q W:Value→Shared→Prop}{B:Addr→Prop}{Hk:Hp}{δ:DEnv}{ds:List D}{r:Option (D×Bool)}(F:FnX X.prog X.w X.K X.mg X.base kk f C fm) (hr:Room kk X.A) (hg:Gl X f) (hno:∀e s',X.xe e s'→False)
  (ha:DA X m (e::es) fs) (I:Inv X pins σ H s) (R:Rel X.K B Hk δ σ H) (e1:fs δ=some ds) (e2:fm ds=some r)
  (ok:∀d fr,r=some (d,fr)→∀v u H1 H' s',Inv X pins σ H' s'→RelV v u→Same H H1→Same H1 H'→RepR X.K (bset m B δ σ) H1 H' d fr v→Q u s')
  (er:r=none→∀H1 s1 H' a c a0 B s',Inv X pins σ H1 s1→Fly X.prog X.w X.K C X.stack .none a a0 B H1 H' s1 c s'→Same H H1→Same H H'→W (.ref a) s')
  (hdb:(f==("__debug__":Str))=false:=by decide) (he:starEach (e::es) X.env=(false,eval e X.env)::starEach es X.env:=by rfl) (hpl:(backTo p3 (starEach es X.env)).any (·.1)=false:=by rfl):
  wpAny (model X.prog X.w) X.A (eval (.Call (.Name f p2) (e::es) [] p3) X.env) Q W s:=by
 obtain⟨q,fd,ps,h1,h2,h3,h4,h5⟩:=F.ex
 refine wpAny_Call_Name_kw (ld_glob I hg h2 ?_ hdb)
 refine PySem.W.callWith_K (h₀:=X.base) I.ok.mod.kin h3 (wpAny_mono (ha p3 pins s σ H (fun vs H1=>Same H H1∧Reps X.K (bset m B δ σ) H1 ds vs) I ⟨B,Hk,δ,ds,R,e1,fun vs H1 s1 rs=>⟨s1,rs⟩⟩) (fun us s1 ⟨vs,H1,I1,r1,sm,rs⟩=>⟨I1.kIn,?_⟩) fun e s' z=>(hno e s' z).elim) he hpl
 have hsp:spX X.K C fm vs H1 (fun v H'=>∃d fr,r=some (d,fr)∧Same H1 H'∧RepR X.K (bset m B δ σ) H1 H' d fr v) (fun _ _ H'=>r=none∧Same H1 H'):=by
  refine⟨bset m B δ σ,ds,r,(R.to sm).bsH m,rs,e2,?_⟩
  cases r with
  |none=>exact fun c H' _ s2=>⟨rfl,s2⟩
  |some p=>obtain⟨d,fr⟩:=p;exact fun v H' s2 rr=>⟨d,fr,rfl,s2,rr⟩
 have hl:us.length=ps.length:=by rw[←r1.length];exact h1.len _ _ _ _ hsp
 have hb:=h4 s1 us I1.kIn (by rw[List.append_nil];exact hl)
 rw[List.append_nil]at hb
 refine wpAny_call (codeAny_mono (h1.run X.A X.stack s1 H1 ⟨us,[]⟩ us vs _ _ hr I1.env0 hb r1 hsp) fun rr s' hq=>?_)
 cases rr with
 |error ev=>
  obtain⟨H',c',a,a0,B',rfl,Fl,hz,s2⟩:=hq
  exact er hz H1 s1 H' a c' a0 B' s' I1 Fl sm (sm.trans s2)
 |ok fl=>
  cases fl with
  |ret u=>
   obtain⟨v,H',I',rv,d,fr,hz,s2,rp⟩:=I1.after hq
   exact ok d fr hz v u H1 H' s' I' rv sm s2 rp
  |next=>exact False.elim hq
  |brk=>exact False.elim hq
  |cont=>exact False.elim hq
structure TryOk (X:Cx) (C M x y n:Str) (c cm:Addr) (i j k:Nat):Prop where
 no:∀e s',X.xe e s'→False
 st:X.stack=X.env::X.outer∧X.env.frame=some X.env.locals
 nd:X.N.Nodup
 li:Lc X i x
 lj:Lc X j y
 nk:X.N[k]?=some n
 lk:X.env.scope.names.lookup n=some .local
 ec:ErrC X.K X.mg C c
 em:ErrC X.K X.mg M cm
 sub:subIn X.K c cm=some true
 gM:Gl X M
 dM:(M==("__debug__":Str))=false
 dn:(n==("__debug__":Str))=false
end
end L2
namespace L2
open PySem PySem.Spec PyProof.Rows PySem.Builtin PySem.Builtin.ObjectAttr PySem.Builtin.Getset_descriptor
open PySem.W (Frag findIn specialIn takesIn clsIn mroIn findObj kitOne KitX Looks)
noncomputable def errIn (K:Frag) (c:Addr):Bool:=findIn K (.ref c) "__getattribute__"==some (some (.builtin "BaseException.__getattribute__"))&&findIn K (.ref c) "__getattr__"==some none&&findIn K (.ref c) "__class__"==some (some (.builtin "object.__class__"))&&
 specialIn K (.builtin "object.__class__") "__get__"==some (some (.builtin "getset_descriptor.__get__"))&&takesIn K (.builtin "object.__class__")==some true&&(clsIn K c).isSome&&mroIn K c (.type "object")==some true&&mroIn K c (.type "BaseException")==some true
section
variable{prog:Program}{w:World}{A:Around}{E:Value→Shared→Prop}{s:Shared}{K:Frag}{x c:Addr}{ox:Obj}
theorem looks_ty {M:Model}{h:Heap}(hx:h.get? x=some ox) (hcl:ox.cls=.ref c):Looks M h (typeOf (.ref x)) (.ref c):=by
 rw[←hcl]
 exact(PySem.W.Looks.ld hx).andThen .now
theorem looks_fc {M:Model}{h:Heap}(KX:K.In h) (ha:findIn K (.ref c) "__class__"=some (some (.builtin "object.__class__"))) (hg:specialIn K (.builtin "object.__class__") "__get__"=some (some (.builtin "getset_descriptor.__get__"))) (ht:takesIn K (.builtin "object.__class__")=some true):
  Looks M h (Builtin.ObjectAttr.find (.ref x) (.ref c) "__class__") (.bind (.builtin "getset_descriptor.__get__") (.builtin "object.__class__")):=by
 refine(PySem.W.looks_findIn (M:=M) KX ha).andThen ?_
 refine(PySem.W.looks_specialIn (M:=M) KX hg).andThen ?_
 have dd:Looks M h (Builtin.ObjectAttr.dataDescriptor? (some (.builtin "object.__class__")) (some (.builtin "getset_descriptor.__get__"))) (some (.builtin "getset_descriptor.__get__",.builtin "object.__class__")):=(PySem.W.looks_takesIn (M:=M) KX ht).andThen .now
 exact dd.andThen (PySem.W.Looks.tag .now)
theorem cls_get {R:Result→Shared→Prop}{tp:Value}(KX:K.In s.heap) (hx:s.heap.get? x=some ox) (hcl:ox.cls=.ref c) (hm:mroIn K c (.type "object")=some true)
  (h:R (.ok (.ret (.ref c))) s):codeAny (model prog w) A (.call (.builtin "getset_descriptor.__get__") ⟨[.builtin "object.__class__",.ref x,tp],[]⟩) R s:=by
 obtain⟨hh,g,dr,t,os⟩:=s
 have M0:=looks_ty (M:=model prog w) hx hcl
 have M1:=PySem.W.looks_mroIn (M:=model prog w) KX hm
 refine codeAny_call_builtin PySem.W.KF.slot_gs.plain PySem.W.KF.entry_gs (PySem.W.KF.slot_gs.check _ _ _ _ _ _ _ _ PySem.W.KF.type_class (PySem.W.KF.args_gs _ _ _) ?_)
 unfold Builtin.«getset_descriptor.__get__»;unfold descrGet;rw[PySem.W.dga_obj]
 refine wpAny_bind (wpAny_pure ?_);unfold descrGetter descrCheckInstance descrNameAndClass isInstance
 simp only[PySem.W.KF.owner_class]
 repeat lk
 refine⟨Code.quiet_builtin _ (by decide +kernel),codeAny_builtin PySem.W.KF.entry_class ?_⟩;unfold Builtin.«object.__class__» shownTypeOf
 repeat lk
 exact h
theorem exc_class {Q:Option Value→Shared→Prop}(KX:K.In s.heap) (hx:s.heap.get? x=some ox) (hcl:ox.cls=.ref c) (ok:errIn K c=true) (h:Q (some (.ref c)) {s with toks:=s.toks+1}):wpAny (model prog w) A (getAttr? (.ref x) "__class__") Q E s:=by
 simp only[errIn,Bool.and_eq_true,beq_iff_eq]at ok
 obtain⟨⟨⟨⟨⟨⟨⟨e1,e2⟩,e3⟩,e4⟩,e5⟩,e6⟩,e7⟩,e8⟩:=ok
 obtain⟨hh,g,d,t,os⟩:=s
 have L0:=looks_ty (M:=model prog w) hx hcl
 have L1:=PySem.W.looks_findIn (M:=model prog w) KX e1
 have L2:=PySem.W.looks_findIn (M:=model prog w) KX e2
 have L3:=looks_fc (x:=x) (M:=model prog w) KX e3 e4 e5
 have L4:Looks (model prog w) hh (isInstance (.ref x) (.type "BaseException")) true:=L0.andThen (PySem.W.looks_mroIn (M:=model prog w) KX e8)
 have gab:=PySem.F.excAttr_ValueError.ga
 have hk:builtinKind "BaseException.__getattribute__"=some .slot:=by decide +kernel
 have hsp:splitId "BaseException.__getattribute__"=some ("BaseException","__getattribute__"):=by decide +kernel
 have ne:(onTheHeap (Value.ref c)&&Value.builtin "BaseException.__getattribute__"==Value.builtin "object.__getattribute__")=false:=by
  have:(Value.builtin "BaseException.__getattribute__"==Value.builtin "object.__getattribute__")=false:=by decide +kernel
  rw[this,Bool.and_false]
 unfold getAttr? getAttrBy? getAttrBy
 refine wpAny_bind (wpAny_mkText (wpAny_bind (wpAny_attempt (wpAny_holding (wpAny_bind (L0.at (wpAny_bind (L1.at ?_))))))))
 dsimp only
 rw[if_neg (by rw[ne];exact Bool.false_ne_true)]
 unfold getAttrByItsOwn
 refine wpAny_bind ?_
 show wpAny _ _ (typeLookup (.ref c) "__getattr__") _ _ _
 refine L2.at (wpAny_bind (wpAny_attempt (wpAny_holding ?_)))
 show wpAny _ _ (boundAndCalled (.builtin "BaseException.__getattribute__") (.ref x) (.str "__class__" t)) _ _ _
 unfold boundAndCalled
 refine wpAny_bind (wpAny_of_eq (gab.bind _) ?_)
 have ar:=PySem.F.args_bexc_ga (.ref x) (.str "__class__" t)
 refine wpAny_call (codeAny_call_builtin gab.plain PySem.F.entry_bexc_ga ?_)
 simp only[checkBuiltinCall,hk,hsp]
 refine wpAny_bind (L4.at ?_)
 rw[if_neg (by decide)]
 unfold argsOk at ar
 show wpAny _ _ (match Manifest.signature? "BaseException.__getattribute__" with
  |some sig=>Bind.checkArgs "BaseException.__getattribute__" sig ⟨[.ref x,.str "__class__" t],[]⟩
  |_=>pure ()) _ _ _
 refine wpAny_of_eq ar ?_
 show wpAny _ _ (Builtin.«object.__getattribute__» ⟨[.ref x,.str "__class__" t],[]⟩) _ _ _
 unfold Builtin.«object.__getattribute__»
 refine wpAny_bind (wpAny_pure (wpAny_bind (wpAny_pure (wpAny_bind (L0.at (wpAny_bind (L3.at ?_)))))))
 show wpAny _ _ (holding [Value.builtin "object.__class__"] (call (.builtin "getset_descriptor.__get__") [.builtin "object.__class__",.ref x,.ref c]) >>= fun v=>ret v) _ _ _
 refine wpAny_bind (wpAny_holding (wpAny_call (cls_get (s:=⟨hh,g,d,t+1,os⟩) KX hx hcl e7 ?_)))
 exact wpAny_pure (PySem.W.handed_on rfl (wpAny_pure h))
theorem kitx_err (ok:errIn K c=true):KitX K (.ref x) (.ref c) (fun h=>∃ox,h.get? x=some ox∧ox.cls=.ref c) where
 ty:=fun _ _ _ ⟨_,hx,hcl⟩=>looks_ty hx hcl
 it:=fun M h KX _=>by
  simp only[errIn,Bool.and_eq_true,beq_iff_eq]at ok
  obtain⟨⟨⟨⟨⟨⟨⟨_,_⟩,_⟩,_⟩,_⟩,e6⟩,_⟩,_⟩:=ok
  unfold clsIn at e6
  split at e6
  ·rename_i lk
   intro A1 Q1 E1 s1 k1 q1
   unfold isType loadHead
   exact wpAny_bind (wpAny_loadPart (k1 _ _ (KX _ _ lk)) (wpAny_pure q1))
  ·cases e6
 ne:=fun h tp dd its n sl KX htp=>by
  simp only[errIn,Bool.and_eq_true,beq_iff_eq]at ok
  obtain⟨⟨⟨⟨⟨⟨⟨_,_⟩,_⟩,_⟩,_⟩,e6⟩,_⟩,_⟩:=ok
  cases z:(Value.ref c==Value.ref tp)with
  |false=>rfl
  |true=>
   have e:c=tp:=Value.ref.inj (beq_iff_eq.mp z)
   subst e
   unfold clsIn at e6
   split at e6
   ·rename_i lk
    have:=KX _ _ lk
    rw[htp]at this
    cases this
   ·cases e6
 ca:=fun KX ⟨ox,hx,hcl⟩ q=>exc_class KX hx hcl ok q
end
section
variable{X:Cx}{C:Str}{c:Addr}{m mm:Bool}{a:Expr}{fa:DEnv→Option D}{p pc pos:Pos}
noncomputable def isiEO (C:Str) (b:Bool) (x:Option D):Option D:=match x with|some (.sp true z)=>if z=C then some (.bl b) else none|_=>none
theorem call_isiE {cl:Value}{b:Bool}(hc:PySem.W.nsIn X.K mainGlobals C=some (some (.ref c))) (ok:errIn X.K c=true) (kt:kitOne X.K (.ref c) cl=some b) {pins:List (Addr×Obj)}{s:Shared}{σ:St}{H:Hp}{B:Addr→Prop}{v:V}{u:Value}{Q:VK}(I:Inv X pins σ H s) (rv:RelV v u) (r:Rep X.K B H (.sp true C) v) (q:Q (.bl b) H):
  wpAny (model X.prog X.w) X.A (call (.builtin "isinstance") [u,cl]) (EP X pins σ Q) X.xe s:=by
 simp only[Rep]at r
 obtain⟨a,o,c',y,rfl,ha,ho,hn⟩:=r
 rw[hc]at hn;cases hn
 obtain rfl:u=.ref a:=rv
 obtain⟨g1,_⟩:=(show ObjOk X.prog X.w H s.heap a (.frz o (.own y)) from I.hok a _ ha)
 exact PySem.W.kia_one (kitx_err ok) I.kIn ⟨o,g1,ho⟩ kt (fun z=>nomatch z) fun tk=>⟨.bl b,H,I.tok tk,rfl,q⟩
end
end L2
namespace L2
open PySem PySem.Spec PyProof.Rows
section
variable{X:Cx}{C:Str}{c:Addr}{m m' m'' mm:Bool}{a b e:Expr}{fa fb fc:DEnv→Option D}{p pc pos apos cpos:Pos}{x:Str}
theorem de_gstr {z:Str}{t:Tok}(hg:Gl X x) (hm:X.mg x=some (.str z t)) (hd:(x==("__debug__":Str))=false:=by decide):DE X mm (.Name x pos) (fun _=>some (.str z)):=
 (pe_glob (v:=.str z) hg hm ⟨t,rfl⟩ hd).imp fun σ H Q ⟨B,Hk,δ,d,R,e,k⟩=>by cases e;exact k _ H (Same.refl H) (by simp only[Rep])
theorem de_gfun {f:Addr}(hg:Gl X x) (hm:X.mg x=some (.ref f)) (hn:PySem.W.nsIn X.K mainGlobals x=some (some (.ref f))) (hd:(x==("__debug__":Str))=false:=by decide):DE X mm (.Name x pos) (fun _=>some (.sp false x)):=
 (pe_glob (v:=.ref f) hg hm rfl hd).imp fun σ H Q ⟨B,Hk,δ,d,R,e,k⟩=>by cases e;exact k _ H (Same.refl H) (by simp only[Rep];exact⟨f,rfl,hn⟩)
theorem call_isiV {cl:Value}{w:V}{k:Bool}(hc:PySem.W.nsIn X.K mainGlobals C=some (some (.ref c))) (ok:errIn X.K c=true) (kt:PySem.W.kitOne X.K (.ref c) cl=some k) (hw:∀u,RelV w u→u=cl):
  CallR X (.builtin "isinstance") (fun xs H Q=>∃B v,xs=[v,w]∧Rep X.K B H (.sp true C) v∧Q (.bl k) H):=by
 intro pins s σ H vs us Q I rv h
 obtain⟨B,v,rfl,r,q⟩:=h
 cases rv with
 |cons q1 q2=>
  obtain⟨u2,rfl,q3⟩:=Vals.one q2
  rw[hw u2 q3]
  exact call_isiE hc ok kt I q1 r q
theorem de_isiG {cs:Str}{w:V}{cl:Value}{k:Bool}(hc:PySem.W.nsIn X.K mainGlobals C=some (some (.ref c))) (ok:errIn X.K c=true) (kt:PySem.W.kitOne X.K (.ref c) cl=some k) (hw:∀u,RelV w u→u=cl) (hpe:PE X (.Name cs pc) (tC w)) (g:Gl X "isinstance") (hm:X.mg "isinstance"=none) (ha:DE X m a fa)
  (hs:starEach [a,.Name cs pc] X.env=[(false,eval a X.env),(false,eval (.Name cs pc) X.env)]:=by rfl) (hs2:starEach [.Name cs pc] X.env=[(false,eval (.Name cs pc) X.env)]:=by rfl)
  (hpl:(backTo pos (starEach [.Name cs pc] X.env)).any (·.1)=false:=by rfl):DE X mm (.Call (.Name "isinstance" p) [a,.Name cs pc] [] pos) (fun δ=>isiEO C k (fa δ)):=
 (pe_callB (call_isiV hc ok kt hw) g hm bt_isinstance (pa_cons ha (pa_cons hpe pa_nil hs2) (by rw[hs,hs2])) (he:=by rw[hs,hs2]) (hpl:=hpl)).imp fun σ H Q ⟨B,Hk,δ,d,R,e,kk⟩=>by
  unfold isiEO at e
  split at e
  ·rename_i z q
   by_cases hz:z=C
   ·subst hz
    rw[if_pos rfl]at e;cases e
    exact⟨B,Hk,δ,_,R,q,fun v H' s r=>⟨_,v,rfl,r,kk _ H' s (by simp only[Rep])⟩⟩
   ·rw[if_neg hz]at e;cases e
  ·cases e
noncomputable def inSO (x y:Option D):Option Bool:=match x,y with|some (.str i),some (.str j)=>some (!(Builtin.Str.occurrences j i 0 j.length 1).isEmpty)|_,_=>none
theorem inSO_some {x y:Option D}{b:Bool}(h:inSO x y=some b):∃i j,x=some (.str i)∧y=some (.str j)∧b=!(Builtin.Str.occurrences j i 0 j.length 1).isEmpty:=by
 unfold inSO at h
 split at h
 ·cases h;exact⟨_,_,rfl,rfl,rfl⟩
 ·cases h
theorem de_inS (hm:behindInMarks .In b=false) (ha:DE X m a fa) (hb:DE X m' b fb):DE X mm (.Compare a [.In] [b] pos) (fun δ=>ofB (inSO (fa δ) (fb δ))):=
 (pe_cmpR op_in_str ha hb hm).imp fun σ H Q ⟨B,Hk,δ,d,R,e,k⟩=>by
  cases q:inSO (fa δ) (fb δ)with
  |none=>simp only[q,ofB]at e;cases e
  |some z=>
   simp only[q,ofB]at e;cases e
   obtain⟨i,j,e1,e2,rfl⟩:=inSO_some q
   refine two R e1 e2 fun v u H' s R' r1 r2=>?_
   simp only[Rep]at r1 r2
   exact⟨i,j,r1,r2,k _ H' s (by simp only[Rep])⟩
theorem dt_inS (hm:behindInMarks .In b=false) (ha:DE X m a fa) (hb:DE X m' b fb):DT X (.Compare a [.In] [b] pos) (fun δ=>inSO (fa δ) (fb δ)):=
 (pt_cmpR op_in_str ha hb hm).imp fun σ H Q ⟨B,Hk,δ,d,R,e,k⟩=>by
  obtain⟨i,j,e1,e2,rfl⟩:=inSO_some e
  refine two R e1 e2 fun v u H' s R' r1 r2=>?_
  simp only[Rep]at r1 r2
  exact⟨i,j,r1,r2,_,rfl,k H' s⟩
theorem dt_notInS (hm:behindInMarks .NotIn b=false) (ha:DE X m a fa) (hb:DE X m' b fb):DT X (.Compare a [.NotIn] [b] pos) (fun δ=>notO (inSO (fa δ) (fb δ))):=
 (pt_cmpR op_notin_str ha hb hm).imp fun σ H Q ⟨B,Hk,δ,d,R,e,k⟩=>by
  cases q:inSO (fa δ) (fb δ)with
  |none=>simp only[q,notO]at e;cases e
  |some z=>
   simp only[q,notO]at e;cases e
   obtain⟨i,j,e1,e2,rfl⟩:=inSO_some q
   refine two R e1 e2 fun v u H' s R' r1 r2=>?_
   simp only[Rep]at r1 r2
   exact⟨i,j,r1,r2,_,rfl,k H' s⟩
noncomputable def strVO (x:Option D):Option D:=match x with|some (.int i)=>if i.natAbs.log2<1920 then some (.str (toString i)) else none|some (.str z)=>some (.str z)|_=>none
theorem call_strV:CallR X (.type "str") (fun xs H Q=>(∃i,xs=[.int i]∧i.natAbs.log2<1920∧Q (.str (toString i)) H)∨∃z,xs=[.str z]∧Q (.str z) H):=by
 intro pins s σ H vs us Q I rv h
 rcases h with⟨i,rfl,hi,q⟩|⟨z,rfl,q⟩
 ·exact call_str_int pins s σ H _ us Q I rv ⟨i,rfl,hi,q⟩
 ·obtain⟨u,rfl,ru⟩:=rv.one
  obtain⟨t,rfl⟩:=ru
  exact PySem.P.str_of_str ⟨.str z,H,I,⟨t,rfl⟩,q⟩
theorem de_strV (g:Gl X "str") (hm:X.mg "str"=none) (ha:DE X m a fa) (hs:starEach [a] X.env=[(false,eval a X.env)]:=by rfl):DE X mm (.Call (.Name "str" p) [a] [] pos) (fun δ=>strVO (fa δ)):=
 (pe_callTy call_strV g hm (by decide +kernel) (pa_cons ha pa_nil hs) (he:=hs)).imp fun σ H Q ⟨B,Hk,δ,d,R,e,k⟩=>by
  unfold strVO at e
  split at e
  ·rename_i i q
   by_cases hi:i.natAbs.log2<1920
   ·rw[if_pos hi]at e;cases e
    exact⟨B,Hk,δ,_,R,q,fun v H' s r=>.inl ⟨i,by simp only[Rep]at r;rw[r],hi,k _ H' s (by simp only[Rep])⟩⟩
   ·rw[if_neg hi]at e;cases e
  ·rename_i z q
   cases e
   exact⟨B,Hk,δ,_,R,q,fun v H' s r=>.inr ⟨z,by simp only[Rep]at r;rw[r],k _ H' s (by simp only[Rep])⟩⟩
  ·cases e
noncomputable def chainI (f g:Int→Int→Bool) (x y z:Option D):Option D:=match x,y with
 |some (.int i),some (.int j)=>if f i j=true then(match z with|some (.int l)=>some (.bl (g j l))|_=>none) else some (.bl false)
 |_,_=>none
theorem de_chain {op op':CmpOp}{f g:Int→Int→Bool}(ho:OpR X (compareOp op) (rI0 fun i j=>.bl (f i j))) (ho':OpR X (compareOp op') (rI0 fun i j=>.bl (g i j))) (ha:DE X m a fa) (hb:DE X m' b fb) (hc:DE X m'' e fc)
  (hm:lastMarks [op,op'] [b,e]=false:=by with_unfolding_all rfl):DE X mm (.Compare a [op,op'] [b,e] pos) (fun δ=>chainI f g (fa δ) (fb δ) (fc δ)):=
 (pe_chain ho ho' ha hb hc hm).imp fun σ H Q ⟨B,Hk,δ,d,R,ed,k⟩=>by
  unfold chainI at ed
  split at ed
  ·rename_i i j e1 e2
   refine two R e1 e2 fun v u H' s R' r1 r2=>?_
   simp only[Rep]at r1 r2
   subst r1;subst r2
   refine⟨i,j,rfl,rfl,f i j,rfl,?_⟩
   by_cases hf:f i j=true
   ·rw[if_pos hf]at ed⊢
    split at ed
    ·rename_i l e3
     cases ed
     refine⟨B,Hk,δ,_,R',e3,fun w H2 s2 r3=>?_⟩
     simp only[Rep]at r3
     subst r3
     exact⟨j,l,rfl,rfl,k _ H2 (s.trans s2) (by simp only[Rep])⟩
    ·cases ed
   ·rw[if_neg hf]at ed⊢
    cases ed
    exact k _ H' s (by simp only[Rep])
  ·cases ed
end
end L2
namespace L2
open PySem PySem.Spec PyProof.Rows
noncomputable def Its (x:Str):It:=⟨fun i _=>i<x.cps.size,fun i H v H'=>H'=H∧∃c,x.cps[i]?=some c∧v=.str ⟨#[c]⟩,fun i _=>x.cps.size≤i⟩
theorem turn_strA {P:Program}{w:World}{K:Frag}{tg:Expr}(it:Addr) (x:Str) (t:Tok):Turn P w K tg (Its x) [it] it (fun i h=>i≤x.cps.size∧h.IsStrIter it "str_ascii_iterator" x t i) where
 mem:=by simp
 obj:=fun i h st b hb=>by
  have e:b=it:=by simpa using hb
  subst e
  obtain⟨_,o,e,c,d⟩:=st
  exact⟨o,e,fun v z=>by rw[d]at z;cases z⟩
 keep:=fun i h h' st k=>by
  obtain⟨hi,o,e,r⟩:=st
  exact⟨hi,o,k it (by simp) o e,r⟩
 item:=by
  intro X hP hw hK hc i pins s σ H E I hf st hg
  subst hP hw hK
  obtain⟨f0,f1,f2,f3,f4,f5⟩:=hf it (by simp)
  have hg:i<x.cps.size:=hg
  refine wpAny_pyNext_ascii_item st.2 (c:=x.cps[i]) (by simp[hg]) fun h' st' sb=>?_
  have I1:Inv X pins σ H {s with heap:=h',toks:=s.toks+1}:=I.turned (fun b o hb e=>(sb.2 b hb).trans e) f0 f1 f3 f4 f5
  obtain⟨o,e,c,d⟩:=id st'
  exact⟨_,rfl,go_of (s:={s with heap:=h',toks:=s.toks+1}) e c d (by decide) ⟨.str ⟨#[x.cps[i]]⟩,H,I1,⟨_,rfl⟩,⟨rfl,_,by simp[hg],rfl⟩,⟨hg,st'⟩,fun b hb=>(hf b hb).1⟩⟩
 done:=by
  intro X hP hw hK hc i pins s σ H E I hf st hg
  subst hP hw hK
  obtain⟨f0,f1,f2,f3,f4,f5⟩:=hf it (by simp)
  have hg:x.cps.size≤i:=hg
  exact wpAny_pyNext_ascii_end (I.ok.hd hc) st.2 (by simp;omega) fun h' eb=>⟨rfl,I.turned (t':=s.toks) (fun b o hb e=>eb b o hb e) f0 f1 f3 f4 f5⟩
 self:=fun _ _ _ _ _ st h=>wpAny_pyIter_striter_ascii st.2 h
theorem turn_strW {P:Program}{w:World}{K:Frag}{tg:Expr}(it:Addr) (x:Str) (t:Tok):Turn P w K tg (Its x) [it] it (fun i h=>i≤x.cps.size∧h.IsStrIter it "str_iterator" x t i) where
 mem:=by simp
 obj:=fun i h st b hb=>by
  have e:b=it:=by simpa using hb
  subst e
  obtain⟨_,o,e,c,d⟩:=st
  exact⟨o,e,fun v z=>by rw[d]at z;cases z⟩
 keep:=fun i h h' st k=>by
  obtain⟨hi,o,e,r⟩:=st
  exact⟨hi,o,k it (by simp) o e,r⟩
 item:=by
  intro X hP hw hK hc i pins s σ H E I hf st hg
  subst hP hw hK
  obtain⟨f0,f1,f2,f3,f4,f5⟩:=hf it (by simp)
  have hg:i<x.cps.size:=hg
  refine wpAny_pyNext_wide_item st.2 (c:=x.cps[i]) (by simp[hg]) fun h' st' sb=>?_
  have I1:Inv X pins σ H {s with heap:=h',toks:=s.toks+1}:=I.turned (fun b o hb e=>(sb.2 b hb).trans e) f0 f1 f3 f4 f5
  obtain⟨o,e,c,d⟩:=id st'
  exact⟨_,rfl,go_of (s:={s with heap:=h',toks:=s.toks+1}) e c d (by decide) ⟨.str ⟨#[x.cps[i]]⟩,H,I1,⟨_,rfl⟩,⟨rfl,_,by simp[hg],rfl⟩,⟨hg,st'⟩,fun b hb=>(hf b hb).1⟩⟩
 done:=by
  intro X hP hw hK hc i pins s σ H E I hf st hg
  subst hP hw hK
  obtain⟨f0,f1,f2,f3,f4,f5⟩:=hf it (by simp)
  have hg:x.cps.size≤i:=hg
  exact wpAny_pyNext_wide_end (I.ok.hd hc) st.2 (by simp;omega) fun h' eb=>⟨rfl,I.turned (t':=s.toks) (fun b o hb e=>eb b o hb e) f0 f1 f3 f4 f5⟩
 self:=fun _ _ _ _ _ st h=>wpAny_pyIter_striter_wide st.2 h
section
variable{X:Cx}{tg:Expr}{m m' mm:Bool}{a b e:Expr}{fa fb:DEnv→Option D}{p pos apos cpos:Pos}
noncomputable def iStr (tl:TE):TI:=fun σ H R=>tl σ H fun x H1=>∃z,x=.str z∧R (Its z) H1
theorem pi_str {l:Expr}{tl:TE}(hl:PE X l tl):PI X tg l (iStr tl):=by
 intro pins s σ H R I h
 refine thn (hl pins s σ H _ I h) fun v s1 ⟨x,H1,I1,r1,q1⟩=>?_
 obtain⟨z,e,q⟩:=q1
 subst e
 obtain⟨t,rfl⟩:=r1
 have fp:∀b∈[s1.heap.objs.size],FpOk X pins H1 b:=fun b hb=>by
  have e:b=s1.heap.objs.size:=by simpa using hb
  subst e
  exact I1.fpOk (Nat.le_refl _) (I1.hok.fresh (Nat.le_refl _))
 cases ha:z.cps.all (· <128)with
 |true=>exact wpAny_pyIter_ascii ha ⟨s1.heap.objs.size,[s1.heap.objs.size],_,_,H1,rfl,I1.kept (t':=s1.toks) fun b o e=>Heap.get?_push_of_some _ e,turn_strA _ z t,⟨Nat.zero_le _,_,Heap.get?_push_size _ rfl,rfl,rfl⟩,fp,q⟩
 |false=>exact wpAny_pyIter_wide ha ⟨s1.heap.objs.size,[s1.heap.objs.size],_,_,H1,rfl,I1.kept (t':=s1.toks) fun b o e=>Heap.get?_push_of_some _ e,turn_strW _ z t,⟨Nat.zero_le _,_,Heap.get?_push_size _ rfl,rfl,rfl⟩,fp,q⟩
noncomputable def signs (z:Str):List D:=z.cps.toList.map fun c=>.str ⟨#[c]⟩
noncomputable def strL (x:Option D):Option (List D):=match x with|some (.str z)=>some (signs z)|_=>none
theorem di_str (h:DE X m a fa):DI X m tg a (fun δ=>strL (fa δ)):=
 (pi_str h).imp fun σ H Q ⟨B,Hk,δ,ds,R,e,k⟩=>by
  unfold strL at e
  split at e
  ·rename_i z q
   cases e
   refine⟨B,Hk,δ,_,R,q,fun v H' s r=>?_⟩
   simp only[Rep]at r
   refine⟨z,r,k _ H' s fun H2 x=>⟨by show z.cps.size≤_;simp[signs],fun i d hd=>?_⟩⟩
   unfold signs at hd
   rw[List.getElem?_map]at hd
   cases hc:z.cps.toList[i]? with
   |none=>rw[hc]at hd;cases hd
   |some c=>
    rw[hc]at hd;cases hd
    have hi:i<z.cps.size:=by have:=(List.getElem?_eq_some_iff.mp hc).1;simpa using this
    refine⟨hi,fun y H3 ⟨e3,c',hc',hy⟩=>⟨by rw[e3];exact Same.refl _,?_⟩⟩
    have:c'=c:=by rw[Array.getElem?_toList]at hc;rw[hc]at hc';exact(Option.some.inj hc').symm
    subst this
    rw[hy];simp only[Rep]
  ·cases e
noncomputable def lenS (x:Option D):Option D:=match x with|some (.str z)=>if z.length≤lim then some (.int z.length) else none|_=>none
theorem strsFrom_vals:∀(ys:List Str) (t:Nat),Vals (ys.map V.str) (strsFrom t ys)
 |[],t=>.nil
 |y::ys,t=>.cons ⟨t,rfl⟩ (strsFrom_vals ys (t+1))
theorem mt_split:MtM X "str.split" (fun x vs H Q=>∃(z y:Str),x=.str z∧vs=[.str y]∧z.length≤lim∧(y.length==0)=false∧(Txt.split z y).length≤lim∧∀q,H q=none→Q (.ref q) (upd H q (.lst ((Txt.split z y).map V.str)))):=by
 intro pins s σ H x vs v us Q I rx rv h
 obtain⟨z,y,rfl,rfl,hz,hy,hn,q⟩:=h
 obtain⟨t,rfl⟩:=rx
 obtain⟨u,rfl,ru⟩:=Vals.one rv
 obtain⟨t',rfl⟩:=ru
 have one:Txt.split z y=[z]→EP X pins σ Q (.ref s.heap.objs.size) {s with heap:=s.heap.push {cls:=.type "list",data:=.seq #[.str z t]}}:=fun hs=>
  ⟨.ref s.heap.objs.size,_,I.lnew (t':=s.toks) (ys:=[.str z]) (its:=[.str z t]) (.cons ⟨t,rfl⟩ .nil) (show 1≤sizeLine by decide),rfl,by have:=q _ I.fresh;rw[hs]at this;exact this⟩
 unfold Txt.split at hn q one
 cases h1:(decide (z.length<y.length)||decide (Builtin.Str.strKind z<Builtin.Str.strKind y))with
 |true=>
  exact call_meets PySem.F.slot_str_split (typeIs_str _ _ _) PySem.F.entry_str_split (PySem.F.args_str_split_2 _ _) (meets_str_split_cannot_occur z y t t' h1) (one (by rw[h1];rfl))
 |false=>
  cases h2:(Builtin.Str.occurrences z y 0 z.length (z.length+1)).isEmpty with
  |true=>exact call_meets PySem.F.slot_str_split (typeIs_str _ _ _) PySem.F.entry_str_split (PySem.F.args_str_split_2 _ _) (meets_str_split_not_found z y t t' h1 hy h2) (one (by rw[h1,h2];rfl))
  |false=>
   rw[h1,h2]at hn q
   exact call_meets PySem.F.slot_str_split (typeIs_str _ _ _) PySem.F.entry_str_split (PySem.F.args_str_split_2 _ _) (meets_str_split_sep z y t t' h1 hy h2 (lim_line hz) (lim_line hn))
    ⟨.ref s.heap.objs.size,_,I.lnew (ys:=(Builtin.Str.partsBetween z (Builtin.Str.occurrences z y 0 z.length (z.length+1)) y.length).map V.str) (strsFrom_vals _ _) (by rw[List.length_map];exact lim_line hn),rfl,q _ I.fresh⟩
end
end L2
namespace L2
open PySem PySem.Spec PyProof.Rows
section
variable{X:Cx}{m m' mm:Bool}{a b e:Expr}{fa fb:DEnv→Option D}{p pos apos cpos:Pos}
theorem boot_all:bootBuiltins "all"=some (.builtin "all"):=by decide +kernel
theorem call_allB (hc:X.calm=true):CallR X (.builtin "all") (fun xs H Q=>∃(q:Addr) (bs:List Bool),xs=[.ref q]∧SqL X.K H q (bs.map V.bl)∧Q (.bl (bs.all id)) H):=by
 intro pins s σ H xs us Q I rv h
 obtain⟨q,bs,rfl,hq,k⟩:=h
 obtain⟨u,rfl,ru⟩:=rv.one
 cases ru
 obtain⟨its,r,pl,hz⟩:=I.list hq
 have hl:=r.length
 rw[List.length_map]at hl
 have hne:q≠s.heap.objs.size:=Nat.ne_of_lt (by obtain⟨o,e,_⟩:=pl.isList;exact Heap.lt_size e)
 refine call_all_walk (wpAny_pyIter_list pl.isList ⟨s.heap.objs.size,_,_,its.toArray.size,_,_,fun i=>bs.getD i false,rfl,Walks.list (A:=X.A.in1) (show X.A.in1.handled=none from I.ok.hd hc) s.heap.objs.size q hne its.toArray,⟨⟨_,Heap.get?_push_size _ rfl,rfl,rfl⟩,pl.isList.push _⟩,fun i v s' Q' E' hv hQ'=>?_,fun h' tk hk=>?_⟩)
 ·have hv':its[i]?=some v:=by simpa using hv
  have hi:i<bs.length:=by have:=(List.getElem?_eq_some_iff.mp hv').1;omega
  obtain⟨v',e1,e2⟩:=r.get (i:=i) (x:=.bl bs[i]) (by simp[hi])
  rw[hv']at e1;cases e1
  cases e2
  refine wpAny_truthy_bool ?_
  rw[show bs[i]=bs.getD i false by simp[hi]]
  exact hQ'
 ·have e:(List.range its.toArray.size).all (fun i=>bs.getD i false)=bs.all id:=by
   rw[List.size_toArray,←hl,Bool.eq_iff_iff,List.all_eq_true,List.all_eq_true]
   constructor
   ·intro h x hx
    obtain⟨i,hi,rfl⟩:=List.mem_iff_getElem.mp hx
    simpa[hi]using h i (List.mem_range.mpr hi)
   ·intro h i hi
    have hi':=List.mem_range.mp hi
    simpa[hi']using h bs[i] (List.getElem_mem hi')
  rw[e]
  refine⟨.bl (bs.all id),H,?_,rfl,k⟩
  exact(I.kept (t':=tk) fun b o eb=>hk b o (fun z=>by
   have:b=s.heap.objs.size:=by simpa using z
   rw[this]at eb;exact absurd (Heap.lt_size eb) (Nat.lt_irrefl _)) (Heap.get?_push_of_some _ eb))
noncomputable def allO (x:Option D):Option D:=match x with|some (.lst ds)=>(match bolsD ds with|some bs=>some (.bl (bs.all id))|none=>none)|_=>none
theorem de_all (hc:X.calm=true) (g:Gl X "all") (hm:X.mg "all"=none) (ha:DE X m a fa) (hs:starEach [a] X.env=[(false,eval a X.env)]:=by rfl):DE X mm (.Call (.Name "all" p) [a] [] pos) (fun δ=>allO (fa δ)):=
 (pe_callB (call_allB hc) g hm boot_all (pa_cons ha pa_nil hs) (he:=hs)).imp fun σ H Q ⟨B,Hk,δ,d,R,e,k⟩=>by
  unfold allO at e
  split at e
  ·rename_i ds q
   split at e
   ·rename_i bs qn
    cases e
    obtain rfl:=bolsD_some qn
    refine oneA R q fun v H' s R' r=>?_
    simp only[Rep]at r
    obtain⟨c,xs,rfl,hq,rs⟩:=r
    obtain rfl:=rs.bols
    exact⟨c,bs,rfl,hq.sq,k _ H' s (by simp only[Rep])⟩
   ·cases e
  ·cases e
theorem de_lenS (g:Gl X "len") (hm:X.mg "len"=none) (ha:DE X m a fa) (hs:starEach [a] X.env=[(false,eval a X.env)]:=by rfl):DE X mm (.Call (.Name "len" p) [a] [] pos) (fun δ=>lenS (fa δ)):=
 (pe_callB call_len_str g hm PySem.boot_len (pa_cons ha pa_nil hs) (he:=hs)).imp fun σ H Q ⟨B,Hk,δ,d,R,e,k⟩=>by
  unfold lenS at e
  split at e
  ·rename_i z q
   by_cases hl:z.length≤lim
   ·rw[if_pos hl]at e;cases e
    exact⟨B,Hk,δ,_,R,q,fun v H' s r=>⟨z,by simp only[Rep]at r;rw[r],lim_line hl,k _ H' s (by simp only[Rep])⟩⟩
   ·rw[if_neg hl]at e;cases e
  ·cases e
noncomputable def splitO (x y:Option D):Option D:=match x,y with
 |some (.str z),some (.str w)=>if(decide (z.length≤lim)&&!(w.length==0)&&decide ((Txt.split z w).length≤lim))=true then some (.lst ((Txt.split z w).map D.str)) else none
 |_,_=>none
theorem reps_strs {K:Frag}{B:Addr→Prop}{H:Hp}:∀ys:List Str,Reps K B H (ys.map D.str) (ys.map V.str)
 |[]=>Reps.nil
 |y::ys=>Reps.cons (by simp only[Rep]) (reps_strs ys)
theorem df_split (ha:DE X m a fa) (hb:DE X m' b fb) (hbase:attributeBase a "split" X.env (eval a X.env)=eval a X.env:=by rfl)
  (hfew:((backTo cpos (starEach [b] X.env)).all (fun x=>!x.1)&&(backToKw cpos (keywordEach [] X.env)).all (fun x=>x.1.isSome)&&decide (([b]).length+([]:List Keyword).length+(if([]:List Keyword).isEmpty then 0 else 1)<30))=true:=by rfl)
  (hline:(apos.endLine==cpos.line)=true:=by rfl) (hs:starEach [b] X.env=(false,eval b X.env)::starEach [] X.env:=by rfl):DF X (.Call (.Attribute a "split" apos) [b] [] cpos) (fun δ=>splitO (fa δ) (fb δ)):=
 (pe_bm PySem.F.plainAttrs_str PySem.F.slot_str_split PySem.F.type_str_split mt_split ha (pa_cons hb pa_nil hs) hbase hfew hline hs).imp fun σ H Q ⟨B,Hk,δ,d,R,e,k⟩=>by
  unfold splitO at e
  split at e
  ·rename_i z y q1 q2
   by_cases c:(decide (z.length≤lim)&&!(y.length==0)&&decide ((Txt.split z y).length≤lim))=true
   ·rw[if_pos c]at e;cases e
    simp only[Bool.and_eq_true,decide_eq_true_eq,Bool.not_eq_true']at c
    refine⟨B,Hk,δ,_,R,q1,fun v H1 s1 r1=>?_⟩
    simp only[Rep]at r1
    subst r1
    refine⟨rfl,oneA (R.to s1) q2 fun w H2 s2 R2 r2=>?_⟩
    simp only[Rep]at r2
    subst r2
    refine⟨z,y,rfl,rfl,c.1.1,c.1.2,c.2,fun q hq=>k q _ ((s1.trans s2).trans (same_upd hq)) ((s1.trans s2).free hq) ⟨_,upd_same,reps_strs _⟩⟩
   ·rw[if_neg c]at e;cases e
  ·cases e
noncomputable def cutAtO (z y:Str):List Str:=match Builtin.Str.occurrences z y 0 z.length 1 with|i::_=>[Builtin.Str.strSub z 0 i,y,Builtin.Str.strSub z (i+y.length) z.length]|[]=>[z,Str.empty,Str.empty]
theorem mt_part:MtM X "str.partition" (fun x vs H Q=>∃(z y:Str),x=.str z∧vs=[.str y]∧z.length≤lim∧(y.length==0)=false∧∀q,H q=none→Q (.ref q) (upd H q (.tup ((cutAtO z y).map V.str)))):=by
 intro pins s σ H x vs v us Q I rx rv h
 obtain⟨z,y,rfl,rfl,hz,hy,q⟩:=h
 obtain⟨t,rfl⟩:=rx
 obtain⟨u,rfl,ru⟩:=rv.one
 obtain⟨t',rfl⟩:=ru
 refine call_meets PySem.F.slot_str_partition (typeIs_str _ _ _) PySem.F.entry_str_partition (PySem.F.args_str_partition_2 _ _) (meets_str_partition z y t t' hy (lim_line hz)) ?_
 have q':=q s.heap.objs.size I.fresh
 unfold cutAtO at q'
 have lay:∀(ys:List V) (its:List Value) (tk:Nat),Vals ys its→ys.length≤sizeLine→Inv X pins σ (upd H s.heap.objs.size (.tup ys)) {s with heap:=s.heap.push {cls:=.type "tuple",data:=.seq its.toArray},toks:=tk}:=fun ys its tk hv hl=>
  I.laid (fun _ _ q=>Heap.get?_push_of_some _ q) (Nat.le_refl _) ⟨hl,its,hv,⟨_,Heap.get?_push_size _ rfl,rfl,_,rfl⟩⟩
 cases ho:Builtin.Str.occurrences z y 0 z.length 1 with
 |nil=>
  rw[ho]at q'
  exact⟨.ref s.heap.objs.size,_,lay [.str z,.str Str.empty,.str Str.empty] [.str z t,.str Str.empty s.toks,.str Str.empty s.toks] _ (.cons ⟨_,rfl⟩ (.cons ⟨_,rfl⟩ (.cons ⟨_,rfl⟩ .nil))) (show 3≤sizeLine by decide),rfl,q'⟩
 |cons i r=>
  rw[ho]at q'
  exact⟨.ref s.heap.objs.size,_,lay [.str (Builtin.Str.strSub z 0 i),.str y,.str (Builtin.Str.strSub z (i+y.length) z.length)] [.str (Builtin.Str.strSub z 0 i) s.toks,.str y t',.str (Builtin.Str.strSub z (i+y.length) z.length) (s.toks+1)] _ (.cons ⟨_,rfl⟩ (.cons ⟨_,rfl⟩ (.cons ⟨_,rfl⟩ .nil))) (show 3≤sizeLine by decide),rfl,q'⟩
noncomputable def partO (x y:Option D):Option D:=match x,y with
 |some (.str z),some (.str w)=>if(decide (z.length≤lim)&&!(w.length==0))=true then some (.tup ((cutAtO z w).map D.str)) else none
 |_,_=>none
theorem de_part (ha:DE X m a fa) (hb:DE X m' b fb) (hbase:attributeBase a "partition" X.env (eval a X.env)=eval a X.env:=by rfl)
  (hfew:((backTo cpos (starEach [b] X.env)).all (fun x=>!x.1)&&(backToKw cpos (keywordEach [] X.env)).all (fun x=>x.1.isSome)&&decide (([b]).length+([]:List Keyword).length+(if([]:List Keyword).isEmpty then 0 else 1)<30))=true:=by rfl)
  (hline:(apos.endLine==cpos.line)=true:=by rfl) (hs:starEach [b] X.env=(false,eval b X.env)::starEach [] X.env:=by rfl):DE X mm (.Call (.Attribute a "partition" apos) [b] [] cpos) (fun δ=>partO (fa δ) (fb δ)):=
 (pe_bm PySem.F.plainAttrs_str PySem.F.slot_str_partition PySem.F.type_str_partition mt_part ha (pa_cons hb pa_nil hs) hbase hfew hline hs).imp fun σ H Q ⟨B,Hk,δ,d,R,e,k⟩=>by
  unfold partO at e
  split at e
  ·rename_i z y q1 q2
   by_cases c:(decide (z.length≤lim)&&!(y.length==0))=true
   ·rw[if_pos c]at e;cases e
    simp only[Bool.and_eq_true,decide_eq_true_eq,Bool.not_eq_true']at c
    refine⟨B,Hk,δ,_,R,q1,fun v H1 s1 r1=>?_⟩
    simp only[Rep]at r1
    subst r1
    refine⟨rfl,oneA (R.to s1) q2 fun w H2 s2 R2 r2=>?_⟩
    simp only[Rep]at r2
    subst r2
    refine⟨z,y,rfl,rfl,c.1,c.2,fun q hq=>k (.ref q) _ ((s1.trans s2).trans (same_upd hq)) ?_⟩
    simp only[Rep]
    exact⟨q,_,rfl,upd_same,reps_strs _⟩
   ·rw[if_neg c]at e;cases e
  ·cases e
noncomputable def tupleX (x:Option (Option D)):Option (Option D):=match x with|some (some d)=>upO (tupleO (some d))|some none=>some none|none=>none
end
end L2
namespace L2
open PySem PySem.Spec PyProof.Rows
section
variable{X:Cx}{C:Str}{c:Addr}{m m' mm:Bool}{a b e:Expr}{es:List Expr}{fa fb:DEnv→Option D}{fx:DEnv→Option (Option D)}{fs:DEnv→Option (List D)}{p pc pos apos cpos:Pos}{x y:Str}{i k:Nat}{f:List D→Option (Option (D×Bool))}
theorem Nm.w {W:Value→Shared→Prop}(h:Nm X i x):Nm (X.wish W) i x:=⟨h.1,h.2,h.3,h.4⟩
theorem Gb.w {W:Value→Shared→Prop}(h:Gb X x):Gb (X.wish W) x:=⟨h.1,h.2⟩
theorem hasX1 {P:Program}{w:World}{K:Frag}{mg:Str→Option Value}{base:Heap}{f:Addr}{cdv:Value}{A:Around}{outer:List Env}{s:Shared}{H:Hp}{E:XK}{N:List Str}{q:Str}{sc:Scope}{CX:CXT}(nd:N.Nodup):
  Has (cxOf CX P w K mg base N q sc f cdv A outer s H E) N sc:=⟨rfl,rfl,rfl,nd⟩
theorem dec_call' (F:FnX X.prog X.w X.K X.mg X.base k x C f) (hr:Room k X.A) (g:Gb X x) (ha:DA X m (e::es) fs) (he:starEach (e::es) X.env=(false,eval e X.env)::starEach es X.env:=by rfl)
  (hpl:(backTo pos (starEach es X.env)).any (·.1)=false:=by rfl):DEc X C m (.Call (.Name x p) (e::es) [] pos) (fun δ=>shX (ah (fs δ) f)):=dec_call F hr g.gl ha g.d1 he hpl
theorem dec_callV' (F:FnX X.prog X.w X.K X.mg X.base k y C f) (hr:Room k X.A) (n:Nm X i x) (ha:DA X m (e::es) fs) (he:starEach (e::es) X.env=(false,eval e X.env)::starEach es X.env:=by rfl)
  (hpl:(backTo pos (starEach es X.env)).any (·.1)=false:=by rfl):DEc X C m (.Call (.Name x p) (e::es) [] pos) (fun δ=>spO false i y δ (shX (ah (fs δ) f))):=dec_callV F hr ha n.at' n.vis n.d1 n.d2 he hpl
theorem de_gfun' (F:FnX X.prog X.w X.K X.mg X.base k x C f) (g:Gb X x):DE X mm (.Name x pos) (fun _=>some (.sp false x)):=by
 obtain⟨q,fd,ps,h1,h2,h3,h4,h5⟩:=F.ex
 exact de_gfun g.gl h2 h5 g.d1
theorem de_gstr' {z:Str}(g:Gb X x) (hm:∃t,X.mg x=some (.str z t)):DE X mm (.Name x pos) (fun _=>some (.str z)):=by
 obtain⟨t,hm⟩:=hm
 exact de_gstr g.gl hm g.d1
theorem dsx_raise' (hX:X.calm=true) (ec:ErrC X.K X.mg C c) (g:Gb X C) (ha:DE X m a fa) (he:starEach [a] X.env=[(false,eval a X.env)]:=by rfl):DSx X C (.Raise (some (.Call (.Name C p) [a] [] cpos)) none pos) (fun δ=>raiO (fa δ)):=dsx_raise hX ec g.gl ha g.d1 he
theorem dsx_set' {pos':Pos}(n:X.N.Nodup) (l:Lc X i x) (ha:DEx X C false a fx) (hs:swapsWith a (some (.Name x pos')) pos.line X.env=pure false:=by rfl):DSx X C (.Assign [.Name x pos'] a pos) (fun δ=>setX i (fx δ) δ):=dsx_set n ha l.at' l.loc hs l.fnl
theorem dex_tuple (g:Gl X "tuple") (hm:X.mg "tuple"=none) (ha:DEx X C m a fx) (hs:starEach [a] X.env=[(false,eval a X.env)]:=by rfl):DEx X C m (.Call (.Name "tuple" p) [a] [] pos) (fun δ=>tupleX (fx δ)):=
 (pe_callTy call_tuple_of g hm bt_tuple (pa_cons ha pa_nil hs) (he:=hs)).imp fun σ H Q ⟨B,Hk,δ,r,R,e,k⟩=>by
  cases q:fx δ with
  |none=>simp only[q,tupleX]at e;cases e
  |some r1=>
   cases r1 with
   |none=>simp only[q,tupleX]at e;cases e;exact⟨B,Hk,δ,none,R,q,k⟩
   |some d1=>
    simp only[q,tupleX]at e
    cases hi:itemsD d1 with
    |none=>simp[tupleO,hi,upO]at e
    |some es=>
     simp only[tupleO,hi,upO]at e;cases e
     refine⟨B,Hk,δ,some d1,R,q,fun v H' s r=>?_⟩
     have R':=R.to s
     cases d1 with
     |lst ds=>
      simp only[itemsD]at hi;cases hi
      simp only[Rep]at r
      obtain⟨c,xs,rfl,hq,rs⟩:=r
      refine⟨c,xs,rfl,.inl ⟨hq.sq,fun l hl=>?_⟩⟩
      have s2:=same_upd (o:=.tup xs) hl
      refine k _ _ (s.trans s2) ?_
      simp only[Rep]
      exact⟨l,xs,rfl,upd_same,rs.same R' s2⟩
     |tup ds=>
      simp only[itemsD]at hi;cases hi
      have r':=r
      simp only[Rep]at r
      obtain⟨c,xs,rfl,hq,rs⟩:=r
      exact⟨c,xs,rfl,.inr ⟨SqT.of hq,k _ H' s r'⟩⟩
     |_=>simp[itemsD]at hi
theorem de_isiC {cs:Str}{d:Addr}{kk:Bool}(ec:ErrC X.K X.mg C c) (ok:errIn X.K c=true) (ed:ErrC X.K X.mg cs d) (kt:PySem.W.kitOne X.K (.ref c) (.ref d)=some kk) (gi:Gb X "isinstance") (hm:X.mg "isinstance"=none) (gc:Gb X cs) (ha:DE X m a fa)
  (hs:starEach [a,.Name cs pc] X.env=[(false,eval a X.env),(false,eval (.Name cs pc) X.env)]:=by rfl) (hs2:starEach [.Name cs pc] X.env=[(false,eval (.Name cs pc) X.env)]:=by rfl)
  (hpl:(backTo pos (starEach [.Name cs pc] X.env)).any (·.1)=false:=by rfl):DE X mm (.Call (.Name "isinstance" p) [a,.Name cs pc] [] pos) (fun δ=>isiEO C kk (fa δ)):=
 de_isiG (w:=.ref d) ec.nm ok kt (fun u r=>r) (pe_glob gc.gl ed.bound rfl gc.d1) gi.gl hm ha hs hs2 hpl
theorem de_isiB {cs:Str}{cn:String}{kk:Bool}(ec:ErrC X.K X.mg C c) (ok:errIn X.K c=true) (kt:PySem.W.kitOne X.K (.ref c) (.type cn)=some kk) (gi:Gb X "isinstance") (hm:X.mg "isinstance"=none) (gc:Gb X cs) (hmc:X.mg cs=none) (hv:bootBuiltins cs=some (.type cn)) (ha:DE X m a fa)
  (hn:cs≠"__name__":=by decide) (hs:starEach [a,.Name cs pc] X.env=[(false,eval a X.env),(false,eval (.Name cs pc) X.env)]:=by rfl) (hs2:starEach [.Name cs pc] X.env=[(false,eval (.Name cs pc) X.env)]:=by rfl)
  (hpl:(backTo pos (starEach [.Name cs pc] X.env)).any (·.1)=false:=by rfl):DE X mm (.Call (.Name "isinstance" p) [a,.Name cs pc] [] pos) (fun δ=>isiEO C kk (fa δ)):=
 de_isiG (w:=.ty cn) ec.nm ok kt (fun u r=>r) (pe_bltn (v:=.ty cn) gc.gl hmc hv rfl hn gc.d1) gi.gl hm ha hs hs2 hpl
theorem bt_ValueError:bootBuiltins "ValueError"=some (.type "ValueError"):=by decide +kernel
end
end L2
namespace L2
open PySem PySem.Spec PyProof.Rows
noncomputable def constD:Expr→Option D
 |.Constant (.int i) _ _=>some (.int i)
 |.Constant (.str x) _ _=>some (.str x)
 |.Constant .none _ _=>some .non
 |_=>none
section
variable{X:Cx}{m:Bool}
theorem de_const {e:Expr}{d:D}(h:constD e=some d):DE X m e (fun _=>some d):=by
 unfold constD at h
 split at h
 ·cases h;exact ae
 ·cases h;exact am
 ·cases h;exact de_non
 ·cases h
theorem const_star {e:Expr}{es:List Expr}{d:D}{env:Env}(h:constD e=some d):starEach (e::es) env=(false,eval e env)::starEach es env:=by
 unfold constD at h
 split at h
 ·rfl
 ·rfl
 ·rfl
 ·cases h
theorem da_consts:∀{es:List Expr}{ds:List D},es.map constD=ds.map some→DA X m es (fun _=>some ds)
 |[],[],_=>ag
 |[],_::_,h=>by simp at h
 |_::_,[],h=>by simp at h
 |e::es,d::ds,h=>by
  rw[List.map_cons,List.map_cons,List.cons.injEq]at h
  exact ac (de_const h.1) (da_consts h.2) (const_star h.1)
end
end L2
namespace L2
open PySem
@[simp] theorem upO_s {α:Type}(d:α):upO (some d)=some (some d):=(rfl)
@[simp] theorem consX_s (d:D) (ds:List D):consX (some (some d)) (some (some ds))=some (some (d::ds)):=(rfl)
@[simp] theorem consX_e (y:Option (Option (List D))):consX (some none) y=some none:=(rfl)
@[simp] theorem consX_e2 (d:D):consX (some (some d)) (some none)=some none:=(rfl)
@[simp] theorem tupX_s (ds:List D) (h:ds.length≤lim):tupX (some (some ds))=some (some (.tup ds)):=by unfold tupX;simp only[if_pos h]
@[simp] theorem tupX_e:tupX (some none)=some none:=(rfl)
@[simp] theorem upS_s (y:Out):upS (some y)=some (.o y):=(rfl)
@[simp] theorem seqX_n (δ:DEnv) (k:DEnv→Option OutX):seqX (some (.o (.next δ))) k=k δ:=(rfl)
@[simp] theorem seqX_r (d:D) (b:Bool) (k:DEnv→Option OutX):seqX (some (.o (.ret d b))) k=some (.o (.ret d b)):=(rfl)
@[simp] theorem seqX_x (k:DEnv→Option OutX):seqX (some .rai) k=some .rai:=(rfl)
@[simp] theorem dropX_s (d:D) (δ:DEnv):dropX (some (some d)) δ=some (.o (.next δ)):=(rfl)
@[simp] theorem dropX_e (δ:DEnv):dropX (some none) δ=some .rai:=(rfl)
@[simp] theorem retX_s (d:D):retX (some (some d))=some (.o (.ret d false)):=(rfl)
@[simp] theorem retX_e:retX (some none)=some .rai:=(rfl)
@[simp] theorem ifX'_t (x y:Option OutX):ifX' (some true) x y=x:=(rfl)
@[simp] theorem ifX'_f (x y:Option OutX):ifX' (some false) x y=y:=(rfl)
@[simp] theorem raiO_s (d:D):raiO (some d)=some .rai:=(rfl)
@[simp] theorem outX_r (d:D) (b:Bool):outX (some (.o (.ret d b)))=some (some (d,b)):=(rfl)
@[simp] theorem outX_n (δ:DEnv):outX (some (.o (.next δ)))=some (some (.non,false)):=(rfl)
@[simp] theorem outX_x:outX (some .rai)=some none:=(rfl)
@[simp] theorem shX_s (d:D) (b:Bool):shX (some (some (d,b)))=some (some d):=(rfl)
@[simp] theorem shX_e:shX (some none)=some none:=(rfl)
@[simp] theorem lstX_s (ds:List D):lstX (some (some ds))=some (some (.lst ds)):=(rfl)
@[simp] theorem lstX_e:lstX (some none)=some none:=(rfl)
@[simp] theorem tupleX_s (ds:List D):tupleX (some (some (.lst ds)))=some (some (.tup ds)):=(rfl)
@[simp] theorem tupleX_e:tupleX (some none)=some none:=(rfl)
@[simp] theorem inSO_s (c s:Str):inSO (some (.str c)) (some (.str s))=some (!(Builtin.Str.occurrences s c 0 s.length 1).isEmpty):=(rfl)
@[simp] theorem lenS_s (z:Str) (h:z.length≤lim):lenS (some (.str z))=some (.int z.length):=by unfold lenS;simp only[if_pos h]
@[simp] theorem chainI_s (f g:Int→Int→Bool) (i j l:Int):chainI f g (some (.int i)) (some (.int j)) (some (.int l))=some (.bl (f i j&&g j l)):=by
 unfold chainI
 cases h:f i j<;>simp[h]
@[simp] theorem isiEO_s (C:Str) (b:Bool):isiEO C b (some (.sp true C))=some (.bl b):=by unfold isiEO;simp only[if_true]
@[simp] theorem strL_s (z:Str):strL (some (.str z))=some (signs z):=(rfl)
theorem bolsD_map:∀bs:List Bool,bolsD (bs.map D.bl)=some bs
 |[]=>rfl
 |b::bs=>by simp only[List.map_cons,bolsD,bolsD_map bs]
@[simp] theorem allO_s (bs:List Bool):allO (some (.lst (bs.map D.bl)))=some (.bl (bs.all id)):=by unfold allO;simp only[bolsD_map]
theorem runX_eq {f:List D→Option (Option (D×Bool))}{n np:Nat}{g:DEnv→Option OutX}{ds:List D}{δ:DEnv}(hf:f=runX n np g) (hl:ds.length=np) (hs:startD n ds=δ):f ds=outX (g δ):=by
 rw[hf];unfold runX;rw[if_pos hl,hs]
theorem compX_mapM {h:D→Option (Option D)}{q:D→Option D}:∀{ds:List D},(∀d∈ds,h d=some (q d))→compX h ds=some (ds.mapM q)
 |[],_=>rfl
 |d::ds,e=>by
  have e1:=e d (by simp)
  have e2:=compX_mapM (h:=h) (q:=q) (ds:=ds) fun x hx=>e x (by simp[hx])
  unfold compX
  rw[e1,e2]
  cases q1:q d with
  |none=>simp[List.mapM_cons,q1]
  |some y=>
   cases q2:ds.mapM q with
   |none=>simp[List.mapM_cons,q1,q2]
   |some l=>simp[List.mapM_cons,q1,q2]
theorem runCX_s {bs:List Bool}{τ:D→DEnv→Option DEnv}{fe:DEnv→Option (Option D)}{δ:DEnv}{ds:List D}{q:D→Option D}(hl:ds.length≤lim) (h:∀d∈ds,itemX τ fe (maskD false bs δ) d=some (q d)):runCX false bs τ fe δ ds=some (ds.mapM q):=by
 unfold runCX;rw[if_pos hl];exact compX_mapM h
theorem split_len (z y:Str):(Txt.split z y).length≤z.length+2:=by
 unfold Txt.split
 split
 ·simp
 ·split
  ·simp
  ·have:=PySem.StrLaws.occ_length_le_len z y 0 z.length (z.length+1)
   rw[show ∀(cs:List Nat) (w:Nat),(Builtin.Str.partsBetween z cs w).length=cs.length+1 from fun cs w=>by simp[Builtin.Str.partsBetween]]
   omega
theorem split_mem (z y:Str):∀p∈Txt.split z y,p.length≤z.length:=by
 intro p hp
 unfold Txt.split at hp
 split at hp
 ·simp at hp;rw[hp];exact Nat.le_refl _
 ·split at hp
  ·simp at hp;rw[hp];exact Nat.le_refl _
  ·simp only[Builtin.Str.partsBetween,List.mem_map]at hp
   obtain⟨⟨i,j⟩,_,rfl⟩:=hp
   exact strSub_length_le ..
end L2
namespace L2
open PySem PySem.Spec PyProof.Rows
inductive tNAx (X:Cx) (C:Str) (f:DEnv→Option (Option (List D))) (σ:St) (H:Hp) (Q:(List V→Hp→Prop)):Prop
 |mk (B:Addr→Prop) (Hk:Hp) (δ:DEnv) (r:Option (List D)) (a_:Rel X.K B Hk δ σ H) (b_:f δ=some r) (c_:match r with
 |some ds=>∀vs H',Same H H'→NReps X.K B Hk H' ds vs→Q vs H'
 |none=>ThrowsF X C Hk):tNAx X C f σ H Q
noncomputable abbrev DNAx (X:Cx) (C:Str) (es:List Expr) (f:DEnv→Option (Option (List D))):Prop:=PA X es (tNAx X C f)
noncomputable def valX (x:Option (Option D)):Option (Option D):=match x with|some (some (.lst _))=>none|some r=>some r|none=>none
theorem valX_some {x:Option (Option D)}{r:Option D}(h:valX x=some r):x=some r∧∀es,r≠some (.lst es):=by
 unfold valX at h
 split at h
 ·cases h
 ·rename_i r' hr;cases h;exact⟨rfl,fun es z=>hr es (by rw[z])⟩
 ·cases h
noncomputable def newX (x:Option (Option D)):Option (Option D):=match x with|some (some (.lst ds))=>some (some (.lst ds))|some none=>some none|_=>none
theorem newX_some {x:Option (Option D)}{r:Option D}(h:newX x=some r):x=some r∧(r=none∨∃ds,r=some (.lst ds)):=by
 unfold newX at h
 split at h
 ·cases h;exact⟨rfl,.inr ⟨_,rfl⟩⟩
 ·cases h;exact⟨rfl,.inl rfl⟩
 ·cases h
theorem consX_cases {x:Option (Option D)}{y:Option (Option (List D))}{r:Option (List D)}(h:consX x y=some r):(x=some none∧r=none)∨∃d,x=some (some d)∧((y=some none∧r=none)∨∃ds,y=some (some ds)∧r=some (d::ds)):=by
 unfold consX at h
 split at h
 ·rename_i d
  refine .inr ⟨d,rfl,?_⟩
  split at h
  ·cases h;exact .inr ⟨_,rfl,rfl⟩
  ·cases h;exact .inl ⟨rfl,rfl⟩
  ·cases h
 ·cases h;exact .inl ⟨rfl,rfl⟩
 ·cases h
noncomputable def retTx (x:Option (Option (List D))):Option OutX:=match x with|some (some ds)=>if ds.length≤lim then some (.o (.ret (.tup ds) true)) else none|some none=>some .rai|none=>none
section
variable{X:Cx}{C:Str}{i:Nat}{x:Str}{e:Expr}{es:List Expr}{fs:DEnv→Option (List D)}{fxs:DEnv→Option (Option (List D))}{fx:DEnv→Option (Option D)}{pos px:Pos}
theorem dnax_up (h:DNA X es fs):DNAx X C es (fun δ=>upO (fs δ)):=h.imp fun σ H Q ⟨B,Hk,δ,r,R,e,k⟩=>by
 cases q:fs δ with
 |none=>simp only[q,upO]at e;cases e
 |some d=>simp only[q,upO]at e;cases e;exact⟨B,Hk,δ,d,R,q,k⟩
theorem dnax_val (ha:DEx X C false e fx) (hr:DNAx X C es fxs) (hs:starEach (e::es) X.env=(false,eval e X.env)::starEach es X.env:=by rfl):DNAx X C (e::es) (fun δ=>consX (valX (fx δ)) (fxs δ)):=
 (pa_cons ha hr hs).imp fun σ H Q ⟨B,Hk,δ,l,R,e,k⟩=>by
  rcases consX_cases e with⟨e1,rfl⟩|⟨d,e1,h2⟩
  ·exact⟨B,Hk,δ,none,R,(valX_some e1).1,k⟩
  ·obtain⟨e1,nl⟩:=valX_some e1
   rcases h2 with⟨e2,rfl⟩|⟨ds,e2,rfl⟩
   ·exact⟨B,Hk,δ,some d,R,e1,fun v H1 s1 r1=>⟨B,Hk,δ,none,R.to s1,e2,k⟩⟩
   ·refine⟨B,Hk,δ,some d,R,e1,fun v H1 s1 r1=>⟨B,Hk,δ,some ds,R.to s1,e2,fun vs H2 s2 r2=>k (v::vs) H2 (s1.trans s2) ⟨v,vs,rfl,?_,r2⟩⟩⟩
    have r1':Rep X.K B H2 d v:=Rep.ext ((R.to s1).ext s2) r1
    cases d with
    |lst es=>exact(nl es rfl).elim
    |_=>exact r1'
theorem dnax_new (ha:DFx X C e fx) (hr:DNAx X C es fxs) (hs:starEach (e::es) X.env=(false,eval e X.env)::starEach es X.env:=by rfl):DNAx X C (e::es) (fun δ=>consX (newX (fx δ)) (fxs δ)):=
 (pa_cons ha hr hs).imp fun σ H Q ⟨B,Hk,δ,l,R,e,k⟩=>by
  rcases consX_cases e with⟨e1,rfl⟩|⟨d,e1,h2⟩
  ·exact⟨B,Hk,δ,none,R,(newX_some e1).1,k⟩
  ·obtain⟨e1,nl⟩:=newX_some e1
   rcases nl with nl|⟨ls,nl⟩
   ·cases nl
   cases nl
   rcases h2 with⟨e2,rfl⟩|⟨ds,e2,rfl⟩
   ·exact⟨B,Hk,δ,some _,R,e1,fun a H1 s1 n1 ob=>⟨B,Hk,δ,none,R.to s1,e2,k⟩⟩
   ·refine⟨B,Hk,δ,some _,R,e1,fun a H1 s1 n1 ob=>⟨B,Hk,δ,some ds,R.to s1,e2,fun vs H2 s2 r2=>k (_::vs) H2 (s1.trans s2) ⟨_,vs,rfl,?_,r2⟩⟩⟩
    obtain⟨xs,h1,h2⟩:=ob
    exact⟨a,xs,rfl,R.same.free n1,s2 _ _ h1,h2.ext ((R.to s1).ext s2)⟩
theorem dnax_own (n:Nm X i x) (hr:DNAx X C es fxs) (hs:starEach (.Name x px::es) X.env=(false,eval (.Name x px) X.env)::starEach es X.env:=by rfl):DNAx X C (.Name x px::es) (fun δ=>consX (upO (newN (rdOwn i δ))) (fxs δ)):=
 (pa_cons (pe_var n.at' n.vis n.d1 n.d2) hr hs).imp fun σ H Q ⟨B,Hk,δ,l,R,e,k⟩=>by
  have hup:∀{y:Option D}{r:Option D},upO y=some r→∃d,y=some d∧r=some d:=fun{y r} h=>by
   cases y with
   |none=>cases h
   |some d=>cases h;exact⟨d,rfl,rfl⟩
  rcases consX_cases e with⟨e1,rfl⟩|⟨d,e1,h2⟩
  ·obtain⟨d,_,h⟩:=hup e1;cases h
  ·obtain⟨d',e1,h⟩:=hup e1
   cases h
   obtain⟨ls,e1',rfl⟩:=newN_some e1
   obtain⟨a,h1,h3,xs,h4,h5⟩:=R.own i _ (rdOwn_some e1')
   rcases h2 with⟨e2,rfl⟩|⟨ds,e2,rfl⟩
   ·exact⟨.ref a,h1,B,Hk,δ,none,R,e2,k⟩
   ·exact⟨.ref a,h1,B,Hk,δ,some ds,R,e2,fun vs H2 s2 r2=>k (_::vs) H2 s2 ⟨_,vs,rfl,⟨a,xs,rfl,h3,s2 _ _ h4,h5.ext (R.ext s2)⟩,r2⟩⟩
theorem dsx_retT {x1:Nat}{tpos:Pos}(h:DNAx X C es fxs):DSx X C (.Return (some (.Tuple es x1 tpos)) pos) (fun δ=>retTx (fxs δ)):=
 (ps_ret (pe_tup h)).imp fun Dn σ H ⟨B,Hk,δ,o,R,e,k⟩=>by
  cases q:fxs δ with
  |none=>simp only[q,retTx]at e;cases e
  |some r=>
   cases r with
   |none=>simp only[q,retTx]at e;cases e;exact⟨B,Hk,δ,none,R,q,k.1⟩
   |some ds=>
    simp only[q,retTx]at e
    by_cases hl:ds.length≤lim
    ·rw[if_pos hl]at e;cases e
     refine⟨B,Hk,δ,some ds,R,q,fun vs H1 s1 r1=>⟨by rw[←r1.length];exact lim_line hl,fun p hp=>?_⟩⟩
     have s2:=same_upd (o:=.tup vs) hp
     refine k _ _ (R.ext (s1.trans s2)) (R.same.trans (s1.trans s2)) ?_
     unfold RepR
     rw[if_pos rfl]
     exact .inr ⟨p,vs,rfl,upd_same,r1.ext s2 ((R.to s1).ext s2)⟩
    ·rw[if_neg hl]at e;cases e
end
end L2
namespace L2
open PySem PySem.Spec PyProof.Rows
noncomputable def frX (x:Option (Option (D×Bool))):Option (Option D):=match x with|some (some p)=>upO (frO (some p))|some none=>some none|none=>none
noncomputable def setFx (i:Nat) (x:Option (Option D)) (δ:DEnv):Option OutX:=match x with|some (some d)=>upS (setF i (some d) δ)|some none=>some .rai|none=>none
noncomputable def retFx (x:Option (Option D)):Option OutX:=match x with|some (some d)=>some (.o (.ret d true))|some none=>some .rai|none=>none
section
variable{X:Cx}{C:Str}{a e:Expr}{es:List Expr}{fs:DEnv→Option (List D)}{fx:DEnv→Option (Option D)}{f:List D→Option (Option (D×Bool))}{pos p:Pos}{k:Nat}{x:Str}
theorem dfx_call (F:FnX X.prog X.w X.K X.mg X.base k x C f) (hr:Room k X.A) (g:Gb X x) (ha:DA X false (e::es) fs) (he:starEach (e::es) X.env=(false,eval e X.env)::starEach es X.env:=by rfl)
  (hpl:(backTo pos (starEach es X.env)).any (·.1)=false:=by rfl):DFx X C (.Call (.Name x p) (e::es) [] pos) (fun δ=>frX (ah (fs δ) f)):=by
 intro pins s σ H Q I hq
 obtain⟨B,Hk,δ,r,R,e,kk⟩:=hq
 obtain⟨q,fd,ps,h1,h2,h3,h4,h5⟩:=F.ex
 cases qf:ah (fs δ) f with
 |none=>simp only[qf,frX]at e;cases e
 |some r1=>
  obtain⟨ds,e1,e2⟩:=aq qf
  cases r1 with
  |none=>
   simp only[qf,frX]at e;cases e
   have th:ThrowsF X C Hk:=kk
   refine pe_call (ds:=[]) (dvs:=[]) h1 hr g.gl h2 h3 h4 .nil th.toC.passes ha g.d1 he hpl pins s σ H Q I ⟨B,Hk,δ,ds,R,e1,fun vs H1 s1 rs=>?_⟩
   show spX X.K C f (vs++[]) H1 Q _
   rw[List.append_nil]
   exact⟨bset false B δ σ,ds,none,(R.to s1).bsH false,rs,e2,fun c H' _ s2=>R.same.trans (s1.trans s2)⟩
  |some dr=>
   obtain⟨d,fr⟩:=dr
   simp only[qf,frX]at e
   have hd:r=some d∧fr=true∧∀ts,d≠.tup ts:=by
    cases fr with
    |false=>cases d<;>simp only[frO,upO]at e<;>cases e
    |true=>
     cases d with
     |tup ts=>simp only[frO,upO]at e;cases e
     |_=>simp only[frO,upO]at e;cases e;exact⟨rfl,rfl,fun ts z=>by cases z⟩
   obtain⟨rfl,rfl,nt⟩:=hd
   refine pe_call (ds:=[]) (dvs:=[]) (p:=p) (pos:=pos) h1 hr g.gl h2 h3 h4 .nil passesNo ha g.d1 he hpl pins s σ H Q I ⟨B,Hk,δ,ds,R,e1,fun vs H1 s1 rs=>?_⟩
   show spX X.K C f (vs++[]) H1 _ _
   rw[List.append_nil]
   refine⟨bset false B δ σ,ds,some (d,true),(R.to s1).bsH false,rs,e2,fun v H' s2 rr=>?_⟩
   unfold RepR at rr
   rw[if_pos rfl]at rr
   rcases rr with⟨a,rfl,n,ob⟩|rt
   ·exact kk a H' (s1.trans s2) (s1.free n) ob
   ·cases d with
    |tup ts=>exact(nt ts rfl).elim
    |_=>exact(show False from rt).elim
theorem dsx_setF {i:Nat}{pos':Pos}(n:X.N.Nodup) (l:Lc X i x) (ha:DFx X C a fx) (hs:swapsWith a (some (.Name x pos')) pos.line X.env=pure false:=by rfl):DSx X C (.Assign [.Name x pos'] a pos) (fun δ=>setFx i (fx δ) δ):=
 (ps_set n l.at' l.loc ha hs l.fnl).imp fun Dn σ H ⟨B,Hk,δ,o,R,e,k⟩=>by
  cases q:fx δ with
  |none=>simp only[q,setFx]at e;cases e
  |some r=>
   cases r with
   |none=>simp only[q,setFx]at e;cases e;exact⟨B,Hk,δ,none,R,q,k.1⟩
   |some d=>
    simp only[q,setFx]at e
    cases qs:setF i (some d) δ with
    |none=>simp only[qs,upS]at e;cases e
    |some o2=>
     simp only[qs,upS]at e;cases e
     obtain⟨d',e1,hi,rfl⟩:=setF_some qs
     cases e1
     refine⟨B,Hk,δ,some d,R,q,fun a H' s n ob=>k _ H' (R.ext s) ((R.to s).setOwn (by rw[←R.len];exact hi) (R.same.free n) ob fun j e hj h1 h2=>?_)⟩
     obtain⟨b,h3,_,ob'⟩:=R.own j e h1
     rw[h2]at h3;cases h3
     obtain⟨o,e'⟩:=ob'.there
     rw[n]at e';cases e'
theorem dsx_retF (ha:DFx X C a fx):DSx X C (.Return (some a) pos) (fun δ=>retFx (fx δ)):=
 (ps_ret ha).imp fun Dn σ H ⟨B,Hk,δ,o,R,e,k⟩=>by
  cases q:fx δ with
  |none=>simp only[q,retFx]at e;cases e
  |some r=>
   cases r with
   |none=>simp only[q,retFx]at e;cases e;exact⟨B,Hk,δ,none,R,q,k.1⟩
   |some d=>
    simp only[q,retFx]at e;cases e
    exact⟨B,Hk,δ,some d,R,q,fun a H' s n ob=>k (.ref a) H' (R.ext s) (R.same.trans s) (by unfold RepR;rw[if_pos rfl];exact .inl ⟨a,rfl,R.same.free n,ob⟩)⟩
noncomputable def flX (x:Option (Option D)):Option (Option D):=match x with|some (some d)=>if d.flat=true then some (some d) else none|some none=>some none|none=>none
theorem dex_flat {m:Bool}(h:DEx X C true a fx):DEx X C m a (fun δ=>flX (fx δ)):=h.imp fun σ H Q ⟨B,Hk,δ,r,R,e,k⟩=>by
 cases q:fx δ with
 |none=>simp only[q,flX]at e;cases e
 |some r2=>
  cases r2 with
  |none=>simp only[q,flX]at e;cases e;exact⟨B,Hk,δ,none,R,q,k⟩
  |some d=>
   simp only[q,flX]at e
   by_cases fl:d.flat=true
   ·rw[if_pos fl]at e;cases e
    exact⟨B,Hk,δ,some d,R,q,fun v H' s r=>k v H' s (Rep.flat fl r)⟩
   ·rw[if_neg fl]at e;cases e
end
end L2
namespace L2
open PySem PySem.Spec PyProof.Rows
theorem ds_none {X:Cx}{st:Stmt}:DS X st (fun _=>none):=fun pins s σ H Dn I ⟨B,Hk,δ,o,R,e,k⟩=>by cases e
noncomputable def tryN (i j k:Nat) (C:Str) (r:Option (Option (D×Bool))) (δ:DEnv) (g g':DEnv→Option Out):Option Out:=match r with
 |some (some (.tup ts,true))=>if i<δ.length then g (δ.set i (some (.tup ts,false))) else none
 |some none=>if j<δ.length then g' (((δ.set k none).set j (some (.sp true C,false))).set k none) else none
 |_=>none
section
variable{X:Cx}{C M f x y n:Str}{c cm:Addr}{e:Expr}{es:List Expr}{fs:DEnv→Option (List D)}{p1 p2 p3 p4 p5 p6 p7 p8 p9 p10:Pos}{kk i j k:Nat}{fm:List D→Option (Option (D×Bool))}{rest:List Stmt}{g g':DEnv→Option Out}
noncomputable def tTry (X:Cx) (C:Str) (i j k:Nat) (f:DEnv→Option (Option (D×Bool))):TS:=fun Dn σ H=>∃B Hk δ,Rel X.K B Hk δ σ H∧
 ((∃ts,f δ=some (some (.tup ts,true))∧i<δ.length∧∀v H1 H',Same H H1→Same H1 H'→RepT X.K B H1 H' (.tup ts) v→Dn.nx (σ.set i (some v)) H')∨
  (f δ=some none∧j<δ.length∧∀σ' H',Same H H'→Rel X.K B Hk (((δ.set k none).set j (some (.sp true C,false))).set k none) σ' H'→Dn.nx σ' H'))
theorem ps_tryN (T:TryOk X C M x y n c cm i j k) (F:FnX X.prog X.w X.K X.mg X.base kk f C fm) (hr:Room kk X.A) (hg:Gl X f) (ha:DA X false (e::es) fs)
  (hdb:(f==("__debug__":Str))=false:=by decide) (he:starEach (e::es) X.env=(false,eval e X.env)::starEach es X.env:=by rfl) (hpl:(backTo p3 (starEach es X.env)).any (·.1)=false:=by rfl)
  (hs1:swapsWith (.Call (.Name f p2) (e::es) [] p3) (some (.Name x p1)) p4.line X.env=pure false:=by rfl) (hs2:swapsWith (.Name n p7) (some (.Name y p6)) p8.line X.env=pure false:=by rfl):
  PS X (.Try [.Assign [.Name x p1] (.Call (.Name f p2) (e::es) [] p3) p4] [.ExceptHandler (some (.Name M p5)) (some n) [.Assign [.Name y p6] (.Name n p7) p8] p9] [] [] p10) (tTry X C i j k (fun δ=>ah (fs δ) fm)):=by
 intro pins s σ H Dn I ⟨B,Hk,δ,R,hq⟩
 have key:∃r,ah (fs δ) fm=some r:=by rcases hq with⟨ts,q,_⟩|⟨q,_⟩<;>exact⟨_,q⟩
 obtain⟨r,q⟩:=key
 obtain⟨ds,e1,e2⟩:=aq q
 refine wpAny_Try_except (wpAny_execs_cons (wpAny_Assign_Name ?_ hs1))
 refine call_try F hr hg T.no ha I R e1 e2 (fun d fr hz v u H1 H' s' I' rv sm1 sm2 rr=>?_) (fun hz H1 s1 H' a c' a0 B' s' I1 Fl sm1 sm2=>?_) hdb he hpl
 ·subst hz
  rcases hq with⟨ts,q',hl,ko⟩|⟨q',_⟩
  ·simp only[q]at q'
   cases q'
   unfold RepR at rr
   rw[if_pos rfl]at rr
   rcases rr with⟨c,_,_,z⟩|rt
   ·exact(show False from z).elim
   ·exact store_ok I' T.nd T.li.at' T.li.loc rv (fun s3 I3=>wpAny_execs_nil (wpAny_execs_nil ⟨_,H',I3,ko v H1 H' sm1 sm2 rt⟩)) T.li.fnl
  ·simp only[q]at q';cases q'
 ·subst hz
  rcases hq with⟨ts,q',_⟩|⟨q',hl,ko⟩
  ·simp only[q]at q';cases q'
  have hc:c'=c:=by
   have:=Fl.cls
   rw[T.ec.nm]at this
   cases this;rfl
  subst hc
  refine try_err (D:=Dn) T.no T.st T.nd T.lj.at' T.lj.loc T.lj.fnl T.nk T.lk T.ec T.em T.sub T.gM I1 Fl (fun H2 oe hn ho hH=>?_) T.dM T.dn hs2
  subst hH
  have s3:Same H (upd H' a (.frz oe (.own 0))):=sm2.trans (same_upd hn)
  have R3:=R.to s3
  refine ko _ _ s3 ((((R3.drop1 k (some (.ref a))).set ?_ ?_).drop1 k none))
  ·rw[List.length_set,←R.len];exact hl
  ·simp only[Rep]
   exact⟨a,oe,c',0,rfl,upd_same,ho,T.ec.nm⟩
theorem dss_tryN (T:TryOk X C M x y n c cm i j k) (F:FnX X.prog X.w X.K X.mg X.base kk f C fm) (hr:Room kk X.A) (hg:Gl X f) (ha:DA X false (e::es) fs) (hn:DNs X i rest g) (hE:DSs X rest g')
  (hdb:(f==("__debug__":Str))=false:=by decide) (he:starEach (e::es) X.env=(false,eval e X.env)::starEach es X.env:=by rfl) (hpl:(backTo p3 (starEach es X.env)).any (·.1)=false:=by rfl)
  (hs1:swapsWith (.Call (.Name f p2) (e::es) [] p3) (some (.Name x p1)) p4.line X.env=pure false:=by rfl) (hs2:swapsWith (.Name n p7) (some (.Name y p6)) p8.line X.env=pure false:=by rfl):
  DSs X (.Try [.Assign [.Name x p1] (.Call (.Name f p2) (e::es) [] p3) p4] [.ExceptHandler (some (.Name M p5)) (some n) [.Assign [.Name y p6] (.Name n p7) p8] p9] [] [] p10::rest) (fun δ=>tryN i j k C (ah (fs δ) fm) δ g g'):=by
 have hboth:PSs X rest (fun Dn σ H=>tN X.K i g Dn σ H∨tD X.K g' Dn σ H):=fun pins s σ H Dn I h=>h.elim (fun h=>hn pins s σ H Dn I h) (fun h=>hE pins s σ H Dn I h)
 refine(pss_cons (ps_tryN (p1:=p1) (p2:=p2) (p3:=p3) (p4:=p4) (p5:=p5) (p6:=p6) (p7:=p7) (p8:=p8) (p9:=p9) (p10:=p10) T F hr hg ha hdb he hpl hs1 hs2) hboth).imp fun Dn σ H ⟨B,Hk,δ,o,R,e,ko⟩=>?_
 refine⟨B,Hk,δ,R,?_⟩
 have e:tryN i j k C (ah (fs δ) fm) δ g g'=some o:=e
 unfold tryN at e
 split at e
 ·rename_i ts q
  by_cases hi:i<δ.length
  rotate_left
  ·rw[if_neg hi]at e;cases e
  rw[if_pos hi]at e
  have hi':i<σ.length:=by rw[←R.len];exact hi
  refine .inl ⟨ts,q,hi,fun v H1 H' s1 s2 rt=>.inl ?_⟩
  have s:=s1.trans s2
  refine⟨B,Hk,δ.set i none,.tup ts,v,o,(R.to s).unset hi',List.getElem?_set_self hi,List.getElem?_set_self hi',⟨H1,R.same.trans s1,rt,fun j c a h1 h2=>?_⟩,by rw[List.set_set];exact e,ko.ext (R.ext s)⟩
  have hj:j≠i:=fun z=>by subst z;rw[List.getElem?_set_self hi]at h1;cases h1
  rw[List.getElem?_set_ne (Ne.symm hj)]at h1 h2
  obtain⟨a',q1,_,q3⟩:=R.own j c h1
  rw[h2]at q1;cases q1
  obtain⟨o',ho⟩:=q3.there
  exact⟨o',s1 _ _ ho⟩
 ·rename_i q
  by_cases hj:j<δ.length
  rotate_left
  ·rw[if_neg hj]at e;cases e
  rw[if_pos hj]at e
  exact .inr ⟨q,hj,fun σ' H' s R'=>.inr ⟨B,Hk,_,o,R',e,ko.ext (R.ext s)⟩⟩
 ·cases e
end
end L2
namespace L2
open PySem PySem.Spec PyProof.Rows
noncomputable def noX (x:Option (Option D)):Option D:=match x with|some (some d)=>some d|_=>none
theorem de_noX {X:Cx}{C:Str}{m:Bool}{a:Expr}{fx:DEnv→Option (Option D)}(h:DEc X C m a fx):DE X m a (fun δ=>noX (fx δ)):=h.imp fun σ H Q ⟨B,Hk,δ,d,R,e,k⟩=>by
 cases q:fx δ with
 |none=>simp only[q,noX]at e;cases e
 |some r=>
  cases r with
  |none=>simp only[q,noX]at e;cases e
  |some d'=>simp only[q,noX]at e;cases e;exact⟨B,Hk,δ,some d,R,q,k⟩
end L2
namespace L2
open PySem PySem.Spec PyProof.Rows
@[simp] theorem valX_e:valX (some none)=some none:=(rfl)
@[simp] theorem valX_str (z:Str):valX (some (some (.str z)))=some (some (.str z)):=(rfl)
@[simp] theorem newX_e:newX (some none)=some none:=(rfl)
@[simp] theorem newX_s (ds:List D):newX (some (some (.lst ds)))=some (some (.lst ds)):=(rfl)
@[simp] theorem newN_s (ds:List D):newN (some (.lst ds))=some (.lst ds):=(rfl)
@[simp] theorem frX_e:frX (some none)=some none:=(rfl)
@[simp] theorem frX_s (ds:List D):frX (some (some (.lst ds,true)))=some (some (.lst ds)):=(rfl)
@[simp] theorem setFx_e (i:Nat) (δ:DEnv):setFx i (some none) δ=some .rai:=(rfl)
@[simp] theorem retFx_e:retFx (some none)=some .rai:=(rfl)
@[simp] theorem retFx_s (d:D):retFx (some (some d))=some (.o (.ret d true)):=(rfl)
@[simp] theorem retTx_e:retTx (some none)=some .rai:=(rfl)
@[simp] theorem retTx_s (ds:List D) (h:ds.length≤lim):retTx (some (some ds))=some (.o (.ret (.tup ds) true)):=by
 unfold retTx;simp only[if_pos h]
@[simp] theorem flX_e:flX (some none)=some none:=(rfl)
theorem flX_s {d:D}(h:d.flat=true):flX (some (some d))=some (some d):=by unfold flX;simp only[if_pos h]
@[simp] theorem noX_s (d:D):noX (some (some d))=some d:=(rfl)
@[simp] theorem tryN_s (i j k:Nat) (C:Str) (ts:List D) (δ:DEnv) (g g':DEnv→Option Out) (h:i<δ.length):tryN i j k C (some (some (.tup ts,true))) δ g g'=g (δ.set i (some (.tup ts,false))):=by
 unfold tryN;simp only[if_pos h]
@[simp] theorem tryN_e (i j k:Nat) (C:Str) (δ:DEnv) (g g':DEnv→Option Out) (h:j<δ.length):tryN i j k C (some none) δ g g'=g' (((δ.set k none).set j (some (.sp true C,false))).set k none):=by
 unfold tryN;simp only[if_pos h]
end L2
namespace L2
open PySem PySem.Spec PyProof.Rows
noncomputable def leT (a b:Str):Bool:=!decide (b.cps.toList<a.cps.toList)
theorem leT_trans (a b c:Str) (h1:leT a b=true) (h2:leT b c=true):leT a c=true:=by
 unfold leT at*
 simp only[Bool.not_eq_true',decide_eq_false_iff_not]at*
 exact List.le_trans h1 h2
theorem leT_total (a b:Str):(leT a b||leT b a)=true:=by
 unfold leT
 by_cases h:b.cps.toList<a.cps.toList
 ·have:¬a.cps.toList<b.cps.toList:=fun h'=>absurd (List.lt_trans h h') (List.lt_irrefl _)
  simp[this]
 ·simp[h]
theorem leT_anti (a b:Str) (h1:leT a b=true) (h2:leT b a=true):a=b:=by
 unfold leT at*
 simp only[Bool.not_eq_true',decide_eq_false_iff_not]at*
 exact Str.ext' (Array.toList_inj.mp (List.le_antisymm h1 h2))
noncomputable def sortT (ss:List Str):List Str:=ss.mergeSort leT
theorem sortT_perm (ss:List Str):(sortT ss).Perm ss:=List.mergeSort_perm ss leT
theorem rising_pair:∀(l:List Str) (p:Str),risingS p l=true→(p::l).Pairwise (fun a b=>leT a b=true)
 |[],p,_=>by simp
 |x::r,p,h=>by
  have h':(!ltCps x.cps.toList p.cps.toList&&risingS x r)=true:=h
  rw[Bool.and_eq_true,ltCps_eq]at h'
  have ih:=rising_pair r x h'.2
  refine List.pairwise_cons.mpr ⟨fun y hy=>?_,ih⟩
  rcases List.mem_cons.mp hy with rfl|hy
  ·exact h'.1
  ·exact leT_trans _ _ _ h'.1 ((List.pairwise_cons.mp ih).1 y hy)
theorem sorted_pair:∀(l:List Str),sortedS l=true→l.Pairwise (fun a b=>leT a b=true)
 |[],_=>.nil
 |x::r,h=>rising_pair r x h
theorem sortT_one {ss ss':List Str}(hp:ss'.Perm ss) (hs:sortedS ss'=true):ss'=sortT ss:=
 List.Perm.eq_of_pairwise (le:=fun a b=>leT a b=true) (fun a b _ _ h1 h2=>leT_anti a b h1 h2) (sorted_pair _ hs) (List.pairwise_mergeSort leT_trans leT_total ss) (hp.trans (sortT_perm ss).symm)
theorem sortT_same {ss ss':List Str}(hp:ss'.Perm ss):sortT ss'=sortT ss:=
 List.Perm.eq_of_pairwise (le:=fun a b=>leT a b=true) (fun a b _ _ h1 h2=>leT_anti a b h1 h2) (List.pairwise_mergeSort leT_trans leT_total ss') (List.pairwise_mergeSort leT_trans leT_total ss) ((sortT_perm ss').trans (hp.trans (sortT_perm ss).symm))
theorem strs_rep {K:Frag}{B:Addr→Prop}{H:Hp}:∀{ss:List Str}{ys:List V}{us:List Value},Reps K B H (ss.map D.str) ys→Vals ys us→StrsAre us ss
 |[],ys,us,r,v=>by
  have e:ys=[]:=r
  subst e
  cases v
  exact .nil
 |x::ss,ys,us,r,v=>by
  obtain⟨y,rr,rfl,r1,r2⟩:=r
  simp only[Rep]at r1
  subst r1
  cases v with
  |cons h t=>
   obtain⟨tk,rfl⟩:=h
   exact .cons x tk (strs_rep r2 t)
theorem vals_strs:∀{ss:List Str}{us:List Value},StrsAre us ss→Vals (ss.map V.str) us
 |_,_,.nil=>.nil
 |_,_,.cons x t h=>.cons ⟨t,rfl⟩ (vals_strs h)
theorem reps_strT {K:Frag}{B:Addr→Prop}{H:Hp}:∀ss:List Str,Reps K B H (ss.map D.str) (ss.map V.str)
 |[]=>Reps.nil
 |x::ss=>Reps.cons (by simp only[Rep]) (reps_strT ss)
section
variable{X:Cx}
theorem sorted_tailT {pins:List (Addr×Obj)}{σ:St}{H:Hp}{s:Shared}{ss:List Str}{us:List Value}{Q:VK}{h1:Heap}{t1:Nat}(I:Inv X pins σ H s) (k1:∀b o,s.heap.get? b=some o→h1.get? b=some o) (hsz:s.heap.objs.size≤h1.objs.size)
  (v:StrsAre us ss) (h64:us.length<64) (q:∀l,H l=none→Q (.ref l) (upd H l (.lst ((sortT ss).map V.str)))):
  wpAny (model X.prog X.w) X.A.in1 (do
   let l ←newList us
   let _ ←holding [l] (call (.builtin "list.sort") [l] [])
   ret l) (fun fin s'=>∃w,fin=.done (.ret w)∧EP X pins σ Q w s') X.xe {s with heap:=h1,toks:=t1}:=by
 have hz:us.length≤sizeLine:=by rw[sizeLine_eq];omega
 refine wpAny_bind (wpAny_newList ?_ hz)
 have g0:(h1.push (seqObj "list" us.toArray 0)).get? h1.objs.size=some (seqObj "list" us.toArray 0):=Heap.get?_push_size _ rfl
 have k2:∀b o,s.heap.get? b=some o→b≠h1.objs.size∧b<(h1.push (seqObj "list" us.toArray 0)).objs.size∧(h1.push (seqObj "list" us.toArray 0)).get? b=some o:=fun b o e=>
  ⟨Nat.ne_of_lt (Heap.lt_size (k1 b o e)),Heap.lt_size (Heap.get?_push_of_some _ (k1 b o e)),Heap.get?_push_of_some _ (k1 b o e)⟩
 refine wpAny_bind (wpAny_holding (wpAny_call_entry slot_list_sort ⟨_,g0,rfl⟩ entry_list_sort ?_ (args_list_sort _)))
 refine list_sort_treeK (s:={s with heap:=h1.push (seqObj "list" us.toArray 0),toks:=t1}) strKind_oneLt g0 v.keysOf (fun v₁ v₂ rest e=>keyKind_strs (by rw[←e];exact v)) h64 fun st' hp hs=>?_
 obtain⟨ss',a1,a2,a3⟩:=sorted_out_str v hp hs
 have e:=sortT_one a2 a3
 subst e
 obtain⟨c,hc⟩:=sortedHeap_at (vs:=us) (out:=(arrOf st').map (·.2)) g0
 have hfr:H h1.objs.size=none:=I.hok.fresh hsz
 have hl:((sortT ss).map V.str).length≤sizeLine:=by
  have h1:=vals_strs a1
  have h2:=a2.length_eq
  have h3:=(vals_strs v).length
  rw[List.length_map]at h3⊢
  omega
 refine⟨_,rfl,wpAny_pure ⟨_,rfl,.ref h1.objs.size,_,I.laid (a:=h1.objs.size) (o:=.lst ((sortT ss).map V.str)) (h':=sortedHeap (h1.push (seqObj "list" us.toArray 0)) h1.objs.size us ((arrOf st').map (·.2))) (t':=t1) (fun b o e=>(sortedHeap_old (k2 b o e).1 (k2 b o e).2.1).trans (k2 b o e).2.2) hsz ?_,rfl,q _ hfr⟩⟩
 exact⟨hl,_,c,vals_strs a1,by rw[Array.toArray_toList];exact hc⟩
theorem call_sortedT (hc:X.calm=true) (hu:X.A.units+64<cLine):CallR X (.builtin "sorted") (fun xs H Q=>∃B S ts ss,xs=[.ref S]∧H S=some (setHO X.w S ts)∧(∀t∈ts,ElOk X.K B H true t)∧ts.length<64∧ts.map (·.1)=ss.map D.str∧
  ∀l,H l=none→Q (.ref l) (upd H l (.lst ((sortT ss).map V.str)))):=by
 intro pins s σ H xs us Q I r h
 obtain⟨B,S,ts,ss,rfl,hS,hok,h64,hss,q⟩:=h
 obtain⟨u,rfl,rx⟩:=vals1 r
 cases rx
 obtain⟨⟨ts1,p1,o,ep,t,ho,hex,hd,T,hf,hled⟩,_,_⟩:=I.hok S _ hS
 have hl:=T.len
 have hl1:=p1.length_eq
 rw[List.length_map,List.length_map]at hl
 have st:SetIs s.heap S (ts1.map (elE X.w)) ep t:=⟨⟨o,ho,hex,hd⟩,T,by omega⟩
 refine Calls.call_function_entry kind_sorted plain_sorted entry_sorted (args_sorted1 _) ?_
 unfold Builtin.«sorted»
 refine wpAny_bind (m:=checkCount "sorted" 1 1 _) (wpAny_pure (wpAny_bind (collect_set (by simp[I.ok.hd hc]) st hled (by rw[List.length_map];omega) fun vs h' d tk hp hkeep hsz=>?_)))
 have hp2:vs.Perm (ts1.map (·.2.2)):=by rw[List.map_map]at hp;exact hp
 obtain⟨ts2,p2,rfl⟩:=perm_map (fun t:El=>t.2.2) hp2 ts1 rfl
 have p3:ts2.Perm ts:=p2.trans p1
 have hok2:∀t∈ts2,ElOk X.K B H true t:=fun t ht=>hok t (p3.mem_iff.mp ht)
 obtain⟨rs,rv⟩:=reps_els hok2
 obtain⟨ss2,q2,e2⟩:=perm_map D.str (p3.map (·.1)) ss hss
 rw[e2]at rs
 have hlen:=p3.length_eq
 refine sorted_tailT (s:={s with drawn:=d}) (t1:=tk) (I.drawn d) hkeep hsz (strs_rep rs rv) (by rw[List.length_map];omega) fun l hl'=>?_
 rw[sortT_same q2]
 exact q l hl'
noncomputable def sortSetTO (x:Option D):Option D:=match x with
 |some (.lst ds)=>(match strsD (uniqD ds)with|some us=>if us.length<64 then some (.lst ((sortT us).map D.str)) else none|none=>none)
 |_=>none
variable{a:Expr}{fa:DEnv→Option D}{pos pos2 p p2:Pos}
theorem df_sortedSetT (hu:X.A.units+64<cLine) (hc:X.calm=true) (g:Gl X "sorted") (hm:X.mg "sorted"=none) (g2:Gl X "set") (hm2:X.mg "set"=none) (ha:DE X false a fa) (hs:starEach [a] X.env=[(false,eval a X.env)]:=by rfl)
  (hs2:starEach [.Call (.Name "set" p2) [a] [] pos2] X.env=[(false,eval (.Call (.Name "set" p2) [a] [] pos2) X.env)]:=by rfl):
  DF X (.Call (.Name "sorted" p) [.Call (.Name "set" p2) [a] [] pos2] [] pos) (fun δ=>sortSetTO (fa δ)):=
 (pe_callB (call_sortedT hc hu) g hm bt_sorted (pa_cons (pe_callTy (call_setR (sc:=true) hc hu) g2 hm2 bt_set (pa_cons ha pa_nil hs) (he:=hs)) pa_nil hs2) (he:=hs2)).imp fun σ H Q ⟨B,Hk,δ,d,R,e,k⟩=>by
  unfold sortSetTO at e
  split at e
  ·rename_i ds qd
   split at e
   ·rename_i us qu
    have hu2:=strsD_some qu
    have hall:∀x∈ds,∃w,x=.str w:=fun x hx=>by
     have:=(uniqD_mem x ds).mpr hx
     rw[hu2]at this
     obtain⟨w,_,rfl⟩:=List.mem_map.mp this
     exact⟨w,rfl⟩
    by_cases cc:us.length<64
    ·rw[if_pos cc]at e;cases e
     simp only[tCB,tCons,tNil]
     refine⟨B,Hk,δ,_,R,qd,fun v H' s r=>?_⟩
     have R':=R.to s
     simp only[Rep]at r
     obtain⟨l,xs,rfl,hq,rs⟩:=r
     refine⟨bset false B δ σ,l,ds,xs,rfl,hq.sq,rs,by rw[hu2,List.length_map];exact cc,List.all_eq_true.mpr fun x hx=>by obtain⟨w,rfl⟩:=hall x hx;rfl,List.all_eq_true.mpr fun x hx=>by obtain⟨w,rfl⟩:=hall x hx;rfl,fun S ts hS hok hnd hmem=>?_⟩
     have s2:=same_upd (o:=setHO X.w S ts) hS
     have hp:(ts.map (·.1)).Perm (us.map D.str):=by
      rw[←hu2]
      exact(List.perm_ext_iff_of_nodup hnd (uniqD_nodup ds)).mpr fun x=>(hmem x).trans (uniqD_mem x ds).symm
     have hl:=hp.length_eq
     rw[List.length_map,List.length_map]at hl
     obtain⟨ss,q2,e2⟩:=perm_map D.str hp us rfl
     refine⟨bset false B δ σ,S,ts,ss,rfl,upd_same,fun t ht=>?_,by omega,e2,fun l' hl'=>?_⟩
     ·have q:=hok t ht
      exact⟨q.rep.same (m:=false) R' s2,q.rel,q.has,q.sc⟩
     ·rw[sortT_same q2]
      have s3:=same_upd (o:=.lst ((sortT us).map V.str)) hl'
      exact k l' _ (s.trans (s2.trans s3)) (s.free (s2.free hl')) ⟨_,upd_same,reps_strT _⟩
    ·rw[if_neg cc]at e;cases e
   ·cases e
  ·cases e
end
end L2
namespace L2
open PySem PySem.StrLaws
theorem cutS_eq (x:Str) (l u:Option Int):cutS x l u=sliceText x l u:=by
 unfold cutS sliceText;simp
theorem cutS_to (x:Str) (i:Nat) (h:i≤x.length):cutS x none (some (i:Int))=Builtin.Str.strSub x 0 i:=by
 have hl:x.cps.toList.length=x.length:=Array.length_toList
 rw[cutS_eq,sliceText_to ⟨by omega,by omega⟩]
 apply Str.ext'
 apply Array.toList_inj.mp
 rw[strSub_toList]
 simp
theorem cutS_from (x:Str) (i:Nat) (h:i≤x.length):cutS x (some (i:Int)) none=Builtin.Str.strSub x i x.length:=by
 have hl:x.cps.toList.length=x.length:=Array.length_toList
 rw[cutS_eq,sliceText_from ⟨by omega,by omega⟩]
 apply Str.ext'
 apply Array.toList_inj.mp
 rw[strSub_toList]
 have e:((x.cps.toList.length:Int) - (i:Int)).toNat=x.length - i:=by omega
 rw[e]
 simp
theorem kind_pos (x:Str):1≤Builtin.Str.strKind x:=by
 unfold Builtin.Str.strKind;split
 ·omega
 ·split<;>omega
theorem split_cases (x y:Str) (hw:1≤y.length) (hk:Builtin.Str.strKind y=1):
  (Builtin.Str.occurrences x y 0 x.length 1=[]∧Txt.split x y=[x])∨
  ∃i,Builtin.Str.occurrences x y 0 x.length 1=[i]∧i+y.length≤x.length∧(Txt.split x y=[Builtin.Str.strSub x 0 i,Builtin.Str.strSub x (i+y.length) x.length]∨(3≤(Txt.split x y).length∧∃j,i+y.length≤j∧At x y x.length j)):=by
 obtain⟨f,hG,hn⟩:=occ_tight x y hw
 have hl:=occ_length_le x y 0 x.length 1
 rcases occ_head x y 1 (Nat.le_refl 1)with⟨h0,hno⟩|⟨i,r,h0,hi,hno⟩
 ·refine .inl ⟨h0,?_⟩
  have e0:Builtin.Str.occurrences x y 0 x.length (x.length+1)=[]:=by
   cases e:Builtin.Str.occurrences x y 0 x.length (x.length+1)with
   |nil=>rfl
   |cons c r=>rw[e]at hG;exact absurd hG.2.1 (hno c)
  unfold Txt.split
  rw[e0]
  split<;>rfl
 ·have hr:r=[]:=by
   rw[h0]at hl
   cases r with
   |nil=>rfl
   |cons a b=>simp at hl
  subst hr
  refine .inr ⟨i,h0,hi.1,?_⟩
  have hs:Txt.split x y=partsFrom x y.length 0 (Builtin.Str.occurrences x y 0 x.length (x.length+1)):=by
   unfold Txt.split
   have h1:(decide (x.length<y.length)||decide (Builtin.Str.strKind x<Builtin.Str.strKind y))=false:=by
    have h2:=hi.1
    have h3:=kind_pos x
    rw[hk,decide_eq_false (by omega),decide_eq_false (by omega)];rfl
   rw[if_neg (by rw[h1];decide)]
   split
   ·rename_i he
    rw[List.isEmpty_iff]at he
    rw[he]at hG
    have hf:f=0:=hG
    exact absurd hi (hn i (by omega))
   ·exact partsBetween_eq ..
  cases e:Builtin.Str.occurrences x y 0 x.length (x.length+1)with
  |nil=>
   rw[e]at hG
   have hf:f=0:=hG
   exact absurd hi (hn i (by omega))
  |cons c r=>
   rw[e]at hG
   have hc:c=i:=by
    rcases Nat.lt_trichotomy c i with h|h|h
    ·exact absurd hG.2.1 (hno c h)
    ·exact h
    ·exact absurd hi (hG.2.2.1 i (Nat.zero_le _) h)
   subst hc
   rw[hs,e]
   cases r with
   |nil=>exact .inl rfl
   |cons d r=>
    have h2:=hG.2.2.2
    refine .inr ⟨?_,d,h2.1,h2.2.1⟩
    obtain⟨p,q,e2⟩:=partsFrom_ne x y.length (d+y.length) r
    show 3≤(Builtin.Str.strSub x 0 c::Builtin.Str.strSub x (c+y.length) d::partsFrom x y.length (d+y.length) r).length
    rw[e2];simp
theorem at_first {x y:Str}{c j:Nat}{cs:List Nat}(hy:y.cps.toList=c::cs) (h:At x y x.length j):x.cps.toList[j]?=some c:=by
 have h2:=h.2
 rw[subAt_eq,beq_iff_eq,hy]at h2
 have hl:y.length=cs.length+1:=by
  have:y.cps.toList.length=y.length:=Array.length_toList
  rw[←this,hy];rfl
 rw[hl]at h2
 cases e:x.cps.toList.drop j with
 |nil=>rw[e]at h2;simp at h2
 |cons a b=>
  rw[e,List.take_succ_cons]at h2
  have ha:a=c:=(List.cons.inj h2).1
  have:=congrArg List.head? e
  rw[List.head?_drop]at this
  rw[this,ha];rfl
theorem sub_get {x:Str}{a j c:Nat}(h1:a≤j) (h:x.cps.toList[j]?=some c):c∈(Builtin.Str.strSub x a x.length).cps.toList:=by
 rw[strSub_toList]
 have hl:x.cps.toList.length=x.length:=Array.length_toList
 rw[List.take_of_length_le (by rw[List.length_drop,hl];exact Nat.le_refl _)]
 refine List.mem_of_getElem? (i:=j - a) ?_
 rw[List.getElem?_drop,show a+(j - a)=j by omega,h]
theorem partO_s (z y:Str) (h:z.length≤lim) (hy:(y.length==0)=false):partO (some (.str z)) (some (.str y))=some (.tup ((cutAtO z y).map D.str)):=by
 unfold partO
 simp only[decide_eq_true h,hy]
 rfl
theorem cutAt_none {z y:Str}(h:Builtin.Str.occurrences z y 0 z.length 1=[]):cutAtO z y=[z,Str.empty,Str.empty]:=by unfold cutAtO;rw[h]
theorem cutAt_one {z y:Str}{i:Nat}(h:Builtin.Str.occurrences z y 0 z.length 1=[i]):cutAtO z y=[Builtin.Str.strSub z 0 i,y,Builtin.Str.strSub z (i+y.length) z.length]:=by unfold cutAtO;rw[h]
theorem find_one {z y:Str}{i:Nat}(h:Builtin.Str.occurrences z y 0 z.length 1=[i]):Txt.find z y=(i:Int):=by unfold Txt.find;rw[h]
theorem splitO_s (t y:Str) (h:t.length+2≤lim) (hy:(y.length==0)=false):splitO (some (.str t)) (some (.str y))=some (.lst ((Txt.split t y).map D.str)):=by
 unfold splitO
 have:=split_len t y
 simp only[hy,decide_eq_true (show t.length≤lim by omega),decide_eq_true (show(Txt.split t y).length≤lim by omega)]
 simp
theorem apnO_s {i:Nat}{j:Int}{x:D}{δ:DEnv}{k:DEnv→Option Out}{ds es:List D}(h:δ[i]?=some (some (.tup ds,false))) (ha:atI ds j=some (.lst es)) (hl:es.length<lim):apnO i (some (.int j)) (some x) δ k=k (δ.set i none):=by
 unfold apnO;simp only[h,ha,if_pos hl]
theorem all_strs:∀l:List D,(∀x∈l,∃w,x=.str w)→∃us:List Str,l=us.map D.str
 |[],_=>⟨[],rfl⟩
 |x::l,h=>by
  obtain⟨w,rfl⟩:=h x (by simp)
  obtain⟨us,rfl⟩:=all_strs l fun y hy=>h y (by simp[hy])
  exact⟨w::us,rfl⟩
noncomputable def sU (ss:List Str):List D:=match strsD (uniqD (ss.map D.str))with|some us=>(sortT us).map D.str|none=>[]
theorem uniq_strs (ss:List Str):∃us:List Str,uniqD (ss.map D.str)=us.map D.str:=all_strs _ fun x hx=>by
 obtain⟨w,_,rfl⟩:=List.mem_map.mp ((uniqD_mem x _).mp hx)
 exact⟨w,rfl⟩
theorem sortSet_strs {ss:List Str}(hu:ss.length<64):sortSetTO (some (.lst (ss.map D.str)))=some (.lst (sU ss)):=by
 obtain⟨us,e⟩:=uniq_strs ss
 have hl:=uniqD_len (ss.map D.str)
 rw[e,List.length_map,List.length_map]at hl
 unfold sortSetTO sU
 simp only[e,strsD_map,if_pos (show us.length<64 by omega)]
theorem sU_mem {ss:List Str}{x:D}:x∈sU ss↔x∈ss.map D.str:=by
 obtain⟨us,e⟩:=uniq_strs ss
 unfold sU
 simp only[e,strsD_map]
 rw[((sortT_perm us).map D.str).mem_iff,←e]
 exact uniqD_mem _ _
theorem eqO_str (x y:Str):eqO (some (.str x)) (some (.str y))=some (decide (x=y)):=by
 rw[eqO_s _ _ rfl];congr 1;simp
theorem neO_str (x y:Str):neO (some (.str x)) (some (.str y))=some (!decide (x=y)):=by
 rw[neO_s _ _ rfl];congr 2;simp
end L2
namespace K72
open PySem L2
noncomputable def top (i:Nat):Stmt:=PySem.Challenge.pw_mustrows_k72_rules_as_texts.main.body.getD i (.Pass ⟨0,0,0,0⟩)
noncomputable abbrev s_q0:Stmt:=top 5
noncomputable abbrev s_q4:Stmt:=top 12
noncomputable abbrev s_q1:Stmt:=top 9
noncomputable abbrev s_q3:Stmt:=top 11
noncomputable abbrev s_q2:Stmt:=top 10
noncomputable abbrev s_qd:Stmt:=top 21
noncomputable abbrev s_qc:Stmt:=top 20
noncomputable abbrev s_qb:Stmt:=top 19
noncomputable abbrev s_qa:Stmt:=top 18
noncomputable abbrev s_q8:Stmt:=top 16
noncomputable abbrev s_q7:Stmt:=top 15
noncomputable abbrev s_q6:Stmt:=top 14
noncomputable abbrev s_q9:Stmt:=top 17
noncomputable abbrev s_q5:Stmt:=top 13
noncomputable abbrev s_qe:Stmt:=top 23
noncomputable abbrev s_qf:Stmt:=top 24
noncomputable abbrev s_qg:Stmt:=top 25
noncomputable abbrev s_qh:Stmt:=top 26
noncomputable abbrev s_qi:Stmt:=top 27
noncomputable abbrev s_qj:Stmt:=top 28
noncomputable abbrev s_qk:Stmt:=top 29
noncomputable abbrev s_ql:Stmt:=top 30
noncomputable abbrev s_qm:Stmt:=top 31
noncomputable abbrev s_qn:Stmt:=top 32
noncomputable abbrev s_qo:Stmt:=top 33
noncomputable abbrev s_qp:Stmt:=top 34
noncomputable abbrev s_qq:Stmt:=top 35
noncomputable abbrev s_qr:Stmt:=top 36
noncomputable abbrev s_qs:Stmt:=top 37
noncomputable abbrev s_law:Stmt:=top 38
structure Txt (K:Frag) (mg:Str→Option Value):Prop where
 b_ValueError:mg "ValueError"=none
 b_all:mg "all"=none
 b_isinstance:mg "isinstance"=none
 b_len:mg "len"=none
 b_list:mg "list"=none
 b_range:mg "range"=none
 b_set:mg "set"=none
 b_sorted:mg "sorted"=none
 b_str:mg "str"=none
 b_tuple:mg "tuple"=none
 g_GREAT_LETTERS:∃t,mg "GREAT_LETTERS"=some (.str "ABCDEFGHIJKLMNOPQRSTUVWXYZ" t)
 g_SMALL_LETTERS:∃t,mg "SMALL_LETTERS"=some (.str "abcdefghijklmnopqrstuvwxyz" t)
 err:∃c_NoText c_MustError c_NoRow:Addr,ErrC K mg "NoText" c_NoText∧ErrC K mg "MustError" c_MustError∧ErrC K mg "NoRow" c_NoRow∧L2.subIn K c_NoText c_MustError=some true∧errIn K c_NoText=true∧PySem.W.kitOne K (.ref c_NoText) (.ref c_NoText)=some true∧PySem.W.kitOne K (.ref c_NoText) (.type "ValueError")=some true∧PySem.W.kitOne K (.ref c_NoText) (.ref c_NoRow)=some false
noncomputable abbrev N_q0:List Str:=["patterns","letters","table","terms","term"]
noncomputable def e_q0_1 (δ:DEnv):Option D:=ixO (rd false 4 δ) (some (.int 1))
noncomputable def b_q0_2 (δ:DEnv):Option Out:=extO 1 (lstLim (ah (tupL (rd false 3 δ)) (runC false [false,false,false,false,false] (aj 4) (fun δ=>eqO (ixO (rd false 4 δ) (some (.int 0))) (some (.str "any"))) e_q0_1 δ))) δ
noncomputable def k_q0_3 (δ:DEnv):Option Out:=retF (sortSetTO (rd false 1 δ))
noncomputable def g_q0 (δ:DEnv):Option Out:=seqO (setF 1 (lstO (some [])) δ) (fun δ=>seqO (ah (lstL (rd false 0 δ)) fun ds=>loopD (fun d δ=>ah ((toTup (toCons (aj 2) (toCons (aj 3) (toNil)))) d δ) b_q0_2) ds δ) (fun δ=>k_q0_3 (frzE 1 δ)))
noncomputable def f_q0:List D→Option (D×Bool):=runF 5 1 g_q0
noncomputable abbrev N_q4:List Str:=["term"]
noncomputable def g_q4 (δ:DEnv):Option Out:=retO ((match eqO (ixO (rd false 0 δ) (some (.int 0))) (some (.str "blank"))with|some true=>addS (some (.str "?")) (strVO (ixO (rd false 0 δ) (some (.int 1))))|some false=>ixO (rd false 0 δ) (some (.int 1))|none=>none))
noncomputable def f_q4:List D→Option (D×Bool):=runF 1 1 g_q4
noncomputable abbrev N_q1:List Str:=["row","cell"]
noncomputable def e_q1_1 (δ:DEnv):Option D:=shO (ah (af (rd false 1 δ) (some [])) f_q4)
noncomputable def g_q1 (δ:DEnv):Option Out:=retO (joinO (some (.str " ")) (catO (lstO (af (ixO (rd false 0 δ) (some (.int 0))) (some []))) (lstLim (ah (tupL (ixO (rd false 0 δ) (some (.int 1)))) (runC false [false,false] (aj 1) (fun δ=>some true) e_q1_1 δ)))))
noncomputable def f_q1:List D→Option (D×Bool):=runF 2 1 g_q1
noncomputable abbrev N_q3:List Str:=["patterns","pattern"]
noncomputable def e_q3_1 (δ:DEnv):Option D:=shO (ah (af (rd false 1 δ) (some [])) f_q1)
noncomputable def g_q3 (δ:DEnv):Option Out:=retO (joinO (some (.str ", ")) (lstLim (ah (lstL (rd false 0 δ)) (runC false [false,false] (aj 1) (fun δ=>some true) e_q3_1 δ))))
noncomputable def f_q3:List D→Option (D×Bool):=runF 2 1 g_q3
noncomputable abbrev N_q2:List Str:=["rule","body"]
noncomputable def g_q2 (δ:DEnv):Option Out:=seqO (setO 1 (shO (ah (af (ixO (rd false 0 δ) (some (.int 1))) (some [])) f_q3)) δ) (fun δ=>seqO (ifO (eqO (ixO (rd false 0 δ) (some (.int 0))) (some (.str "must"))) (retO (addS (addS (rd false 1 δ) (some (.str " => "))) (shO (ah (af (ixO (rd false 0 δ) (some (.int 2))) (some [])) f_q3)))) (nextO δ)) (fun δ=>retO (addS (addS (addS (addS (rd false 1 δ) (some (.str " => "))) (shO (ah (af (ixO (rd false 0 δ) (some (.int 2))) (some [])) f_q4))) (some (.str " = "))) (shO (ah (af (ixO (rd false 0 δ) (some (.int 3))) (some [])) f_q4)))))
noncomputable def f_q2:List D→Option (D×Bool):=runF 2 1 g_q2
noncomputable abbrev N_qd:List Str:=["holds","words"]
noncomputable def g_qd (δ:DEnv):Option OutX:=ifX' (notO (tyB (rd false 0 δ))) (raiO (rd false 1 δ)) (some (.o (.next δ)))
noncomputable def f_qd:List D→Option (Option (D×Bool)):=runX 2 2 g_qd
noncomputable abbrev N_qc:List Str:=["text"]
noncomputable def g_qc (δ:DEnv):Option OutX:=dropX (shX (ah (af (isiO "str" (rd false 0 δ)) (af (some (.str "what is read is a text")) (some []))) f_qd)) δ
noncomputable def f_qc:List D→Option (Option (D×Bool)):=runX 1 1 g_qc
noncomputable abbrev N_qb:List Str:=["text","signs","sign"]
noncomputable def e_qb_1 (δ:DEnv):Option D:=ofB (inSO (rd false 2 δ) (rd false 1 δ))
noncomputable def g_qb (δ:DEnv):Option Out:=retO (allO (lstLim (ah (strL (rd false 0 δ)) (runC false [false,true,false] (aj 2) (fun δ=>some true) e_qb_1 δ))))
noncomputable def f_qb:List D→Option (D×Bool):=runF 3 2 g_qb
noncomputable abbrev N_qa:List Str:=["word"]
noncomputable def g_qa (δ:DEnv):Option OutX:=seqX (dropX (shX (ah (af ((match tyB (chainI gLe gLe (some (.int 1)) (lenS (rd false 0 δ)) (some (.int 8)))with|some true=>shO (ah (af (rd false 0 δ) (af (some (.str "abcdefghijklmnopqrstuvwxyz")) (some []))) f_qb)|some false=>some (.bl false)|none=>none)) (af (some (.str "a name has one to eight letters from a to z")) (some []))) f_qd)) δ) (fun δ=>upS (retO (rd false 0 δ)))
noncomputable def f_qa:List D→Option (Option (D×Bool)):=runX 1 1 g_qa
noncomputable abbrev N_q8:List Str:=["word"]
noncomputable def g_q8 (δ:DEnv):Option OutX:=seqX (ifX' (andO (eqO (lenS (rd false 0 δ)) (some (.int 1))) (inSO (rd false 0 δ) (some (.str "ABCDEFGHIJKLMNOPQRSTUVWXYZ")))) (upS (retO (tupO (af (some (.str "any")) (af (rd false 0 δ) (some [])))))) (some (.o (.next δ)))) (fun δ=>retX (tupX (consX (upO (some (.str "name"))) (consX (shX (ah (af (rd false 0 δ) (some [])) f_qa)) (upO (some []))))))
noncomputable def f_q8:List D→Option (Option (D×Bool)):=runX 1 1 g_q8
noncomputable abbrev N_q7:List Str:=["text","read_word","words","word"]
noncomputable def e_q7_1 (δ:DEnv):Option (Option D):=spO false 1 "read_term" δ (shX (ah (af (rd false 3 δ) (some [])) f_q8))
noncomputable def g_q7 (δ:DEnv):Option OutX:=seqX (upS (setO 2 (splitO (rd false 0 δ) (some (.str " "))) δ)) (fun δ=>seqX (dropX (shX (ah (af (chainI gLe gLe (some (.int 2)) (lenL (rd false 2 δ)) (some (.int 5))) (af (some (.str "a table's name is followed by one to four words")) (some []))) f_qd)) δ) (fun δ=>retX (tupX (consX (shX (ah (af (ixO (rd false 2 δ) (some (.int 0))) (some [])) f_qa)) (consX (tupleX (lstX (ah (lstL (cutLO (rd false 2 δ) (partI (some (.int 1))) (some none))) (runCX false [false,true,false,false] (aj 3) e_q7_1 δ)))) (upO (some [])))))))
noncomputable def f_q7:List D→Option (Option (D×Bool)):=runX 4 2 g_q7
noncomputable abbrev N_q6:List Str:=["text","parts","part"]
noncomputable def e_q6_1 (δ:DEnv):Option (Option D):=shX (ah (af (rd false 2 δ) (af (some (.sp false "read_term")) (some []))) f_q7)
noncomputable def g_q6 (δ:DEnv):Option OutX:=seqX (upS (setO 1 (splitO (rd false 0 δ) (some (.str ", "))) δ)) (fun δ=>seqX (dropX (shX (ah (af (bI cT (fun i j=>.bl (gLe i j)) (lenL (rd false 1 δ)) (some (.int 4))) (af (some (.str "a body or head has at most four patterns")) (some []))) f_qd)) δ) (fun δ=>retFx (lstX (ah (lstL (rd false 1 δ)) (runCX false [false,false,false] (aj 2) e_q6_1 δ)))))
noncomputable def f_q6:List D→Option (Option (D×Bool)):=runX 3 1 g_q6
noncomputable abbrev N_q9:List Str:=["word","body","term"]
noncomputable def g_q9 (δ:DEnv):Option OutX:=seqX (setX 2 (shX (ah (af (rd false 0 δ) (some [])) f_q8)) δ) (fun δ=>seqX (dropX (shX (ah (af ((match tyB (ofB (eqO (ixO (rd false 2 δ) (some (.int 0))) (some (.str "name"))))with|some true=>some (.bl true)|some false=>ofB (inO (ixO (rd false 2 δ) (some (.int 1))) (frO (ah (af (rd false 1 δ) (some [])) f_q0)))|none=>none)) (af (some (.str "what is the same is a name or an unknown of the body")) (some []))) f_qd)) δ) (fun δ=>upS (retO (rd false 2 δ))))
noncomputable def f_q9:List D→Option (Option (D×Bool)):=runX 3 2 g_q9
noncomputable abbrev N_q5:List Str:=["text","sides","body","terms"]
noncomputable def g_q5 (δ:DEnv):Option OutX:=seqX (dropX (shX (ah (af (rd false 0 δ) (some [])) f_qc)) δ) (fun δ=>seqX (upS (setO 1 (partO (rd false 0 δ) (some (.str " => "))) δ)) (fun δ=>seqX (setFx 2 (frX (ah (af (ixO (rd false 1 δ) (some (.int 0))) (some [])) f_q6)) δ) (fun δ=>seqX (upS (setO 3 (splitO (ixO (rd false 1 δ) (some (.int 2))) (some (.str " = "))) δ)) (fun δ=>seqX (ifX' (eqO (lenL (rd false 3 δ)) (some (.int 1))) (retTx (consX (valX (upO (some (.str "must")))) (consX (upO (newN (rdOwn 2 δ))) (consX (newX (frX (ah (af (ixO (rd false 1 δ) (some (.int 2))) (some [])) f_q6))) (upO (some [])))))) (some (.o (.next δ)))) (fun δ=>seqX (dropX (shX (ah (af (ofB (eqO (lenL (rd false 3 δ)) (some (.int 2)))) (af (some (.str "two terms are the same, not more")) (some []))) f_qd)) δ) (fun δ=>retTx (consX (valX (upO (some (.str "same")))) (consX (upO (newN (rdOwn 2 δ))) (consX (valX (flX (shX (ah (af (ixO (rd true 3 δ) (some (.int 0))) (af (rd true 2 δ) (some []))) f_q9)))) (consX (valX (flX (shX (ah (af (ixO (rd true 3 δ) (some (.int 1))) (af (rd true 2 δ) (some []))) f_q9)))) (upO (some []))))))))))))
noncomputable def f_q5:List D→Option (Option (D×Bool)):=runX 4 1 g_q5
noncomputable abbrev N_qe:List Str:=["_law_cell","_law_j","_law_number"]
noncomputable def g_qe (δ:DEnv):Option Out:=seqO (setO 2 (modI (addI (mulI (rd false 0 δ) (addI (mulI (some (.int 2)) (rd false 1 δ)) (some (.int 3)))) (rd false 1 δ)) (some (.int 2147483629))) δ) (fun δ=>retO (modI (mulI (addI (mulI (rd false 2 δ) (rd false 2 δ)) (some (.int 1))) (some (.int 48271))) (some (.int 2147483629))))
noncomputable def f_qe:List D→Option (D×Bool):=runF 3 2 g_qe
noncomputable abbrev N_qf:List Str:=["_law_cell","_law_far","_law_letters_here","_law_size","_law_k"]
noncomputable def e_qf_1 (δ:DEnv):Option D:=ixSO (rd false 2 δ) (modI (shO (ah (af (rd false 0 δ) (af (addI (addI (rd false 1 δ) (some (.int 1))) (rd false 4 δ)) (some []))) f_qe)) (some (.int 26)))
noncomputable def g_qf (δ:DEnv):Option Out:=seqO (setO 2 (some (.str "abcdefghijklmnopqrstuvwxyz")) δ) (fun δ=>seqO (setO 3 (ixO (lstO (some [(.int 1),(.int 1),(.int 2),(.int 3),(.int 4),(.int 5),(.int 6),(.int 7),(.int 8)])) (modI (shO (ah (af (rd false 0 δ) (af (rd false 1 δ) (some []))) f_qe)) (some (.int 9)))) δ) (fun δ=>retO (joinO (some (.str "")) (lstLim (ah (rng1 (rd false 3 δ)) (runC false [true,true,true,false,false] (aj 4) (fun δ=>some true) e_qf_1 δ))))))
noncomputable def f_qf:List D→Option (D×Bool):=runF 5 2 g_qf
noncomputable abbrev N_qg:List Str:=["_law_cell","_law_letters_here","_law_step","_law_k"]
noncomputable def e_qg_1 (δ:DEnv):Option D:=ixSO (rd false 1 δ) (modI (addI (shO (ah (af (rd false 0 δ) (af (some (.int 13)) (some []))) f_qe)) (mulI (rd false 2 δ) (rd false 3 δ))) (some (.int 26)))
noncomputable def g_qg (δ:DEnv):Option Out:=seqO (setO 1 (some (.str "ABCDEFGHIJKLMNOPQRSTUVWXYZ")) δ) (fun δ=>seqO (setO 2 (ixO (lstO (some [(.int 1),(.int 3),(.int 5),(.int 7),(.int 9),(.int 11)])) (modI (shO (ah (af (rd false 0 δ) (af (some (.int 14)) (some []))) f_qe)) (some (.int 6)))) δ) (fun δ=>retF (lstLim (ah (rng1 (some (.int 5))) (runC false [true,true,true,false] (aj 3) (fun δ=>some true) e_qg_1 δ)))))
noncomputable def f_qg:List D→Option (D×Bool):=runF 4 1 g_qg
noncomputable abbrev N_qh:List Str:=["_law_cell","_law_far","_law_letters_here","_law_found","_law_k","_law_terms","_law_j","_law_drawn"]
noncomputable def b_qh_1 (δ:DEnv):Option Out:=seqO (setO 7 (shO (ah (af (rd false 0 δ) (af (addI (addI (addI (rd false 1 δ) (some (.int 5))) (mulI (some (.int 4)) (rd false 4 δ))) (rd false 6 δ)) (some []))) f_qe)) δ) (fun δ=>ifO (eqO (modI (rd false 7 δ) (some (.int 3))) (some (.int 0))) (appO 5 (tupO (af (some (.str "name")) (af (shO (ah (af (rd false 0 δ) (af (addI (addI (rd false 1 δ) (some (.int 30))) (mulI (some (.int 9)) (rd false 6 δ))) (some []))) f_qf)) (some [])))) δ) (appO 5 (tupO (af (some (.str "any")) (af (ixO (rd false 2 δ) (modI (divI (rd false 7 δ) (some (.int 3))) (some (.int 5)))) (some [])))) δ))
noncomputable def k_qh_2 (δ:DEnv):Option Out:=appO 3 (tupO (af (shO (ah (af (rd false 0 δ) (af (addI (addI (rd false 1 δ) (some (.int 70))) (mulI (some (.int 9)) (rd false 4 δ))) (some []))) f_qf)) (af (tupleO (rd false 5 δ)) (some [])))) δ
noncomputable def b_qh_3 (δ:DEnv):Option Out:=seqO (setF 5 (lstO (some [])) δ) (fun δ=>seqO (ah (rng1 (addI (some (.int 1)) (modI (shO (ah (af (rd false 0 δ) (af (addI (addI (rd false 1 δ) (some (.int 1))) (rd false 4 δ)) (some []))) f_qe)) (some (.int 4))))) fun ds=>loopD (fun d δ=>ah ((aj 6) d δ) b_qh_1) ds δ) (fun δ=>k_qh_2 (frzE 5 δ)))
noncomputable def g_qh (δ:DEnv):Option Out:=seqO (setO 2 (frO (ah (af (rd false 0 δ) (some [])) f_qg)) δ) (fun δ=>seqO (setF 3 (lstO (some [])) δ) (fun δ=>seqO (ah (rng1 (ixO (lstO (some [(.int 1),(.int 1),(.int 2),(.int 2),(.int 3),(.int 4)])) (modI (shO (ah (af (rd false 0 δ) (af (rd false 1 δ) (some []))) f_qe)) (some (.int 6))))) fun ds=>loopD (fun d δ=>ah ((aj 4) d δ) b_qh_3) ds δ) (fun δ=>retF (rdOwn 3 δ))))
noncomputable def f_qh:List D→Option (D×Bool):=runF 8 2 g_qh
noncomputable abbrev N_qi:List Str:=["_law_body_here","_law_found","_law_table","_law_terms","_law_term_here"]
noncomputable def e_qi_1 (δ:DEnv):Option D:=rd false 4 δ
noncomputable def b_qi_2 (δ:DEnv):Option Out:=extO 1 (lstLim (ah (tupL (rd false 3 δ)) (runC false [false,false,false,false,false] (aj 4) (fun δ=>eqO (ixO (rd false 4 δ) (some (.int 0))) (some (.str "any"))) e_qi_1 δ))) δ
noncomputable def g_qi (δ:DEnv):Option Out:=seqO (setF 1 (lstO (some [])) δ) (fun δ=>seqO (ah (lstL (rd false 0 δ)) fun ds=>loopD (fun d δ=>ah ((toTup (toCons (aj 2) (toCons (aj 3) (toNil)))) d δ) b_qi_2) ds δ) (fun δ=>retF (rdOwn 1 δ)))
noncomputable def f_qi:List D→Option (D×Bool):=runF 5 1 g_qi
noncomputable abbrev N_qj:List Str:=["_law_cell","_law_body_here","_law_some"]
noncomputable def g_qj (δ:DEnv):Option Out:=seqO (setO 1 (frO (ah (af (rd false 0 δ) (af (some (.int 100)) (some []))) f_qh)) δ) (fun δ=>seqO (ifO (eqO (modI (shO (ah (af (rd false 0 δ) (af (some (.int 1)) (some []))) f_qe)) (some (.int 2))) (some (.int 0))) (retO (tupO (af (some (.str "must")) (af (rd false 1 δ) (af (frO (ah (af (rd false 0 δ) (af (some (.int 300)) (some []))) f_qh)) (some [])))))) (nextO δ)) (fun δ=>seqO (setO 2 (catO (frO (ah (af (rd false 1 δ) (some [])) f_qi)) (lstO (af (tupO (af (some (.str "name")) (af (shO (ah (af (rd false 0 δ) (af (some (.int 2)) (some []))) f_qf)) (some [])))) (some [])))) δ) (fun δ=>retO (tupO (af (some (.str "same")) (af (rd false 1 δ) (af (ixO (rd false 2 δ) (modI (shO (ah (af (rd false 0 δ) (af (some (.int 15)) (some []))) f_qe)) (lenL (rd false 2 δ)))) (af (ixO (rd false 2 δ) (modI (shO (ah (af (rd false 0 δ) (af (some (.int 16)) (some []))) f_qe)) (lenL (rd false 2 δ)))) (some [])))))))))
noncomputable def f_qj:List D→Option (D×Bool):=runF 3 1 g_qj
noncomputable abbrev N_qk:List Str:=["_law_patterns","_law_table","_law_terms","_law_term_here"]
noncomputable def e_qk_1 (δ:DEnv):Option D:=ixO (rd false 3 δ) (some (.int 1))
noncomputable def e_qk_2 (δ:DEnv):Option D:=joinO (some (.str " ")) (catO (lstO (af (rd false 1 δ) (some []))) (lstLim (ah (tupL (rd false 2 δ)) (runC false [false,false,false,false] (aj 3) (fun δ=>some true) e_qk_1 δ))))
noncomputable def g_qk (δ:DEnv):Option Out:=retO (joinO (some (.str ", ")) (lstLim (ah (lstL (rd false 0 δ)) (runC false [false,false,false,false] (toTup (toCons (aj 1) (toCons (aj 2) (toNil)))) (fun δ=>some true) e_qk_2 δ))))
noncomputable def f_qk:List D→Option (D×Bool):=runF 4 1 g_qk
noncomputable abbrev N_ql:List Str:=["_law_rule_here"]
noncomputable def g_ql (δ:DEnv):Option Out:=seqO (ifO (eqO (ixO (rd false 0 δ) (some (.int 0))) (some (.str "must"))) (retO (addS (addS (shO (ah (af (ixO (rd false 0 δ) (some (.int 1))) (some [])) f_qk)) (some (.str " => "))) (shO (ah (af (ixO (rd false 0 δ) (some (.int 2))) (some [])) f_qk)))) (nextO δ)) (fun δ=>retO (addS (addS (addS (addS (shO (ah (af (ixO (rd false 0 δ) (some (.int 1))) (some [])) f_qk)) (some (.str " => "))) (ixO (ixO (rd false 0 δ) (some (.int 2))) (some (.int 1)))) (some (.str " = "))) (ixO (ixO (rd false 0 δ) (some (.int 3))) (some (.int 1)))))
noncomputable def f_ql:List D→Option (D×Bool):=runF 1 1 g_ql
noncomputable abbrev N_qm:List Str:=["_law_cell","_law_some"]
noncomputable def g_qm (δ:DEnv):Option Out:=seqO (setO 1 (lstO (some [(.str ""),(.str " => "),(.str "has A"),(.str "has A => "),(.str " => has A"),(.str "has A =>has A"),(.str "has A = A"),(.str "has A => A = B")])) δ) (fun δ=>seqO (setO 1 (catO (rd false 1 δ) (lstO (some [(.str "has A => B = A"),(.str "has A => A = "),(.str "has A => A == A"),(.str "has A => A = A = A"),(.str "has A => a = b")]))) δ) (fun δ=>seqO (setO 1 (catO (rd false 1 δ) (lstO (af (some (.str "has A => has A => has A")) (af (some (.str "has ?1 => has A")) (af (some (.str "has A => has ?1")) (af (some (.str "has A => A = ?1")) (some []))))))) δ) (fun δ=>seqO (setO 1 (catO (rd false 1 δ) (lstO (af (some (.str "has A, => has A")) (af (some (.str "has A,has B => has A")) (some []))))) δ) (fun δ=>seqO (setO 1 (catO (rd false 1 δ) (lstO (af (some (.str "a A, a A, a A, a A, a A => a A")) (af (some (.str "has AB => has A")) (af (some .non) (af (some (.int 7)) (af (tupO (af (some (.str "must")) (af (lstO (some [])) (af (lstO (some [])) (some []))))) (some [])))))))) δ) (fun δ=>retO (ixO (rd false 1 δ) (modI (shO (ah (af (rd false 0 δ) (af (some (.int 17)) (some []))) f_qe)) (some (.int 24)))))))))
noncomputable def f_qm:List D→Option (D×Bool):=runF 2 1 g_qm
noncomputable abbrev N_qn:List Str:=["_law_text","_law_cell","_law_signs","_law_way","_law_at","_law_sign"]
noncomputable def g_qn (δ:DEnv):Option Out:=seqO (setO 2 (some (.str "   ,,==>>?0abcxyzABCXYZ:;-")) δ) (fun δ=>seqO (setO 3 (modI (shO (ah (af (rd false 1 δ) (af (some (.int 18)) (some []))) f_qe)) (some (.int 8))) δ) (fun δ=>seqO (setO 4 (modI (shO (ah (af (rd false 1 δ) (af (some (.int 19)) (some []))) f_qe)) (addI (lenS (rd false 0 δ)) (some (.int 1)))) δ) (fun δ=>seqO (setO 5 (ixSO (rd false 2 δ) (modI (shO (ah (af (rd false 1 δ) (af (some (.int 20)) (some []))) f_qe)) (lenS (rd false 2 δ)))) δ) (fun δ=>seqO (ifO (eqO (rd false 3 δ) (some (.int 0))) (retO (addS (addS (cutSO (rd false 0 δ) (some none) (partI (rd false 4 δ))) (rd false 5 δ)) (cutSO (rd false 0 δ) (partI (rd false 4 δ)) (some none)))) (nextO δ)) (fun δ=>seqO (ifO (eqO (rd false 3 δ) (some (.int 1))) (retO (addS (cutSO (rd false 0 δ) (some none) (partI (rd false 4 δ))) (cutSO (rd false 0 δ) (partI (addI (rd false 4 δ) (some (.int 1)))) (some none)))) (nextO δ)) (fun δ=>seqO (ifO (cI gLt (rd false 3 δ) (some (.int 5))) (retO (addS (addS (cutSO (rd false 0 δ) (some none) (partI (rd false 4 δ))) (rd false 5 δ)) (cutSO (rd false 0 δ) (partI (addI (rd false 4 δ) (some (.int 1)))) (some none)))) (nextO δ)) (fun δ=>seqO (ifO (eqO (rd false 3 δ) (some (.int 5))) (retO (shO (ah (af (rd false 1 δ) (some [])) f_qm))) (nextO δ)) (fun δ=>retO (rd false 0 δ)))))))))
noncomputable def f_qn:List D→Option (D×Bool):=runF 6 2 g_qn
noncomputable abbrev N_qo:List Str:=["_law_word","_law_sign"]
noncomputable def b_qo_1 (δ:DEnv):Option Out:=ifO (notO (inSO (rd false 1 δ) (some (.str "abcdefghijklmnopqrstuvwxyz")))) (retO (some (.bl false))) (nextO δ)
noncomputable def g_qo (δ:DEnv):Option Out:=seqO (ifO (orO (cI gLt (lenS (rd false 0 δ)) (some (.int 1))) (cI gGt (lenS (rd false 0 δ)) (some (.int 8)))) (retO (some (.bl false))) (nextO δ)) (fun δ=>seqO (ah (strL (rd false 0 δ)) fun ds=>loopD (fun d δ=>ah ((aj 1) d δ) b_qo_1) ds δ) (fun δ=>retO (some (.bl true))))
noncomputable def f_qo:List D→Option (D×Bool):=runF 2 1 g_qo
noncomputable abbrev N_qp:List Str:=["_law_word"]
noncomputable def g_qp (δ:DEnv):Option Out:=seqO (ifO (tyB (shO (ah (af (rd false 0 δ) (some [])) f_qo))) (retO (tupO (af (some (.str "name")) (af (rd false 0 δ) (some []))))) (nextO δ)) (fun δ=>seqO (ifO (andO (eqO (lenS (rd false 0 δ)) (some (.int 1))) (inSO (rd false 0 δ) (some (.str "ABCDEFGHIJKLMNOPQRSTUVWXYZ")))) (retO (tupO (af (some (.str "any")) (af (rd false 0 δ) (some []))))) (nextO δ)) (fun δ=>retO (some .non)))
noncomputable def f_qp:List D→Option (D×Bool):=runF 1 1 g_qp
noncomputable abbrev N_qq:List Str:=["_law_text","_law_found","_law_piece","_law_words","_law_terms","_law_word"]
noncomputable def e_qq_1 (δ:DEnv):Option D:=shO (ah (af (rd false 5 δ) (some [])) f_qp)
noncomputable def k_qq_2 (δ:DEnv):Option Out:=seqO (ifO (orO (notO (tyB (shO (ah (af (ixO (rd false 3 δ) (some (.int 0))) (some [])) f_qo)))) (orO (eqO (rd false 4 δ) (lstO (some []))) (orO (cI gGt (lenL (rd false 4 δ)) (some (.int 4))) (inO (some .non) (rd false 4 δ))))) (retO (some .non)) (nextO δ)) (fun δ=>appO 1 (tupO (af (ixO (rd false 3 δ) (some (.int 0))) (af (tupleO (rd false 4 δ)) (some [])))) δ)
noncomputable def b_qq_3 (δ:DEnv):Option Out:=seqO (setO 3 (splitO (rd false 2 δ) (some (.str " "))) δ) (fun δ=>seqO (setF 4 (lstLim (ah (lstL (cutLO (rd false 3 δ) (partI (some (.int 1))) (some none))) (runC false [false,false,false,false,false,false] (aj 5) (fun δ=>some true) e_qq_1 δ))) δ) (fun δ=>k_qq_2 (frzE 4 δ)))
noncomputable def g_qq (δ:DEnv):Option Out:=seqO (setF 1 (lstO (some [])) δ) (fun δ=>seqO (ah (lstL (splitO (rd false 0 δ) (some (.str ", ")))) fun ds=>loopD (fun d δ=>ah ((aj 2) d δ) b_qq_3) ds δ) (fun δ=>seqO (ifO (cI gGt (lenL (rd true 1 δ)) (some (.int 4))) (retO (some .non)) (nextO δ)) (fun δ=>retF (rdOwn 1 δ))))
noncomputable def f_qq:List D→Option (D×Bool):=runF 6 1 g_qq
noncomputable abbrev N_qr:List Str:=["_law_text","_law_at","_law_body_here","_law_right_here","_law_head","_law_both","_law_term_here"]
noncomputable def b_qr_1 (δ:DEnv):Option Out:=ifO (orO (isNO (rd false 6 δ)) (andO (eqO (ixO (rd false 6 δ) (some (.int 0))) (some (.str "any"))) (notInO (rd false 6 δ) (frO (ah (af (rd false 2 δ) (some [])) f_qi))))) (retO (some .non)) (nextO δ)
noncomputable def g_qr (δ:DEnv):Option Out:=seqO (ifO (orO (notO (tyB (isiO "str" (rd false 0 δ)))) (notO (inSO (some (.str " => ")) (rd false 0 δ)))) (retO (some .non)) (nextO δ)) (fun δ=>seqO (setO 1 (findO (rd false 0 δ) (some (.str " => "))) δ) (fun δ=>seqO (setO 2 (shO (ah (af (cutSO (rd false 0 δ) (some none) (partI (rd false 1 δ))) (some [])) f_qq)) δ) (fun δ=>seqO (setO 3 (cutSO (rd false 0 δ) (partI (addI (rd false 1 δ) (some (.int 4)))) (some none)) δ) (fun δ=>seqO (ifO (isNO (rd false 2 δ)) (retO (some .non)) (nextO δ)) (fun δ=>seqO (ifO (notO (inSO (some (.str " = ")) (rd false 3 δ))) (seqO (setO 4 (shO (ah (af (rd false 3 δ) (some [])) f_qq)) δ) (fun δ=>seqO (ifO (isNO (rd false 4 δ)) (retO (some .non)) (nextO δ)) (fun δ=>retO (tupO (af (some (.str "must")) (af (rd false 2 δ) (af (rd false 4 δ) (some [])))))))) (nextO δ)) (fun δ=>seqO (setO 1 (findO (rd false 3 δ) (some (.str " = "))) δ) (fun δ=>seqO (setO 5 (lstO (af (shO (ah (af (cutSO (rd false 3 δ) (some none) (partI (rd false 1 δ))) (some [])) f_qp)) (af (shO (ah (af (cutSO (rd false 3 δ) (partI (addI (rd false 1 δ) (some (.int 3)))) (some none)) (some [])) f_qp)) (some [])))) δ) (fun δ=>seqO (ah (lstL (rd false 5 δ)) fun ds=>loopD (fun d δ=>ah ((aj 6) d δ) b_qr_1) ds δ) (fun δ=>retO (tupO (af (some (.str "same")) (af (rd false 2 δ) (af (ixO (rd false 5 δ) (some (.int 0))) (af (ixO (rd false 5 δ) (some (.int 1))) (some [])))))))))))))))
noncomputable def f_qr:List D→Option (D×Bool):=runF 7 1 g_qr
noncomputable abbrev N_qs:List Str:=["_law_text","_law_due","_law_error","_law_found","e"]
noncomputable def k_qs_1 (δ:DEnv):Option Out:=ifO (isNO (rd false 1 δ)) (onlyRet ((fun δ=>retO ((match tyB (isiEO "NoText" true (rd false 2 δ))with|some true=>(match tyB (isiEO "NoText" true (rd false 2 δ))with|some true=>ofB (notO (tyB (isiEO "NoText" false (rd false 2 δ))))|some false=>some (.bl false)|none=>none)|some false=>some (.bl false)|none=>none))) (δ.set 3 none))) (ifO (orO (notO (isNO (rd false 2 δ))) (orO (notO (tyB (isiO "tuple" (rd false 3 δ)))) (orO (neO (rd false 3 δ) (rd false 1 δ)) (notO (tyB (isiO "list" (ixO (rd false 3 δ) (some (.int 1))))))))) (onlyRet ((fun δ=>retO (some (.bl false))) (δ.set 3 none))) (apnO 3 ((fun δ=>some (.int 1)) (δ.set 3 none)) ((fun δ=>some .non) (δ.set 3 none)) δ (fun δ=>retO (ofB (eqO (noX (shX (ah (af (rd false 0 δ) (some [])) f_q5))) (rd false 1 δ))))))
noncomputable def k_qs_2 (δ:DEnv):Option Out:=seqO (ifO (isNO (rd false 1 δ)) (retO ((match tyB (isiEO "NoText" true (rd false 2 δ))with|some true=>(match tyB (isiEO "NoText" true (rd false 2 δ))with|some true=>ofB (notO (tyB (isiEO "NoText" false (rd false 2 δ))))|some false=>some (.bl false)|none=>none)|some false=>some (.bl false)|none=>none))) (nextO δ)) (fun δ=>seqO (ifO (orO (notO (isNO (rd false 2 δ))) (orO (notO (tyB (isiO "tuple" (rd false 3 δ)))) (orO (neO (rd false 3 δ) (rd false 1 δ)) (notO (tyB (isiO "list" (ixO (rd false 3 δ) (some (.int 1))))))))) (retO (some (.bl false))) (nextO δ)) (fun δ=>seqO ((fun _=>none) δ) (fun δ=>retO (ofB (eqO (noX (shX (ah (af (rd false 0 δ) (some [])) f_q5))) (rd false 1 δ))))))
noncomputable def g_qs (δ:DEnv):Option Out:=seqO (setO 1 (shO (ah (af (rd false 0 δ) (some [])) f_qr)) δ) (fun δ=>seqO (setO 2 (some .non) δ) (fun δ=>seqO (setO 3 (some .non) δ) (fun δ=>tryN 3 2 4 "NoText" (ah (af (rd false 0 δ) (some [])) f_q5) δ k_qs_1 k_qs_2)))
noncomputable def f_qs:List D→Option (D×Bool):=runF 5 1 g_qs
noncomputable abbrev N_law:List Str:=["_law_script","_law_cell","_law_rule_here","_law_kept","_law_text","_law_found"]
noncomputable def b_law_1 (δ:DEnv):Option Out:=seqO (setO 2 (shO (ah (af (rd false 1 δ) (some [])) f_qj)) δ) (fun δ=>seqO (setO 3 (shO (ah (af (rd false 1 δ) (some [])) f_qj)) δ) (fun δ=>seqO (setO 4 (shO (ah (af (rd false 2 δ) (some [])) f_ql)) δ) (fun δ=>seqO (setO 5 (shO (ah (af (rd false 2 δ) (some [])) f_q2)) δ) (fun δ=>seqO (ifO (orO (notO (tyB (isiO "str" (rd false 5 δ)))) (orO (neO (rd false 5 δ) (rd false 4 δ)) (neO (rd false 2 δ) (rd false 3 δ)))) (retO (some (.bl false))) (nextO δ)) (fun δ=>ifO (orO (notO (tyB (shO (ah (af (rd false 5 δ) (some [])) f_qs)))) (notO (tyB (shO (ah (af (shO (ah (af (rd false 4 δ) (af (rd false 1 δ) (some []))) f_qn)) (some [])) f_qs))))) (retO (some (.bl false))) (nextO δ))))))
noncomputable def g_law (δ:DEnv):Option Out:=seqO (ah (lstL (catO (cutLO (rd false 0 δ) (some none) (partI (some (.int 63)))) (lstO (af (some (.int 0)) (some []))))) fun ds=>loopD (fun d δ=>ah ((aj 1) d δ) b_law_1) ds δ) (fun δ=>retO (some (.bl true)))
noncomputable def f_law:List D→Option (D×Bool):=runF 6 1 g_law
section
variable{P:Program}{w:World}{K:Frag}{mg:Str→Option Value}{base:Heap}
theorem sc_q0:FnScope N_q0 (["patterns"]:List Str) (aa s_q0):=⟨rfl,rfl,rfl,by decide +kernel,rfl,by decide +kernel,by decide +kernel⟩
theorem d_q0 {X:Cx}(hX:Has X N_q0 (aa s_q0)) (hf:∀x,X.fn x=true) (hp:PassesOwn (model X.prog X.w) X.A X.env X.xe) (hr:Room 0 X.A) (T:Txt X.K X.mg):
  DSs X (ai s_q0) g_q0:=by
 have hu:=hr.units
 have n0:Nm X 0 "patterns":=hX.nm (by decide +kernel)
 have n1:Nm X 1 "letters":=hX.nm (by decide +kernel)
 have l1:Lc X 1 "letters":=hX.lc hf (by decide +kernel)
 have l2:Lc X 2 "table":=hX.lc hf (by decide +kernel)
 have n3:Nm X 3 "terms":=hX.nm (by decide +kernel)
 have l3:Lc X 3 "terms":=hX.lc hf (by decide +kernel)
 have gg_set:Gb X "set":=hX.gb (by decide +kernel)
 have gg_sorted:Gb X "sorted":=hX.gb (by decide +kernel)
 refine' @ad _ _ _ _ _ ?z1 ?_
 case z1=>
  exact @ds_setF' _ _ _ _ _ _ _ hX.nd l1 (@df_lst _ _ _ _ (@ag _ _)) (by rfl)
 refine' @ad _ _ _ _ _ (@ds_for _ _ _ _ _ _ b_q0_2 _ hp hX.calm (@di_list _ false _ _ _ (@nv _ _ _ _ false n0)) ?z2 ?_ (by intro _;rfl)) ?_
 case z2=>
  refine' @dg_tup _ _ _ _ _ _ hX.calm ?z3 (toCons_len (toCons_len toNil_len)) (by rfl) (by rfl)
  case z3=>
   exact @dgs_cons _ _ _ _ _ (@dg_name' _ _ _ _ hX.nd l2) (@dgs_cons _ _ _ _ _ (@dg_name' _ _ _ _ hX.nd l3) (@dgs_nil _) (by rfl)) (by rfl)
 ·refine' @ak _ _ _ ?z4
  case z4=>
   refine' @ds_extend' _ _ _ _ _ _ _ _ _ n1 ?z5 (by rfl) (by rfl) (by rfl) (by rfl) (by rfl)
   case z5=>
    refine' @df_comp _ _ _ _ _ _ _ _ _ _ _ _ hX.calm (anew_name 4) (@di_tup _ false _ _ _ (@nv _ _ _ _ false n3)) (CompScope.of' hX (by decide +kernel)) (fun cl C s₂ H₂ ex pn=>@dg_name' _ _ _ _ (hX.comp _ cl C s₂ H₂ ex pn).nd ((hX.comp _ cl C s₂ H₂ ex pn).lcl (i:=4) (by decide +kernel))) ?z6 ?z7 (by intro _;rfl)
    case z6=>
     intro cl C s₂ H₂ ex pn
     refine' @dts_one _ _ _ ?z8
     case z8=>
      exact @dt_eq _ false false _ _ _ _ _ hu (@de_ix _ false false _ _ _ _ _ (@nv _ _ _ _ false ((hX.comp _ cl C s₂ H₂ ex pn).nm (i:=4) (by decide +kernel))) (@ae _ false _ _ _) (by exact fun _ _=>rfl)) (@am _ false _ _ _)
    case z7=>
     intro cl C s₂ H₂ ex pn
     exact @de_ix _ false false _ _ _ _ _ (@nv _ _ _ _ false ((hX.comp _ cl C s₂ H₂ ex pn).nm (i:=4) (by decide +kernel))) (@ae _ false _ _ _) (by exact fun _ _=>rfl)
 refine @dss_frz _ k_q0_3 _ 1 ?_
 refine' @ak _ _ _ ?z9
 case z9=>
  exact @ds_retF _ _ _ _ (@df_sortedSetT _ _ _ _ _ _ _ hu hX.calm gg_sorted.gl T.b_sorted gg_set.gl T.b_set (@nv _ _ _ _ false n1) (by rfl) (by rfl))
theorem m_q0 {f:Addr}{fd:FuncData}(F:Fun K "letters_of" "letters_of" s_q0 f fd) (hb:Binds K fd (["patterns"]:List Str) []) (hm:mg "letters_of"=some (.ref f)) (T:Txt K mg):
  FnOk P w K mg base CX0 1 f fd (["patterns"]:List Str) (spM K f_q0)∧FnM P w K mg base 1 "letters_of" f_q0:=by
 have h:=fnM_of (P:=P) (w:=w) (base:=base) (k:=0) (g:=g_q0) F sc_q0 hb hm (by decide) fun cdv A outer s H E hr=>by
  exact @d_q0 ((cxOf CX0 P w K mg base N_q0 "letters_of" (aa s_q0) f cdv A outer s H E).nox) (hasX sc_q0.nd) (fun _=>rfl) PassesOwn.never hr T
 exact h
theorem sc_q4:FnScope N_q4 (["term"]:List Str) (aa s_q4):=⟨rfl,rfl,rfl,by decide +kernel,rfl,by decide +kernel,by decide +kernel⟩
theorem d_q4 {X:Cx}(hX:Has X N_q4 (aa s_q4)) (hf:∀x,X.fn x=true) (hp:PassesOwn (model X.prog X.w) X.A X.env X.xe) (hr:Room 0 X.A) (T:Txt X.K X.mg):
  DSs X (ai s_q4) g_q4:=by
 have hu:=hr.units
 have n0:Nm X 0 "term":=hX.nm (by decide +kernel)
 have gg_str:Gb X "str":=hX.gb (by decide +kernel)
 refine' @ak _ _ _ ?z10
 case z10=>
  refine' @ds_ret _ _ _ _ ?z11
  case z11=>
   refine' @de_ifExp _ _ _ _ _ _ _ _ false ?z12 ?z13 (@de_ix _ false false _ _ _ _ _ (@nv _ _ _ _ false n0) (@ae _ false _ _ _) (by exact fun _ _=>rfl))
   case z12=>
    exact @dt_eq _ false false _ _ _ _ _ hu (@de_ix _ false false _ _ _ _ _ (@nv _ _ _ _ false n0) (@ae _ false _ _ _) (by exact fun _ _=>rfl)) (@am _ false _ _ _)
   case z13=>
    refine' @de_addS _ false false false _ _ _ _ _ (@am _ false _ _ _) ?z14
    case z14=>
     exact @de_strV _ false false _ _ _ _ gg_str.gl T.b_str (@de_ix _ false false _ _ _ _ _ (@nv _ _ _ _ false n0) (@ae _ false _ _ _) (by exact fun _ _=>rfl)) (by rfl)
theorem m_q4 {f:Addr}{fd:FuncData}(F:Fun K "show_term" "show_term" s_q4 f fd) (hb:Binds K fd (["term"]:List Str) []) (hm:mg "show_term"=some (.ref f)) (T:Txt K mg):
  FnOk P w K mg base CX0 1 f fd (["term"]:List Str) (spM K f_q4)∧FnM P w K mg base 1 "show_term" f_q4:=by
 have h:=fnM_of (P:=P) (w:=w) (base:=base) (k:=0) (g:=g_q4) F sc_q4 hb hm (by decide) fun cdv A outer s H E hr=>by
  exact @d_q4 ((cxOf CX0 P w K mg base N_q4 "show_term" (aa s_q4) f cdv A outer s H E).nox) (hasX sc_q4.nd) (fun _=>rfl) PassesOwn.never hr T
 exact h
theorem sc_q1:FnScope N_q1 (["row"]:List Str) (aa s_q1):=⟨rfl,rfl,rfl,by decide +kernel,rfl,by decide +kernel,by decide +kernel⟩
theorem d_q1 {X:Cx}(hX:Has X N_q1 (aa s_q1)) (hf:∀x,X.fn x=true) (hp:PassesOwn (model X.prog X.w) X.A X.env X.xe) (hr:Room 1 X.A) (T:Txt X.K X.mg) (F_q4:FnM X.prog X.w X.K X.mg X.base 1 "show_term" f_q4):
  DSs X (ai s_q1) g_q1:=by
 have hu:=hr.units
 have n0:Nm X 0 "row":=hX.nm (by decide +kernel)
 refine' @ak _ _ _ ?z15
 case z15=>
  refine' @ds_ret _ _ _ _ ?z16
  case z16=>
   refine' @de_join _ false false false _ _ _ _ _ _ (@am _ false _ _ _) ?z17 (by rfl) (by rfl) (by rfl) (by rfl)
   case z17=>
    refine' @DF.share _ false _ _ ?z18
    case z18=>
     refine' @df_cat _ _ _ _ _ _ ?z19 ?z20
     case z19=>
      refine' @DF.share _ false _ _ ?z21
      case z21=>
       refine' @df_lst _ _ _ _ ?z22
       case z22=>
        exact @ac _ false _ _ _ _ (@de_ix _ false false _ _ _ _ _ (@nv _ _ _ _ false n0) (@ae _ false _ _ _) (by exact fun _ _=>rfl)) (@ag _ _) (by rfl)
     case z20=>
      refine' @DF.share _ false _ _ ?z23
      case z23=>
       refine' @df_comp _ _ _ _ _ _ _ _ _ _ _ _ hX.calm (anew_name 1) ?z24 (CompScope.of' hX (by decide +kernel)) (fun cl C s₂ H₂ ex pn=>@dg_name' _ _ _ _ (hX.comp _ cl C s₂ H₂ ex pn).nd ((hX.comp _ cl C s₂ H₂ ex pn).lcl (i:=1) (by decide +kernel))) (fun cl C s₂ H₂ ex pn=>@dts_nil _) ?z25 (by intro _;rfl)
       case z24=>
        exact @di_tup _ false _ _ _ (@de_ix _ false false _ _ _ _ _ (@nv _ _ _ _ false n0) (@ae _ false _ _ _) (by exact fun _ _=>rfl))
       case z25=>
        intro cl C s₂ H₂ ex pn
        exact @al _ false _ _ _ _ _ _ _ _ F_q4 (hr.mono (by decide)) ((hX.comp _ cl C s₂ H₂ ex pn).gb (x:="show_term") (by decide +kernel)) (@ac _ false _ _ _ _ (@nv _ _ _ _ false ((hX.comp _ cl C s₂ H₂ ex pn).nm (i:=1) (by decide +kernel))) (@ag _ _) (by rfl)) (by rfl) (by rfl)
theorem m_q1 {f:Addr}{fd:FuncData}(F:Fun K "show_row" "show_row" s_q1 f fd) (hb:Binds K fd (["row"]:List Str) []) (hm:mg "show_row"=some (.ref f)) (T:Txt K mg) (F_q4:FnM P w K mg base 1 "show_term" f_q4):
  FnOk P w K mg base CX0 2 f fd (["row"]:List Str) (spM K f_q1)∧FnM P w K mg base 2 "show_row" f_q1:=by
 have h:=fnM_of (P:=P) (w:=w) (base:=base) (k:=1) (g:=g_q1) F sc_q1 hb hm (by decide) fun cdv A outer s H E hr=>by
  exact @d_q1 ((cxOf CX0 P w K mg base N_q1 "show_row" (aa s_q1) f cdv A outer s H E).nox) (hasX sc_q1.nd) (fun _=>rfl) PassesOwn.never hr T F_q4
 exact h
theorem sc_q3:FnScope N_q3 (["patterns"]:List Str) (aa s_q3):=⟨rfl,rfl,rfl,by decide +kernel,rfl,by decide +kernel,by decide +kernel⟩
theorem d_q3 {X:Cx}(hX:Has X N_q3 (aa s_q3)) (hf:∀x,X.fn x=true) (hp:PassesOwn (model X.prog X.w) X.A X.env X.xe) (hr:Room 2 X.A) (T:Txt X.K X.mg) (F_q1:FnM X.prog X.w X.K X.mg X.base 2 "show_row" f_q1):
  DSs X (ai s_q3) g_q3:=by
 have hu:=hr.units
 have n0:Nm X 0 "patterns":=hX.nm (by decide +kernel)
 refine' @ak _ _ _ ?z26
 case z26=>
  refine' @ds_ret _ _ _ _ ?z27
  case z27=>
   refine' @de_join _ false false false _ _ _ _ _ _ (@am _ false _ _ _) ?z28 (by rfl) (by rfl) (by rfl) (by rfl)
   case z28=>
    refine' @DF.share _ false _ _ ?z29
    case z29=>
     refine' @df_comp _ _ _ _ _ _ _ _ _ _ _ _ hX.calm (anew_name 1) (@di_list _ false _ _ _ (@nv _ _ _ _ false n0)) (CompScope.of' hX (by decide +kernel)) (fun cl C s₂ H₂ ex pn=>@dg_name' _ _ _ _ (hX.comp _ cl C s₂ H₂ ex pn).nd ((hX.comp _ cl C s₂ H₂ ex pn).lcl (i:=1) (by decide +kernel))) (fun cl C s₂ H₂ ex pn=>@dts_nil _) ?z30 (by intro _;rfl)
     case z30=>
      intro cl C s₂ H₂ ex pn
      exact @al _ false _ _ _ _ _ _ _ _ F_q1 (hr.mono (by decide)) ((hX.comp _ cl C s₂ H₂ ex pn).gb (x:="show_row") (by decide +kernel)) (@ac _ false _ _ _ _ (@nv _ _ _ _ false ((hX.comp _ cl C s₂ H₂ ex pn).nm (i:=1) (by decide +kernel))) (@ag _ _) (by rfl)) (by rfl) (by rfl)
theorem m_q3 {f:Addr}{fd:FuncData}(F:Fun K "show_patterns" "show_patterns" s_q3 f fd) (hb:Binds K fd (["patterns"]:List Str) []) (hm:mg "show_patterns"=some (.ref f)) (T:Txt K mg) (F_q1:FnM P w K mg base 2 "show_row" f_q1):
  FnOk P w K mg base CX0 3 f fd (["patterns"]:List Str) (spM K f_q3)∧FnM P w K mg base 3 "show_patterns" f_q3:=by
 have h:=fnM_of (P:=P) (w:=w) (base:=base) (k:=2) (g:=g_q3) F sc_q3 hb hm (by decide) fun cdv A outer s H E hr=>by
  exact @d_q3 ((cxOf CX0 P w K mg base N_q3 "show_patterns" (aa s_q3) f cdv A outer s H E).nox) (hasX sc_q3.nd) (fun _=>rfl) PassesOwn.never hr T F_q1
 exact h
theorem sc_q2:FnScope N_q2 (["rule"]:List Str) (aa s_q2):=⟨rfl,rfl,rfl,by decide +kernel,rfl,by decide +kernel,by decide +kernel⟩
theorem d_q2 {X:Cx}(hX:Has X N_q2 (aa s_q2)) (hf:∀x,X.fn x=true) (hp:PassesOwn (model X.prog X.w) X.A X.env X.xe) (hr:Room 3 X.A) (T:Txt X.K X.mg) (F_q4:FnM X.prog X.w X.K X.mg X.base 1 "show_term" f_q4) (F_q3:FnM X.prog X.w X.K X.mg X.base 3 "show_patterns" f_q3):
  DSs X (ai s_q2) g_q2:=by
 have hu:=hr.units
 have n0:Nm X 0 "rule":=hX.nm (by decide +kernel)
 have n1:Nm X 1 "body":=hX.nm (by decide +kernel)
 have l1:Lc X 1 "body":=hX.lc hf (by decide +kernel)
 have gg_q3:Gb X "show_patterns":=hX.gb (by decide +kernel)
 have gg_q4:Gb X "show_term":=hX.gb (by decide +kernel)
 refine' @ad _ _ _ _ _ ?z31 ?_
 case z31=>
  refine' @ds_set' _ _ _ _ _ _ _ hX.nd l1 ?z32 (by rfl)
  case z32=>
   refine' @al _ false _ _ _ _ _ _ _ _ F_q3 (hr.mono (by decide)) gg_q3 ?z33 (by rfl) (by rfl)
   case z33=>
    exact @ac _ false _ _ _ _ (@de_ix _ false false _ _ _ _ _ (@nv _ _ _ _ false n0) (@ae _ false _ _ _) (by exact fun _ _=>rfl)) (@ag _ _) (by rfl)
 refine' @ad _ _ _ _ _ (@ds_if _ _ _ _ _ _ _ _ ?z34 ?_ ?_) ?_
 case z34=>
  exact @dt_eq _ false false _ _ _ _ _ hu (@de_ix _ false false _ _ _ _ _ (@nv _ _ _ _ false n0) (@ae _ false _ _ _) (by exact fun _ _=>rfl)) (@am _ false _ _ _)
 ·refine' @ak _ _ _ ?z35
  case z35=>
   refine' @ds_ret _ _ _ _ ?z36
   case z36=>
    refine' @de_addS _ false false false _ _ _ _ _ (@de_addS _ false false false _ _ _ _ _ (@nv _ _ _ _ false n1) (@am _ false _ _ _)) ?z37
    case z37=>
     refine' @al _ false _ _ _ _ _ _ _ _ F_q3 (hr.mono (by decide)) gg_q3 ?z38 (by rfl) (by rfl)
     case z38=>
      exact @ac _ false _ _ _ _ (@de_ix _ false false _ _ _ _ _ (@nv _ _ _ _ false n0) (@ae _ false _ _ _) (by exact fun _ _=>rfl)) (@ag _ _) (by rfl)
 ·exact @dss_nil _
 refine' @ak _ _ _ ?z39
 case z39=>
  refine' @ds_ret _ _ _ _ ?z40
  case z40=>
   refine' @de_addS _ false false false _ _ _ _ _ ?z41 ?z42
   case z41=>
    refine' @de_addS _ false false false _ _ _ _ _ ?z43 (@am _ false _ _ _)
    case z43=>
     refine' @de_addS _ false false false _ _ _ _ _ (@de_addS _ false false false _ _ _ _ _ (@nv _ _ _ _ false n1) (@am _ false _ _ _)) ?z44
     case z44=>
      refine' @al _ false _ _ _ _ _ _ _ _ F_q4 (hr.mono (by decide)) gg_q4 ?z45 (by rfl) (by rfl)
      case z45=>
       exact @ac _ false _ _ _ _ (@de_ix _ false false _ _ _ _ _ (@nv _ _ _ _ false n0) (@ae _ false _ _ _) (by exact fun _ _=>rfl)) (@ag _ _) (by rfl)
   case z42=>
    refine' @al _ false _ _ _ _ _ _ _ _ F_q4 (hr.mono (by decide)) gg_q4 ?z46 (by rfl) (by rfl)
    case z46=>
     exact @ac _ false _ _ _ _ (@de_ix _ false false _ _ _ _ _ (@nv _ _ _ _ false n0) (@ae _ false _ _ _) (by exact fun _ _=>rfl)) (@ag _ _) (by rfl)
theorem m_q2 {f:Addr}{fd:FuncData}(F:Fun K "show_rule" "show_rule" s_q2 f fd) (hb:Binds K fd (["rule"]:List Str) []) (hm:mg "show_rule"=some (.ref f)) (T:Txt K mg) (F_q4:FnM P w K mg base 1 "show_term" f_q4) (F_q3:FnM P w K mg base 3 "show_patterns" f_q3):
  FnOk P w K mg base CX0 4 f fd (["rule"]:List Str) (spM K f_q2)∧FnM P w K mg base 4 "show_rule" f_q2:=by
 have h:=fnM_of (P:=P) (w:=w) (base:=base) (k:=3) (g:=g_q2) F sc_q2 hb hm (by decide) fun cdv A outer s H E hr=>by
  exact @d_q2 ((cxOf CX0 P w K mg base N_q2 "show_rule" (aa s_q2) f cdv A outer s H E).nox) (hasX sc_q2.nd) (fun _=>rfl) PassesOwn.never hr T F_q4 F_q3
 exact h
theorem sc_qd:FnScope N_qd (["holds","words"]:List Str) (aa s_qd):=⟨rfl,rfl,rfl,by decide +kernel,rfl,by decide +kernel,by decide +kernel⟩
theorem d_qd {X:Cx}(hX:Has X N_qd (aa s_qd)) (hf:∀x,X.fn x=true) (hst:X.stack=X.env::X.outer∧X.env.frame=some X.env.locals) (hr:Room 0 X.A) (T:Txt X.K X.mg):
  DSsx X "NoText" (ai s_qd) g_qd:=by
 have hu:=hr.units
 obtain⟨c_NoText,c_MustError,c_NoRow,e_NoText,e_MustError,e_NoRow,hsub,herr,k_NoText,k_ValueError,k_NoRow⟩:=T.err
 have n0:Nm X 0 "holds":=hX.nm (by decide +kernel)
 have n1:Nm X 1 "words":=hX.nm (by decide +kernel)
 have gg_NoText:Gb X "NoText":=hX.gb (by decide +kernel)
 refine' @dssx_one _ _ _ _ (@dsx_if _ _ _ _ _ _ _ _ _ ?z47 ?_ ?_)
 case z47=>
  exact @dt_not _ _ _ _ (@dt_val _ false _ _ (@nv _ _ _ _ false n0) (by intro _;rfl))
 ·refine @dssx_one _ _ _ _ (@dsx_raise' _ _ _ false _ _ _ _ _ hX.calm e_NoText gg_NoText (@nv _ _ _ _ false n1) (by rfl))
 ·exact @dssx_nil _ _
theorem m_qd {f:Addr}{fd:FuncData}(F:Fun K "demand" "demand" s_qd f fd) (hb:Binds K fd (["holds","words"]:List Str) []) (hm:mg "demand"=some (.ref f)) (hns:PySem.W.nsIn K mainGlobals "demand"=some (some (.ref f))) (T:Txt K mg):
  FnX P w K mg base 1 "demand" "NoText" f_qd:=by
 have h:=fnX_of (P:=P) (w:=w) (base:=base) (C:="NoText") (k:=0) (g:=g_qd) F sc_qd hb hm hns (by decide) fun cdv A outer s H E hr=>by
  exact @d_qd (cxOf (CX1 P w K "NoText") P w K mg base N_qd "demand" (aa s_qd) f cdv A outer s H E) (hasX1 sc_qd.nd) (fun _=>rfl) ⟨rfl,rfl⟩ hr T
 exact h
theorem sc_qc:FnScope N_qc (["text"]:List Str) (aa s_qc):=⟨rfl,rfl,rfl,by decide +kernel,rfl,by decide +kernel,by decide +kernel⟩
theorem d_qc {X:Cx}(hX:Has X N_qc (aa s_qc)) (hf:∀x,X.fn x=true) (hst:X.stack=X.env::X.outer∧X.env.frame=some X.env.locals) (hr:Room 1 X.A) (T:Txt X.K X.mg) (F_qd:FnX X.prog X.w X.K X.mg X.base 1 "demand" "NoText" f_qd):
  DSsx X "NoText" (ai s_qc) g_qc:=by
 have hu:=hr.units
 obtain⟨c_NoText,c_MustError,c_NoRow,e_NoText,e_MustError,e_NoRow,hsub,herr,k_NoText,k_ValueError,k_NoRow⟩:=T.err
 have n0:Nm X 0 "text":=hX.nm (by decide +kernel)
 have gg_qd:Gb X "demand":=hX.gb (by decide +kernel)
 have gg_isinstance:Gb X "isinstance":=hX.gb (by decide +kernel)
 have gg_str:Gb X "str":=hX.gb (by decide +kernel)
 refine @dssx_one _ _ _ _ (@dsx_expr _ _ _ _ _ (DEc.toX (dec_call' F_qd (hr.mono (by decide)) gg_qd (ac (de_isi (mm:=false) (cs:="str") (by simp) gg_isinstance.gl T.b_isinstance gg_str.gl T.b_str bt_str (nv false n0)) (ac (am (m:=false)) (ag))))) (by rfl))
theorem m_qc {f:Addr}{fd:FuncData}(F:Fun K "demand_text" "demand_text" s_qc f fd) (hb:Binds K fd (["text"]:List Str) []) (hm:mg "demand_text"=some (.ref f)) (hns:PySem.W.nsIn K mainGlobals "demand_text"=some (some (.ref f))) (T:Txt K mg) (F_qd:FnX P w K mg base 1 "demand" "NoText" f_qd):
  FnX P w K mg base 2 "demand_text" "NoText" f_qc:=by
 have h:=fnX_of (P:=P) (w:=w) (base:=base) (C:="NoText") (k:=1) (g:=g_qc) F sc_qc hb hm hns (by decide) fun cdv A outer s H E hr=>by
  exact @d_qc (cxOf (CX1 P w K "NoText") P w K mg base N_qc "demand_text" (aa s_qc) f cdv A outer s H E) (hasX1 sc_qc.nd) (fun _=>rfl) ⟨rfl,rfl⟩ hr T F_qd
 exact h
theorem sc_qb:FnScope N_qb (["text","signs"]:List Str) (aa s_qb):=⟨rfl,rfl,rfl,by decide +kernel,rfl,by decide +kernel,by decide +kernel⟩
theorem d_qb {X:Cx}(hX:Has X N_qb (aa s_qb)) (hf:∀x,X.fn x=true) (hp:PassesOwn (model X.prog X.w) X.A X.env X.xe) (hr:Room 0 X.A) (T:Txt X.K X.mg):
  DSs X (ai s_qb) g_qb:=by
 have hu:=hr.units
 have n0:Nm X 0 "text":=hX.nm (by decide +kernel)
 have gg_all:Gb X "all":=hX.gb (by decide +kernel)
 refine' @ak _ _ _ ?z48
 case z48=>
  refine' @ds_ret _ _ _ _ ?z49
  case z49=>
   refine' @de_all _ false false _ _ _ _ hX.calm gg_all.gl T.b_all ?z50 (by rfl)
   case z50=>
    refine' @DF.share _ false _ _ ?z51
    case z51=>
     refine' @df_comp _ _ _ _ _ _ _ _ _ _ _ _ hX.calm (anew_name 2) (@di_str _ _ false _ _ (@nv _ _ _ _ false n0)) (CompScope.of' hX (by decide +kernel)) (fun cl C s₂ H₂ ex pn=>@dg_name' _ _ _ _ (hX.comp _ cl C s₂ H₂ ex pn).nd ((hX.comp _ cl C s₂ H₂ ex pn).lcl (i:=2) (by decide +kernel))) (fun cl C s₂ H₂ ex pn=>@dts_nil _) ?z52 (by intro _;rfl)
     case z52=>
      intro cl C s₂ H₂ ex pn
      exact @de_inS _ false false false _ _ _ _ _ (by rfl) (@nv _ _ _ _ false ((hX.comp _ cl C s₂ H₂ ex pn).nm (i:=2) (by decide +kernel))) (@nv _ _ _ _ false ((hX.comp _ cl C s₂ H₂ ex pn).nm (i:=1) (by decide +kernel)))
theorem m_qb {f:Addr}{fd:FuncData}(F:Fun K "only_of" "only_of" s_qb f fd) (hb:Binds K fd (["text","signs"]:List Str) []) (hm:mg "only_of"=some (.ref f)) (T:Txt K mg):
  FnOk P w K mg base CX0 1 f fd (["text","signs"]:List Str) (spM K f_qb)∧FnM P w K mg base 1 "only_of" f_qb:=by
 have h:=fnM_of (P:=P) (w:=w) (base:=base) (k:=0) (g:=g_qb) F sc_qb hb hm (by decide) fun cdv A outer s H E hr=>by
  exact @d_qb ((cxOf CX0 P w K mg base N_qb "only_of" (aa s_qb) f cdv A outer s H E).nox) (hasX sc_qb.nd) (fun _=>rfl) PassesOwn.never hr T
 exact h
theorem sc_qa:FnScope N_qa (["word"]:List Str) (aa s_qa):=⟨rfl,rfl,rfl,by decide +kernel,rfl,by decide +kernel,by decide +kernel⟩
theorem d_qa {X:Cx}(hX:Has X N_qa (aa s_qa)) (hf:∀x,X.fn x=true) (hst:X.stack=X.env::X.outer∧X.env.frame=some X.env.locals) (hr:Room 1 X.A) (T:Txt X.K X.mg) (F_qd:FnX X.prog X.w X.K X.mg X.base 1 "demand" "NoText" f_qd) (F_qb:FnM X.prog X.w X.K X.mg X.base 1 "only_of" f_qb):
  DSsx X "NoText" (ai s_qa) g_qa:=by
 have hu:=hr.units
 obtain⟨c_NoText,c_MustError,c_NoRow,e_NoText,e_MustError,e_NoRow,hsub,herr,k_NoText,k_ValueError,k_NoRow⟩:=T.err
 have n0:Nm X 0 "word":=hX.nm (by decide +kernel)
 have gg_SMALL_LETTERS:Gb X "SMALL_LETTERS":=hX.gb (by decide +kernel)
 have gg_qd:Gb X "demand":=hX.gb (by decide +kernel)
 have gg_len:Gb X "len":=hX.gb (by decide +kernel)
 have gg_qb:Gb X "only_of":=hX.gb (by decide +kernel)
 refine @dssx_cons _ _ _ _ _ _ (@dsx_expr _ _ _ _ _ (DEc.toX (dec_call' F_qd (hr.mono (by decide)) gg_qd (ac (de_and (mm:=false) (de_chain (mm:=false) op_le op_le (ae (m:=false)) (de_lenS (mm:=false) gg_len.gl T.b_len (nv false n0)) (ae (m:=false))) (de_one (al F_qb (hr.mono (by decide)) gg_qb (ac (nv false n0) (ac (de_gstr' (mm:=false) gg_SMALL_LETTERS T.g_SMALL_LETTERS) (ag)))))) (ac (am (m:=false)) (ag))))) (by rfl)) ?_
 refine' @dssx_one _ _ _ _ ?z53
 case z53=>
  exact @dsx_up _ _ _ _ (@ds_ret _ _ _ _ (@nv _ _ _ _ false n0))
theorem m_qa {f:Addr}{fd:FuncData}(F:Fun K "read_name" "read_name" s_qa f fd) (hb:Binds K fd (["word"]:List Str) []) (hm:mg "read_name"=some (.ref f)) (hns:PySem.W.nsIn K mainGlobals "read_name"=some (some (.ref f))) (T:Txt K mg) (F_qd:FnX P w K mg base 1 "demand" "NoText" f_qd) (F_qb:FnM P w K mg base 1 "only_of" f_qb):
  FnX P w K mg base 2 "read_name" "NoText" f_qa:=by
 have h:=fnX_of (P:=P) (w:=w) (base:=base) (C:="NoText") (k:=1) (g:=g_qa) F sc_qa hb hm hns (by decide) fun cdv A outer s H E hr=>by
  exact @d_qa (cxOf (CX1 P w K "NoText") P w K mg base N_qa "read_name" (aa s_qa) f cdv A outer s H E) (hasX1 sc_qa.nd) (fun _=>rfl) ⟨rfl,rfl⟩ hr T F_qd F_qb
 exact h
theorem sc_q8:FnScope N_q8 (["word"]:List Str) (aa s_q8):=⟨rfl,rfl,rfl,by decide +kernel,rfl,by decide +kernel,by decide +kernel⟩
theorem d_q8 {X:Cx}(hX:Has X N_q8 (aa s_q8)) (hf:∀x,X.fn x=true) (hst:X.stack=X.env::X.outer∧X.env.frame=some X.env.locals) (hr:Room 2 X.A) (T:Txt X.K X.mg) (F_qa:FnX X.prog X.w X.K X.mg X.base 2 "read_name" "NoText" f_qa):
  DSsx X "NoText" (ai s_q8) g_q8:=by
 have hu:=hr.units
 obtain⟨c_NoText,c_MustError,c_NoRow,e_NoText,e_MustError,e_NoRow,hsub,herr,k_NoText,k_ValueError,k_NoRow⟩:=T.err
 have n0:Nm X 0 "word":=hX.nm (by decide +kernel)
 have gg_GREAT_LETTERS:Gb X "GREAT_LETTERS":=hX.gb (by decide +kernel)
 have gg_len:Gb X "len":=hX.gb (by decide +kernel)
 have gg_qa:Gb X "read_name":=hX.gb (by decide +kernel)
 refine @dssx_cons _ _ _ _ _ _ (@dsx_if _ _ _ _ _ _ _ _ _ (PW.pt (dw_and (dt_eq hu (de_lenS (mm:=false) gg_len.gl T.b_len (nv false n0)) (ae (m:=false))) (dw_and1 (dt_inS (by rfl) (nv false n0) (de_gstr' (mm:=false) gg_GREAT_LETTERS T.g_GREAT_LETTERS))))) ?_ ?_) ?_
 ·refine' @dssx_one _ _ _ _ ?z54
  case z54=>
   refine' @dsx_up _ _ _ _ ?z55
   case z55=>
    refine' @ds_ret _ _ _ _ ?z56
    case z56=>
     refine' @de_tup _ false _ _ _ _ ?z57
     case z57=>
      exact @ac _ false _ _ _ _ (@am _ false _ _ _) (@ac _ false _ _ _ _ (@nv _ _ _ _ false n0) (@ag _ _) (by rfl)) (by rfl)
 ·exact @dssx_nil _ _
 refine' @dssx_one _ _ _ _ ?z58
 case z58=>
  refine' @dsx_ret _ _ _ _ _ ?z59
  case z59=>
   refine' @dex_tup _ _ false _ _ _ _ ?z60
   case z60=>
    exact @dax_cons _ _ false _ _ _ _ (@dex_up _ _ false _ _ (@am _ false _ _ _)) (@dax_cons _ _ false _ _ _ _ (DEc.toX (dec_call' F_qa (hr.mono (by decide)) gg_qa (ac (nv false n0) (ag)))) (@dax_up _ _ false _ _ ag) (by rfl)) (by rfl)
theorem m_q8 {f:Addr}{fd:FuncData}(F:Fun K "read_term" "read_term" s_q8 f fd) (hb:Binds K fd (["word"]:List Str) []) (hm:mg "read_term"=some (.ref f)) (hns:PySem.W.nsIn K mainGlobals "read_term"=some (some (.ref f))) (T:Txt K mg) (F_qa:FnX P w K mg base 2 "read_name" "NoText" f_qa):
  FnX P w K mg base 3 "read_term" "NoText" f_q8:=by
 have h:=fnX_of (P:=P) (w:=w) (base:=base) (C:="NoText") (k:=2) (g:=g_q8) F sc_q8 hb hm hns (by decide) fun cdv A outer s H E hr=>by
  exact @d_q8 (cxOf (CX1 P w K "NoText") P w K mg base N_q8 "read_term" (aa s_q8) f cdv A outer s H E) (hasX1 sc_q8.nd) (fun _=>rfl) ⟨rfl,rfl⟩ hr T F_qa
 exact h
theorem sc_q7:FnScope N_q7 (["text","read_word"]:List Str) (aa s_q7):=⟨rfl,rfl,rfl,by decide +kernel,rfl,by decide +kernel,by decide +kernel⟩
theorem d_q7 {X:Cx}(hX:Has X N_q7 (aa s_q7)) (hf:∀x,X.fn x=true) (hst:X.stack=X.env::X.outer∧X.env.frame=some X.env.locals) (hr:Room 3 X.A) (T:Txt X.K X.mg) (F_qd:FnX X.prog X.w X.K X.mg X.base 1 "demand" "NoText" f_qd) (F_qa:FnX X.prog X.w X.K X.mg X.base 2 "read_name" "NoText" f_qa) (F_q8:FnX X.prog X.w X.K X.mg X.base 3 "read_term" "NoText" f_q8):
  DSsx X "NoText" (ai s_q7) g_q7:=by
 have hu:=hr.units
 obtain⟨c_NoText,c_MustError,c_NoRow,e_NoText,e_MustError,e_NoRow,hsub,herr,k_NoText,k_ValueError,k_NoRow⟩:=T.err
 have n0:Nm X 0 "text":=hX.nm (by decide +kernel)
 have n2:Nm X 2 "words":=hX.nm (by decide +kernel)
 have l2:Lc X 2 "words":=hX.lc hf (by decide +kernel)
 have gg_qd:Gb X "demand":=hX.gb (by decide +kernel)
 have gg_len:Gb X "len":=hX.gb (by decide +kernel)
 have gg_qa:Gb X "read_name":=hX.gb (by decide +kernel)
 have gg_tuple:Gb X "tuple":=hX.gb (by decide +kernel)
 refine' @dssx_cons _ _ _ _ _ _ ?z61 ?_
 case z61=>
  refine' @dsx_up _ _ _ _ ?z62
  case z62=>
   refine' @ds_set' _ _ _ _ _ _ _ hX.nd l2 ?z63 (by rfl)
   case z63=>
    exact @DF.share _ false _ _ (@df_split _ false false _ _ _ _ _ _ (@nv _ _ _ _ false n0) (@am _ false _ _ _) (by rfl) (by rfl) (by rfl) (by rfl))
 refine @dssx_cons _ _ _ _ _ _ (@dsx_expr _ _ _ _ _ (DEc.toX (dec_call' F_qd (hr.mono (by decide)) gg_qd (ac (de_chain (mm:=false) op_le op_le (ae (m:=false)) (de_len' (mm:=false) gg_len T.b_len (nv false n2)) (ae (m:=false))) (ac (am (m:=false)) (ag))))) (by rfl)) ?_
 refine' @dssx_one _ _ _ _ ?z64
 case z64=>
  refine' @dsx_ret _ _ _ _ _ ?z65
  case z65=>
   refine' @dex_tup _ _ false _ _ _ _ ?z66
   case z66=>
    exact @dax_cons _ _ false _ _ _ _ (DEc.toX (dec_call' F_qa (hr.mono (by decide)) gg_qa (ac (de_ix (nv false n2) (ae (m:=false))) (ag)))) (@dax_cons _ _ false _ _ _ _ (@dex_tuple _ _ false _ _ _ _ gg_tuple.gl T.b_tuple (DFx.share (dfx_comp hst hX.calm (anew_name 3) (di_list (DF.share (m:=false) (df_cutL (nv false n2) (do_some (ae (m:=false))) (do_none)))) (CompScope.of' hX (by decide +kernel)) (fun cl C s₂ H₂ ex pn=>dg_name' (hX.comp _ cl C s₂ H₂ ex pn).nd ((hX.comp _ cl C s₂ H₂ ex pn).lcl (i:=3) (by decide +kernel))) (fun cl C s₂ H₂ ex pn W=>dec_callV' F_q8 (hr.mono (by decide)) ((hX.comp _ cl C s₂ H₂ ex pn).nm (i:=1) (by decide +kernel)).w (ac (nv false ((hX.comp _ cl C s₂ H₂ ex pn).nm (i:=3) (by decide +kernel)).w) (ag))))) (by rfl)) (@dax_up _ _ false _ _ ag) (by rfl)) (by rfl)
theorem m_q7 {f:Addr}{fd:FuncData}(F:Fun K "read_line" "read_line" s_q7 f fd) (hb:Binds K fd (["text","read_word"]:List Str) []) (hm:mg "read_line"=some (.ref f)) (hns:PySem.W.nsIn K mainGlobals "read_line"=some (some (.ref f))) (T:Txt K mg) (F_qd:FnX P w K mg base 1 "demand" "NoText" f_qd) (F_qa:FnX P w K mg base 2 "read_name" "NoText" f_qa) (F_q8:FnX P w K mg base 3 "read_term" "NoText" f_q8):
  FnX P w K mg base 4 "read_line" "NoText" f_q7:=by
 have h:=fnX_of (P:=P) (w:=w) (base:=base) (C:="NoText") (k:=3) (g:=g_q7) F sc_q7 hb hm hns (by decide) fun cdv A outer s H E hr=>by
  exact @d_q7 (cxOf (CX1 P w K "NoText") P w K mg base N_q7 "read_line" (aa s_q7) f cdv A outer s H E) (hasX1 sc_q7.nd) (fun _=>rfl) ⟨rfl,rfl⟩ hr T F_qd F_qa F_q8
 exact h
theorem sc_q6:FnScope N_q6 (["text"]:List Str) (aa s_q6):=⟨rfl,rfl,rfl,by decide +kernel,rfl,by decide +kernel,by decide +kernel⟩
theorem d_q6 {X:Cx}(hX:Has X N_q6 (aa s_q6)) (hf:∀x,X.fn x=true) (hst:X.stack=X.env::X.outer∧X.env.frame=some X.env.locals) (hr:Room 4 X.A) (T:Txt X.K X.mg) (F_qd:FnX X.prog X.w X.K X.mg X.base 1 "demand" "NoText" f_qd) (F_q8:FnX X.prog X.w X.K X.mg X.base 3 "read_term" "NoText" f_q8) (F_q7:FnX X.prog X.w X.K X.mg X.base 4 "read_line" "NoText" f_q7):
  DSsx X "NoText" (ai s_q6) g_q6:=by
 have hu:=hr.units
 obtain⟨c_NoText,c_MustError,c_NoRow,e_NoText,e_MustError,e_NoRow,hsub,herr,k_NoText,k_ValueError,k_NoRow⟩:=T.err
 have n0:Nm X 0 "text":=hX.nm (by decide +kernel)
 have n1:Nm X 1 "parts":=hX.nm (by decide +kernel)
 have l1:Lc X 1 "parts":=hX.lc hf (by decide +kernel)
 have gg_qd:Gb X "demand":=hX.gb (by decide +kernel)
 have gg_len:Gb X "len":=hX.gb (by decide +kernel)
 refine' @dssx_cons _ _ _ _ _ _ ?z67 ?_
 case z67=>
  refine' @dsx_up _ _ _ _ ?z68
  case z68=>
   refine' @ds_set' _ _ _ _ _ _ _ hX.nd l1 ?z69 (by rfl)
   case z69=>
    exact @DF.share _ false _ _ (@df_split _ false false _ _ _ _ _ _ (@nv _ _ _ _ false n0) (@am _ false _ _ _) (by rfl) (by rfl) (by rfl) (by rfl))
 refine @dssx_cons _ _ _ _ _ _ (@dsx_expr _ _ _ _ _ (DEc.toX (dec_call' F_qd (hr.mono (by decide)) gg_qd (ac (de_cmp (mm:=false) op_le (by rfl) (de_len' (mm:=false) gg_len T.b_len (nv false n1)) (ae (m:=false))) (ac (am (m:=false)) (ag))))) (by rfl)) ?_
 refine' @dssx_one _ _ _ _ ?z70
 case z70=>
  refine' @dsx_retF _ _ _ _ _ ?z71
  case z71=>
   refine' @dfx_comp _ _ _ _ _ _ _ _ _ _ _ hst hX.calm (anew_name 2) (@di_list _ false _ _ _ (@nv _ _ _ _ false n1)) (CompScope.of' hX (by decide +kernel)) (fun cl C s₂ H₂ ex pn=>@dg_name' _ _ _ _ (hX.comp _ cl C s₂ H₂ ex pn).nd ((hX.comp _ cl C s₂ H₂ ex pn).lcl (i:=2) (by decide +kernel))) ?z72 (by intro _;rfl)
   case z72=>
    intro cl C s₂ H₂ ex pn W
    refine' @dec_call' _ _ false _ _ _ _ _ _ _ _ F_q7 (hr.mono (by decide)) ((hX.comp _ cl C s₂ H₂ ex pn).gb (x:="read_line") (by decide +kernel)).w ?z73 (by rfl) (by rfl)
    case z73=>
     exact @ac _ false _ _ _ _ (@nv _ _ _ _ false ((hX.comp _ cl C s₂ H₂ ex pn).nm (i:=2) (by decide +kernel)).w) (@ac _ false _ _ _ _ (@de_gfun' _ _ false _ _ _ _ F_q8 ((hX.comp _ cl C s₂ H₂ ex pn).gb (x:="read_term") (by decide +kernel)).w) (@ag _ _) (by rfl)) (by rfl)
theorem m_q6 {f:Addr}{fd:FuncData}(F:Fun K "read_patterns" "read_patterns" s_q6 f fd) (hb:Binds K fd (["text"]:List Str) []) (hm:mg "read_patterns"=some (.ref f)) (hns:PySem.W.nsIn K mainGlobals "read_patterns"=some (some (.ref f))) (T:Txt K mg) (F_qd:FnX P w K mg base 1 "demand" "NoText" f_qd) (F_q8:FnX P w K mg base 3 "read_term" "NoText" f_q8) (F_q7:FnX P w K mg base 4 "read_line" "NoText" f_q7):
  FnX P w K mg base 5 "read_patterns" "NoText" f_q6:=by
 have h:=fnX_of (P:=P) (w:=w) (base:=base) (C:="NoText") (k:=4) (g:=g_q6) F sc_q6 hb hm hns (by decide) fun cdv A outer s H E hr=>by
  exact @d_q6 (cxOf (CX1 P w K "NoText") P w K mg base N_q6 "read_patterns" (aa s_q6) f cdv A outer s H E) (hasX1 sc_q6.nd) (fun _=>rfl) ⟨rfl,rfl⟩ hr T F_qd F_q8 F_q7
 exact h
theorem sc_q9:FnScope N_q9 (["word","body"]:List Str) (aa s_q9):=⟨rfl,rfl,rfl,by decide +kernel,rfl,by decide +kernel,by decide +kernel⟩
theorem d_q9 {X:Cx}(hX:Has X N_q9 (aa s_q9)) (hf:∀x,X.fn x=true) (hst:X.stack=X.env::X.outer∧X.env.frame=some X.env.locals) (hr:Room 3 X.A) (T:Txt X.K X.mg) (F_q0:FnM X.prog X.w X.K X.mg X.base 1 "letters_of" f_q0) (F_qd:FnX X.prog X.w X.K X.mg X.base 1 "demand" "NoText" f_qd) (F_q8:FnX X.prog X.w X.K X.mg X.base 3 "read_term" "NoText" f_q8):
  DSsx X "NoText" (ai s_q9) g_q9:=by
 have hu:=hr.units
 obtain⟨c_NoText,c_MustError,c_NoRow,e_NoText,e_MustError,e_NoRow,hsub,herr,k_NoText,k_ValueError,k_NoRow⟩:=T.err
 have n0:Nm X 0 "word":=hX.nm (by decide +kernel)
 have n1:Nm X 1 "body":=hX.nm (by decide +kernel)
 have n2:Nm X 2 "term":=hX.nm (by decide +kernel)
 have l2:Lc X 2 "term":=hX.lc hf (by decide +kernel)
 have gg_qd:Gb X "demand":=hX.gb (by decide +kernel)
 have gg_q0:Gb X "letters_of":=hX.gb (by decide +kernel)
 have gg_q8:Gb X "read_term":=hX.gb (by decide +kernel)
 refine @dssx_cons _ _ _ _ _ _ (@dsx_set' _ _ _ _ _ _ _ _ hX.nd l2 (DEc.toX (dec_call' F_q8 (hr.mono (by decide)) gg_q8 (ac (nv false n0) (ag)))) (by rfl)) ?_
 refine @dssx_cons _ _ _ _ _ _ (@dsx_expr _ _ _ _ _ (DEc.toX (dec_call' F_qd (hr.mono (by decide)) gg_qd (ac (de_or (mm:=false) (de_eq (mm:=false) hu (de_ix (nv false n2) (ae (m:=false))) (am (m:=false))) (de_one (de_in (mm:=false) hu (de_ix (nv false n2) (ae (m:=false))) (DF.share (m:=false) (df_call' F_q0 (hr.mono (by decide)) gg_q0 (ac (nv false n1) (ag))))))) (ac (am (m:=false)) (ag))))) (by rfl)) ?_
 refine' @dssx_one _ _ _ _ ?z74
 case z74=>
  exact @dsx_up _ _ _ _ (@ds_ret _ _ _ _ (@nv _ _ _ _ false n2))
theorem m_q9 {f:Addr}{fd:FuncData}(F:Fun K "read_known_term" "read_known_term" s_q9 f fd) (hb:Binds K fd (["word","body"]:List Str) []) (hm:mg "read_known_term"=some (.ref f)) (hns:PySem.W.nsIn K mainGlobals "read_known_term"=some (some (.ref f))) (T:Txt K mg) (F_q0:FnM P w K mg base 1 "letters_of" f_q0) (F_qd:FnX P w K mg base 1 "demand" "NoText" f_qd) (F_q8:FnX P w K mg base 3 "read_term" "NoText" f_q8):
  FnX P w K mg base 4 "read_known_term" "NoText" f_q9:=by
 have h:=fnX_of (P:=P) (w:=w) (base:=base) (C:="NoText") (k:=3) (g:=g_q9) F sc_q9 hb hm hns (by decide) fun cdv A outer s H E hr=>by
  exact @d_q9 (cxOf (CX1 P w K "NoText") P w K mg base N_q9 "read_known_term" (aa s_q9) f cdv A outer s H E) (hasX1 sc_q9.nd) (fun _=>rfl) ⟨rfl,rfl⟩ hr T F_q0 F_qd F_q8
 exact h
theorem sc_q5:FnScope N_q5 (["text"]:List Str) (aa s_q5):=⟨rfl,rfl,rfl,by decide +kernel,rfl,by decide +kernel,by decide +kernel⟩
theorem d_q5 {X:Cx}(hX:Has X N_q5 (aa s_q5)) (hf:∀x,X.fn x=true) (hst:X.stack=X.env::X.outer∧X.env.frame=some X.env.locals) (hr:Room 5 X.A) (T:Txt X.K X.mg) (F_qd:FnX X.prog X.w X.K X.mg X.base 1 "demand" "NoText" f_qd) (F_qc:FnX X.prog X.w X.K X.mg X.base 2 "demand_text" "NoText" f_qc) (F_q6:FnX X.prog X.w X.K X.mg X.base 5 "read_patterns" "NoText" f_q6) (F_q9:FnX X.prog X.w X.K X.mg X.base 4 "read_known_term" "NoText" f_q9):
  DSsx X "NoText" (ai s_q5) g_q5:=by
 have hu:=hr.units
 obtain⟨c_NoText,c_MustError,c_NoRow,e_NoText,e_MustError,e_NoRow,hsub,herr,k_NoText,k_ValueError,k_NoRow⟩:=T.err
 have n0:Nm X 0 "text":=hX.nm (by decide +kernel)
 have n1:Nm X 1 "sides":=hX.nm (by decide +kernel)
 have l1:Lc X 1 "sides":=hX.lc hf (by decide +kernel)
 have n2:Nm X 2 "body":=hX.nm (by decide +kernel)
 have l2:Lc X 2 "body":=hX.lc hf (by decide +kernel)
 have n3:Nm X 3 "terms":=hX.nm (by decide +kernel)
 have l3:Lc X 3 "terms":=hX.lc hf (by decide +kernel)
 have gg_qd:Gb X "demand":=hX.gb (by decide +kernel)
 have gg_qc:Gb X "demand_text":=hX.gb (by decide +kernel)
 have gg_len:Gb X "len":=hX.gb (by decide +kernel)
 have gg_q9:Gb X "read_known_term":=hX.gb (by decide +kernel)
 have gg_q6:Gb X "read_patterns":=hX.gb (by decide +kernel)
 refine @dssx_cons _ _ _ _ _ _ (@dsx_expr _ _ _ _ _ (DEc.toX (dec_call' F_qc (hr.mono (by decide)) gg_qc (ac (nv false n0) (ag)))) (by rfl)) ?_
 refine' @dssx_cons _ _ _ _ _ _ ?z75 ?_
 case z75=>
  refine' @dsx_up _ _ _ _ ?z76
  case z76=>
   exact @ds_set' _ _ _ _ _ _ _ hX.nd l1 (@de_part _ false false false _ _ _ _ _ _ (@nv _ _ _ _ false n0) (@am _ false _ _ _) (by rfl) (by rfl) (by rfl) (by rfl)) (by rfl)
 refine' @dssx_cons _ _ _ _ _ _ ?z77 ?_
 case z77=>
  refine' @dsx_setF _ _ _ _ _ _ _ _ hX.nd l2 ?z78 (by rfl)
  case z78=>
   refine' @dfx_call _ _ _ _ _ _ _ _ _ _ F_q6 (hr.mono (by decide)) gg_q6 ?z79 (by rfl) (by rfl)
   case z79=>
    exact @ac _ false _ _ _ _ (@de_ix _ false false _ _ _ _ _ (@nv _ _ _ _ false n1) (@ae _ false _ _ _) (by exact fun _ _=>rfl)) (@ag _ _) (by rfl)
 refine' @dssx_cons _ _ _ _ _ _ ?z80 ?_
 case z80=>
  refine' @dsx_up _ _ _ _ ?z81
  case z81=>
   refine' @ds_set' _ _ _ _ _ _ _ hX.nd l3 ?z82 (by rfl)
   case z82=>
    refine' @DF.share _ false _ _ ?z83
    case z83=>
     exact @df_split _ false false _ _ _ _ _ _ (@de_ix _ false false _ _ _ _ _ (@nv _ _ _ _ false n1) (@ae _ false _ _ _) (by exact fun _ _=>rfl)) (@am _ false _ _ _) (by rfl) (by rfl) (by rfl) (by rfl)
 refine' @dssx_cons _ _ _ _ _ _ (@dsx_if _ _ _ _ _ _ _ _ _ ?z84 ?_ ?_) ?_
 case z84=>
  exact @dt_eq _ false false _ _ _ _ _ hu (@de_len' _ false false _ _ _ _ gg_len T.b_len (@nv _ _ _ _ false n3) (by rfl)) (@ae _ false _ _ _)
 ·refine' @dssx_one _ _ _ _ ?z85
  case z85=>
   refine' @dsx_retT _ _ _ _ _ _ _ ?z86
   case z86=>
    refine' @dnax_val _ _ _ _ _ _ (@dex_up _ _ false _ _ (@am _ false _ _ _)) ?z87 (by rfl)
    case z87=>
     refine' @dnax_own _ _ _ _ _ _ _ n2 ?z88 (by rfl)
     case z88=>
      refine' @dnax_new _ _ _ _ _ _ ?z89 (@dnax_up _ _ _ _ dna_nil) (by rfl)
      case z89=>
       refine' @dfx_call _ _ _ _ _ _ _ _ _ _ F_q6 (hr.mono (by decide)) gg_q6 ?z90 (by rfl) (by rfl)
       case z90=>
        exact @ac _ false _ _ _ _ (@de_ix _ false false _ _ _ _ _ (@nv _ _ _ _ false n1) (@ae _ false _ _ _) (by exact fun _ _=>rfl)) (@ag _ _) (by rfl)
 ·exact @dssx_nil _ _
 refine @dssx_cons _ _ _ _ _ _ (@dsx_expr _ _ _ _ _ (DEc.toX (dec_call' F_qd (hr.mono (by decide)) gg_qd (ac (de_eq (mm:=false) hu (de_len' (mm:=false) gg_len T.b_len (nv false n3)) (ae (m:=false))) (ac (am (m:=false)) (ag))))) (by rfl)) ?_
 refine' @dssx_one _ _ _ _ ?z91
 case z91=>
  refine' @dsx_retT _ _ _ _ _ _ _ ?z92
  case z92=>
   refine' @dnax_val _ _ _ _ _ _ (@dex_up _ _ false _ _ (@am _ false _ _ _)) ?z93 (by rfl)
   case z93=>
    refine' @dnax_own _ _ _ _ _ _ _ n2 ?z94 (by rfl)
    case z94=>
     exact @dnax_val _ _ _ _ _ _ (@dex_flat _ _ _ _ _ (DEc.toX (dec_call' F_q9 (hr.mono (by decide)) gg_q9 (ac (de_ix (nv true n3) (ae (m:=false))) (ac (nv true n2) (ag)))))) (@dnax_val _ _ _ _ _ _ (@dex_flat _ _ _ _ _ (DEc.toX (dec_call' F_q9 (hr.mono (by decide)) gg_q9 (ac (de_ix (nv true n3) (ae (m:=false))) (ac (nv true n2) (ag)))))) (@dnax_up _ _ _ _ dna_nil) (by rfl)) (by rfl)
theorem m_q5 {f:Addr}{fd:FuncData}(F:Fun K "read_rule" "read_rule" s_q5 f fd) (hb:Binds K fd (["text"]:List Str) []) (hm:mg "read_rule"=some (.ref f)) (hns:PySem.W.nsIn K mainGlobals "read_rule"=some (some (.ref f))) (T:Txt K mg) (F_qd:FnX P w K mg base 1 "demand" "NoText" f_qd) (F_qc:FnX P w K mg base 2 "demand_text" "NoText" f_qc) (F_q6:FnX P w K mg base 5 "read_patterns" "NoText" f_q6) (F_q9:FnX P w K mg base 4 "read_known_term" "NoText" f_q9):
  FnX P w K mg base 6 "read_rule" "NoText" f_q5:=by
 have h:=fnX_of (P:=P) (w:=w) (base:=base) (C:="NoText") (k:=5) (g:=g_q5) F sc_q5 hb hm hns (by decide) fun cdv A outer s H E hr=>by
  exact @d_q5 (cxOf (CX1 P w K "NoText") P w K mg base N_q5 "read_rule" (aa s_q5) f cdv A outer s H E) (hasX1 sc_q5.nd) (fun _=>rfl) ⟨rfl,rfl⟩ hr T F_qd F_qc F_q6 F_q9
 exact h
theorem sc_qe:FnScope N_qe (["_law_cell","_law_j"]:List Str) (aa s_qe):=⟨rfl,rfl,rfl,by decide +kernel,rfl,by decide +kernel,by decide +kernel⟩
theorem d_qe {X:Cx}(hX:Has X N_qe (aa s_qe)) (hf:∀x,X.fn x=true) (hp:PassesOwn (model X.prog X.w) X.A X.env X.xe) (hr:Room 0 X.A) (T:Txt X.K X.mg):
  DSs X (ai s_qe) g_qe:=by
 have hu:=hr.units
 have n0:Nm X 0 "_law_cell":=hX.nm (by decide +kernel)
 have n1:Nm X 1 "_law_j":=hX.nm (by decide +kernel)
 have n2:Nm X 2 "_law_number":=hX.nm (by decide +kernel)
 have l2:Lc X 2 "_law_number":=hX.lc hf (by decide +kernel)
 refine' @ad _ _ _ _ _ ?z95 ?_
 case z95=>
  refine' @ds_set' _ _ _ _ _ _ _ hX.nd l2 ?z96 (by rfl)
  case z96=>
   refine' @de_mod _ false false _ _ _ _ _ false ?z97 (@ae _ false _ _ _)
   case z97=>
    refine' @de_add _ false false _ _ _ _ _ false ?z98 (@nv _ _ _ _ false n1)
    case z98=>
     refine' @de_mul _ false false _ _ _ _ _ false (@nv _ _ _ _ false n0) ?z99
     case z99=>
      exact @de_add _ false false _ _ _ _ _ false (@de_mul _ false false _ _ _ _ _ false (@ae _ false _ _ _) (@nv _ _ _ _ false n1)) (@ae _ false _ _ _)
 refine' @ak _ _ _ ?z100
 case z100=>
  refine' @ds_ret _ _ _ _ ?z101
  case z101=>
   refine' @de_mod _ false false _ _ _ _ _ false ?z102 (@ae _ false _ _ _)
   case z102=>
    refine' @de_mul _ false false _ _ _ _ _ false ?z103 (@ae _ false _ _ _)
    case z103=>
     exact @de_add _ false false _ _ _ _ _ false (@de_mul _ false false _ _ _ _ _ false (@nv _ _ _ _ false n2) (@nv _ _ _ _ false n2)) (@ae _ false _ _ _)
theorem m_qe {f:Addr}{fd:FuncData}(F:Fun K "_law_mix" "_law_mix" s_qe f fd) (hb:Binds K fd (["_law_cell","_law_j"]:List Str) []) (hm:mg "_law_mix"=some (.ref f)) (T:Txt K mg):
  FnOk P w K mg base CX0 1 f fd (["_law_cell","_law_j"]:List Str) (spM K f_qe)∧FnM P w K mg base 1 "_law_mix" f_qe:=by
 have h:=fnM_of (P:=P) (w:=w) (base:=base) (k:=0) (g:=g_qe) F sc_qe hb hm (by decide) fun cdv A outer s H E hr=>by
  exact @d_qe ((cxOf CX0 P w K mg base N_qe "_law_mix" (aa s_qe) f cdv A outer s H E).nox) (hasX sc_qe.nd) (fun _=>rfl) PassesOwn.never hr T
 exact h
theorem sc_qf:FnScope N_qf (["_law_cell","_law_far"]:List Str) (aa s_qf):=⟨rfl,rfl,rfl,by decide +kernel,rfl,by decide +kernel,by decide +kernel⟩
theorem d_qf {X:Cx}(hX:Has X N_qf (aa s_qf)) (hf:∀x,X.fn x=true) (hp:PassesOwn (model X.prog X.w) X.A X.env X.xe) (hr:Room 1 X.A) (T:Txt X.K X.mg) (F_qe:FnM X.prog X.w X.K X.mg X.base 1 "_law_mix" f_qe):
  DSs X (ai s_qf) g_qf:=by
 have hu:=hr.units
 have n0:Nm X 0 "_law_cell":=hX.nm (by decide +kernel)
 have n1:Nm X 1 "_law_far":=hX.nm (by decide +kernel)
 have l2:Lc X 2 "_law_letters_here":=hX.lc hf (by decide +kernel)
 have n3:Nm X 3 "_law_size":=hX.nm (by decide +kernel)
 have l3:Lc X 3 "_law_size":=hX.lc hf (by decide +kernel)
 have gg_qe:Gb X "_law_mix":=hX.gb (by decide +kernel)
 have gg_range:Gb X "range":=hX.gb (by decide +kernel)
 refine @ad _ _ _ _ _ (@ds_set' _ _ _ _ _ _ _ hX.nd l2 (@am _ false _ _ _) (by rfl)) ?_
 refine' @ad _ _ _ _ _ ?z104 ?_
 case z104=>
  refine' @ds_set' _ _ _ _ _ _ _ hX.nd l3 ?z105 (by rfl)
  case z105=>
   refine' @de_ix _ false false _ _ _ _ _ ?z106 ?z107 (by exact fun _ _=>rfl)
   case z106=>
    exact @DF.share _ false _ _ (@df_lst _ _ _ _ (@da_consts _ false _ ([(.int 1),(.int 1),(.int 2),(.int 3),(.int 4),(.int 5),(.int 6),(.int 7),(.int 8)]) (by rfl)))
   case z107=>
    refine' @de_mod _ false false _ _ _ _ _ false ?z108 (@ae _ false _ _ _)
    case z108=>
     refine' @al _ false _ _ _ _ _ _ _ _ F_qe (hr.mono (by decide)) gg_qe ?z109 (by rfl) (by rfl)
     case z109=>
      exact @ac _ false _ _ _ _ (@nv _ _ _ _ false n0) (@ac _ false _ _ _ _ (@nv _ _ _ _ false n1) (@ag _ _) (by rfl)) (by rfl)
 refine' @ak _ _ _ ?z110
 case z110=>
  refine' @ds_ret _ _ _ _ ?z111
  case z111=>
   refine' @de_join _ false false false _ _ _ _ _ _ (@am _ false _ _ _) ?z112 (by rfl) (by rfl) (by rfl) (by rfl)
   case z112=>
    refine' @DF.share _ false _ _ ?z113
    case z113=>
     refine' @df_comp _ _ _ _ _ _ _ _ _ _ _ _ hX.calm (anew_name 4) (@di_rng1 _ false false _ _ _ _ _ gg_range.gl T.b_range (@nv _ _ _ _ false n3) (by rfl)) (CompScope.of' hX (by decide +kernel)) (fun cl C s₂ H₂ ex pn=>@dg_name' _ _ _ _ (hX.comp _ cl C s₂ H₂ ex pn).nd ((hX.comp _ cl C s₂ H₂ ex pn).lcl (i:=4) (by decide +kernel))) (fun cl C s₂ H₂ ex pn=>@dts_nil _) ?z114 (by intro _;rfl)
     case z114=>
      intro cl C s₂ H₂ ex pn
      refine' @de_ixS _ false false false _ _ _ _ _ (@nv _ _ _ _ false ((hX.comp _ cl C s₂ H₂ ex pn).nm (i:=2) (by decide +kernel))) ?z115 (by exact fun _ _=>rfl)
      case z115=>
       refine' @de_mod _ false false _ _ _ _ _ false ?z116 (@ae _ false _ _ _)
       case z116=>
        refine' @al _ false _ _ _ _ _ _ _ _ F_qe (hr.mono (by decide)) ((hX.comp _ cl C s₂ H₂ ex pn).gb (x:="_law_mix") (by decide +kernel)) ?z117 (by rfl) (by rfl)
        case z117=>
         refine' @ac _ false _ _ _ _ (@nv _ _ _ _ false ((hX.comp _ cl C s₂ H₂ ex pn).nm (i:=0) (by decide +kernel))) ?z118 (by rfl)
         case z118=>
          refine' @ac _ false _ _ _ _ ?z119 (@ag _ _) (by rfl)
          case z119=>
           exact @de_add _ false false _ _ _ _ _ false (@de_add _ false false _ _ _ _ _ false (@nv _ _ _ _ false ((hX.comp _ cl C s₂ H₂ ex pn).nm (i:=1) (by decide +kernel))) (@ae _ false _ _ _)) (@nv _ _ _ _ false ((hX.comp _ cl C s₂ H₂ ex pn).nm (i:=4) (by decide +kernel)))
theorem m_qf {f:Addr}{fd:FuncData}(F:Fun K "_law_name" "_law_name" s_qf f fd) (hb:Binds K fd (["_law_cell","_law_far"]:List Str) []) (hm:mg "_law_name"=some (.ref f)) (T:Txt K mg) (F_qe:FnM P w K mg base 1 "_law_mix" f_qe):
  FnOk P w K mg base CX0 2 f fd (["_law_cell","_law_far"]:List Str) (spM K f_qf)∧FnM P w K mg base 2 "_law_name" f_qf:=by
 have h:=fnM_of (P:=P) (w:=w) (base:=base) (k:=1) (g:=g_qf) F sc_qf hb hm (by decide) fun cdv A outer s H E hr=>by
  exact @d_qf ((cxOf CX0 P w K mg base N_qf "_law_name" (aa s_qf) f cdv A outer s H E).nox) (hasX sc_qf.nd) (fun _=>rfl) PassesOwn.never hr T F_qe
 exact h
theorem sc_qg:FnScope N_qg (["_law_cell"]:List Str) (aa s_qg):=⟨rfl,rfl,rfl,by decide +kernel,rfl,by decide +kernel,by decide +kernel⟩
theorem d_qg {X:Cx}(hX:Has X N_qg (aa s_qg)) (hf:∀x,X.fn x=true) (hp:PassesOwn (model X.prog X.w) X.A X.env X.xe) (hr:Room 1 X.A) (T:Txt X.K X.mg) (F_qe:FnM X.prog X.w X.K X.mg X.base 1 "_law_mix" f_qe):
  DSs X (ai s_qg) g_qg:=by
 have hu:=hr.units
 have n0:Nm X 0 "_law_cell":=hX.nm (by decide +kernel)
 have l1:Lc X 1 "_law_letters_here":=hX.lc hf (by decide +kernel)
 have l2:Lc X 2 "_law_step":=hX.lc hf (by decide +kernel)
 have gg_qe:Gb X "_law_mix":=hX.gb (by decide +kernel)
 have gg_range:Gb X "range":=hX.gb (by decide +kernel)
 refine @ad _ _ _ _ _ (@ds_set' _ _ _ _ _ _ _ hX.nd l1 (@am _ false _ _ _) (by rfl)) ?_
 refine' @ad _ _ _ _ _ ?z120 ?_
 case z120=>
  refine' @ds_set' _ _ _ _ _ _ _ hX.nd l2 ?z121 (by rfl)
  case z121=>
   refine' @de_ix _ false false _ _ _ _ _ ?z122 ?z123 (by exact fun _ _=>rfl)
   case z122=>
    exact @DF.share _ false _ _ (@df_lst _ _ _ _ (@da_consts _ false _ ([(.int 1),(.int 3),(.int 5),(.int 7),(.int 9),(.int 11)]) (by rfl)))
   case z123=>
    refine' @de_mod _ false false _ _ _ _ _ false ?z124 (@ae _ false _ _ _)
    case z124=>
     refine' @al _ false _ _ _ _ _ _ _ _ F_qe (hr.mono (by decide)) gg_qe ?z125 (by rfl) (by rfl)
     case z125=>
      exact @ac _ false _ _ _ _ (@nv _ _ _ _ false n0) (@ac _ false _ _ _ _ (@ae _ false _ _ _) (@ag _ _) (by rfl)) (by rfl)
 refine' @ak _ _ _ ?z126
 case z126=>
  refine' @ds_retF _ _ _ _ ?z127
  case z127=>
   refine' @df_comp _ _ _ _ _ _ _ _ _ _ _ _ hX.calm (anew_name 3) (@di_rng1 _ false false _ _ _ _ _ gg_range.gl T.b_range (@ae _ false _ _ _) (by rfl)) (CompScope.of' hX (by decide +kernel)) (fun cl C s₂ H₂ ex pn=>@dg_name' _ _ _ _ (hX.comp _ cl C s₂ H₂ ex pn).nd ((hX.comp _ cl C s₂ H₂ ex pn).lcl (i:=3) (by decide +kernel))) (fun cl C s₂ H₂ ex pn=>@dts_nil _) ?z128 (by intro _;rfl)
   case z128=>
    intro cl C s₂ H₂ ex pn
    refine' @de_ixS _ false false false _ _ _ _ _ (@nv _ _ _ _ false ((hX.comp _ cl C s₂ H₂ ex pn).nm (i:=1) (by decide +kernel))) ?z129 (by exact fun _ _=>rfl)
    case z129=>
     refine' @de_mod _ false false _ _ _ _ _ false ?z130 (@ae _ false _ _ _)
     case z130=>
      refine' @de_add _ false false _ _ _ _ _ false ?z131 (@de_mul _ false false _ _ _ _ _ false (@nv _ _ _ _ false ((hX.comp _ cl C s₂ H₂ ex pn).nm (i:=2) (by decide +kernel))) (@nv _ _ _ _ false ((hX.comp _ cl C s₂ H₂ ex pn).nm (i:=3) (by decide +kernel))))
      case z131=>
       refine' @al _ false _ _ _ _ _ _ _ _ F_qe (hr.mono (by decide)) ((hX.comp _ cl C s₂ H₂ ex pn).gb (x:="_law_mix") (by decide +kernel)) ?z132 (by rfl) (by rfl)
       case z132=>
        exact @ac _ false _ _ _ _ (@nv _ _ _ _ false ((hX.comp _ cl C s₂ H₂ ex pn).nm (i:=0) (by decide +kernel))) (@ac _ false _ _ _ _ (@ae _ false _ _ _) (@ag _ _) (by rfl)) (by rfl)
theorem m_qg {f:Addr}{fd:FuncData}(F:Fun K "_law_letters" "_law_letters" s_qg f fd) (hb:Binds K fd (["_law_cell"]:List Str) []) (hm:mg "_law_letters"=some (.ref f)) (T:Txt K mg) (F_qe:FnM P w K mg base 1 "_law_mix" f_qe):
  FnOk P w K mg base CX0 2 f fd (["_law_cell"]:List Str) (spM K f_qg)∧FnM P w K mg base 2 "_law_letters" f_qg:=by
 have h:=fnM_of (P:=P) (w:=w) (base:=base) (k:=1) (g:=g_qg) F sc_qg hb hm (by decide) fun cdv A outer s H E hr=>by
  exact @d_qg ((cxOf CX0 P w K mg base N_qg "_law_letters" (aa s_qg) f cdv A outer s H E).nox) (hasX sc_qg.nd) (fun _=>rfl) PassesOwn.never hr T F_qe
 exact h
theorem sc_qh:FnScope N_qh (["_law_cell","_law_far"]:List Str) (aa s_qh):=⟨rfl,rfl,rfl,by decide +kernel,rfl,by decide +kernel,by decide +kernel⟩
theorem d_qh {X:Cx}(hX:Has X N_qh (aa s_qh)) (hf:∀x,X.fn x=true) (hp:PassesOwn (model X.prog X.w) X.A X.env X.xe) (hr:Room 2 X.A) (T:Txt X.K X.mg) (F_qe:FnM X.prog X.w X.K X.mg X.base 1 "_law_mix" f_qe) (F_qf:FnM X.prog X.w X.K X.mg X.base 2 "_law_name" f_qf) (F_qg:FnM X.prog X.w X.K X.mg X.base 2 "_law_letters" f_qg):
  DSs X (ai s_qh) g_qh:=by
 have hu:=hr.units
 have n0:Nm X 0 "_law_cell":=hX.nm (by decide +kernel)
 have n1:Nm X 1 "_law_far":=hX.nm (by decide +kernel)
 have n2:Nm X 2 "_law_letters_here":=hX.nm (by decide +kernel)
 have l2:Lc X 2 "_law_letters_here":=hX.lc hf (by decide +kernel)
 have n3:Nm X 3 "_law_found":=hX.nm (by decide +kernel)
 have l3:Lc X 3 "_law_found":=hX.lc hf (by decide +kernel)
 have n4:Nm X 4 "_law_k":=hX.nm (by decide +kernel)
 have l4:Lc X 4 "_law_k":=hX.lc hf (by decide +kernel)
 have n5:Nm X 5 "_law_terms":=hX.nm (by decide +kernel)
 have l5:Lc X 5 "_law_terms":=hX.lc hf (by decide +kernel)
 have n6:Nm X 6 "_law_j":=hX.nm (by decide +kernel)
 have l6:Lc X 6 "_law_j":=hX.lc hf (by decide +kernel)
 have n7:Nm X 7 "_law_drawn":=hX.nm (by decide +kernel)
 have l7:Lc X 7 "_law_drawn":=hX.lc hf (by decide +kernel)
 have gg_qg:Gb X "_law_letters":=hX.gb (by decide +kernel)
 have gg_qe:Gb X "_law_mix":=hX.gb (by decide +kernel)
 have gg_qf:Gb X "_law_name":=hX.gb (by decide +kernel)
 have gg_range:Gb X "range":=hX.gb (by decide +kernel)
 have gg_tuple:Gb X "tuple":=hX.gb (by decide +kernel)
 refine' @ad _ _ _ _ _ ?z133 ?_
 case z133=>
  refine' @ds_set' _ _ _ _ _ _ _ hX.nd l2 ?z134 (by rfl)
  case z134=>
   refine' @DF.share _ false _ _ ?z135
   case z135=>
    exact @df_call' _ _ _ _ _ _ _ _ _ F_qg (hr.mono (by decide)) gg_qg (@ac _ false _ _ _ _ (@nv _ _ _ _ false n0) (@ag _ _) (by rfl)) (by rfl) (by rfl)
 refine' @ad _ _ _ _ _ ?z136 ?_
 case z136=>
  exact @ds_setF' _ _ _ _ _ _ _ hX.nd l3 (@df_lst _ _ _ _ (@ag _ _)) (by rfl)
 refine' @ad _ _ _ _ _ (@ds_for _ _ _ _ _ _ b_qh_3 _ hp hX.calm ?z137 (@dg_name' _ _ _ _ hX.nd l4) ?_ (by intro _;rfl)) ?_
 case z137=>
  refine' @di_rng1 _ false false _ _ _ _ _ gg_range.gl T.b_range ?z138 (by rfl)
  case z138=>
   refine' @de_ix _ false false _ _ _ _ _ ?z139 ?z140 (by exact fun _ _=>rfl)
   case z139=>
    exact @DF.share _ false _ _ (@df_lst _ _ _ _ (@da_consts _ false _ ([(.int 1),(.int 1),(.int 2),(.int 2),(.int 3),(.int 4)]) (by rfl)))
   case z140=>
    refine' @de_mod _ false false _ _ _ _ _ false ?z141 (@ae _ false _ _ _)
    case z141=>
     refine' @al _ false _ _ _ _ _ _ _ _ F_qe (hr.mono (by decide)) gg_qe ?z142 (by rfl) (by rfl)
     case z142=>
      exact @ac _ false _ _ _ _ (@nv _ _ _ _ false n0) (@ac _ false _ _ _ _ (@nv _ _ _ _ false n1) (@ag _ _) (by rfl)) (by rfl)
 ·refine' @ad _ _ _ _ _ ?z143 ?_
  case z143=>
   exact @ds_setF' _ _ _ _ _ _ _ hX.nd l5 (@df_lst _ _ _ _ (@ag _ _)) (by rfl)
  refine' @ad _ _ _ _ _ (@ds_for _ _ _ _ _ _ b_qh_1 _ hp hX.calm ?z144 (@dg_name' _ _ _ _ hX.nd l6) ?_ (by intro _;rfl)) ?_
  case z144=>
   refine' @di_rng1 _ false false _ _ _ _ _ gg_range.gl T.b_range ?z145 (by rfl)
   case z145=>
    refine' @de_add _ false false _ _ _ _ _ false (@ae _ false _ _ _) ?z146
    case z146=>
     refine' @de_mod _ false false _ _ _ _ _ false ?z147 (@ae _ false _ _ _)
     case z147=>
      refine' @al _ false _ _ _ _ _ _ _ _ F_qe (hr.mono (by decide)) gg_qe ?z148 (by rfl) (by rfl)
      case z148=>
       refine' @ac _ false _ _ _ _ (@nv _ _ _ _ false n0) ?z149 (by rfl)
       case z149=>
        refine' @ac _ false _ _ _ _ ?z150 (@ag _ _) (by rfl)
        case z150=>
         exact @de_add _ false false _ _ _ _ _ false (@de_add _ false false _ _ _ _ _ false (@nv _ _ _ _ false n1) (@ae _ false _ _ _)) (@nv _ _ _ _ false n4)
  ·refine' @ad _ _ _ _ _ ?z151 ?_
   case z151=>
    refine' @ds_set' _ _ _ _ _ _ _ hX.nd l7 ?z152 (by rfl)
    case z152=>
     refine' @al _ false _ _ _ _ _ _ _ _ F_qe (hr.mono (by decide)) gg_qe ?z153 (by rfl) (by rfl)
     case z153=>
      refine' @ac _ false _ _ _ _ (@nv _ _ _ _ false n0) ?z154 (by rfl)
      case z154=>
       refine' @ac _ false _ _ _ _ ?z155 (@ag _ _) (by rfl)
       case z155=>
        refine' @de_add _ false false _ _ _ _ _ false ?z156 (@nv _ _ _ _ false n6)
        case z156=>
         exact @de_add _ false false _ _ _ _ _ false (@de_add _ false false _ _ _ _ _ false (@nv _ _ _ _ false n1) (@ae _ false _ _ _)) (@de_mul _ false false _ _ _ _ _ false (@ae _ false _ _ _) (@nv _ _ _ _ false n4))
   refine' @ak _ _ _ (@ds_if _ _ _ _ _ _ _ _ ?z157 ?_ ?_)
   case z157=>
    exact @dt_eq _ false false _ _ _ _ _ hu (@de_mod _ false false _ _ _ _ _ false (@nv _ _ _ _ false n7) (@ae _ false _ _ _)) (@ae _ false _ _ _)
   ·refine' @ak _ _ _ ?z158
    case z158=>
     refine' @ds_append' _ _ _ _ _ _ _ _ _ n5 ?z159 (by rfl) (by rfl) (by rfl) (by rfl) (by rfl)
     case z159=>
      refine' @de_tup _ false _ _ _ _ ?z160
      case z160=>
       refine' @ac _ false _ _ _ _ (@am _ false _ _ _) ?z161 (by rfl)
       case z161=>
        refine' @ac _ false _ _ _ _ ?z162 (@ag _ _) (by rfl)
        case z162=>
         refine' @al _ false _ _ _ _ _ _ _ _ F_qf (hr.mono (by decide)) gg_qf ?z163 (by rfl) (by rfl)
         case z163=>
          refine' @ac _ false _ _ _ _ (@nv _ _ _ _ false n0) ?z164 (by rfl)
          case z164=>
           refine' @ac _ false _ _ _ _ ?z165 (@ag _ _) (by rfl)
           case z165=>
            exact @de_add _ false false _ _ _ _ _ false (@de_add _ false false _ _ _ _ _ false (@nv _ _ _ _ false n1) (@ae _ false _ _ _)) (@de_mul _ false false _ _ _ _ _ false (@ae _ false _ _ _) (@nv _ _ _ _ false n6))
   ·refine' @ak _ _ _ ?z166
    case z166=>
     refine' @ds_append' _ _ _ _ _ _ _ _ _ n5 ?z167 (by rfl) (by rfl) (by rfl) (by rfl) (by rfl)
     case z167=>
      refine' @de_tup _ false _ _ _ _ ?z168
      case z168=>
       refine' @ac _ false _ _ _ _ (@am _ false _ _ _) ?z169 (by rfl)
       case z169=>
        refine' @ac _ false _ _ _ _ ?z170 (@ag _ _) (by rfl)
        case z170=>
         refine' @de_ix _ false false _ _ _ _ _ (@nv _ _ _ _ false n2) ?z171 (by exact fun _ _=>rfl)
         case z171=>
          exact @de_mod _ false false _ _ _ _ _ false (@de_div _ false false _ _ _ _ _ false (@nv _ _ _ _ false n7) (@ae _ false _ _ _)) (@ae _ false _ _ _)
  refine @dss_frz _ k_qh_2 _ 5 ?_
  refine' @ak _ _ _ ?z172
  case z172=>
   refine' @ds_append' _ _ _ _ _ _ _ _ _ n3 ?z173 (by rfl) (by rfl) (by rfl) (by rfl) (by rfl)
   case z173=>
    refine' @de_tup _ false _ _ _ _ ?z174
    case z174=>
     refine' @ac _ false _ _ _ _ ?z175 ?z176 (by rfl)
     case z175=>
      refine' @al _ false _ _ _ _ _ _ _ _ F_qf (hr.mono (by decide)) gg_qf ?z177 (by rfl) (by rfl)
      case z177=>
       refine' @ac _ false _ _ _ _ (@nv _ _ _ _ false n0) ?z178 (by rfl)
       case z178=>
        refine' @ac _ false _ _ _ _ ?z179 (@ag _ _) (by rfl)
        case z179=>
         exact @de_add _ false false _ _ _ _ _ false (@de_add _ false false _ _ _ _ _ false (@nv _ _ _ _ false n1) (@ae _ false _ _ _)) (@de_mul _ false false _ _ _ _ _ false (@ae _ false _ _ _) (@nv _ _ _ _ false n4))
     case z176=>
      exact @ac _ false _ _ _ _ (@de_tuple _ false _ _ _ _ gg_tuple.gl T.b_tuple (@nv _ _ _ _ false n5) (by rfl)) (@ag _ _) (by rfl)
 refine @ak _ _ _ (@ds_retv' _ _ _ _ _ n3)
theorem m_qh {f:Addr}{fd:FuncData}(F:Fun K "_law_body" "_law_body" s_qh f fd) (hb:Binds K fd (["_law_cell","_law_far"]:List Str) []) (hm:mg "_law_body"=some (.ref f)) (T:Txt K mg) (F_qe:FnM P w K mg base 1 "_law_mix" f_qe) (F_qf:FnM P w K mg base 2 "_law_name" f_qf) (F_qg:FnM P w K mg base 2 "_law_letters" f_qg):
  FnOk P w K mg base CX0 3 f fd (["_law_cell","_law_far"]:List Str) (spM K f_qh)∧FnM P w K mg base 3 "_law_body" f_qh:=by
 have h:=fnM_of (P:=P) (w:=w) (base:=base) (k:=2) (g:=g_qh) F sc_qh hb hm (by decide) fun cdv A outer s H E hr=>by
  exact @d_qh ((cxOf CX0 P w K mg base N_qh "_law_body" (aa s_qh) f cdv A outer s H E).nox) (hasX sc_qh.nd) (fun _=>rfl) PassesOwn.never hr T F_qe F_qf F_qg
 exact h
theorem sc_qi:FnScope N_qi (["_law_body_here"]:List Str) (aa s_qi):=⟨rfl,rfl,rfl,by decide +kernel,rfl,by decide +kernel,by decide +kernel⟩
theorem d_qi {X:Cx}(hX:Has X N_qi (aa s_qi)) (hf:∀x,X.fn x=true) (hp:PassesOwn (model X.prog X.w) X.A X.env X.xe) (hr:Room 0 X.A) (T:Txt X.K X.mg):
  DSs X (ai s_qi) g_qi:=by
 have hu:=hr.units
 have n0:Nm X 0 "_law_body_here":=hX.nm (by decide +kernel)
 have n1:Nm X 1 "_law_found":=hX.nm (by decide +kernel)
 have l1:Lc X 1 "_law_found":=hX.lc hf (by decide +kernel)
 have l2:Lc X 2 "_law_table":=hX.lc hf (by decide +kernel)
 have n3:Nm X 3 "_law_terms":=hX.nm (by decide +kernel)
 have l3:Lc X 3 "_law_terms":=hX.lc hf (by decide +kernel)
 refine' @ad _ _ _ _ _ ?z180 ?_
 case z180=>
  exact @ds_setF' _ _ _ _ _ _ _ hX.nd l1 (@df_lst _ _ _ _ (@ag _ _)) (by rfl)
 refine' @ad _ _ _ _ _ (@ds_for _ _ _ _ _ _ b_qi_2 _ hp hX.calm (@di_list _ false _ _ _ (@nv _ _ _ _ false n0)) ?z181 ?_ (by intro _;rfl)) ?_
 case z181=>
  refine' @dg_tup _ _ _ _ _ _ hX.calm ?z182 (toCons_len (toCons_len toNil_len)) (by rfl) (by rfl)
  case z182=>
   exact @dgs_cons _ _ _ _ _ (@dg_name' _ _ _ _ hX.nd l2) (@dgs_cons _ _ _ _ _ (@dg_name' _ _ _ _ hX.nd l3) (@dgs_nil _) (by rfl)) (by rfl)
 ·refine' @ak _ _ _ ?z183
  case z183=>
   refine' @ds_extend' _ _ _ _ _ _ _ _ _ n1 ?z184 (by rfl) (by rfl) (by rfl) (by rfl) (by rfl)
   case z184=>
    refine' @df_comp _ _ _ _ _ _ _ _ _ _ _ _ hX.calm (anew_name 4) (@di_tup _ false _ _ _ (@nv _ _ _ _ false n3)) (CompScope.of' hX (by decide +kernel)) (fun cl C s₂ H₂ ex pn=>@dg_name' _ _ _ _ (hX.comp _ cl C s₂ H₂ ex pn).nd ((hX.comp _ cl C s₂ H₂ ex pn).lcl (i:=4) (by decide +kernel))) ?z185 (fun cl C s₂ H₂ ex pn=>@nv _ _ _ _ false ((hX.comp _ cl C s₂ H₂ ex pn).nm (i:=4) (by decide +kernel))) (by intro _;rfl)
    case z185=>
     intro cl C s₂ H₂ ex pn
     refine' @dts_one _ _ _ ?z186
     case z186=>
      exact @dt_eq _ false false _ _ _ _ _ hu (@de_ix _ false false _ _ _ _ _ (@nv _ _ _ _ false ((hX.comp _ cl C s₂ H₂ ex pn).nm (i:=4) (by decide +kernel))) (@ae _ false _ _ _) (by exact fun _ _=>rfl)) (@am _ false _ _ _)
 refine @ak _ _ _ (@ds_retv' _ _ _ _ _ n1)
theorem m_qi {f:Addr}{fd:FuncData}(F:Fun K "_law_unknowns" "_law_unknowns" s_qi f fd) (hb:Binds K fd (["_law_body_here"]:List Str) []) (hm:mg "_law_unknowns"=some (.ref f)) (T:Txt K mg):
  FnOk P w K mg base CX0 1 f fd (["_law_body_here"]:List Str) (spM K f_qi)∧FnM P w K mg base 1 "_law_unknowns" f_qi:=by
 have h:=fnM_of (P:=P) (w:=w) (base:=base) (k:=0) (g:=g_qi) F sc_qi hb hm (by decide) fun cdv A outer s H E hr=>by
  exact @d_qi ((cxOf CX0 P w K mg base N_qi "_law_unknowns" (aa s_qi) f cdv A outer s H E).nox) (hasX sc_qi.nd) (fun _=>rfl) PassesOwn.never hr T
 exact h
theorem sc_qj:FnScope N_qj (["_law_cell"]:List Str) (aa s_qj):=⟨rfl,rfl,rfl,by decide +kernel,rfl,by decide +kernel,by decide +kernel⟩
theorem d_qj {X:Cx}(hX:Has X N_qj (aa s_qj)) (hf:∀x,X.fn x=true) (hp:PassesOwn (model X.prog X.w) X.A X.env X.xe) (hr:Room 3 X.A) (T:Txt X.K X.mg) (F_qe:FnM X.prog X.w X.K X.mg X.base 1 "_law_mix" f_qe) (F_qf:FnM X.prog X.w X.K X.mg X.base 2 "_law_name" f_qf) (F_qh:FnM X.prog X.w X.K X.mg X.base 3 "_law_body" f_qh) (F_qi:FnM X.prog X.w X.K X.mg X.base 1 "_law_unknowns" f_qi):
  DSs X (ai s_qj) g_qj:=by
 have hu:=hr.units
 have n0:Nm X 0 "_law_cell":=hX.nm (by decide +kernel)
 have n1:Nm X 1 "_law_body_here":=hX.nm (by decide +kernel)
 have l1:Lc X 1 "_law_body_here":=hX.lc hf (by decide +kernel)
 have n2:Nm X 2 "_law_some":=hX.nm (by decide +kernel)
 have l2:Lc X 2 "_law_some":=hX.lc hf (by decide +kernel)
 have gg_qh:Gb X "_law_body":=hX.gb (by decide +kernel)
 have gg_qe:Gb X "_law_mix":=hX.gb (by decide +kernel)
 have gg_qf:Gb X "_law_name":=hX.gb (by decide +kernel)
 have gg_qi:Gb X "_law_unknowns":=hX.gb (by decide +kernel)
 have gg_len:Gb X "len":=hX.gb (by decide +kernel)
 refine' @ad _ _ _ _ _ ?z187 ?_
 case z187=>
  refine' @ds_set' _ _ _ _ _ _ _ hX.nd l1 ?z188 (by rfl)
  case z188=>
   refine' @DF.share _ false _ _ ?z189
   case z189=>
    refine' @df_call' _ _ _ _ _ _ _ _ _ F_qh (hr.mono (by decide)) gg_qh ?z190 (by rfl) (by rfl)
    case z190=>
     exact @ac _ false _ _ _ _ (@nv _ _ _ _ false n0) (@ac _ false _ _ _ _ (@ae _ false _ _ _) (@ag _ _) (by rfl)) (by rfl)
 refine' @ad _ _ _ _ _ (@ds_if _ _ _ _ _ _ _ _ ?z191 ?_ ?_) ?_
 case z191=>
  refine' @dt_eq _ false false _ _ _ _ _ hu ?z192 (@ae _ false _ _ _)
  case z192=>
   refine' @de_mod _ false false _ _ _ _ _ false ?z193 (@ae _ false _ _ _)
   case z193=>
    refine' @al _ false _ _ _ _ _ _ _ _ F_qe (hr.mono (by decide)) gg_qe ?z194 (by rfl) (by rfl)
    case z194=>
     exact @ac _ false _ _ _ _ (@nv _ _ _ _ false n0) (@ac _ false _ _ _ _ (@ae _ false _ _ _) (@ag _ _) (by rfl)) (by rfl)
 ·refine' @ak _ _ _ ?z195
  case z195=>
   refine' @ds_ret _ _ _ _ ?z196
   case z196=>
    refine' @de_tup _ false _ _ _ _ ?z197
    case z197=>
     refine' @ac _ false _ _ _ _ (@am _ false _ _ _) ?z198 (by rfl)
     case z198=>
      refine' @ac _ false _ _ _ _ (@nv _ _ _ _ false n1) ?z199 (by rfl)
      case z199=>
       refine' @ac _ false _ _ _ _ ?z200 (@ag _ _) (by rfl)
       case z200=>
        refine' @DF.share _ false _ _ ?z201
        case z201=>
         refine' @df_call' _ _ _ _ _ _ _ _ _ F_qh (hr.mono (by decide)) gg_qh ?z202 (by rfl) (by rfl)
         case z202=>
          exact @ac _ false _ _ _ _ (@nv _ _ _ _ false n0) (@ac _ false _ _ _ _ (@ae _ false _ _ _) (@ag _ _) (by rfl)) (by rfl)
 ·exact @dss_nil _
 refine' @ad _ _ _ _ _ ?z203 ?_
 case z203=>
  refine' @ds_set' _ _ _ _ _ _ _ hX.nd l2 ?z204 (by rfl)
  case z204=>
   refine' @DF.share _ false _ _ ?z205
   case z205=>
    refine' @df_cat _ _ _ _ _ _ ?z206 ?z207
    case z206=>
     refine' @DF.share _ false _ _ ?z208
     case z208=>
      exact @df_call' _ _ _ _ _ _ _ _ _ F_qi (hr.mono (by decide)) gg_qi (@ac _ false _ _ _ _ (@nv _ _ _ _ false n1) (@ag _ _) (by rfl)) (by rfl) (by rfl)
    case z207=>
     refine' @DF.share _ false _ _ ?z209
     case z209=>
      refine' @df_lst _ _ _ _ ?z210
      case z210=>
       refine' @ac _ false _ _ _ _ ?z211 (@ag _ _) (by rfl)
       case z211=>
        refine' @de_tup _ false _ _ _ _ ?z212
        case z212=>
         refine' @ac _ false _ _ _ _ (@am _ false _ _ _) ?z213 (by rfl)
         case z213=>
          refine' @ac _ false _ _ _ _ ?z214 (@ag _ _) (by rfl)
          case z214=>
           refine' @al _ false _ _ _ _ _ _ _ _ F_qf (hr.mono (by decide)) gg_qf ?z215 (by rfl) (by rfl)
           case z215=>
            exact @ac _ false _ _ _ _ (@nv _ _ _ _ false n0) (@ac _ false _ _ _ _ (@ae _ false _ _ _) (@ag _ _) (by rfl)) (by rfl)
 refine' @ak _ _ _ ?z216
 case z216=>
  refine' @ds_ret _ _ _ _ ?z217
  case z217=>
   refine' @de_tup _ false _ _ _ _ ?z218
   case z218=>
    refine' @ac _ false _ _ _ _ (@am _ false _ _ _) ?z219 (by rfl)
    case z219=>
     refine' @ac _ false _ _ _ _ (@nv _ _ _ _ false n1) ?z220 (by rfl)
     case z220=>
      refine' @ac _ false _ _ _ _ ?z221 ?z222 (by rfl)
      case z221=>
       refine' @de_ix _ false false _ _ _ _ _ (@nv _ _ _ _ false n2) ?z223 (by exact fun _ _=>rfl)
       case z223=>
        refine' @de_mod _ false false _ _ _ _ _ false ?z224 (@de_len' _ false false _ _ _ _ gg_len T.b_len (@nv _ _ _ _ false n2) (by rfl))
        case z224=>
         refine' @al _ false _ _ _ _ _ _ _ _ F_qe (hr.mono (by decide)) gg_qe ?z225 (by rfl) (by rfl)
         case z225=>
          exact @ac _ false _ _ _ _ (@nv _ _ _ _ false n0) (@ac _ false _ _ _ _ (@ae _ false _ _ _) (@ag _ _) (by rfl)) (by rfl)
      case z222=>
       refine' @ac _ false _ _ _ _ ?z226 (@ag _ _) (by rfl)
       case z226=>
        refine' @de_ix _ false false _ _ _ _ _ (@nv _ _ _ _ false n2) ?z227 (by exact fun _ _=>rfl)
        case z227=>
         refine' @de_mod _ false false _ _ _ _ _ false ?z228 (@de_len' _ false false _ _ _ _ gg_len T.b_len (@nv _ _ _ _ false n2) (by rfl))
         case z228=>
          refine' @al _ false _ _ _ _ _ _ _ _ F_qe (hr.mono (by decide)) gg_qe ?z229 (by rfl) (by rfl)
          case z229=>
           exact @ac _ false _ _ _ _ (@nv _ _ _ _ false n0) (@ac _ false _ _ _ _ (@ae _ false _ _ _) (@ag _ _) (by rfl)) (by rfl)
theorem m_qj {f:Addr}{fd:FuncData}(F:Fun K "_law_rule" "_law_rule" s_qj f fd) (hb:Binds K fd (["_law_cell"]:List Str) []) (hm:mg "_law_rule"=some (.ref f)) (T:Txt K mg) (F_qe:FnM P w K mg base 1 "_law_mix" f_qe) (F_qf:FnM P w K mg base 2 "_law_name" f_qf) (F_qh:FnM P w K mg base 3 "_law_body" f_qh) (F_qi:FnM P w K mg base 1 "_law_unknowns" f_qi):
  FnOk P w K mg base CX0 4 f fd (["_law_cell"]:List Str) (spM K f_qj)∧FnM P w K mg base 4 "_law_rule" f_qj:=by
 have h:=fnM_of (P:=P) (w:=w) (base:=base) (k:=3) (g:=g_qj) F sc_qj hb hm (by decide) fun cdv A outer s H E hr=>by
  exact @d_qj ((cxOf CX0 P w K mg base N_qj "_law_rule" (aa s_qj) f cdv A outer s H E).nox) (hasX sc_qj.nd) (fun _=>rfl) PassesOwn.never hr T F_qe F_qf F_qh F_qi
 exact h
theorem sc_qk:FnScope N_qk (["_law_patterns"]:List Str) (aa s_qk):=⟨rfl,rfl,rfl,by decide +kernel,rfl,by decide +kernel,by decide +kernel⟩
theorem d_qk {X:Cx}(hX:Has X N_qk (aa s_qk)) (hf:∀x,X.fn x=true) (hp:PassesOwn (model X.prog X.w) X.A X.env X.xe) (hr:Room 0 X.A) (T:Txt X.K X.mg):
  DSs X (ai s_qk) g_qk:=by
 have hu:=hr.units
 have n0:Nm X 0 "_law_patterns":=hX.nm (by decide +kernel)
 refine' @ak _ _ _ ?z230
 case z230=>
  refine' @ds_ret _ _ _ _ ?z231
  case z231=>
   refine' @de_join _ false false false _ _ _ _ _ _ (@am _ false _ _ _) ?z232 (by rfl) (by rfl) (by rfl) (by rfl)
   case z232=>
    refine' @DF.share _ false _ _ ?z233
    case z233=>
     refine' @df_comp _ _ _ _ _ _ _ _ _ _ _ _ hX.calm (anew_pair 1 2 (by decide)) (@di_list _ false _ _ _ (@nv _ _ _ _ false n0)) (CompScope.of' hX (by decide +kernel)) ?z234 (fun cl C s₂ H₂ ex pn=>@dts_nil _) ?z235 (by intro _;rfl)
     case z234=>
      intro cl C s₂ H₂ ex pn
      refine' @dg_tup _ _ _ _ _ _ (hX.comp _ cl C s₂ H₂ ex pn).calm ?z236 (toCons_len (toCons_len toNil_len)) (by rfl) (by rfl)
      case z236=>
       exact @dgs_cons _ _ _ _ _ (@dg_name' _ _ _ _ (hX.comp _ cl C s₂ H₂ ex pn).nd ((hX.comp _ cl C s₂ H₂ ex pn).lcl (i:=1) (by decide +kernel))) (@dgs_cons _ _ _ _ _ (@dg_name' _ _ _ _ (hX.comp _ cl C s₂ H₂ ex pn).nd ((hX.comp _ cl C s₂ H₂ ex pn).lcl (i:=2) (by decide +kernel))) (@dgs_nil _) (by rfl)) (by rfl)
     case z235=>
      intro cl C s₂ H₂ ex pn
      refine' @de_join _ false false false _ _ _ _ _ _ (@am _ false _ _ _) ?z237 (by rfl) (by rfl) (by rfl) (by rfl)
      case z237=>
       refine' @DF.share _ false _ _ ?z238
       case z238=>
        refine' @df_cat _ _ _ _ _ _ ?z239 ?z240
        case z239=>
         refine' @DF.share _ false _ _ ?z241
         case z241=>
          exact @df_lst _ _ _ _ (@ac _ false _ _ _ _ (@nv _ _ _ _ false ((hX.comp _ cl C s₂ H₂ ex pn).nm (i:=1) (by decide +kernel))) (@ag _ _) (by rfl))
        case z240=>
         refine' @DF.share _ false _ _ ?z242
         case z242=>
          refine' @df_comp _ _ _ _ _ _ _ _ _ _ _ _ (hX.comp _ cl C s₂ H₂ ex pn).calm (anew_name 3) (@di_tup _ false _ _ _ (@nv _ _ _ _ false ((hX.comp _ cl C s₂ H₂ ex pn).nm (i:=2) (by decide +kernel)))) (CompScope.of' (hX.comp _ cl C s₂ H₂ ex pn) (by decide +kernel)) (fun cl1 C1 s₂1 H₂1 ex1 pn1=>@dg_name' _ _ _ _ ((hX.comp _ cl C s₂ H₂ ex pn).comp _ cl1 C1 s₂1 H₂1 ex1 pn1).nd (((hX.comp _ cl C s₂ H₂ ex pn).comp _ cl1 C1 s₂1 H₂1 ex1 pn1).lcl (i:=3) (by decide +kernel))) (fun cl1 C1 s₂1 H₂1 ex1 pn1=>@dts_nil _) ?z243 (by intro _;rfl)
          case z243=>
           intro cl1 C1 s₂1 H₂1 ex1 pn1
           exact @de_ix _ false false _ _ _ _ _ (@nv _ _ _ _ false (((hX.comp _ cl C s₂ H₂ ex pn).comp _ cl1 C1 s₂1 H₂1 ex1 pn1).nm (i:=3) (by decide +kernel))) (@ae _ false _ _ _) (by exact fun _ _=>rfl)
theorem m_qk {f:Addr}{fd:FuncData}(F:Fun K "_law_patterns_text" "_law_patterns_text" s_qk f fd) (hb:Binds K fd (["_law_patterns"]:List Str) []) (hm:mg "_law_patterns_text"=some (.ref f)) (T:Txt K mg):
  FnOk P w K mg base CX0 1 f fd (["_law_patterns"]:List Str) (spM K f_qk)∧FnM P w K mg base 1 "_law_patterns_text" f_qk:=by
 have h:=fnM_of (P:=P) (w:=w) (base:=base) (k:=0) (g:=g_qk) F sc_qk hb hm (by decide) fun cdv A outer s H E hr=>by
  exact @d_qk ((cxOf CX0 P w K mg base N_qk "_law_patterns_text" (aa s_qk) f cdv A outer s H E).nox) (hasX sc_qk.nd) (fun _=>rfl) PassesOwn.never hr T
 exact h
theorem sc_ql:FnScope N_ql (["_law_rule_here"]:List Str) (aa s_ql):=⟨rfl,rfl,rfl,by decide +kernel,rfl,by decide +kernel,by decide +kernel⟩
theorem d_ql {X:Cx}(hX:Has X N_ql (aa s_ql)) (hf:∀x,X.fn x=true) (hp:PassesOwn (model X.prog X.w) X.A X.env X.xe) (hr:Room 1 X.A) (T:Txt X.K X.mg) (F_qk:FnM X.prog X.w X.K X.mg X.base 1 "_law_patterns_text" f_qk):
  DSs X (ai s_ql) g_ql:=by
 have hu:=hr.units
 have n0:Nm X 0 "_law_rule_here":=hX.nm (by decide +kernel)
 have gg_qk:Gb X "_law_patterns_text":=hX.gb (by decide +kernel)
 refine' @ad _ _ _ _ _ (@ds_if _ _ _ _ _ _ _ _ ?z244 ?_ ?_) ?_
 case z244=>
  exact @dt_eq _ false false _ _ _ _ _ hu (@de_ix _ false false _ _ _ _ _ (@nv _ _ _ _ false n0) (@ae _ false _ _ _) (by exact fun _ _=>rfl)) (@am _ false _ _ _)
 ·refine' @ak _ _ _ ?z245
  case z245=>
   refine' @ds_ret _ _ _ _ ?z246
   case z246=>
    refine' @de_addS _ false false false _ _ _ _ _ ?z247 ?z248
    case z247=>
     refine' @de_addS _ false false false _ _ _ _ _ ?z249 (@am _ false _ _ _)
     case z249=>
      refine' @al _ false _ _ _ _ _ _ _ _ F_qk (hr.mono (by decide)) gg_qk ?z250 (by rfl) (by rfl)
      case z250=>
       exact @ac _ false _ _ _ _ (@de_ix _ false false _ _ _ _ _ (@nv _ _ _ _ false n0) (@ae _ false _ _ _) (by exact fun _ _=>rfl)) (@ag _ _) (by rfl)
    case z248=>
     refine' @al _ false _ _ _ _ _ _ _ _ F_qk (hr.mono (by decide)) gg_qk ?z251 (by rfl) (by rfl)
     case z251=>
      exact @ac _ false _ _ _ _ (@de_ix _ false false _ _ _ _ _ (@nv _ _ _ _ false n0) (@ae _ false _ _ _) (by exact fun _ _=>rfl)) (@ag _ _) (by rfl)
 ·exact @dss_nil _
 refine' @ak _ _ _ ?z252
 case z252=>
  refine' @ds_ret _ _ _ _ ?z253
  case z253=>
   refine' @de_addS _ false false false _ _ _ _ _ ?z254 ?z255
   case z254=>
    refine' @de_addS _ false false false _ _ _ _ _ ?z256 (@am _ false _ _ _)
    case z256=>
     refine' @de_addS _ false false false _ _ _ _ _ ?z257 ?z258
     case z257=>
      refine' @de_addS _ false false false _ _ _ _ _ ?z259 (@am _ false _ _ _)
      case z259=>
       refine' @al _ false _ _ _ _ _ _ _ _ F_qk (hr.mono (by decide)) gg_qk ?z260 (by rfl) (by rfl)
       case z260=>
        exact @ac _ false _ _ _ _ (@de_ix _ false false _ _ _ _ _ (@nv _ _ _ _ false n0) (@ae _ false _ _ _) (by exact fun _ _=>rfl)) (@ag _ _) (by rfl)
     case z258=>
      exact @de_ix _ false false _ _ _ _ _ (@de_ix _ false false _ _ _ _ _ (@nv _ _ _ _ false n0) (@ae _ false _ _ _) (by exact fun _ _=>rfl)) (@ae _ false _ _ _) (by exact fun _ _=>rfl)
   case z255=>
    exact @de_ix _ false false _ _ _ _ _ (@de_ix _ false false _ _ _ _ _ (@nv _ _ _ _ false n0) (@ae _ false _ _ _) (by exact fun _ _=>rfl)) (@ae _ false _ _ _) (by exact fun _ _=>rfl)
theorem m_ql {f:Addr}{fd:FuncData}(F:Fun K "_law_shown" "_law_shown" s_ql f fd) (hb:Binds K fd (["_law_rule_here"]:List Str) []) (hm:mg "_law_shown"=some (.ref f)) (T:Txt K mg) (F_qk:FnM P w K mg base 1 "_law_patterns_text" f_qk):
  FnOk P w K mg base CX0 2 f fd (["_law_rule_here"]:List Str) (spM K f_ql)∧FnM P w K mg base 2 "_law_shown" f_ql:=by
 have h:=fnM_of (P:=P) (w:=w) (base:=base) (k:=1) (g:=g_ql) F sc_ql hb hm (by decide) fun cdv A outer s H E hr=>by
  exact @d_ql ((cxOf CX0 P w K mg base N_ql "_law_shown" (aa s_ql) f cdv A outer s H E).nox) (hasX sc_ql.nd) (fun _=>rfl) PassesOwn.never hr T F_qk
 exact h
theorem sc_qm:FnScope N_qm (["_law_cell"]:List Str) (aa s_qm):=⟨rfl,rfl,rfl,by decide +kernel,rfl,by decide +kernel,by decide +kernel⟩
theorem d_qm {X:Cx}(hX:Has X N_qm (aa s_qm)) (hf:∀x,X.fn x=true) (hp:PassesOwn (model X.prog X.w) X.A X.env X.xe) (hr:Room 1 X.A) (T:Txt X.K X.mg) (F_qe:FnM X.prog X.w X.K X.mg X.base 1 "_law_mix" f_qe):
  DSs X (ai s_qm) g_qm:=by
 have hu:=hr.units
 have n0:Nm X 0 "_law_cell":=hX.nm (by decide +kernel)
 have n1:Nm X 1 "_law_some":=hX.nm (by decide +kernel)
 have l1:Lc X 1 "_law_some":=hX.lc hf (by decide +kernel)
 have gg_qe:Gb X "_law_mix":=hX.gb (by decide +kernel)
 refine' @ad _ _ _ _ _ ?z261 ?_
 case z261=>
  refine' @ds_set' _ _ _ _ _ _ _ hX.nd l1 ?z262 (by rfl)
  case z262=>
   exact @DF.share _ false _ _ (@df_lst _ _ _ _ (@da_consts _ false _ ([(.str ""),(.str " => "),(.str "has A"),(.str "has A => "),(.str " => has A"),(.str "has A =>has A"),(.str "has A = A"),(.str "has A => A = B")]) (by rfl)))
 refine' @ad _ _ _ _ _ ?z263 ?_
 case z263=>
  refine' @ds_set' _ _ _ _ _ _ _ hX.nd l1 ?z264 (by rfl)
  case z264=>
   refine' @DF.share _ false _ _ ?z265
   case z265=>
    refine' @df_cat _ _ _ _ _ _ (@nv _ _ _ _ false n1) ?z266
    case z266=>
     exact @DF.share _ false _ _ (@df_lst _ _ _ _ (@da_consts _ false _ ([(.str "has A => B = A"),(.str "has A => A = "),(.str "has A => A == A"),(.str "has A => A = A = A"),(.str "has A => a = b")]) (by rfl)))
 refine' @ad _ _ _ _ _ ?z267 ?_
 case z267=>
  refine' @ds_set' _ _ _ _ _ _ _ hX.nd l1 ?z268 (by rfl)
  case z268=>
   refine' @DF.share _ false _ _ ?z269
   case z269=>
    refine' @df_cat _ _ _ _ _ _ (@nv _ _ _ _ false n1) ?z270
    case z270=>
     refine' @DF.share _ false _ _ ?z271
     case z271=>
      refine' @df_lst _ _ _ _ ?z272
      case z272=>
       refine' @ac _ false _ _ _ _ (@am _ false _ _ _) ?z273 (by rfl)
       case z273=>
        refine' @ac _ false _ _ _ _ (@am _ false _ _ _) ?z274 (by rfl)
        case z274=>
         exact @ac _ false _ _ _ _ (@am _ false _ _ _) (@ac _ false _ _ _ _ (@am _ false _ _ _) (@ag _ _) (by rfl)) (by rfl)
 refine' @ad _ _ _ _ _ ?z275 ?_
 case z275=>
  refine' @ds_set' _ _ _ _ _ _ _ hX.nd l1 ?z276 (by rfl)
  case z276=>
   refine' @DF.share _ false _ _ ?z277
   case z277=>
    refine' @df_cat _ _ _ _ _ _ (@nv _ _ _ _ false n1) ?z278
    case z278=>
     refine' @DF.share _ false _ _ ?z279
     case z279=>
      refine' @df_lst _ _ _ _ ?z280
      case z280=>
       exact @ac _ false _ _ _ _ (@am _ false _ _ _) (@ac _ false _ _ _ _ (@am _ false _ _ _) (@ag _ _) (by rfl)) (by rfl)
 refine' @ad _ _ _ _ _ ?z281 ?_
 case z281=>
  refine' @ds_set' _ _ _ _ _ _ _ hX.nd l1 ?z282 (by rfl)
  case z282=>
   refine' @DF.share _ false _ _ ?z283
   case z283=>
    refine' @df_cat _ _ _ _ _ _ (@nv _ _ _ _ false n1) ?z284
    case z284=>
     refine' @DF.share _ false _ _ ?z285
     case z285=>
      refine' @df_lst _ _ _ _ ?z286
      case z286=>
       refine' @ac _ false _ _ _ _ (@am _ false _ _ _) ?z287 (by rfl)
       case z287=>
        refine' @ac _ false _ _ _ _ (@am _ false _ _ _) ?z288 (by rfl)
        case z288=>
         refine' @ac _ false _ _ _ _ (@de_non _ false _ _) ?z289 (by rfl)
         case z289=>
          refine' @ac _ false _ _ _ _ (@ae _ false _ _ _) ?z290 (by rfl)
          case z290=>
           refine' @ac _ false _ _ _ _ ?z291 (@ag _ _) (by rfl)
           case z291=>
            refine' @de_tup _ false _ _ _ _ ?z292
            case z292=>
             refine' @ac _ false _ _ _ _ (@am _ false _ _ _) ?z293 (by rfl)
             case z293=>
              refine' @ac _ false _ _ _ _ ?z294 ?z295 (by rfl)
              case z294=>
               exact @DF.share _ false _ _ (@df_lst _ _ _ _ (@ag _ _))
              case z295=>
               refine' @ac _ false _ _ _ _ ?z296 (@ag _ _) (by rfl)
               case z296=>
                exact @DF.share _ false _ _ (@df_lst _ _ _ _ (@ag _ _))
 refine' @ak _ _ _ ?z297
 case z297=>
  refine' @ds_ret _ _ _ _ ?z298
  case z298=>
   refine' @de_ix _ false false _ _ _ _ _ (@nv _ _ _ _ false n1) ?z299 (by exact fun _ _=>rfl)
   case z299=>
    refine' @de_mod _ false false _ _ _ _ _ false ?z300 (@ae _ false _ _ _)
    case z300=>
     refine' @al _ false _ _ _ _ _ _ _ _ F_qe (hr.mono (by decide)) gg_qe ?z301 (by rfl) (by rfl)
     case z301=>
      exact @ac _ false _ _ _ _ (@nv _ _ _ _ false n0) (@ac _ false _ _ _ _ (@ae _ false _ _ _) (@ag _ _) (by rfl)) (by rfl)
theorem m_qm {f:Addr}{fd:FuncData}(F:Fun K "_law_odd" "_law_odd" s_qm f fd) (hb:Binds K fd (["_law_cell"]:List Str) []) (hm:mg "_law_odd"=some (.ref f)) (T:Txt K mg) (F_qe:FnM P w K mg base 1 "_law_mix" f_qe):
  FnOk P w K mg base CX0 2 f fd (["_law_cell"]:List Str) (spM K f_qm)∧FnM P w K mg base 2 "_law_odd" f_qm:=by
 have h:=fnM_of (P:=P) (w:=w) (base:=base) (k:=1) (g:=g_qm) F sc_qm hb hm (by decide) fun cdv A outer s H E hr=>by
  exact @d_qm ((cxOf CX0 P w K mg base N_qm "_law_odd" (aa s_qm) f cdv A outer s H E).nox) (hasX sc_qm.nd) (fun _=>rfl) PassesOwn.never hr T F_qe
 exact h
theorem sc_qn:FnScope N_qn (["_law_text","_law_cell"]:List Str) (aa s_qn):=⟨rfl,rfl,rfl,by decide +kernel,rfl,by decide +kernel,by decide +kernel⟩
theorem d_qn {X:Cx}(hX:Has X N_qn (aa s_qn)) (hf:∀x,X.fn x=true) (hp:PassesOwn (model X.prog X.w) X.A X.env X.xe) (hr:Room 2 X.A) (T:Txt X.K X.mg) (F_qe:FnM X.prog X.w X.K X.mg X.base 1 "_law_mix" f_qe) (F_qm:FnM X.prog X.w X.K X.mg X.base 2 "_law_odd" f_qm):
  DSs X (ai s_qn) g_qn:=by
 have hu:=hr.units
 have n0:Nm X 0 "_law_text":=hX.nm (by decide +kernel)
 have n1:Nm X 1 "_law_cell":=hX.nm (by decide +kernel)
 have n2:Nm X 2 "_law_signs":=hX.nm (by decide +kernel)
 have l2:Lc X 2 "_law_signs":=hX.lc hf (by decide +kernel)
 have n3:Nm X 3 "_law_way":=hX.nm (by decide +kernel)
 have l3:Lc X 3 "_law_way":=hX.lc hf (by decide +kernel)
 have n4:Nm X 4 "_law_at":=hX.nm (by decide +kernel)
 have l4:Lc X 4 "_law_at":=hX.lc hf (by decide +kernel)
 have n5:Nm X 5 "_law_sign":=hX.nm (by decide +kernel)
 have l5:Lc X 5 "_law_sign":=hX.lc hf (by decide +kernel)
 have gg_qe:Gb X "_law_mix":=hX.gb (by decide +kernel)
 have gg_qm:Gb X "_law_odd":=hX.gb (by decide +kernel)
 have gg_len:Gb X "len":=hX.gb (by decide +kernel)
 refine @ad _ _ _ _ _ (@ds_set' _ _ _ _ _ _ _ hX.nd l2 (@am _ false _ _ _) (by rfl)) ?_
 refine' @ad _ _ _ _ _ ?z302 ?_
 case z302=>
  refine' @ds_set' _ _ _ _ _ _ _ hX.nd l3 ?z303 (by rfl)
  case z303=>
   refine' @de_mod _ false false _ _ _ _ _ false ?z304 (@ae _ false _ _ _)
   case z304=>
    refine' @al _ false _ _ _ _ _ _ _ _ F_qe (hr.mono (by decide)) gg_qe ?z305 (by rfl) (by rfl)
    case z305=>
     exact @ac _ false _ _ _ _ (@nv _ _ _ _ false n1) (@ac _ false _ _ _ _ (@ae _ false _ _ _) (@ag _ _) (by rfl)) (by rfl)
 refine' @ad _ _ _ _ _ ?z306 ?_
 case z306=>
  refine' @ds_set' _ _ _ _ _ _ _ hX.nd l4 ?z307 (by rfl)
  case z307=>
   refine' @de_mod _ false false _ _ _ _ _ false ?z308 ?z309
   case z308=>
    refine' @al _ false _ _ _ _ _ _ _ _ F_qe (hr.mono (by decide)) gg_qe ?z310 (by rfl) (by rfl)
    case z310=>
     exact @ac _ false _ _ _ _ (@nv _ _ _ _ false n1) (@ac _ false _ _ _ _ (@ae _ false _ _ _) (@ag _ _) (by rfl)) (by rfl)
   case z309=>
    exact @de_add _ false false _ _ _ _ _ false (@de_lenS _ false false _ _ _ _ gg_len.gl T.b_len (@nv _ _ _ _ false n0) (by rfl)) (@ae _ false _ _ _)
 refine' @ad _ _ _ _ _ ?z311 ?_
 case z311=>
  refine' @ds_set' _ _ _ _ _ _ _ hX.nd l5 ?z312 (by rfl)
  case z312=>
   refine' @de_ixS _ false false false _ _ _ _ _ (@nv _ _ _ _ false n2) ?z313 (by exact fun _ _=>rfl)
   case z313=>
    refine' @de_mod _ false false _ _ _ _ _ false ?z314 (@de_lenS _ false false _ _ _ _ gg_len.gl T.b_len (@nv _ _ _ _ false n2) (by rfl))
    case z314=>
     refine' @al _ false _ _ _ _ _ _ _ _ F_qe (hr.mono (by decide)) gg_qe ?z315 (by rfl) (by rfl)
     case z315=>
      exact @ac _ false _ _ _ _ (@nv _ _ _ _ false n1) (@ac _ false _ _ _ _ (@ae _ false _ _ _) (@ag _ _) (by rfl)) (by rfl)
 refine @ad _ _ _ _ _ (@ds_if _ _ _ _ _ _ _ _ (@dt_eq _ false false _ _ _ _ _ hu (@nv _ _ _ _ false n3) (@ae _ false _ _ _)) ?_ ?_) ?_
 ·refine' @ak _ _ _ ?z316
  case z316=>
   refine' @ds_ret _ _ _ _ ?z317
   case z317=>
    refine' @de_addS _ false false false _ _ _ _ _ ?z318 ?z319
    case z318=>
     refine' @de_addS _ false false false _ _ _ _ _ ?z320 (@nv _ _ _ _ false n5)
     case z320=>
      exact @de_cutS _ false false _ _ _ _ _ _ _ _ (@nv _ _ _ _ false n0) (@do_none _) (@do_some _ false _ _ (@nv _ _ _ _ false n4))
    case z319=>
     exact @de_cutS _ false false _ _ _ _ _ _ _ _ (@nv _ _ _ _ false n0) (@do_some _ false _ _ (@nv _ _ _ _ false n4)) (@do_none _)
 ·exact @dss_nil _
 refine @ad _ _ _ _ _ (@ds_if _ _ _ _ _ _ _ _ (@dt_eq _ false false _ _ _ _ _ hu (@nv _ _ _ _ false n3) (@ae _ false _ _ _)) ?_ ?_) ?_
 ·refine' @ak _ _ _ ?z321
  case z321=>
   refine' @ds_ret _ _ _ _ ?z322
   case z322=>
    refine' @de_addS _ false false false _ _ _ _ _ ?z323 ?z324
    case z323=>
     exact @de_cutS _ false false _ _ _ _ _ _ _ _ (@nv _ _ _ _ false n0) (@do_none _) (@do_some _ false _ _ (@nv _ _ _ _ false n4))
    case z324=>
     refine' @de_cutS _ false false _ _ _ _ _ _ _ _ (@nv _ _ _ _ false n0) ?z325 (@do_none _)
     case z325=>
      exact @do_some _ false _ _ (@de_add _ false false _ _ _ _ _ false (@nv _ _ _ _ false n4) (@ae _ false _ _ _))
 ·exact @dss_nil _
 refine @ad _ _ _ _ _ (@ds_if _ _ _ _ _ _ _ _ (@dt_cmp _ false false _ _ _ _ _ _ _ op_lt (by rfl) (@nv _ _ _ _ false n3) (@ae _ false _ _ _)) ?_ ?_) ?_
 ·refine' @ak _ _ _ ?z326
  case z326=>
   refine' @ds_ret _ _ _ _ ?z327
   case z327=>
    refine' @de_addS _ false false false _ _ _ _ _ ?z328 ?z329
    case z328=>
     refine' @de_addS _ false false false _ _ _ _ _ ?z330 (@nv _ _ _ _ false n5)
     case z330=>
      exact @de_cutS _ false false _ _ _ _ _ _ _ _ (@nv _ _ _ _ false n0) (@do_none _) (@do_some _ false _ _ (@nv _ _ _ _ false n4))
    case z329=>
     refine' @de_cutS _ false false _ _ _ _ _ _ _ _ (@nv _ _ _ _ false n0) ?z331 (@do_none _)
     case z331=>
      exact @do_some _ false _ _ (@de_add _ false false _ _ _ _ _ false (@nv _ _ _ _ false n4) (@ae _ false _ _ _))
 ·exact @dss_nil _
 refine @ad _ _ _ _ _ (@ds_if _ _ _ _ _ _ _ _ (@dt_eq _ false false _ _ _ _ _ hu (@nv _ _ _ _ false n3) (@ae _ false _ _ _)) ?_ ?_) ?_
 ·refine' @ak _ _ _ ?z332
  case z332=>
   refine' @ds_ret _ _ _ _ ?z333
   case z333=>
    exact @al _ false _ _ _ _ _ _ _ _ F_qm (hr.mono (by decide)) gg_qm (@ac _ false _ _ _ _ (@nv _ _ _ _ false n1) (@ag _ _) (by rfl)) (by rfl) (by rfl)
 ·exact @dss_nil _
 refine @ak _ _ _ (@ds_ret _ _ _ _ (@nv _ _ _ _ false n0))
theorem m_qn {f:Addr}{fd:FuncData}(F:Fun K "_law_spoiled" "_law_spoiled" s_qn f fd) (hb:Binds K fd (["_law_text","_law_cell"]:List Str) []) (hm:mg "_law_spoiled"=some (.ref f)) (T:Txt K mg) (F_qe:FnM P w K mg base 1 "_law_mix" f_qe) (F_qm:FnM P w K mg base 2 "_law_odd" f_qm):
  FnOk P w K mg base CX0 3 f fd (["_law_text","_law_cell"]:List Str) (spM K f_qn)∧FnM P w K mg base 3 "_law_spoiled" f_qn:=by
 have h:=fnM_of (P:=P) (w:=w) (base:=base) (k:=2) (g:=g_qn) F sc_qn hb hm (by decide) fun cdv A outer s H E hr=>by
  exact @d_qn ((cxOf CX0 P w K mg base N_qn "_law_spoiled" (aa s_qn) f cdv A outer s H E).nox) (hasX sc_qn.nd) (fun _=>rfl) PassesOwn.never hr T F_qe F_qm
 exact h
theorem sc_qo:FnScope N_qo (["_law_word"]:List Str) (aa s_qo):=⟨rfl,rfl,rfl,by decide +kernel,rfl,by decide +kernel,by decide +kernel⟩
theorem d_qo {X:Cx}(hX:Has X N_qo (aa s_qo)) (hf:∀x,X.fn x=true) (hp:PassesOwn (model X.prog X.w) X.A X.env X.xe) (hr:Room 0 X.A) (T:Txt X.K X.mg):
  DSs X (ai s_qo) g_qo:=by
 have hu:=hr.units
 have n0:Nm X 0 "_law_word":=hX.nm (by decide +kernel)
 have n1:Nm X 1 "_law_sign":=hX.nm (by decide +kernel)
 have l1:Lc X 1 "_law_sign":=hX.lc hf (by decide +kernel)
 have gg_len:Gb X "len":=hX.gb (by decide +kernel)
 refine @ad _ _ _ _ _ (@ds_if _ _ _ _ _ _ _ _ (PW.pt (dw_or (dt_cmp op_lt (by rfl) (de_lenS (mm:=false) gg_len.gl T.b_len (nv false n0)) (ae (m:=false))) (dw_or1 (dt_cmp op_gt (by rfl) (de_lenS (mm:=false) gg_len.gl T.b_len (nv false n0)) (ae (m:=false)))))) ?_ ?_) ?_
 ·refine @ak _ _ _ (@ds_ret _ _ _ _ (@de_bl _ false _ _ _))
 ·exact @dss_nil _
 refine @ad _ _ _ _ _ (@ds_for _ _ _ _ _ _ b_qo_1 _ hp hX.calm (@di_str _ _ false _ _ (@nv _ _ _ _ false n0)) (@dg_name' _ _ _ _ hX.nd l1) ?_ (by intro _;rfl)) ?_
 ·refine @ak _ _ _ (@ds_if _ _ _ _ _ _ _ _ (@dt_notInS _ false false _ _ _ _ _ (by rfl) (@nv _ _ _ _ false n1) (@am _ false _ _ _)) ?_ ?_)
  ·refine @ak _ _ _ (@ds_ret _ _ _ _ (@de_bl _ false _ _ _))
  ·exact @dss_nil _
 refine @ak _ _ _ (@ds_ret _ _ _ _ (@de_bl _ false _ _ _))
theorem m_qo {f:Addr}{fd:FuncData}(F:Fun K "_law_is_name" "_law_is_name" s_qo f fd) (hb:Binds K fd (["_law_word"]:List Str) []) (hm:mg "_law_is_name"=some (.ref f)) (T:Txt K mg):
  FnOk P w K mg base CX0 1 f fd (["_law_word"]:List Str) (spM K f_qo)∧FnM P w K mg base 1 "_law_is_name" f_qo:=by
 have h:=fnM_of (P:=P) (w:=w) (base:=base) (k:=0) (g:=g_qo) F sc_qo hb hm (by decide) fun cdv A outer s H E hr=>by
  exact @d_qo ((cxOf CX0 P w K mg base N_qo "_law_is_name" (aa s_qo) f cdv A outer s H E).nox) (hasX sc_qo.nd) (fun _=>rfl) PassesOwn.never hr T
 exact h
theorem sc_qp:FnScope N_qp (["_law_word"]:List Str) (aa s_qp):=⟨rfl,rfl,rfl,by decide +kernel,rfl,by decide +kernel,by decide +kernel⟩
theorem d_qp {X:Cx}(hX:Has X N_qp (aa s_qp)) (hf:∀x,X.fn x=true) (hp:PassesOwn (model X.prog X.w) X.A X.env X.xe) (hr:Room 1 X.A) (T:Txt X.K X.mg) (F_qo:FnM X.prog X.w X.K X.mg X.base 1 "_law_is_name" f_qo):
  DSs X (ai s_qp) g_qp:=by
 have hu:=hr.units
 have n0:Nm X 0 "_law_word":=hX.nm (by decide +kernel)
 have gg_qo:Gb X "_law_is_name":=hX.gb (by decide +kernel)
 have gg_len:Gb X "len":=hX.gb (by decide +kernel)
 refine' @ad _ _ _ _ _ (@ds_if _ _ _ _ _ _ _ _ ?z334 ?_ ?_) ?_
 case z334=>
  refine' @dt_val _ false _ _ ?z335 (by intro _;rfl)
  case z335=>
   exact @al _ false _ _ _ _ _ _ _ _ F_qo (hr.mono (by decide)) gg_qo (@ac _ false _ _ _ _ (@nv _ _ _ _ false n0) (@ag _ _) (by rfl)) (by rfl) (by rfl)
 ·refine' @ak _ _ _ ?z336
  case z336=>
   refine' @ds_ret _ _ _ _ ?z337
   case z337=>
    refine' @de_tup _ false _ _ _ _ ?z338
    case z338=>
     exact @ac _ false _ _ _ _ (@am _ false _ _ _) (@ac _ false _ _ _ _ (@nv _ _ _ _ false n0) (@ag _ _) (by rfl)) (by rfl)
 ·exact @dss_nil _
 refine @ad _ _ _ _ _ (@ds_if _ _ _ _ _ _ _ _ (PW.pt (dw_and (dt_eq hu (de_lenS (mm:=false) gg_len.gl T.b_len (nv false n0)) (ae (m:=false))) (dw_and1 (dt_inS (by rfl) (nv false n0) (am (m:=false)))))) ?_ ?_) ?_
 ·refine' @ak _ _ _ ?z339
  case z339=>
   refine' @ds_ret _ _ _ _ ?z340
   case z340=>
    refine' @de_tup _ false _ _ _ _ ?z341
    case z341=>
     exact @ac _ false _ _ _ _ (@am _ false _ _ _) (@ac _ false _ _ _ _ (@nv _ _ _ _ false n0) (@ag _ _) (by rfl)) (by rfl)
 ·exact @dss_nil _
 refine @ak _ _ _ (@ds_ret _ _ _ _ (@de_non _ false _ _))
theorem m_qp {f:Addr}{fd:FuncData}(F:Fun K "_law_term" "_law_term" s_qp f fd) (hb:Binds K fd (["_law_word"]:List Str) []) (hm:mg "_law_term"=some (.ref f)) (T:Txt K mg) (F_qo:FnM P w K mg base 1 "_law_is_name" f_qo):
  FnOk P w K mg base CX0 2 f fd (["_law_word"]:List Str) (spM K f_qp)∧FnM P w K mg base 2 "_law_term" f_qp:=by
 have h:=fnM_of (P:=P) (w:=w) (base:=base) (k:=1) (g:=g_qp) F sc_qp hb hm (by decide) fun cdv A outer s H E hr=>by
  exact @d_qp ((cxOf CX0 P w K mg base N_qp "_law_term" (aa s_qp) f cdv A outer s H E).nox) (hasX sc_qp.nd) (fun _=>rfl) PassesOwn.never hr T F_qo
 exact h
theorem sc_qq:FnScope N_qq (["_law_text"]:List Str) (aa s_qq):=⟨rfl,rfl,rfl,by decide +kernel,rfl,by decide +kernel,by decide +kernel⟩
theorem d_qq {X:Cx}(hX:Has X N_qq (aa s_qq)) (hf:∀x,X.fn x=true) (hp:PassesOwn (model X.prog X.w) X.A X.env X.xe) (hr:Room 2 X.A) (T:Txt X.K X.mg) (F_qo:FnM X.prog X.w X.K X.mg X.base 1 "_law_is_name" f_qo) (F_qp:FnM X.prog X.w X.K X.mg X.base 2 "_law_term" f_qp):
  DSs X (ai s_qq) g_qq:=by
 have hu:=hr.units
 have n0:Nm X 0 "_law_text":=hX.nm (by decide +kernel)
 have n1:Nm X 1 "_law_found":=hX.nm (by decide +kernel)
 have l1:Lc X 1 "_law_found":=hX.lc hf (by decide +kernel)
 have n2:Nm X 2 "_law_piece":=hX.nm (by decide +kernel)
 have l2:Lc X 2 "_law_piece":=hX.lc hf (by decide +kernel)
 have n3:Nm X 3 "_law_words":=hX.nm (by decide +kernel)
 have l3:Lc X 3 "_law_words":=hX.lc hf (by decide +kernel)
 have n4:Nm X 4 "_law_terms":=hX.nm (by decide +kernel)
 have l4:Lc X 4 "_law_terms":=hX.lc hf (by decide +kernel)
 have gg_qo:Gb X "_law_is_name":=hX.gb (by decide +kernel)
 have gg_len:Gb X "len":=hX.gb (by decide +kernel)
 have gg_tuple:Gb X "tuple":=hX.gb (by decide +kernel)
 refine' @ad _ _ _ _ _ ?z342 ?_
 case z342=>
  exact @ds_setF' _ _ _ _ _ _ _ hX.nd l1 (@df_lst _ _ _ _ (@ag _ _)) (by rfl)
 refine' @ad _ _ _ _ _ (@ds_for _ _ _ _ _ _ b_qq_3 _ hp hX.calm ?z343 (@dg_name' _ _ _ _ hX.nd l2) ?_ (by intro _;rfl)) ?_
 case z343=>
  refine' @di_list _ false _ _ _ ?z344
  case z344=>
   exact @DF.share _ false _ _ (@df_split _ false false _ _ _ _ _ _ (@nv _ _ _ _ false n0) (@am _ false _ _ _) (by rfl) (by rfl) (by rfl) (by rfl))
 ·refine' @ad _ _ _ _ _ ?z345 ?_
  case z345=>
   refine' @ds_set' _ _ _ _ _ _ _ hX.nd l3 ?z346 (by rfl)
   case z346=>
    exact @DF.share _ false _ _ (@df_split _ false false _ _ _ _ _ _ (@nv _ _ _ _ false n2) (@am _ false _ _ _) (by rfl) (by rfl) (by rfl) (by rfl))
  refine' @ad _ _ _ _ _ ?z347 ?_
  case z347=>
   refine' @ds_setc' _ _ _ _ _ _ _ _ _ _ _ _ _ _ _ _ _ _ hX l4 (anew_name 5) ?z348 (CompScope.of' hX (by decide +kernel)) (fun cl C s₂ H₂ ex pn=>@dg_name' _ _ _ _ (hX.comp _ cl C s₂ H₂ ex pn).nd ((hX.comp _ cl C s₂ H₂ ex pn).lcl (i:=5) (by decide +kernel))) (fun cl C s₂ H₂ ex pn=>@dts_nil _) ?z349 (by decide +kernel) (by decide +kernel) (by intro _;rfl)
   case z348=>
    refine' @di_list _ false _ _ _ ?z350
    case z350=>
     refine' @DF.share _ false _ _ ?z351
     case z351=>
      exact @df_cutL _ _ _ _ _ _ _ _ _ (@nv _ _ _ _ false n3) (@do_some _ false _ _ (@ae _ false _ _ _)) (@do_none _)
   case z349=>
    intro cl C s₂ H₂ ex pn
    exact @al _ false _ _ _ _ _ _ _ _ F_qp (hr.mono (by decide)) ((hX.comp _ cl C s₂ H₂ ex pn).gb (x:="_law_term") (by decide +kernel)) (@ac _ false _ _ _ _ (@nv _ _ _ _ false ((hX.comp _ cl C s₂ H₂ ex pn).nm (i:=5) (by decide +kernel))) (@ag _ _) (by rfl)) (by rfl) (by rfl)
  refine @dss_frz _ k_qq_2 _ 4 ?_
  refine @ad _ _ _ _ _ (@ds_if _ _ _ _ _ _ _ _ (PW.pt (dw_or (dt_not (dt_val (al F_qo (hr.mono (by decide)) gg_qo (ac (de_ix (nv false n3) (ae (m:=false))) (ag))))) (dw_or (dt_eq hu (nv false n4) (DF.share (m:=false) (df_lst (ag)))) (dw_or (dt_cmp op_gt (by rfl) (de_len' (mm:=false) gg_len T.b_len (nv false n4)) (ae (m:=false))) (dw_or1 (dt_in hu (de_non (m:=false)) (nv false n4))))))) ?_ ?_) ?_
  ·refine @ak _ _ _ (@ds_ret _ _ _ _ (@de_non _ false _ _))
  ·exact @dss_nil _
  refine' @ak _ _ _ ?z352
  case z352=>
   refine' @ds_append' _ _ _ _ _ _ _ _ _ n1 ?z353 (by rfl) (by rfl) (by rfl) (by rfl) (by rfl)
   case z353=>
    refine' @de_tup _ false _ _ _ _ ?z354
    case z354=>
     refine' @ac _ false _ _ _ _ (@de_ix _ false false _ _ _ _ _ (@nv _ _ _ _ false n3) (@ae _ false _ _ _) (by exact fun _ _=>rfl)) ?z355 (by rfl)
     case z355=>
      exact @ac _ false _ _ _ _ (@de_tuple _ false _ _ _ _ gg_tuple.gl T.b_tuple (@nv _ _ _ _ false n4) (by rfl)) (@ag _ _) (by rfl)
 refine' @ad _ _ _ _ _ (@ds_if _ _ _ _ _ _ _ _ ?z356 ?_ ?_) ?_
 case z356=>
  exact @dt_cmp _ _ _ _ _ _ _ _ _ _ op_gt (by rfl) (@de_len' _ _ true _ _ _ _ gg_len T.b_len (@nv _ _ _ _ true n1) (by rfl)) (@ae _ false _ _ _)
 ·refine @ak _ _ _ (@ds_ret _ _ _ _ (@de_non _ false _ _))
 ·exact @dss_nil _
 refine @ak _ _ _ (@ds_retv' _ _ _ _ _ n1)
theorem m_qq {f:Addr}{fd:FuncData}(F:Fun K "_law_told_body" "_law_told_body" s_qq f fd) (hb:Binds K fd (["_law_text"]:List Str) []) (hm:mg "_law_told_body"=some (.ref f)) (T:Txt K mg) (F_qo:FnM P w K mg base 1 "_law_is_name" f_qo) (F_qp:FnM P w K mg base 2 "_law_term" f_qp):
  FnOk P w K mg base CX0 3 f fd (["_law_text"]:List Str) (spM K f_qq)∧FnM P w K mg base 3 "_law_told_body" f_qq:=by
 have h:=fnM_of (P:=P) (w:=w) (base:=base) (k:=2) (g:=g_qq) F sc_qq hb hm (by decide) fun cdv A outer s H E hr=>by
  exact @d_qq ((cxOf CX0 P w K mg base N_qq "_law_told_body" (aa s_qq) f cdv A outer s H E).nox) (hasX sc_qq.nd) (fun _=>rfl) PassesOwn.never hr T F_qo F_qp
 exact h
theorem sc_qr:FnScope N_qr (["_law_text"]:List Str) (aa s_qr):=⟨rfl,rfl,rfl,by decide +kernel,rfl,by decide +kernel,by decide +kernel⟩
theorem d_qr {X:Cx}(hX:Has X N_qr (aa s_qr)) (hf:∀x,X.fn x=true) (hp:PassesOwn (model X.prog X.w) X.A X.env X.xe) (hr:Room 3 X.A) (T:Txt X.K X.mg) (F_qi:FnM X.prog X.w X.K X.mg X.base 1 "_law_unknowns" f_qi) (F_qp:FnM X.prog X.w X.K X.mg X.base 2 "_law_term" f_qp) (F_qq:FnM X.prog X.w X.K X.mg X.base 3 "_law_told_body" f_qq):
  DSs X (ai s_qr) g_qr:=by
 have hu:=hr.units
 have n0:Nm X 0 "_law_text":=hX.nm (by decide +kernel)
 have n1:Nm X 1 "_law_at":=hX.nm (by decide +kernel)
 have l1:Lc X 1 "_law_at":=hX.lc hf (by decide +kernel)
 have n2:Nm X 2 "_law_body_here":=hX.nm (by decide +kernel)
 have l2:Lc X 2 "_law_body_here":=hX.lc hf (by decide +kernel)
 have n3:Nm X 3 "_law_right_here":=hX.nm (by decide +kernel)
 have l3:Lc X 3 "_law_right_here":=hX.lc hf (by decide +kernel)
 have n4:Nm X 4 "_law_head":=hX.nm (by decide +kernel)
 have l4:Lc X 4 "_law_head":=hX.lc hf (by decide +kernel)
 have n5:Nm X 5 "_law_both":=hX.nm (by decide +kernel)
 have l5:Lc X 5 "_law_both":=hX.lc hf (by decide +kernel)
 have n6:Nm X 6 "_law_term_here":=hX.nm (by decide +kernel)
 have l6:Lc X 6 "_law_term_here":=hX.lc hf (by decide +kernel)
 have gg_qp:Gb X "_law_term":=hX.gb (by decide +kernel)
 have gg_qq:Gb X "_law_told_body":=hX.gb (by decide +kernel)
 have gg_qi:Gb X "_law_unknowns":=hX.gb (by decide +kernel)
 have gg_isinstance:Gb X "isinstance":=hX.gb (by decide +kernel)
 have gg_str:Gb X "str":=hX.gb (by decide +kernel)
 refine @ad _ _ _ _ _ (@ds_if _ _ _ _ _ _ _ _ (PW.pt (dw_or (dt_not (dt_val (de_isi (mm:=false) (cs:="str") (by simp) gg_isinstance.gl T.b_isinstance gg_str.gl T.b_str bt_str (nv false n0)))) (dw_or1 (dt_notInS (by rfl) (am (m:=false)) (nv false n0))))) ?_ ?_) ?_
 ·refine @ak _ _ _ (@ds_ret _ _ _ _ (@de_non _ false _ _))
 ·exact @dss_nil _
 refine' @ad _ _ _ _ _ ?z357 ?_
 case z357=>
  exact @ds_set' _ _ _ _ _ _ _ hX.nd l1 (@de_find _ false false false _ _ _ _ _ _ (@nv _ _ _ _ false n0) (@am _ false _ _ _) (by rfl) (by rfl) (by rfl) (by rfl)) (by rfl)
 refine' @ad _ _ _ _ _ ?z358 ?_
 case z358=>
  refine' @ds_set' _ _ _ _ _ _ _ hX.nd l2 ?z359 (by rfl)
  case z359=>
   refine' @al _ false _ _ _ _ _ _ _ _ F_qq (hr.mono (by decide)) gg_qq ?z360 (by rfl) (by rfl)
   case z360=>
    refine' @ac _ false _ _ _ _ ?z361 (@ag _ _) (by rfl)
    case z361=>
     exact @de_cutS _ false false _ _ _ _ _ _ _ _ (@nv _ _ _ _ false n0) (@do_none _) (@do_some _ false _ _ (@nv _ _ _ _ false n1))
 refine' @ad _ _ _ _ _ ?z362 ?_
 case z362=>
  refine' @ds_set' _ _ _ _ _ _ _ hX.nd l3 ?z363 (by rfl)
  case z363=>
   refine' @de_cutS _ false false _ _ _ _ _ _ _ _ (@nv _ _ _ _ false n0) ?z364 (@do_none _)
   case z364=>
    exact @do_some _ false _ _ (@de_add _ false false _ _ _ _ _ false (@nv _ _ _ _ false n1) (@ae _ false _ _ _))
 refine @ad _ _ _ _ _ (@ds_if _ _ _ _ _ _ _ _ (@dt_isN _ _ _ _ false _ _ (@nv _ _ _ _ false n2) (by rfl)) ?_ ?_) ?_
 ·refine @ak _ _ _ (@ds_ret _ _ _ _ (@de_non _ false _ _))
 ·exact @dss_nil _
 refine @ad _ _ _ _ _ (@ds_if _ _ _ _ _ _ _ _ (@dt_notInS _ false false _ _ _ _ _ (by rfl) (@am _ false _ _ _) (@nv _ _ _ _ false n3)) ?_ ?_) ?_
 ·refine' @ad _ _ _ _ _ ?z365 ?_
  case z365=>
   refine' @ds_set' _ _ _ _ _ _ _ hX.nd l4 ?z366 (by rfl)
   case z366=>
    exact @al _ false _ _ _ _ _ _ _ _ F_qq (hr.mono (by decide)) gg_qq (@ac _ false _ _ _ _ (@nv _ _ _ _ false n3) (@ag _ _) (by rfl)) (by rfl) (by rfl)
  refine @ad _ _ _ _ _ (@ds_if _ _ _ _ _ _ _ _ (@dt_isN _ _ _ _ false _ _ (@nv _ _ _ _ false n4) (by rfl)) ?_ ?_) ?_
  ·refine @ak _ _ _ (@ds_ret _ _ _ _ (@de_non _ false _ _))
  ·exact @dss_nil _
  refine' @ak _ _ _ ?z367
  case z367=>
   refine' @ds_ret _ _ _ _ ?z368
   case z368=>
    refine' @de_tup _ false _ _ _ _ ?z369
    case z369=>
     refine' @ac _ false _ _ _ _ (@am _ false _ _ _) ?z370 (by rfl)
     case z370=>
      exact @ac _ false _ _ _ _ (@nv _ _ _ _ false n2) (@ac _ false _ _ _ _ (@nv _ _ _ _ false n4) (@ag _ _) (by rfl)) (by rfl)
 ·exact @dss_nil _
 refine' @ad _ _ _ _ _ ?z371 ?_
 case z371=>
  exact @ds_set' _ _ _ _ _ _ _ hX.nd l1 (@de_find _ false false false _ _ _ _ _ _ (@nv _ _ _ _ false n3) (@am _ false _ _ _) (by rfl) (by rfl) (by rfl) (by rfl)) (by rfl)
 refine' @ad _ _ _ _ _ ?z372 ?_
 case z372=>
  refine' @ds_set' _ _ _ _ _ _ _ hX.nd l5 ?z373 (by rfl)
  case z373=>
   refine' @DF.share _ false _ _ ?z374
   case z374=>
    refine' @df_lst _ _ _ _ ?z375
    case z375=>
     refine' @ac _ false _ _ _ _ ?z376 ?z377 (by rfl)
     case z376=>
      refine' @al _ false _ _ _ _ _ _ _ _ F_qp (hr.mono (by decide)) gg_qp ?z378 (by rfl) (by rfl)
      case z378=>
       refine' @ac _ false _ _ _ _ ?z379 (@ag _ _) (by rfl)
       case z379=>
        exact @de_cutS _ false false _ _ _ _ _ _ _ _ (@nv _ _ _ _ false n3) (@do_none _) (@do_some _ false _ _ (@nv _ _ _ _ false n1))
     case z377=>
      refine' @ac _ false _ _ _ _ ?z380 (@ag _ _) (by rfl)
      case z380=>
       refine' @al _ false _ _ _ _ _ _ _ _ F_qp (hr.mono (by decide)) gg_qp ?z381 (by rfl) (by rfl)
       case z381=>
        refine' @ac _ false _ _ _ _ ?z382 (@ag _ _) (by rfl)
        case z382=>
         refine' @de_cutS _ false false _ _ _ _ _ _ _ _ (@nv _ _ _ _ false n3) ?z383 (@do_none _)
         case z383=>
          exact @do_some _ false _ _ (@de_add _ false false _ _ _ _ _ false (@nv _ _ _ _ false n1) (@ae _ false _ _ _))
 refine @ad _ _ _ _ _ (@ds_for _ _ _ _ _ _ b_qr_1 _ hp hX.calm (@di_list _ false _ _ _ (@nv _ _ _ _ false n5)) (@dg_name' _ _ _ _ hX.nd l6) ?_ (by intro _;rfl)) ?_
 ·refine @ak _ _ _ (@ds_if _ _ _ _ _ _ _ _ (PW.pt (dw_or (dt_isN (nv false n6)) (dw_or1 (PW.pt (dw_and (dt_eq hu (de_ix (nv false n6) (ae (m:=false))) (am (m:=false))) (dw_and1 (dt_notIn hu (nv false n6) (DF.share (m:=false) (df_call' F_qi (hr.mono (by decide)) gg_qi (ac (nv false n2) (ag))))))))))) ?_ ?_)
  ·refine @ak _ _ _ (@ds_ret _ _ _ _ (@de_non _ false _ _))
  ·exact @dss_nil _
 refine' @ak _ _ _ ?z384
 case z384=>
  refine' @ds_ret _ _ _ _ ?z385
  case z385=>
   refine' @de_tup _ false _ _ _ _ ?z386
   case z386=>
    refine' @ac _ false _ _ _ _ (@am _ false _ _ _) ?z387 (by rfl)
    case z387=>
     refine' @ac _ false _ _ _ _ (@nv _ _ _ _ false n2) ?z388 (by rfl)
     case z388=>
      refine' @ac _ false _ _ _ _ (@de_ix _ false false _ _ _ _ _ (@nv _ _ _ _ false n5) (@ae _ false _ _ _) (by exact fun _ _=>rfl)) ?z389 (by rfl)
      case z389=>
       exact @ac _ false _ _ _ _ (@de_ix _ false false _ _ _ _ _ (@nv _ _ _ _ false n5) (@ae _ false _ _ _) (by exact fun _ _=>rfl)) (@ag _ _) (by rfl)
theorem m_qr {f:Addr}{fd:FuncData}(F:Fun K "_law_told" "_law_told" s_qr f fd) (hb:Binds K fd (["_law_text"]:List Str) []) (hm:mg "_law_told"=some (.ref f)) (T:Txt K mg) (F_qi:FnM P w K mg base 1 "_law_unknowns" f_qi) (F_qp:FnM P w K mg base 2 "_law_term" f_qp) (F_qq:FnM P w K mg base 3 "_law_told_body" f_qq):
  FnOk P w K mg base CX0 4 f fd (["_law_text"]:List Str) (spM K f_qr)∧FnM P w K mg base 4 "_law_told" f_qr:=by
 have h:=fnM_of (P:=P) (w:=w) (base:=base) (k:=3) (g:=g_qr) F sc_qr hb hm (by decide) fun cdv A outer s H E hr=>by
  exact @d_qr ((cxOf CX0 P w K mg base N_qr "_law_told" (aa s_qr) f cdv A outer s H E).nox) (hasX sc_qr.nd) (fun _=>rfl) PassesOwn.never hr T F_qi F_qp F_qq
 exact h
theorem sc_qs:FnScope N_qs (["_law_text"]:List Str) (aa s_qs):=⟨rfl,rfl,rfl,by decide +kernel,rfl,by decide +kernel,by decide +kernel⟩
theorem d_qs {X:Cx}(hX:Has X N_qs (aa s_qs)) (hf:∀x,X.fn x=true) (hp:PassesOwn (model X.prog X.w) X.A X.env X.xe) (hno:∀e s',X.xe e s'→False) (hst:X.stack=X.env::X.outer∧X.env.frame=some X.env.locals) (hr:Room 6 X.A) (T:Txt X.K X.mg) (F_q5:FnX X.prog X.w X.K X.mg X.base 6 "read_rule" "NoText" f_q5) (F_qr:FnM X.prog X.w X.K X.mg X.base 4 "_law_told" f_qr):
  DSs X (ai s_qs) g_qs:=by
 have hu:=hr.units
 obtain⟨c_NoText,c_MustError,c_NoRow,e_NoText,e_MustError,e_NoRow,hsub,herr,k_NoText,k_ValueError,k_NoRow⟩:=T.err
 have n0:Nm X 0 "_law_text":=hX.nm (by decide +kernel)
 have n1:Nm X 1 "_law_due":=hX.nm (by decide +kernel)
 have l1:Lc X 1 "_law_due":=hX.lc hf (by decide +kernel)
 have n2:Nm X 2 "_law_error":=hX.nm (by decide +kernel)
 have l2:Lc X 2 "_law_error":=hX.lc hf (by decide +kernel)
 have n3:Nm X 3 "_law_found":=hX.nm (by decide +kernel)
 have l3:Lc X 3 "_law_found":=hX.lc hf (by decide +kernel)
 have n4:Nm X 4 "e":=hX.nm (by decide +kernel)
 have gg_MustError:Gb X "MustError":=hX.gb (by decide +kernel)
 have gg_NoRow:Gb X "NoRow":=hX.gb (by decide +kernel)
 have gg_NoText:Gb X "NoText":=hX.gb (by decide +kernel)
 have gg_ValueError:Gb X "ValueError":=hX.gb (by decide +kernel)
 have gg_qr:Gb X "_law_told":=hX.gb (by decide +kernel)
 have gg_isinstance:Gb X "isinstance":=hX.gb (by decide +kernel)
 have gg_list:Gb X "list":=hX.gb (by decide +kernel)
 have gg_q5:Gb X "read_rule":=hX.gb (by decide +kernel)
 have gg_tuple:Gb X "tuple":=hX.gb (by decide +kernel)
 refine' @ad _ _ _ _ _ ?z390 ?_
 case z390=>
  refine' @ds_set' _ _ _ _ _ _ _ hX.nd l1 ?z391 (by rfl)
  case z391=>
   exact @al _ false _ _ _ _ _ _ _ _ F_qr (hr.mono (by decide)) gg_qr (@ac _ false _ _ _ _ (@nv _ _ _ _ false n0) (@ag _ _) (by rfl)) (by rfl) (by rfl)
 refine @ad _ _ _ _ _ (@ds_set' _ _ _ _ _ _ _ hX.nd l2 (@de_non _ false _ _) (by rfl)) ?_
 refine @ad _ _ _ _ _ (@ds_set' _ _ _ _ _ _ _ hX.nd l3 (@de_non _ false _ _) (by rfl)) ?_
 refine @dss_tryN _ _ _ _ _ _ _ _ _ _ _ _ _ _ _ _ _ _ _ _ _ _ _ _ _ _ _ _ k_qs_1 k_qs_2 (⟨hno,hst,hX.nd,l3,l2,n4.at',by rw[hX.sc];rfl,e_NoText,e_MustError,hsub,gg_MustError.gl,gg_MustError.d1,n4.d1⟩:TryOk X "NoText" "MustError" "_law_found" "_law_error" "e" _ _ 3 2 4) F_q5 (hr.mono (by decide)) gg_q5.gl (@ac _ false _ _ _ _ (@nv _ _ _ _ false n0) (@ag _ _) (by rfl)) ?_ ?_ gg_q5.d1 (by rfl) (by rfl) (by rfl) (by rfl)
 ·refine @dn_if _ _ _ _ (fun δ=>retO ((match tyB (isiEO "NoText" true (rd false 2 δ))with|some true=>(match tyB (isiEO "NoText" true (rd false 2 δ))with|some true=>ofB (notO (tyB (isiEO "NoText" false (rd false 2 δ))))|some false=>some (.bl false)|none=>none)|some false=>some (.bl false)|none=>none))) _ _ _ _ (@dt_isN _ _ _ _ false _ _ (@nv _ _ _ _ false n1) (by rfl)) ?_ ?_
  ·refine' @ak _ _ _ ?z392
   case z392=>
    refine' @ds_ret _ _ _ _ ?z393
    case z393=>
     refine' @de_and _ false _ _ _ _ _ _ false (@de_isiC _ _ _ false false _ _ _ _ _ _ _ _ e_NoText herr e_NoText k_NoText gg_isinstance T.b_isinstance gg_NoText (@nv _ _ _ _ false n2) (by rfl) (by rfl) (by rfl)) ?z394
     case z394=>
      refine' @de_and _ false _ _ _ _ _ _ false (@de_isiB _ _ _ false false _ _ _ _ _ _ _ _ e_NoText herr k_ValueError gg_isinstance T.b_isinstance gg_ValueError T.b_ValueError bt_ValueError (@nv _ _ _ _ false n2) (by decide) (by rfl) (by rfl) (by rfl)) ?z395
      case z395=>
       refine' @de_one _ false _ _ _ _ false ?z396 (by rfl)
       case z396=>
        exact @de_not _ false _ _ _ false (@de_isiC _ _ _ false false _ _ _ _ _ _ _ _ e_NoText herr e_NoRow k_NoRow gg_isinstance T.b_isinstance gg_NoRow (@nv _ _ _ _ false n2) (by rfl) (by rfl) (by rfl))
  refine @dn_if _ _ _ _ (fun δ=>retO (some (.bl false))) _ _ _ _ (PW.pt (dw_or (dt_notN (nv false n2)) (dw_or (dt_not (dt_val (de_isi (mm:=false) (cs:="tuple") (by simp) gg_isinstance.gl T.b_isinstance gg_tuple.gl T.b_tuple bt_tuple (nv false n3)))) (dw_or (dt_ne hu (nv false n3) (nv false n1)) (dw_or1 (dt_not (dt_val (de_isi (mm:=false) (cs:="list") (by simp) gg_isinstance.gl T.b_isinstance gg_list.gl T.b_list bt_list (de_ix (nv false n3) (ae (m:=false))))))))))) ?_ ?_
  ·refine @ak _ _ _ (@ds_ret _ _ _ _ (@de_bl _ false _ _ _))
  refine @dn_append _ _ _ _ _ _ _ _ _ _ _ _ (fun δ=>some .non) (fun δ=>some (.int 1)) n3 (@ae _ false _ _ _) (@de_non _ false _ _) ?_ (by exact fun _ _=>rfl) (by rfl) (by rfl) (by rfl) (by rfl) (by rfl)
  refine' @ak _ _ _ ?z397
  case z397=>
   refine' @ds_ret _ _ _ _ ?z398
   case z398=>
    refine' @de_eq _ false false false _ _ _ _ _ hu ?z399 (@nv _ _ _ _ false n1)
    case z399=>
     refine' @de_noX _ "NoText" false _ _ ?z400
     case z400=>
      exact @dec_call' _ _ false _ _ _ _ _ _ _ _ F_q5 (hr.mono (by decide)) gg_q5 (@ac _ false _ _ _ _ (@nv _ _ _ _ false n0) (@ag _ _) (by rfl)) (by rfl) (by rfl)
 ·refine @ad _ _ _ _ _ (@ds_if _ _ _ _ _ _ _ _ (@dt_isN _ _ _ _ false _ _ (@nv _ _ _ _ false n1) (by rfl)) ?_ ?_) ?_
  ·refine' @ak _ _ _ ?z401
   case z401=>
    refine' @ds_ret _ _ _ _ ?z402
    case z402=>
     refine' @de_and _ false _ _ _ _ _ _ false (@de_isiC _ _ _ false false _ _ _ _ _ _ _ _ e_NoText herr e_NoText k_NoText gg_isinstance T.b_isinstance gg_NoText (@nv _ _ _ _ false n2) (by rfl) (by rfl) (by rfl)) ?z403
     case z403=>
      refine' @de_and _ false _ _ _ _ _ _ false (@de_isiB _ _ _ false false _ _ _ _ _ _ _ _ e_NoText herr k_ValueError gg_isinstance T.b_isinstance gg_ValueError T.b_ValueError bt_ValueError (@nv _ _ _ _ false n2) (by decide) (by rfl) (by rfl) (by rfl)) ?z404
      case z404=>
       refine' @de_one _ false _ _ _ _ false ?z405 (by rfl)
       case z405=>
        exact @de_not _ false _ _ _ false (@de_isiC _ _ _ false false _ _ _ _ _ _ _ _ e_NoText herr e_NoRow k_NoRow gg_isinstance T.b_isinstance gg_NoRow (@nv _ _ _ _ false n2) (by rfl) (by rfl) (by rfl))
  ·exact @dss_nil _
  refine @ad _ _ _ _ _ (@ds_if _ _ _ _ _ _ _ _ (PW.pt (dw_or (dt_notN (nv false n2)) (dw_or (dt_not (dt_val (de_isi (mm:=false) (cs:="tuple") (by simp) gg_isinstance.gl T.b_isinstance gg_tuple.gl T.b_tuple bt_tuple (nv false n3)))) (dw_or (dt_ne hu (nv false n3) (nv false n1)) (dw_or1 (dt_not (dt_val (de_isi (mm:=false) (cs:="list") (by simp) gg_isinstance.gl T.b_isinstance gg_list.gl T.b_list bt_list (de_ix (nv false n3) (ae (m:=false))))))))))) ?_ ?_) ?_
  ·refine @ak _ _ _ (@ds_ret _ _ _ _ (@de_bl _ false _ _ _))
  ·exact @dss_nil _
  refine @ad _ _ _ _ _ (@ds_none _ _) ?_
  refine' @ak _ _ _ ?z406
  case z406=>
   refine' @ds_ret _ _ _ _ ?z407
   case z407=>
    refine' @de_eq _ false false false _ _ _ _ _ hu ?z408 (@nv _ _ _ _ false n1)
    case z408=>
     refine' @de_noX _ "NoText" false _ _ ?z409
     case z409=>
      exact @dec_call' _ _ false _ _ _ _ _ _ _ _ F_q5 (hr.mono (by decide)) gg_q5 (@ac _ false _ _ _ _ (@nv _ _ _ _ false n0) (@ag _ _) (by rfl)) (by rfl) (by rfl)
theorem m_qs {f:Addr}{fd:FuncData}(F:Fun K "_law_right" "_law_right" s_qs f fd) (hb:Binds K fd (["_law_text"]:List Str) []) (hm:mg "_law_right"=some (.ref f)) (T:Txt K mg) (F_q5:FnX P w K mg base 6 "read_rule" "NoText" f_q5) (F_qr:FnM P w K mg base 4 "_law_told" f_qr):
  FnOk P w K mg base CX0 7 f fd (["_law_text"]:List Str) (spM K f_qs)∧FnM P w K mg base 7 "_law_right" f_qs:=by
 have h:=fnM_of (P:=P) (w:=w) (base:=base) (k:=6) (g:=g_qs) F sc_qs hb hm (by decide) fun cdv A outer s H E hr=>by
  exact @d_qs ((cxOf CX0 P w K mg base N_qs "_law_right" (aa s_qs) f cdv A outer s H E).nox) (hasX sc_qs.nd) (fun _=>rfl) PassesOwn.never (fun _ _ z=>z) ⟨rfl,rfl⟩ hr T F_q5 F_qr
 exact h
theorem sc_law:FnScope N_law (["_law_script"]:List Str) (aa s_law):=⟨rfl,rfl,rfl,by decide +kernel,rfl,by decide +kernel,by decide +kernel⟩
theorem d_law {X:Cx}(hX:Has X N_law (aa s_law)) (hf:∀x,X.fn x=true) (hp:PassesOwn (model X.prog X.w) X.A X.env X.xe) (hr:Room 7 X.A) (T:Txt X.K X.mg) (F_q2:FnM X.prog X.w X.K X.mg X.base 4 "show_rule" f_q2) (F_qj:FnM X.prog X.w X.K X.mg X.base 4 "_law_rule" f_qj) (F_ql:FnM X.prog X.w X.K X.mg X.base 2 "_law_shown" f_ql) (F_qn:FnM X.prog X.w X.K X.mg X.base 3 "_law_spoiled" f_qn) (F_qs:FnM X.prog X.w X.K X.mg X.base 7 "_law_right" f_qs):
  DSs X (ai s_law) g_law:=by
 have hu:=hr.units
 have n0:Nm X 0 "_law_script":=hX.nm (by decide +kernel)
 have n1:Nm X 1 "_law_cell":=hX.nm (by decide +kernel)
 have l1:Lc X 1 "_law_cell":=hX.lc hf (by decide +kernel)
 have n2:Nm X 2 "_law_rule_here":=hX.nm (by decide +kernel)
 have l2:Lc X 2 "_law_rule_here":=hX.lc hf (by decide +kernel)
 have n3:Nm X 3 "_law_kept":=hX.nm (by decide +kernel)
 have l3:Lc X 3 "_law_kept":=hX.lc hf (by decide +kernel)
 have n4:Nm X 4 "_law_text":=hX.nm (by decide +kernel)
 have l4:Lc X 4 "_law_text":=hX.lc hf (by decide +kernel)
 have n5:Nm X 5 "_law_found":=hX.nm (by decide +kernel)
 have l5:Lc X 5 "_law_found":=hX.lc hf (by decide +kernel)
 have gg_qs:Gb X "_law_right":=hX.gb (by decide +kernel)
 have gg_qj:Gb X "_law_rule":=hX.gb (by decide +kernel)
 have gg_ql:Gb X "_law_shown":=hX.gb (by decide +kernel)
 have gg_qn:Gb X "_law_spoiled":=hX.gb (by decide +kernel)
 have gg_isinstance:Gb X "isinstance":=hX.gb (by decide +kernel)
 have gg_q2:Gb X "show_rule":=hX.gb (by decide +kernel)
 have gg_str:Gb X "str":=hX.gb (by decide +kernel)
 refine' @ad _ _ _ _ _ (@ds_for _ _ _ _ _ _ b_law_1 _ hp hX.calm ?z410 (@dg_name' _ _ _ _ hX.nd l1) ?_ (by intro _;rfl)) ?_
 case z410=>
  refine' @di_list _ false _ _ _ ?z411
  case z411=>
   refine' @DF.share _ false _ _ ?z412
   case z412=>
    refine' @df_cat _ _ _ _ _ _ ?z413 ?z414
    case z413=>
     refine' @DF.share _ false _ _ ?z415
     case z415=>
      exact @df_cutL _ _ _ _ _ _ _ _ _ (@nv _ _ _ _ false n0) (@do_none _) (@do_some _ false _ _ (@ae _ false _ _ _))
    case z414=>
     refine' @DF.share _ false _ _ ?z416
     case z416=>
      exact @df_lst _ _ _ _ (@ac _ false _ _ _ _ (@ae _ false _ _ _) (@ag _ _) (by rfl))
 ·refine' @ad _ _ _ _ _ ?z417 ?_
  case z417=>
   refine' @ds_set' _ _ _ _ _ _ _ hX.nd l2 ?z418 (by rfl)
   case z418=>
    exact @al _ false _ _ _ _ _ _ _ _ F_qj (hr.mono (by decide)) gg_qj (@ac _ false _ _ _ _ (@nv _ _ _ _ false n1) (@ag _ _) (by rfl)) (by rfl) (by rfl)
  refine' @ad _ _ _ _ _ ?z419 ?_
  case z419=>
   refine' @ds_set' _ _ _ _ _ _ _ hX.nd l3 ?z420 (by rfl)
   case z420=>
    exact @al _ false _ _ _ _ _ _ _ _ F_qj (hr.mono (by decide)) gg_qj (@ac _ false _ _ _ _ (@nv _ _ _ _ false n1) (@ag _ _) (by rfl)) (by rfl) (by rfl)
  refine' @ad _ _ _ _ _ ?z421 ?_
  case z421=>
   refine' @ds_set' _ _ _ _ _ _ _ hX.nd l4 ?z422 (by rfl)
   case z422=>
    exact @al _ false _ _ _ _ _ _ _ _ F_ql (hr.mono (by decide)) gg_ql (@ac _ false _ _ _ _ (@nv _ _ _ _ false n2) (@ag _ _) (by rfl)) (by rfl) (by rfl)
  refine' @ad _ _ _ _ _ ?z423 ?_
  case z423=>
   refine' @ds_set' _ _ _ _ _ _ _ hX.nd l5 ?z424 (by rfl)
   case z424=>
    exact @al _ false _ _ _ _ _ _ _ _ F_q2 (hr.mono (by decide)) gg_q2 (@ac _ false _ _ _ _ (@nv _ _ _ _ false n2) (@ag _ _) (by rfl)) (by rfl) (by rfl)
  refine @ad _ _ _ _ _ (@ds_if _ _ _ _ _ _ _ _ (PW.pt (dw_or (dt_not (dt_val (de_isi (mm:=false) (cs:="str") (by simp) gg_isinstance.gl T.b_isinstance gg_str.gl T.b_str bt_str (nv false n5)))) (dw_or (dt_ne hu (nv false n5) (nv false n4)) (dw_or1 (dt_ne hu (nv false n2) (nv false n3)))))) ?_ ?_) ?_
  ·refine @ak _ _ _ (@ds_ret _ _ _ _ (@de_bl _ false _ _ _))
  ·exact @dss_nil _
  refine @ak _ _ _ (@ds_if _ _ _ _ _ _ _ _ (PW.pt (dw_or (dt_not (dt_val (al F_qs (hr.mono (by decide)) gg_qs (ac (nv false n5) (ag))))) (dw_or1 (dt_not (dt_val (al F_qs (hr.mono (by decide)) gg_qs (ac (al F_qn (hr.mono (by decide)) gg_qn (ac (nv false n4) (ac (nv false n1) (ag)))) (ag)))))))) ?_ ?_)
  ·refine @ak _ _ _ (@ds_ret _ _ _ _ (@de_bl _ false _ _ _))
  ·exact @dss_nil _
 refine @ak _ _ _ (@ds_ret _ _ _ _ (@de_bl _ false _ _ _))
theorem m_law {f:Addr}{fd:FuncData}(F:Fun K "law" "law" s_law f fd) (hb:Binds K fd (["_law_script"]:List Str) []) (hm:mg "law"=some (.ref f)) (T:Txt K mg) (F_q2:FnM P w K mg base 4 "show_rule" f_q2) (F_qj:FnM P w K mg base 4 "_law_rule" f_qj) (F_ql:FnM P w K mg base 2 "_law_shown" f_ql) (F_qn:FnM P w K mg base 3 "_law_spoiled" f_qn) (F_qs:FnM P w K mg base 7 "_law_right" f_qs):
  FnOk P w K mg base CX0 8 f fd (["_law_script"]:List Str) (spM K f_law)∧FnM P w K mg base 8 "law" f_law:=by
 have h:=fnM_of (P:=P) (w:=w) (base:=base) (k:=7) (g:=g_law) F sc_law hb hm (by decide) fun cdv A outer s H E hr=>by
  exact @d_law ((cxOf CX0 P w K mg base N_law "law" (aa s_law) f cdv A outer s H E).nox) (hasX sc_law.nd) (fun _=>rfl) PassesOwn.never hr T F_q2 F_qj F_ql F_qn F_qs
 exact h
end
theorem us1 {P:List Value→Prop}(h:∀a,P [a]):∀us:List Value,us.length=1→P us
 |[a],_=>h a
theorem us2 {P:List Value→Prop}(h:∀a b,P [a,b]):∀us:List Value,us.length=2→P us
 |[a,b],_=>h a b
theorem all_mk {l:PySem.W.OpenLaw}{w:World}{K:Frag}{h:Heap}{mg:Str→Option Value}{fa f0 f1 f2 f3 f4 f5 f6 f7 f8 f9 f10 f11 f12 f13 f14 f15 f16 f17 f18 f19 f20 f21 f22 f23 f24 f25 f26 f27 f28 f29:Addr}(X:K.In h) (G:h.Ns mainGlobals mg) (hfa:mg "law"=some (.ref fa))
  {od0 an0 od1 an1 od2 an2 od3 an3 od4 an4 od5 an5 od6 an6 od7 an7 od8 an8 od9 an9 od10 an10 od11 an11 od12 an12 od13 an13 od14 an14 od15 an15 od16 an16 od17 an17 od18 an18 od19 an19 od20 an20 od21 an21 od22 an22 od23 an23 od24 an24 od25 an25 od26 an26 od27 an27 od28 an28 od29 an29:Option Addr}{sl0 sl1 sl2 sl3 sl4 sl5 sl6 sl7 sl8 sl9 sl10 sl11 sl12 sl13 sl14 sl15 sl16 sl17 sl18 sl19 sl20 sl21 sl22 sl23 sl24 sl25 sl26 sl27 sl28 sl29:Array (Option Value)}{oc0 kV0 dc0 pm0 cd0 ct0 oc1 kV1 dc1 pm1 cd1 ct1 oc2 kV2 dc2 pm2 cd2 ct2 oc3 kV3 dc3 pm3 cd3 ct3 oc4 kV4 dc4 pm4 cd4 ct4 oc5 kV5 dc5 pm5 cd5 ct5 oc6 kV6 dc6 pm6 cd6 ct6 oc7 kV7 dc7 pm7 cd7 ct7 oc8 kV8 dc8 pm8 cd8 ct8 oc9 kV9 dc9 pm9 cd9 ct9 oc10 kV10 dc10 pm10 cd10 ct10 oc11 kV11 dc11 pm11 cd11 ct11 oc12 kV12 dc12 pm12 cd12 ct12 oc13 kV13 dc13 pm13 cd13 ct13 oc14 kV14 dc14 pm14 cd14 ct14 oc15 kV15 dc15 pm15 cd15 ct15 oc16 kV16 dc16 pm16 cd16 ct16 oc17 kV17 dc17 pm17 cd17 ct17 oc18 kV18 dc18 pm18 cd18 ct18 oc19 kV19 dc19 pm19 cd19 ct19 oc20 kV20 dc20 pm20 cd20 ct20 oc21 kV21 dc21 pm21 cd21 ct21 oc22 kV22 dc22 pm22 cd22 ct22 oc23 kV23 dc23 pm23 cd23 ct23 oc24 kV24 dc24 pm24 cd24 ct24 oc25 kV25 dc25 pm25 cd25 ct25 oc26 kV26 dc26 pm26 cd26 ct26 oc27 kV27 dc27 pm27 cd27 ct27 oc28 kV28 dc28 pm28 cd28 ct28 oc29 kV29 dc29 pm29 cd29 ct29:Value}{t_GREAT_LETTERS t_SMALL_LETTERS:Tok}{c_NoText c_MustError c_NoRow:Addr}
  (a0:PySem.W.nsIn K mainGlobals "letters_of"=some (some (.ref f0))) (l0:K.lookup f0=some ⟨oc0,od0,.func (PySem.W.fnOf "letters_of" "letters_of" (defArgs s_q0) (ai s_q0) (aa s_q0) .none kV0 dc0 pm0 an0 cd0 ct0),sl0⟩) (c0:PySem.W.codeIn K cd0 "letters_of"=true) (k0:PySem.W.keepIn K (.ref f0)=true)
  (a1:PySem.W.nsIn K mainGlobals "show_term"=some (some (.ref f1))) (l1:K.lookup f1=some ⟨oc1,od1,.func (PySem.W.fnOf "show_term" "show_term" (defArgs s_q4) (ai s_q4) (aa s_q4) .none kV1 dc1 pm1 an1 cd1 ct1),sl1⟩) (c1:PySem.W.codeIn K cd1 "show_term"=true) (k1:PySem.W.keepIn K (.ref f1)=true)
  (a2:PySem.W.nsIn K mainGlobals "show_row"=some (some (.ref f2))) (l2:K.lookup f2=some ⟨oc2,od2,.func (PySem.W.fnOf "show_row" "show_row" (defArgs s_q1) (ai s_q1) (aa s_q1) .none kV2 dc2 pm2 an2 cd2 ct2),sl2⟩) (c2:PySem.W.codeIn K cd2 "show_row"=true) (k2:PySem.W.keepIn K (.ref f2)=true)
  (a3:PySem.W.nsIn K mainGlobals "show_patterns"=some (some (.ref f3))) (l3:K.lookup f3=some ⟨oc3,od3,.func (PySem.W.fnOf "show_patterns" "show_patterns" (defArgs s_q3) (ai s_q3) (aa s_q3) .none kV3 dc3 pm3 an3 cd3 ct3),sl3⟩) (c3:PySem.W.codeIn K cd3 "show_patterns"=true) (k3:PySem.W.keepIn K (.ref f3)=true)
  (a4:PySem.W.nsIn K mainGlobals "show_rule"=some (some (.ref f4))) (l4:K.lookup f4=some ⟨oc4,od4,.func (PySem.W.fnOf "show_rule" "show_rule" (defArgs s_q2) (ai s_q2) (aa s_q2) .none kV4 dc4 pm4 an4 cd4 ct4),sl4⟩) (c4:PySem.W.codeIn K cd4 "show_rule"=true) (k4:PySem.W.keepIn K (.ref f4)=true)
  (a5:PySem.W.nsIn K mainGlobals "demand"=some (some (.ref f5))) (l5:K.lookup f5=some ⟨oc5,od5,.func (PySem.W.fnOf "demand" "demand" (defArgs s_qd) (ai s_qd) (aa s_qd) .none kV5 dc5 pm5 an5 cd5 ct5),sl5⟩) (c5:PySem.W.codeIn K cd5 "demand"=true) (k5:PySem.W.keepIn K (.ref f5)=true)
  (a6:PySem.W.nsIn K mainGlobals "demand_text"=some (some (.ref f6))) (l6:K.lookup f6=some ⟨oc6,od6,.func (PySem.W.fnOf "demand_text" "demand_text" (defArgs s_qc) (ai s_qc) (aa s_qc) .none kV6 dc6 pm6 an6 cd6 ct6),sl6⟩) (c6:PySem.W.codeIn K cd6 "demand_text"=true) (k6:PySem.W.keepIn K (.ref f6)=true)
  (a7:PySem.W.nsIn K mainGlobals "only_of"=some (some (.ref f7))) (l7:K.lookup f7=some ⟨oc7,od7,.func (PySem.W.fnOf "only_of" "only_of" (defArgs s_qb) (ai s_qb) (aa s_qb) .none kV7 dc7 pm7 an7 cd7 ct7),sl7⟩) (c7:PySem.W.codeIn K cd7 "only_of"=true) (k7:PySem.W.keepIn K (.ref f7)=true)
  (a8:PySem.W.nsIn K mainGlobals "read_name"=some (some (.ref f8))) (l8:K.lookup f8=some ⟨oc8,od8,.func (PySem.W.fnOf "read_name" "read_name" (defArgs s_qa) (ai s_qa) (aa s_qa) .none kV8 dc8 pm8 an8 cd8 ct8),sl8⟩) (c8:PySem.W.codeIn K cd8 "read_name"=true) (k8:PySem.W.keepIn K (.ref f8)=true)
  (a9:PySem.W.nsIn K mainGlobals "read_term"=some (some (.ref f9))) (l9:K.lookup f9=some ⟨oc9,od9,.func (PySem.W.fnOf "read_term" "read_term" (defArgs s_q8) (ai s_q8) (aa s_q8) .none kV9 dc9 pm9 an9 cd9 ct9),sl9⟩) (c9:PySem.W.codeIn K cd9 "read_term"=true) (k9:PySem.W.keepIn K (.ref f9)=true)
  (a10:PySem.W.nsIn K mainGlobals "read_line"=some (some (.ref f10))) (l10:K.lookup f10=some ⟨oc10,od10,.func (PySem.W.fnOf "read_line" "read_line" (defArgs s_q7) (ai s_q7) (aa s_q7) .none kV10 dc10 pm10 an10 cd10 ct10),sl10⟩) (c10:PySem.W.codeIn K cd10 "read_line"=true) (k10:PySem.W.keepIn K (.ref f10)=true)
  (a11:PySem.W.nsIn K mainGlobals "read_patterns"=some (some (.ref f11))) (l11:K.lookup f11=some ⟨oc11,od11,.func (PySem.W.fnOf "read_patterns" "read_patterns" (defArgs s_q6) (ai s_q6) (aa s_q6) .none kV11 dc11 pm11 an11 cd11 ct11),sl11⟩) (c11:PySem.W.codeIn K cd11 "read_patterns"=true) (k11:PySem.W.keepIn K (.ref f11)=true)
  (a12:PySem.W.nsIn K mainGlobals "read_known_term"=some (some (.ref f12))) (l12:K.lookup f12=some ⟨oc12,od12,.func (PySem.W.fnOf "read_known_term" "read_known_term" (defArgs s_q9) (ai s_q9) (aa s_q9) .none kV12 dc12 pm12 an12 cd12 ct12),sl12⟩) (c12:PySem.W.codeIn K cd12 "read_known_term"=true) (k12:PySem.W.keepIn K (.ref f12)=true)
  (a13:PySem.W.nsIn K mainGlobals "read_rule"=some (some (.ref f13))) (l13:K.lookup f13=some ⟨oc13,od13,.func (PySem.W.fnOf "read_rule" "read_rule" (defArgs s_q5) (ai s_q5) (aa s_q5) .none kV13 dc13 pm13 an13 cd13 ct13),sl13⟩) (c13:PySem.W.codeIn K cd13 "read_rule"=true) (k13:PySem.W.keepIn K (.ref f13)=true)
  (a14:PySem.W.nsIn K mainGlobals "_law_mix"=some (some (.ref f14))) (l14:K.lookup f14=some ⟨oc14,od14,.func (PySem.W.fnOf "_law_mix" "_law_mix" (defArgs s_qe) (ai s_qe) (aa s_qe) .none kV14 dc14 pm14 an14 cd14 ct14),sl14⟩) (c14:PySem.W.codeIn K cd14 "_law_mix"=true) (k14:PySem.W.keepIn K (.ref f14)=true)
  (a15:PySem.W.nsIn K mainGlobals "_law_name"=some (some (.ref f15))) (l15:K.lookup f15=some ⟨oc15,od15,.func (PySem.W.fnOf "_law_name" "_law_name" (defArgs s_qf) (ai s_qf) (aa s_qf) .none kV15 dc15 pm15 an15 cd15 ct15),sl15⟩) (c15:PySem.W.codeIn K cd15 "_law_name"=true) (k15:PySem.W.keepIn K (.ref f15)=true)
  (a16:PySem.W.nsIn K mainGlobals "_law_letters"=some (some (.ref f16))) (l16:K.lookup f16=some ⟨oc16,od16,.func (PySem.W.fnOf "_law_letters" "_law_letters" (defArgs s_qg) (ai s_qg) (aa s_qg) .none kV16 dc16 pm16 an16 cd16 ct16),sl16⟩) (c16:PySem.W.codeIn K cd16 "_law_letters"=true) (k16:PySem.W.keepIn K (.ref f16)=true)
  (a17:PySem.W.nsIn K mainGlobals "_law_body"=some (some (.ref f17))) (l17:K.lookup f17=some ⟨oc17,od17,.func (PySem.W.fnOf "_law_body" "_law_body" (defArgs s_qh) (ai s_qh) (aa s_qh) .none kV17 dc17 pm17 an17 cd17 ct17),sl17⟩) (c17:PySem.W.codeIn K cd17 "_law_body"=true) (k17:PySem.W.keepIn K (.ref f17)=true)
  (a18:PySem.W.nsIn K mainGlobals "_law_unknowns"=some (some (.ref f18))) (l18:K.lookup f18=some ⟨oc18,od18,.func (PySem.W.fnOf "_law_unknowns" "_law_unknowns" (defArgs s_qi) (ai s_qi) (aa s_qi) .none kV18 dc18 pm18 an18 cd18 ct18),sl18⟩) (c18:PySem.W.codeIn K cd18 "_law_unknowns"=true) (k18:PySem.W.keepIn K (.ref f18)=true)
  (a19:PySem.W.nsIn K mainGlobals "_law_rule"=some (some (.ref f19))) (l19:K.lookup f19=some ⟨oc19,od19,.func (PySem.W.fnOf "_law_rule" "_law_rule" (defArgs s_qj) (ai s_qj) (aa s_qj) .none kV19 dc19 pm19 an19 cd19 ct19),sl19⟩) (c19:PySem.W.codeIn K cd19 "_law_rule"=true) (k19:PySem.W.keepIn K (.ref f19)=true)
  (a20:PySem.W.nsIn K mainGlobals "_law_patterns_text"=some (some (.ref f20))) (l20:K.lookup f20=some ⟨oc20,od20,.func (PySem.W.fnOf "_law_patterns_text" "_law_patterns_text" (defArgs s_qk) (ai s_qk) (aa s_qk) .none kV20 dc20 pm20 an20 cd20 ct20),sl20⟩) (c20:PySem.W.codeIn K cd20 "_law_patterns_text"=true) (k20:PySem.W.keepIn K (.ref f20)=true)
  (a21:PySem.W.nsIn K mainGlobals "_law_shown"=some (some (.ref f21))) (l21:K.lookup f21=some ⟨oc21,od21,.func (PySem.W.fnOf "_law_shown" "_law_shown" (defArgs s_ql) (ai s_ql) (aa s_ql) .none kV21 dc21 pm21 an21 cd21 ct21),sl21⟩) (c21:PySem.W.codeIn K cd21 "_law_shown"=true) (k21:PySem.W.keepIn K (.ref f21)=true)
  (a22:PySem.W.nsIn K mainGlobals "_law_odd"=some (some (.ref f22))) (l22:K.lookup f22=some ⟨oc22,od22,.func (PySem.W.fnOf "_law_odd" "_law_odd" (defArgs s_qm) (ai s_qm) (aa s_qm) .none kV22 dc22 pm22 an22 cd22 ct22),sl22⟩) (c22:PySem.W.codeIn K cd22 "_law_odd"=true) (k22:PySem.W.keepIn K (.ref f22)=true)
  (a23:PySem.W.nsIn K mainGlobals "_law_spoiled"=some (some (.ref f23))) (l23:K.lookup f23=some ⟨oc23,od23,.func (PySem.W.fnOf "_law_spoiled" "_law_spoiled" (defArgs s_qn) (ai s_qn) (aa s_qn) .none kV23 dc23 pm23 an23 cd23 ct23),sl23⟩) (c23:PySem.W.codeIn K cd23 "_law_spoiled"=true) (k23:PySem.W.keepIn K (.ref f23)=true)
  (a24:PySem.W.nsIn K mainGlobals "_law_is_name"=some (some (.ref f24))) (l24:K.lookup f24=some ⟨oc24,od24,.func (PySem.W.fnOf "_law_is_name" "_law_is_name" (defArgs s_qo) (ai s_qo) (aa s_qo) .none kV24 dc24 pm24 an24 cd24 ct24),sl24⟩) (c24:PySem.W.codeIn K cd24 "_law_is_name"=true) (k24:PySem.W.keepIn K (.ref f24)=true)
  (a25:PySem.W.nsIn K mainGlobals "_law_term"=some (some (.ref f25))) (l25:K.lookup f25=some ⟨oc25,od25,.func (PySem.W.fnOf "_law_term" "_law_term" (defArgs s_qp) (ai s_qp) (aa s_qp) .none kV25 dc25 pm25 an25 cd25 ct25),sl25⟩) (c25:PySem.W.codeIn K cd25 "_law_term"=true) (k25:PySem.W.keepIn K (.ref f25)=true)
  (a26:PySem.W.nsIn K mainGlobals "_law_told_body"=some (some (.ref f26))) (l26:K.lookup f26=some ⟨oc26,od26,.func (PySem.W.fnOf "_law_told_body" "_law_told_body" (defArgs s_qq) (ai s_qq) (aa s_qq) .none kV26 dc26 pm26 an26 cd26 ct26),sl26⟩) (c26:PySem.W.codeIn K cd26 "_law_told_body"=true) (k26:PySem.W.keepIn K (.ref f26)=true)
  (a27:PySem.W.nsIn K mainGlobals "_law_told"=some (some (.ref f27))) (l27:K.lookup f27=some ⟨oc27,od27,.func (PySem.W.fnOf "_law_told" "_law_told" (defArgs s_qr) (ai s_qr) (aa s_qr) .none kV27 dc27 pm27 an27 cd27 ct27),sl27⟩) (c27:PySem.W.codeIn K cd27 "_law_told"=true) (k27:PySem.W.keepIn K (.ref f27)=true)
  (a28:PySem.W.nsIn K mainGlobals "_law_right"=some (some (.ref f28))) (l28:K.lookup f28=some ⟨oc28,od28,.func (PySem.W.fnOf "_law_right" "_law_right" (defArgs s_qs) (ai s_qs) (aa s_qs) .none kV28 dc28 pm28 an28 cd28 ct28),sl28⟩) (c28:PySem.W.codeIn K cd28 "_law_right"=true) (k28:PySem.W.keepIn K (.ref f28)=true)
  (a29:PySem.W.nsIn K mainGlobals "law"=some (some (.ref f29))) (l29:K.lookup f29=some ⟨oc29,od29,.func (PySem.W.fnOf "law" "law" (defArgs s_law) (ai s_law) (aa s_law) .none kV29 dc29 pm29 an29 cd29 ct29),sl29⟩) (c29:PySem.W.codeIn K cd29 "law"=true) (k29:PySem.W.keepIn K (.ref f29)=true)
  (z_ValueError:PySem.W.nsIn K mainGlobals "ValueError"=some none) (z_all:PySem.W.nsIn K mainGlobals "all"=some none) (z_isinstance:PySem.W.nsIn K mainGlobals "isinstance"=some none) (z_len:PySem.W.nsIn K mainGlobals "len"=some none) (z_list:PySem.W.nsIn K mainGlobals "list"=some none) (z_range:PySem.W.nsIn K mainGlobals "range"=some none) (z_set:PySem.W.nsIn K mainGlobals "set"=some none) (z_sorted:PySem.W.nsIn K mainGlobals "sorted"=some none) (z_str:PySem.W.nsIn K mainGlobals "str"=some none) (z_tuple:PySem.W.nsIn K mainGlobals "tuple"=some none) (y_GREAT_LETTERS:PySem.W.nsIn K mainGlobals "GREAT_LETTERS"=some (some (.str "ABCDEFGHIJKLMNOPQRSTUVWXYZ" t_GREAT_LETTERS))) (y_SMALL_LETTERS:PySem.W.nsIn K mainGlobals "SMALL_LETTERS"=some (some (.str "abcdefghijklmnopqrstuvwxyz" t_SMALL_LETTERS))) (n_NoText:PySem.W.nsIn K mainGlobals "NoText"=some (some (.ref c_NoText))) (x_NoText:PySem.W.excIn K c_NoText [.type "ValueError",.type "Exception",.type "BaseException",.type "object"] "ValueError.__new__"=true) (n_MustError:PySem.W.nsIn K mainGlobals "MustError"=some (some (.ref c_MustError))) (x_MustError:PySem.W.excIn K c_MustError [.type "ValueError",.type "Exception",.type "BaseException",.type "object"] "ValueError.__new__"=true) (n_NoRow:PySem.W.nsIn K mainGlobals "NoRow"=some (some (.ref c_NoRow))) (x_NoRow:PySem.W.excIn K c_NoRow [.type "ValueError",.type "Exception",.type "BaseException",.type "object"] "ValueError.__new__"=true) (hsub:L2.subIn K c_NoText c_MustError=some true) (herr:errIn K c_NoText=true) (k_NoText:PySem.W.kitOne K (.ref c_NoText) (.ref c_NoText)=some true) (k_ValueError:PySem.W.kitOne K (.ref c_NoText) (.type "ValueError")=some true) (k_NoRow:PySem.W.kitOne K (.ref c_NoText) (.ref c_NoRow)=some false):
  ∃fd:FuncData,(∀(s:Shared) (v:Value),BindsTo s fd ⟨[v],[]⟩ [("_law_script",v)])∧∀base:Heap,K.In base→base.Ns mainGlobals mg→FnOk l.prog w K mg base CX0 8 fa fd ["_law_script"] (spM K f_law):=by
 have e:=hfa.symm.trans (PySem.W.mg_of X G a29)
 cases e
 have T:Txt K mg:=⟨PySem.W.mg_none_of X G z_ValueError,PySem.W.mg_none_of X G z_all,PySem.W.mg_none_of X G z_isinstance,PySem.W.mg_none_of X G z_len,PySem.W.mg_none_of X G z_list,PySem.W.mg_none_of X G z_range,PySem.W.mg_none_of X G z_set,PySem.W.mg_none_of X G z_sorted,PySem.W.mg_none_of X G z_str,PySem.W.mg_none_of X G z_tuple,⟨_,PySem.W.mg_of X G y_GREAT_LETTERS⟩,⟨_,PySem.W.mg_of X G y_SMALL_LETTERS⟩,⟨c_NoText,c_MustError,c_NoRow,⟨n_NoText,PySem.W.mg_of X G n_NoText,x_NoText⟩,⟨n_MustError,PySem.W.mg_of X G n_MustError,x_MustError⟩,⟨n_NoRow,PySem.W.mg_of X G n_NoRow,x_NoRow⟩,hsub,herr,k_NoText,k_ValueError,k_NoRow⟩⟩
 have G0:=fun_mk (st:=s_q0) l0 c0 k0
 have b0:=G0.binds (ps:=["patterns"]) fun _ _ _ _ _ _=>us1 fun _=>rfl
 have G1:=fun_mk (st:=s_q4) l1 c1 k1
 have b1:=G1.binds (ps:=["term"]) fun _ _ _ _ _ _=>us1 fun _=>rfl
 have G2:=fun_mk (st:=s_q1) l2 c2 k2
 have b2:=G2.binds (ps:=["row"]) fun _ _ _ _ _ _=>us1 fun _=>rfl
 have G3:=fun_mk (st:=s_q3) l3 c3 k3
 have b3:=G3.binds (ps:=["patterns"]) fun _ _ _ _ _ _=>us1 fun _=>rfl
 have G4:=fun_mk (st:=s_q2) l4 c4 k4
 have b4:=G4.binds (ps:=["rule"]) fun _ _ _ _ _ _=>us1 fun _=>rfl
 have G5:=fun_mk (st:=s_qd) l5 c5 k5
 have b5:=G5.binds (ps:=["holds","words"]) fun _ _ _ _ _ _=>us2 fun _ _=>rfl
 have G6:=fun_mk (st:=s_qc) l6 c6 k6
 have b6:=G6.binds (ps:=["text"]) fun _ _ _ _ _ _=>us1 fun _=>rfl
 have G7:=fun_mk (st:=s_qb) l7 c7 k7
 have b7:=G7.binds (ps:=["text","signs"]) fun _ _ _ _ _ _=>us2 fun _ _=>rfl
 have G8:=fun_mk (st:=s_qa) l8 c8 k8
 have b8:=G8.binds (ps:=["word"]) fun _ _ _ _ _ _=>us1 fun _=>rfl
 have G9:=fun_mk (st:=s_q8) l9 c9 k9
 have b9:=G9.binds (ps:=["word"]) fun _ _ _ _ _ _=>us1 fun _=>rfl
 have G10:=fun_mk (st:=s_q7) l10 c10 k10
 have b10:=G10.binds (ps:=["text","read_word"]) fun _ _ _ _ _ _=>us2 fun _ _=>rfl
 have G11:=fun_mk (st:=s_q6) l11 c11 k11
 have b11:=G11.binds (ps:=["text"]) fun _ _ _ _ _ _=>us1 fun _=>rfl
 have G12:=fun_mk (st:=s_q9) l12 c12 k12
 have b12:=G12.binds (ps:=["word","body"]) fun _ _ _ _ _ _=>us2 fun _ _=>rfl
 have G13:=fun_mk (st:=s_q5) l13 c13 k13
 have b13:=G13.binds (ps:=["text"]) fun _ _ _ _ _ _=>us1 fun _=>rfl
 have G14:=fun_mk (st:=s_qe) l14 c14 k14
 have b14:=G14.binds (ps:=["_law_cell","_law_j"]) fun _ _ _ _ _ _=>us2 fun _ _=>rfl
 have G15:=fun_mk (st:=s_qf) l15 c15 k15
 have b15:=G15.binds (ps:=["_law_cell","_law_far"]) fun _ _ _ _ _ _=>us2 fun _ _=>rfl
 have G16:=fun_mk (st:=s_qg) l16 c16 k16
 have b16:=G16.binds (ps:=["_law_cell"]) fun _ _ _ _ _ _=>us1 fun _=>rfl
 have G17:=fun_mk (st:=s_qh) l17 c17 k17
 have b17:=G17.binds (ps:=["_law_cell","_law_far"]) fun _ _ _ _ _ _=>us2 fun _ _=>rfl
 have G18:=fun_mk (st:=s_qi) l18 c18 k18
 have b18:=G18.binds (ps:=["_law_body_here"]) fun _ _ _ _ _ _=>us1 fun _=>rfl
 have G19:=fun_mk (st:=s_qj) l19 c19 k19
 have b19:=G19.binds (ps:=["_law_cell"]) fun _ _ _ _ _ _=>us1 fun _=>rfl
 have G20:=fun_mk (st:=s_qk) l20 c20 k20
 have b20:=G20.binds (ps:=["_law_patterns"]) fun _ _ _ _ _ _=>us1 fun _=>rfl
 have G21:=fun_mk (st:=s_ql) l21 c21 k21
 have b21:=G21.binds (ps:=["_law_rule_here"]) fun _ _ _ _ _ _=>us1 fun _=>rfl
 have G22:=fun_mk (st:=s_qm) l22 c22 k22
 have b22:=G22.binds (ps:=["_law_cell"]) fun _ _ _ _ _ _=>us1 fun _=>rfl
 have G23:=fun_mk (st:=s_qn) l23 c23 k23
 have b23:=G23.binds (ps:=["_law_text","_law_cell"]) fun _ _ _ _ _ _=>us2 fun _ _=>rfl
 have G24:=fun_mk (st:=s_qo) l24 c24 k24
 have b24:=G24.binds (ps:=["_law_word"]) fun _ _ _ _ _ _=>us1 fun _=>rfl
 have G25:=fun_mk (st:=s_qp) l25 c25 k25
 have b25:=G25.binds (ps:=["_law_word"]) fun _ _ _ _ _ _=>us1 fun _=>rfl
 have G26:=fun_mk (st:=s_qq) l26 c26 k26
 have b26:=G26.binds (ps:=["_law_text"]) fun _ _ _ _ _ _=>us1 fun _=>rfl
 have G27:=fun_mk (st:=s_qr) l27 c27 k27
 have b27:=G27.binds (ps:=["_law_text"]) fun _ _ _ _ _ _=>us1 fun _=>rfl
 have G28:=fun_mk (st:=s_qs) l28 c28 k28
 have b28:=G28.binds (ps:=["_law_text"]) fun _ _ _ _ _ _=>us1 fun _=>rfl
 have G29:=fun_mk (st:=s_law) l29 c29 k29
 have b29:=G29.binds (ps:=["_law_script"]) fun _ _ _ _ _ _=>us1 fun _=>rfl
 refine⟨PySem.W.fnOf "law" "law" (defArgs s_law) (ai s_law) (aa s_law) .none kV29 dc29 pm29 an29 cd29 ct29,fun s v=>.of_eq rfl,fun base _ _=>?_⟩
 have M_letters_of:=m_q0 (P:=l.prog) (w:=w) (base:=base) G0 b0 (PySem.W.mg_of X G a0) T
 have M_show_term:=m_q4 (P:=l.prog) (w:=w) (base:=base) G1 b1 (PySem.W.mg_of X G a1) T
 have M_show_row:=m_q1 (P:=l.prog) (w:=w) (base:=base) G2 b2 (PySem.W.mg_of X G a2) T M_show_term.2
 have M_show_patterns:=m_q3 (P:=l.prog) (w:=w) (base:=base) G3 b3 (PySem.W.mg_of X G a3) T M_show_row.2
 have M_show_rule:=m_q2 (P:=l.prog) (w:=w) (base:=base) G4 b4 (PySem.W.mg_of X G a4) T M_show_term.2 M_show_patterns.2
 have M_demand:=m_qd (P:=l.prog) (w:=w) (base:=base) G5 b5 (PySem.W.mg_of X G a5) a5 T
 have M_demand_text:=m_qc (P:=l.prog) (w:=w) (base:=base) G6 b6 (PySem.W.mg_of X G a6) a6 T M_demand
 have M_only_of:=m_qb (P:=l.prog) (w:=w) (base:=base) G7 b7 (PySem.W.mg_of X G a7) T
 have M_read_name:=m_qa (P:=l.prog) (w:=w) (base:=base) G8 b8 (PySem.W.mg_of X G a8) a8 T M_demand M_only_of.2
 have M_read_term:=m_q8 (P:=l.prog) (w:=w) (base:=base) G9 b9 (PySem.W.mg_of X G a9) a9 T M_read_name
 have M_read_line:=m_q7 (P:=l.prog) (w:=w) (base:=base) G10 b10 (PySem.W.mg_of X G a10) a10 T M_demand M_read_name M_read_term
 have M_read_patterns:=m_q6 (P:=l.prog) (w:=w) (base:=base) G11 b11 (PySem.W.mg_of X G a11) a11 T M_demand M_read_term M_read_line
 have M_read_known_term:=m_q9 (P:=l.prog) (w:=w) (base:=base) G12 b12 (PySem.W.mg_of X G a12) a12 T M_letters_of.2 M_demand M_read_term
 have M_read_rule:=m_q5 (P:=l.prog) (w:=w) (base:=base) G13 b13 (PySem.W.mg_of X G a13) a13 T M_demand M_demand_text M_read_patterns M_read_known_term
 have M__law_mix:=m_qe (P:=l.prog) (w:=w) (base:=base) G14 b14 (PySem.W.mg_of X G a14) T
 have M__law_name:=m_qf (P:=l.prog) (w:=w) (base:=base) G15 b15 (PySem.W.mg_of X G a15) T M__law_mix.2
 have M__law_letters:=m_qg (P:=l.prog) (w:=w) (base:=base) G16 b16 (PySem.W.mg_of X G a16) T M__law_mix.2
 have M__law_body:=m_qh (P:=l.prog) (w:=w) (base:=base) G17 b17 (PySem.W.mg_of X G a17) T M__law_mix.2 M__law_name.2 M__law_letters.2
 have M__law_unknowns:=m_qi (P:=l.prog) (w:=w) (base:=base) G18 b18 (PySem.W.mg_of X G a18) T
 have M__law_rule:=m_qj (P:=l.prog) (w:=w) (base:=base) G19 b19 (PySem.W.mg_of X G a19) T M__law_mix.2 M__law_name.2 M__law_body.2 M__law_unknowns.2
 have M__law_patterns_text:=m_qk (P:=l.prog) (w:=w) (base:=base) G20 b20 (PySem.W.mg_of X G a20) T
 have M__law_shown:=m_ql (P:=l.prog) (w:=w) (base:=base) G21 b21 (PySem.W.mg_of X G a21) T M__law_patterns_text.2
 have M__law_odd:=m_qm (P:=l.prog) (w:=w) (base:=base) G22 b22 (PySem.W.mg_of X G a22) T M__law_mix.2
 have M__law_spoiled:=m_qn (P:=l.prog) (w:=w) (base:=base) G23 b23 (PySem.W.mg_of X G a23) T M__law_mix.2 M__law_odd.2
 have M__law_is_name:=m_qo (P:=l.prog) (w:=w) (base:=base) G24 b24 (PySem.W.mg_of X G a24) T
 have M__law_term:=m_qp (P:=l.prog) (w:=w) (base:=base) G25 b25 (PySem.W.mg_of X G a25) T M__law_is_name.2
 have M__law_told_body:=m_qq (P:=l.prog) (w:=w) (base:=base) G26 b26 (PySem.W.mg_of X G a26) T M__law_is_name.2 M__law_term.2
 have M__law_told:=m_qr (P:=l.prog) (w:=w) (base:=base) G27 b27 (PySem.W.mg_of X G a27) T M__law_unknowns.2 M__law_term.2 M__law_told_body.2
 have M__law_right:=m_qs (P:=l.prog) (w:=w) (base:=base) G28 b28 (PySem.W.mg_of X G a28) T M_read_rule M__law_told.2
 have M_law:=m_law (P:=l.prog) (w:=w) (base:=base) G29 b29 (PySem.W.mg_of X G a29) T M_show_rule.2 M__law_rule.2 M__law_shown.2 M__law_spoiled.2 M__law_right.2
 exact M_law.1
end K72
namespace K72
open PySem PySem.NumText L2
noncomputable def mixI (c j:Int):Int:=((c*(2*j+3)+j)%2147483629*((c*(2*j+3)+j)%2147483629)+1)*48271%2147483629
theorem mixI_lo (c j:Int):0≤mixI c j:=by unfold mixI;omega
theorem mix_eq (c j:Int) (h0: -1000≤j) (h1:j≤1000):f_qe [.int c,.int j]=some (.int (mixI c j),false):=by
 rw[runF_eq (f:=f_qe) (δ:=[some (.int c,false),some (.int j,false),none]) rfl rfl rfl]
 have e1:(0:Int)≤(c*(2*j+3)+j)%2147483629:=by omega
 have e2:(c*(2*j+3)+j)%2147483629<2147483629:=by omega
 simp[g_qe,mulI_s c (2*j+3) (by omega),mulI_s ((c*(2*j+3)+j)%2147483629) ((c*(2*j+3)+j)%2147483629) (by omega),mixI]
noncomputable abbrev small:Str:="abcdefghijklmnopqrstuvwxyz"
noncomputable abbrev great:Str:="ABCDEFGHIJKLMNOPQRSTUVWXYZ"
noncomputable def inS (c s:Str):Bool:=!(Builtin.Str.occurrences s c 0 s.length 1).isEmpty
noncomputable def onlyIn (t s:Str):Bool:=t.cps.toList.all fun c=>inS ⟨#[c]⟩ s
theorem inSO_i (c s:Str):inSO (some (.str c)) (some (.str s))=some (inS c s):=rfl
theorem demand_eq (b:Bool) (w:Str):f_qd [.bl b,.str w]=some (if b=true then some (.non,false) else none):=by
 rw[runX_eq (f:=f_qd) (δ:=[some (.bl b,false),some (.str w,false)]) rfl rfl rfl]
 cases b<;>simp[g_qd]
theorem only_eq (t s:Str) (h:t.length≤lim):f_qb [.str t,.str s]=some (.bl (onlyIn t s),false):=by
 rw[runF_eq (f:=f_qb) (δ:=[some (.str t,false),some (.str s,false),none]) rfl rfl rfl]
 have hl:(signs t).length≤lim:=by simpa[signs,Str.length]using h
 have hc:compO (itemO (aj 2) (fun δ=>some true) e_qb_1 (maskD false [false,true,false] [some (.str t,false),some (.str s,false),none])) (signs t)=some ((t.cps.toList.map fun c=>inS ⟨#[c]⟩ s).map D.bl):=by
  have:=compO_map (h:=itemO (aj 2) (fun δ=>some true) e_qb_1 (maskD false [false,true,false] [some (.str t,false),some (.str s,false),none])) (ds:=signs t) (g:=fun d=>match d with|.str c=>.bl (inS c s)|_=>.non) fun d hd=>by
   unfold signs at hd
   obtain⟨c,_,rfl⟩:=List.mem_map.mp hd
   simp[itemO,maskD,e_qb_1,inS]
  rw[this,signs,List.map_map,List.map_map]
  rfl
 simp only[g_qb,rd_0,rd_1,strL_s,bindO_s,runC_s hl,hc,lstLim_s,allO_s,retO_s,outF_r]
 rw[show(List.map (fun c=>inS ⟨#[c]⟩ s) t.cps.toList).all id=onlyIn t s by rw[List.all_map];rfl]
theorem isname_loop (w:D) (t:List Nat):∀x,loopD (fun d δ=>ah ((aj 1) d δ) b_qo_1) (t.map fun c=>.str ⟨#[c]⟩) [some (w,false),x]=
  if(t.all fun c=>inS ⟨#[c]⟩ small)=true then some (.next [some (w,false),if t=[] then x else some (.str ⟨#[t.getLastD 0]⟩,false)]) else some (.ret (.bl false) false):=by
 induction t with
 |nil=>intro x;simp[loopD]
 |cons c t ih=>
  intro x
  simp only[List.map_cons,loopD]
  have e:ah (aj 1 (.str ⟨#[c]⟩) [some (w,false),x]) b_qo_1=if inS ⟨#[c]⟩ small=true then some (.next [some (w,false),some (.str ⟨#[c]⟩,false)]) else some (.ret (.bl false) false):=by
   have f0:aj 1 (.str ⟨#[c]⟩) [some (w,false),x]=some [some (w,false),some (.str ⟨#[c]⟩,false)]:=rfl
   simp only[f0,bindO_s,b_qo_1,rd_0,rd_1,inSO_i,notO_s]
   cases hb:inS ⟨#[c]⟩ small<;>simp[small,hb]
  rw[e]
  by_cases hb:inS ⟨#[c]⟩ small=true
  ·rw[if_pos hb]
   simp only
   rw[ih]
   cases t with
   |nil=>simp[hb]
   |cons c2 t=>simp[hb]
  ·rw[if_neg hb]
   simp[hb]
noncomputable def okIn (t s:Str) (m:Int):Bool:=decide (1≤(t.length:Int))&&decide ((t.length:Int)≤m)&&onlyIn t s
noncomputable def nameOk (w:Str):Bool:=okIn w small 8
theorem isname_eq (t:Str) (h:t.length≤lim):f_qo [.str t]=some (.bl (nameOk t),false):=by
 rw[runF_eq (f:=f_qo) (δ:=[some (.str t,false),none]) rfl rfl rfl]
 have hl:=isname_loop (.str t) t.cps.toList none
 unfold nameOk
 simp only[g_qo,rd_0,rd_1,lenS_s t h,cI_s]
 by_cases h1:(t.length:Int)<1
 ·have e1:gLt (t.length:Int) 1=true:=by simp[gLt,h1]
  have:okIn t small 8=false:=by unfold okIn;rw[decide_eq_false (by omega)];simp
  simp[e1,this]
 ·have e1:gLt (t.length:Int) 1=false:=by simp[gLt];omega
  by_cases h2:8<(t.length:Int)
  ·have e2:gGt (t.length:Int) 8=true:=by simp[gGt,h2]
   have:okIn t small 8=false:=by unfold okIn;rw[decide_eq_false (p:=(t.length:Int)≤8) (by omega)];simp
   simp[e1,e2,this]
  ·have e2:gGt (t.length:Int) 8=false:=by simp[gGt];omega
   have e3:okIn t small 8=onlyIn t small:=by unfold okIn;rw[decide_eq_true (by omega),decide_eq_true (by omega)];simp
   simp only[e1,e2,orO_f,ifO_f,nextO_s,seqO_n,strL_s,rd_0,bindO_s]
   unfold signs
   rw[hl,e3]
   unfold onlyIn
   by_cases hb:(t.cps.toList.all fun c=>inS ⟨#[c]⟩ small)=true
   ·rw[if_pos hb,hb];simp
   ·rw[if_neg hb];simp only[Bool.not_eq_true]at hb;rw[hb];simp
theorem inS_one (c:Nat) (s:Str):inS ⟨#[c]⟩ s=decide (c∈s.cps.toList):=PySem.StrLaws.found_one s c
theorem chain_ok (t s:Str) (m:Int):(gLe 1 (t.length:Int)&&gLe (t.length:Int) m&&onlyIn t s)=okIn t s m:=rfl
theorem read_name_eq (w:Str) (h:w.length≤lim):f_qa [.str w]=some (if nameOk w=true then some (.str w,false) else none):=by
 rw[runX_eq (f:=f_qa) (δ:=[some (.str w,false)]) rfl rfl rfl]
 simp only[g_qa,rd_0,consO_s,bindO_s,lenS_s w h,chainI_s,tyB_s,only_eq w _ h,shO_s]
 unfold nameOk
 rw[←chain_ok]
 cases hb:(gLe 1 (w.length:Int)&&gLe (w.length:Int) 8)with
 |false=>simp[demand_eq]
 |true=>cases hc:onlyIn w small<;>simp[demand_eq,hc]
theorem name_sign {w:Str}(h:nameOk w=true) {c:Nat}(hc:c∈w.cps.toList):97≤c∧c≤122:=by
 unfold nameOk okIn onlyIn at h
 rw[Bool.and_eq_true,Bool.and_eq_true]at h
 have:=List.all_eq_true.mp h.2 c hc
 rw[inS_one,decide_eq_true_eq]at this
 exact (by decide +kernel:∀c∈(small:Str).cps.toList,97≤c∧c≤122) c this
theorem name_len {w:Str}(h:nameOk w=true):1≤w.length∧w.length≤8:=by
 unfold nameOk okIn at h
 simp only[Bool.and_eq_true,decide_eq_true_eq]at h
 omega
noncomputable def greatOk (w:Str):Bool:=decide ((w.length:Int)=1)&&inS w great
theorem great_sign {w:Str}(h:greatOk w=true):∃c,w=⟨#[c]⟩∧65≤c∧c≤90:=by
 unfold greatOk at h
 rw[Bool.and_eq_true,decide_eq_true_eq]at h
 obtain⟨h1,h2⟩:=h
 obtain⟨⟨l⟩⟩:=w
 have hl:l.length=1:=by have:(⟨⟨l⟩⟩:Str).length=l.length:=rfl
                        omega
 match l,hl with
 |[c],_=>
  refine⟨c,rfl,?_⟩
  rw[show(⟨⟨[c]⟩⟩:Str)=⟨#[c]⟩ from rfl,inS_one,decide_eq_true_eq]at h2
  exact (by decide +kernel:∀c∈(great:Str).cps.toList,65≤c∧c≤90) c h2
theorem great_not {w:Str}(h:greatOk w=true):nameOk w=false:=by
 obtain⟨c,rfl,h1,h2⟩:=great_sign h
 cases hn:nameOk ⟨#[c]⟩with
 |false=>rfl
 |true=>have:=name_sign hn (c:=c) (by simp);omega
inductive Te where
 |any (l:Str)
 |nm (w:Str)
deriving DecidableEq
noncomputable def teD:Te→D
 |.any l=>.tup [.str "any",.str l]
 |.nm w=>.tup [.str "name",.str w]
noncomputable abbrev Pat:=Str×List Te
noncomputable def patD (p:Pat):D:=.tup [.str p.1,.tup (p.2.map teD)]
theorem na:(("name":Str)="any")=False:=by simp;decide +kernel
theorem an:(("any":Str)="name")=False:=by simp;decide +kernel
theorem at0 (a b:D):atI [a,b] 0=some a:=rfl
theorem at1 (a b:D):atI [a,b] 1=some b:=rfl
theorem teD_inj {s t:Te}(h:teD s=teD t):s=t:=by
 cases s<;>cases t<;>simp[teD,na,an]at h⊢ <;>exact h
theorem teD_ne (t:Te):teD t≠.non:=by cases t<;>simp[teD]
theorem ok_te (t:Te) (n:Nat):okD (n+2) (teD t)=true:=by cases t<;>rfl
theorem ok_pat (p:Pat) (n:Nat):okD (n+5) (patD p)=true:=by
 have:(p.2.map teD).all (okD (n+3))=true:=List.all_eq_true.mpr fun d hd=>by
  obtain⟨t,_,rfl⟩:=List.mem_map.mp hd;exact ok_te t (n+1)
 simp[patD,okD,this]
theorem ok_pats (ps:List Pat) (n:Nat):okD (n+6) (.lst (ps.map patD))=true:=by
 have:(ps.map patD).all (okD (n+5))=true:=List.all_eq_true.mpr fun d hd=>by
  obtain⟨t,_,rfl⟩:=List.mem_map.mp hd;exact ok_pat t n
 simp only[okD,this]
noncomputable def termT (w:Str):Option Te:=if nameOk w=true then some (.nm w) else if greatOk w=true then some (.any w) else none
theorem andO_b (a b:Bool):andO (some a) (some b)=some (a&&b):=by cases a<;>rfl
theorem great_test (w:Str) (h:w.length≤lim):andO (eqO (lenS (some (.str w))) (some (.int 1))) (inSO (some (.str w)) (some (.str "ABCDEFGHIJKLMNOPQRSTUVWXYZ")))=some (greatOk w):=by
 rw[lenS_s w h,eqO_int,inSO_i,andO_b];rfl
theorem read_term_eq (w:Str) (h:w.length≤lim):f_q8 [.str w]=some ((termT w).map fun t=>(teD t,false)):=by
 rw[runX_eq (f:=f_q8) (δ:=[some (.str w,false)]) rfl rfl rfl]
 simp only[g_q8,rd_0,great_test w h]
 unfold termT
 cases hg:greatOk w with
 |true=>
  rw[great_not hg]
  simp[teD]
 |false=>
  simp only[ifX'_f,seqX_n,rd_0,consO_s,bindO_s,read_name_eq w h]
  cases hn:nameOk w<;>simp[teD]
theorem law_term_eq (w:Str) (h:w.length≤lim):f_qp [.str w]=some (match termT w with|some t=>teD t|none=>.non,false):=by
 rw[runF_eq (f:=f_qp) (δ:=[some (.str w,false)]) rfl rfl rfl]
 simp only[g_qp,rd_0,consO_s,bindO_s,isname_eq w h,shO_s,tyB_s]
 unfold termT
 cases hn:nameOk w with
 |true=>simp[teD]
 |false=>
  simp only[ifO_f,nextO_s,seqO_n,rd_0,great_test w h]
  cases hg:greatOk w<;>simp[teD]
noncomputable def lineT (ws:List Str):Option Pat:=match ws with
 |w::r=>if(decide (2≤ws.length)&&decide (ws.length≤5)&&nameOk w)=true then(r.mapM termT).map fun ts=>(w,ts) else none
 |[]=>none
noncomputable def lineP (t:Str):Option Pat:=lineT (Txt.split t " ")
theorem sp_len:(Str.length " "==0)=false:=by decide +kernel
theorem cut_tail (d:D) (ds:List D):cutD (d::ds) (some 1) none=ds:=by
 have e1:HT.sIx (d::ds).length 0 (some 1)=1:=by simp[HT.sIx]
 have e2:HT.sIx (d::ds).length (d::ds).length none=(d::ds).length:=rfl
 unfold cutD
 rw[e1,e2]
 simp
theorem mapM_strD {β:Type}(q:D→Option D) (f:Str→Option β) (g:β→D) (h:∀w,q (.str w)=(f w).map g):∀ws:List Str,(ws.map D.str).mapM q=(ws.mapM f).map (List.map g)
 |[]=>rfl
 |w::ws=>by
  rw[List.map_cons,List.mapM_cons,List.mapM_cons,h w,mapM_strD q f g h ws]
  cases f w with
  |none=>rfl
  |some b=>cases ws.mapM f<;>rfl
theorem demand_text_eq (d:D) (b:Bool) (h:isiO "str" (some d)=some (.bl b)):f_qc [d]=some (if b=true then some (.non,false) else none):=by
 rw[runX_eq (f:=f_qc) (δ:=[some (d,false)]) rfl rfl rfl]
 simp only[g_qc,rd_0,h,consO_s,bindO_s,demand_eq]
 cases b<;>simp
theorem read_line_eq (t:Str) (h:t.length+2≤lim):f_q7 [.str t,.sp false "read_term"]=some ((lineP t).map fun p=>(patD p,false)):=by
 rw[runX_eq (f:=f_q7) (δ:=[some (.str t,false),some (.sp false "read_term",false),none,none]) rfl rfl rfl]
 have hm:=split_mem t " "
 have hl:=split_len t " "
 unfold lineP
 simp only[g_q7,rd_0,splitO_s t " " h sp_len]
 generalize hws:Txt.split t " "=ws at hm hl
 have e1:setO 2 (some (.lst (ws.map D.str))) [some (.str t,false),some (.sp false "read_term",false),none,none]=some (.next [some (.str t,false),some (.sp false "read_term",false),some (.lst (ws.map D.str),false),none]):=rfl
 rw[e1]
 simp only[upS_s,seqX_n,rd_0,rd_1,lenL_l,chainI_s,consO_s,bindO_s,demand_eq,List.length_map]
 cases ws with
 |nil=>simp[lineT,gLe]
 |cons w r=>
  have hw:w.length≤lim:=by have:=hm w (by simp);omega
  unfold lineT
  simp only
  cases hb:(gLe 2 ((w::r).length:Int)&&gLe ((w::r).length:Int) 5)with
  |false=>
   have hc:(decide (2≤(w::r).length)&&decide ((w::r).length≤5))=false:=by
    rw[←hb];unfold gLe;congr 1<;>(apply decide_eq_decide.mpr;omega)
   rw[hc];simp
  |true=>
   have hc:(decide (2≤(w::r).length)&&decide ((w::r).length≤5))=true:=by
    rw[←hb];unfold gLe;congr 1<;>(apply decide_eq_decide.mpr;omega)
   rw[hc]
   have hi:ixO (some (.lst ((w::r).map D.str))) (some (.int 0))=some (.str w):=by rw[ixO_l];exact atI_eq (by decide) (by simp)
   have hr:runCX false [false,true,false,false] (aj 3) e_q7_1 [some (.str t,false),some (.sp false "read_term",false),some (.lst ((w::r).map D.str),false),none] (r.map D.str)=some ((r.mapM termT).map (List.map teD)):=by
    rw[runCX_s (q:=fun d=>match d with|.str w=>(termT w).map teD|_=>none) (by rw[List.length_map];simp at hl;omega) fun d hd=>?_,mapM_strD _ termT teD fun _=>rfl]
    obtain⟨v,hv,rfl⟩:=List.mem_map.mp hd
    have hv':v.length≤lim:=by have:=hm v (by simp[hv]);omega
    simp only[itemX,maskD,List.zipWith,toName_s,List.length_cons,List.length_nil,bindO_s]
    simp[e_q7_1,spO,read_term_eq v hv']
    cases termT v<;>simp
   simp only[if_true,shX_s,dropX_s,seqX_n,rd_0,rd_1,hi,consO_s,bindO_s,read_name_eq w hw,partI_s,cutLO_s]
   rw[List.map_cons,cut_tail]
   simp only[lstL_s,bindO_s]
   rw[←List.map_cons,hr]
   cases hn:nameOk w with
   |false=>simp
   |true=>
    cases hq:r.mapM termT with
    |none=>simp
    |some cs=>simp[patD]
noncomputable def patsP (t:Str):Option (List Pat):=if(Txt.split t ", ").length≤4 then(Txt.split t ", ").mapM lineP else none
theorem cm_len:(Str.length ", "==0)=false:=by decide +kernel
theorem read_patterns_eq (t:Str) (h:t.length+2≤lim):f_q6 [.str t]=some ((patsP t).map fun ps=>(.lst (ps.map patD),true)):=by
 rw[runX_eq (f:=f_q6) (δ:=[some (.str t,false),none,none]) rfl rfl rfl]
 have hm:=split_mem t ", "
 have hl:=split_len t ", "
 unfold patsP
 simp only[g_q6,rd_0,splitO_s t ", " h cm_len]
 generalize hws:Txt.split t ", "=ws at hm hl
 have e1:setO 1 (some (.lst (ws.map D.str))) [some (.str t,false),none,none]=some (.next [some (.str t,false),some (.lst (ws.map D.str),false),none]):=rfl
 rw[e1]
 have e2:bI cT (fun i j=>.bl (gLe i j)) (some (.int (ws.length:Int))) (some (.int 4))=some (.bl (gLe (ws.length:Int) 4)):=rfl
 simp only[upS_s,seqX_n,rd_0,rd_1,lenL_l,List.length_map,e2,consO_s,bindO_s,demand_eq]
 by_cases h4:ws.length≤4
 ·have e3:gLe (ws.length:Int) 4=true:=decide_eq_true (by omega)
  have hr:runCX false [false,false,false] (aj 2) e_q6_1 [some (.str t,false),some (.lst (ws.map D.str),false),none] (ws.map D.str)=some ((ws.mapM lineP).map (List.map patD)):=by
   rw[runCX_s (q:=fun d=>match d with|.str w=>(lineP w).map patD|_=>none) (by rw[List.length_map];omega) fun d hd=>?_,mapM_strD _ lineP patD fun _=>rfl]
   obtain⟨v,hv,rfl⟩:=List.mem_map.mp hd
   have hv':v.length+2≤lim:=by have:=hm v hv;omega
   simp only[itemX,maskD,List.zipWith,toName_s,List.length_cons,List.length_nil,bindO_s]
   simp[e_q6_1,read_line_eq v hv']
   cases lineP v<;>simp
  simp only[e3,if_true,shX_s,dropX_s,seqX_n,rd_0,rd_1,lstL_s,bindO_s,hr,if_pos h4]
  cases ws.mapM lineP<;>simp
 ·have e3:gLe (ws.length:Int) 4=false:=decide_eq_false (by omega)
  rw[e3,if_neg h4]
  simp
noncomputable def termN (w:Str):D:=match termT w with|some t=>teD t|none=>.non
theorem termN_ok (w:Str):okD 16 (termN w)=true∧okD 15 (termN w)=true:=by
 unfold termN
 cases termT w with
 |none=>exact⟨rfl,rfl⟩
 |some t=>exact⟨ok_te t 14,ok_te t 13⟩
theorem mapM_termN:∀ws:List Str,(ws.mapM termT).map (List.map teD)=if D.non∈ws.map termN then none else some (ws.map termN)
 |[]=>by simp
 |w::ws=>by
  rw[List.mapM_cons]
  have ih:=mapM_termN ws
  cases e:termT w with
  |none=>have:termN w=.non:=by unfold termN;rw[e]
         simp[this]
  |some t=>
   have e2:termN w=teD t:=by unfold termN;rw[e]
   have hd:=teD_ne t
   by_cases hm:D.non∈ws.map termN
   ·rw[if_pos hm]at ih
    rw[if_pos (by rw[List.map_cons];exact List.mem_cons_of_mem _ hm)]
    cases e3:ws.mapM termT with
    |none=>rfl
    |some l=>rw[e3]at ih;cases ih
   ·rw[if_neg hm]at ih
    rw[if_neg (by rw[List.map_cons,List.mem_cons,e2];rintro(z|z);exact hd z.symm;exact hm z)]
    cases e3:ws.mapM termT with
    |none=>rw[e3]at ih;cases ih
    |some l=>
     rw[e3]at ih
     simp at ih
     simp[e2,ih]
theorem piece_eq (T:Option (D×Bool)) (v:Str) (h:v.length+2≤lim) (acc:List D) (ha:acc.length<lim) (x2 x3 x4 x5:Option (D×Bool)):∃y3 y4,ah (aj 2 (.str v) [T,some (.lst acc,true),x2,x3,x4,x5]) b_qq_3=
  match lineP v with
  |none=>some (.ret .non false)
  |some p=>some (.next [T,some (.lst (acc++[patD p]),true),some (.str v,false),y3,y4,x5]):=by
 have hm:=split_mem v " "
 have hl:=split_len v " "
 have f0:aj 2 (.str v) [T,some (.lst acc,true),x2,x3,x4,x5]=some [T,some (.lst acc,true),some (.str v,false),x3,x4,x5]:=rfl
 unfold lineP
 simp only[f0,bindO_s,b_qq_3,rd_0,rd_1,splitO_s v " " h sp_len]
 generalize hws:Txt.split v " "=ws at hm hl
 have e1:setO 3 (some (.lst (ws.map D.str))) [T,some (.lst acc,true),some (.str v,false),x3,x4,x5]=some (.next [T,some (.lst acc,true),some (.str v,false),some (.lst (ws.map D.str),false),x4,x5]):=rfl
 rw[e1]
 cases ws with
 |nil=>
  exfalso
  have:Txt.split v " "≠[]:=by
   unfold Txt.split
   split
   ·simp
   ·split
    ·simp
    ·rw[StrLaws.partsBetween_eq]
     obtain⟨p,q,e⟩:=StrLaws.partsFrom_ne v (Str.length " ") 0 (Builtin.Str.occurrences v " " 0 v.length (v.length+1))
     rw[e];simp
  exact this hws
 |cons w r=>
  refine⟨some (.lst ((w::r).map D.str),false),some (.lst (r.map termN),false),?_⟩
  have hw:w.length≤lim:=by have:=hm w (by simp);omega
  have hi:ixO (some (.lst ((w::r).map D.str))) (some (.int 0))=some (.str w):=by rw[ixO_l];exact atI_eq (by decide) (by simp)
  have hr:∀δ0:DEnv,maskD false [false,false,false,false,false,false] δ0=[none,none,none,none,none,none]→runC false [false,false,false,false,false,false] (aj 5) (fun δ=>some true) e_qq_1 δ0 (r.map D.str)=some (r.map termN):=by
   intro δ0 hδ
   rw[runC_s (by rw[List.length_map];simp at hl;omega),hδ,compO_map (g:=fun d=>match d with|.str v=>termN v|_=>.non) fun d hd=>?_,List.map_map]
   ·rfl
   obtain⟨u,hu,rfl⟩:=List.mem_map.mp hd
   have hu':u.length≤lim:=by have:=hm u (by simp[hu]);omega
   simp[itemO,e_qq_1,law_term_eq u hu',termN]
  simp only[seqO_n,rd_0,rd_1,partI_s,cutLO_s]
  rw[List.map_cons,cut_tail]
  simp only[lstL_s,bindO_s]
  rw[←List.map_cons,hr _ rfl]
  simp only[lstLim_s]
  have e4:setF 4 (some (.lst (r.map termN))) [T,some (.lst acc,true),some (.str v,false),some (.lst ((w::r).map D.str),false),x4,x5]=some (.next [T,some (.lst acc,true),some (.str v,false),some (.lst ((w::r).map D.str),false),some (.lst (r.map termN),true),x5]):=rfl
  rw[e4]
  simp only[seqO_n,frzE_1,frzE_0,k_qq_2,rd_0,rd_1,hi,tupleO_l,consO_s,bindO_s,isname_eq w hw,shO_s,tyB_s,notO_s,lenL_l,cI_s,List.length_map]
  have e5:inO (some .non) (some (.lst (r.map termN)))=some (decide (D.non∈r.map termN)):=by
   unfold inO
   have:(okD 16 .non&&(r.map termN).all (okD 16))=true:=by
    rw[Bool.and_eq_true]
    refine⟨rfl,List.all_eq_true.mpr fun d hd=>?_⟩
    obtain⟨u,_,rfl⟩:=List.mem_map.mp hd
    exact(termN_ok u).1
   simp only[itemsD,if_pos this]
  have e6:eqO (some (.lst (r.map termN))) (lstO (some []))=some (decide (r=[])):=by
   rw[lstO_s _ (by simp),eqO_s]
   ·congr 1;apply decide_eq_decide.mpr;simp
   ·unfold ok2
    have:okD 16 (.lst (r.map termN))=true:=by
     show(r.map termN).all (okD 15)=true
     refine List.all_eq_true.mpr fun d hd=>?_
     obtain⟨u,_,rfl⟩:=List.mem_map.mp hd
     exact(termN_ok u).2
    rw[this];rfl
  rw[e5,e6]
  unfold lineT
  simp only
  have hq:=mapM_termN r
  cases hn:nameOk w with
  |false=>simp
  |true=>
   simp only[Bool.not_true,orO_f,Bool.and_true]
   by_cases hz:r=[]
   ·subst hz;simp
   ·have h2:2≤(w::r).length:=by
     cases r with
     |nil=>exact absurd rfl hz
     |cons a b=>simp
    rw[decide_eq_false hz,decide_eq_true h2]
    by_cases h5:(w::r).length≤5
    ·have g1:gGt (r.length:Int) 4=false:=decide_eq_false (by simp at h5;omega)
     rw[g1,decide_eq_true h5]
     by_cases hnn:D.non∈r.map termN
     ·rw[if_pos hnn]at hq
      have e7:r.mapM termT=none:=by
       cases e:r.mapM termT with
       |none=>rfl
       |some l=>rw[e]at hq;cases hq
      rw[e7,decide_eq_true hnn]
      simp
     ·rw[if_neg hnn]at hq
      cases e:r.mapM termT with
      |none=>rw[e]at hq;cases hq
      |some l=>
       rw[e]at hq
       simp at hq
       rw[decide_eq_false hnn]
       simp only[orO_f,ifO_f,nextO_s,seqO_n,rd_0,rd_1,hi,tupleO_l,consO_s]
       rw[tupO_s _ (by simp),appO_s (ds:=acc) _ (by rfl) ha]
       simp[patD,hq]
    ·have g1:gGt (r.length:Int) 4=true:=decide_eq_true (by simp at h5;omega)
     rw[g1,decide_eq_false h5]
     simp
theorem tb_loop (T:Option (D×Bool)):∀(vs:List Str) (acc:List D) (x2 x3 x4 x5:Option (D×Bool)),(∀v∈vs,v.length+2≤lim)→acc.length+vs.length≤lim→∃y2 y3 y4,
  loopD (fun d δ=>ah ((aj 2) d δ) b_qq_3) (vs.map D.str) [T,some (.lst acc,true),x2,x3,x4,x5]=match vs.mapM lineP with
  |none=>some (.ret .non false)
  |some ps=>some (.next [T,some (.lst (acc++ps.map patD),true),y2,y3,y4,x5])
 |[],acc,x2,x3,x4,x5,_,_=>⟨x2,x3,x4,by simp[loopD]⟩
 |v::vs,acc,x2,x3,x4,x5,h,hl=>by
  rw[List.length_cons]at hl
  obtain⟨z3,z4,e⟩:=piece_eq T v (h v (by simp)) acc (by omega) x2 x3 x4 x5
  simp only[List.map_cons,loopD]
  rw[e,List.mapM_cons]
  cases lineP v with
  |none=>exact⟨x2,x3,x4,rfl⟩
  |some p=>
   obtain⟨y2,y3,y4,e2⟩:=tb_loop T vs (acc++[patD p]) (some (.str v,false)) z3 z4 x5 (fun u hu=>h u (by simp[hu])) (by rw[List.length_append];show acc.length+1+vs.length≤lim;omega)
   refine⟨y2,y3,y4,?_⟩
   simp only
   rw[e2]
   cases vs.mapM lineP with
   |none=>rfl
   |some ps=>simp
theorem mapM_len {α β:Type}(f:α→Option β):∀(l:List α) (r:List β),l.mapM f=some r→r.length=l.length
 |[],r,h=>by simp at h;rw[h];rfl
 |a::l,r,h=>by
  rw[List.mapM_cons]at h
  cases e:f a with
  |none=>rw[e]at h;cases h
  |some b=>
   rw[e]at h
   cases e2:l.mapM f with
   |none=>rw[e2]at h;cases h
   |some q=>
    rw[e2]at h
    have:=mapM_len f l q e2
    cases h
    simp[this]
theorem told_body_eq (t:Str) (h:t.length+4≤lim):f_qq [.str t]=some (match patsP t with|some ps=>(.lst (ps.map patD),true)|none=>(.non,false)):=by
 rw[runF_eq (f:=f_qq) (δ:=[some (.str t,false),none,none,none,none,none]) rfl rfl rfl]
 have hm:=split_mem t ", "
 have hl:=split_len t ", "
 unfold patsP
 have e0:setF 1 (lstO (some [])) [some (.str t,false),none,none,none,none,none]=some (.next [some (.str t,false),some (.lst [],true),none,none,none,none]):=rfl
 simp only[g_qq,e0,seqO_n,rd_0,splitO_s t ", " (by omega) cm_len,lstL_s,bindO_s]
 generalize hws:Txt.split t ", "=ws at hm hl
 obtain⟨y2,y3,y4,e⟩:=tb_loop (some (.str t,false)) ws [] none none none none (fun v hv=>by have:=hm v hv;omega) (by show 0+ws.length≤lim;omega)
 rw[e]
 cases hq:ws.mapM lineP with
 |none=>by_cases h4:ws.length≤4<;>simp[h4]
 |some ps=>
  have hpl:=mapM_len _ _ _ hq
  simp only[seqO_n,List.nil_append]
  have e1:rd true 1 [some (.str t,false),some (.lst (ps.map patD),true),y2,y3,y4,none]=some (.lst (ps.map patD)):=rfl
  rw[e1,lenL_l,List.length_map,cI_s]
  by_cases h4:ws.length≤4
  ·have g1:gGt (ps.length:Int) 4=false:=decide_eq_false (by omega)
   rw[g1,if_pos h4]
   simp
  ·have g1:gGt (ps.length:Int) 4=true:=decide_eq_true (by omega)
   rw[g1,if_neg h4]
   simp
end K72
namespace K72
open PySem PySem.NumText L2
theorem mapM_mem {α β:Type}(f:α→Option β):∀(l:List α) (r:List β),l.mapM f=some r→∀b∈r,∃a∈l,f a=some b
 |[],r,h,b,hb=>by simp at h;rw[h]at hb;simp at hb
 |a::l,r,h,b,hb=>by
  rw[List.mapM_cons]at h
  cases e:f a with
  |none=>rw[e]at h;cases h
  |some c=>
   rw[e]at h
   cases e2:l.mapM f with
   |none=>rw[e2]at h;cases h
   |some q=>
    rw[e2]at h
    have ih:=mapM_mem f l q e2
    cases h
    rcases List.mem_cons.mp hb with rfl|hb
    ·exact⟨a,by simp,e⟩
    ·obtain⟨x,hx,ex⟩:=ih b hb
     exact⟨x,by simp[hx],ex⟩
theorem line_small {v:Str}{p:Pat}(h:lineP v=some p):p.2.length≤4:=by
 unfold lineP lineT at h
 split at h
 ·rename_i w r hw
  split at h
  ·rename_i hc
   rw[Bool.and_eq_true,Bool.and_eq_true,decide_eq_true_eq,decide_eq_true_eq]at hc
   cases e:r.mapM termT with
   |none=>rw[e]at h;cases h
   |some ts=>
    rw[e]at h
    cases h
    have:=mapM_len _ _ _ e
    have h5:=hc.1.2
    rw[hw,List.length_cons]at h5
    show ts.length≤4
    omega
  ·cases h
 ·cases h
theorem pats_small {t:Str}{ps:List Pat}(h:patsP t=some ps):ps.length≤4∧∀p∈ps,p.2.length≤4:=by
 unfold patsP at h
 split at h
 ·rename_i h4
  have:=mapM_len _ _ _ h
  refine⟨by omega,fun p hp=>?_⟩
  obtain⟨v,_,e⟩:=mapM_mem _ _ _ h p hp
  exact line_small e
 ·cases h
noncomputable def ans:List Te→List Str
 |[]=>[]
 |.any l::ts=>l::ans ts
 |.nm _::ts=>ans ts
theorem ans_len:∀ts:List Te,(ans ts).length≤ts.length
 |[]=>Nat.le_refl _
 |.any m::ts=>by have:=ans_len ts;simp[ans];omega
 |.nm w::ts=>by have:=ans_len ts;simp[ans];omega
noncomputable def lets (ps:List Pat):List Str:=(ps.map fun p=>ans p.2).flatten
theorem lets_len:∀{ps:List Pat},(∀p∈ps,p.2.length≤4)→(lets ps).length≤4*ps.length
 |[],_=>Nat.le_refl _
 |p::ps,h=>by
  have h1:=lets_len fun q hq=>h q (List.mem_cons_of_mem _ hq)
  have h2:=ans_len p.2
  have h3:=h p (List.mem_cons_self ..)
  have:lets (p::ps)=ans p.2++lets ps:=by simp[lets]
  rw[this,List.length_append,List.length_cons]
  omega
theorem comp_ans (ts:List Te):compO (itemO (aj 4) (fun δ=>eqO (ixO (rd false 4 δ) (some (.int 0))) (some (.str "any"))) e_q0_1 [none,none,none,none,none]) (ts.map teD)=some ((ans ts).map D.str):=by
 induction ts with
 |nil=>rfl
 |cons c ts ih=>
  rw[List.map_cons]
  unfold compO
  rw[ih]
  cases c with
  |any n=>simp[itemO,teD,e_q0_1,at0,at1,eqO_str,ans]
  |nm w=>simp[itemO,teD,e_q0_1,at0,at1,eqO_str,na,ans]
theorem lets_loop:∀(rs:List Pat) (acc:List Str) (a0 x2 x3 x4:Option (D×Bool)),(∀r∈rs,r.2.length≤4)→acc.length+4*rs.length≤1000→∃y2 y3,
  loopD (fun d δ=>ah ((toTup (toCons (aj 2) (toCons (aj 3) (toNil)))) d δ) b_q0_2) (rs.map patD) [a0,some (.lst (acc.map D.str),true),x2,x3,x4]=some (.next [a0,some (.lst ((acc++lets rs).map D.str),true),y2,y3,x4])
 |[],acc,a0,x2,x3,x4,_,_=>⟨x2,x3,by simp[loopD,lets]⟩
 |r::rs,acc,a0,x2,x3,x4,h4,hl=>by
  have hr:=h4 r (List.mem_cons_self ..)
  have hb:=ans_len r.2
  rw[List.length_cons]at hl
  obtain⟨y2,y3,e⟩:=lets_loop rs (acc++ans r.2) a0 (some (.str r.1,false)) (some (.tup (r.2.map teD),false)) x4 (fun q hq=>h4 q (List.mem_cons_of_mem _ hq)) (by simp;omega)
  refine⟨y2,y3,?_⟩
  have en:acc++lets (r::rs)=acc++ans r.2++lets rs:=by simp[lets]
  rw[en,←e,List.map_cons]
  conv=>lhs;unfold loopD
  simp[patD,b_q0_2]
  rw[runC_s (by simp;omega)]
  simp[maskD]
  have:=comp_ans r.2
  rw[this]
  simp[extO_u]
  rw[if_pos (by omega)]
theorem letters_of_eq {ps:List Pat}(hl:ps.length≤4) (h4:∀p∈ps,p.2.length≤4):f_q0 [.lst (ps.map patD)]=some (.lst (sU (lets ps)),true):=by
 obtain⟨y2,y3,e⟩:=lets_loop ps [] (some (.lst (ps.map patD),false)) none none none h4 (by simp;omega)
 have:=lets_len h4
 rw[runF_eq (f:=f_q0) (δ:=[some (.lst (ps.map patD),false),none,none,none,none]) rfl rfl rfl]
 rw[List.map_nil]at e
 simp[g_q0]
 rw[e]
 simp[k_q0_3]
 rw[sortSet_strs (by omega)]
 simp
theorem in_strs (l:Str) (ss:List Str) (ds:List D) (h:∀x,x∈ds↔x∈ss.map D.str):inO (some (.str l)) (some (.lst ds))=some (decide (l∈ss)):=by
 unfold inO
 simp only[itemsD]
 rw[if_pos]
 ·congr 1
  apply decide_eq_decide.mpr
  rw[h]
  simp
 ·rw[Bool.and_eq_true,List.all_eq_true]
  refine⟨rfl,fun x hx=>?_⟩
  obtain⟨c,_,rfl⟩:=List.mem_map.mp ((h x).mp hx)
  rfl
theorem flat_te (t:Te):D.flat (teD t)=true:=by cases t<;>rfl
end K72
namespace K72
open PySem PySem.NumText L2
theorem comp_unk (ts:List Te):compO (itemO (aj 4) (fun δ=>eqO (ixO (rd false 4 δ) (some (.int 0))) (some (.str "any"))) e_qi_1 [none,none,none,none,none]) (ts.map teD)=some ((ans ts).map fun l=>teD (.any l)):=by
 induction ts with
 |nil=>rfl
 |cons c ts ih=>
  rw[List.map_cons]
  unfold compO
  rw[ih]
  cases c with
  |any n=>simp[itemO,teD,e_qi_1,at0,at1,eqO_str,ans]
  |nm w=>simp[itemO,teD,e_qi_1,at0,at1,eqO_str,na,ans]
theorem unk_loop:∀(rs:List Pat) (acc:List Str) (a0 x2 x3 x4:Option (D×Bool)),(∀r∈rs,r.2.length≤4)→acc.length+4*rs.length≤1000→∃y2 y3,
  loopD (fun d δ=>ah ((toTup (toCons (aj 2) (toCons (aj 3) (toNil)))) d δ) b_qi_2) (rs.map patD) [a0,some (.lst (acc.map fun l=>teD (.any l)),true),x2,x3,x4]=some (.next [a0,some (.lst ((acc++lets rs).map fun l=>teD (.any l)),true),y2,y3,x4])
 |[],acc,a0,x2,x3,x4,_,_=>⟨x2,x3,by simp[loopD,lets]⟩
 |r::rs,acc,a0,x2,x3,x4,h4,hl=>by
  have hr:=h4 r (List.mem_cons_self ..)
  have hb:=ans_len r.2
  rw[List.length_cons]at hl
  obtain⟨y2,y3,e⟩:=unk_loop rs (acc++ans r.2) a0 (some (.str r.1,false)) (some (.tup (r.2.map teD),false)) x4 (fun q hq=>h4 q (List.mem_cons_of_mem _ hq)) (by simp;omega)
  refine⟨y2,y3,?_⟩
  have en:acc++lets (r::rs)=acc++ans r.2++lets rs:=by simp[lets]
  rw[en,←e,List.map_cons]
  conv=>lhs;unfold loopD
  simp[patD,b_qi_2]
  rw[runC_s (by simp;omega)]
  simp[maskD]
  have:=comp_unk r.2
  rw[this]
  simp[extO_u]
  rw[if_pos (by omega)]
theorem unknowns_eq {ps:List Pat}(hl:ps.length≤4) (h4:∀p∈ps,p.2.length≤4):f_qi [.lst (ps.map patD)]=some (.lst ((lets ps).map fun l=>teD (.any l)),true):=by
 obtain⟨y2,y3,e⟩:=unk_loop ps [] (some (.lst (ps.map patD),false)) none none none h4 (by simp;omega)
 rw[runF_eq (f:=f_qi) (δ:=[some (.lst (ps.map patD),false),none,none,none,none]) rfl rfl rfl]
 rw[List.map_nil]at e
 simp[g_qi]
 rw[e]
 simp
theorem notin_unk (l:Str) (ss:List Str):notInO (some (teD (.any l))) (some (.lst (ss.map fun l=>teD (.any l))))=some (!decide (l∈ss)):=by
 unfold notInO inO
 simp only[itemsD]
 rw[if_pos]
 ·rw[notO_s]
  congr 2
  apply decide_eq_decide.mpr
  rw[List.mem_map]
  constructor
  ·rintro⟨m,hm,e⟩
   have:=teD_inj e
   cases this;exact hm
  ·exact fun h=>⟨l,h,rfl⟩
 ·rw[Bool.and_eq_true,List.all_eq_true]
  refine⟨ok_te _ 14,fun x hx=>?_⟩
  obtain⟨c,_,rfl⟩:=List.mem_map.mp hx
  exact ok_te _ 14
noncomputable def knownT (ps:List Pat) (w:Str):Option Te:=match termT w with
 |some (.nm v)=>some (.nm v)
 |some (.any l)=>if l∈lets ps then some (.any l) else none
 |none=>none
theorem read_known_eq {ps:List Pat}(hl:ps.length≤4) (h4:∀p∈ps,p.2.length≤4) (w:Str) (h:w.length≤lim):f_q9 [.str w,.lst (ps.map patD)]=some ((knownT ps w).map fun t=>(teD t,false)):=by
 rw[runX_eq (f:=f_q9) (δ:=[some (.str w,false),some (.lst (ps.map patD),false),none]) rfl rfl rfl]
 simp only[g_q9,rd_0,consO_s,bindO_s,read_term_eq w h]
 unfold knownT
 cases e:termT w with
 |none=>simp[setX]
 |some t=>
  have e1:setX 2 (shX (some (Option.map (fun t=>(teD t,false)) (some t)))) [some (.str w,false),some (.lst (ps.map patD),false),none]=some (.o (.next [some (.str w,false),some (.lst (ps.map patD),false),some (teD t,false)])):=rfl
  rw[e1]
  simp only[seqX_n,rd_0,rd_1,consO_s,bindO_s,letters_of_eq hl h4,frO_s]
  cases t with
  |nm v=>
   have f2:ixO (some (teD (.nm v))) (some (.int 0))=some (.str "name"):=rfl
   rw[f2,eqO_str]
   simp[demand_eq]
  |any l=>
   have f2:ixO (some (teD (.any l))) (some (.int 0))=some (.str "any"):=rfl
   have f3:ixO (some (teD (.any l))) (some (.int 1))=some (.str l):=rfl
   rw[f2,f3,eqO_str,in_strs l (lets ps) _ fun x=>sU_mem,decide_eq_false (by rw[an];exact id)]
   by_cases hm:l∈lets ps
   ·simp[hm,demand_eq]
   ·simp[hm,demand_eq]
theorem vf_te (t:Te):valX (flX (some (some (teD t))))=some (some (teD t)):=by rw[flX_s (flat_te t)];cases t<;>rfl
noncomputable abbrev toS:Str:=" => "
noncomputable abbrev eqS:Str:=" = "
noncomputable def ruleT (t:Str):Option (List D):=match Builtin.Str.occurrences t toS 0 t.length 1 with
 |[]=>none
 |i::_=>match patsP (Builtin.Str.strSub t 0 i)with
  |none=>none
  |some ps=>match Builtin.Str.occurrences (Builtin.Str.strSub t (i+4) t.length) eqS 0 (Builtin.Str.strSub t (i+4) t.length).length 1 with
   |[]=>match patsP (Builtin.Str.strSub t (i+4) t.length)with
    |none=>none
    |some qs=>some [.str "must",.lst (ps.map patD),.lst (qs.map patD)]
   |j::_=>match knownT ps (Builtin.Str.strSub (Builtin.Str.strSub t (i+4) t.length) 0 j),knownT ps (Builtin.Str.strSub (Builtin.Str.strSub t (i+4) t.length) (j+3) (Builtin.Str.strSub t (i+4) t.length).length)with
    |some x,some y=>some [.str "same",.lst (ps.map patD),teD x,teD y]
    |_,_=>none
theorem to_len:toS.length=4:=by decide +kernel
theorem to_len0:(Str.length " => "==0)=false:=by decide +kernel
theorem eq_len:eqS.length=3:=by decide +kernel
theorem eq_len0:(Str.length " = "==0)=false:=by decide +kernel
theorem to_kind:Builtin.Str.strKind toS=1:=by decide +kernel
theorem eq_kind:Builtin.Str.strKind eqS=1:=by decide +kernel
theorem eq_list:eqS.cps.toList=32::[61,32]:=by decide +kernel
theorem pats_empty:patsP Str.empty=none:=by
 have:(patsP Str.empty).isNone=true:=by decide +kernel
 exact Option.isNone_iff_eq_none.mp this
theorem term_space {w:Str}(h:32∈w.cps.toList):termT w=none:=by
 unfold termT
 rw[if_neg fun hn=>by have:=name_sign hn h;omega,if_neg fun hg=>by
  obtain⟨c,rfl,h1,h2⟩:=great_sign hg
  simp at h;omega]
theorem known_space {ps:List Pat}{w:Str}(h:32∈w.cps.toList):knownT ps w=none:=by unfold knownT;rw[term_space h]
theorem split_empty:Txt.split Str.empty " = "=[Str.empty]:=by decide +kernel
theorem read_rule_eq (t:Str) (h:t.length+10≤lim):f_q5 [.str t]=some ((ruleT t).map fun ds=>(.tup ds,true)):=by
 rw[runX_eq (f:=f_q5) (δ:=[some (.str t,false),none,none,none]) rfl rfl rfl]
 simp only[g_q5,rd_0,consO_s,bindO_s,demand_text_eq (.str t) true rfl,if_true,shX_s,dropX_s,seqX_n,partO_s t " => " (by omega) to_len0]
 have s1:∀d:D,setO 1 (some d) [some (.str t,false),none,none,none]=some (.next [some (.str t,false),some (d,false),none,none]):=fun _=>rfl
 have s2:∀(d e:D),setFx 2 (some (some d)) [some (.str t,false),some (e,false),none,none]=some (.o (.next [some (.str t,false),some (e,false),some (d,true),none])):=fun _ _=>rfl
 have s3:∀(d e f:D),setO 3 (some f) [some (.str t,false),some (e,false),some (d,true),none]=some (.next [some (.str t,false),some (e,false),some (d,true),some (f,false)]):=fun _ _ _=>rfl
 have i0:∀a b c:D,ixO (some (.tup [a,b,c])) (some (.int 0))=some a:=fun _ _ _=>rfl
 have i2:∀a b c:D,ixO (some (.tup [a,b,c])) (some (.int 2))=some c:=fun _ _ _=>rfl
 unfold ruleT
 rcases split_cases t toS (by rw[to_len];decide) to_kind with⟨h0,_⟩|⟨i,h0,hi,_⟩
 ·rw[h0,cutAt_none h0]
  simp only[List.map_cons,List.map_nil,s1,upS_s,seqX_n,rd_0,rd_1,i0,i2,consO_s,bindO_s,read_patterns_eq t (by omega)]
  cases hp:patsP t with
  |none=>simp
  |some ps=>
   have he:Str.empty.length=0:=rfl
   simp only[Option.map_some,frX_s,s2,seqX_n,rd_0,rd_1,i2,splitO_s Str.empty " = " (by rw[he];decide) eq_len0,split_empty,List.map_cons,List.map_nil,s3,upS_s,lenL_l,List.length_cons,List.length_nil,eqO_int,read_patterns_eq Str.empty (by rw[he];decide),pats_empty,consO_s,bindO_s,Option.map_none,frX_e,newX_e]
   simp
 ·rw[h0,cutAt_one h0]
  dsimp only
  rw[to_len]at hi
  rw[show i+Str.length " => "=i+4 from by rw[show Str.length " => "=4 from to_len]]
  generalize hA:Builtin.Str.strSub t 0 i=A
  generalize hB:Builtin.Str.strSub t (i+4) t.length=B
  have hAl:A.length≤t.length:=by rw[←hA];exact strSub_length_le ..
  have hBl:B.length≤t.length:=by rw[←hB];exact strSub_length_le ..
  simp only[List.map_cons,List.map_nil,s1,upS_s,seqX_n,rd_0,rd_1,i0,i2,consO_s,bindO_s,read_patterns_eq A (by omega)]
  cases hp:patsP A with
  |none=>simp
  |some ps=>
   obtain⟨hl4,h4⟩:=pats_small hp
   dsimp only
   simp only[Option.map_some,frX_s,s2,seqX_n,rd_0,rd_1,i2,splitO_s B " = " (by omega) eq_len0,s3,upS_s,lenL_l,List.length_map,eqO_int,read_patterns_eq B (by omega),consO_s,bindO_s]
   rcases split_cases B eqS (by rw[eq_len];decide) eq_kind with⟨g0,gs⟩|⟨j,g0,hj,gs⟩
   ·rw[g0,show Txt.split B " = "=[B] from gs]
    cases hq:patsP B with
    |none=>simp
    |some qs=>simp
   ·rw[g0]
    rw[eq_len]at hj gs
    have hsl:((Txt.split B " = ").length:Int)≠1:=by
     rcases gs with gs|⟨gs,_⟩
     ·rw[show Txt.split B " = "=_ from gs];simp
     ·have:3≤(Txt.split B " = ").length:=gs
      omega
    rw[decide_eq_false hsl]
    simp only[ifX'_f,seqX_n,rd_0,rd_1,ofB_s,lenL_l,List.length_map,eqO_int,consO_s,bindO_s,demand_eq]
    rcases gs with gs|⟨gs,k,hk,hat⟩
    ·rw[show Txt.split B " = "=_ from gs]
     generalize hC:Builtin.Str.strSub B 0 j=C
     generalize hE:Builtin.Str.strSub B (j+3) B.length=E
     have hCl:C.length≤B.length:=by rw[←hC];exact strSub_length_le ..
     have hEl:E.length≤B.length:=by rw[←hE];exact strSub_length_le ..
     have j0:∀a b:D,ixO (some (.lst [a,b])) (some (.int 0))=some a:=fun _ _=>rfl
     have j1:∀a b:D,ixO (some (.lst [a,b])) (some (.int 1))=some b:=fun _ _=>rfl
     have e2:decide ((([C,E]:List Str).length:Int)=2)=true:=by simp
     simp only[e2,if_true,shX_s,dropX_s,seqX_n,rd_0,rd_1,rd_0o,rdOwn_0,rdOwn_1,List.map_cons,List.map_nil,j0,j1,consO_s,bindO_s,read_known_eq hl4 h4 C (by omega),read_known_eq hl4 h4 E (by omega)]
     cases hx:knownT ps C with
     |none=>simp
     |some x=>
      cases hy:knownT ps E with
      |none=>simp[vf_te]
      |some y=>simp[vf_te]
    ·have hno:knownT ps (Builtin.Str.strSub B (j+3) B.length)=none:=known_space (sub_get hk (at_first eq_list hat))
     rw[hno]
     have e2:decide (((Txt.split B " = ").length:Int)=2)=false:=decide_eq_false (by
      have:3≤(Txt.split B " = ").length:=gs
      omega)
     rw[e2]
     cases knownT ps (Builtin.Str.strSub B 0 j)<;>simp
end K72
namespace K72
open PySem PySem.NumText L2
theorem told_one {ps:List Pat}(hl:ps.length≤4) (h4:∀p∈ps,p.2.length≤4) (w:Str) (a0 a1 a3 a4 a5 x6:Option (D×Bool)):ah (aj 6 (termN w) [a0,a1,some (.lst (ps.map patD),false),a3,a4,a5,x6]) b_qr_1=
  match knownT ps w with
  |none=>some (.ret .non false)
  |some t=>some (.next [a0,a1,some (.lst (ps.map patD),false),a3,a4,a5,some (teD t,false)]):=by
 have f0:∀d:D,aj 6 d [a0,a1,some (.lst (ps.map patD),false),a3,a4,a5,x6]=some [a0,a1,some (.lst (ps.map patD),false),a3,a4,a5,some (d,false)]:=fun _=>rfl
 simp only[f0,bindO_s,b_qr_1,rd_0,rd_1,consO_s,unknowns_eq hl h4,frO_s]
 unfold knownT termN
 cases termT w with
 |none=>simp[isNO]
 |some t=>
  have hn:isNO (some (teD t))=some false:=by unfold isNO;simp[teD_ne t]
  simp only[hn]
  cases t with
  |nm v=>
   have f2:ixO (some (teD (.nm v))) (some (.int 0))=some (.str "name"):=rfl
   rw[f2,eqO_str,decide_eq_false (by rw[na];exact id)]
   simp
  |any l=>
   have f2:ixO (some (teD (.any l))) (some (.int 0))=some (.str "any"):=rfl
   rw[f2,eqO_str,notin_unk]
   by_cases hm:l∈lets ps<;>simp[hm]
noncomputable def toldD (t:Str):D:=match ruleT t with|some ds=>.tup ds|none=>.non
theorem told_eq (t:Str) (h:t.length+10≤lim):f_qr [.str t]=some (toldD t,false):=by
 rw[runF_eq (f:=f_qr) (δ:=[some (.str t,false),none,none,none,none,none,none]) rfl rfl rfl]
 have e0:isiO "str" (some (.str t))=some (.bl true):=rfl
 unfold toldD ruleT
 simp only[g_qr,rd_0,e0,tyB_s,notO_s,Bool.not_true,orO_f,inSO_i]
 rcases split_cases t toS (by rw[to_len];decide) to_kind with⟨h0,_⟩|⟨i,h0,hi,_⟩
 ·have e1:inS " => " t=false:=by unfold inS;rw[h0];rfl
  rw[h0,e1]
  simp
 ·have e1:inS " => " t=true:=by unfold inS;rw[h0];rfl
  rw[h0,e1]
  rw[to_len]at hi
  have s1:∀d:D,setO 1 (some d) [some (.str t,false),none,none,none,none,none,none]=some (.next [some (.str t,false),some (d,false),none,none,none,none,none]):=fun _=>rfl
  have s2:∀(a d:D),setO 2 (some d) [some (.str t,false),some (a,false),none,none,none,none,none]=some (.next [some (.str t,false),some (a,false),some (d,false),none,none,none,none]):=fun _ _=>rfl
  have s3:∀(a b d:D),setO 3 (some d) [some (.str t,false),some (a,false),some (b,false),none,none,none,none]=some (.next [some (.str t,false),some (a,false),some (b,false),some (d,false),none,none,none]):=fun _ _ _=>rfl
  have s4:∀(a b c d:D),setO 4 (some d) [some (.str t,false),some (a,false),some (b,false),some (c,false),none,none,none]=some (.next [some (.str t,false),some (a,false),some (b,false),some (c,false),some (d,false),none,none]):=fun _ _ _ _=>rfl
  have s1':∀(a b c d:D),setO 1 (some d) [some (.str t,false),some (a,false),some (b,false),some (c,false),none,none,none]=some (.next [some (.str t,false),some (d,false),some (b,false),some (c,false),none,none,none]):=fun _ _ _ _=>rfl
  have s5:∀(a b c d:D),setO 5 (some d) [some (.str t,false),some (a,false),some (b,false),some (c,false),none,none,none]=some (.next [some (.str t,false),some (a,false),some (b,false),some (c,false),none,some (d,false),none]):=fun _ _ _ _=>rfl
  have hfind:findO (some (.str t)) (some (.str " => "))=some (.int (i:Int)):=by rw[findO_s,find_one h0]
  have htl:t.length≤lim:=by omega
  dsimp only
  simp only[Bool.not_true,ifO_f,nextO_s,seqO_n,rd_0,rd_1,hfind,s1,partI_s,cutSO_s t _ _ htl]
  have hcut:cutS t (some ((i:Int)+4)) none=Builtin.Str.strSub t (i+4) t.length:=by
   rw[show((i:Int)+4)=((i+4:Nat):Int) by omega];exact cutS_from t (i+4) hi
  rw[cutS_to t i (by omega)]
  generalize hA:Builtin.Str.strSub t 0 i=A
  generalize hB:Builtin.Str.strSub t (i+4) t.length=B at hcut
  have hAl:A.length≤t.length:=by rw[←hA];exact strSub_length_le ..
  have hBl:B.length≤t.length:=by rw[←hB];exact strSub_length_le ..
  simp only[consO_s,bindO_s,told_body_eq A (by omega)]
  cases hp:patsP A with
  |none=>
   simp only[shO_s,s2,seqO_n,rd_0,rd_1,partI_s,addI_s,cutSO_s t _ _ htl,hcut,s3]
   simp[isNO]
  |some ps=>
   obtain⟨hl4,h4⟩:=pats_small hp
   have hn:∀ds:List D,isNO (some (.lst ds))=some false:=fun ds=>by unfold isNO;simp
   dsimp only
   simp only[shO_s,s2,seqO_n,rd_0,rd_1,partI_s,addI_s,cutSO_s t _ _ htl,hcut,s3,hn,ifO_f,nextO_s,inSO_i,notO_s]
   rcases split_cases B eqS (by rw[eq_len];decide) eq_kind with⟨g0,gs⟩|⟨j,g0,hj,gs⟩
   ·have e2:inS " = " B=false:=by unfold inS;rw[g0];rfl
    rw[g0,e2]
    simp only[Bool.not_false,ifO_t,consO_s,bindO_s,told_body_eq B (by omega)]
    cases hq:patsP B with
    |none=>simp[s4,isNO]
    |some qs=>
     simp only[shO_s,s4,seqO_n,rd_0,rd_1,hn,ifO_f,nextO_s,consO_s]
     simp
   ·have e2:inS " = " B=true:=by unfold inS;rw[g0];rfl
    rw[g0,e2]
    rw[eq_len]at hj gs
    have hfind2:findO (some (.str B)) (some (.str " = "))=some (.int (j:Int)):=by rw[findO_s,find_one g0]
    have hcut2:cutS B (some ((j:Int)+3)) none=Builtin.Str.strSub B (j+3) B.length:=by
     rw[show((j:Int)+3)=((j+3:Nat):Int) by omega];exact cutS_from B (j+3) hj
    dsimp only
    simp only[Bool.not_true,ifO_f,nextO_s,seqO_n,rd_0,rd_1,hfind2,s1',partI_s,addI_s,cutSO_s B _ _ (show B.length≤lim by omega),hcut2]
    rw[cutS_to B j (by omega)]
    generalize hC:Builtin.Str.strSub B 0 j=C
    generalize hE:Builtin.Str.strSub B (j+3) B.length=E
    have hCl:C.length≤B.length:=by rw[←hC];exact strSub_length_le ..
    have hEl:E.length≤B.length:=by rw[←hE];exact strSub_length_le ..
    have hCt:f_qp [.str C]=some (termN C,false):=law_term_eq C (by omega)
    have hEt:f_qp [.str E]=some (termN E,false):=law_term_eq E (by omega)
    simp only[consO_s,bindO_s,hCt,hEt,shO_s]
    rw[lstO_s _ (by simp),s5]
    simp only[seqO_n,rd_0,rd_1,lstL_s,bindO_s,loopD]
    rw[told_one hl4 h4 C]
    cases hx:knownT ps C with
    |none=>simp
    |some x=>
     simp only
     rw[told_one hl4 h4 E]
     have hxN:termN C=teD x:=by
      unfold knownT at hx
      unfold termN
      cases e:termT C with
      |none=>rw[e]at hx;cases hx
      |some y=>
       rw[e]at hx
       cases y with
       |nm v=>simp at hx;rw[←hx]
       |any l=>simp at hx;rw[←hx.2]
     cases hy:knownT ps E with
     |none=>simp
     |some y=>
      have hyN:termN E=teD y:=by
       unfold knownT at hy
       unfold termN
       cases e:termT E with
       |none=>rw[e]at hy;cases hy
       |some z=>
        rw[e]at hy
        cases z with
        |nm v=>simp at hy;rw[←hy]
        |any l=>simp at hy;rw[←hy.2]
      have j0:∀a b:D,ixO (some (.lst [a,b])) (some (.int 0))=some a:=fun _ _=>rfl
      have j1:∀a b:D,ixO (some (.lst [a,b])) (some (.int 1))=some b:=fun _ _=>rfl
      simp only[seqO_n,rd_0,rd_1,j0,j1,consO_s,hxN,hyN]
      simp
theorem told_no (d:D) (h:isiO "str" (some d)=some (.bl false)):f_qr [d]=some (.non,false):=by
 rw[runF_eq (f:=f_qr) (δ:=[some (d,false),none,none,none,none,none,none]) rfl rfl rfl]
 simp[g_qr,h]
theorem read_rule_no (d:D) (h:isiO "str" (some d)=some (.bl false)):f_q5 [d]=some none:=by
 rw[runX_eq (f:=f_q5) (δ:=[some (d,false),none,none,none]) rfl rfl rfl]
 simp[g_q5,demand_text_eq d false h]
theorem rule_ok {t:Str}{ds:List D}(h:ruleT t=some ds):∃x ps r,ds=x::.lst (List.map patD ps)::r∧ps.length≤4∧okD 16 (.tup ds)=true:=by
 unfold ruleT at h
 split at h
 ·cases h
 ·rename_i i _ _
  split at h
  ·cases h
  ·rename_i ps hp
   have hs:=pats_small hp
   split at h
   ·split at h
    ·cases h
    ·rename_i qs hq
     cases h
     refine⟨_,ps,_,rfl,hs.1,?_⟩
     have e1:=ok_pats ps 9
     have e2:=ok_pats qs 9
     show([D.str "must",.lst (ps.map patD),.lst (qs.map patD)]).all (okD 15)=true
     simp only[List.all_cons,List.all_nil,e1,e2]
     rfl
   ·split at h
    ·rename_i x y _ _
     cases h
     refine⟨_,ps,_,rfl,hs.1,?_⟩
     have e1:=ok_pats ps 9
     have e2:=ok_te x 13
     have e3:=ok_te y 13
     show([D.str "same",.lst (ps.map patD),teD x,teD y]).all (okD 15)=true
     simp only[List.all_cons,List.all_nil,e1,e2,e3]
     rfl
    ·cases h
theorem right_none (d:D) (ht:f_qr [d]=some (.non,false)) (hr:f_q5 [d]=some none):f_qs [d]=some (.bl true,false):=by
 rw[runF_eq (f:=f_qs) (δ:=[some (d,false),none,none,none,none]) rfl rfl rfl]
 have s1:∀x:D,setO 1 (some x) [some (d,false),none,none,none,none]=some (.next [some (d,false),some (x,false),none,none,none]):=fun _=>rfl
 have s2:∀x y:D,setO 2 (some y) [some (d,false),some (x,false),none,none,none]=some (.next [some (d,false),some (x,false),some (y,false),none,none]):=fun _ _=>rfl
 have s3:∀x y z:D,setO 3 (some z) [some (d,false),some (x,false),some (y,false),none,none]=some (.next [some (d,false),some (x,false),some (y,false),some (z,false),none]):=fun _ _ _=>rfl
 simp only[g_qs,rd_0,consO_s,bindO_s,ht,shO_s,s1,seqO_n,s2,s3,hr]
 rw[tryN_e _ _ _ _ _ _ _ (by simp)]
 simp[k_qs_2,isNO]
theorem right_eq (t:Str) (h:t.length+10≤lim):f_qs [.str t]=some (.bl true,false):=by
 have ht:=told_eq t h
 have hr:=read_rule_eq t h
 unfold toldD at ht
 cases e:ruleT t with
 |none=>
  rw[e]at ht hr
  exact right_none _ ht hr
 |some ds=>
  rw[e]at ht hr
  obtain⟨x0,ps,r,rfl,hl,hok⟩:=rule_ok e
  rw[runF_eq (f:=f_qs) (δ:=[some (.str t,false),none,none,none,none]) rfl rfl rfl]
  generalize hT:D.tup (x0::.lst (List.map patD ps)::r)=T at ht hok
  have hr':f_q5 [.str t]=some (some (.tup (x0::.lst (List.map patD ps)::r),true)):=hr
  have s1:∀x:D,setO 1 (some x) [some (.str t,false),none,none,none,none]=some (.next [some (.str t,false),some (x,false),none,none,none]):=fun _=>rfl
  have s2:∀x y:D,setO 2 (some y) [some (.str t,false),some (x,false),none,none,none]=some (.next [some (.str t,false),some (x,false),some (y,false),none,none]):=fun _ _=>rfl
  have s3:∀x y z:D,setO 3 (some z) [some (.str t,false),some (x,false),some (y,false),none,none]=some (.next [some (.str t,false),some (x,false),some (y,false),some (z,false),none]):=fun _ _ _=>rfl
  simp only[g_qs,rd_0,consO_s,bindO_s,ht,shO_s,s1,seqO_n,s2,s3,hr']
  rw[tryN_s _ _ _ _ _ _ _ _ (by simp),hT]
  show outF (k_qs_1 [some (.str t,false),some (T,false),some (.non,false),some (T,false),none])=_
  have n1:isNO (some T)=some false:=by rw[←hT];unfold isNO;simp
  have n2:isNO (some D.non)=some true:=by unfold isNO;simp
  have n3:isiO "tuple" (some T)=some (.bl true):=by rw[←hT];rfl
  have n4:neO (some T) (some T)=some false:=by rw[neO_s _ _ (by unfold ok2;rw[hok];rfl)];simp
  have n5:ixO (some T) (some (.int 1))=some (.lst (List.map patD ps)):=by rw[←hT,ixO_t];exact atI_eq (by decide) (by simp)
  have n6:isiO "list" (some (.lst (List.map patD ps)))=some (.bl true):=rfl
  have n7:eqO (some T) (some T)=some true:=by rw[eqO_s _ _ (by unfold ok2;rw[hok];rfl)];simp
  unfold k_qs_1
  simp only[rd_0,rd_1,n1,n2,n3,n4,n5,n6,tyB_s,notO_s,Bool.not_true,orO_f,ifO_f]
  rw[apnO_s (ds:=x0::.lst (List.map patD ps)::r) (es:=List.map patD ps) (by rw[←hT];rfl) (atI_eq (by decide) (by simp)) (by rw[List.length_map,lim_eq];omega)]
  simp only[List.set,rd_0,rd_1,consO_s,bindO_s,hr',hT,shX_s,noX_s,n7]
  simp
theorem right_no (d:D) (h:isiO "str" (some d)=some (.bl false)):f_qs [d]=some (.bl true,false):=right_none d (told_no d h) (read_rule_no d h)
end K72
namespace K72
open PySem PySem.NumText L2
theorem abc_len:Str.length "abcdefghijklmnopqrstuvwxyz"=26:=by decide +kernel
theorem ABC_len:Str.length "ABCDEFGHIJKLMNOPQRSTUVWXYZ"=26:=by decide +kernel
theorem name_eq (c f:Int) (h0:0≤f) (h1:f≤900):∃s:Str,s.length≤8∧f_qf [.int c,.int f]=some (.str s,false):=by
 rw[runF_eq (f:=f_qf) (δ:=[some (.int c,false),some (.int f,false),none,none,none]) rfl rfl rfl]
 have m0:=mixI_lo c f
 have hsz:∃z:Int,1≤z∧z≤8∧ixO (lstO (some [(.int 1),(.int 1),(.int 2),(.int 3),(.int 4),(.int 5),(.int 6),(.int 7),(.int 8)])) (modI (some (.int (mixI c f))) (some (.int 9)))=some (.int z):=by
  rw[lstO_s _ (by decide),modI_s _ _ (by decide),ixO_l]
  obtain⟨v,hv,_,e⟩:=atI_in (xs:=[D.int 1,.int 1,.int 2,.int 3,.int 4,.int 5,.int 6,.int 7,.int 8]) (i:=mixI c f%9) (by omega) (by simp;omega)
  rw[e]
  simp at hv
  rcases hv with rfl|rfl|rfl|rfl|rfl|rfl|rfl|rfl<;>exact⟨_,by decide,by decide,rfl⟩
 obtain⟨z,z1,z2,ez⟩:=hsz
 have e1:setO 2 (some (.str "abcdefghijklmnopqrstuvwxyz")) [some (.int c,false),some (.int f,false),none,none,none]=some (.next [some (.int c,false),some (.int f,false),some (.str "abcdefghijklmnopqrstuvwxyz",false),none,none]):=rfl
 simp only[g_qf,e1,seqO_n,rd_0,rd_1,consO_s,bindO_s,mix_eq c f (by omega) (by omega),shO_s,ez]
 have e2:setO 3 (some (.int z)) [some (.int c,false),some (.int f,false),some (.str "abcdefghijklmnopqrstuvwxyz",false),none,none]=some (.next [some (.int c,false),some (.int f,false),some (.str "abcdefghijklmnopqrstuvwxyz",false),some (.int z,false),none]):=rfl
 simp only[e2,seqO_n,rd_0,rd_1]
 rw[rng1_s z (by omega),bindO_s,runC_s (by rw[rngL_len];simp;omega)]
 obtain⟨g,eg,gl,gp⟩:=compO_ex (ds:=rngL 0 z.toNat) (P:=fun _ y=>∃x:Str,x.length=1∧y=.str x)
  (h:=itemO (aj 4) (fun δ=>some true) e_qf_1 (maskD false [true,true,true,false,false] [some (.int c,false),some (.int f,false),some (.str "abcdefghijklmnopqrstuvwxyz",false),some (.int z,false),none])) fun d hd=>by
   obtain⟨i,hi,rfl⟩:=rngL_mem hd
   have hi':i<8:=by omega
   have h0':=mixI_lo c (f+1+(0+(i:Int)))
   obtain⟨x,hx,ex⟩:=ixSO_in "abcdefghijklmnopqrstuvwxyz" (mixI c (f+1+(0+(i:Int)))%26) (by rw[abc_len];decide) (by omega) (by rw[abc_len];omega)
   refine⟨.str x,?_,x,hx,rfl⟩
   have e0:(0:Int)+(i:Int)=i:=by omega
   rw[e0]at ex
   simp[itemO,maskD,e_qf_1]
   rw[mix_eq c _ (by omega) (by omega),shO_s,modI_s _ _ (by decide),ex]
 obtain⟨ss,rfl,hss⟩:=strs_of (Q:=fun x=>x.length=1) gl gp fun d y ⟨x,hx,e⟩=>⟨x,e,hx⟩
 rw[rngL_len,List.length_map]at gl
 have hj:=joinO_s "" ss (by rw[ones_sum hss,show Str.length ""=0 by decide +kernel];omega)
 have hjl:(Txt.join "" ss).length=ss.length:=by rw[join0_len,ones_sum hss]
 rw[eg]
 exact⟨Txt.join "" ss,by omega,by simp[hj]⟩
theorem letters_eq (c:Int):∃ws:List Str,ws.length=5∧(∀w∈ws,w.length=1)∧f_qg [.int c]=some (.lst (ws.map .str),true):=by
 have m1:=mixI_lo c 13
 have m2:=mixI_lo c 14
 obtain⟨st,hst,_,est⟩:=atI_in (xs:=[D.int 1,.int 3,.int 5,.int 7,.int 9,.int 11]) (i:=mixI c 14%6) (by omega) (by simp;omega)
 obtain⟨sp,hsp,rfl⟩:∃sp:Int,(sp=1∨sp=3∨sp=5∨sp=7∨sp=9∨sp=11)∧st=.int sp:=by
  simp at hst
  rcases hst with rfl|rfl|rfl|rfl|rfl|rfl<;>exact⟨_,by omega,rfl⟩
 rw[runF_eq (f:=f_qg) (δ:=[some (.int c,false),none,none,none]) rfl rfl rfl]
 have e1:setO 1 (some (.str "ABCDEFGHIJKLMNOPQRSTUVWXYZ")) [some (.int c,false),none,none,none]=some (.next [some (.int c,false),some (.str "ABCDEFGHIJKLMNOPQRSTUVWXYZ",false),none,none]):=rfl
 have e2:setO 2 (some (.int sp)) [some (.int c,false),some (.str "ABCDEFGHIJKLMNOPQRSTUVWXYZ",false),none,none]=some (.next [some (.int c,false),some (.str "ABCDEFGHIJKLMNOPQRSTUVWXYZ",false),some (.int sp,false),none]):=rfl
 simp only[g_qg,e1,seqO_n,rd_0,rd_1,consO_s,bindO_s,mix_eq c 14 (by decide) (by decide),shO_s,modI_s (mixI c 14) 6 (by decide)]
 rw[lstO_s _ (by decide),ixO_l,est,e2]
 simp only[seqO_n]
 obtain⟨g,eg,gl,gp⟩:=compO_ex (ds:=rngL 0 5) (P:=fun _ y=>∃x:Str,x.length=1∧y=.str x)
  (h:=itemO (aj 3) (fun δ=>some true) e_qg_1 (maskD false [true,true,true,false] [some (.int c,false),some (.str "ABCDEFGHIJKLMNOPQRSTUVWXYZ",false),some (.int sp,false),none])) fun d hd=>by
   obtain⟨i,hi,rfl⟩:=rngL_mem hd
   obtain⟨x,hx,ex⟩:=ixSO_in "ABCDEFGHIJKLMNOPQRSTUVWXYZ" ((mixI c 13+sp*(i:Int))%26) (by rw[ABC_len];decide) (by omega) (by rw[ABC_len];omega)
   refine⟨.str x,?_,x,hx,rfl⟩
   simp[itemO,maskD,e_qg_1]
   rw[mix_eq c 13 (by decide) (by decide),shO_s,mulI_s _ _ (by omega),addI_s,modI_s _ _ (by decide),ex]
 obtain⟨ss,rfl,hss⟩:=strs_of (Q:=fun x=>x.length=1) gl gp fun d y ⟨x,hx,e⟩=>⟨x,e,hx⟩
 rw[rngL_len,List.length_map]at gl
 rw[rng1_s 5 (by omega),bindO_s,runC_s (by rw[rngL_len];decide),show(5:Int).toNat=5 from rfl,eg]
 exact⟨ss,gl,hss,by simp⟩
noncomputable def teS:Te→Str
 |.any l=>l
 |.nm w=>w
noncomputable def DrawnT (t:Te):Prop:=(teS t).length≤8
noncomputable def DrawnP (p:Pat):Prop:=p.1.length≤8∧p.2.length≤4∧∀t∈p.2,DrawnT t
theorem at_strM {ws:List Str}{i:Int}(h0:0≤i) (h1:i<ws.length):∃w,w∈ws∧atI (ws.map D.str) i=some (.str w):=by
 obtain⟨v,hv,_,e⟩:=atI_in (xs:=ws.map D.str) h0 (by simpa using h1)
 obtain⟨w,hw,rfl⟩:=List.mem_map.mp hv
 exact⟨w,hw,e⟩
theorem inner {ls:List Str}(hl:ls.length=5) (h1:∀w∈ls,w.length=1) (c far k:Int) (hf:0≤far∧far≤300) (hk:0≤k∧k≤4) (n:Nat) (hn:n≤4) (x3 x6 x7:Option (D×Bool)):∃(ts:List Te) (y6 y7:Option (D×Bool)),ts.length=n∧(∀t∈ts,DrawnT t)∧
  loopD (fun d δ=>ah ((aj 6) d δ) b_qh_1) (rngL 0 n) [some (.int c,false),some (.int far,false),some (.lst (ls.map .str),false),x3,some (.int k,false),some (.lst [],true),x6,x7]
     =some (.next [some (.int c,false),some (.int far,false),some (.lst (ls.map .str),false),x3,some (.int k,false),some (.lst (ts.map teD),true),y6,y7]):=by
 obtain⟨δ',el,ts,htl,hti,y6,y7,rfl⟩:=loopD_inv (body:=fun d δ=>ah ((aj 6) d δ) b_qh_1) (fun pre δ=>∃ts:List Te,ts.length=pre.length∧(∀t∈ts,DrawnT t)∧∃y6 y7,
   δ=[some (.int c,false),some (.int far,false),some (.lst (ls.map .str),false),x3,some (.int k,false),some (.lst (ts.map teD),true),y6,y7]) (rngL 0 n) []
  [some (.int c,false),some (.int far,false),some (.lst (ls.map .str),false),x3,some (.int k,false),some (.lst [],true),x6,x7] ⟨[],rfl,by simp,x6,x7,rfl⟩
  fun p d q δ hpq ⟨ts,hts,hti,y6,y7,e⟩=>by
   have hd:d∈rngL 0 n:=by
    rw[List.nil_append]at hpq;rw[←hpq];simp
   have hp:p.length<4:=by
    have:=congrArg List.length hpq
    rw[List.nil_append,rngL_len]at this
    simp at this;omega
   obtain⟨i,hi,rfl⟩:=rngL_mem hd
   subst e
   have e0:(0:Int)+(i:Int)=i:=by omega
   rw[e0]
   have h0:=mixI_lo c (far+5+4*k+(i:Int))
   have em:=mix_eq c (far+5+4*k+(i:Int)) (by omega) (by omega)
   generalize mixI c (far+5+4*k+(i:Int))=m at h0 em
   obtain⟨w,hw,ew⟩:=name_eq c (far+30+9*(i:Int)) (by omega) (by omega)
   obtain⟨l,hl1,el1⟩:=at_strM (ws:=ls) (i:=m / 3%5) (by omega) (by omega)
   have f0:aj 6 (.int (i:Int)) [some (.int c,false),some (.int far,false),some (.lst (ls.map .str),false),x3,some (.int k,false),some (.lst (ts.map teD),true),y6,y7]=some [some (.int c,false),some (.int far,false),some (.lst (ls.map .str),false),x3,some (.int k,false),some (.lst (ts.map teD),true),some (.int (i:Int),false),y7]:=rfl
   have f1:setO 7 (some (.int m)) [some (.int c,false),some (.int far,false),some (.lst (ls.map .str),false),x3,some (.int k,false),some (.lst (ts.map teD),true),some (.int (i:Int),false),y7]=some (.next [some (.int c,false),some (.int far,false),some (.lst (ls.map .str),false),x3,some (.int k,false),some (.lst (ts.map teD),true),some (.int (i:Int),false),some (.int m,false)]):=rfl
   refine⟨_,.inl ?_,ts++[if m%3=0 then .nm w else .any l],by simp[hts],?_,some (.int i,false),some (.int m,false),rfl⟩
   ·simp only[f0,bindO_s,b_qh_1,rd_0,rd_1,mulI_s 4 k (by omega),mulI_s 9 (i:Int) (by omega),addI_s,consO_s,em,shO_s,f1,seqO_n,modI_s m 3 (by decide),eqO_int,ew,divI_s m 3 (by decide),modI_s (m / 3) 5 (by decide),ixO_l,el1]
    by_cases hm:m%3=0
    ·rw[decide_eq_true hm,ifO_t,tupO_s _ (by simp),appO_s (ds:=ts.map teD) _ (by rfl) (by rw[List.length_map,lim_eq];omega)]
     simp[teD,hm]
    ·rw[decide_eq_false hm,ifO_f,tupO_s _ (by simp),appO_s (ds:=ts.map teD) _ (by rfl) (by rw[List.length_map,lim_eq];omega),if_neg hm]
     simp[teD]
   ·intro t ht
    rcases List.mem_append.mp ht with ht|ht
    ·exact hti t ht
    ·rw[List.mem_singleton]at ht
     subst ht
     split
     ·exact hw
     ·show l.length≤8
      have:=h1 l hl1;omega
 rw[List.nil_append,rngL_len]at htl
 exact⟨ts,y6,y7,htl,hti,el⟩
theorem body_eq (c far:Int) (hf:0≤far∧far≤300):∃ps:List Pat,ps.length≤4∧(∀p∈ps,DrawnP p)∧f_qh [.int c,.int far]=some (.lst (ps.map patD),true):=by
 have m1:=mixI_lo c far
 obtain⟨ls,hll,hl1,els⟩:=letters_eq c
 obtain⟨sz,s1,s4,esz⟩:∃z:Int,1≤z∧z≤4∧ixO (lstO (some [(.int 1),(.int 1),(.int 2),(.int 2),(.int 3),(.int 4)])) (modI (some (.int (mixI c far))) (some (.int 6)))=some (.int z):=by
  rw[lstO_s _ (by decide),modI_s _ _ (by decide),ixO_l]
  obtain⟨v,hv,_,e⟩:=atI_in (xs:=[D.int 1,.int 1,.int 2,.int 2,.int 3,.int 4]) (i:=mixI c far%6) (by omega) (by simp;omega)
  rw[e]
  simp at hv
  rcases hv with rfl|rfl|rfl|rfl<;>exact⟨_,by decide,by decide,rfl⟩
 obtain⟨δ',el,ps,hpl,hpi,y4,y5,y6,y7,rfl⟩:=loopD_inv (body:=fun d δ=>ah ((aj 4) d δ) b_qh_3) (fun pre δ=>∃ps:List Pat,ps.length=pre.length∧(∀p∈ps,DrawnP p)∧∃y4 y5 y6 y7,
   δ=[some (.int c,false),some (.int far,false),some (.lst (ls.map .str),false),some (.lst (ps.map patD),true),y4,y5,y6,y7]) (rngL 0 sz.toNat) []
  [some (.int c,false),some (.int far,false),some (.lst (ls.map .str),false),some (.lst [],true),none,none,none,none] ⟨[],rfl,by simp,none,none,none,none,rfl⟩
  fun p d q δ hpq ⟨ps,hps,hpi,y4,y5,y6,y7,e⟩=>by
   have hd:d∈rngL 0 sz.toNat:=by
    rw[List.nil_append]at hpq;rw[←hpq];simp
   have hp:p.length<4:=by
    have:=congrArg List.length hpq
    rw[List.nil_append,rngL_len]at this
    simp at this;omega
   obtain⟨i,hi,rfl⟩:=rngL_mem hd
   subst e
   have e0:(0:Int)+(i:Int)=i:=by omega
   rw[e0]
   have h0:=mixI_lo c (far+1+(i:Int))
   have em:=mix_eq c (far+1+(i:Int)) (by omega) (by omega)
   generalize mixI c (far+1+(i:Int))=m at h0 em
   obtain⟨w,hw,ew⟩:=name_eq c (far+70+9*(i:Int)) (by omega) (by omega)
   obtain⟨ts,z6,z7,htl,hti,ein⟩:=inner hll hl1 c far i hf (by omega) (1+m%4).toNat (by omega) (some (.lst (ps.map patD),true)) y6 y7
   have f0:aj 4 (.int (i:Int)) [some (.int c,false),some (.int far,false),some (.lst (ls.map .str),false),some (.lst (ps.map patD),true),y4,y5,y6,y7]=some [some (.int c,false),some (.int far,false),some (.lst (ls.map .str),false),some (.lst (ps.map patD),true),some (.int (i:Int),false),y5,y6,y7]:=rfl
   have f1:setF 5 (lstO (some [])) [some (.int c,false),some (.int far,false),some (.lst (ls.map .str),false),some (.lst (ps.map patD),true),some (.int (i:Int),false),y5,y6,y7]=some (.next [some (.int c,false),some (.int far,false),some (.lst (ls.map .str),false),some (.lst (ps.map patD),true),some (.int (i:Int),false),some (.lst [],true),y6,y7]):=rfl
   refine⟨_,.inl ?_,ps++[(w,ts)],by simp[hps],?_,some (.int i,false),some (.lst (ts.map teD),false),z6,z7,rfl⟩
   ·simp only[f0,bindO_s,b_qh_3,f1,seqO_n,rd_0,rd_1,addI_s,consO_s,em,shO_s,modI_s m 4 (by decide)]
    rw[rng1_s _ (by omega),bindO_s,ein]
    simp only[seqO_n,frzE_1,frzE_0,k_qh_2,rd_0,rd_1,mulI_s 9 (i:Int) (by omega),addI_s,consO_s,bindO_s,ew,shO_s,tupleO_l]
    rw[tupO_s _ (by simp),appO_s (ds:=ps.map patD) _ (by rfl) (by rw[List.length_map,lim_eq];omega)]
    simp[patD]
   ·intro r hr
    rcases List.mem_append.mp hr with hr|hr
    ·exact hpi r hr
    ·rw[List.mem_singleton]at hr
     subst hr
     exact⟨hw,by show ts.length≤4;omega,hti⟩
 rw[List.nil_append,rngL_len]at hpl
 refine⟨ps,by omega,hpi,?_⟩
 rw[runF_eq (f:=f_qh) (δ:=[some (.int c,false),some (.int far,false),none,none,none,none,none,none]) rfl rfl rfl]
 have s2:∀d:D,setO 2 (some d) [some (.int c,false),some (.int far,false),none,none,none,none,none,none]=some (.next [some (.int c,false),some (.int far,false),some (d,false),none,none,none,none,none]):=fun _=>rfl
 have s3:∀d:D,setF 3 (lstO (some [])) [some (.int c,false),some (.int far,false),some (d,false),none,none,none,none,none]=some (.next [some (.int c,false),some (.int far,false),some (d,false),some (.lst [],true),none,none,none,none]):=fun _=>rfl
 simp only[g_qh,rd_0,consO_s,bindO_s,els,frO_s,s2,seqO_n,s3,rd_1,mix_eq c far (by omega) (by omega),shO_s,esz]
 rw[rng1_s sz (by omega),bindO_s,el]
 simp
theorem join_len (y:Str):∀(ts:List Str),(Txt.join y ts).length≤(ts.map (·.length)).sum+ts.length*y.length:=by
 intro ts
 show(Builtin.Str.glued y ts).length≤_
 rw[StrLaws.glued_eq_join]
 induction ts with
 |nil=>exact Nat.zero_le _
 |cons x r ih=>
  cases r with
  |nil=>show x.length≤_;simp
  |cons z r=>
   show(x++y++Str.join y (z::r)).length≤_
   rw[Str.length_append,Str.length_append]
   simp only[List.map_cons,List.sum_cons,List.length_cons]at ih⊢
   have:(r.length+1+1)*y.length=(r.length+1)*y.length+y.length:=by rw[Nat.add_mul,Nat.one_mul]
   omega
theorem sum_le {b:Nat}:∀ts:List Str,(∀t∈ts,t.length≤b)→(ts.map (·.length)).sum≤ts.length*b
 |[],_=>by simp
 |t::ts,h=>by
  have h1:=h t (by simp)
  have h2:=sum_le ts fun x hx=>h x (by simp[hx])
  simp only[List.map_cons,List.sum_cons,List.length_cons]
  rw[Nat.add_mul,Nat.one_mul]
  omega
noncomputable def patS (p:Pat):Str:=Txt.join " " (p.1::p.2.map teS)
noncomputable def patsS (ps:List Pat):Str:=Txt.join ", " (ps.map patS)
theorem pat_words {p:Pat}(h:DrawnP p):(((p.1::p.2.map teS).map (·.length)).sum≤40)∧(p.1::p.2.map teS).length≤5:=by
 have hl:(p.1::p.2.map teS).length≤5:=by simp;exact h.2.1
 have:=sum_le (b:=8) (p.1::p.2.map teS) fun t ht=>by
  rcases List.mem_cons.mp ht with rfl|ht
  ·exact h.1
  ·obtain⟨x,hx,rfl⟩:=List.mem_map.mp ht
   exact h.2.2 x hx
 exact⟨by omega,hl⟩
theorem patS_len {p:Pat}(h:DrawnP p):(patS p).length≤45:=by
 have h1:=join_len " " (p.1::p.2.map teS)
 obtain⟨h2,h3⟩:=pat_words h
 rw[show Str.length " "=1 by decide +kernel]at h1
 show(Txt.join " " (p.1::p.2.map teS)).length≤45
 omega
theorem patsS_sum {ps:List Pat}(hl:ps.length≤4) (h:∀p∈ps,DrawnP p):((ps.map patS).map (·.length)).sum≤180:=by
 have:=sum_le (b:=45) (ps.map patS) fun t ht=>by
  obtain⟨p,hp,rfl⟩:=List.mem_map.mp ht
  exact patS_len (h p hp)
 rw[List.length_map]at this
 omega
theorem patsS_len {ps:List Pat}(hl:ps.length≤4) (h:∀p∈ps,DrawnP p):(patsS ps).length≤188:=by
 have h1:=join_len ", " (ps.map patS)
 have h2:=patsS_sum hl h
 rw[show Str.length ", "=2 by decide +kernel,List.length_map]at h1
 show(Txt.join ", " (ps.map patS)).length≤188
 omega
theorem ix_te1 (t:Te):ixO (some (teD t)) (some (.int 1))=some (.str (teS t)):=by cases t<;>rfl
theorem nb (t:Te):∃z:Str,ixO (some (teD t)) (some (.int 0))=some (.str z)∧decide (z="blank")=false:=by
 cases t with
 |any l=>exact⟨"any",rfl,by decide +kernel⟩
 |nm l=>exact⟨"name",rfl,by decide +kernel⟩
theorem show_term_eq (t:Te):f_q4 [teD t]=some (.str (teS t),false):=by
 rw[runF_eq (f:=f_q4) (δ:=[some (teD t,false)]) rfl rfl rfl]
 obtain⟨z,ez,hz⟩:=nb t
 simp only[g_q4,rd_0,ez,eqO_str,hz,ix_te1]
 rfl
theorem pat_ix0 (p:Pat):ixO (some (patD p)) (some (.int 0))=some (.str p.1):=rfl
theorem pat_ix1 (p:Pat):ixO (some (patD p)) (some (.int 1))=some (.tup (p.2.map teD)):=rfl
theorem joinW {p:Pat}(h:DrawnP p):joinO (some (.str " ")) (catO (lstO (some [.str p.1])) (some (.lst ((p.2.map teS).map D.str))))=some (.str (patS p)):=by
 obtain⟨h2,h3⟩:=pat_words h
 have h1:(" ":Str).length=1:=by decide +kernel
 have h4:=h.2.1
 rw[lstO_s _ (by simp),catO_s _ _ (by simp;omega)]
 rw[show[D.str p.1]++(p.2.map teS).map D.str=(p.1::p.2.map teS).map D.str from rfl,joinO_s " " _ (by rw[h1];omega)]
 rfl
theorem show_row_eq (p:Pat) (h:DrawnP p):f_q1 [patD p]=some (.str (patS p),false):=by
 rw[runF_eq (f:=f_q1) (δ:=[some (patD p,false),none]) rfl rfl rfl]
 have h4:=h.2.1
 have hr:runC false [false,false] (aj 1) (fun δ=>some true) e_q1_1 [some (patD p,false),none] (p.2.map teD)=some ((p.2.map teS).map D.str):=by
  rw[runC_s (by simp;omega),compO_map (g:=fun d=>(ixO (some d) (some (.int 1))).getD .non) fun d hd=>?_,List.map_map,List.map_map]
  ·congr 1
   apply List.map_congr_left
   intro t _
   simp only[Function.comp,ix_te1];rfl
  obtain⟨t,_,rfl⟩:=List.mem_map.mp hd
  simp[itemO,maskD,e_q1_1,show_term_eq t,ix_te1]
 simp only[g_q1,rd_0,pat_ix0,pat_ix1,tupL_s,bindO_s,hr,lstLim_s,consO_s]
 rw[joinW h]
 simp
theorem joinP {ps:List Pat}(hl:ps.length≤4) (h:∀p∈ps,DrawnP p):joinO (some (.str ", ")) (some (.lst ((ps.map patS).map D.str)))=some (.str (patsS ps)):=by
 have h2:=patsS_sum hl h
 rw[joinO_s ", " _ (by rw[show Str.length ", "=2 by decide +kernel,List.length_map];omega)]
 rfl
theorem show_patterns_eq {ps:List Pat}(hl:ps.length≤4) (h:∀p∈ps,DrawnP p):f_q3 [.lst (ps.map patD)]=some (.str (patsS ps),false):=by
 rw[runF_eq (f:=f_q3) (δ:=[some (.lst (ps.map patD),false),none]) rfl rfl rfl]
 have hr:runC false [false,false] (aj 1) (fun δ=>some true) e_q3_1 [some (.lst (ps.map patD),false),none] (ps.map patD)=some ((ps.map patS).map D.str):=by
  rw[runC_s (by simp;omega)]
  have:∀(qs:List Pat),(∀p∈qs,DrawnP p)→compO (itemO (aj 1) (fun δ=>some true) e_q3_1 (maskD false [false,false] [some (.lst (ps.map patD),false),none])) (qs.map patD)=some ((qs.map patS).map D.str):=by
   intro qs
   induction qs with
   |nil=>intro _;rfl
   |cons q qs ih=>
    intro hq
    rw[List.map_cons]
    unfold compO
    rw[ih fun p hp=>hq p (by simp[hp])]
    simp[itemO,maskD,e_q3_1,show_row_eq q (hq q (by simp))]
  exact this ps h
 simp only[g_q3,rd_0,lstL_s,bindO_s,hr,lstLim_s]
 rw[joinP hl h]
 simp
end K72
namespace K72
open PySem PySem.NumText L2
theorem patterns_text_eq {ps:List Pat}(hl:ps.length≤4) (h:∀p∈ps,DrawnP p):f_qk [.lst (ps.map patD)]=some (.str (patsS ps),false):=by
 rw[runF_eq (f:=f_qk) (δ:=[some (.lst (ps.map patD),false),none,none,none]) rfl rfl rfl]
 have hr:runC false [false,false,false,false] (toTup (toCons (aj 1) (toCons (aj 2) (toNil)))) (fun δ=>some true) e_qk_2 [some (.lst (ps.map patD),false),none,none,none] (ps.map patD)=some ((ps.map patS).map D.str):=by
  rw[runC_s (by simp;omega)]
  have:∀(qs:List Pat),(∀p∈qs,DrawnP p)→compO (itemO (toTup (toCons (aj 1) (toCons (aj 2) (toNil)))) (fun δ=>some true) e_qk_2 [none,none,none,none]) (qs.map patD)=some ((qs.map patS).map D.str):=by
   intro qs
   induction qs with
   |nil=>intro _;rfl
   |cons q qs ih=>
    intro hq
    rw[List.map_cons]
    unfold compO
    rw[ih fun p hp=>hq p (by simp[hp])]
    have hd:=hq q (by simp)
    have h4:=hd.2.1
    have e1:toTup (toCons (aj 1) (toCons (aj 2) (toNil))) (patD q) [none,none,none,none]=some [none,some (.str q.1,false),some (.tup (q.2.map teD),false),none]:=rfl
    have e2:runC false [false,false,false,false] (aj 3) (fun δ=>some true) e_qk_1 [none,some (.str q.1,false),some (.tup (q.2.map teD),false),none] (q.2.map teD)=some ((q.2.map teS).map D.str):=by
     rw[runC_s (by simp;omega),compO_map (g:=fun d=>(ixO (some d) (some (.int 1))).getD .non) fun d hd=>?_,List.map_map,List.map_map]
     ·congr 1
      apply List.map_congr_left
      intro t _
      simp only[Function.comp,ix_te1];rfl
     obtain⟨t,_,rfl⟩:=List.mem_map.mp hd
     have:=ix_te1 t
     simp[itemO,maskD,e_qk_1]
     rw[this];rfl
    simp only[itemO,e1,bindO_s,e_qk_2,rd_0,rd_1,tupL_s,e2,lstLim_s,consO_s]
    rw[joinW hd]
    rfl
  exact this ps h
 simp only[g_qk,rd_0,lstL_s,bindO_s,hr,lstLim_s]
 rw[joinP hl h]
 simp
inductive DrawnR:D→Str→Prop
 |must (ps qs:List Pat) (hp:ps.length≤4) (h:∀p∈ps,DrawnP p) (hq:qs.length≤4) (h':∀p∈qs,DrawnP p):DrawnR (.tup [.str "must",.lst (ps.map patD),.lst (qs.map patD)]) (patsS ps++" => "++patsS qs)
 |same (ps:List Pat) (x y:Te) (hp:ps.length≤4) (h:∀p∈ps,DrawnP p) (hx:DrawnT x) (hy:DrawnT y):DrawnR (.tup [.str "same",.lst (ps.map patD),teD x,teD y]) (patsS ps++" => "++teS x++" = "++teS y)
theorem sm:decide (("same":Str)="must")=false:=by decide +kernel
theorem to_len':Str.length " => "=4:=by decide +kernel
theorem eq_len':Str.length " = "=3:=by decide +kernel
theorem DrawnR.len {R:D}{t:Str}(h:DrawnR R t):t.length≤400:=by
 cases h with
 |must ps qs hp h hq h'=>
  have h1:=patsS_len hp h
  have h2:=patsS_len hq h'
  rw[Str.length_append,Str.length_append,to_len'];omega
 |same ps x y hp h hx hy=>
  have h1:=patsS_len hp h
  unfold DrawnT at hx hy
  rw[Str.length_append,Str.length_append,Str.length_append,Str.length_append,to_len',eq_len'];omega
theorem DrawnR.ok {R:D}{t:Str}(h:DrawnR R t):okD 16 R=true:=by
 cases h with
 |must ps qs hp h hq h'=>
  have e1:=ok_pats ps 9
  have e2:=ok_pats qs 9
  show([D.str "must",.lst (ps.map patD),.lst (qs.map patD)]).all (okD 15)=true
  simp only[List.all_cons,List.all_nil,e1,e2]
  rfl
 |same ps x y hp h hx hy=>
  have e1:=ok_pats ps 9
  have e2:=ok_te x 13
  have e3:=ok_te y 13
  show([D.str "same",.lst (ps.map patD),teD x,teD y]).all (okD 15)=true
  simp only[List.all_cons,List.all_nil,e1,e2,e3]
  rfl
theorem law_shown_eq {R:D}{t:Str}(h:DrawnR R t):f_ql [R]=some (.str t,false):=by
 rw[runF_eq (f:=f_ql) (δ:=[some (R,false)]) rfl rfl rfl]
 have hlim:lim=1000000:=rfl
 cases h with
 |must ps qs hp h hq h'=>
  have h1:=patsS_len hp h
  have h2:=patsS_len hq h'
  have i0:ixO (some (.tup [.str "must",.lst (ps.map patD),.lst (qs.map patD)])) (some (.int 0))=some (.str "must"):=rfl
  have i1:ixO (some (.tup [.str "must",.lst (ps.map patD),.lst (qs.map patD)])) (some (.int 1))=some (.lst (ps.map patD)):=rfl
  have i2:ixO (some (.tup [.str "must",.lst (ps.map patD),.lst (qs.map patD)])) (some (.int 2))=some (.lst (qs.map patD)):=rfl
  simp only[g_ql,rd_0,i0,i1,i2,eqO_str,decide_true,ifO_t,consO_s,bindO_s,patterns_text_eq hp h,patterns_text_eq hq h',shO_s]
  rw[addS_s _ _ (by rw[to_len'];omega),addS_s _ _ (by rw[Str.length_append,to_len'];omega)]
  simp
 |same ps x y hp h hx hy=>
  have h1:=patsS_len hp h
  unfold DrawnT at hx hy
  have i0:ixO (some (.tup [.str "same",.lst (ps.map patD),teD x,teD y])) (some (.int 0))=some (.str "same"):=rfl
  have i1:ixO (some (.tup [.str "same",.lst (ps.map patD),teD x,teD y])) (some (.int 1))=some (.lst (ps.map patD)):=rfl
  have i2:ixO (some (.tup [.str "same",.lst (ps.map patD),teD x,teD y])) (some (.int 2))=some (teD x):=rfl
  have i3:ixO (some (.tup [.str "same",.lst (ps.map patD),teD x,teD y])) (some (.int 3))=some (teD y):=rfl
  simp only[g_ql,rd_0,i0,i1,i2,i3,eqO_str,sm,ifO_f,nextO_s,seqO_n,consO_s,bindO_s,patterns_text_eq hp h,shO_s,ix_te1]
  rw[addS_s _ _ (by rw[to_len'];omega),addS_s _ _ (by rw[Str.length_append,to_len'];omega),addS_s _ _ (by rw[Str.length_append,Str.length_append,to_len',eq_len'];omega),addS_s _ _ (by rw[Str.length_append,Str.length_append,Str.length_append,to_len',eq_len'];omega)]
  simp
theorem show_rule_eq {R:D}{t:Str}(h:DrawnR R t):f_q2 [R]=some (.str t,false):=by
 rw[runF_eq (f:=f_q2) (δ:=[some (R,false),none]) rfl rfl rfl]
 have hlim:lim=1000000:=rfl
 have s1:∀d:D,setO 1 (some d) [some (R,false),none]=some (.next [some (R,false),some (d,false)]):=fun _=>rfl
 cases h with
 |must ps qs hp h hq h'=>
  have h1:=patsS_len hp h
  have h2:=patsS_len hq h'
  have i0:ixO (some (.tup [.str "must",.lst (ps.map patD),.lst (qs.map patD)])) (some (.int 0))=some (.str "must"):=rfl
  have i1:ixO (some (.tup [.str "must",.lst (ps.map patD),.lst (qs.map patD)])) (some (.int 1))=some (.lst (ps.map patD)):=rfl
  have i2:ixO (some (.tup [.str "must",.lst (ps.map patD),.lst (qs.map patD)])) (some (.int 2))=some (.lst (qs.map patD)):=rfl
  simp only[g_q2,rd_0,i1,consO_s,bindO_s,show_patterns_eq hp h,shO_s,s1,seqO_n,rd_1,i0,i2,eqO_str,decide_true,ifO_t,show_patterns_eq hq h']
  rw[addS_s _ _ (by rw[to_len'];omega),addS_s _ _ (by rw[Str.length_append,to_len'];omega)]
  simp
 |same ps x y hp h hx hy=>
  have h1:=patsS_len hp h
  unfold DrawnT at hx hy
  have i0:ixO (some (.tup [.str "same",.lst (ps.map patD),teD x,teD y])) (some (.int 0))=some (.str "same"):=rfl
  have i1:ixO (some (.tup [.str "same",.lst (ps.map patD),teD x,teD y])) (some (.int 1))=some (.lst (ps.map patD)):=rfl
  have i2:ixO (some (.tup [.str "same",.lst (ps.map patD),teD x,teD y])) (some (.int 2))=some (teD x):=rfl
  have i3:ixO (some (.tup [.str "same",.lst (ps.map patD),teD x,teD y])) (some (.int 3))=some (teD y):=rfl
  simp only[g_q2,rd_0,i1,consO_s,bindO_s,show_patterns_eq hp h,shO_s,s1,seqO_n,rd_1,i0,i2,i3,eqO_str,sm,ifO_f,nextO_s,show_term_eq]
  rw[addS_s _ _ (by rw[to_len'];omega),addS_s _ _ (by rw[Str.length_append,to_len'];omega),addS_s _ _ (by rw[Str.length_append,Str.length_append,to_len',eq_len'];omega),addS_s _ _ (by rw[Str.length_append,Str.length_append,Str.length_append,to_len',eq_len'];omega)]
  simp
theorem ans_of {l:Str}:∀{ts:List Te},l∈ans ts→Te.any l∈ts
 |[],h=>by simp[ans]at h
 |.any m::ts,h=>by
  rcases List.mem_cons.mp h with rfl|h
  ·exact List.mem_cons_self ..
  ·exact List.mem_cons_of_mem _ (ans_of h)
 |.nm w::ts,h=>List.mem_cons_of_mem _ (ans_of (show l∈ans ts from h))
theorem rule_drawn (c:Int):∃R t,DrawnR R t∧f_qj [.int c]=some (R,false):=by
 rw[runF_eq (f:=f_qj) (δ:=[some (.int c,false),none,none]) rfl rfl rfl]
 obtain⟨ps,hp,h,eb⟩:=body_eq c 100 (by decide)
 obtain⟨qs,hq,h',eb'⟩:=body_eq c 300 (by decide)
 have m1:=mixI_lo c 1
 have s1:∀d:D,setO 1 (some d) [some (.int c,false),none,none]=some (.next [some (.int c,false),some (d,false),none]):=fun _=>rfl
 have s2:∀d e:D,setO 2 (some e) [some (.int c,false),some (d,false),none]=some (.next [some (.int c,false),some (d,false),some (e,false)]):=fun _ _=>rfl
 simp only[g_qj,rd_0,rd_1,consO_s,bindO_s,eb,frO_s,s1,seqO_n,mix_eq c 1 (by decide) (by decide),shO_s,modI_s (mixI c 1) 2 (by decide),eqO_int,eb']
 by_cases hm:mixI c 1%2=0
 ·rw[decide_eq_true hm]
  refine⟨_,_,.must ps qs hp h hq h',?_⟩
  simp
 ·rw[decide_eq_false hm]
  obtain⟨w,hw,ew⟩:=name_eq c 2 (by decide) (by decide)
  have h4:∀p∈ps,p.2.length≤4:=fun p hp=>(h p hp).2.1
  have hll:=lets_len h4
  simp only[ifO_f,nextO_s,seqO_n,rd_0,rd_1,consO_s,bindO_s,unknowns_eq hp h4,frO_s,ew,shO_s]
  rw[tupO_s _ (by simp),consO_s,lstO_s _ (by simp),catO_s _ _ (by simp;omega)]
  have et:(lets ps).map (fun l=>teD (.any l))++[D.tup [.str "name",.str w]]=((lets ps).map Te.any++[Te.nm w]).map teD:=by simp[teD]
  rw[et]
  generalize hS:(lets ps).map Te.any++[Te.nm w]=S
  have hSd:∀t∈S,DrawnT t:=by
   intro t ht
   rw[←hS]at ht
   rcases List.mem_append.mp ht with ht|ht
   ·obtain⟨l,hl,rfl⟩:=List.mem_map.mp ht
    unfold lets at hl
    rw[List.mem_flatten]at hl
    obtain⟨x,hx,hl⟩:=hl
    obtain⟨p,hpm,rfl⟩:=List.mem_map.mp hx
    exact(h p hpm).2.2 _ (ans_of hl)
   ·simp at ht;subst ht;exact hw
  have hSl:0<S.length:=by rw[←hS];simp
  have at':∀k:Int,0≤k→∃t,DrawnT t∧ixO (some (.lst (S.map teD))) (modI (some (.int k)) (lenL (some (.lst (S.map teD)))))=some (teD t):=by
   intro k hk
   rw[lenL_l,List.length_map,modI_s _ _ (by omega),ixO_l]
   obtain⟨v,hv,_,e⟩:=atI_in (xs:=S.map teD) (i:=k%(S.length:Int)) (Int.emod_nonneg _ (by omega)) (by rw[List.length_map];exact Int.emod_lt_of_pos _ (by omega))
   obtain⟨t,ht,rfl⟩:=List.mem_map.mp hv
   exact⟨t,hSd t ht,e⟩
  obtain⟨x,hx,ex⟩:=at' (mixI c 15) (mixI_lo c 15)
  obtain⟨y,hy,ey⟩:=at' (mixI c 16) (mixI_lo c 16)
  rw[s2]
  simp only[seqO_n,rd_0,rd_1,consO_s,bindO_s,mix_eq c 15 (by decide) (by decide),mix_eq c 16 (by decide) (by decide),shO_s,ex,ey]
  refine⟨_,_,.same ps x y hp h hx hy,?_⟩
  simp
noncomputable def Given (d:D):Prop:=(∃z:Str,d=.str z∧z.length≤1000)∨isiO "str" (some d)=some (.bl false)
noncomputable def oddL:List D:=[.str "",.str " => ",.str "has A",.str "has A => ",.str " => has A",.str "has A =>has A",.str "has A = A",.str "has A => A = B",.str "has A => B = A",.str "has A => A = ",.str "has A => A == A",.str "has A => A = A = A",.str "has A => a = b",.str "has A => has A => has A",.str "has ?1 => has A",.str "has A => has ?1",.str "has A => A = ?1",.str "has A, => has A",.str "has A,has B => has A",.str "a A, a A, a A, a A, a A => a A",.str "has AB => has A",.non,.int 7,.tup [.str "must",.lst [],.lst []]]
noncomputable def givenB (d:D):Bool:=match d with|.str z=>decide (z.length≤1000)|.non=>true|.int _=>true|.tup _=>true|.lst _=>true|_=>false
theorem given_of (d:D) (h:givenB d=true):Given d:=by
 cases d with
 |str z=>exact .inl ⟨z,rfl,by simpa[givenB]using h⟩
 |non=>exact .inr rfl
 |int i=>exact .inr rfl
 |tup ds=>exact .inr rfl
 |lst ds=>exact .inr rfl
 |_=>simp[givenB]at h
theorem odd_all:oddL.all givenB=true:=by decide +kernel
theorem odd_len:oddL.length=24:=by decide +kernel
theorem odd_eq (c:Int):∃d,Given d∧f_qm [.int c]=some (d,false):=by
 rw[runF_eq (f:=f_qm) (δ:=[some (.int c,false),none]) rfl rfl rfl]
 have m:=mixI_lo c 17
 obtain⟨v,hv,_,e⟩:=atI_in (xs:=oddL) (i:=mixI c 17%24) (by omega) (by rw[odd_len];omega)
 have hg:=given_of v (List.all_eq_true.mp odd_all v hv)
 refine⟨v,hg,?_⟩
 have s:∀(x:Option (D×Bool)) (ds:List D),setO 1 (some (.lst ds)) [some (.int c,false),x]=some (.next [some (.int c,false),some (.lst ds,false)]):=fun _ _=>rfl
 unfold g_qm
 rw[lstO_s _ (by simp),s,seqO_n]
 simp only[rd_0,rd_1]
 rw[lstO_s _ (by simp),catO_s _ _ (by simp),s,seqO_n]
 simp only[rd_0,rd_1,consO_s]
 rw[lstO_s _ (by simp),catO_s _ _ (by simp),s,seqO_n]
 simp only[rd_0,rd_1,consO_s]
 rw[lstO_s _ (by simp),catO_s _ _ (by simp),s,seqO_n]
 simp only[rd_0,rd_1]
 rw[lstO_s [] (by simp),consO_s,consO_s,consO_s,tupO_s _ (by simp)]
 simp only[consO_s]
 rw[lstO_s _ (by simp),catO_s _ _ (by simp),s,seqO_n]
 simp only[rd_0,rd_1,consO_s,bindO_s,mix_eq c 17 (by decide) (by decide),shO_s,modI_s (mixI c 17) 24 (by decide),ixO_l]
 have eo:atI oddL (mixI c 17%24)=some v:=e
 unfold oddL at eo
 simp only[List.cons_append,List.nil_append]
 rw[eo]
 simp
noncomputable abbrev signT:Str:="   ,,==>>?0abcxyzABCXYZ:;-"
theorem sign_len:∃k:Nat,(signT:Str).length=k+1∧k<100:=⟨(signT:Str).length - 1,by decide +kernel,by decide +kernel⟩
theorem spoiled_eq (t:Str) (c:Int) (h:t.length≤400):∃d,Given d∧f_qn [.str t,.int c]=some (d,false):=by
 rw[runF_eq (f:=f_qn) (δ:=[some (.str t,false),some (.int c,false),none,none,none,none]) rfl rfl rfl]
 have hlim:lim=1000000:=rfl
 have m1:=mixI_lo c 18
 have m2:=mixI_lo c 19
 have m3:=mixI_lo c 20
 obtain⟨k,hk,hk100⟩:=sign_len
 have htl:t.length≤lim:=by omega
 generalize hway:mixI c 18%8=way
 have w0:0≤way:=by omega
 have w8:way<8:=by omega
 generalize hat:mixI c 19%((t.length:Int)+1)=at'
 have em:modI (some (.int (mixI c 19))) (some (.int ((t.length:Int)+1)))=some (.int at'):=by rw[modI_s _ _ (by omega),hat]
 obtain⟨sg,hsg,esg⟩:=ixSO_in signT (mixI c 20%((signT:Str).length:Int)) (by omega) (Int.emod_nonneg _ (by omega)) (Int.emod_lt_of_pos _ (by omega))
 have s2:setO 2 (some (.str signT)) [some (.str t,false),some (.int c,false),none,none,none,none]=some (.next [some (.str t,false),some (.int c,false),some (.str signT,false),none,none,none]):=rfl
 have s3:setO 3 (some (.int way)) [some (.str t,false),some (.int c,false),some (.str signT,false),none,none,none]=some (.next [some (.str t,false),some (.int c,false),some (.str signT,false),some (.int way,false),none,none]):=rfl
 have s4:setO 4 (some (.int at')) [some (.str t,false),some (.int c,false),some (.str signT,false),some (.int way,false),none,none]=some (.next [some (.str t,false),some (.int c,false),some (.str signT,false),some (.int way,false),some (.int at',false),none]):=rfl
 have s5:setO 5 (some (.str sg)) [some (.str t,false),some (.int c,false),some (.str signT,false),some (.int way,false),some (.int at',false),none]=some (.next [some (.str t,false),some (.int c,false),some (.str signT,false),some (.int way,false),some (.int at',false),some (.str sg,false)]):=rfl
 unfold g_qn
 rw[s2,seqO_n]
 simp only[rd_0,rd_1,consO_s,bindO_s,mix_eq c 18 (by decide) (by decide),shO_s,modI_s (mixI c 18) 8 (by decide),hway]
 rw[s3,seqO_n]
 simp only[rd_0,rd_1,consO_s,bindO_s,mix_eq c 19 (by decide) (by decide),shO_s,lenS_s t htl,addI_s,em]
 rw[s4,seqO_n]
 simp only[rd_0,rd_1,consO_s,bindO_s,mix_eq c 20 (by decide) (by decide),shO_s,lenS_s signT (by omega),modI_s (mixI c 20) ((signT:Str).length:Int) (by omega),esg]
 rw[s5,seqO_n]
 have c1:=cutS_len t none (some at')
 have c2:=cutS_len t (some at') none
 have c3:=cutS_len t (some (at'+1)) none
 simp only[rd_0,rd_1,partI_s,addI_s,cutSO_s t _ _ htl,cI_s,eqO_int]
 by_cases h1:way=0
 ·rw[decide_eq_true h1,addS_s _ _ (by omega),addS_s _ _ (by rw[Str.length_append];omega)]
  exact⟨.str (cutS t none (some at')++sg++cutS t (some at') none),.inl ⟨_,rfl,by rw[Str.length_append,Str.length_append];omega⟩,by simp⟩
 rw[decide_eq_false h1]
 simp only[ifO_f,nextO_s,seqO_n,rd_0,rd_1,eqO_int,partI_s,addI_s,cutSO_s t _ _ htl,cI_s]
 by_cases h2:way=1
 ·rw[decide_eq_true h2,addS_s _ _ (by omega)]
  exact⟨.str (cutS t none (some at')++cutS t (some (at'+1)) none),.inl ⟨_,rfl,by rw[Str.length_append];omega⟩,by simp⟩
 rw[decide_eq_false h2]
 simp only[ifO_f,nextO_s,seqO_n,rd_0,rd_1,eqO_int,partI_s,addI_s,cutSO_s t _ _ htl,cI_s]
 by_cases h3:way<5
 ·have e3:gLt way 5=true:=decide_eq_true h3
  rw[e3,addS_s _ _ (by omega),addS_s _ _ (by rw[Str.length_append];omega)]
  exact⟨.str (cutS t none (some at')++sg++cutS t (some (at'+1)) none),.inl ⟨_,rfl,by rw[Str.length_append,Str.length_append];omega⟩,by simp⟩
 have e3:gLt way 5=false:=decide_eq_false h3
 simp only[e3,ifO_f,nextO_s,seqO_n,rd_0,rd_1,eqO_int,consO_s,bindO_s]
 by_cases h4:way=5
 ·rw[decide_eq_true h4]
  obtain⟨d,hd,ed⟩:=odd_eq c
  exact⟨d,hd,by simp[ed]⟩
 ·rw[decide_eq_false h4]
  exact⟨_,.inl ⟨t,rfl,by omega⟩,by simp⟩
theorem right_given (d:D) (h:Given d):f_qs [d]=some (.bl true,false):=by
 rcases h with⟨z,rfl,hz⟩|h
 ·exact right_eq z (by have:lim=1000000:=rfl
                       omega)
 ·exact right_no d h
theorem pure (ns:List Int) (h:ns.length≤63):f_law [.lst (ns.map D.int)]=some (.bl true,false):=by
 rw[runF_eq (f:=f_law) (δ:=[some (.lst (ns.map D.int),false),none,none,none,none,none]) rfl rfl rfl]
 have hlim:lim=1000000:=rfl
 simp only[g_law,rd_0,partI_s,cutLO_s]
 obtain⟨ms,hms,hml⟩:∃ms:List Int,cutD (ns.map D.int) none (some 63)=ms.map D.int∧ms.length≤63:=by
  unfold cutD
  rw[←List.map_drop,←List.map_take]
  exact⟨_,rfl,by simp;omega⟩
 rw[hms]
 simp only[consO_s]
 rw[lstO_s _ (by simp),catO_s _ _ (by simp;omega),lstL_s,bindO_s]
 have hall:∀d∈ms.map D.int++[D.int 0],∃c:Int,d=.int c:=by
  intro d hd
  rcases List.mem_append.mp hd with hd|hd
  ·obtain⟨c,_,rfl⟩:=List.mem_map.mp hd;exact⟨c,rfl⟩
  ·simp at hd;exact⟨0,hd⟩
 obtain⟨δ',el,x1,x2,x3,x4,x5,rfl⟩:=loopD_all (body:=fun d δ=>ah ((aj 1) d δ) b_law_1) (fun δ=>∃x1 x2 x3 x4 x5,δ=[some (.lst (ns.map D.int),false),x1,x2,x3,x4,x5]) (ds:=ms.map D.int++[D.int 0]) ⟨none,none,none,none,none,rfl⟩ fun d hd δ ⟨x1,x2,x3,x4,x5,e⟩=>by
  subst e
  obtain⟨c,rfl⟩:=hall d hd
  obtain⟨R,t,hR,er⟩:=rule_drawn c
  have hsl:=hR.len
  obtain⟨sp,hsp,esp⟩:=spoiled_eq t c hsl
  refine⟨_,.inl ?_,some (.int c,false),some (R,false),some (R,false),some (.str t,false),some (.str t,false),rfl⟩
  generalize hL:D.lst (ns.map D.int)=L
  have f0:aj 1 (.int c) [some (L,false),x1,x2,x3,x4,x5]=some [some (L,false),some (.int c,false),x2,x3,x4,x5]:=rfl
  have s2:setO 2 (some R) [some (L,false),some (.int c,false),x2,x3,x4,x5]=some (.next [some (L,false),some (.int c,false),some (R,false),x3,x4,x5]):=rfl
  have s3:setO 3 (some R) [some (L,false),some (.int c,false),some (R,false),x3,x4,x5]=some (.next [some (L,false),some (.int c,false),some (R,false),some (R,false),x4,x5]):=rfl
  have s4:setO 4 (some (.str t)) [some (L,false),some (.int c,false),some (R,false),some (R,false),x4,x5]=some (.next [some (L,false),some (.int c,false),some (R,false),some (R,false),some (.str t,false),x5]):=rfl
  have s5:setO 5 (some (.str t)) [some (L,false),some (.int c,false),some (R,false),some (R,false),some (.str t,false),x5]=some (.next [some (L,false),some (.int c,false),some (R,false),some (R,false),some (.str t,false),some (.str t,false)]):=rfl
  have g1:isiO "str" (some (.str t))=some (.bl true):=rfl
  have g2:neO (some (.str t)) (some (.str t))=some false:=by rw[neO_str];simp
  have g3:neO (some R) (some R)=some false:=by rw[neO_s _ _ (by unfold ok2;rw[hR.ok];rfl)];simp
  simp only[f0,bindO_s,b_law_1,rd_0,rd_1,consO_s,er,shO_s,s2,s3,seqO_n,law_shown_eq hR,s4,show_rule_eq hR,s5,g1,g2,g3,tyB_s,notO_s,Bool.not_true,orO_f,ifO_f,nextO_s,esp,
   right_given (.str t) (.inl ⟨_,rfl,by omega⟩),right_given sp hsp]
 rw[el]
 simp
end K72
set_option maxRecDepth 100000 in
set_option maxHeartbeats 0 in
theorem PySem.Challenge.cw_mustrows_k72_rules_as_texts_holds : PySem.Challenge.rw_mustrows_k72_rules_as_texts.Holds := by
 w_on;o_law;k_head;(case hw=>w_witness2)
 k_fill
 refine L2.walk_ofK (l:=PySem.Challenge.rw_mustrows_k72_rules_as_texts) (n:=63) (k:=8) (x:="_law_script") (CX:=L2.CX0) (sp:=fun K=>L2.spM K K72.f_law) rfl (by decide) rfl ⟨rfl,by decide,by decide⟩ (fun w h Y=>PySem.W.kIn_of Y) ?F ?S ?C
 case F=>
  intro w mg fa h KX G hmg
  have Q:∃fd:FuncData,(∀(s:Shared) (v:Value),BindsTo s fd ⟨[v],[]⟩ [("_law_script",v)])∧∀base:Heap,(L2.KOf KX).In base→base.Ns mainGlobals mg→L2.FnOk PySem.Challenge.rw_mustrows_k72_rules_as_texts.prog w (L2.KOf KX) mg base L2.CX0 8 fa fd ["_law_script"] (L2.spM (L2.KOf KX) K72.f_law):=by
   dsimp only[L2.KOf]
   refine' K72.all_mk KX G hmg ?a0 ?l0 ?c0 ?k0 ?a1 ?l1 ?c1 ?k1 ?a2 ?l2 ?c2 ?k2 ?a3 ?l3 ?c3 ?k3 ?a4 ?l4 ?c4 ?k4 ?a5 ?l5 ?c5 ?k5 ?a6 ?l6 ?c6 ?k6 ?a7 ?l7 ?c7 ?k7 ?a8 ?l8 ?c8 ?k8 ?a9 ?l9 ?c9 ?k9 ?a10 ?l10 ?c10 ?k10 ?a11 ?l11 ?c11 ?k11 ?a12 ?l12 ?c12 ?k12 ?a13 ?l13 ?c13 ?k13 ?a14 ?l14 ?c14 ?k14 ?a15 ?l15 ?c15 ?k15 ?a16 ?l16 ?c16 ?k16 ?a17 ?l17 ?c17 ?k17 ?a18 ?l18 ?c18 ?k18 ?a19 ?l19 ?c19 ?k19 ?a20 ?l20 ?c20 ?k20 ?a21 ?l21 ?c21 ?k21 ?a22 ?l22 ?c22 ?k22 ?a23 ?l23 ?c23 ?k23 ?a24 ?l24 ?c24 ?k24 ?a25 ?l25 ?c25 ?k25 ?a26 ?l26 ?c26 ?k26 ?a27 ?l27 ?c27 ?k27 ?a28 ?l28 ?c28 ?k28 ?a29 ?l29 ?c29 ?k29 ?z_ValueError ?z_all ?z_isinstance ?z_len ?z_list ?z_range ?z_set ?z_sorted ?z_str ?z_tuple ?y_GREAT_LETTERS ?y_SMALL_LETTERS ?n_NoText ?x_NoText ?n_MustError ?x_MustError ?n_NoRow ?x_NoRow ?hsub ?herr ?k_NoText ?k_ValueError ?k_NoRow
   (case a0=>k_is)
   (case l0=>k_is)
   (case c0=>k_is)
   (case k0=>k_is)
   (case a1=>k_is)
   (case l1=>k_is)
   (case c1=>k_is)
   (case k1=>k_is)
   (case a2=>k_is)
   (case l2=>k_is)
   (case c2=>k_is)
   (case k2=>k_is)
   (case a3=>k_is)
   (case l3=>k_is)
   (case c3=>k_is)
   (case k3=>k_is)
   (case a4=>k_is)
   (case l4=>k_is)
   (case c4=>k_is)
   (case k4=>k_is)
   (case a5=>k_is)
   (case l5=>k_is)
   (case c5=>k_is)
   (case k5=>k_is)
   (case a6=>k_is)
   (case l6=>k_is)
   (case c6=>k_is)
   (case k6=>k_is)
   (case a7=>k_is)
   (case l7=>k_is)
   (case c7=>k_is)
   (case k7=>k_is)
   (case a8=>k_is)
   (case l8=>k_is)
   (case c8=>k_is)
   (case k8=>k_is)
   (case a9=>k_is)
   (case l9=>k_is)
   (case c9=>k_is)
   (case k9=>k_is)
   (case a10=>k_is)
   (case l10=>k_is)
   (case c10=>k_is)
   (case k10=>k_is)
   (case a11=>k_is)
   (case l11=>k_is)
   (case c11=>k_is)
   (case k11=>k_is)
   (case a12=>k_is)
   (case l12=>k_is)
   (case c12=>k_is)
   (case k12=>k_is)
   (case a13=>k_is)
   (case l13=>k_is)
   (case c13=>k_is)
   (case k13=>k_is)
   (case a14=>k_is)
   (case l14=>k_is)
   (case c14=>k_is)
   (case k14=>k_is)
   (case a15=>k_is)
   (case l15=>k_is)
   (case c15=>k_is)
   (case k15=>k_is)
   (case a16=>k_is)
   (case l16=>k_is)
   (case c16=>k_is)
   (case k16=>k_is)
   (case a17=>k_is)
   (case l17=>k_is)
   (case c17=>k_is)
   (case k17=>k_is)
   (case a18=>k_is)
   (case l18=>k_is)
   (case c18=>k_is)
   (case k18=>k_is)
   (case a19=>k_is)
   (case l19=>k_is)
   (case c19=>k_is)
   (case k19=>k_is)
   (case a20=>k_is)
   (case l20=>k_is)
   (case c20=>k_is)
   (case k20=>k_is)
   (case a21=>k_is)
   (case l21=>k_is)
   (case c21=>k_is)
   (case k21=>k_is)
   (case a22=>k_is)
   (case l22=>k_is)
   (case c22=>k_is)
   (case k22=>k_is)
   (case a23=>k_is)
   (case l23=>k_is)
   (case c23=>k_is)
   (case k23=>k_is)
   (case a24=>k_is)
   (case l24=>k_is)
   (case c24=>k_is)
   (case k24=>k_is)
   (case a25=>k_is)
   (case l25=>k_is)
   (case c25=>k_is)
   (case k25=>k_is)
   (case a26=>k_is)
   (case l26=>k_is)
   (case c26=>k_is)
   (case k26=>k_is)
   (case a27=>k_is)
   (case l27=>k_is)
   (case c27=>k_is)
   (case k27=>k_is)
   (case a28=>k_is)
   (case l28=>k_is)
   (case c28=>k_is)
   (case k28=>k_is)
   (case a29=>k_is)
   (case l29=>k_is)
   (case c29=>k_is)
   (case k29=>k_is)
   (case z_ValueError=>k_is)
   (case z_all=>k_is)
   (case z_isinstance=>k_is)
   (case z_len=>k_is)
   (case z_list=>k_is)
   (case z_range=>k_is)
   (case z_set=>k_is)
   (case z_sorted=>k_is)
   (case z_str=>k_is)
   (case z_tuple=>k_is)
   (case y_GREAT_LETTERS=>k_is)
   (case y_SMALL_LETTERS=>k_is)
   (case n_NoText=>k_is)
   (case x_NoText=>k_exc)
   (case n_MustError=>k_is)
   (case x_MustError=>k_exc)
   (case n_NoRow=>k_is)
   (case x_NoRow=>k_exc)
   (case hsub=>kernel_rfl)
   (case herr=>kernel_rfl)
   (case k_NoText=>kernel_rfl)
   (case k_ValueError=>kernel_rfl)
   (case k_NoRow=>kernel_rfl)
  exact Q
 case S=>exact fun K H a ns hl hO hS=>L2.spM_law hS (K72.pure ns hl)
 case C=>exact fun _ _ _ _ h=>h
