import PyProof.Rows.All
import PyProof.ZipIter
import Wide.All
import OpenK.AllK
import Wide.FinOn
import Lean
import PyProof.EqAt
import PyProof.EqKinds
import PyProof.TupleCall
import PyProof.DictRoadsH
import KE.KLam
import KE.KNestM
import PyProof.NeKinds
import KE.KSortKey
import PyProof.Conv_int_bool
import PyProof.EnumStmt
import PyProof.DictIter
import PyProof.DictWalks
import PyProof.ConsumeWalk
import PyProof.ListStr
import KE.KIntText
import KE.KDictOf
import KE.IntTextLaws
import PyProof.Rows.SortStr
import PyProof.StrLawsTight
import PyProof.StrLawsOcc
import PyProof.Rows.TupDisplay
import PyProof.DictItems
import PySem.Challenge.RW_mustrows_k51_ranks_of_a_rule
set_option Elab.async false
set_option linter.all false
set_option genSizeOf false
set_option maxRecDepth 100000
set_option maxHeartbeats 4000000
local macro_rules | `(tactic| obtain $p:rcasesPatMed := $e:term) => do
  let n := (p.raw.reprint.getD "").foldl (fun n c => if c == ',' then n + 1 else n) 0
  let q := Lean.mkIdent `hzz
  if n < 2 then `(tactic| rcases $e:term with $p:rcasesPatMed) else `(tactic| (refine Classical.byContradiction fun $q => ?_; rcases $e:term with $p:rcasesPatMed; refine $q ?_; clear $q))
namespace L2
open PySem PySem.Spec PyProof.Rows
noncomputable abbrev Key:=Sum Int Str
inductive D where
 |non|bl (b:Bool)|int (i:Int)|str (x:Str)|tup (ds:List D)|lst (ds:List D)|dT (ks:List (List Key)) (vs:List D)|dK (ks:List Key) (vs:List D)
 |dD (ks vs:List D)
 |sp (k:Bool) (x:Str)
noncomputable instance:DecidableEq D:=fun _ _=>Classical.propDecidable _
noncomputable def bL:Nat->D->Bool
 |_,.int _=>true
 |_,.str _=>true
 |n+1,.tup ds=>ds.all (bL n)
 |_,_=>false
mutual
noncomputable def eZ (w:World):D->Int
 |.int i=>hashInt i
 |.str x=>hashStr w x
 |.tup ds=>reduceHash (Builtin.Tuple.tupleHashOf (j8 w ds))
 |_=>0
noncomputable def j8 (w:World):List D->List Int
 |[]=>[]
 |d::ds=>eZ w d::j8 w ds
end
theorem g9 (w:World):∀ds:List D,j8 w ds=ds.map (eZ w)
 |[]=>by simp[j8]
 |d::ds=>by simp[j8,g9 w ds]
theorem dW {n:Nat}{ds:List D}(h:bL n (.tup ds)=true):∃k,n=k+1/\ds.all (bL k)=true:=by
 cases n with
 |zero=>simp[bL]at h
 |succ n=>exact⟨n,rfl,by simpa[bL]using h⟩
mutual
noncomputable def eR:D->Nat
 |.int _=>1
 |.str _=>1
 |.tup ds=>cC ds+1
 |_=>0
noncomputable def cC:List D->Nat
 |[]=>0
 |d::ds=>eR d+cC ds
end
theorem fG (d:D):∀ds:List D,cC (ds++[d])=cC ds+eR d
 |[]=>by simp[cC]
 |x::ds=>by rw[List.cons_append];simp only[cC];rw[fG d ds];lia
mutual
noncomputable def RH (h:Heap):D->Value->Prop
 |.int i,v=>∃t,v=.int i t
 |.str x,v=>∃t,v=.str x t
 |.tup ds,v=>∃a its,v=.ref a/\IsTup h a its.toArray/\RHs h ds its
 |_,_=>False
noncomputable def RHs (h:Heap):List D->List Value->Prop
 |[],vs=>vs=[]
 |d::ds,vs=>∃v r,vs=v::r/\RH h d v/\RHs h ds r
end
theorem RHs.length {h:Heap}:∀{ds:List D}{vs:List Value},RHs h ds vs->ds.length=vs.length
 |[],vs,r=>by simp only[RHs]at r;subst r;rfl
 |d::ds,vs,r=>by
  simp only[RHs]at r;obtain⟨v,q,rfl,_,r2⟩:=r;simp[RHs.length r2]
theorem RHs.get {h:Heap}:∀{ds:List D}{vs:List Value}{i:Nat}{d:D},RHs h ds vs->ds[i]?=some d->∃v,vs[i]?=some v/\RH h d v
 |[],vs,i,d,_,e=>by simp at e
 |x::ds,vs,0,d,r,e=>by
  simp only[RHs]at r;obtain⟨v,q,rfl,r1,_⟩:=r;simp at e;subst e;exact⟨v,rfl,r1⟩
 |x::ds,vs,i+1,d,r,e=>by
  simp only[RHs]at r;obtain⟨v,q,rfl,_,r2⟩:=r;obtain⟨u,h1,h2⟩:=RHs.get (i:=i) (d:=d) r2 (by simpa using e)
  exact⟨u,by simpa using h1,h2⟩
mutual
theorem RH.inj {h:Heap}:∀{d e:D}{v:Value},RH h d v->RH h e v->d=e
 |.int i,e,v,r,q=>by
  simp only[RH]at r;obtain⟨t,rfl⟩:=r;cases e<;>simp only[RH]at q<;>first
   |(obtain⟨t',z⟩:=q;cases z;rfl)
   |(obtain⟨t',z⟩:=q;cases z;done)
   |(obtain⟨a,its,z,_⟩:=q;cases z)
   |cases q
 |.str i,e,v,r,q=>by
  simp only[RH]at r;obtain⟨t,rfl⟩:=r;cases e<;>simp only[RH]at q<;>first
   |(obtain⟨t',z⟩:=q;cases z;rfl)
   |(obtain⟨t',z⟩:=q;cases z;done)
   |(obtain⟨a,its,z,_⟩:=q;cases z)
   |cases q
 |.tup ds,e,v,r,q=>by
  simp only[RH]at r;obtain⟨a,its,rfl,⟨o,g,_,n,hd⟩,rs⟩:=r;cases e with
  |tup es=>
   simp only[RH]at q;obtain⟨b,jts,z,⟨o',g',_,n',hd'⟩,qs⟩:=q;cases z;rw[g]at g';obtain rfl:=Option.some.inj g';rw[hd]at hd';have:its.toArray=jts.toArray:=by injection hd'
   have e2:its=jts:=by simpa using this
   subst e2;rw[RHs.inj rs qs]
  |int _=>simp only[RH]at q;obtain⟨t',z⟩:=q;contradiction
  |str _=>simp only[RH]at q;obtain⟨t',z⟩:=q;contradiction
  |_=>simp only[RH]at q
 |.non,e,v,r,q=>by simp only[RH]at r
 |.bl _,e,v,r,q=>by simp only[RH]at r
 |.lst _,e,v,r,q=>by simp only[RH]at r
 |.dT _ _,e,v,r,q=>by simp only[RH]at r
 |.dK _ _,e,v,r,q=>by simp only[RH]at r
 |.dD _ _,e,v,r,q=>by simp only[RH]at r
 |.sp _ _,e,v,r,q=>by simp only[RH]at r
theorem RHs.inj {h:Heap}:∀{ds es:List D}{vs:List Value},RHs h ds vs->RHs h es vs->ds=es
 |[],es,vs,r,q=>by
  simp only[RHs]at r;subst r;cases es with
  |nil=>rfl
  |cons e es=>simp only[RHs]at q;obtain⟨v,z,e,_⟩:=q;contradiction
 |d::ds,es,vs,r,q=>by
  simp only[RHs]at r;obtain⟨v,z,rfl,r1,r2⟩:=r;cases es with
  |nil=>simp only[RHs]at q;contradiction
  |cons e es=>
   simp only[RHs]at q;obtain⟨v',z',e',q1,q2⟩:=q;cases e';rw[RH.inj r1 q1,RHs.inj r2 q2]
end
mutual
theorem RH.to {h h':Heap}(k:∀a o,h.get? a=some o->o.cls=.type "tuple"->(∃its n,o.data=.seq its n)->h'.get? a=some o):∀{d:D}{v:Value},RH h d v->RH h' d v
 |.int i,v,r=>by simp only[RH]at r⊢;exact r
 |.str i,v,r=>by simp only[RH]at r⊢;exact r
 |.tup ds,v,r=>by
  simp only[RH]at r⊢;obtain⟨a,its,e,⟨o,g,hc,n,hd⟩,rs⟩:=r;exact⟨a,its,e,⟨o,k a o g hc ⟨_,_,hd⟩,hc,n,hd⟩,RHs.to k rs⟩
 |.non,v,r=>by simp only[RH]at r
 |.bl _,v,r=>by simp only[RH]at r
 |.lst _,v,r=>by simp only[RH]at r
 |.dT _ _,v,r=>by simp only[RH]at r
 |.dK _ _,v,r=>by simp only[RH]at r
 |.dD _ _,v,r=>by simp only[RH]at r
 |.sp _ _,v,r=>by simp only[RH]at r
theorem RHs.to {h h':Heap}(k:∀a o,h.get? a=some o->o.cls=.type "tuple"->(∃its n,o.data=.seq its n)->h'.get? a=some o):∀{ds:List D}{vs:List Value},RHs h ds vs->RHs h' ds vs
 |[],vs,r=>by simp only[RHs]at r⊢;exact r
 |d::ds,vs,r=>by
  simp only[RHs]at r⊢;obtain⟨v,z,e,r1,r2⟩:=r;exact⟨v,z,e,RH.to k r1,RHs.to k r2⟩
end
theorem xp {P:Program}{w:World}:∀(n:Nat) (d:D) (u:Value) (A:Around) (s:Shared) (Q:Int->Shared->Prop) (E:Value->Shared->Prop),bL n d=true->A.units+2*n+2<cLine->RH s.heap d u->
  Q (eZ w d) {s with toks:=s.toks+eR d}->wpAny (model P w) A (pyHash u) Q E s:=by
 intro n
 induction n using Nat.strongRecOn with
 |ind n ih=>
 intro d u A s Q E hd hA rd hQ;cases d with
 |int i=>
  simp only[RH]at rd;obtain⟨t,rfl⟩:=rd;simp only[eZ,eR]at hQ;exact wpAny_pyHash_int hQ
 |str i=>
  simp only[RH]at rd;obtain⟨t,rfl⟩:=rd;simp only[eZ,eR]at hQ;exact wpAny_pyHash_str hQ
 |tup ds=>
  simp only[RH]at rd;obtain⟨a,its,rfl,⟨o,ho,hc,m,hdat⟩,hr⟩:=rd;obtain⟨k,rfl,hd'⟩:=dW hd;have hT:s.TypeIs (.ref a) "tuple":=⟨o,ho,hc⟩;unfold pyHash;unfold pyHashByItsType;refine wpAny_bind (wpAny_cRoomFor_or (.inr (by lia)) (wpAny_bind (wpAny_specialOf hT F.slot_tuple_hash.lookup ?_)))
  show wpAny _ _ (if(some (Value.builtin "tuple.__hash__")==some Value.none)=true then _ else _) Q E _
  rw[if_neg (by rw[beq_builtin_none];exact Bool.false_ne_true)]
  refine wpAny_bind (wpAny_specialOf hT F.slot_tuple_hash.lookup ?_)
  show wpAny _ _ (callSpecialIfBoundUnlessNone? (.ref a) "__hash__" _ >>= _) Q E _;refine wpAny_bind (wpAny_callSpecialIfBoundUnlessNone?_slot hT F.slot_tuple_hash (wpAny_call_entry F.slot_tuple_hash hT F.entry_tuple_hash ?_ (F.args_tuple_hash_1 _)))
  show wpAny _ _ (Builtin.Tuple.tupleItemsOf (.ref a) >>= _) _ _ _;refine wpAny_bind (wpAny_tupleItemsOf ho hdat (wpAny_bind ?_))
  rw[<-Array.forIn_toList];refine wpAny_forIn_list _
   (fun bC (b:Array Int) s'=>∃done left,ds=done++left/\RHs s.heap left bC/\b.toList=done.map (eZ w)/\s'={s with toks:=s.toks+cC done})
   _ ?_ ?_ _ _ ⟨[],ds,rfl,by simpa using hr,rfl,rfl⟩
  ·rintro v bC b s' ⟨done,left,rfl,hl,hb,rfl⟩
   cases left with
   |nil=>simp only[RHs]at hl;contradiction
   |cons d' left'=>
    simp only[RHs]at hl;obtain⟨v',r',e',r1,r2⟩:=hl;cases e';have hd1:bL k d'=true:=by
     rw[List.all_append,Bool.and_eq_true,List.all_cons,Bool.and_eq_true]at hd';exact hd'.2.1
    refine wpAny_bind (ih k (by lia) d' v _ _ _ _ hd1 ?_ r1 ?_)
    ·show A.units+1+2*k+2<cLine;lia
    ·have et:({s with toks:=s.toks+cC done+eR d'}:Shared)={s with toks:=s.toks+cC (done++[d'])}:=by rw[fG,Nat.add_assoc]
     first
      |exact wpAny_pure ⟨done++[d'],left',by simp,r2,by simp[hb],et⟩
      |exact wpAny_bind (wpAny_pure (wpAny_pure ⟨done++[d'],left',by simp,r2,by simp[hb],et⟩))
  ·rintro b s' ⟨done,left,rfl,hl,hb,rfl⟩
   have hleft:left=[]:=by
    have:=hl.length;cases left with
    |nil=>rfl
    |cons _ _=>simp at this
   subst hleft;rw[List.append_nil]at hQ;simp only[eZ,g9,eR]at hQ;show wpAny _ _ (retInt (Builtin.Tuple.tupleHashOf b.toList)) _ _ _;rw[hb];refine wpAny_ret_mkInt ?_
   show wpAny _ _ (if(decide (-(2:Int) ^ 63<=Builtin.Tuple.tupleHashOf (done.map (eZ w)))&&decide (Builtin.Tuple.tupleHashOf (done.map (eZ w))<2 ^ 63))=true then _ else _) Q E _
   unfold reduceHash at hQ
   by_cases hr:(decide (-(2:Int) ^ 63<=Builtin.Tuple.tupleHashOf (done.map (eZ w)))&&decide (Builtin.Tuple.tupleHashOf (done.map (eZ w))<2 ^ 63))=true
   ·rw[if_pos hr]
    rw[if_pos hr]at hQ;exact wpAny_pure hQ
   ·rw[if_neg hr]
    rw[if_neg hr]at hQ;exact wpAny_bind (wpAny_rule (wpAny_pure hQ))
 |_=>simp[bL]at hd
theorem wz {P:Program}{w:World}:∀(n:Nat) (d:D) (u:Value) (A:Around) (s:Shared) (Q:Bool->Shared->Prop) (E:Value->Shared->Prop),bL n d=true->RH s.heap d u->Q true s->wpAny (model P w) A (eqIsQuiet n u) Q E s:=by
 intro n
 induction n using Nat.strongRecOn with
 |ind n ih=>
 intro d u A s Q E hd rd hQ;cases d with
 |int i=>simp only[RH]at rd;obtain⟨t,rfl⟩:=rd;unfold eqIsQuiet;exact wpAny_pure hQ
 |str i=>simp only[RH]at rd;obtain⟨t,rfl⟩:=rd;unfold eqIsQuiet;exact wpAny_pure hQ
 |tup ds=>
  simp only[RH]at rd;obtain⟨a,its,rfl,⟨o,ho,hc,m,hdat⟩,hr⟩:=rd;obtain⟨k,rfl,hd'⟩:=dW hd;have hT:s.TypeIs (.ref a) "tuple":=⟨o,ho,hc⟩;unfold eqIsQuiet;refine wpAny_bind (wpAny_specialOf hT F.slot_tuple_eq.lookup ?_)
  dsimp only;refine wpAny_bind (wpAny_isInstance hT isSubtype_tuple_tuple ?_)
  simp only[Bool.not_true,Bool.false_eq_true,if_false];refine wpAny_bind (wpAny_seqItems ho hdat (wpAny_bind ?_))
  simp only[Option.getD_some];rw[<-Array.forIn_toList];refine wpAny_forIn_list _ (fun bC b s'=>b.1=none/\s'=s/\∃left,left.all (bL k)=true/\RHs s.heap left bC) _ ?_ ?_ _ _ ⟨rfl,rfl,ds,hd',by simpa using hr⟩
  ·rintro v bC b s' ⟨hb,rfl,left,hall,hl⟩
   cases left with
   |nil=>simp only[RHs]at hl;contradiction
   |cons d' left'=>
    simp only[RHs]at hl;obtain⟨v',r',e',r1,r2⟩:=hl;cases e';rw[List.all_cons,Bool.and_eq_true]at hall;refine wpAny_bind (ih k (by lia) d' v _ _ _ _ hall.1 r1 ?_)
    simp only[Bool.not_true,Bool.false_eq_true,if_false];exact wpAny_pure ⟨rfl,rfl,left',hall.2,r2⟩
  ·rintro⟨b1,b2⟩ s' ⟨hb,rfl,_⟩
   simp only at hb;subst hb;exact wpAny_pure hQ
 |_=>simp[bL]at hd
theorem yx:∀(ds es:List D),ds.length=es.length->((List.range ds.length).all fun j=>decide (ds[j]?=es[j]?))=decide (ds=es):=by
 intro ds es hl;rw[Bool.eq_iff_iff,List.all_eq_true,decide_eq_true_iff];constructor
 ·intro h
  refine List.ext_getElem? fun j=>?_
  by_cases hj:j<ds.length
  ·exact of_decide_eq_true (h j (List.mem_range.mpr hj))
  ·rw[List.getElem?_eq_none (by lia),List.getElem?_eq_none (by lia)]
 ·rintro rfl j _
  exact decide_eq_true rfl
theorem vL (ds es:List D):(((List.range (min ds.length es.length)).all fun j=>decide (ds[j]?=es[j]?))&&ds.length==es.length)=decide (ds=es):=by
 by_cases hl:ds.length=es.length
 ·rw[hl,Nat.min_self,beq_self_eq_true,Bool.and_true,<-hl,yx ds es hl]
 ·rw[show(ds.length==es.length)=false by simpa using hl,Bool.and_false,decide_eq_false fun z=>hl (by rw[z])]
open SeqAt in
theorem Bv {s:Shared}:∀(n:Nat) (d e:D) (u w:Value) (A:Around),bL n d=true->bL n e=true->A.units+n+1<cLine->RH s.heap d u->RH s.heap e w->EqAt A s u w (decide (d=e)):=by
 intro n
 induction n using Nat.strongRecOn with
 |ind n ih=>
 intro d e u w A hd he hA rd re;have hu:A.units<cLine:=by lia
 cases d with
 |int i=>
  simp only[RH]at rd;obtain⟨t',rfl⟩:=rd;cases e with
  |int j=>
   simp only[RH]at re;obtain⟨t,rfl⟩:=re;rw[show decide (D.int i=D.int j)=(i==j) by rw[Bool.eq_iff_iff,decide_eq_true_iff,beq_iff_eq,D.int.injEq]]
   exact EqAt.int_int i t' j t
  |str j=>simp only[RH]at re;obtain⟨t,rfl⟩:=re;rw[decide_eq_false (by intro z;contradiction)];exact EqAt.int_str i t' j t
  |tup es=>simp only[RH]at re;obtain⟨b,its,rfl,ht,_⟩:=re;rw[decide_eq_false (by intro z;contradiction)];exact EqAt.int_tuple i t' ht hu
  |_=>simp[bL]at he
 |str i=>
  simp only[RH]at rd;obtain⟨t',rfl⟩:=rd;cases e with
  |int j=>simp only[RH]at re;obtain⟨t,rfl⟩:=re;rw[decide_eq_false (by intro z;contradiction)];exact EqAt.str_int i t' j t
  |str j=>
   simp only[RH]at re;obtain⟨t,rfl⟩:=re;rw[show decide (D.str i=D.str j)=(i==j) by rw[Bool.eq_iff_iff,decide_eq_true_iff,beq_iff_eq,D.str.injEq]]
   exact EqAt.str_str i t' j t
  |tup es=>simp only[RH]at re;obtain⟨b,its,rfl,ht,_⟩:=re;rw[decide_eq_false (by intro z;contradiction)];exact EqAt.str_tuple i t' ht hu
  |_=>simp[bL]at he
 |tup ds=>
  have rd0:=rd;simp only[RH]at rd;obtain⟨a,its,rfl,hta,hr⟩:=rd;obtain⟨k,rfl,hd'⟩:=dW hd;cases e with
  |int j=>simp only[RH]at re;obtain⟨t,rfl⟩:=re;rw[decide_eq_false (by intro z;contradiction)];exact EqAt.tuple_int j t hta hu
  |str j=>simp only[RH]at re;obtain⟨t,rfl⟩:=re;rw[decide_eq_false (by intro z;contradiction)];exact EqAt.tuple_str j t hta hu
  |tup es=>
   have re0:=re;simp only[RH]at re;obtain⟨b,its2,rfl,htb,hr2⟩:=re;obtain⟨k',e',he'⟩:=dW he;cases e';have l1:=hr.length;have l2:=hr2.length
   by_cases hab:a=b
   ·subst hab
    rw[decide_eq_true (RH.inj rd0 re0)];exact EqAt.same _
   ·have el:∀j (h1:j<its.toArray.size) (h2:j<its2.toArray.size),EqAt A.in1 s its.toArray[j] its2.toArray[j] (decide (ds[j]?=es[j]?)):=fun j h1 h2=>by
     simp only[List.size_toArray]at h1 h2;obtain⟨d',hd1⟩:∃d',ds[j]?=some d':=⟨ds[j]'(by lia),by simp⟩
     obtain⟨e',he1⟩:∃e',es[j]?=some e':=⟨es[j]'(by lia),by simp⟩
     obtain⟨u',hu1,ru'⟩:=hr.get hd1;obtain⟨w',hw1,rw'⟩:=hr2.get he1;have q:=ih k (Nat.lt_succ_self k) d' e' u' w' A.in1 ((List.all_eq_true.mp hd') d' (List.mem_of_getElem? hd1)) ((List.all_eq_true.mp he') e' (List.mem_of_getElem? he1)) (by show A.units+1+k+1<cLine;lia) ru' rw'
     have g1:its.toArray[j]=u':=by simpa using(List.getElem?_eq_some_iff.mp hu1).2
     have g2:its2.toArray[j]=w':=by simpa using(List.getElem?_eq_some_iff.mp hw1).2
     rw[g1,g2,hd1,he1,show decide (some d'=some e')=decide (d'=e') by simp]
     exact q
    have key:((List.range (min its.toArray.size its2.toArray.size)).all (fun j=>decide (ds[j]?=es[j]?))&&its.toArray.size==its2.toArray.size)=decide (D.tup ds=D.tup es):=by
     rw[List.size_toArray,List.size_toArray,<-l1,<-l2,vL];simp only[D.tup.injEq]
    have rc:=RcAt.tuples hta htb hu el;rw[key]at rc;exact EqAt.of_refs hab rc
  |_=>simp[bL]at he
 |_=>simp[bL]at hd
noncomputable def bh (P:Program) (w:World):HeapKind P w D where
 is h d a:=bL 8 d=true/\RH h d (.ref a)
 hash:=eZ w
 draws:=eR
 room A:=A.units+30<cLine
 inj hx hy:=RH.inj hx.2 hy.2
 keeps:=fun{h h' k a d o es ep} hk ho hd hs=>⟨hk.1,hk.2.to fun b u g _ ⟨its,n,q⟩=>((hs.2 b (fun e=>by subst e;rw[ho]at g;obtain rfl:=Option.some.inj g;rw[hd]at q;contradiction)).trans g)⟩
 pyHash:=fun{A E s k a Q} hr hk h=>xp 8 k _ A s Q E hk.1 (by lia) hk.2 h
 eqBool:=fun{A E s x y a b Q} hr hx hy h=>Bv 8 x y _ _ A hx.1 hy.1 (by lia) hx.2 hy.2 P w E Q h
 quiet:=fun{A E s k a Q} hk h=>wz 8 k _ A s Q E hk.1 hk.2 h
noncomputable def nF:Key->Value->Bool
 |.inl k,v=>Value.isInt k v
 |.inr x,v=>Value.isStrOf x v
noncomputable def BD (w:World):Key->Int
 |.inl k=>hashInt k
 |.inr x=>hashStr w x
theorem aQ:∀{k:Key}{v:Value},nF k v=true->(∃i t,k=Sum.inl i/\v=Value.int i t)\/(∃x t,k=Sum.inr x/\v=Value.str x t)
 |.inl i,v,h=>by
  obtain⟨t,e⟩:=Value.isInt_shape (k:=i) (v:=v) h;exact .inl ⟨i,t,rfl,e⟩
 |.inr x,v,h=>by
  obtain⟨t,e⟩:=Value.isStrOf_shape (x:=x) (v:=v) h;exact .inr ⟨x,t,rfl,e⟩
theorem oK (i:Int) (t:Tok):nF (.inl i) (.int i t)=true:=by simp[nF,Value.isInt]
theorem pX (x:Str) (t:Tok):nF (.inr x) (.str x t)=true:=by simp[nF,Value.isStrOf]
theorem yz (a b:Int):decide ((Sum.inl a:Key)=Sum.inl b)=(a==b):=by
 by_cases e:a=b
 ·subst e;simp
 ·have h:¬(Sum.inl a:Key)=Sum.inl b:=fun q=>e (Sum.inl.inj q)
  rw[decide_eq_false h];exact(beq_eq_false_iff_ne.mpr e).symm
theorem yF (a b:Str):decide ((Sum.inr a:Key)=Sum.inr b)=decide (a=b):=by
 by_cases e:a=b
 ·subst e;simp
 ·have h:¬(Sum.inr a:Key)=Sum.inr b:=fun q=>e (Sum.inr.inj q)
  rw[decide_eq_false h,decide_eq_false e]
theorem yy (a:Int) (b:Str):decide ((Sum.inl a:Key)=Sum.inr b)=false:=decide_eq_false (fun q=>nomatch q)
theorem xx (a:Str) (b:Int):decide ((Sum.inr a:Key)=Sum.inl b)=false:=decide_eq_false (fun q=>nomatch q)
noncomputable def aV (prog:Program) (w:World):PySem.KeyKind prog w Key where
 is:=nF
 hash:=BD w
 inj:=fun v a b ha hb=>by
  rcases aQ ha with⟨i,t,rfl,rfl⟩|⟨x,t,rfl,rfl⟩
  ·rcases aQ hb with⟨j,u,rfl,e⟩|⟨y,u,rfl,e⟩
   ·injection e with e1 _;rw[e1]
   ·exact nomatch e
  ·rcases aQ hb with⟨j,u,rfl,e⟩|⟨y,u,rfl,e⟩
   ·exact nomatch e
   ·injection e with e1 _;rw[e1]
 byValue:=fun k v h=>by
  rcases aQ h with⟨i,t,rfl,rfl⟩|⟨x,t,rfl,rfl⟩<;>rfl
 pyHash:=fun hv h=>by
  rcases aQ hv with⟨i,t,rfl,rfl⟩|⟨x,t,rfl,rfl⟩
  ·exact wpAny_pyHash_int h
  ·exact wpAny_pyHash_str h
 eqBool:=fun hu hv h=>by
  rcases aQ hu with⟨i,t,rfl,rfl⟩|⟨x,t,rfl,rfl⟩
  ·rcases aQ hv with⟨j,u,rfl,rfl⟩|⟨y,u,rfl,rfl⟩
   ·rw[yz]at h;exact wpAny_eqBool_int h
   ·rw[yy]at h;exact SeqAt.EqAt.int_str i t y u _ _ _ _ h
  ·rcases aQ hv with⟨j,u,rfl,rfl⟩|⟨y,u,rfl,rfl⟩
   ·rw[xx]at h;exact SeqAt.EqAt.str_int x t j u _ _ _ _ h
   ·rw[yF]at h;exact wpAny_eqBool_str h
 «strs»:=fun k x t v h=>by
  rcases aQ h with⟨i,u,rfl,e⟩|⟨y,u,rfl,e⟩
  ·exact nomatch e
  ·injection e with e1 _
   subst e1;cases v<;>rfl
theorem kM (prog:Program) (w:World) (i:Int) (t:Tok):(aV prog w).is (.inl i) (.int i t)=true:=oK i t
theorem lJ (prog:Program) (w:World) (x:Str) (t:Tok):(aV prog w).is (.inr x) (.str x t)=true:=pX x t
inductive V where
 |non|bl (b:Bool)|int (i:Int)|str (x:Str)|byt (b:Array UInt8)|flt (b:UInt64)|ref (a:Addr)|ty (n:String)
 deriving DecidableEq
noncomputable def RelV:V->Value->Prop
 |.non,u=>u=Value.none
 |.bl b,u=>u=Value.bool b
 |.int i,u=>∃t,u=Value.int i t
 |.str x,u=>∃t,u=Value.str x t
 |.byt b,u=>∃t,u=Value.bytes b t
 |.flt b,u=>∃t,u=Value.float b t
 |.ref a,u=>u=Value.ref a
 |.ty n,u=>u=Value.type n
noncomputable abbrev Vals:List V->List Value->Prop:=Paired RelV
theorem Vals.length {xs:List V}{us:List Value}(r:Vals xs us):xs.length=us.length:=Paired.length r
theorem Vals.get:∀{xs:List V}{us:List Value}{i:Nat}{x:V},Vals xs us->xs[i]?=some x->∃u,us[i]?=some u/\RelV x u
 |_,_,_,_,.nil,e=>by simp at e
 |_,_,0,_,.cons r _,e=>by simp at e;subst e;exact⟨_,rfl,r⟩
 |_,_,i+1,x,.cons _ t,e=>by
  obtain⟨u,h1,h2⟩:=Vals.get (i:=i) (x:=x) t (by simpa using e)
  exact⟨u,by simpa using h1,h2⟩
theorem Vals.append:∀{xs ys:List V}{us ws:List Value},Vals xs us->Vals ys ws->Vals (xs++ys) (us++ws)
 |_,_,_,_,.nil,s=>s
 |_,_,_,_,.cons r t,s=>.cons r (Vals.append t s)
theorem Vals.take:∀{xs:List V}{us:List Value}(n:Nat),Vals xs us->Vals (xs.take n) (us.take n)
 |_,_,0,_=>.nil
 |_,_,_+1,.nil=>.nil
 |_,_,n+1,.cons r t=>.cons r (Vals.take n t)
theorem Vals.drop:∀{xs:List V}{us:List Value}(n:Nat),Vals xs us->Vals (xs.drop n) (us.drop n)
 |_,_,0,r=>r
 |_,_,_+1,.nil=>.nil
 |_,_,n+1,.cons _ t=>Vals.drop n t
noncomputable def RelO:Option V->Option Value->Prop
 |some v,some u=>RelV v u
 |none,none=>True
 |_,_=>False
noncomputable def KV {κ:Type}:List (κ×V)->List (κ×Value)->Prop:=Paired fun(p:κ×V) (q:κ×Value)=>p.1=q.1/\RelV p.2 q.2
noncomputable def kV:Key->V
 |.inl i=>.int i
 |.inr x=>.str x
inductive HO where
 |lst (xs:List V)
 |tup (xs:List V)
 |dK (kvs:List (Key×V))|dT (kvs:List (List Key×V))|dD (kvs:List (D×V)) (ep:Nat)
 |set (S:Int->Bool) (n:Nat)
 |ins (C dx:Addr) (fs:List (Str×V))
 |own (x:Addr)
 |xd (fs:List (Str×V))
 |met (f x:Addr)
 |rng (lo hi:Int)
 |frz (o:Obj) (u:HO)
 |tbl (lq:Str) (ps:Array Value)
 |ext (φ:Heap->Prop)
noncomputable abbrev Hp:=Addr->Option HO
noncomputable def upd (H:Hp) (a:Addr) (o:HO):Hp:=fun b=>if b=a then some o else H b
theorem ag {H:Hp}{a:Addr}{o:HO}:upd H a o a=some o:=by unfold upd;rw[if_pos rfl]
theorem aj {H:Hp}{a b:Addr}{o:HO}(h:b≠a):upd H a o b=H b:=by unfold upd;rw[if_neg h]
theorem qQ {H:Hp}{a:Addr}{o u:HO}:upd (upd H a o) a u=upd H a u:=by
 funext b;unfold upd;split<;>rfl
theorem iO {H:Hp}{a b:Addr}{o u:HO}(h:H a=some o) (h':H b=some u) (d:o≠u):a≠b:=by
 intro e;subst e;rw[h]at h';exact d (Option.some.inj h')
theorem aG {H:Hp}{a b:Addr}{o:HO}(h:H a=some o) (h':H b=none):a≠b:=by
 intro e;subst e;rw[h]at h';contradiction
mutual
noncomputable def KR (H:Hp):D->V->Prop
 |.int i,v=>v=.int i
 |.str x,v=>v=.str x
 |.tup ds,v=>∃a xs,v=.ref a/\H a=some (.tup xs)/\KRs H ds xs
 |_,_=>False
noncomputable def KRs (H:Hp):List D->List V->Prop
 |[],xs=>xs=[]
 |d::ds,xs=>∃x r,xs=x::r/\KR H d x/\KRs H ds r
end
mutual
theorem KR.to {H H':Hp}(t:∀a xs,H a=some (.tup xs)->H' a=some (.tup xs)):∀{d:D}{v:V},KR H d v->KR H' d v
 |.int i,v,r=>by simp only[KR]at r⊢;exact r
 |.str i,v,r=>by simp only[KR]at r⊢;exact r
 |.tup ds,v,r=>by
  simp only[KR]at r⊢;obtain⟨a,xs,e,g,rs⟩:=r;exact⟨a,xs,e,t a xs g,KRs.to t rs⟩
 |.non,v,r=>by simp only[KR]at r
 |.bl _,v,r=>by simp only[KR]at r
 |.lst _,v,r=>by simp only[KR]at r
 |.dT _ _,v,r=>by simp only[KR]at r
 |.dK _ _,v,r=>by simp only[KR]at r
 |.dD _ _,v,r=>by simp only[KR]at r
 |.sp _ _,v,r=>by simp only[KR]at r
theorem KRs.to {H H':Hp}(t:∀a xs,H a=some (.tup xs)->H' a=some (.tup xs)):∀{ds:List D}{xs:List V},KRs H ds xs->KRs H' ds xs
 |[],xs,r=>by simp only[KRs]at r⊢;exact r
 |d::ds,xs,r=>by
  simp only[KRs]at r⊢;obtain⟨x,q,e,r1,r2⟩:=r;exact⟨x,q,e,KR.to t r1,KRs.to t r2⟩
end
noncomputable def DPairs (H:Hp):List (D×V)->List (D×Addr×Value)->Prop:=Paired fun p q=>p.1=q.1/\bL 8 p.1=true/\KR H p.1 (.ref q.2.1)/\RelV p.2 q.2.2
section
variable(P:Program) (w:World)
noncomputable def ObjOk (H:Hp) (h:Heap) (a:Addr):HO->Prop
 |.lst xs=>xs.length<=sizeLine/\∃(its:List Value) (n:Nat),Vals xs its/\h.get? a=some {cls:=.type "list",data:=.seq its.toArray n}
 |.tup xs=>xs.length<=sizeLine/\∃its:List Value,Vals xs its/\IsTup h a its.toArray
 |.dK kvs=>kvs.length<=sizeLine/\(a==sysModules)=false/\∃vs,KV kvs vs/\h.DictOf (aV P w) a vs
 |.dT kvs=>kvs.length<=sizeLine/\(a==sysModules)=false/\∃xs:List (List Key×Addr×Value),
   Paired (fun(p:List Key×V) (q:List Key×Addr×Value)=>p.1=q.1/\H q.2.1=some (.tup (p.1.map kV))/\RelV p.2 q.2.2) kvs xs/\
   ∃o es ep,h.get? a=some o/\o.ExactDict/\o.data=.dict es ep/\es.toList=xs.map (entryOfKey (tupleKind (aV P w)))/\(xs.map (·.1)).Nodup
 |.dD kvs ep=>kvs.length<=sizeLine/\(a==sysModules)=false/\∃xs,DPairs H kvs xs/\
   ∃o es,h.get? a=some o/\o.ExactDict/\o.data=.dict es ep/\es.toList=xs.map (entryOfKey (bh P w))/\(xs.map (·.1)).Nodup
 |.set S n=>h.SetOf (intKind P w) a S n
 |.ins C dx fs=>H dx=some (.own a)/\fs.length<=1000/\dx≠a/\h.get? a=some (PySem.W.instObj C dx)/\
   ∃mA,h.Ns1 dx mA/\(∀f,RelO (fs.lookup f) (mA f))/\PySem.Within mA (fs.map (·.1))
 |.own _=>∃o,h.get? a=some o
 |.xd fs=>∃mA,h.Ns1 a mA/\∀f,RelO (fs.lookup f) (mA f)
 |.rng lo hi=>∃t u v,h.get? a=some {cls:=.type "range",data:=.fields #[.int lo t,.int hi u,.int 1 v]}
 |.frz o u=>h.get? a=some o/\ObjOk H h a u
 |.tbl lq ps=>h.get? a=some {cls:=.none,data:=.fields ps}/\TriplesOk ps.toList/\∀pos cv,codeAmong pos ps.toList=some cv->
   ∃c' oc vs t,cv=.ref c'/\H c'=some (.own a)/\h.get? c'=some oc/\oc.data=.fields vs/\vs[1]?=some (.str lq t)
 |.met f x=>h.get? a=some (PySem.W.methodObj (.ref f) (.ref x))
 |.ext φ=>φ h/\(∃o,h.get? a=some o)/\∀h1 h2:Heap,φ h1->(∀o,h1.get? a=some o->h2.get? a=some o)->φ h2
noncomputable def HOk (H:Hp) (h:Heap):Prop:=∀a o,H a=some o->ObjOk P w H h a o
end
section
variable{P:Program}{w:World}{H H':Hp}{h h':Heap}{a:Addr}{o:HO}
theorem ObjOk.lt (x:ObjOk P w H h a o):a<h.objs.size:=by
 cases o with
 |lst xs=>obtain⟨_,_,_,_,e⟩:=x;exact Heap.lt_size e
 |tup xs=>obtain⟨_,_,_,p⟩:=x;exact p.lt
 |dK kvs=>obtain⟨_,_,_,_,o,_,_,e,_⟩:=x;exact Heap.lt_size e
 |dT kvs=>obtain⟨_,_,_,_,o,_,_,e,_⟩:=x;exact Heap.lt_size e
 |dD kvs ep=>obtain⟨_,_,_,_,o,_,e,_⟩:=x;exact Heap.lt_size e
 |set S n=>obtain⟨o,_,_,_,e,_⟩:=x;exact Heap.lt_size e
 |ins C dx fs=>obtain⟨_,_,_,e,_⟩:=x;exact Heap.lt_size e
 |own y=>obtain⟨_,e⟩:=x;exact Heap.lt_size e
 |xd fs=>obtain⟨_,⟨_,_,_,e,_⟩,_⟩:=x;exact Heap.lt_size e
 |rng lo hi=>obtain⟨_,_,_,e⟩:=x;exact Heap.lt_size e
 |frz ob u=>obtain⟨e,_⟩:=x;exact Heap.lt_size e
 |tbl lq ps=>exact Heap.lt_size x.1
 |met f y=>exact Heap.lt_size (show h.get? a=some _ from x)
 |ext φ=>obtain⟨_,⟨_,e⟩,_⟩:=x;exact Heap.lt_size e
theorem Paired.mapP {α β:Type}{F G:α->β->Prop}:∀{l₁:List α}{l₂:List β},Paired F l₁ l₂->(∀a b,F a b->G a b)->Paired G l₁ l₂
 |_,_,.nil,_=>.nil
 |_,_,.cons r t,f=>.cons (f _ _ r) (Paired.mapP t f)
theorem ObjOk.stay (x:ObjOk P w H h a o) (k:∀b u,(b=a\/H b=some (.own a))->h.get? b=some u->h'.get? b=some u)
  (ho:∀b,H b=some (.own a)->H' b=some (.own a)) (ht:∀b xs,H b=some (.tup xs)->H' b=some (.tup xs)):ObjOk P w H' h' a o:=by
 induction o with
 |lst xs=>obtain⟨z,its,n,r,e⟩:=x;exact⟨z,its,n,r,k _ _ (.inl rfl) e⟩
 |tup xs=>obtain⟨z,its,r,ob,e,c⟩:=x;exact⟨z,its,r,ob,k _ _ (.inl rfl) e,c⟩
 |dK kvs=>obtain⟨z,y,vs,r,ob,es,ep,e,c⟩:=x;exact⟨z,y,vs,r,ob,es,ep,k _ _ (.inl rfl) e,c⟩
 |dT kvs=>
  obtain⟨z,y,xs,r,ob,es,ep,e,c⟩:=x;exact⟨z,y,xs,Paired.mapP r fun p q z=>⟨z.1,ht _ _ z.2.1,z.2.2⟩,ob,es,ep,k _ _ (.inl rfl) e,c⟩
 |dD kvs ep=>
  obtain⟨z,y,xs,r,ob,es,e,c⟩:=x;exact⟨z,y,xs,Paired.mapP r fun p q z=>⟨z.1,z.2.1,KR.to ht z.2.2.1,z.2.2.2⟩,ob,es,k _ _ (.inl rfl) e,c⟩
 |set S n=>obtain⟨ob,es,ep,t,e,c⟩:=x;exact⟨ob,es,ep,t,k _ _ (.inl rfl) e,c⟩
 |ins C dx fs=>
  obtain⟨d,z,ne,e,mA,⟨od,es,ep,e2,c⟩,r⟩:=x;exact⟨ho _ d,z,ne,k _ _ (.inl rfl) e,mA,⟨od,es,ep,k _ _ (.inr d) e2,c⟩,r⟩
 |own y=>obtain⟨ob,e⟩:=x;exact⟨ob,k _ _ (.inl rfl) e⟩
 |xd fs=>obtain⟨mA,⟨od,es,ep,e,c⟩,r⟩:=x;exact⟨mA,⟨od,es,ep,k _ _ (.inl rfl) e,c⟩,r⟩
 |rng lo hi=>obtain⟨t,u,v,e⟩:=x;exact⟨t,u,v,k _ _ (.inl rfl) e⟩
 |frz ob u ih=>obtain⟨e,q⟩:=x;exact⟨k _ _ (.inl rfl) e,ih q⟩
 |tbl lq ps=>
  obtain⟨e,tr,r⟩:=x;refine⟨k _ _ (.inl rfl) e,tr,fun pos cv q=>?_⟩
  obtain⟨c',oc,vs,t,e1,e2,e3,e4⟩:=r pos cv q;exact⟨c',oc,vs,t,e1,ho _ e2,k _ _ (.inr e2) e3,e4⟩
 |met f y=>
  have e:h.get? a=some (PySem.W.methodObj (.ref f) (.ref y)):=x;show h'.get? a=some (PySem.W.methodObj (.ref f) (.ref y));exact k a _ (.inl rfl) e
 |ext φ=>obtain⟨p,⟨o,e⟩,st⟩:=x;exact⟨st _ _ p fun o q=>k _ _ (.inl rfl) q,⟨o,k _ _ (.inl rfl) e⟩,st⟩
theorem HOk.lt (x:HOk P w H h) (e:H a=some o):a<h.objs.size:=(x a o e).lt
theorem HOk.fresh (x:HOk P w H h) (e:h.objs.size<=a):H a=none:=by
 cases q:H a with
 |none=>rfl
 |some u=>exact absurd (Nat.lt_of_lt_of_le (x.lt q) e) (Nat.lt_irrefl _)
theorem HOk.kept (x:HOk P w H h) (k:∀b u,h.get? b=some u->h'.get? b=some u):HOk P w H h':=fun a o e=>
 (x a o e).stay (fun b u _ q=>k b u q) (fun _ q=>q) fun _ _ q=>q
theorem HOk.laid (x:HOk P w H h) (k:∀b u,h.get? b=some u->h'.get? b=some u) (hp:h.objs.size<=a) (new:ObjOk P w (upd H a o) h' a o):HOk P w (upd H a o) h':=fun b u e=>by
 have hn:=x.fresh hp
 by_cases hb:b=a
 ·subst hb;rw[ag]at e;obtain rfl:=Option.some.inj e;exact new
 ·rw[aj hb]at e
  exact(x b u e).stay (fun c v _ q=>k c v q) (fun c q=>by rw[aj (aG q hn)];exact q) fun c xs q=>by rw[aj (aG q hn)];exact q
end
noncomputable def Rd (H:Hp) (a:Addr) (u:HO):Prop:=H a=some u\/∃o,H a=some (.frz o u)
theorem Rd.ok {P:Program}{w:World}{H:Hp}{h:Heap}{a:Addr}{u:HO}(r:Rd H a u) (x:HOk P w H h):ObjOk P w H h a u:=by
 rcases r with r|⟨o,r⟩
 ·exact x a u r
 ·obtain⟨_,q⟩:=x a _ r
  exact q
noncomputable def Mut:Option HO->Prop
 |some (.lst _)=>True
 |some (.dK _)=>True
 |some (.dT _)=>True
 |some (.dD _ _)=>True
 |some (.set _ _)=>True
 |some (.ins _ _ _)=>True
 |some (.ext _)=>True
 |_=>False
section
variable{P:Program}{w:World}{H:Hp}{h h':Heap}{x e:Addr}{o':HO}
theorem HOk.write (ok:HOk P w H h) (mu:Mut (H x)) (he:e=x\/H e=some (.own x)) (k:∀b u,b≠e->h.get? b=some u->h'.get? b=some u) (heo:∃u,h'.get? e=some u)
  (new:ObjOk P w (upd H x o') h' x o'):HOk P w (upd H x o') h':=fun b u q=>by
 have nown:∀c y,H c=some (.own y)->c≠x:=fun c y r z=>by subst z;rw[r]at mu;exact mu
 have ntup:∀c xs,H c=some (.tup xs)->c≠x:=fun c xs r z=>by subst z;rw[r]at mu;exact mu
 by_cases hb:b=x
 ·subst hb;rw[ag]at q;obtain rfl:=Option.some.inj q;exact new
 ·rw[aj hb]at q
  by_cases hbe:b=e
  ·have q':H b=some (.own x):=by
    rcases he with z|z
    ·exact absurd (hbe.trans z) hb
    ·rw[hbe];exact z
   rw[q]at q';obtain rfl:=Option.some.inj q';obtain⟨v,hv⟩:=heo;exact⟨v,by rw[hbe];exact hv⟩
  ·refine(ok b u q).stay (fun c v hc r=>k c v ?_ r) (fun c r=>by rw[aj (nown c b r)];exact r) fun c xs r=>by rw[aj (ntup c xs r)];exact r
   rcases hc with rfl|hc
   ·exact hbe
   ·rintro rfl
    rcases he with z|z
    ·exact nown c b hc z
    ·rw[hc]at z;cases z;exact hb rfl
end
structure Un (fs ex:List Addr) (H H':Hp) (h h':Heap):Prop where
 keep:∀b o,h.get? b=some o->H b=none->b∉fs->b∉ex->h'.get? b=some o
 slot:∀b o,h.get? b=some o->H b=none->b∈fs->b∉ex->∃sl,h'.get? b=some {o with slots:=sl}
 free:∀b o,h.get? b=some o->H b=none->b∉ex->H' b=none
 there:∀b o,h.get? b=some o->b∉ex->∃o',h'.get? b=some o'
 tups:∀b xs,H b=some (.tup xs)->H' b=some (.tup xs)
 frzs:∀b o u,H b=some (.frz o u)->H' b=some (.frz o u)
 tbls:∀b lq ps,H b=some (.tbl lq ps)->∃more,H' b=some (.tbl lq (ps++more))
section
variable{fs fs' ex ex':List Addr}{H H1 H2:Hp}{h h1 h2 h':Heap}{a x e:Addr}{o:HO}
theorem Un.any (u:Un fs ex H H1 h h1) {b:Addr}{ob:Obj}(q:h.get? b=some ob) (n:H b=none) (hx:b∉ex):∃sl,h1.get? b=some {ob with slots:=sl}:=by
 by_cases hb:b∈fs
 ·exact u.slot b ob q n hb hx
 ·exact⟨ob.slots,u.keep b ob q n hb hx⟩
theorem Un.kept (k:∀b u,h.get? b=some u->h'.get? b=some u):Un fs ex H H h h':=
 ⟨fun b ob q _ _ _=>k b ob q,fun b ob q _ _ _=>⟨ob.slots,k b ob q⟩,fun _ _ _ n _=>n,fun b ob q _=>⟨ob,k b ob q⟩,fun _ _ q=>q,fun _ _ _ q=>q,fun _ lq ps q=>⟨#[],by rw[q];simp⟩⟩
theorem Un.refl:Un fs ex H H h h:=Un.kept fun _ _ q=>q
theorem Un.laid (k:∀b u,h.get? b=some u->h'.get? b=some u) (hp:h.objs.size<=a) (hn:H a=none):Un fs ex H (upd H a o) h h' where
 keep:=fun b u q _ _ _=>k b u q
 slot:=fun b u q _ _ _=>⟨u.slots,k b u q⟩
 free:=fun b u q n _=>by rw[aj (Nat.ne_of_lt (Nat.lt_of_lt_of_le (Heap.lt_size q) hp))];exact n
 there:=fun b u q _=>⟨u,k b u q⟩
 tups:=fun b xs q=>by rw[aj (aG q hn)];exact q
 frzs:=fun b u xs q=>by rw[aj (aG q hn)];exact q
 tbls:=fun b lq ps q=>⟨#[],by rw[aj (aG q hn),q];simp⟩
theorem Un.write (mu:Mut (H x)) (he:e=x\/H e=some (.own x)) (k:∀b u,b≠e->h.get? b=some u->h'.get? b=some u) (heo:∃u,h'.get? e=some u):Un fs ex H (upd H x o) h h':=by
 have hx:∀b,H b=none->b≠x:=fun b n z=>by subst z;rw[n]at mu;exact mu
 have hb:∀b,H b=none->b≠e:=fun b n z=>by
  subst z
  rcases he with r|r
  ·exact hx b n r
  ·rw[n]at r;contradiction
 have hm:∀b u,H b=some u->¬Mut (some u)->b≠x:=fun b u q nm z=>by subst z;rw[q]at mu;exact nm mu
 refine⟨fun b u q n _ _=>k b u (hb b n) q,fun b u q n _ _=>⟨u.slots,k b u (hb b n) q⟩,fun b u q n _=>by rw[aj (hx b n)];exact n,fun b u q _=>?_,
  fun b xs q=>by rw[aj (hm b _ q fun z=>z)];exact q,fun b u xs q=>by rw[aj (hm b _ q fun z=>z)];exact q,fun b lq ps q=>⟨#[],by rw[aj (hm b _ q fun z=>z),q];simp⟩⟩
 by_cases hbe:b=e
 ·subst hbe;exact heo
 ·exact⟨u,k b u hbe q⟩
end
noncomputable def trk (h:Heap) (H:Hp):List Addr:=(List.range h.objs.size).filter fun a=>(H a).isSome
noncomputable def sr (h:Heap) (H:Hp):Heap:=PySem.W.hideAll h (trk h H)
theorem pJ (h:Heap) (H:Hp):(sr h H).objs.size=h.objs.size:=PySem.W.hideAll_size _ _
theorem tU {h:Heap}{H:Hp}{b:Addr}{o:Obj}(e:h.get? b=some o) (n:H b=none):(sr h H).get? b=some o:=
 PySem.W.hideAll_get _ e fun hm=>by
  have q:(H b).isSome=true:=(List.mem_filter.mp hm).2;rw[n]at q;simp at q
theorem wB {h:Heap}{H:Hp}{b:Addr}{o:Obj}(e:(sr h H).get? b=some o):h.get? b=some o/\H b=none:=by
 have e':h.get? b=some o:=PySem.W.of_hideAll (trk h H) e;refine⟨e',?_⟩
 cases q:H b with
 |none=>rfl
 |some x=>
  have hm:b∈trk h H:=List.mem_filter.mpr ⟨List.mem_range.mpr (Heap.lt_size e'),by simp[q]⟩
  have z:(sr h H).get? b=none:=PySem.W.hideAll_none (trk h H) hm;rw[z]at e;contradiction
noncomputable def v8 (g h:Heap) (L:Addr):List (Addr×Obj):=(List.range h.objs.size).filterMap fun a=>if a=L\/(g.get? a).isSome=true then none else(h.get? a).map fun o=>(a,o)
noncomputable def bC (g h:Heap) (L d:Addr):List (Addr×Obj):=(v8 g h L).filter fun p=>decide (p.1≠d)
section
structure Mod (K:PySem.W.Frag) (mg:Str->Option Value) (base:Heap):Prop where
 kin:K.In base
 glob:base.Ns mainGlobals mg
 blt:∃mb,base.Ns builtinsNs mb/\∀x:Str,x≠"__name__"->mb x=bootBuiltins x
 nolimit:base.NoLimit
 bmain:∃bm ob,mg "__builtins__"=some (.ref bm)/\bm≠builtinsNs/\base.get? bm=some ob/\ob.cls=.type "module"/\ob.dict=some builtinsNs/\ob.data=.plain
structure Cx where
 prog:Program
 w:World
 K:PySem.W.Frag
 mg:Str->Option Value
 base:Heap
 A:Around
 N:List Str
 s₀:Shared
 H₀:Hp
 env:Env
 outer:List Env
 stack:List Env
 ex:List Addr
 fn:Str->Bool
 calm:Bool
 pn:List (Addr×Obj)
 xe:Value->Shared->Prop
noncomputable def frs (l:List Env):List Addr:=l.filterMap (·.frame)
noncomputable abbrev Cx.fs (X:Cx):List Addr:=frs X.outer
noncomputable def Vis (sc:Scope) (x:Str):Prop:=sc.names.lookup x=some .local\/sc.names.lookup x=some .cell\/sc.names.lookup x=some .free
noncomputable def Loc (sc:Scope) (x:Str):Prop:=sc.names.lookup x=some .local\/sc.names.lookup x=some .cell
noncomputable def BT (env:Env) (h:Heap) (m:Str->Option Value) (x:Str) (u:Value):Prop:=
 (env.kindOf x=some .local/\m x=some u)\/((env.kindOf x=some .cell\/env.kindOf x=some .free)/\∃c,env.cells.lookup x=some c/\h.IsCell c (some u))
class Lams where
 tb:List (Addr×Str)
variable[Lams]
noncomputable def TabH (H:Hp):Prop:=∀q∈Lams.tb,∃ps,H q.1=some (.tbl q.2 ps)
theorem TabH.to {H H':Hp}(h:TabH H) (tb:∀b lq ps,H b=some (.tbl lq ps)->∃more,H' b=some (.tbl lq (ps++more))):TabH H':=fun q hq=>by
 obtain⟨ps,e⟩:=h q hq;obtain⟨m,e'⟩:=tb _ _ _ e;exact⟨_,e'⟩
structure Cx.Ok (X:Cx):Prop where
 mod:Mod X.K X.mg X.base
 kind:X.env.scope.kind=.function
 glob:X.env.globals=mainGlobals
 blt:X.env.builtins=builtinsNs
 above:X.s₀.heap.objs.size<=X.env.locals
 inj:∀x y c,X.env.cells.lookup x=some c->X.env.cells.lookup y=some c->x=y
 has:∀x,(X.env.kindOf x=some .cell\/X.env.kindOf x=some .free)->∃c,X.env.cells.lookup x=some c
 cab:∀x c,X.fn x=true->X.env.cells.lookup x=some c->X.s₀.heap.objs.size<=c
 hd:X.calm=true->X.A.handled=none
 frames:X.A.frames=some X.stack
 stk:X.stack=X.outer\/(X.stack=X.env::X.outer/\X.env.frame=some X.env.locals)
 exf:∀b∈X.ex,b≠X.env.locals/\∀x c,X.env.cells.lookup x=some c->c≠b
 bs:∀b o,X.base.get? b=some o->X.s₀.heap.get? b=some o/\X.H₀ b=none
 bsz:X.base.objs.size<=X.s₀.heap.objs.size
 noex:∀b o,X.base.get? b=some o->b∉X.ex
 exfs:∀b∈X.ex,b∉X.fs
 funs:X.s₀.heap.FunFrames X.base X.outer
 frf:∀b∈X.fs,X.H₀ b=none
 tabs:TabH X.H₀
structure Inv (X:Cx) (pins:List (Addr×Obj)) (σ:List (Option V)) (H:Hp) (s:Shared):Prop where
 ok:X.Ok
 os:s.os=X.s₀.os
 bare:AllBare s.gens
 base:Un X.fs X.ex X.H₀ H X.s₀.heap s.heap
 loc:∃m,s.heap.Ns X.env.locals m/\∀(i:Nat) (x:Str) (v:V),X.N[i]?=some x->σ[i]?=some (some v)->Vis X.env.scope x->∃u,RelV v u/\BT X.env s.heap m x u
 cell:∀x c,X.env.cells.lookup x=some c->∃v,s.heap.IsCell c v
 free:H X.env.locals=none
 freeC:∀x c,X.env.cells.lookup x=some c->H c=none
 pin:∀p∈X.pn++pins,s.heap.get? p.1=some p.2/\H p.1=none/\p.1≠X.env.locals/\p.1∉X.fs/\∀v,p.2.data≠.cell v
 hok:HOk X.prog X.w H s.heap
 len:σ.length=X.N.length
section
variable{X:Cx}{pins:List (Addr×Obj)}{σ:List (Option V)}{H H':Hp}{s:Shared}{h':Heap}
theorem Cx.Ok.nofr (ok:X.Ok) {b:Addr}{o:Obj}(e:X.base.get? b=some o):b∉X.fs:=fun hb=>by
 have:=(ok.funs.mem hb).1;rw[e]at this;contradiction
theorem Inv.bs (I:Inv X pins σ H s):∀b o,X.base.get? b=some o->s.heap.get? b=some o/\H b=none:=fun b o e=>
 ⟨I.base.keep b o (I.ok.bs b o e).1 (I.ok.bs b o e).2 (I.ok.nofr e) (I.ok.noex b o e),I.base.free b o (I.ok.bs b o e).1 (I.ok.bs b o e).2 (I.ok.noex b o e)⟩
theorem Inv.bk (I:Inv X pins σ H s):∀b o,X.base.get? b=some o->s.heap.get? b=some o:=fun b o e=>(I.bs b o e).1
theorem Inv.mod (I:Inv X pins σ H s):Mod X.K X.mg X.base:=I.ok.mod
theorem Inv.kIn (I:Inv X pins σ H s):X.K.In s.heap:=I.ok.mod.kin.keeps I.bk
theorem Inv.lt (I:Inv X pins σ H s):X.env.locals<s.heap.objs.size:=let ⟨_,hn,_⟩:=I.loc;hn.lt
theorem Inv.sz (I:Inv X pins σ H s):X.s₀.heap.objs.size<=s.heap.objs.size:=Nat.le_trans I.ok.above (Nat.le_of_lt I.lt)
theorem Inv.nofs (I:Inv X pins σ H s) {a:Addr}(h:s.heap.objs.size<=a):a∉X.fs:=fun hb=>by
 obtain⟨_,o,ho,_⟩:=I.ok.funs.mem hb;exact absurd (Nat.lt_of_lt_of_le (Heap.lt_size ho) (Nat.le_trans I.sz h)) (Nat.lt_irrefl _)
theorem Inv.cne (I:Inv X pins σ H s):∀x c,X.env.cells.lookup x=some c->c≠X.env.locals:=fun x c e z=>by
 obtain⟨v,o,ho,hd⟩:=I.cell x c e;obtain⟨m,⟨o',es,ep,ho',hd',_⟩,_⟩:=I.loc;rw[z,ho']at ho;obtain rfl:=Option.some.inj ho;rw[hd']at hd;contradiction
theorem Inv.funs (I:Inv X pins σ H s):s.heap.FunFrames X.base X.outer:=by
 have all:∀(l:List Env),(∀b∈frs l,b∈X.fs)->X.s₀.heap.FunFrames X.base l->s.heap.FunFrames X.base l:=by
  intro l
  induction l with
  |nil=>intro _ _;trivial
  |cons env r ih=>
   intro hs hl;obtain⟨hk,⟨L,o,hf,hn,ho,hd⟩,hr⟩:=hl;have hL:L∈X.fs:=hs L (by unfold frs;rw[List.filterMap_cons,hf];exact List.mem_cons_self)
   obtain⟨sl,e⟩:=I.base.slot L o ho (I.ok.frf L hL) hL fun z=>I.ok.exfs L z hL
   exact⟨hk,⟨L,_,hf,hn,e,hd⟩,ih (fun b hb=>hs b (by unfold frs;rw[List.filterMap_cons,hf];exact List.mem_cons_of_mem _ hb)) hr⟩
 exact all X.outer (fun _ hb=>hb) I.ok.funs
theorem Inv.stack (I:Inv X pins σ H s):s.heap.FunFrames X.base X.stack:=by
 rcases I.ok.stk with e|⟨e,hf⟩
 ·rw[e];exact I.funs
 ·rw[e]
  obtain⟨m,hn,_⟩:=I.loc;refine .cons (by rw[I.ok.kind];decide) hf hn ?_ I.funs
  exact Heap.get?_none_of_le (Nat.le_trans I.ok.bsz I.ok.above)
theorem Inv.stkSub (I:Inv X pins σ H s):∀b∈frs X.stack,b∈X.env.locals::X.fs:=fun b hb=>by
 rcases I.ok.stk with e|⟨e,hf⟩
 ·rw[e]at hb;exact List.mem_cons_of_mem _ hb
 ·rw[e]at hb
  unfold frs at hb;rw[List.filterMap_cons,hf]at hb;exact hb
theorem Inv.stkFree (I:Inv X pins σ H s):∀b∈frs X.stack,H b=none:=fun b hb=>by
 rcases List.mem_cons.mp (I.stkSub b hb)with e|hb
 ·rw[e];exact I.free
 ·obtain⟨_,o,ho,_⟩:=I.ok.funs.mem hb
  exact I.base.free b o ho (I.ok.frf b hb) fun z=>I.ok.exfs b z hb
theorem Inv.step {g':Array GenState}{t':Nat}{d':Drawn}{ch:List Addr}(I:Inv X pins σ H s)
  (hch:∀b∈ch,(b∈X.ex\/X.s₀.heap.objs.size<=b)/\b≠X.env.locals/\(∀x c,X.env.cells.lookup x=some c->c≠b)/\∀p∈X.pn++pins,p.1≠b)
  (keep:∀b o,b≠X.env.locals->b∉X.fs->b∉ch->s.heap.get? b=some o->H b=none->h'.get? b=some o)
  (slot:∀b o,b≠X.env.locals->b∈X.fs->b∉ch->s.heap.get? b=some o->H b=none->∃sl,h'.get? b=some {o with slots:=sl}) (free:∀b o,b∉ch->s.heap.get? b=some o->H b=none->H' b=none)
  (there:∀b o,b∉ch->s.heap.get? b=some o->∃o',h'.get? b=some o')
  (tups:∀b xs,H b=some (.tup xs)->H' b=some (.tup xs)) (frzs:∀b o u,H b=some (.frz o u)->H' b=some (.frz o u)) (tbls:∀b lq ps,H b=some (.tbl lq ps)->∃more,H' b=some (.tbl lq (ps++more)))
  (ns:∀m,s.heap.Ns X.env.locals m->h'.Ns X.env.locals m) (hok:HOk X.prog X.w H' h') (hg:AllBare g'):
  Inv X pins σ H' {s with heap:=h',gens:=g',drawn:=d',toks:=t'}:=by
 have neL:∀b o,X.s₀.heap.get? b=some o->b≠X.env.locals:=fun b o e=>Nat.ne_of_lt (Nat.lt_of_lt_of_le (Heap.lt_size e) I.ok.above)
 have neC:∀b o,X.s₀.heap.get? b=some o->b∉X.ex->b∉ch:=fun b o e hx hb=>by
  rcases(hch b hb).1 with z|z
  ·exact hx z
  ·exact absurd (Nat.lt_of_lt_of_le (Heap.lt_size e) z) (Nat.lt_irrefl _)
 have cellK:∀x c,X.env.cells.lookup x=some c->∀v,s.heap.IsCell c v->h'.IsCell c v:=fun x c e v hz=>by
  obtain⟨o,ho,hd⟩:=hz;have nch:c∉ch:=fun z=>(hch c z).2.2.1 x c e rfl
  by_cases hc:c∈X.fs
  ·obtain⟨sl,q⟩:=slot c o (I.cne x c e) hc nch ho (I.freeC x c e)
   exact⟨_,q,hd⟩
  ·exact⟨o,keep c o (I.cne x c e) hc nch ho (I.freeC x c e),hd⟩
 refine⟨I.ok,I.os,hg,⟨fun b o e n hb hx=>?_,fun b o e n hb hx=>?_,fun b o e n hx=>?_,fun b o e hx=>?_,fun b xs e=>tups b xs (I.base.tups b xs e),fun b o xs e=>frzs b o xs (I.base.frzs b o xs e),fun b lq ps e=>?_⟩,?_,fun x c e=>?_,?_,fun x c e=>?_,fun p hp=>?_,hok,I.len⟩
 ·exact keep b o (neL b o e) hb (neC b o e hx) (I.base.keep b o e n hb hx) (I.base.free b o e n hx)
 ·obtain⟨sl,e1⟩:=I.base.slot b o e n hb hx
  obtain⟨sl',e2⟩:=slot b _ (neL b o e) hb (neC b o e hx) e1 (I.base.free b o e n hx);exact⟨sl',e2⟩
 ·obtain⟨o',e1⟩:=I.base.there b o e hx
  exact free b o' (neC b o e hx) e1 (I.base.free b o e n hx)
 ·obtain⟨o',e1⟩:=I.base.there b o e hx
  exact there b o' (neC b o e hx) e1
 ·obtain⟨m1,e1⟩:=I.base.tbls b lq ps e
  obtain⟨m2,e2⟩:=tbls b lq _ e1;exact⟨m1++m2,by rw[e2,Array.append_assoc]⟩
 ·obtain⟨m,hn,hl⟩:=I.loc
  refine⟨m,ns m hn,fun i x v e1 e2 e3=>?_⟩
  obtain⟨u,r,l⟩:=hl i x v e1 e2 e3;refine⟨u,r,?_⟩
  rcases l with l|⟨k,c,e,z⟩
  ·exact .inl l
  ·exact .inr ⟨k,c,e,cellK x c e _ z⟩
 ·obtain⟨v,z⟩:=I.cell x c e
  exact⟨v,cellK x c e v z⟩
 ·obtain⟨m,⟨o,_,_,ho,_⟩,_⟩:=I.loc
  exact free _ o (fun z=>(hch _ z).2.1 rfl) ho I.free
 ·obtain⟨v,o,ho,hd⟩:=I.cell x c e
  exact free c o (fun z=>(hch c z).2.2.1 x c e rfl) ho (I.freeC x c e)
 ·obtain⟨e,n,ne,nf,d⟩:=I.pin p hp
  have nch:p.1∉ch:=fun z=>(hch p.1 z).2.2.2 p hp rfl
  exact⟨keep p.1 p.2 ne nf nch e n,free p.1 p.2 nch e n,ne,nf,d⟩
theorem Inv.un {t':Nat}(I:Inv X pins σ H s) (u:Un X.fs [] H H' s.heap h') (hok:HOk X.prog X.w H' h'):Inv X pins σ H' {s with heap:=h',toks:=t'}:=by
 obtain⟨m,⟨o,es,ep,ho,r⟩,_⟩:=id I.loc;obtain⟨sl,hL⟩:=u.any ho I.free (by simp)
 exact I.step (g':=s.gens) (d':=s.drawn) (ch:=[]) (fun _ z=>nomatch z) (fun b o _ hb _ e n=>u.keep b o e n hb (by simp)) (fun b o _ hb _ e n=>u.slot b o e n hb (by simp)) (fun b o _ e n=>u.free b o e n (by simp)) (fun b o _ e=>u.there b o e (by simp)) u.tups u.frzs u.tbls (fun m' hm=>by
  obtain⟨o',es',ep',ho',r'⟩:=hm;rw[ho]at ho';obtain rfl:=Option.some.inj ho';exact⟨_,es',ep',hL,r'⟩) hok I.bare
theorem Inv.call {g':Array GenState}{t':Nat}{d':Drawn}{ch:List Addr}(I:Inv X pins σ H s) (u:Un (frs X.stack) ch H H' s.heap h') (hok:HOk X.prog X.w H' h') (hg:AllBare g')
  (hch:∀b∈ch,(b∈X.ex\/X.s₀.heap.objs.size<=b)/\b≠X.env.locals/\(∀x c,X.env.cells.lookup x=some c->c≠b)/\∀p∈X.pn++pins,p.1≠b):
  Inv X pins σ H' {s with heap:=h',gens:=g',drawn:=d',toks:=t'}:=by
 obtain⟨m,⟨o,es,ep,ho,r⟩,_⟩:=id I.loc;obtain⟨sl,hL⟩:=u.any ho I.free fun z=>(hch _ z).2.1 rfl
 exact I.step (ch:=ch) hch (fun b o hL hb hc e n=>u.keep b o e n (fun z=>(List.mem_cons.mp (I.stkSub b z)).elim hL hb) hc) (fun b o _ _ hc e n=>u.any e n hc) (fun b o hc e n=>u.free b o e n hc) (fun b o hc e=>u.there b o e hc) u.tups u.frzs u.tbls (fun m' hm=>by
  obtain⟨o',es',ep',ho',r'⟩:=hm;rw[ho]at ho';obtain rfl:=Option.some.inj ho';exact⟨_,es',ep',hL,r'⟩) hok hg
theorem Inv.turned {t':Nat}{it:Addr}(I:Inv X pins σ H s) (k:∀b o,b≠it->s.heap.get? b=some o->h'.get? b=some o) (hn:H it=none) (hL:it≠X.env.locals)
  (h1:it∈X.ex\/X.s₀.heap.objs.size<=it) (h2:∀x c,X.env.cells.lookup x=some c->c≠it) (h3:∀p∈X.pn++pins,p.1≠it):Inv X pins σ H {s with heap:=h',toks:=t'}:=by
 have nit:∀b u,H b=some u->b≠it:=fun b u e z=>by rw[z,hn]at e;contradiction
 refine I.step (g':=s.gens) (d':=s.drawn) (ch:=[it]) (fun b hb=>?_) (fun b o _ _ hc e _=>k b o (fun z=>hc (by simp[z])) e) (fun b o _ _ hc e _=>⟨o.slots,k b o (fun z=>hc (by simp[z])) e⟩) (fun _ _ _ _ n=>n)
  (fun b o hc e=>⟨o,k b o (fun z=>hc (by simp[z])) e⟩) (fun _ _ e=>e) (fun _ _ _ e=>e) (fun b lq ps e=>⟨#[],by rw[e];simp⟩) (fun m hm=>?_) (fun b u e=>?_) I.bare
 ·have e:b=it:=by simpa using hb
  subst e;exact⟨h1,hL,h2,h3⟩
 ·obtain⟨o,es,ep,ho,r⟩:=hm
  exact⟨o,es,ep,k _ o (Ne.symm hL) ho,r⟩
 ·refine(I.hok b u e).stay (fun c v hc q=>k c v ?_ q) (fun _ q=>q) fun _ _ q=>q
  rcases hc with z|z
  ·rw[z];exact nit b u e
  ·exact nit c _ z
theorem Inv.tok (I:Inv X pins σ H s) (t:Nat):Inv X pins σ H {s with toks:=t}:=I.un (h':=s.heap) (t':=t) Un.refl I.hok
theorem Inv.kept {t':Nat}(I:Inv X pins σ H s) (k:∀b u,s.heap.get? b=some u->h'.get? b=some u):Inv X pins σ H {s with heap:=h',toks:=t'}:=I.un (Un.kept k) (I.hok.kept k)
theorem Inv.laid {a:Addr}{o:HO}{t':Nat}(I:Inv X pins σ H s) (k:∀b u,s.heap.get? b=some u->h'.get? b=some u) (hp:s.heap.objs.size<=a) (new:ObjOk X.prog X.w (upd H a o) h' a o):
  Inv X pins σ (upd H a o) {s with heap:=h',toks:=t'}:=I.un (Un.laid k hp (I.hok.fresh hp)) (I.hok.laid k hp new)
theorem Inv.write {x e:Addr}{o:HO}{t':Nat}(I:Inv X pins σ H s) (mu:Mut (H x)) (he:e=x\/H e=some (.own x)) (k:∀b u,b≠e->s.heap.get? b=some u->h'.get? b=some u) (heo:∃u,h'.get? e=some u)
  (new:ObjOk X.prog X.w (upd H x o) h' x o):Inv X pins σ (upd H x o) {s with heap:=h',toks:=t'}:=I.un (Un.write mu he k heo) (I.hok.write mu he k heo new)
theorem Inv.pins_of {pins':List (Addr×Obj)}(I:Inv X pins σ H s) (h:∀p∈pins',s.heap.get? p.1=some p.2/\H p.1=none/\p.1≠X.env.locals/\p.1∉X.fs/\∀v,p.2.data≠.cell v):Inv X pins' σ H s:=
 ⟨I.ok,I.os,I.bare,I.base,I.loc,I.cell,I.free,I.freeC,fun p hp=>(List.mem_append.mp hp).elim (fun z=>I.pin p (List.mem_append_left _ z)) (h p),I.hok,I.len⟩
theorem mK {N:List Str}(hN:N.Nodup) {i j:Nat}{x:Str}(a:N[i]?=some x) (b:N[j]?=some x):i=j:=by
 obtain⟨h1,e1⟩:=List.getElem?_eq_some_iff.mp a
 obtain⟨h2,e2⟩:=List.getElem?_eq_some_iff.mp b
 exact(List.getElem_inj hN).mp (e1.trans e2.symm)
theorem jA {M:Model}{A:Around}{E:Value->Shared->Prop}{i:Nat}{x:Str}{v:V}{u:Value}{Q:Unit->Shared->Prop}(I:Inv X pins σ H s) (hN:X.N.Nodup) (hi:X.N[i]?=some x) (hx:Loc X.env.scope x) (r:RelV v u)
  (h:∀s',Inv X pins (σ.set i (some v)) H s'->(∃a,Heap.SameBut a s.heap s'.heap/\(a=X.env.locals\/X.env.cells.lookup x=some a))->Q () s') (hf:X.fn x=true\/X.env.scope.names.lookup x=some .local:=by first|exact .inl rfl|exact .inr rfl|assumption):wpAny M A (storeName X.env x u) Q E s:=by
 obtain⟨m,hn,hl⟩:=id I.loc;have hcls:(X.env.scope.kind==.class||(X.env.scope.kind==.module&&X.env.locals != X.env.globals))=false:=by rw[I.ok.kind];rfl
 have hiσ:i<σ.length:=by rw[I.len];exact(List.getElem?_eq_some_iff.mp hi).1
 have cne:=I.cne;have tracked:∀{a:Addr}{h':Heap},(∃o,s.heap.get? a=some o/\H a=none)->Heap.SameBut a s.heap h'->HOk X.prog X.w H h':=fun{a h'} ha hs b ob e=>by
  obtain⟨_,_,hfree⟩:=ha;refine(I.hok b ob e).stay (fun c w' hc q=>(hs.2 c ?_).trans q) (fun _ q=>q) fun _ _ q=>q
  rintro rfl
  rcases hc with rfl|hc
  ·rw[hfree]at e;contradiction
  ·rw[hfree]at hc;contradiction
 rcases hx with hk|hk
 ·refine wpAny_storeName_local hk hn (fun h' hn' hs=>?_) hcls
  obtain⟨oL,_,_,hoL,_⟩:=id hn;refine h _ ⟨I.ok,I.os,I.bare,⟨fun b o e n hb hx=>?_,fun b o e n hb hx=>?_,I.base.free,fun b o e hx=>?_,I.base.tups,I.base.frzs,I.base.tbls⟩,⟨_,hn',fun j y v' e1 e2 e3=>?_⟩,fun y c e=>?_,I.free,I.freeC,fun p hp=>?_,tracked ⟨oL,hoL,I.free⟩ hs,by simpa using I.len⟩ ⟨_,hs,.inl rfl⟩
  ·exact(hs.2 b (Nat.ne_of_lt (Nat.lt_of_lt_of_le (Heap.lt_size e) I.ok.above))).trans (I.base.keep b o e n hb hx)
  ·obtain⟨sl,e1⟩:=I.base.slot b o e n hb hx
   exact⟨sl,(hs.2 b (Nat.ne_of_lt (Nat.lt_of_lt_of_le (Heap.lt_size e) I.ok.above))).trans e1⟩
  ·obtain⟨o',e1⟩:=I.base.there b o e hx
   exact⟨o',(hs.2 b (Nat.ne_of_lt (Nat.lt_of_lt_of_le (Heap.lt_size e) I.ok.above))).trans e1⟩
  ·by_cases hj:j=i
   ·subst hj
    rw[hi]at e1;obtain rfl:=Option.some.inj e1;rw[List.getElem?_set_self hiσ]at e2
    cases e2;exact⟨u,r,.inl ⟨hk,by simp⟩⟩
   ·rw[List.getElem?_set_ne (Ne.symm hj)]at e2
    obtain⟨u',r',q⟩:=hl j y v' e1 e2 e3;refine⟨u',r',?_⟩
    rcases q with⟨k,e⟩|⟨k,c,e,z⟩
    ·refine .inl ⟨k,?_⟩
     have:y≠x:=fun e=>hj (mK hN e1 (e▸hi))
     simp[this,e]
    ·exact .inr ⟨k,c,e,z.sameBut hs (cne y c e)⟩
  ·obtain⟨w',z⟩:=I.cell y c e
   exact⟨w',z.sameBut hs (cne y c e)⟩
  ·obtain⟨e,n,ne,nf,d⟩:=I.pin p hp
   exact⟨(hs.2 p.1 ne).trans e,n,ne,nf,d⟩
 ·have hfn:X.fn x=true:=by
   rcases hf with z|z
   ·exact z
   ·rw[z]at hk;contradiction
  obtain⟨c,hc⟩:=I.ok.has x (.inl hk);obtain⟨w',z⟩:=I.cell x c hc;refine wpAny_storeName_cell I.ok.kind hk hc z (fun h' hc' hs=>?_)
  obtain⟨oc,hoc,hocd⟩:=id z;refine h {s with heap:=h'} ⟨I.ok,I.os,I.bare,⟨fun b o e n hb hx=>?_,fun b o e n hb hx=>?_,I.base.free,fun b o e hx=>?_,I.base.tups,I.base.frzs,I.base.tbls⟩,⟨m,hn.sameBut hs (Ne.symm (cne x c hc)),fun j y v' e1 e2 e3=>?_⟩,fun y c' e=>?_,I.free,I.freeC,fun p hp=>?_,tracked ⟨oc,hoc,I.freeC x c hc⟩ hs,by simpa using I.len⟩ ⟨c,hs,.inr hc⟩
  ·exact(hs.2 b (Nat.ne_of_lt (Nat.lt_of_lt_of_le (Heap.lt_size e) (I.ok.cab x c hfn hc)))).trans (I.base.keep b o e n hb hx)
  ·obtain⟨sl,e1⟩:=I.base.slot b o e n hb hx
   exact⟨sl,(hs.2 b (Nat.ne_of_lt (Nat.lt_of_lt_of_le (Heap.lt_size e) (I.ok.cab x c hfn hc)))).trans e1⟩
  ·obtain⟨o',e1⟩:=I.base.there b o e hx
   exact⟨o',(hs.2 b (Nat.ne_of_lt (Nat.lt_of_lt_of_le (Heap.lt_size e) (I.ok.cab x c hfn hc)))).trans e1⟩
  ·by_cases hj:j=i
   ·subst hj
    rw[hi]at e1;obtain rfl:=Option.some.inj e1;rw[List.getElem?_set_self hiσ]at e2
    cases e2;exact⟨u,r,.inr ⟨.inl hk,c,hc,hc'⟩⟩
   ·rw[List.getElem?_set_ne (Ne.symm hj)]at e2
    obtain⟨u',r',q⟩:=hl j y v' e1 e2 e3;refine⟨u',r',?_⟩
    rcases q with q|⟨k,c',e,z'⟩
    ·exact .inl q
    ·refine .inr ⟨k,c',e,z'.sameBut hs ?_⟩
     rintro rfl
     exact hj (mK hN e1 (I.ok.inj _ _ _ e hc▸hi))
  ·by_cases hcc:c'=c
   ·subst hcc;exact⟨_,hc'⟩
   ·obtain⟨w2,z2⟩:=I.cell y c' e
    exact⟨w2,z2.sameBut hs hcc⟩
  ·obtain⟨e,n,ne,nf,d⟩:=I.pin p hp
   refine⟨(hs.2 p.1 ?_).trans e,n,ne,nf,d⟩
   intro q;rw[q,hoc]at e;have q':oc=p.2:=Option.some.inj e;exact d w' (by rw[<-q'];exact hocd)
theorem lS {M:Model}{A:Around}{E:Value->Shared->Prop}{i:Nat}{x:Str}{v:V}{u:Value}{Q:Unit->Shared->Prop}(I:Inv X pins σ H s) (hN:X.N.Nodup) (hi:X.N[i]?=some x) (hx:Loc X.env.scope x) (r:RelV v u)
  (h:∀s',Inv X pins (σ.set i (some v)) H s'->Q () s') (hf:X.fn x=true\/X.env.scope.names.lookup x=some .local:=by first|exact .inl rfl|exact .inr rfl|assumption):wpAny M A (storeName X.env x u) Q E s:=
 jA I hN hi hx r (fun s' I' _=>h s' I') hf
theorem Inv.call' {s':Shared}{ch:List Addr}(I:Inv X pins σ H s) (ho:s'.os=s.os) (u:Un (frs X.stack) ch H H' s.heap s'.heap) (hok:HOk X.prog X.w H' s'.heap) (hg:AllBare s'.gens)
  (hch:∀b∈ch,(b∈X.ex\/X.s₀.heap.objs.size<=b)/\b≠X.env.locals/\(∀x c,X.env.cells.lookup x=some c->c≠b)/\∀p∈X.pn++pins,p.1≠b):Inv X pins σ H' s':=by
 obtain⟨h',g',d',t',o'⟩:=s';have e:o'=s.os:=ho;subst e;exact I.call (g':=g') (t':=t') (d':=d') u hok hg hch
end
noncomputable abbrev XK:=Value->Option Addr->Hp->Prop
noncomputable abbrev St:=List (Option V)
noncomputable abbrev VK:=V->Hp->Prop
noncomputable abbrev TE:=St->Hp->VK->Prop
noncomputable abbrev TT:=St->Hp->(Bool->Hp->Prop)->Prop
noncomputable abbrev TA:=St->Hp->(List V->Hp->Prop)->Prop
structure Ends where
 nx:St->Hp->Prop
 rt:VK
 bk:St->Hp->Prop:=fun _ _=>False
 ct:St->Hp->Prop:=fun _ _=>False
noncomputable abbrev TS:=Ends->St->Hp->Prop
inductive EP (X:Cx) (pins:List (Addr×Obj)) (σ:St) (Q:VK) (u:Value) (s':Shared) :Prop
 |mk (v:V) (H':Hp) (a_:Inv X pins σ H' s') (b_:RelV v u) (c_:Q v H'):EP X pins σ Q u s'
inductive TP (X:Cx) (pins:List (Addr×Obj)) (σ:St) (Q:Bool->Hp->Prop) (b:Bool) (s':Shared) :Prop
 |mk (H':Hp) (a_:Inv X pins σ H' s') (b_:Q b H'):TP X pins σ Q b s'
inductive AP (X:Cx) (pins:List (Addr×Obj)) (σ:St) (Q:List V->Hp->Prop) (us:List Value) (s':Shared) :Prop
 |mk (vs:List V) (H':Hp) (a_:Inv X pins σ H' s') (b_:Vals vs us) (c_:Q vs H'):AP X pins σ Q us s'
noncomputable def SP (X:Cx) (pins:List (Addr×Obj)) (D:Ends) (f:Flow) (s':Shared):Prop:=
 match f with
 |.next=>∃σ' H',Inv X pins σ' H' s'/\D.nx σ' H'
 |.brk=>∃σ' H',Inv X pins σ' H' s'/\D.bk σ' H'
 |.cont=>∃σ' H',Inv X pins σ' H' s'/\D.ct σ' H'
 |.ret u=>∃v σ' H',Inv X pins σ' H' s'/\RelV v u/\D.rt v H'
noncomputable def PE (X:Cx) (e:Expr) (t:TE):Prop:=
 ∀(pins:List (Addr×Obj)) (s:Shared) (σ:St) (H:Hp) (Q:VK),Inv X pins σ H s->t σ H Q->wpAny (model X.prog X.w) X.A (eval e X.env) (EP X pins σ Q) X.xe s
noncomputable def PT (X:Cx) (e:Expr) (t:TT):Prop:=
 ∀(pins:List (Addr×Obj)) (s:Shared) (σ:St) (H:Hp) (Q:Bool->Hp->Prop),Inv X pins σ H s->t σ H Q->wpAny (model X.prog X.w) X.A (isTrue e X.env (eval e X.env)) (TP X pins σ Q) X.xe s
noncomputable def PW (X:Cx) (e:Expr) (t:TT):Prop:=
 ∀(whole:Sem Value) (pins:List (Addr×Obj)) (s:Shared) (σ:St) (H:Hp) (Q:Bool->Hp->Prop),Inv X pins σ H s->t σ H Q->wpAny (model X.prog X.w) X.A (isTrue e X.env whole) (TP X pins σ Q) X.xe s
theorem PW.pt {X:Cx}{e:Expr}{t:TT}(h:PW X e t):PT X e t:=h _
noncomputable def PA (X:Cx) (es:List Expr) (t:TA):Prop:=
 ∀(pos:Pos) (pins:List (Addr×Obj)) (s:Shared) (σ:St) (H:Hp) (Q:List V->Hp->Prop),Inv X pins σ H s->t σ H Q->wpAny (model X.prog X.w) X.A (spliced (backTo pos (starEach es X.env))) (AP X pins σ Q) X.xe s
noncomputable def PS (X:Cx) (st:Stmt) (t:TS):Prop:=
 ∀(pins:List (Addr×Obj)) (s:Shared) (σ:St) (H:Hp) (D:Ends),Inv X pins σ H s->t D σ H->wpAny (model X.prog X.w) X.A (exec st X.env) (SP X pins D) X.xe s
noncomputable def PSs (X:Cx) (st:List Stmt) (t:TS):Prop:=
 ∀(pins:List (Addr×Obj)) (s:Shared) (σ:St) (H:Hp) (D:Ends),Inv X pins σ H s->t D σ H->wpAny (model X.prog X.w) X.A (execs st X.env) (SP X pins D) X.xe s
theorem thn {α:Type}{t:Sem α}{Q Q':α->Shared->Prop}{M:Model}{A:Around}{E:Value->Shared->Prop}{s:Shared}(h:wpAny M A t Q E s) (hQ:∀a s,Q a s->Q' a s):wpAny M A t Q' E s:=wpAny_mono h hQ fun _ _ x=>x
end
end L2
namespace L2
open PySem PySem.Spec PyProof.Rows
variable[Lams]
section
variable{X:Cx}
noncomputable def zI (i:Nat):TE:=fun σ H Q=>∃v,σ[i]?=some (some v)/\Q v H
noncomputable def tC (v:V):TE:=fun _ H Q=>Q v H
theorem aL {i:Nat}{x:Str}{pos:Pos}(hN:X.N[i]?=some x) (hv:Vis X.env.scope x) (hd:(x==("__debug__":Str))=false:=by decide) (hcd:(x==("__classdict__":Str))=false:=by decide):PE X (.Name x pos) (zI i):=by
 intro pins s σ H Q I h;obtain⟨v,e,h⟩:=h;obtain⟨m,hn,hl⟩:=I.loc;obtain⟨u,r,l⟩:=hl i x v hN e hv;have fin:EP X pins σ Q u s:=⟨v,H,I,r,h⟩
 rcases l with⟨hk,hm⟩|⟨hk,c,hc,hcell⟩
 ·exact wpAny_Name (wpAny_loadName_local I.ok.kind hk hn hm fin) hd
 ·rcases hk with hk|hk
  ·exact wpAny_Name (wpAny_loadName_cell I.ok.kind hk hc hcell fin) hd
  ·exact wpAny_Name (wpAny_loadName_free I.ok.kind hk hc hcell fin hcd) hd
theorem xB {i j pos}:PE X (.Constant (.int i) j pos) (tC (.int i)):=fun _ _ _ H _ I h=>wpAny_Constant_int ⟨.int i,H,I.tok _,⟨_,rfl⟩,h⟩
theorem AV {b j pos}:PE X (.Constant (.bool b) j pos) (tC (.bl b)):=fun _ _ _ H _ I h=>Constant_bool ⟨.bl b,H,I,rfl,h⟩
theorem xo {j pos}:PE X (.Constant .none j pos) (tC .non):=fun _ _ _ H _ I h=>Constant_none ⟨.non,H,I,rfl,h⟩
theorem yh {x j pos}:PE X (.Constant (.str x) j pos) (tC (.str x)):=fun _ _ _ H _ I h=>Calls.Constant_str ⟨.str x,H,I.tok _,⟨_,rfl⟩,h⟩
noncomputable def Gl (X:Cx) (x:Str):Prop:=X.env.kindOf x=some .globalImplicit
theorem wT {E:Value->Shared->Prop}{pins:List (Addr×Obj)}{s:Shared}{σ:St}{H:Hp}{x:Str}{u:Value}{pos:Pos}{Q:Value->Shared->Prop}(I:Inv X pins σ H s) (hg:Gl X x) (hm:X.mg x=some u) (h:Q u s)
  (hd:(x==("__debug__":Str))=false:=by decide):wpAny (model X.prog X.w) X.A (eval (.Name x pos) X.env) Q E s:=
 Calls.Name_function_global I.ok.kind hg (Calls.loadGlobal_global (by rw[I.ok.glob];exact I.mod.glob.keeps I.bk) hm h) hd
theorem gR {E:Value->Shared->Prop}{pins:List (Addr×Obj)}{s:Shared}{σ:St}{H:Hp}{x:Str}{u:Value}{pos:Pos}{Q:Value->Shared->Prop}(I:Inv X pins σ H s) (hg:Gl X x) (hm:X.mg x=none) (hv:bootBuiltins x=some u) (h:Q u s)
  (hn:x≠"__name__":=by decide) (hd:(x==("__debug__":Str))=false:=by decide):wpAny (model X.prog X.w) X.A (eval (.Name x pos) X.env) Q E s:=by
 obtain⟨mb,h1,h2⟩:=I.mod.blt;exact Calls.Name_function_global I.ok.kind hg (Calls.loadGlobal_builtin (by rw[I.ok.glob];exact I.mod.glob.keeps I.bk) hm (by rw[I.ok.blt];exact h1.keeps I.bk) ((h2 x hn).trans hv) h) hd
theorem v7 {x:Str}{v:V}{u:Value}{pos:Pos}(hg:Gl X x) (hm:X.mg x=none) (hv:bootBuiltins x=some u) (r:RelV v u) (hn:x≠"__name__":=by decide) (hd:(x==("__debug__":Str))=false:=by decide):PE X (.Name x pos) (tC v):=
 fun _ _ _ H _ I h=>gR I hg hm hv ⟨v,H,I,r,h⟩ hn hd
variable{a b:Expr}{ta tb:TE}{pos:Pos}
noncomputable def PC (X:Cx) (op:CmpOp) (a b:Expr) (t:TE):Prop:=
 ∀(pins:List (Addr×Obj)) (s:Shared) (σ:St) (H:Hp) (Q:VK),Inv X pins σ H s->t σ H Q->
  wpAny (model X.prog X.w) X.A (eval a X.env) (fun v s₁=>wpAny (model X.prog X.w) X.A (eval b X.env) (fun u s₂=>wpAny (model X.prog X.w) X.A (compareOp op v u) (EP X pins σ Q) X.xe s₂) X.xe s₁) X.xe s
theorem sf (b:Expr) {op:CmpOp}(h:op≠.In) (h2:op≠.NotIn):behindInMarks op b=false:=by
 have e1:(op==CmpOp.In)=false:=by cases op<;>first|rfl|exact absurd rfl h
 have e2:(op==CmpOp.NotIn)=false:=by cases op<;>first|rfl|exact absurd rfl h2
 cases b<;>simp[behindInMarks,e1,e2]
noncomputable def tB (t:TE):TT:=fun σ H Q=>t σ H fun x H1=>∃c,x=.bl c/\Q c H1
theorem A7 {op:CmpOp}{t:TE}(h:PC X op a b t) (h1:behindInMarks op b=false:=by first|exact sf _ (by decide) (by decide)|rfl):PT X (.Compare a [op] [b] pos) (tB t):=by
 intro pins s σ H Q I hw;refine wpAny_isTrue_Compare1 (thn (h pins s σ H _ I hw) fun v s1 h1=>thn h1 fun u s2 h2=>thn h2 fun c s3 ⟨x,H1,I1,r1,q1⟩=>?_) h1
 obtain⟨d,rfl,q⟩:=q1;cases r1;exact wpAny_truthy_bool ⟨H1,I1,q⟩
theorem yQ {e:Expr}{t:TE}(h:PE X e t) (he:∀whole,isTrue e X.env whole=(do let v <-whole;standAt e.pos;holding [v] (truthy v)):=by intro _;rfl):PT X e (tB t):=by
 intro pins s σ H Q I hw;refine isTrue_plain (thn (h pins s σ H _ I hw) fun v s1 ⟨x,H1,I1,r1,q1⟩=>?_) (he _)
 obtain⟨d,rfl,q⟩:=q1;cases r1;exact wpAny_truthy_bool ⟨H1,I1,q⟩
variable{tA tB':TT}{bC:List Expr}
noncomputable def BX (t u:TT):TT:=fun σ H Q=>t σ H fun c H1=>if c=true then u σ H1 Q else Q false H1
noncomputable def tOr (t u:TT):TT:=fun σ H Q=>t σ H fun c H1=>if c=true then Q true H1 else u σ H1 Q
noncomputable def BZ (t:TT):TT:=fun σ H Q=>t σ H fun c H1=>Q (!c) H1
theorem vV (ha:PT X a tA):PW X (.BoolOp .And [a] pos) tA:=by
 intro wh pins s σ H Q I h;refine isTrue_and (thn (ha pins s σ H Q I h) fun c s1 e=>?_)
 cases c with
 |true=>exact isTrue_and_nil e
 |false=>exact e
theorem yB (ha:PT X a tA):PW X (.BoolOp .Or [a] pos) tA:=by
 intro wh pins s σ H Q I h;refine isTrue_or (thn (ha pins s σ H Q I h) fun c s1 e=>?_)
 cases c with
 |false=>exact isTrue_or_nil e
 |true=>exact e
theorem xN (ha:PT X a tA) (hb:PW X (.BoolOp .And (b::bC) pos) tB'):PW X (.BoolOp .And (a::b::bC) pos) (BX tA tB'):=by
 intro wh pins s σ H Q I h;refine isTrue_and (thn (ha pins s σ H _ I h) fun c s1 hz=>?_)
 obtain⟨H1,I1,q1⟩:=hz;cases c with
 |true=>exact hb wh pins s1 σ H1 Q I1 q1
 |false=>exact⟨H1,I1,q1⟩
theorem AL (ha:PT X a tA) (hb:PW X (.BoolOp .Or (b::bC) pos) tB'):PW X (.BoolOp .Or (a::b::bC) pos) (tOr tA tB'):=by
 intro wh pins s σ H Q I h;refine isTrue_or (thn (ha pins s σ H _ I h) fun c s1 hz=>?_)
 obtain⟨H1,I1,q1⟩:=hz;cases c with
 |true=>exact⟨H1,I1,q1⟩
 |false=>exact hb wh pins s1 σ H1 Q I1 q1
theorem xA (ha:PT X a tA):PT X (.UnaryOp .Not a pos) (BZ tA):=by
 intro pins s σ H Q I h;exact isTrue_not (thn (ha pins s σ H (fun c H1=>Q (!c) H1) I h) fun c s1 ⟨H1,I1,q1⟩=>⟨H1,I1,q1⟩)
noncomputable def zS (ta tb:TE):TE:=fun σ H Q=>ta σ H fun x H1=>∃c,x=.bl c/\if c=true then tb σ H1 Q else Q (.bl false) H1
noncomputable def B7 (ta tb:TE):TE:=fun σ H Q=>ta σ H fun x H1=>∃c,x=.bl c/\if c=true then Q (.bl true) H1 else tb σ H1 Q
noncomputable def AK (ta:TE):TE:=fun σ H Q=>ta σ H fun x H1=>∃c,x=.bl c/\Q (.bl (!c)) H1
theorem zb {op} {t:TE}(h:PE X a t):PE X (.BoolOp op [a] pos) t:=fun pins s σ H Q I hw=>BoolOp_one (h pins s σ H Q I hw)
theorem xY (ha:PE X a ta) (hb:PE X (.BoolOp .And (b::bC) pos) tb):PE X (.BoolOp .And (a::b::bC) pos) (zS ta tb):=by
 intro pins s σ H Q I h;refine BoolOp_and (thn (ha pins s σ H _ I h) fun v s1 hz=>?_)
 obtain⟨x,H1,I1,r1,q1⟩:=hz;obtain⟨c,rfl,q1⟩:=q1;cases r1;refine wpAny_truthy_bool ?_
 cases c with
 |true=>exact hb pins s1 σ H1 Q I1 q1
 |false=>exact⟨.bl false,H1,I1,rfl,q1⟩
theorem AN (ha:PE X a ta) (hb:PE X (.BoolOp .Or (b::bC) pos) tb):PE X (.BoolOp .Or (a::b::bC) pos) (B7 ta tb):=by
 intro pins s σ H Q I h;refine BoolOp_or (thn (ha pins s σ H _ I h) fun v s1 hz=>?_)
 obtain⟨x,H1,I1,r1,q1⟩:=hz;obtain⟨c,rfl,q1⟩:=q1;cases r1;refine wpAny_truthy_bool ?_
 cases c with
 |false=>exact hb pins s1 σ H1 Q I1 q1
 |true=>exact⟨.bl true,H1,I1,rfl,q1⟩
theorem zv (ha:PE X a ta):PE X (.UnaryOp .Not a pos) (AK ta):=by
 intro pins s σ H Q I h;refine UnaryOp_ (thn (ha pins s σ H _ I h) fun v s1 hz=>?_)
 obtain⟨x,H1,I1,r1,q1⟩:=hz;obtain⟨c,rfl,q1⟩:=q1;cases r1;exact not_of (wpAny_truthy_bool ⟨.bl (!c),H1,I1,rfl,q1⟩)
end
noncomputable def SqL (K:PySem.W.Frag) (H:Hp) (a:Addr) (xs:List V):Prop:=
 Rd H a (.lst xs)\/
  ∃(o:Obj) (its:Array Value) (n:Nat),K.lookup a=some o/\o.cls=.type "list"/\o.dict=none/\o.data=.seq its n/\its.size<=sizeLine/\Vals xs its.toList
noncomputable def SqT (K:PySem.W.Frag) (H:Hp) (a:Addr) (xs:List V):Prop:=
 Rd H a (.tup xs)\/
  ∃(o:Obj) (its:Array Value) (n:Nat),K.lookup a=some o/\o.cls=.type "tuple"/\o.data=.seq its n/\its.size<=sizeLine/\Vals xs its.toList
noncomputable def BS:Value->Option V
 |.none=>some .non
 |.bool b=>some (.bl b)
 |.int i _=>some (.int i)
 |.str x _=>some (.str x)
 |.bytes b _=>some (.byt b)
 |.float b _=>some (.flt b)
 |.ref a=>some (.ref a)
 |.type n=>some (.ty n)
 |_=>none
theorem RelV.abs {x:V}{u:Value}(r:RelV x u):BS u=some x:=by
 cases x with
 |non=>cases r;rfl
 |bl _=>cases r;rfl
 |int _=>obtain⟨t,rfl⟩:=r;rfl
 |str _=>obtain⟨t,rfl⟩:=r;rfl
 |byt _=>obtain⟨t,rfl⟩:=r;rfl
 |flt _=>obtain⟨t,rfl⟩:=r;rfl
 |ref _=>cases r;rfl
 |ty _=>cases r;rfl
theorem RelV.inj {x y:V}{u:Value}(r:RelV x u) (q:RelV y u):x=y:=Option.some.inj (r.abs.symm.trans q.abs)
theorem Vals.inj:∀{xs ys:List V}{us:List Value},Vals xs us->Vals ys us->xs=ys
 |_,_,_,.nil,.nil=>rfl
 |_,_,_,.cons r t,.cons r' t'=>by rw[r.inj r',Vals.inj t t']
section
variable{X:Cx}{pins:List (Addr×Obj)}{σ:St}{H:Hp}{s:Shared}{a:Addr}{xs ys:List V}
theorem SqL.of {K:PySem.W.Frag}(h:H a=some (.lst xs)):SqL K H a xs:=.inl (.inl h)
theorem SqT.of {K:PySem.W.Frag}(h:H a=some (.tup xs)):SqT K H a xs:=.inl (.inl h)
theorem Inv.list (I:Inv X pins σ H s) (h:SqL X.K H a xs):∃its:List Value,Vals xs its/\PlainL s.heap a its.toArray/\xs.length<=sizeLine:=by
 rcases h with h|⟨o,its,n,hk,hc,hd,hs,hz,r⟩
 ·obtain⟨z,its,n,r,e⟩:=h.ok I.hok
  exact⟨its,r,⟨_,n,e,rfl,rfl,rfl⟩,z⟩
 ·refine⟨its.toList,r,⟨o,n,I.kIn a o hk,hc,hd,by simpa using hs⟩,?_⟩
  have e:=r.length;simp only[Array.length_toList]at e
  lia
theorem Inv.tuple (I:Inv X pins σ H s) (h:SqT X.K H a xs):∃its:List Value,Vals xs its/\IsTup s.heap a its.toArray/\xs.length<=sizeLine:=by
 rcases h with h|⟨o,its,n,hk,hc,hs,hz,r⟩
 ·obtain⟨z,its,r,p⟩:=h.ok I.hok
  exact⟨its,r,p,z⟩
 ·refine⟨its.toList,r,⟨o,I.kIn a o hk,hc,n,by simpa using hs⟩,?_⟩
  have e:=r.length;simp only[Array.length_toList]at e
  lia
theorem Inv.list_inj (I:Inv X pins σ H s) (h:SqL X.K H a xs) (h':SqL X.K H a ys):xs=ys:=by
 obtain⟨its,r,⟨o,n,e,_,_,d⟩,_⟩:=I.list h;obtain⟨its',r',⟨o',n',e',_,_,d'⟩,_⟩:=I.list h';rw[e]at e';obtain rfl:=Option.some.inj e';rw[d]at d';injection d' with d1 _
 have:its=its':=by simpa using congrArg Array.toList d1
 subst this;exact r.inj r'
theorem Inv.tuple_inj (I:Inv X pins σ H s) (h:SqT X.K H a xs) (h':SqT X.K H a ys):xs=ys:=by
 obtain⟨its,r,⟨o,e,_,n,d⟩,_⟩:=I.tuple h;obtain⟨its',r',⟨o',e',_,n',d'⟩,_⟩:=I.tuple h';rw[e]at e';obtain rfl:=Option.some.inj e';rw[d]at d';injection d' with d1 _
 have:its=its':=by simpa using congrArg Array.toList d1
 subst this;exact r.inj r'
end
noncomputable abbrev Cx.wish (X:Cx) (E:Value->Shared->Prop):Cx:={X with xe:=E}
noncomputable abbrev Cx.nox (X:Cx):Cx:=X.wish fun _ _=>False
theorem Cx.Ok.wish {X:Cx}(ok:X.Ok) (E:Value->Shared->Prop):(X.wish E).Ok:=
 ⟨ok.mod,ok.kind,ok.glob,ok.blt,ok.above,ok.inj,ok.has,ok.cab,ok.hd,ok.frames,ok.stk,ok.exf,ok.bs,ok.bsz,ok.noex,ok.exfs,ok.funs,ok.frf,ok.tabs⟩
theorem Cx.Ok.unwish {X:Cx}{E:Value->Shared->Prop}(ok:(X.wish E).Ok):X.Ok:=
 ⟨ok.mod,ok.kind,ok.glob,ok.blt,ok.above,ok.inj,ok.has,ok.cab,ok.hd,ok.frames,ok.stk,ok.exf,ok.bs,ok.bsz,ok.noex,ok.exfs,ok.funs,ok.frf,ok.tabs⟩
section
variable{X:Cx}{pins:List (Addr×Obj)}{σ:St}{H:Hp}{s:Shared}{E:Value->Shared->Prop}
theorem Inv.wish (I:Inv X pins σ H s) (E:Value->Shared->Prop):Inv (X.wish E) pins σ H s:=⟨I.ok.wish E,I.os,I.bare,I.base,I.loc,I.cell,I.free,I.freeC,I.pin,I.hok,I.len⟩
theorem Inv.unwish (I:Inv (X.wish E) pins σ H s):Inv X pins σ H s:=⟨I.ok.unwish,I.os,I.bare,I.base,I.loc,I.cell,I.free,I.freeC,I.pin,I.hok,I.len⟩
theorem SP.unwish {D:Ends}{f:Flow}{s':Shared}(h:SP (X.wish E) pins D f s'):SP X pins D f s':=by
 cases f with
 |next=>obtain⟨σ',H',I,q⟩:=h;exact⟨σ',H',I.unwish,q⟩
 |brk=>obtain⟨σ',H',I,q⟩:=h;exact⟨σ',H',I.unwish,q⟩
 |cont=>obtain⟨σ',H',I,q⟩:=h;exact⟨σ',H',I.unwish,q⟩
 |ret u=>obtain⟨v,σ',H',I,r,q⟩:=h;exact⟨v,σ',H',I.unwish,r,q⟩
theorem PSs.nox {st:List Stmt}{t:TS}(h:PSs X.nox st t):PSs X st t:=fun pins s σ H D I hw=>
 wpAny_mono (h pins s σ H D (I.wish _) hw) (fun _ _ q=>q.unwish) fun _ _ z=>False.elim z
end
section
variable{X:Cx}{st:Stmt}{bC:List Stmt}{t u:TS}{e:Expr}{te:TE}{pos:Pos}
noncomputable def tNext:TS:=fun D σ H=>D.nx σ H
noncomputable def BY (t u:TS):TS:=fun D σ H=>t {D with nx:=u D} σ H
theorem i7:PSs X [] tNext:=fun _ _ σ H _ I h=>wpAny_execs_nil ⟨σ,H,I,h⟩
theorem aZ (h1:PS X st t) (h2:PSs X bC u):PSs X (st::bC) (BY t u):=by
 intro pins s σ H D I h;refine wpAny_execs_cons (thn (h1 pins s σ H {D with nx:=u D} I h) fun f s1 q=>?_)
 cases f with
 |next=>
  obtain⟨σ',H',I',q⟩:=q;exact h2 pins s1 σ' H' D I' q
 |ret v=>exact q
 |brk=>exact q
 |cont=>exact q
theorem dv (h1:PS X st t):PSs X [st] t:=by
 intro pins s σ H D I h;refine wpAny_execs_cons (thn (h1 pins s σ H D I h) fun f s1 q=>?_)
 cases f with
 |next=>exact wpAny_execs_nil q
 |ret v=>exact q
 |brk=>exact q
 |cont=>exact q
noncomputable def tCont:TS:=fun D σ H=>D.ct σ H
theorem lL:PS X (.Continue pos) tCont:=fun _ _ σ H _ I h=>wpAny_Continue ⟨σ,H,I,h⟩
theorem Inv.quiet {pins:List (Addr×Obj)}{σ:St}{H:Hp}{s:Shared}(I:Inv X pins σ H s):interactive X.env=false:=by simp[interactive,I.ok.kind]
noncomputable def AD (te:TE):TS:=fun D σ H=>te σ H fun _ H1=>D.nx σ H1
theorem dz (he:PE X e te) (hs:swapsWith e none pos.line X.env=pure false:=by rfl):PS X (.Expr e pos) (AD te):=by
 intro pins s σ H D I h;exact wpAny_Expr_any (thn (he pins s σ H _ I h) fun v s1 hz=>by obtain⟨x,H1,I1,r1,q1⟩:=hz;exact⟨σ,H1,I1,q1⟩) I.quiet hs
noncomputable def AZ (te:TE):TS:=fun D σ H=>te σ H D.rt
theorem fC (he:PE X e te):PS X (.Return (some e) pos) (AZ te):=by
 intro pins s σ H D I h;exact wpAny_Return_some (thn (he pins s σ H _ I h) fun v s1 hz=>by obtain⟨x,H1,I1,r1,q1⟩:=hz;exact⟨x,σ,H1,I1,r1,q1⟩)
noncomputable def A0 (c:TT) (t u:TS):TS:=fun D σ H=>c σ H fun b H1=>if b=true then t D σ H1 else u D σ H1
theorem nY {c:Expr}{a b:List Stmt}{tc:TT}(hc:PT X c tc) (ha:PSs X a t) (hb:PSs X b u):PS X (.If c a b pos) (A0 tc t u):=by
 intro pins s σ H D I h;refine wpAny_If (thn (hc pins s σ H _ I h) fun d s1 hz=>?_)
 obtain⟨H1,I1,q1⟩:=hz;cases d with
 |true=>exact ha pins s1 σ H1 D I1 q1
 |false=>exact hb pins s1 σ H1 D I1 q1
end
noncomputable abbrev TG:=V->St->Hp->(St->Hp->Prop)->Prop
noncomputable abbrev TGs:=List V->St->Hp->(St->Hp->Prop)->Prop
noncomputable def PG (X:Cx) (target:Expr) (t:TG):Prop:=
 ∀(pins:List (Addr×Obj)) (s:Shared) (σ:St) (H:Hp) (v:V) (u:Value) (Q:St->Hp->Prop),Inv X pins σ H s->RelV v u->t v σ H Q->
  wpAny (model X.prog X.w) X.A (assign target X.env u) (fun _ s'=>∃σ' H',Inv X pins σ' H' s'/\Q σ' H') X.xe s
noncomputable def PGs (X:Cx) (ts:List Expr) (t:TGs):Prop:=
 ∀(pins:List (Addr×Obj)) (s:Shared) (σ:St) (H:Hp) (vs:List V) (us:List Value) (Q:St->Hp->Prop),Inv X pins σ H s->Vals vs us->t vs σ H Q->
  wpAny (model X.prog X.w) X.A (assignInOrder ((assignEach ts X.env).map (·.2)) us) (fun _ s'=>∃σ' H',Inv X pins σ' H' s'/\Q σ' H') X.xe s
section
variable{X:Cx}{pos:Pos}
noncomputable def iQ (i:Nat):TG:=fun v σ H Q=>Q (σ.set i (some v)) H
theorem eG {i:Nat}{x:Str}(hN:X.N.Nodup) (hi:X.N[i]?=some x) (hx:Loc X.env.scope x) (hf:X.fn x=true\/X.env.scope.names.lookup x=some .local:=by first|exact .inl rfl|exact .inr rfl|assumption):PG X (.Name x pos) (iQ i):=by
 intro pins s σ H v u Q I r h;exact wpAny_assign_Name (lS I hN hi hx r (fun s' I'=>⟨_,H,I',h⟩) hf)
noncomputable def gNil:TGs:=fun vs σ H Q=>vs=[]/\Q σ H
noncomputable def AM (t:TG) (u:TGs):TGs:=fun vs σ H Q=>∃v r,vs=v::r/\t v σ H fun σ' H'=>u r σ' H' Q
theorem ql:PGs X [] gNil:=by
 intro pins s σ H vs us Q I r h;obtain⟨e,h⟩:=h;subst e;cases r;exact assignInOrder_nil ⟨σ,H,I,h⟩
theorem ix {e:Expr}{es:List Expr}{t:TG}{u:TGs}(h1:PG X e t) (h2:PGs X es u)
  (hs:(assignEach (e::es) X.env).map (·.2)=assign e X.env::(assignEach es X.env).map (·.2):=by rfl):PGs X (e::es) (AM t u):=by
 intro pins s σ H vs us Q I r h;obtain⟨v,vr,e1,h⟩:=h;subst e1;cases r with
 |cons r rr=>
  rw[hs];refine assignInOrder_cons (thn (h1 pins s σ H _ _ _ I r h) fun _ s1 hz=>?_)
  obtain⟨σ1,H1,I1,q1⟩:=hz;exact h2 pins s1 σ1 H1 _ _ Q I1 rr q1
noncomputable def BH (K:PySem.W.Frag) (n:Nat) (t:TGs):TG:=fun v σ H Q=>∃a xs,v=.ref a/\SqT K H a xs/\xs.length=n/\t xs σ H Q
theorem uf {es:List Expr}{k:Nat}{t:TGs}{n:Nat}(hc:X.calm=true) (h:PGs X es t)
  (hn:(assignEach es X.env).length=n:=by rfl) (hst:(assignEach es X.env).findIdx? (·.1)=none:=by rfl):PG X (.Tuple es k pos) (BH X.K n t):=by
 intro pins s σ H v u Q I r hw;obtain⟨a,xs,e1,hq,hl,hw⟩:=hw;subst e1;cases r;obtain⟨its,rv,ht,hz⟩:=I.tuple hq;refine assign_Tuple_tuple (I.ok.hd hc) ht (by simp[hn,<-hl,rv.length]) hst fun h' hx=>?_
 have I1:Inv X pins σ H {s with heap:=h'}:=I.kept (t':=s.toks) fun b o e=>hx b o (Nat.ne_of_lt (Heap.lt_size e)) e
 exact h pins _ σ H xs _ Q I1 (by simpa using rv) hw
noncomputable def zN (te:TE) (g:TG):TS:=fun D σ H=>te σ H fun x H1=>g x σ H1 D.nx
theorem cV {i:Nat}{x:Str}{e:Expr}{te:TE}{pos':Pos}(hN:X.N.Nodup) (hi:X.N[i]?=some x) (hx:Loc X.env.scope x) (he:PE X e te) (hs:swapsWith e (some (.Name x pos')) pos.line X.env=pure false:=by rfl) (hf:X.fn x=true\/X.env.scope.names.lookup x=some .local:=by first|exact .inl rfl|exact .inr rfl|assumption):
  PS X (.Assign [.Name x pos'] e pos) (zN te (iQ i)):=by
 intro pins s σ H D I h;refine wpAny_Assign_Name (thn (he pins s σ H _ I h) fun v s1 ⟨y,H1,I1,r1,q1⟩=>?_) hs
 exact lS I1 hN hi hx r1 (fun s2 I2=>⟨_,H1,I2,q1⟩) hf
end
section
variable{X:Cx}{pos:Pos}
noncomputable def xR (c:TT) (tb:TS):TS:=fun D σ H=>∃W:Nat->St->Hp->Prop,(∃m,W m σ H)/\∀m σ H,W m σ H->
 c σ H fun b H1=>if b=true then ∃N:St->Hp->Prop,(∀σ' H',N σ' H'->∃m',m'<m/\W m' σ' H')/\tb {D with nx:=N,ct:=N,bk:=D.nx} σ H1 else D.nx σ H1
theorem m6 {c:Expr}{body:List Stmt}{tc:TT}{tb:TS}(hp:PassesOwn (model X.prog X.w) X.A X.env X.xe) (hc:PT X c tc) (hb:PSs X body tb):PS X (.While c body [] pos) (xR tc tb):=by
 intro pins s σ H D I h;obtain⟨W,⟨m0,w0⟩,turn⟩:=h;refine wpAny_While (codeAny_whileLoop (fun n s'=>∃σ' H',Inv X pins σ' H' s'/\W n σ' H') ?_ m0 ⟨σ,H,I,w0⟩)
 rintro n s1 ⟨σ1,H1,I1,w1⟩
 refine wpAny_passesOwn hp (thn (hc pins s1 σ1 H1 _ I1 (turn n σ1 H1 w1)) fun b s2 hz=>?_)
 obtain⟨H2,I2,q2⟩:=hz;cases b with
 |true=>
  obtain⟨N,hN,q2⟩:=q2;rw[if_pos rfl];refine wpAny_passesOwn hp (thn (hb pins s2 σ1 H2 _ I2 q2) fun f s3 q3=>?_)
  cases f with
  |next=>
   obtain⟨σ3,H3,I3,n3⟩:=q3;obtain⟨m',hm,w3⟩:=hN σ3 H3 n3;exact⟨m',hm,σ3,H3,I3,w3⟩
  |cont=>
   obtain⟨σ3,H3,I3,n3⟩:=q3;obtain⟨m',hm,w3⟩:=hN σ3 H3 n3;exact⟨m',hm,σ3,H3,I3,w3⟩
  |brk=>exact q3
  |ret v=>exact q3
 |false=>
  rw[if_neg Bool.false_ne_true];exact wpAny_execs_nil ⟨σ1,H2,I2,q2⟩
end
structure It where
 go:Nat->Hp->Prop
 yld:Nat->Hp->V->Hp->Prop
 stop:Nat->Hp->Prop
noncomputable def kF (X:Cx) (pins:List (Addr×Obj)) (H:Hp) (b:Addr):Prop:=
 H b=none/\b≠X.env.locals/\b∉X.fs/\(b∈X.ex\/X.s₀.heap.objs.size<=b)/\(∀x c,X.env.cells.lookup x=some c->c≠b)/\∀p∈X.pn++pins,p.1≠b
theorem Inv.fpOk {X:Cx}{pins:List (Addr×Obj)}{σ:St}{H H':Hp}{s:Shared}{b:Addr}(I:Inv X pins σ H s) (hb:s.heap.objs.size<=b) (hn:H' b=none):kF X pins H' b:=by
 refine⟨hn,Nat.ne_of_gt (Nat.lt_of_lt_of_le I.lt hb),I.nofs hb,.inr (Nat.le_trans I.sz hb),fun x c e z=>?_,fun p hp z=>?_⟩
 ·obtain⟨v,q⟩:=I.cell x c e
  exact absurd (Nat.lt_of_lt_of_le q.lt (by rw[z];exact hb)) (Nat.lt_irrefl _)
 ·exact absurd (Nat.lt_of_lt_of_le (Heap.lt_size (I.pin p hp).1) (by rw[z];exact hb)) (Nat.lt_irrefl _)
structure Turn (P:Program) (w:World) (K:PySem.W.Frag) (tg:Expr) (J:It) (fp:List Addr) (it:Addr) (tn:Nat->Heap->Prop):Prop where
 mem:it∈fp
 obj:∀i h,tn i h->∀b∈fp,∃o,h.get? b=some o/\∀v,o.data≠.cell v
 keep:∀i h h',tn i h->(∀b∈fp,∀o,h.get? b=some o->h'.get? b=some o)->tn i h'
 item:∀(X:Cx),X.prog=P->X.w=w->X.K=K->X.calm=true->∀(i:Nat) (pins:List (Addr×Obj)) (s:Shared) (σ:St) (H:Hp) (E:Value->Shared->Prop),Inv X pins σ H s->(∀b∈fp,kF X pins H b)->tn i s.heap->J.go i H->
  wpAny (model P w) X.A (pyNext (.ref it)) (fun r s1=>∃u,r=some u/\
   wpAny (model P w) X.A (letOwnedTupleGo tg (.ref it) u) (fun _ s2=>∃x H',Inv X pins σ H' s2/\RelV x u/\J.yld i H x H'/\tn (i+1) s2.heap/\∀b∈fp,H' b=none) E s1) E s
 done:∀(X:Cx),X.prog=P->X.w=w->X.K=K->X.calm=true->∀(i:Nat) (pins:List (Addr×Obj)) (s:Shared) (σ:St) (H:Hp) (E:Value->Shared->Prop),Inv X pins σ H s->(∀b∈fp,kF X pins H b)->tn i s.heap->J.stop i H->
  wpAny (model P w) X.A (pyNext (.ref it)) (fun r s1=>r=none/\Inv X pins σ H s1) E s
 self:∀(A:Around) (i:Nat) (s:Shared) (Q:Value->Shared->Prop) (E:Value->Shared->Prop),tn i s.heap->Q (.ref it) s->wpAny (model P w) A (pyIter (.ref it)) Q E s
noncomputable abbrev TI:=St->Hp->(It->Hp->Prop)->Prop
noncomputable def PIE (X:Cx) (pins:List (Addr×Obj)) (σ:St) (tg:Expr) (R:It->Hp->Prop) (itv:Value) (s2:Shared):Prop:=
 ∃(it:Addr) (fp:List Addr) (tn:Nat->Heap->Prop) (J:It) (H':Hp),itv=.ref it/\Inv X pins σ H' s2/\Turn X.prog X.w X.K tg J fp it tn/\tn 0 s2.heap/\(∀b∈fp,kF X pins H' b)/\R J H'
noncomputable def PI (X:Cx) (tg iter:Expr) (wi:TI):Prop:=
 ∀(pins:List (Addr×Obj)) (s:Shared) (σ:St) (H:Hp) (R:It->Hp->Prop),Inv X pins σ H s->wi σ H R->
  wpAny (model X.prog X.w) X.A (eval iter X.env) (fun v s1=>wpAny (model X.prog X.w) X.A (pyIter v) (PIE X pins σ tg R) X.xe s1) X.xe s
theorem sC {M:Model}{A:Around}{E:Value->Shared->Prop}{s:Shared}{tg:Expr}{it:Addr}{u:Value}{o:Obj}{n:String}{vs:Array Value}{Q:Unit->Shared->Prop}(ho:s.heap.get? it=some o) (hc:o.cls=.type n) (hd:o.data=.fields vs)
  (hn:["enumerate","zip","dict_itemiterator","dict_reverseitemiterator","odict_iterator","itertools.zip_longest","itertools.pairwise"].contains n=false) (hQ:Q () s):wpAny M A (letOwnedTupleGo tg (.ref it) u) Q E s:=by
 unfold letOwnedTupleGo;cases tg<;>first
  |exact wpAny_pure hQ
  |(cases u<;>first
    |exact wpAny_pure hQ
    |(refine wpAny_bind (wpAny_load ho ?_)
      rw[hc,hd];show wpAny M A (if(["enumerate","zip","dict_itemiterator","dict_reverseitemiterator","odict_iterator","itertools.zip_longest","itertools.pairwise"].contains n&&vs[0]?==some (rawInt _))=true then _ else _) Q E s
      rw[if_neg (by intro h;rw[hn,Bool.false_and]at h;contradiction)]
      exact wpAny_pure hQ))
noncomputable def Itl (K:PySem.W.Frag) (a:Addr):It:=
 ⟨fun i H=>∃xs x,SqL K H a xs/\xs[i]?=some x,fun i H x H'=>H'=H/\∀xs,SqL K H a xs->xs[i]?=some x,fun i H=>∃xs,SqL K H a xs/\xs.length<=i⟩
noncomputable def Itt (K:PySem.W.Frag) (a:Addr):It:=
 ⟨fun i H=>∃xs x,SqT K H a xs/\xs[i]?=some x,fun i H x H'=>H'=H/\∀xs,SqT K H a xs->xs[i]?=some x,fun i H=>∃xs,SqT K H a xs/\xs.length<=i⟩
noncomputable def Itr (lo:Int) (n:Nat):It:=⟨fun i _=>i<n,fun i H x H'=>H'=H/\x=.int (lo+i),fun i _=>n<=i⟩
theorem qW {P:Program}{w:World}{K:PySem.W.Frag}{tg:Expr}(a it:Addr):Turn P w K tg (Itl K a) [it] it (fun i h=>h.IsListIter it a i) where
 mem:=by simp
 obj:=fun i h st b hb=>by
  have e:b=it:=by simpa using hb
  subst e;obtain⟨o,e,c,d⟩:=st;exact⟨o,e,fun v z=>by rw[d]at z;cases z⟩
 keep:=fun i h h' st k=>st.at fun o e=>k it (by simp) o e
 item:=by
  intro X hP hw hK hc i pins s σ H E I hf st hg;subst hP hw hK;obtain⟨xs,x,hq,hx⟩:=hg;obtain⟨its,rv,p,hz⟩:=I.list hq;obtain⟨u,hu,ru⟩:=rv.get hx;obtain⟨f0,f1,f2,f3,f4,f5⟩:=hf it (by simp)
  refine wpAny_pyNext_list_item st p.isList (x:=u) (by simpa using hu) fun h' st' sb=>?_
  have I1:Inv X pins σ H {s with heap:=h'}:=I.turned (t':=s.toks) (fun b o hb e=>(sb.2 b hb).trans e) f0 f1 f3 f4 f5
  obtain⟨o,e,c,d⟩:=id st';exact⟨u,rfl,sC (s:={s with heap:=h'}) e c d (by decide) ⟨x,H,I1,ru,⟨rfl,fun ys hy=>by rw[I.list_inj hy hq];exact hx⟩,st',fun b hb=>(hf b hb).1⟩⟩
 done:=by
  intro X hP hw hK hc i pins s σ H E I hf st hg;subst hP hw hK;obtain⟨xs,hq,hx⟩:=hg;obtain⟨its,rv,p,hz⟩:=I.list hq;obtain⟨f0,f1,f2,f3,f4,f5⟩:=hf it (by simp)
  have hl:=rv.length;exact wpAny_pyNext_list_end (I.ok.hd hc) st p.isList (by simp;lia) fun h' eb=>⟨rfl,I.turned (t':=s.toks) (fun b o hb e=>eb b o hb e) f0 f1 f3 f4 f5⟩
 self:=fun _ _ _ _ _ st h=>wpAny_pyIter_listiter st h
theorem nM {P:Program}{w:World}{K:PySem.W.Frag}{tg:Expr}(a it:Addr):Turn P w K tg (Itt K a) [it] it (fun i h=>h.IsTupleIter it a i) where
 mem:=by simp
 obj:=fun i h st b hb=>by
  have e:b=it:=by simpa using hb
  subst e;obtain⟨o,e,c,d⟩:=st;exact⟨o,e,fun v z=>by rw[d]at z;cases z⟩
 keep:=fun i h h' st k=>st.at fun o e=>k it (by simp) o e
 item:=by
  intro X hP hw hK hc i pins s σ H E I hf st hg;subst hP hw hK;obtain⟨xs,x,hq,hx⟩:=hg;obtain⟨its,rv,p,hz⟩:=I.tuple hq;obtain⟨u,hu,ru⟩:=rv.get hx;obtain⟨f0,f1,f2,f3,f4,f5⟩:=hf it (by simp)
  refine wpAny_pyNext_tuple_item st (show s.heap.IsTuple a its.toArray from p) (x:=u) (by simpa using hu) fun h' st' sb=>?_
  have I1:Inv X pins σ H {s with heap:=h'}:=I.turned (t':=s.toks) (fun b o hb e=>(sb.2 b hb).trans e) f0 f1 f3 f4 f5
  obtain⟨o,e,c,d⟩:=id st';exact⟨u,rfl,sC (s:={s with heap:=h'}) e c d (by decide) ⟨x,H,I1,ru,⟨rfl,fun ys hy=>by rw[I.tuple_inj hy hq];exact hx⟩,st',fun b hb=>(hf b hb).1⟩⟩
 done:=by
  intro X hP hw hK hc i pins s σ H E I hf st hg;subst hP hw hK;obtain⟨xs,hq,hx⟩:=hg;obtain⟨its,rv,p,hz⟩:=I.tuple hq;obtain⟨f0,f1,f2,f3,f4,f5⟩:=hf it (by simp)
  have hl:=rv.length;exact wpAny_pyNext_tuple_end (I.ok.hd hc) st (show s.heap.IsTuple a its.toArray from p) (by simp;lia) fun h' eb=>⟨rfl,I.turned (t':=s.toks) (fun b o hb e=>eb b o hb e) f0 f1 f3 f4 f5⟩
 self:=fun _ _ _ _ _ st h=>wpAny_pyIter_tupleiter st h
theorem nK {P:Program}{w:World}{K:PySem.W.Frag}{tg:Expr}(it:Addr) (lo:Int) (n:Nat):Turn P w K tg (Itr lo n) [it] it (fun i h=>IsRangeIter h it (lo+(i:Nat)*1) ((n:Int) - (i:Nat)) 1) where
 mem:=by simp
 obj:=fun i h st b hb=>by
  have e:b=it:=by simpa using hb
  subst e;exact⟨_,st,fun v z=>by
   have z':Data.fields _=Data.cell v:=z;cases z'⟩
 keep:=fun i h h' st k=>k it (by simp) _ st
 item:=by
  intro X hP hw hK hc i pins s σ H E I hf st hg;subst hP hw hK;obtain⟨f0,f1,f2,f3,f4,f5⟩:=hf it (by simp)
  have W:=Walks.range (prog:=X.prog) (w:=X.w) (I.ok.hd hc) it lo 1 n;refine W.item i s _ _ hg st fun v h' tk hv st' kk=>?_
  obtain⟨t,rfl⟩:=hv;have I1:Inv X pins σ H {s with heap:=h',toks:=tk}:=I.turned (fun b o hb e=>kk b o (by simpa using hb) e) f0 f1 f3 f4 f5
  refine⟨_,rfl,sC (s:={s with heap:=h',toks:=tk}) (n:="range_iterator") st' rfl rfl (by decide) ⟨.int (lo+i),H,I1,⟨t,?_⟩,⟨rfl,rfl⟩,st',fun b hb=>(hf b hb).1⟩⟩
  rw[Int.mul_one]
 done:=by
  intro X hP hw hK hc i pins s σ H E I hf st hg;subst hP hw hK;obtain⟨f0,f1,f2,f3,f4,f5⟩:=hf it (by simp)
  exact wpAny_pyNext_range_end (I.ok.hd hc) st (by have:n<=i:=hg;lia) fun h' eb=>⟨rfl,I.turned (t':=s.toks) (fun b o hb e=>eb b o hb e) f0 f1 f3 f4 f5⟩
 self:=fun _ _ _ _ _ st h=>wpAny_pyIter_rangeiter st h
section
variable{X:Cx}{tg:Expr}
noncomputable def AI (K:PySem.W.Frag) (tl:TE):TI:=fun σ H R=>tl σ H fun x H1=>∃a,x=.ref a/\(∃xs,SqL K H1 a xs)/\R (Itl K a) H1
noncomputable def BW (K:PySem.W.Frag) (tl:TE):TI:=fun σ H R=>tl σ H fun x H1=>∃a,x=.ref a/\(∃xs,SqT K H1 a xs)/\R (Itt K a) H1
theorem vj {l:Expr}{tl:TE}(hl:PE X l tl):PI X tg l (AI X.K tl):=by
 intro pins s σ H R I h;refine thn (hl pins s σ H _ I h) fun v s1 hz=>?_
 obtain⟨x,H1,I1,r1,q1⟩:=hz;obtain⟨a,e,⟨xs,hq⟩,q⟩:=q1;subst e;cases r1;obtain⟨its,rv,p,hz⟩:=I1.list hq;refine wpAny_pyIter_list p.isList ?_
 refine⟨s1.heap.objs.size,[s1.heap.objs.size],_,_,H1,rfl,I1.kept (t':=s1.toks) fun b o e=>Heap.get?_push_of_some _ e,qW a _,⟨_,Heap.get?_push_size _ rfl,rfl,rfl⟩,fun b hb=>?_,q⟩
 have e:b=s1.heap.objs.size:=by simpa using hb
 subst e;exact I1.fpOk (Nat.le_refl _) (I1.hok.fresh (Nat.le_refl _))
theorem yD {l:Expr}{tl:TE}(hl:PE X l tl):PI X tg l (BW X.K tl):=by
 intro pins s σ H R I h;refine thn (hl pins s σ H _ I h) fun v s1 hz=>?_
 obtain⟨x,H1,I1,r1,q1⟩:=hz;obtain⟨a,e,⟨xs,hq⟩,q⟩:=q1;subst e;cases r1;obtain⟨its,rv,p,hz⟩:=I1.tuple hq;refine wpAny_pyIter_tuple (show s1.heap.IsTuple a its.toArray from p) ?_
 refine⟨s1.heap.objs.size,[s1.heap.objs.size],_,_,H1,rfl,I1.kept (t':=s1.toks) fun b o e=>Heap.get?_push_of_some _ e,nM a _,⟨_,Heap.get?_push_size _ rfl,rfl,rfl⟩,fun b hb=>?_,q⟩
 have e:b=s1.heap.objs.size:=by simpa using hb
 subst e;exact I1.fpOk (Nat.le_refl _) (I1.hok.fresh (Nat.le_refl _))
theorem sS {pins:List (Addr×Obj)}{σ:St}{H:Hp}{s:Shared}{R:It->Hp->Prop}{E:Value->Shared->Prop}{lo hi:Int}{t u v:Tok}{tk:Nat}(I:Inv X pins σ H s) (h1: -(2 ^ 62)<=lo) (h2:lo<2 ^ 62) (h3: -(2 ^ 62)<=hi) (h4:hi<2 ^ 62)
  (q:R (Itr lo (hi - lo).toNat) H):wpAny (model X.prog X.w) X.A (pyIter (.ref s.heap.objs.size)) (PIE X pins σ tg R) E {s with heap:=s.heap.push {cls:=.type "range",data:=.fields #[.int lo t,.int hi u,.int 1 v]},toks:=tk}:=by
 refine wpAny_pyIter_range (IsRange.new ..) (small_one h1 h2 h3 h4) ?_
 have I1:Inv X pins σ H {s with heap:=s.heap.push {cls:=.type "range",data:=.fields #[.int lo t,.int hi u,.int 1 v]},toks:=tk}:=I.kept fun b o e=>Heap.get?_push_of_some _ e
 refine⟨(s.heap.push {cls:=.type "range",data:=.fields #[.int lo t,.int hi u,.int 1 v]}).objs.size,[(s.heap.push {cls:=.type "range",data:=.fields #[.int lo t,.int hi u,.int 1 v]}).objs.size],_,_,H,rfl,
  I1.kept (t':=tk) fun b o e=>Heap.get?_push_of_some _ e,nK _ lo (hi - lo).toNat,?_,fun b hb=>?_,q⟩
 ·have e1:lo+((0:Nat):Int)*1=lo:=by simp
  have e2:(((hi - lo).toNat:Nat):Int) - ((0:Nat):Int)=Builtin.Range.rangeSize lo hi 1:=by rw[rangeSize_one];split<;>lia
  show IsRangeIter _ _ (lo+((0:Nat):Int)*1) ((((hi - lo).toNat:Nat):Int) - ((0:Nat):Int)) 1;rw[e1,e2];exact Heap.get?_push_size _ rfl
 ·have e:b=(s.heap.push {cls:=.type "range",data:=.fields #[.int lo t,.int hi u,.int 1 v]}).objs.size:=by simpa using hb
  subst e;exact I1.fpOk (Nat.le_refl _) (I1.hok.fresh (Nat.le_refl _))
noncomputable def AG (ta:TA):TI:=fun σ H R=>ta σ H fun vs H1=>∃j:Int,vs=[.int j]/\ -(2 ^ 62)<=j/\j<2 ^ 62/\R (Itr 0 j.toNat) H1
theorem pk {a:Expr}{ta:TA}{p pos:Pos}(hg:Gl X "range") (hm:X.mg "range"=none) (ha:PA X [a] ta) (hs:starEach [a] X.env=[(false,eval a X.env)]:=by rfl):PI X tg (.Call (.Name "range" p) [a] [] pos) (AG ta):=by
 intro pins s σ H R I h;refine Call_ (gR I hg hm boot_range (PyProof.Rows.callWith_type1 (thn (ha pos pins s σ H _ I h) fun us s1 ⟨vs,H1,I1,r1,q1⟩=>?_) hs rfl))
 obtain⟨j,e,q1,q2,q⟩:=q1;subst e;cases r1 with
 |cons r rr=>
  cases rr;obtain⟨t,rfl⟩:=r;exact call_range_1 (sS I1 (by lia) (by lia) q1 q2 (by simpa using q))
noncomputable def A3 (wi:TI) (g:TG) (tb:TS):TS:=fun D σ H=>wi σ H fun J H1=>∃W:Nat->Nat->St->Hp->Prop,(∃m,W 0 m σ H1)/\∀i m σ H,W i m σ H->
 (J.stop i H/\D.nx σ H)\/(J.go i H/\∃N:St->Hp->Prop,(∀σ' H',N σ' H'->∃m',m'<m/\W (i+1) m' σ' H')/\∀x H',J.yld i H x H'->g x σ H' fun σ2 H2=>tb {D with nx:=N,ct:=N,bk:=D.nx} σ2 H2)
noncomputable def jH (fp:List Addr) (h:Heap):List (Addr×Obj):=fp.filterMap fun b=>(h.get? b).map fun o=>(b,o)
theorem df {fp:List Addr}{h:Heap}{b:Addr}{o:Obj}(hb:b∈fp) (e:h.get? b=some o):(b,o)∈jH fp h:=List.mem_filterMap.mpr ⟨b,hb,by rw[e];rfl⟩
theorem pq {fp:List Addr}{h:Heap}{p:Addr×Obj}(hp:p∈jH fp h):p.1∈fp/\h.get? p.1=some p.2:=by
 obtain⟨b,hb,e⟩:=List.mem_filterMap.mp hp;cases q:h.get? b with
 |none=>rw[q]at e;contradiction
 |some o=>
  rw[q]at e;have e':(b,o)=p:=Option.some.inj e;subst e';exact⟨hb,q⟩
theorem Inv.pinned {pins:List (Addr×Obj)}{σ:St}{H:Hp}{s:Shared}{fp:List Addr}(I:Inv X pins σ H s) (hf:∀b∈fp,kF X pins H b) (ho:∀b∈fp,∃o,s.heap.get? b=some o/\∀v,o.data≠.cell v):Inv X (pins++jH fp s.heap) σ H s:=
 I.pins_of fun p hp=>(List.mem_append.mp hp).elim (fun z=>I.pin p (List.mem_append_right _ z)) fun z=>by
  obtain⟨hb,e⟩:=pq z;obtain⟨f0,f1,f2,_⟩:=hf p.1 hb;obtain⟨o,e',d⟩:=ho p.1 hb;rw[e]at e';obtain rfl:=Option.some.inj e';exact⟨e,f0,f1,f2,d⟩
theorem Inv.unpinned {pins pl:List (Addr×Obj)}{σ:St}{H:Hp}{s:Shared}(I:Inv X (pins++pl) σ H s):Inv X pins σ H s:=I.pins_of fun p hp=>I.pin p (List.mem_append_right _ (List.mem_append_left _ hp))
theorem mW {iter:Expr}{body:List Stmt}{wi:TI}{g:TG}{tb:TS}{pos:Pos}(hp:PassesOwn (model X.prog X.w) X.A X.env X.xe) (hc:X.calm=true) (hi:PI X tg iter wi) (hg:PG X tg g) (hb:PSs X body tb)
  (hs:∀x,foldedSetIterable iter X.env x=pure x:=by intro _;rfl):PS X (.For tg iter body [] pos) (A3 wi g tb):=by
 intro pins s σ H D I h;refine wpAny_For (thn (hi pins s σ H _ I h) fun v s1 h1=>thn h1 fun itv s2 h2=>?_) hs
 obtain⟨it,fp,tn,J,H2,e,I2,T,st2,f2,W,⟨m0,w0⟩,turn⟩:=h2;subst e;have stat:∀{H':Hp},(∀b∈fp,H' b=none)->∀b∈fp,kF X pins H' b:=fun hn b hb=>⟨hn b hb,(f2 b hb).2⟩
 refine codeAny_forLoop_any (fun n s'=>∃i σ' H',Inv X pins σ' H' s'/\tn i s'.heap/\(∀b∈fp,H' b=none)/\W i n σ' H') ?_ m0 ⟨0,σ,H2,I2,st2,fun b hb=>(f2 b hb).1,w0⟩
 rintro n s3 ⟨i,σ3,H3,I3,st3,fr3,w3⟩
 rcases turn i n σ3 H3 w3 with⟨stop,qn⟩|⟨go,N,hN,step⟩
 ·refine wpAny_passesOwn hp (thn (T.done X rfl rfl rfl hc i pins s3 σ3 H3 X.xe I3 (stat fr3) st3 stop) fun r s4 hz=>?_)
  obtain⟨hr,I4⟩:=hz;subst hr;exact wpAny_execs_nil ⟨σ3,H3,I4,qn⟩
 ·refine wpAny_passesOwn hp (thn (T.item X rfl rfl rfl hc i pins s3 σ3 H3 X.xe I3 (stat fr3) st3 go) fun r s4 hz=>?_)
  obtain⟨u,hr,h4⟩:=hz;subst hr;refine wpAny_passesOwn hp (thn h4 fun _ s5 hz=>?_)
  obtain⟨x,H5,I5,r5,y5,st5,fr5⟩:=hz;have I5':=I5.pinned (stat fr5) (T.obj _ _ st5);refine wpAny_passesOwn hp (thn (hg _ s5 σ3 H5 x u _ I5' r5 (step x H5 y5)) fun _ s6 hz=>?_)
  obtain⟨σ6,H6,I6,q6⟩:=hz;refine wpAny_passesOwn hp (thn (hb _ s6 σ6 H6 _ I6 q6) fun f s7 q7=>?_)
  have again:∀{σ7:St}{H7:Hp},Inv X (pins++jH fp s5.heap) σ7 H7 s7->N σ7 H7->∃m,m<n/\∃i σ' H',Inv X pins σ' H' s7/\tn i s7.heap/\(∀b∈fp,H' b=none)/\W i m σ' H':=fun{σ7 H7} I7 n7=>by
   obtain⟨m',hm,w7⟩:=hN σ7 H7 n7;refine⟨m',hm,i+1,σ7,H7,I7.unpinned,T.keep _ _ _ st5 fun b hb o e=>(I7.pin (b,o) (List.mem_append_right _ (List.mem_append_right _ (df hb e)))).1,fun b hb=>?_,w7⟩
   obtain⟨o,e,d⟩:=T.obj _ _ st5 b hb;exact(I7.pin (b,o) (List.mem_append_right _ (List.mem_append_right _ (df hb e)))).2.1
  cases f with
  |next=>obtain⟨σ7,H7,I7,n7⟩:=q7;exact again I7 n7
  |cont=>obtain⟨σ7,H7,I7,n7⟩:=q7;exact again I7 n7
  |brk=>obtain⟨σ7,H7,I7,q7⟩:=q7;exact⟨σ7,H7,I7.unpinned,q7⟩
  |ret v=>obtain⟨x7,σ7,H7,I7,r7,q7⟩:=q7;exact⟨x7,σ7,H7,I7.unpinned,r7,q7⟩
end
noncomputable abbrev R2:=V->V->Hp->VK->Prop
noncomputable def OpR (X:Cx) (f:Value->Value->Sem Value) (r:R2):Prop:=
 ∀(pins:List (Addr×Obj)) (s:Shared) (σ:St) (H:Hp) (x y:V) (v u:Value) (Q:VK),Inv X pins σ H s->RelV x v->RelV y u->r x y H Q->
  wpAny (model X.prog X.w) X.A (f v u) (EP X pins σ Q) X.xe s
noncomputable def fA (X:Cx) (f:Value) (r:List V->Hp->VK->Prop):Prop:=
 ∀(pins:List (Addr×Obj)) (s:Shared) (σ:St) (H:Hp) (xs:List V) (us:List Value) (Q:VK),Inv X pins σ H s->Vals xs us->r xs H Q->
  wpAny (model X.prog X.w) X.A (call f us) (EP X pins σ Q) X.xe s
noncomputable def Cc (X:Cx) (r:V->Hp->(Bool->Hp->Prop)->Prop):Prop:=
 ∀(pins:List (Addr×Obj)) (s:Shared) (σ:St) (H:Hp) (x:V) (v:Value) (Q:Bool->Hp->Prop),Inv X pins σ H s->RelV x v->r x H Q->
  wpAny (model X.prog X.w) X.A (truthy v) (TP X pins σ Q) X.xe s
noncomputable def tOp (r:R2) (ta tb:TE):TE:=fun σ H Q=>ta σ H fun x H1=>tb σ H1 fun y H2=>r x y H2 Q
noncomputable def rI (C:Int->Int->Prop) (g:Int->Int->V):R2:=fun x y H Q=>∃i j,x=.int i/\y=.int j/\C i j/\Q (g i j) H
noncomputable def rI0 (g:Int->Int->V):R2:=fun x y H Q=>∃i j,x=.int i/\y=.int j/\Q (g i j) H
noncomputable def rU (g:Int->V):V->Hp->VK->Prop:=fun x H Q=>∃i,x=.int i/\Q (g i) H
section
variable{X:Cx}{a b c:Expr}{ta tb tc:TE}{pos:Pos}
theorem AA (ha:PE X a ta) (hb:PE X b tb) {pins:List (Addr×Obj)}{s:Shared}{σ:St}{H:Hp}{R:V->V->Hp->Prop}(I:Inv X pins σ H s)
  (h:ta σ H fun x H1=>tb σ H1 fun y H2=>R x y H2) {Q:Value->Shared->Prop}{f:Value->Value->Sem Value}
  (hf:∀v u s2 x y H2,Inv X pins σ H2 s2->RelV x v->RelV y u->R x y H2->wpAny (model X.prog X.w) X.A (f v u) Q X.xe s2):
  wpAny (model X.prog X.w) X.A (eval a X.env) (fun v s₁=>wpAny (model X.prog X.w) X.A (eval b X.env) (fun u s₂=>wpAny (model X.prog X.w) X.A (f v u) Q X.xe s₂) X.xe s₁) X.xe s:=by
 refine thn (ha pins s σ H _ I h) fun v s1 hz=>?_
 obtain⟨x,H1,I1,r1,q1⟩:=hz;refine thn (hb pins s1 σ H1 _ I1 q1) fun u s2 hz=>?_
 obtain⟨y,H2,I2,r2,q2⟩:=hz;exact hf v u s2 x y H2 I2 r1 r2 q2
theorem vm {op:Operator}{r:R2}(ho:OpR X (binaryOp op) r) (ha:PE X a ta) (hb:PE X b tb):PE X (.BinOp a op b pos) (tOp r ta tb):=by
 intro pins s σ H Q I h;exact wpAny_BinOp (AA ha hb I h fun v u s2 x y H2 I2 rx ry q=>ho pins s2 σ H2 x y v u Q I2 rx ry q)
theorem opI {f:Value->Value->Sem Value}{C:Int->Int->Prop}{g:Int->Int->Int}
  (rule:∀(i j:Int) (t u:Tok) (s:Shared) (Q:Value->Shared->Prop) (E:Value->Shared->Prop),C i j->Q (.int (g i j) s.toks) {s with toks:=s.toks+1}->wpAny (model X.prog X.w) X.A (f (.int i t) (.int j u)) Q E s):
  OpR X f (rI C fun i j=>.int (g i j)):=by
 intro pins s σ H x y v u Q I rx ry h;obtain⟨i,j,rfl,rfl,hc,q⟩:=h;obtain⟨t,rfl⟩:=rx;obtain⟨t',rfl⟩:=ry;exact rule i j t t' s _ _ hc ⟨.int (g i j),H,I.tok _,⟨_,rfl⟩,q⟩
theorem B9 {f:Value->Value->Sem Value}{g:Int->Int->Int}
  (rule:∀(i j:Int) (t u:Tok) (s:Shared) (Q:Value->Shared->Prop) (E:Value->Shared->Prop),Q (.int (g i j) s.toks) {s with toks:=s.toks+1}->wpAny (model X.prog X.w) X.A (f (.int i t) (.int j u)) Q E s):
  OpR X f (rI0 fun i j=>.int (g i j)):=by
 intro pins s σ H x y v u Q I rx ry h;obtain⟨i,j,rfl,rfl,q⟩:=h;obtain⟨t,rfl⟩:=rx;obtain⟨t',rfl⟩:=ry;exact rule i j t t' s _ _ ⟨.int (g i j),H,I.tok _,⟨_,rfl⟩,q⟩
theorem zK {f:Value->Value->Sem Value}{g:Int->Int->Bool}
  (rule:∀(i j:Int) (t u:Tok) (s:Shared) (Q:Value->Shared->Prop) (E:Value->Shared->Prop),Q (.bool (g i j)) s->wpAny (model X.prog X.w) X.A (f (.int i t) (.int j u)) Q E s):
  OpR X f (rI0 fun i j=>.bl (g i j)):=by
 intro pins s σ H x y v u Q I rx ry h;obtain⟨i,j,rfl,rfl,q⟩:=h;obtain⟨t,rfl⟩:=rx;obtain⟨t',rfl⟩:=ry;exact rule i j t t' s _ _ ⟨.bl (g i j),H,I,rfl,q⟩
noncomputable def Ca (i j:Int):Prop:=0<j/\j<1073741824
noncomputable def CMul (i j:Int):Prop:=(-(2 ^ 64)<i/\i<2 ^ 64)\/(-(2 ^ 64)<j/\j<2 ^ 64)
theorem CMul.ok {i j:Int}(h:CMul i j):IntMulOk i j:=by
 rcases h with⟨h1,h2⟩|⟨h1,h2⟩
 ·exact .of_left (intBits_le_64 h1 h2)
 ·exact .of_right (intBits_le_64 h1 h2)
theorem xW:OpR X (binaryOp .Add) (rI0 fun i j=>.int (i+j)):=B9 fun _ _ _ _ _ _ _ q=>add_int q
theorem zq:OpR X (binaryOp .Mult) (rI CMul fun i j=>.int (i*j)):=opI fun _ _ _ _ _ _ _ hc q=>mul_int q hc.ok
theorem u6:OpR X (binaryOp .FloorDiv) (rI Ca fun i j=>.int (i / j)):=opI fun i j _ _ _ _ _ hc q=>by
 have h1:(0:Int)<j:=hc.1;have h2:j<1073741824:=hc.2;exact floordiv_int (by lia) (by rw[Int.fdiv_eq_ediv_of_nonneg i (by lia)];exact q) (.inl (PyProof.noPylong_small (by lia)))
theorem yb:OpR X (binaryOp .Mod) (rI (fun _ j=>0<j) fun i j=>.int (i%j)):=opI fun i j _ _ _ _ _ hc q=>by
 have h1:(0:Int)<j:=hc;exact mod_int' (by lia) (by rw[Int.fmod_eq_emod_of_nonneg i (by lia)];exact q)
end
section
variable{X:Cx}{a b c:Expr}{ta tb tc:TE}{pos:Pos}
theorem uA {pins:List (Addr×Obj)}{σ:St}{H:Hp}{s:Shared}{Q:VK}{k k':Bool}(I:Inv X pins σ H s) (q:Q (.bl k) H) (e:k=k'):EP X pins σ Q (.bool k') s:=by
 subst e;exact⟨.bl k,H,I,rfl,q⟩
theorem xQ:OpR X (compareOp .Lt) (rI0 fun i j=>.bl (decide (i<j))):=zK fun _ _ _ _ _ _ _ q=>lt_int q
theorem AH:OpR X (compareOp .LtE) (rI0 fun i j=>.bl (decide (i<=j))):=zK fun _ _ _ _ _ _ _ q=>le_int q
theorem AW:OpR X (compareOp .Gt) (rI0 fun i j=>.bl (decide (j<i))):=zK fun _ _ _ _ _ _ _ q=>gt_int q
theorem AF:OpR X (compareOp .GtE) (rI0 fun i j=>.bl (decide (j<=i))):=zK fun _ _ _ _ _ _ _ q=>ge_int q
theorem oJ:OpR X (compareOp .Lt) (fun x y H Q=>∃i j,x=.str i/\y=.str j/\Q (.bl (decide (i.cps.toList<j.cps.toList))) H):=by
 intro pins s σ H x y v u Q I rx ry h;obtain⟨i,j,rfl,rfl,q⟩:=h;obtain⟨t,rfl⟩:=rx;obtain⟨t',rfl⟩:=ry;exact lt_str (uA I q rfl)
theorem wu:OpR X (compareOp .IsNot) (fun x y H Q=>y=.non/\Q (.bl (!decide (x=.non))) H):=by
 intro pins s σ H x y v u Q I rx ry h;obtain⟨rfl,q⟩:=h;cases ry;refine isnot_none_gen (uA I q ?_)
 cases x<;>first
  |(cases rx;rfl)
  |(obtain⟨t,rfl⟩:=rx;rfl)
theorem uw (b:Expr) {op:CmpOp}(h:op≠.In:=by decide) (h2:op≠.NotIn:=by decide):behindInMarks op b=false:=by
 have e1:(op==CmpOp.In)=false:=by cases op<;>first|rfl|exact absurd rfl h
 have e2:(op==CmpOp.NotIn)=false:=by cases op<;>first|rfl|exact absurd rfl h2
 cases b<;>simp[behindInMarks,e1,e2]
theorem vR {op:CmpOp}{r:R2}(ho:OpR X (compareOp op) r) (ha:PE X a ta) (hb:PE X b tb) (hm:behindInMarks op b=false):PE X (.Compare a [op] [b] pos) (tOp r ta tb):=by
 intro pins s σ H Q I h;exact wpAny_Compare1 (AA ha hb I h fun v u s2 x y H2 I2 rx ry q=>ho pins s2 σ H2 x y v u Q I2 rx ry q) hm
noncomputable def Ao (t:TE):TT:=fun σ H Q=>t σ H fun x H'=>∃k,x=.bl k/\Q k H'
theorem cQ {op:CmpOp}{r:R2}(ho:OpR X (compareOp op) r) (ha:PE X a ta) (hb:PE X b tb) (hm:behindInMarks op b=false):PT X (.Compare a [op] [b] pos) (Ao (tOp r ta tb)):=by
 intro pins s σ H Q I h;refine wpAny_isTrue_Compare1 (thn (ha pins s σ H _ I h) fun v s1 ⟨x,H1,I1,r1,q1⟩=>thn (hb pins s1 σ H1 _ I1 q1) fun u s2 ⟨y,H2,I2,r2,q2⟩=>
  thn (ho pins s2 σ H2 x y v u _ I2 r1 r2 q2) fun c s3 ⟨z,H3,I3,r3,k,e,q3⟩=>?_) hm
 subst e;cases r3;exact wpAny_truthy_bool ⟨H3,I3,q3⟩
noncomputable def Bi (K:PySem.W.Frag) (x:V) (H:Hp) (k:Bool):Prop:=
 match x with
 |.non=>k=false
 |.bl b=>k=b
 |.int i=>k=(i != 0)
 |.str y=>y.length<=sizeLine/\k=((y.length:Int) != 0)
 |.byt y=>y.size<=sizeLine/\k=((y.size:Int) != 0)
 |.ref p=>(∃xs,SqL K H p xs/\k=!xs.isEmpty)\/(∃xs,SqT K H p xs/\k=!xs.isEmpty)\/∃kvs,H p=some (.dK kvs)/\k=!kvs.isEmpty
 |_=>False
theorem nL {κ:Type}{kvs:List (κ×V)}{vs:List (κ×Value)}(r:KV kvs vs):(!vs.isEmpty)=!kvs.isEmpty:=by
 cases r<;>rfl
theorem hU {xs:List V}{its:List Value}(r:Vals xs its):(!its.toArray.isEmpty)=!xs.isEmpty:=by
 cases r<;>simp
theorem hV:(sizeLine:Nat)<2 ^ 63:=by rw[sizeLine_eq];decide
theorem zr:Cc X (fun x H Q=>∃k,Bi X.K x H k/\Q k H):=by
 intro pins s σ H x v Q I rx h;obtain⟨k,e,q⟩:=h;have hl:=hV;have hs:sizeLine=16777216:=sizeLine_eq;cases x with
 |non=>
  cases rx;have e':k=false:=e;subst e';exact truthy_none ⟨H,I,q⟩
 |bl b=>
  cases rx;have e':k=b:=e;subst e';exact wpAny_truthy_bool ⟨H,I,q⟩
 |int i=>
  obtain⟨t,rfl⟩:=rx;have e':k=(i != 0):=e;subst e';exact PySem.P.truthy_int ⟨H,I,q⟩
 |str y=>
  obtain⟨t,rfl⟩:=rx;obtain⟨hy,e'⟩:y.length<=sizeLine/\k=((y.length:Int) != 0):=e;subst e';exact PySem.P.truthy_str (by lia) ⟨H,I.tok _,q⟩
 |byt y=>
  obtain⟨t,rfl⟩:=rx;obtain⟨hy,e'⟩:y.size<=sizeLine/\k=((y.size:Int) != 0):=e;subst e';exact PySem.W.truthy_bytes (by lia) ⟨H,I.tok _,q⟩
 |ref p=>
  cases rx;have e':(∃xs,SqL X.K H p xs/\k=!xs.isEmpty)\/(∃xs,SqT X.K H p xs/\k=!xs.isEmpty)\/∃kvs,H p=some (.dK kvs)/\k=!kvs.isEmpty:=e
  rcases e' with⟨xs,hx,e'⟩|⟨xs,hx,e'⟩|⟨kvs,hx,e'⟩
  ·subst e'
   obtain⟨its,r,pl,hz⟩:=I.list hx;have hlen:=r.length;exact wpAny_truthy_list pl.isList (by simp only[List.size_toArray];lia) ⟨H,I.tok _,by rw[hU r];exact q⟩
  ·subst e'
   obtain⟨its,r,pl,hz⟩:=I.tuple hx;have hlen:=r.length;exact truthy_tuple pl (by simp only[List.size_toArray];lia) ⟨H,I.tok _,by rw[hU r];exact q⟩
  ·subst e'
   obtain⟨hz,hS,vs,r,m⟩:kvs.length<=sizeLine/\(p==sysModules)=false/\∃vs,KV kvs vs/\s.heap.DictOf (aV X.prog X.w) p vs:=I.hok p _ hx;have hlen:kvs.length=vs.length:=Paired.length r;exact wpAny_truthy_dict hS m (by lia) ⟨H,I.tok _,by rw[nL r];exact q⟩
 |_=>exact(show False from e).elim
theorem sO (ha:PE X a ta) (he:∀whole,isTrue a X.env whole=(do let v <-whole;standAt a.pos;holding [v] (truthy v))):
  PT X a (fun σ H Q=>ta σ H fun x H'=>∃k,Bi X.K x H' k/\Q k H'):=by
 intro pins s σ H Q I h;exact isTrue_plain (thn (ha pins s σ H _ I h) fun v s1 hz=>by obtain⟨x,H1,I1,r1,q1⟩:=hz;exact zr pins s1 σ H1 x v Q I1 r1 q1) (he _)
theorem jU {x:V}{us:List Value}(r:Vals [x] us):∃u,us=[u]/\RelV x u:=by
 cases r with
 |cons r1 r2=>cases r2;exact⟨_,rfl,r1⟩
theorem Ad {x y:V}{us:List Value}(r:Vals [x,y] us):∃u w',us=[u,w']/\RelV x u/\RelV y w':=by
 cases r with
 |cons r1 r2=>
  cases r2 with
  |cons r3 r4=>cases r4;exact⟨_,_,rfl,r1,r3⟩
end
structure ObjM (h:Heap) (x dx C:Addr) (mA:Str->Option Value):Prop where
 obj:h.get? x=some (PySem.W.instObj C dx)
 ns:h.Ns1 dx mA
 ne:dx≠x
theorem oG {h:Heap}{dx:Addr}{mA:Str->Option Value}(n:h.Ns1 dx mA):∃od,h.get? dx=some od/\∀name,PySem.W.lookIn name od=some (mA name):=by
 obtain⟨o,es,ep,ho,hd,hk,_,hm⟩:=n;refine⟨o,ho,fun name=>?_⟩
 have e:=hm name;unfold nsFind findBy at e;rw[<-Array.find?_toList]at e
 unfold PySem.W.lookIn;rw[hd];dsimp only;split
 ·rename_i y q
  rw[q]at e;exact congrArg some e
 ·rename_i q
  rw[q]at e;have a:es.toList.any (·.refKey)=false:=by
   rw[List.any_eq_false];intro y hy;obtain⟨z,t,hkey⟩:=hk y (Array.mem_toList_iff.mp hy);simp[DictEntry.refKey,hkey]
  have a':¬es.toList.any (·.refKey)=true:=by rw[a];exact Bool.false_ne_true
  rw[if_neg a'];exact congrArg some e
theorem ObjM.look {h:Heap}{x dx C:Addr}{mA:Str->Option Value}(I:ObjM h x dx C mA):∃od,PySem.W.InstAt h x (PySem.W.instObj C dx) C (some od)/\∀name,PySem.W.lookIn name od=some (mA name):=
 let ⟨od,ho,hl⟩:=oG I.ns
 ⟨od,⟨I.obj,rfl,rfl,ho⟩,hl⟩
section
variable{prog:Program}{w:World}{A:Around}{E:Value->Shared->Prop}{s:Shared}{K:PySem.W.Frag}{x dx C f:Addr}{mA:Str->Option Value}{name:Str}{v:Value}
end
theorem RelO.some_of {v:V}{o:Option Value}(r:RelO (some v) o):∃u,o=some u/\RelV v u:=by
 cases o with
 |none=>exact(show False from r).elim
 |some u=>exact⟨u,rfl,r⟩
theorem RelO.none_of {o:Option Value}(r:RelO none o):o=none:=by
 cases o with
 |none=>rfl
 |some u=>exact(show False from r).elim
section
variable{P:Program}{w:World}{H H':Hp}{h h':Heap}{a C dx:Addr}{fs fs':List (Str×V)}
theorem vS (hok:HOk P w H h) (e:H a=some (.ins C dx fs)):∃mA,ObjM h a dx C mA/\(∀f,RelO (fs.lookup f) (mA f))/\PySem.Within mA (fs.map (·.1))/\fs.length<=1000/\H dx=some (.own a):=by
 obtain⟨d,z,ne,ob,mA,n,r,q⟩:=(show ObjOk P w H h a (.ins C dx fs) from hok a _ e)
 exact⟨mA,⟨ob,n,ne⟩,r,q,z,d⟩
end
structure Cls (K:PySem.W.Frag) (C:Addr):Prop where
 pg:PySem.W.plainGet K C Str.empty=true
 hd:PySem.W.hasDictIn K C=true
 po:PySem.W.plainOver K C=true
 sa:PySem.W.findIn K (.ref C) "__setattr__"=some (some (.builtin "object.__setattr__"))
theorem Cls.get {K:PySem.W.Frag}{C:Addr}(c:Cls K C) (f:Str):PySem.W.plainGet K C f=true:=c.pg
section
variable{X:Cx}{pins:List (Addr×Obj)}{σ:St}{H:Hp}{s:Shared}{a C dx:Addr}{fs:List (Str×V)}{f:Str}{v:V}{A:Around}{E:Value->Shared->Prop}
end
section
variable{X:Cx}{o e value:Expr}{f:Str}{pos pos' tpos:Pos}{ta tv:TE}
end
section
variable{X:Cx}{pins:List (Addr×Obj)}{σ:St}{H:Hp}{s:Shared}{A:Around}{E:Value->Shared->Prop}{Q:Value->Shared->Prop}{c:Value}{b:Bool}
inductive TyOf (K:PySem.W.Frag) (H:Hp):V->Value->Prop where
 |non:TyOf K H .non (.type "NoneType")
 |bl (x:Bool):TyOf K H (.bl x) (.type "bool")
 |int (i:Int):TyOf K H (.int i) (.type "int")
 |str (x:Str):TyOf K H (.str x) (.type "str")
 |flt (x:UInt64):TyOf K H (.flt x) (.type "float")
 |lst {a:Addr}{xs:List V}(e:H a=some (.lst xs)):TyOf K H (.ref a) (.type "list")
 |frz {a:Addr}{o:Obj}{xs:List V}(e:H a=some (.frz o (.lst xs))):TyOf K H (.ref a) (.type "list")
 |tup {a:Addr}{xs:List V}(e:H a=some (.tup xs)):TyOf K H (.ref a) (.type "tuple")
 |dK {a:Addr}{kvs:List (Key×V)}(e:H a=some (.dK kvs)):TyOf K H (.ref a) (.type "dict")
 |dT {a:Addr}{kvs:List (List Key×V)}(e:H a=some (.dT kvs)):TyOf K H (.ref a) (.type "dict")
 |ins {a C dx:Addr}{fs:List (Str×V)}(e:H a=some (.ins C dx fs)) (cl:Cls K C) (ha:PySem.W.findIn K (.ref C) "__class__"=some (some (.builtin "object.__class__")))
   (hn:PySem.W.specialIn K (.builtin "object.__class__") "__get__"=some (some (.builtin "getset_descriptor.__get__"))) (htk:PySem.W.takesIn K (.builtin "object.__class__")=some true)
   (hm:PySem.W.mroIn K C (.type "object")=some true):TyOf K H (.ref a) (.ref C)
theorem dL {x:V}{u t:Value}(I:Inv X pins σ H s) (rx:RelV x u) (ty:TyOf X.K H x t) (e:PySem.W.kitOne X.K t c=some b) (h:∀tk,Q (.bool b) {s with toks:=tk}):
  wpAny (model X.prog X.w) A (call (.builtin "isinstance") [u,c]) Q E s:=by
 cases ty with
 |non=>cases (show u=Value.none from rx);exact PySem.W.kia_one PySem.W.kitx_none I.kIn True.intro e (fun z=>nomatch z) h
 |bl y=>cases (show u=Value.bool y from rx);exact PySem.W.kia_one PySem.W.kitx_bool I.kIn True.intro e (fun z=>nomatch z) h
 |int i=>obtain⟨t,q⟩:=(show ∃t,u=Value.int i t from rx);cases q;exact PySem.W.kia_one PySem.W.kitx_int I.kIn True.intro e (fun z=>nomatch z) h
 |str y=>obtain⟨t,q⟩:=(show ∃t,u=Value.str y t from rx);cases q;exact PySem.W.kia_one PySem.W.kitx_str I.kIn True.intro e (fun z=>nomatch z) h
 |flt y=>obtain⟨t,q⟩:=(show ∃t,u=Value.float y t from rx);cases q;exact PySem.W.kia_one PySem.W.kitx_float I.kIn True.intro e (fun z=>nomatch z) h
 | @lst a xs ea=>
  cases (show u=Value.ref a from rx)
  obtain⟨_,_,n,_,h1⟩:=(show ObjOk X.prog X.w H s.heap a (.lst xs) from I.hok a _ ea)
  exact PySem.W.kia_one PySem.W.kitx_list I.kIn ⟨_,h1,rfl⟩ e (fun z=>nomatch z) h
 | @frz a ob xs ea=>
  cases (show u=Value.ref a from rx)
  obtain⟨_,_,_,n,_,h1⟩:=(show ObjOk X.prog X.w H s.heap a (.frz ob (.lst xs)) from I.hok a _ ea)
  exact PySem.W.kia_one PySem.W.kitx_list I.kIn ⟨_,h1,rfl⟩ e (fun z=>nomatch z) h
 | @tup a xs ea=>
  cases (show u=Value.ref a from rx)
  obtain⟨_,_,_,p⟩:=(show ObjOk X.prog X.w H s.heap a (.tup xs) from I.hok a _ ea)
  obtain⟨o,h1,h2,_⟩:=p;exact PySem.W.kia_one PySem.W.kitx_tuple I.kIn ⟨o,h1,h2⟩ e (fun z=>nomatch z) h
 | @dK a kvs ea=>
  cases (show u=Value.ref a from rx)
  obtain⟨_,_,vs,_,p⟩:=(show ObjOk X.prog X.w H s.heap a (.dK kvs) from I.hok a _ ea)
  obtain⟨o,es,ep,h1,h2,_⟩:=p;exact PySem.W.kia_one PySem.W.kitx_dict I.kIn ⟨o,h1,h2.1⟩ e (fun z=>nomatch z) h
 | @dT a kvs ea=>
  cases (show u=Value.ref a from rx)
  obtain⟨_,_,xs,_,o,es,ep,h1,h2,_⟩:=(show ObjOk X.prog X.w H s.heap a (.dT kvs) from I.hok a _ ea)
  exact PySem.W.kia_one PySem.W.kitx_dict I.kIn ⟨o,h1,h2.1⟩ e (fun z=>nomatch z) h
 | @ins a C dx fs ea cl ha hn htk hm=>
  cases (show u=Value.ref a from rx)
  obtain⟨mA,O,_⟩:=vS I.hok ea;obtain⟨od,J,_⟩:=O.look;exact PySem.W.kia_one (PySem.W.kitx_own (cl.get _) cl.hd ha hn htk hm) I.kIn J e (fun z=>nomatch z) h
end
structure Room (k:Nat) (A:Around):Prop where
 hd:A.handled=none
 dp:A.depth+3*k+5<recursionLimit
 un:A.units+16*k+200<cLine
theorem Room.mono {j k:Nat}{A:Around}(r:Room k A) (h:j<=k):Room j A:=⟨r.hd,by have:=r.dp;lia,by have:=r.un;lia⟩
theorem Room.deeper {k:Nat}{A:Around}(r:Room (k+1) A) (env:Env):Room k (A.deeper env):=
 ⟨r.hd,by have:=r.dp;show A.depth+1+3*k+5<_;lia,by have:=r.un;show A.units+3+16*k+200<_;lia⟩
theorem Room.depth {k:Nat}{A:Around}(r:Room k A):A.depth<recursionLimit:=by have:=r.dp;lia
theorem Room.units {k:Nat}{A:Around}(r:Room k A):A.units+64<cLine:=by have:=r.un;lia
noncomputable def tNil:TA:=fun _ H Q=>Q [] H
noncomputable def vT (ta:TE) (tr:TA):TA:=fun σ H Q=>ta σ H fun x H1=>tr σ H1 fun xs H2=>Q (x::xs) H2
section
variable{X:Cx}{e:Expr}{es:List Expr}{te:TE}{t:TA}{pos:Pos}
theorem aT:PA X [] tNil:=fun _ _ _ _ H Q I h=>Calls.spliced_nil ⟨[],H,I,.nil,h⟩
theorem av (ha:PE X e te) (hr:PA X es t) (hs:starEach (e::es) X.env=(false,eval e X.env)::starEach es X.env:=by rfl):PA X (e::es) (vT te t):=by
 intro pos pins s σ H Q I h;rw[hs];show wpAny _ _ (spliced ((false,eval e X.env)::backTo pos (starEach es X.env))) _ _ s;refine Calls.spliced_cons (thn (ha pins s σ H _ I h) fun u s1 hz=>?_)
 obtain⟨x,H1,I1,r1,q1⟩:=hz;exact thn (hr pos pins s1 σ H1 _ I1 q1) fun us s2 hz=>by obtain⟨xs,H2,I2,r2,q2⟩:=hz;exact⟨x::xs,H2,I2,.cons r1 r2,q2⟩
noncomputable def B6 (t:TA):TE:=fun σ H Q=>t σ H fun xs H1=>xs.length<=sizeLine/\∀p,H1 p=none->Q (.ref p) (upd H1 p (.tup xs))
noncomputable def Bw (t:TA):TE:=fun σ H Q=>t σ H fun xs H1=>xs.length<=sizeLine/\∀p,H1 p=none->Q (.ref p) (upd H1 p (.lst xs))
theorem uc {x1} (h:PA X es t):PE X (.Tuple es x1 pos) (B6 t):=by
 intro pins s σ H Q I hq;refine wpAny_Tuple_spliced (thn (h pos pins s σ H _ I hq) fun us s1 ⟨xs,H1,I1,r,z,q⟩=>⟨by rw[<-r.length];exact z,?_⟩)
 have hf:H1 s1.heap.objs.size=none:=I1.hok.fresh (Nat.le_refl _);refine⟨.ref s1.heap.objs.size,upd H1 s1.heap.objs.size (.tup xs),I1.laid (t':=s1.toks) (fun b u e=>Heap.get?_push_of_some _ e) (Nat.le_refl _) ?_,rfl,q _ hf⟩
 exact⟨z,us,r,⟨_,Heap.get?_push_size _ rfl,rfl,_,rfl⟩⟩
theorem pT (h:PA X es t):PE X (.List es pos) (Bw t):=by
 intro pins s σ H Q I hq;refine wpAny_List_spliced (thn (h pos pins s σ H _ I hq) fun us s1 ⟨xs,H1,I1,r,z,q⟩=>⟨by rw[<-r.length];exact z,?_⟩)
 have hf:H1 s1.heap.objs.size=none:=I1.hok.fresh (Nat.le_refl _);refine⟨.ref s1.heap.objs.size,upd H1 s1.heap.objs.size (.lst xs),I1.laid (t':=s1.toks) (fun b u e=>Heap.get?_push_of_some _ e) (Nat.le_refl _) ?_,rfl,q _ hf⟩
 exact⟨z,us,0,r,Heap.get?_push_size _ rfl⟩
end
noncomputable abbrev Sp:=List V->Hp->VK->XK->Prop
noncomputable abbrev CXT:=List Env->Hp->Shared->XK->Value->Shared->Prop
structure Env0 (P:Program) (w:World) (K:PySem.W.Frag) (mg:Str->Option Value) (base:Heap) (A:Around) (outer:List Env) (s:Shared) (H:Hp):Prop where
 frames:A.frames=some outer
 mod:Mod K mg base
 bs:∀b o,base.get? b=some o->s.heap.get? b=some o/\H b=none
 bsz:base.objs.size<=s.heap.objs.size
 funs:s.heap.FunFrames base outer
 frf:∀b∈frs outer,H b=none
 hok:HOk P w H s.heap
 bare:AllBare s.gens
 tabs:TabH H
noncomputable def CE (outer:List Env) (P:Program) (w:World) (H:Hp) (s:Shared) (Q:VK) (u:Value) (s':Shared):Prop:=
 ∃v H',s'.os=s.os/\AllBare s'.gens/\Un (frs outer) [] H H' s.heap s'.heap/\HOk P w H' s'.heap/\RelV v u/\Q v H'
noncomputable def CR (CX:CXT) (outer:List Env) (P:Program) (w:World) (H:Hp) (s:Shared) (Q:VK) (E:XK) (r:Result) (s':Shared):Prop:=
 match r with
 |.ok (.ret u)=>CE outer P w H s Q u s'
 |.ok _=>False
 |.error e=>CX outer H s E e s'
structure FnOk (P:Program) (w:World) (K:PySem.W.Frag) (mg:Str->Option Value) (base:Heap) (CX:CXT) (k:Nat) (f:Addr) (fd:FuncData) (ps:List Str) (sp:Sp):Prop where
 len:∀vs H Q E,sp vs H Q E->vs.length=ps.length
 run:∀(A:Around) (outer:List Env) (s:Shared) (H:Hp) (args:Args) (us:List Value) (vs:List V) (Q:VK) (E:XK),Room k A->Env0 P w K mg base A outer s H->BindsTo s fd args (ps.zip us)->Vals vs us->sp vs H Q E->
  codeAny (model P w) A (.call (.ref f) args) (CR CX outer P w H s Q E) s
section
variable{X:Cx}{pins:List (Addr×Obj)}{σ:St}{H:Hp}{s s':Shared}
theorem Inv.env0 (I:Inv X pins σ H s):Env0 X.prog X.w X.K X.mg X.base X.A X.stack s H:=
 ⟨I.ok.frames,I.ok.mod,I.bs,Nat.le_trans I.ok.bsz I.sz,I.stack,I.stkFree,I.hok,I.bare,I.ok.tabs.to I.base.tbls⟩
theorem Inv.after {Q:VK}{u:Value}(I:Inv X pins σ H s) (h:CE X.stack X.prog X.w H s Q u s'):EP X pins σ Q u s':=by
 obtain⟨v,H',os,bare,un,hok,r,q⟩:=h;obtain⟨hh,g,d,t,os'⟩:=s';obtain rfl:os'=s.os:=os;exact⟨v,H',I.call (h':=hh) (g':=g) (d':=d) (t':=t) (ch:=[]) un hok bare (fun b z=>absurd z (by simp)),r,q⟩
end
noncomputable def Ai (sp:Sp) (dvs:List V) (E:XK) (t:TA):TE:=fun σ H Q=>t σ H fun vs H1=>sp (vs++dvs) H1 Q E
noncomputable def Binds (K:PySem.W.Frag) (fd:FuncData) (ps:List Str) (ds:List Value):Prop:=
 ∀(s:Shared) (us:List Value),K.In s.heap->(us++ds).length=ps.length->BindsTo s fd ⟨us,[]⟩ (ps.zip (us++ds))
theorem Binds.all {K:PySem.W.Frag}{fd:FuncData}{ps:List Str}(h:∀us:List Value,us.length=ps.length->bindArgs fd ⟨us,[]⟩=pure (ps.zip us)):Binds K fd ps []:=fun s us _ hl=>by
 rw[List.append_nil]at hl⊢;exact .of_eq (h us hl)
noncomputable def oV (CX:CXT) (X:Cx) (E:XK):Prop:=∀(pins:List (Addr×Obj)) (σ:St) (H:Hp) (s:Shared) (e:Value) (s':Shared),Inv X pins σ H s->CX X.stack H s E e s'->X.xe e s'
section
variable{X:Cx}{CX:CXT}{k:Nat}{f C:Addr}{fd:FuncData}{ps:List Str}{sp:Sp}{dvs:List V}{ds:List Value}{E:XK}{x m:Str}{p pos apos:Pos}{e o:Expr}{es:List Expr}{ta:TE}{t:TA}
theorem xV {pins:List (Addr×Obj)}{σ:St}{H:Hp}{s:Shared}{Q:VK}{us:List Value}{vs:List V}(F:FnOk X.prog X.w X.K X.mg X.base CX k f fd ps sp) (hr:Room k X.A) (hb:Binds X.K fd ps ds) (hd:Vals dvs ds) (hx:oV CX X E)
  (I:Inv X pins σ H s) (r:Vals vs us) (h:sp (vs++dvs) H Q E):wpAny (model X.prog X.w) X.A (call (.ref f) us) (EP X pins σ Q) X.xe s:=by
 have r2:Vals (vs++dvs) (us++ds):=r.append hd;have hl:(us++ds).length=ps.length:=by rw[<-r2.length];exact F.len _ _ _ _ h
 refine wpAny_call (codeAny_mono (F.run X.A X.stack s H ⟨us,[]⟩ (us++ds) (vs++dvs) Q E hr I.env0 (hb s us I.kIn hl) r2 h) fun r s' hq=>?_)
 cases r with
 |error e=>exact hx pins σ H s e s' I hq
 |ok fl=>
  cases fl with
  |ret u=>exact I.after hq
  |next=>exact False.elim hq
  |brk=>exact False.elim hq
  |cont=>exact False.elim hq
theorem kG (F:FnOk X.prog X.w X.K X.mg X.base CX k f fd ps sp) (hr:Room k X.A) (hg:Gl X x) (hm:X.mg x=some (.ref f)) (hk:PySem.W.keepIn X.K (.ref f)=true) (hb:Binds X.K fd ps ds) (hd:Vals dvs ds) (hx:oV CX X E)
  (ha:PA X (e::es) t) (hdb:(x==("__debug__":Str))=false:=by decide) (he:starEach (e::es) X.env=(false,eval e X.env)::starEach es X.env:=by rfl) (hpl:(backTo pos (starEach es X.env)).any (·.1)=false:=by rfl):
  PE X (.Call (.Name x p) (e::es) [] pos) (Ai sp dvs E t):=by
 intro pins s σ H Q I h;refine wpAny_Call_Name_kw (wT I hg hm ?_ hdb)
 refine PySem.W.callWith_K (h₀:=X.base) I.ok.mod.kin hk (thn (ha pos pins s σ H _ I h) fun us s1 ⟨vs,H1,I1,r,q⟩=>⟨I1.kIn,?_⟩) he hpl
 exact xV F hr hb hd hx I1 r q
end
section
variable{X:Cx}{CX:CXT}{k:Nat}{f C:Addr}{fd:FuncData}{ps ks:List Str}{sp:Sp}{E:XK}{x m:Str}{p pos apos kpos:Pos}{e o:Expr}{es:List Expr}{kws:List Keyword}{te ta:TE}{t tk:TA}{nm:Option Str}
variable{g:List Value->List Value->List Value}{gV:List V->List V->List V}
end
structure FnScope (N P:List Str) (sc:Scope):Prop where
 kind:sc.kind=.function
 co:sc.isCoroutine=false
 gen:sc.isGenerator=false
 nd:N.Nodup
 pre:N.take P.length=P
 par:∀x∈P,sc.names.lookup x=some .local\/sc.names.lookup x=some .cell
 nofree:∀y∈sc.names,y.2≠.free
theorem jh {kindOf:Str->Option NameKind}{x:Str}:∀{binds:List (Str×Value)}{m:Str->Option Value},(∀v,(x,v)∉binds)->bindL kindOf binds m x=m x
 |[],_,_=>rfl
 |(n,v)::r,m,h=>by
  unfold bindL;rw[jh fun w hw=>h w (List.mem_cons_of_mem _ hw)]
  split
  ·have:x≠n:=by rintro rfl;exact h v List.mem_cons_self
   simp[this]
  ·rfl
theorem kC {kindOf:Str->Option NameKind}{x:Str}:∀{binds:List (Str×Value)}{m:Str->Option Value},(∀v,(x,v)∉binds)->bindC kindOf binds m x=m x
 |[],_,_=>rfl
 |(n,v)::r,m,h=>by
  unfold bindC;rw[kC fun w hw=>h w (List.mem_cons_of_mem _ hw)]
  split
  ·rfl
  ·have:x≠n:=by rintro rfl;exact h v List.mem_cons_self
   simp[this]
theorem jr {kindOf:Str->Option NameKind}{x:Str}{v:Value}:∀{P:List Str}{vs:List Value}{i:Nat}{m:Str->Option Value},P.Nodup->P[i]?=some x->vs[i]?=some v->kindOf x=some .local->
  bindL kindOf (P.zip vs) m x=some v
 |[],_,_,_,_,h,_,_=>by simp at h
 |_::_,[],_,_,_,_,h,_=>by simp at h
 |p::P,w::vs,0,m,nd,h1,h2,hk=>by
  simp at h1 h2;subst h1;subst h2;show bindL kindOf ((p,w)::P.zip vs) m p=_;unfold bindL;rw[jh fun v hv=>(List.nodup_cons.mp nd).1 (List.of_mem_zip hv).1,if_pos hk]
  simp
 |p::P,w::vs,i+1,m,nd,h1,h2,hk=>by
  show bindL kindOf ((p,w)::P.zip vs) m x=_;unfold bindL;exact jr (i:=i) (List.nodup_cons.mp nd).2 (by simpa using h1) (by simpa using h2) hk
theorem jZ {kindOf:Str->Option NameKind}{x:Str}{v:Value}:∀{P:List Str}{vs:List Value}{i:Nat}{m:Str->Option Value},P.Nodup->P[i]?=some x->vs[i]?=some v->kindOf x≠some .local->
  bindC kindOf (P.zip vs) m x=some v
 |[],_,_,_,_,h,_,_=>by simp at h
 |_::_,[],_,_,_,_,h,_=>by simp at h
 |p::P,w::vs,0,m,nd,h1,h2,hk=>by
  simp at h1 h2;subst h1;subst h2;show bindC kindOf ((p,w)::P.zip vs) m p=_;unfold bindC;rw[kC fun v hv=>(List.nodup_cons.mp nd).1 (List.of_mem_zip hv).1,if_neg hk]
  simp
 |p::P,w::vs,i+1,m,nd,h1,h2,hk=>by
  show bindC kindOf ((p,w)::P.zip vs) m x=_;unfold bindC;exact jZ (i:=i) (List.nodup_cons.mp nd).2 (by simpa using h1) (by simpa using h2) hk
noncomputable def eA (N:List Str) (vs:List V):St:=vs.map some++List.replicate (N.length - vs.length) none
noncomputable def kD (CX:CXT) (P:Program) (w:World) (K:PySem.W.Frag) (mg:Str->Option Value) (base:Heap) (N:List Str) (qual:Str) (scope:Scope) (f:Addr) (cd:Value) (A:Around) (outer:List Env) (s:Shared) (H:Hp) (E:XK):Cx where
 prog:=P
 w:=w
 K:=K
 mg:=mg
 base:=base
 A:=A.deeper (envOfC qual scope s.heap.objs.size f cd)
 N:=N
 s₀:=s
 H₀:=H
 env:=envOfC qual scope s.heap.objs.size f cd
 outer:=outer
 stack:=envOfC qual scope s.heap.objs.size f cd::outer
 ex:=[]
 calm:=true
 fn:=fun _=>true
 pn:=[]
 xe:=fun e s'=>wpAny (model P w) (A.deeper (envOfC qual scope s.heap.objs.size f cd)) (leaving (envOfC qual scope s.heap.objs.size f cd) e) (fun _ s''=>CX outer H s E e s'') (fun e' s''=>CX outer H s E e' s'') s'
theorem mE {sc:Scope}{n:Nat}{x:Str}(h:sc.names.lookup x=some .cell):∃c,(cellsFrom n sc.names []).lookup x=some c:=by
 have q:=PySem.W.cellsFrom_some sc.names n [] (.inl h);exact Option.isSome_iff_exists.mp q
theorem qq {CX:CXT}{P:Program}{w:World}{K:PySem.W.Frag}{mg:Str->Option Value}{base:Heap}{N ps:List Str}{qual:Str}{scope:Scope}{f:Addr}{cd:Value}{A:Around}{outer:List Env}{s s1:Shared}{H:Hp}{E:XK}{us:List Value}{vs:List V}
  (S:FnScope N ps scope) (hd:A.handled=none) (e0:Env0 P w K mg base A outer s H) (hl:vs.length=ps.length) (r:Vals vs us)
  (x:InCallC s s.heap.objs.size (bindL (envOfC qual scope s.heap.objs.size f cd).kindOf (ps.zip us) fun _=>none) (cellsFrom (s.heap.objs.size+1) scope.names []) (bindC (envOfC qual scope s.heap.objs.size f cd).kindOf (ps.zip us) fun _=>none) s1):
  Inv (kD CX P w K mg base N qual scope f cd A outer s H E) [] (eA N vs) H s1:=by
 have hpl:ps.length<=N.length:=by have:=congrArg List.length S.pre;rw[List.length_take]at this;lia
 obtain⟨h1,tk,rfl,hk⟩:=x.done;have noA:∀b:Addr,b∉(kD CX P w K mg base N qual scope f cd A outer s H E).ex:=fun b z=>absurd (show b∈([]:List Addr) from z) (by simp)
 refine⟨⟨e0.mod,S.kind,rfl,rfl,Nat.le_refl _,fun y z c h1 h2=>?_,fun y hy=>?_,fun y c _ h=>?_,fun _=>hd,Around.frames_deeper e0.frames,.inr ⟨rfl,rfl⟩,fun b z=>absurd z (noA b),e0.bs,e0.bsz,fun b _ _=>noA b,fun b z=>absurd z (noA b),e0.funs,e0.frf,e0.tabs⟩,
  rfl,e0.bare,Un.kept hk,⟨_,x.toInCall.ns,fun i y v h1 h2 h3=>?_⟩,fun y c h=>⟨_,x.cell y c h⟩,e0.hok.fresh (Nat.le_refl _),fun y c h=>?_,fun p hp=>absurd (show p∈([]:List (Addr×Obj)) from hp) (by simp),e0.hok.kept hk,?_⟩
 ·exact name_of_addr x.apart (PySem.mem_of_lookup h1) (PySem.mem_of_lookup h2)
 ·have hy:scope.names.lookup y=some .cell\/scope.names.lookup y=some .free:=hy
  rcases hy with hy|hy
  ·exact mE hy
  ·exact absurd rfl (S.nofree _ (PySem.mem_of_lookup hy))
 ·exact Nat.le_of_lt (x.above y c (PySem.mem_of_lookup h))
 ·have hi:i<vs.length:=by
   unfold eA at h2
   by_cases hi:i<vs.length
   ·exact hi
   ·rw[List.getElem?_append_right (by simpa using hi)]at h2
    rw[List.getElem?_replicate]at h2
    split at h2<;>cases h2
  have ha:vs[i]?=some v:=by
   unfold eA at h2;rw[List.getElem?_append_left (by simpa using hi),List.getElem?_map]at h2
   cases e:vs[i]? with
   |none=>rw[e]at h2;contradiction
   |some a=>rw[e]at h2;cases h2;rfl
  obtain⟨u,hu,rv⟩:=r.get ha;have hp:ps[i]?=some y:=by
   rw[<-S.pre,List.getElem?_take_of_lt (by lia)];exact h1
  have ndP:ps.Nodup:=by rw[<-S.pre];exact S.nd.sublist (List.take_sublist _ _)
  refine⟨u,rv,?_⟩
  rcases S.par y (List.mem_of_getElem? hp)with k|k
  ·exact .inl ⟨k,jr ndP hp hu k⟩
  ·obtain⟨c,e⟩:=mE (n:=s.heap.objs.size+1) k
   refine .inr ⟨.inl k,c,e,?_⟩
   have q:=x.cell y c e;rw[jZ ndP hp hu (by show scope.names.lookup y≠_;rw[k];decide)]at q
   exact q
 ·exact e0.hok.fresh (Nat.le_of_lt (x.above y c (PySem.mem_of_lookup h)))
 ·unfold eA
  show _=N.length;rw[List.length_append,List.length_map,List.length_replicate]
  lia
theorem Aa {CX:CXT}{P:Program}{w:World}{K:PySem.W.Frag}{mg:Str->Option Value}{base:Heap}{k:Nat}{f:Addr}{name qual:Str}{params:Arguments}{body:List Stmt}{scope:Scope}{dV kV doc pm cdv ct oc:Value}{an od:Option Addr}
  {osl:Array (Option Value)}{N ps:List Str}{sp:Sp}(lk:K.lookup f=some ⟨oc,od,.func (PySem.W.fnOf name qual params body scope dV kV doc pm an cdv ct),osl⟩) (hcd:PySem.W.codeIn K cdv qual=true) (S:FnScope N ps scope)
  (len:∀vs H Q E,sp vs H Q E->vs.length=ps.length)
  (hbody:∀(A:Around) (outer:List Env) (s:Shared) (H:Hp) (vs:List V) (Q:VK) (E:XK),Room k (A.deeper (envOfC qual scope s.heap.objs.size f cdv))->sp vs H Q E->
   ∃t,PSs (kD CX P w K mg base N qual scope f cdv A outer s H E) body t/\t {nx:=fun _ H'=>Q .non H',rt:=Q} (eA N vs) H):
  FnOk P w K mg base CX (k+1) f (PySem.W.fnOf name qual params body scope dV kV doc pm an cdv ct) ps sp:=by
 refine⟨len,fun A outer s H args us vs Q E hr e0 hb r hsp=>?_⟩
 have hl:=len _ _ _ _ hsp;have KX:K.In s.heap:=e0.mod.kin.keeps fun b o e=>(e0.bs b o e).1
 have lim:s.heap.NoLimit:=e0.mod.nolimit.keeps fun b o e=>(e0.bs b o e).1
 have hkind:∀y∈ps.zip us,scope.names.lookup y.1=some .local\/(scope.names.lookup y.1=some .cell/\((cellsFrom (s.heap.objs.size+1) scope.names []).lookup y.1).isSome=true):=fun⟨n,v⟩ hy=>by
  rcases S.par n (List.of_mem_zip hy).1 with q|q
  ·exact .inl q
  ·exact .inr ⟨q,PySem.W.cellsFrom_some _ _ _ (.inl q)⟩
 refine codeAny_call_function hr.depth (KX _ _ lk) rfl S.co S.gen rfl (PySem.W.codeRec_of KX hcd) (hb _ _ _ _ ?_)
 refine wpAny_newFunctionEnv_cells S.kind hkind fun env he s1 x=>?_
 subst he;refine⟨lim.keeps x.toInCall.keep,codeAny_func ?_⟩
 obtain⟨t,ht,hq⟩:=hbody A outer s H vs Q E (hr.deeper _) hsp;have I:Inv (kD CX P w K mg base N qual scope f cdv A outer s H E) [] (eA N vs) H s1:=qq S hr.hd e0 hl r x;refine wpAny_mono (ht [] s1 (eA N vs) H _ I hq) (fun fl s' hs=>?_) fun e s' hs=>hs
 have fin:∀{σ':St}{H':Hp}{v:V}{u:Value},Inv (kD CX P w K mg base N qual scope f cdv A outer s H E) [] σ' H' s'->RelV v u->Q v H'->CE outer P w H s Q u s':=
  fun{σ' H' v u} J rv q=>⟨v,H',J.os,J.bare,J.base,J.hok,rv,q⟩
 cases fl with
 |ret u=>
  obtain⟨v,σ',H',J,rv,q⟩:=hs;exact fin J rv q
 |next=>
  obtain⟨σ',H',J,q⟩:=hs;exact fin (v:=V.non) (u:=Value.none) J rfl q
 |brk=>
  obtain⟨_,_,_,q⟩:=hs;exact False.elim q
 |cont=>
  obtain⟨_,_,_,q⟩:=hs;exact False.elim q
section
variable{X:Cx}{x:Str}{p pos:Pos}{e:Expr}{es:List Expr}{t:TA}{id T:String}{r:List V->Hp->VK->Prop}
noncomputable def tCB (r:List V->Hp->VK->Prop) (t:TA):TE:=fun σ H Q=>t σ H fun vs H1=>r vs H1 Q
theorem dg (hc:fA X (.builtin id) r) (hg:Gl X x) (hm:X.mg x=none) (hv:bootBuiltins x=some (.builtin id)) (ha:PA X (e::es) t) (hn:x≠"__name__":=by decide) (hdb:(x==("__debug__":Str))=false:=by decide)
  (he:starEach (e::es) X.env=(false,eval e X.env)::starEach es X.env:=by rfl) (hpl:(backTo pos (starEach es X.env)).any (·.1)=false:=by rfl):PE X (.Call (.Name x p) (e::es) [] pos) (tCB r t):=by
 intro pins s σ H Q I h;refine wpAny_Call_Name_kw (gR I hg hm hv ?_ hn hdb)
 exact PyProof.Rows.callWith_builtin1 (thn (ha pos pins s σ H _ I h) fun us s1 hz=>by obtain⟨vs,H1,I1,r1,q1⟩:=hz;exact hc pins s1 σ H1 vs us Q I1 r1 q1) he hpl
theorem gd (hc:fA X (.type T) r) (hg:Gl X x) (hm:X.mg x=none) (hv:bootBuiltins x=some (.type T)) (ha:PA X (e::es) t) (hn:x≠"__name__":=by decide) (hdb:(x==("__debug__":Str))=false:=by decide)
  (he:starEach (e::es) X.env=(false,eval e X.env)::starEach es X.env:=by rfl) (hpl:(backTo pos (starEach es X.env)).any (·.1)=false:=by rfl):PE X (.Call (.Name x p) (e::es) [] pos) (tCB r t):=by
 intro pins s σ H Q I h;refine wpAny_Call_Name_kw (gR I hg hm hv ?_ hn hdb)
 exact PyProof.Rows.callWith_type1 (thn (ha pos pins s σ H _ I h) fun us s1 hz=>by obtain⟨vs,H1,I1,r1,q1⟩:=hz;exact hc pins s1 σ H1 vs us Q I1 r1 q1) he hpl
end
section
variable{κ:Type}[DecidableEq κ]
noncomputable def bV (kvs:List (κ×V)) (k:κ):Option V:=(kvs.find? fun kv=>decide (kv.1=k)).map (·.2)
noncomputable def cF (kvs:List (κ×V)) (k:κ) (v:V):List (κ×V):=
 if(kvs.any fun kv=>decide (kv.1=k))=true then kvs.map (fun kv=>if kv.1=k then(kv.1,v) else kv) else kvs++[(k,v)]
theorem aO {p:κ×V}{r:List (κ×V)}{k:κ}(e:p.1=k):bV (p::r) k=some p.2:=by simp[bV,List.find?_cons,e]
theorem aP {p:κ×V}{r:List (κ×V)}{k:κ}(e:¬p.1=k):bV (p::r) k=bV r k:=by simp[bV,List.find?_cons,e]
theorem dj (k:κ):∀kvs:List (κ×V),(kvs.any fun kv=>decide (kv.1=k))=(bV kvs k).isSome
 |[]=>rfl
 |p::r=>by
  rw[List.any_cons]
  by_cases e:p.1=k
  ·simp only[aO e,decide_eq_true e,Bool.true_or,Option.isSome_some]
  ·rw[aP e,decide_eq_false e,Bool.false_or];exact dj k r
theorem mR (k j:κ) (y:V):∀kvs:List (κ×V),bV (kvs.map fun kv=>if kv.1=k then(kv.1,y) else kv) j=(bV kvs j).map fun x=>if j=k then y else x
 |[]=>rfl
 |p::r=>by
  have ih:=mR k j y r;rw[List.map_cons]
  by_cases h:p.1=k
  ·rw[if_pos h]
   by_cases e:p.1=j
   ·rw[aO (p:=(p.1,y)) e,aO e,Option.map_some,if_pos (e.symm.trans h)]
   ·rw[aP (p:=(p.1,y)) e,aP e,ih]
  ·rw[if_neg h]
   by_cases e:p.1=j
   ·rw[aO (p:=p) e,aO e,Option.map_some,if_neg (fun z=>h (e.trans z))]
   ·rw[aP (p:=p) e,aP e,ih]
theorem jz (k j:κ) (y:V):∀kvs:List (κ×V),bV kvs k=none->bV (kvs++[(k,y)]) j=if j=k then some y else bV kvs j
 |[],_=>by
  by_cases e:k=j
  ·rw[if_pos e.symm];exact aO (p:=(k,y)) e
  ·rw[if_neg (fun z=>e z.symm)];exact aP (p:=(k,y)) e
 |p::r,hn=>by
  rw[List.cons_append];have hk:¬p.1=k:=fun z=>by rw[aO z]at hn;contradiction
  rw[aP hk]at hn;have ih:=jz k j y r hn
  by_cases e:p.1=j
  ·rw[aO e,aO e,if_neg (fun z=>hk (e.trans z))]
  ·rw[aP e,aP e,ih]
theorem sM (kvs:List (κ×V)) (k j:κ) (y:V):bV (cF kvs k y) j=if j=k then some y else bV kvs j:=by
 unfold cF
 by_cases a:(kvs.any fun kv=>decide (kv.1=k))=true
 ·rw[if_pos a,mR]
  rw[dj]at a
  by_cases e:j=k
  ·obtain⟨x,hx⟩:=Option.isSome_iff_exists.mp a
   rw[if_pos e,e,hx,Option.map_some,if_pos rfl]
  ·rw[if_neg e]
   cases bV kvs j with
   |none=>rfl
   |some x=>rw[Option.map_some,if_neg e]
 ·rw[if_neg a]
  refine jz k j y kvs ?_
  rw[dj]at a;cases q:bV kvs k with
  |none=>rfl
  |some x=>rw[q]at a;exact(a rfl).elim
theorem aW (kvs:List (κ×V)) (k:κ) (v:V):(cF kvs k v).length<=kvs.length+1:=by
 unfold cF;split
 ·rw[List.length_map];lia
 ·rw[List.length_append,List.length_cons,List.length_nil];lia
theorem mn {kvs:List (κ×V)}{k:κ}(v:V) (h:bV kvs k=none):cF kvs k v=kvs++[(k,v)]:=by
 unfold cF;rw[dj,h];exact if_neg (by decide)
theorem RelO.isSome_eq {o:Option V}{u:Option Value}(r:RelO o u):o.isSome=u.isSome:=by
 cases o with
 |none=>cases u with
  |none=>rfl
  |some _=>exact(show False from r).elim
 |some _=>cases u with
  |none=>exact(show False from r).elim
  |some _=>rfl
theorem RelO.getD {o:Option V}{u:Option Value}{d:V}{d':Value}(r:RelO o u) (rd:RelV d d'):RelV (o.getD d) (u.getD d'):=by
 cases o with
 |none=>cases u with
  |none=>exact rd
  |some _=>exact(show False from r).elim
 |some _=>cases u with
  |none=>exact(show False from r).elim
  |some _=>exact r
theorem KV.val {kvs:List (κ×V)}{vs:List (κ×Value)}(r:KV kvs vs) (k:κ):RelO (bV kvs k) (valueAt vs k):=by
 unfold KV at r
 induction r with
 |nil=>exact True.intro
 | @cons p q ps qs h t ih=>
  obtain⟨h1,h2⟩:=h
  by_cases e:p.1=k
  ·have e':q.1=k:=h1.symm.trans e
   have b:valueAt (q::qs) k=some q.2:=by simp[valueAt,List.find?_cons,e']
   rw[aO e,b];exact h2
  ·have e':¬q.1=k:=fun z=>e (h1.trans z)
   have b:valueAt (q::qs) k=valueAt qs k:=by simp[valueAt,List.find?_cons,e']
   rw[aP e,b];exact ih
theorem KV.any {kvs:List (κ×V)}{vs:List (κ×Value)}(r:KV kvs vs) (k:κ):(kvs.any fun kv=>decide (kv.1=k))=vs.any fun kv=>decide (kv.1=k):=by
 unfold KV at r
 induction r with
 |nil=>rfl
 |cons h t ih=>rw[List.any_cons,List.any_cons,ih,h.1]
theorem KV.repl {kvs:List (κ×V)}{vs:List (κ×Value)}(r:KV kvs vs) (k:κ) {y:V}{u:Value}(ry:RelV y u):
  KV (kvs.map fun kv=>if kv.1=k then(kv.1,y) else kv) (vs.map fun kv=>if kv.1=k then(kv.1,u) else kv):=by
 unfold KV at r⊢
 induction r with
 |nil=>exact .nil
 | @cons p q ps qs h t ih=>
  rw[List.map_cons,List.map_cons];refine .cons ?_ ih
  obtain⟨h1,h2⟩:=h
  by_cases e:p.1=k
  ·rw[if_pos e,if_pos (h1.symm.trans e)];exact⟨h1,ry⟩
  ·rw[if_neg e,if_neg (fun z=>e (h1.trans z))];exact⟨h1,h2⟩
theorem KV.put {kvs:List (κ×V)}{vs:List (κ×Value)}(r:KV kvs vs) (k:κ) {y:V}{u:Value}(ry:RelV y u):KV (cF kvs k y) (stored vs k u):=by
 unfold cF stored;rw[r.any k]
 by_cases e:(vs.any fun kv=>decide (kv.1=k))=true
 ·rw[if_pos e,if_pos e];exact r.repl k ry
 ·rw[if_neg e,if_neg e];exact Paired.snoc r ⟨rfl,ry⟩
theorem KV.length {kvs:List (κ×V)}{vs:List (κ×Value)}(r:KV kvs vs):kvs.length=vs.length:=Paired.length r
end
theorem kS {P:Program}{w:World}{k:Key}{u:Value}(r:RelV (kV k) u):(aV P w).is k u=true:=by
 cases k with
 |inl i=>obtain⟨t,e⟩:=(show ∃t,u=Value.int i t from r);subst e;exact kM P w i t
 |inr x=>obtain⟨t,e⟩:=(show ∃t,u=Value.str x t from r);subst e;exact lJ P w x t
theorem jL {P:Program}{w:World}:∀{ks:List Key}{us:List Value},Vals (ks.map kV) us->ItemsAre (aV P w) ks us
 |[],_,r=>by rw[List.map_nil]at r;cases r;exact .nil
 |k::ks,_,r=>by
  rw[List.map_cons]at r;cases r with
  |cons h t=>exact .cons (kS h) (jL t)
noncomputable abbrev KT (H:Hp):List (List Key×V)->List (List Key×Addr×Value)->Prop:=Paired fun p q=>p.1=q.1/\H q.2.1=some (.tup (p.1.map kV))/\RelV p.2 q.2.2
theorem KT.val {H:Hp}{kvs:List (List Key×V)}{xs:List (List Key×Addr×Value)}(r:KT H kvs xs) (k:List Key):RelO (bV kvs k) ((atKey xs k).map (·.2)):=by
 induction r with
 |nil=>exact True.intro
 | @cons p q ps qs h t ih=>
  obtain⟨h1,_,h2⟩:=h
  by_cases e:p.1=k
  ·have e':q.1=k:=h1.symm.trans e
   have b:atKey (q::qs) k=some q.2:=by simp[atKey,List.find?_cons,e']
   rw[aO e,b];exact h2
  ·have e':¬q.1=k:=fun z=>e (h1.trans z)
   have b:atKey (q::qs) k=atKey qs k:=by simp[atKey,List.find?_cons,e']
   rw[aP e,b];exact ih
theorem KT.repl {H:Hp}{kvs:List (List Key×V)}{xs:List (List Key×Addr×Value)}(r:KT H kvs xs) (k:List Key) {y:V}{u:Value}(ry:RelV y u):
  KT H (kvs.map fun kv=>if kv.1=k then(kv.1,y) else kv) (xs.map (putAt k u)):=by
 induction r with
 |nil=>exact .nil
 | @cons p q ps qs h t ih=>
  rw[List.map_cons,List.map_cons];refine .cons ?_ ih
  obtain⟨h1,h2,h3⟩:=h;unfold putAt
  by_cases e:p.1=k
  ·rw[if_pos e,if_pos (h1.symm.trans e)];exact⟨h1,h2,ry⟩
  ·rw[if_neg e,if_neg (fun z=>e (h1.trans z))];exact⟨h1,h2,h3⟩
theorem KT.put {H:Hp}{kvs:List (List Key×V)}{xs:List (List Key×Addr×Value)}(r:KT H kvs xs) (k:List Key) {b:Addr}{y:V}{u:Value}(hb:H b=some (.tup (k.map kV))) (ry:RelV y u):
  KT H (cF kvs k y) (storedH xs k b u):=by
 have e:(kvs.any fun kv=>decide (kv.1=k))=(atKey xs k).isSome:=by
  rw[dj,(r.val k).isSome_eq,Option.isSome_map]
 unfold cF storedH;rw[e]
 by_cases q:(atKey xs k).isSome=true
 ·rw[if_pos q,if_pos q];exact r.repl k ry
 ·rw[if_neg q,if_neg q];exact Paired.snoc r ⟨rfl,hb,ry⟩
theorem KT.keeps {H H':Hp}{kvs:List (List Key×V)}{xs:List (List Key×Addr×Value)}(r:KT H kvs xs) (ht:∀b ys,H b=some (.tup ys)->H' b=some (.tup ys)):KT H' kvs xs:=
 Paired.mapP r fun _ _ z=>⟨z.1,ht _ _ z.2.1,z.2.2⟩
section
variable{P:Program}{w:World}{H:Hp}{h:Heap}{a:Addr}
theorem gB {u:HO}(ok:HOk P w H h) (e:Rd H a u):ObjOk P w H h a u:=e.ok ok
theorem k9 {kvs:List (Key×V)}(ok:HOk P w H h) (e:Rd H a (.dK kvs)):kvs.length<=sizeLine/\(a==sysModules)=false/\∃vs,KV kvs vs/\h.DictOf (aV P w) a vs:=
 show ObjOk P w H h a (.dK kvs) from gB ok e
theorem yG {kvs:List (Key×V)}(ok:HOk P w H h) (e:H a=some (.dK kvs)):kvs.length<=sizeLine/\(a==sysModules)=false/\∃vs,KV kvs vs/\h.DictOf (aV P w) a vs:=k9 ok (.inl e)
theorem gW {ks:List Key}(ok:HOk P w H h) (e:H a=some (.tup (ks.map kV))):(tupleKind (aV P w)).is h ks a:=by
 obtain⟨_,its,r,o,h1,h2,n,h3⟩:=(show ObjOk P w H h a (.tup (ks.map kV)) from ok a _ e)
 exact⟨o,its.toArray,n,h1,h2,h3,by simpa using jL r⟩
theorem ro {kvs:List (List Key×V)}(ok:HOk P w H h) (e:Rd H a (.dT kvs)):kvs.length<=sizeLine/\(a==sysModules)=false/\
  ∃xs,KT H kvs xs/\h.DictOfH (tupleKind (aV P w)) a xs:=by
 obtain⟨z,y,xs,r,o,es,ep,h1,h2,h3,h4,h5⟩:=(show ObjOk P w H h a (.dT kvs) from gB ok e)
 refine⟨z,y,xs,r,o,es,ep,h1,h2,h3,h4,fun x hx=>?_,h5⟩
 have all:∀{l:List (List Key×V)}{m:List (List Key×Addr×Value)},KT H l m->∀x∈m,(tupleKind (aV P w)).is h x.1 x.2.1:=by
  intro l m q
  induction q with
  |nil=>intro x hx;exact nomatch hx
  | @cons p q ps qs hq t ih=>
   intro x hx
   rcases List.mem_cons.mp hx with e|hx
   ·subst e
    exact gW ok (by rw[<-hq.1];exact hq.2.1)
   ·exact ih x hx
 exact all r x hx
theorem xM {kvs:List (List Key×V)}(ok:HOk P w H h) (e:H a=some (.dT kvs)):kvs.length<=sizeLine/\(a==sysModules)=false/\
  ∃xs,KT H kvs xs/\h.DictOfH (tupleKind (aV P w)) a xs:=ro ok (.inl e)
end
noncomputable def zj (H:Hp) (a:Addr) (y:V) (r:Option V):Prop:=
 (∃kvs k,Rd H a (.dK kvs)/\y=kV k/\r=bV kvs k)\/∃kvs k b,Rd H a (.dT kvs)/\y=.ref b/\H b=some (.tup (k.map kV))/\r=bV kvs k
noncomputable def Bb (H:Hp) (a:Addr) (y v:V) (H':Hp):Prop:=
 (∃kvs k,H a=some (.dK kvs)/\y=kV k/\kvs.length<sizeLine/\H'=upd H a (.dK (cF kvs k v)))\/
 ∃kvs k b,H a=some (.dT kvs)/\y=.ref b/\H b=some (.tup (k.map kV))/\kvs.length<sizeLine/\H'=upd H a (.dT (cF kvs k v))
section
variable{X:Cx}{pins:List (Addr×Obj)}{σ:St}{H:Hp}{s:Shared}{a:Addr}{y v:V}{u r:Value}{o:Option V}{A:Around}{E:Value->Shared->Prop}
theorem Inv.big (I:Inv X pins σ H s):sysModules<s.heap.objs.size:=by
 have h:mainGlobals<s.heap.objs.size:=(I.mod.glob.keeps I.bk).lt;exact Nat.lt_trans (by decide) h
theorem rl {Q:Value->Shared->Prop}(hu:A.units+1<cLine) (I:Inv X pins σ H s) (g:zj H a y (some v)) (ry:RelV y u) (h:∀w' s',Inv X pins σ H s'->RelV v w'->Q w' s'):
  wpAny (model X.prog X.w) A (getItem (.ref a) u) Q E s:=by
 rcases g with⟨kvs,k,e,ey,l⟩|⟨kvs,k,b,e,ey,eb,l⟩
 ·subst ey
  obtain⟨z,hd,vs,rel,dd⟩:=k9 I.hok e;obtain⟨w',hw,rw'⟩:=RelO.some_of (v:=v) (o:=valueAt vs k) (by rw[l];exact rel.val k)
  exact wpAny_getItem_of (kS ry) dd.mapOf hw (h w' _ (I.tok _) rw')
 ·subst ey
  cases (show u=Value.ref b from ry)
  obtain⟨z,hd,xs,rel,dd⟩:=ro I.hok e;obtain⟨w',hw,rw'⟩:=RelO.some_of (v:=v) (o:=(atKey xs k).map (·.2)) (by rw[l];exact rel.val k)
  obtain⟨p,hp,hp2⟩:=Option.map_eq_some_iff.mp hw;refine wpAny_getItem_heap (tupleKind_room_in1 hu) (gW I.hok eb) dd hp ?_
  rw[hp2];exact h w' _ (I.tok _) rw'
theorem vM {Q:Value->Shared->Prop}(hu:A.units+1<cLine) (I:Inv X pins σ H s) (g:zj H a y o) (ry:RelV y u) (h:∀s',Inv X pins σ H s'->Q (.bool (!o.isSome)) s'):
  wpAny (model X.prog X.w) A (compareOp .NotIn u (.ref a)) Q E s:=by
 rcases g with⟨kvs,k,e,ey,l⟩|⟨kvs,k,b,e,ey,eb,l⟩
 ·subst ey
  obtain⟨z,hd,vs,rel,dd⟩:=k9 I.hok e;refine wpAny_notIn_of (kS ry) hd dd.mapOf ?_
  rw[<-(rel.val k).isSome_eq,<-l];exact h _ (I.tok _)
 ·subst ey
  cases (show u=Value.ref b from ry)
  obtain⟨z,hd,xs,rel,dd⟩:=ro I.hok e;refine wpAny_notIn_heap (tupleKind_room_in1 hu) (gW I.hok eb) hd dd ?_
  have q:=(rel.val k).isSome_eq;rw[Option.isSome_map]at q;rw[<-q,<-l];exact h _ (I.tok _)
theorem dC {h':Heap}{t':Nat}{ob:HO}(I:Inv X pins σ H s) (mu:Mut (H a)) (hs:Heap.SameBut a s.heap h') (he:∃q,h'.get? a=some q) (new:ObjOk X.prog X.w (upd H a ob) h' a ob):
  Inv X pins σ (upd H a ob) {s with heap:=h',toks:=t'}:=
 I.write (x:=a) (e:=a) mu (.inl rfl) (fun b q hb z=>(hs.2 b hb).trans z) he new
theorem uE {P:Program}{w:World}{H':Hp}{h':Heap}{kvs:List (Key×V)}{vs:List (Key×Value)}(z:kvs.length<=sizeLine) (hd:(a==sysModules)=false) (rel:KV kvs vs) (dd:h'.DictOf (aV P w) a vs):
  ObjOk P w H' h' a (.dK kvs):=⟨z,hd,vs,rel,dd⟩
theorem qm {H':Hp}{Q:Unit->Shared->Prop}(hu:A.units+1<cLine) (I:Inv X pins σ H s) (g:Bb H a y v H') (ry:RelV y u) (rv:RelV v r) (h:∀s',Inv X pins σ H' s'->Q () s'):
  wpAny (model X.prog X.w) A (setItem (.ref a) u r) Q E s:=by
 rcases g with⟨kvs,k,e,ey,l,eH⟩|⟨kvs,k,b,e,ey,eb,l,eH⟩
 ·subst ey eH
  obtain⟨z,hd,vs,rel,dd⟩:=yG I.hok e;have hz:vs.length<=sizeLine:=by rw[<-rel.length];exact z
  have hl:(cF kvs k v).length<=sizeLine:=by have:=aW kvs k v;lia
  refine wpAny_setItem_pairs (hsz:=hz) (kS ry) dd fun h' dd' hs=>h _ ?_
  have he:∃q,h'.get? a=some q:=let ⟨q,_,_,hq,_⟩:=dd';⟨q,hq⟩
  exact dC I (by rw[e];exact True.intro) hs he (uE hl hd (rel.put k rv) dd')
 ·subst ey eH
  cases (show u=Value.ref b from ry)
  obtain⟨z,hd,xs,rel,dd⟩:=xM I.hok e;have hz:xs.length<=sizeLine:=by rw[<-Paired.length rel];exact z
  have hl:(cF kvs k v).length<=sizeLine:=by have:=aW kvs k v;lia
  refine wpAny_setItem_heap (hsz:=hz) (tupleKind_room_in1 hu) (gW I.hok eb) dd fun h' dd' hs=>h _ ?_
  obtain⟨q,es,ep,hq,h2,h3,h4,_,h5⟩:=dd';refine dC I (by rw[e];exact True.intro) hs ⟨q,hq⟩ ⟨hl,hd,_,(rel.put k eb rv).keeps fun c ys ec=>?_,q,es,ep,hq,h2,h3,h4,h5⟩
  rw[aj (iO ec e (fun z=>nomatch z))]
  exact ec
end
section
variable{X:Cx}{pins:List (Addr×Obj)}{σ:St}{H:Hp}{s:Shared}{a:Addr}{kvs:List (Key×V)}{k:Key}{u:Value}{A:Around}{E:Value->Shared->Prop}
end
noncomputable def xj (i:Expr):Prop:=∀ov iv,subscripted i false ov iv=operate [ov,iv] (getItem ov iv)
theorem wV {prog:Program}{w:World}{A:Around}{E:Value->Shared->Prop}{s:Shared}{env:Env}{value slice:Expr}{pos:Pos}{T id:String}{Q:Value->Shared->Prop}
  (hl:typeLookup (.type T) "__getitem__"=pure (some (.builtin id))) (hs:xj slice)
  (h:wpAny (model prog w) A (eval value env) (fun o s₁=>wpAny (model prog w) A (eval slice env) (fun i s₂=>s₂.TypeIs o T/\wpAny (model prog w) A (getItem o i) Q E s₂) E s₁) E s):
  wpAny (model prog w) A (eval (.Subscript value slice pos) env) Q E s:=by
 refine Subscript_ (wpAny_mono h (fun o s₁ h₁=>wpAny_mono h₁ (fun i s₂ h₂=>?_) fun _ _ x=>x) fun _ _ x=>x)
 obtain⟨hT,h₂⟩:=h₂;unfold subscriptTail;refine wpAny_bind ?_
 rw[getitemInPython_of_ne hT.not_modules];refine wpAny_bind (wpAny_specialOf hT hl ?_)
 have fin:wpAny (model prog w) A (subscripted slice false o i) (fun r s₃=>wpAny (model prog w) A (letTemporaryGo value o r >>= fun _=>pure r) Q E s₃) E s₂:=by
  rw[hs o i];exact wpAny_operating (wpAny_mono h₂ (fun r s₃ h₃=>wpAny_bind (wpAny_letTemporaryGo (wpAny_pure h₃))) fun _ _ x=>x)
 first
  |exact wpAny_pure (wpAny_bind fin)
  |exact wpAny_bind (wpAny_pure (wpAny_bind fin))
  |exact wpAny_bind fin
theorem k7 {X:Cx}{pins:List (Addr×Obj)}{σ:St}{H:Hp}{s:Shared}{a:Addr}{y:V}{o:Option V}(I:Inv X pins σ H s) (g:zj H a y o):s.TypeIs (.ref a) "dict":=by
 rcases g with⟨kvs,k,e,_,_⟩|⟨kvs,k,b,e,_,_,_⟩
 ·obtain⟨_,_,vs,_,dd⟩:=k9 I.hok e
  exact dd.typeIs
 ·obtain⟨_,_,xs,_,dd⟩:=ro I.hok e
  exact dd.typeIs
section
variable{X:Cx}{o i e value:Expr}{pos pos' tpos:Pos}{td ty tv:TE}
end
section
variable{X:Cx}{pos:Pos}
end
section
variable{X:Cx}{pins:List (Addr×Obj)}{σ:St}{H:Hp}{s:Shared}{a:Addr}{y d:V}{u r:Value}{o:Option V}{A:Around}{E:Value->Shared->Prop}
theorem yo {Q:Value->Shared->Prop}(hu:A.units+1<cLine) (I:Inv X pins σ H s) (g:zj H a y o) (ry:RelV y u) (rd:RelV d r) (h:∀w' s',Inv X pins σ H s'->RelV (o.getD d) w'->Q w' s'):
  wpAny (model X.prog X.w) A (call (.builtin "dict.get") [.ref a,u,r]) Q E s:=by
 rcases g with⟨kvs,k,e,ey,l⟩|⟨kvs,k,b,e,ey,eb,l⟩
 ·subst ey
  obtain⟨z,hd,vs,rel,dd⟩:=k9 I.hok e;refine call_meetsIn PySem.F.slot_dict_get dd.typeIs PySem.F.entry_dict_get (PySem.F.args_dict_get_3 _ _ _) (meets_dict_get_default (aV X.prog X.w) a (kS ry) hd r) ⟨_,dd.mapOf,h _ _ (I.tok _) ?_⟩
  rw[l];exact(rel.val k).getD rd
 ·subst ey
  cases (show u=Value.ref b from ry)
  obtain⟨z,hd,xs,rel,dd⟩:=ro I.hok e;refine call_meetsIn PySem.F.slot_dict_get dd.typeIs PySem.F.entry_dict_get (PySem.F.args_dict_get_3 _ _ _) (meetsH_dict_get_default (tupleKind (aV X.prog X.w)) a b hd r) ⟨tupleKind_room_in1 hu,k,xs,gW I.hok eb,dd,h _ _ (I.tok _) ?_⟩
  rw[l];exact(rel.val k).getD rd
end
section
variable{X:Cx}{o e f:Expr}{apos cpos:Pos}{td ty tx:TE}
end
section
variable{X:Cx}{pins:List (Addr×Obj)}{σ:St}{H:Hp}{s:Shared}{a:Addr}{kvs:List (Key×V)}{A:Around}{E:Value->Shared->Prop}
end
section
variable{X:Cx}{pins:List (Addr×Obj)}{σ:St}{H:Hp}{s:Shared}{a:Addr}{y:V}{u:Value}{A:Around}{E:Value->Shared->Prop}
end
end L2
namespace HT
open PySem PyProof.Rows
theorem rcLt_int (A:Around) (s:Shared) (a:Int) (t:Tok) (c:Int) (u:Tok) (prog:Program) (w:World) (E:Value->Shared->Prop) (Q:Value->Shared->Prop) (h:Q (.bool (decide (a<c))) s):
  wpAny (model prog w) A (richCompare .Lt (.int a t) (.int c u)) Q E s:=
 (PyProof.Rows.lt_int h:wpAny (model prog w) A (compareOp .Lt (.int a t) (.int c u)) Q E s)
section
open PySem.SeqAt
open PySem.AutoSeq1 (wpAny_loadPart')
open PySem.MeetsSeq PySem.MeetsSeq2 PySem.MeetsSeq3
end
section
variable{prog:Program}{w:World}{A:Around}{E:Value->Shared->Prop}{s:Shared}
noncomputable def sIx (n d:Nat):Option Int->Nat
 |none=>d
 |some v=>if v<0 then(v+(n:Int)).toNat else min v.toNat n
end
end HT
namespace L2
open PySem PySem.Spec PyProof.Rows
variable[Lams]
noncomputable abbrev TO:=St->Hp->(Option Int->Hp->Prop)->Prop
noncomputable def PO (X:Cx) (e:Option Expr) (t:TO):Prop:=
 ∀(pins:List (Addr×Obj)) (s:Shared) (σ:St) (H:Hp) (Q:Option Int->Hp->Prop),Inv X pins σ H s->t σ H Q->
  wpAny (model X.prog X.w) X.A (evalPart e X.env) (fun u s'=>∃o H',Inv X pins σ H' s'/\IsPart u o/\Q o H') X.xe s
noncomputable def tNoPart:TO:=fun _ H Q=>Q none H
noncomputable def Ax (t:TE):TO:=fun σ H Q=>t σ H fun x H1=>∃i,x=.int i/\Q (some i) H1
section
variable{X:Cx}{e:Expr}{te:TE}{lo hi:Option Expr}{tl th:TO}{pos p2:Pos}
theorem wO:PO X none tNoPart:=by
 intro pins s σ H Q I h;rw[evalPart_none];exact wpAny_pure ⟨none,H,I,.none,h⟩
theorem wG (h:PE X e te):PO X (some e) (Ax te):=by
 intro pins s σ H Q I hw;rw[evalPart_some];refine thn (h pins s σ H _ I hw) fun u s1 hz=>?_
 obtain⟨x,H1,I1,r1,q1⟩:=hz;obtain⟨i,rfl,q⟩:=q1;obtain⟨t,rfl⟩:=r1;exact⟨some i,H1,I1,.int i t,q⟩
noncomputable def SlR (X:Cx) (r:V->Option Int->Option Int->Hp->VK->Prop):Prop:=
 ∀(pins:List (Addr×Obj)) (s:Shared) (σ:St) (H:Hp) (x:V) (v vl vu:Value) (lo hi:Option Int) (sl:Addr) (Q:VK),Inv X pins σ H s->RelV x v->s.heap.IsSliceOf sl vl vu .none->IsPart vl lo->IsPart vu hi->r x lo hi H Q->
  ∃T id,typeLookup (.type T) "__getitem__"=pure (some (.builtin id))/\s.TypeIs v T/\wpAny (model X.prog X.w) X.A (getItem v (.ref sl)) (EP X pins σ Q) X.xe s
noncomputable def tSl (r:V->Option Int->Option Int->Hp->VK->Prop) (te:TE) (tl th:TO):TE:=fun σ H Q=>te σ H fun x H1=>tl σ H1 fun l H2=>th σ H2 fun u H3=>r x l u H3 Q
theorem sw {r:V->Option Int->Option Int->Hp->VK->Prop}(hr:SlR X r) (he:PE X e te) (hl:PO X lo tl) (hu:PO X hi th):PE X (.Subscript e (.Slice lo hi none p2) pos) (tSl r te tl th):=by
 intro pins s σ H Q I h;refine Subscript_ (thn (he pins s σ H _ I h) fun v s1 hz=>?_)
 obtain⟨x,H1,I1,r1,q1⟩:=hz;refine wpAny_Slice (thn (hl pins s1 σ H1 _ I1 q1) fun vl s2 ⟨l,H2,I2,pl,q2⟩=>thn (hu pins s2 σ H2 _ I2 q2) fun vu s3 hz=>?_)
 obtain⟨u,H3,I3,pu,q3⟩:=hz;rw[evalPart_none];refine wpAny_pure ?_
 have I4:Inv X pins σ H3 {s3 with heap:=s3.heap.push {cls:=.type "slice",data:=.fields #[vl,vu,.none]}}:=I3.kept (t':=s3.toks) fun b ob q=>Heap.get?_push_of_some _ q
 obtain⟨T,id,hT,ht,hg⟩:=hr pins {s3 with heap:=s3.heap.push {cls:=.type "slice",data:=.fields #[vl,vu,.none]}} σ H3 x v vl vu l u s3.heap.objs.size Q I4 r1 (Heap.IsSliceOf.new ..) pl pu q3
 show wpAny (model X.prog X.w) X.A (subscriptTail e (.Slice lo hi none p2) v (.ref s3.heap.objs.size)) (EP X pins σ Q) X.xe {s3 with heap:=s3.heap.push {cls:=.type "slice",data:=.fields #[vl,vu,.none]}}
 exact tail_any (ops:=[.ref s3.heap.objs.size,v]) ht hT hg (by with_unfolding_all rfl)
noncomputable def vo (xs:List V) (lo hi:Option Int):List V:=(xs.drop (HT.sIx xs.length 0 lo)).take (HT.sIx xs.length xs.length hi - HT.sIx xs.length 0 lo)
theorem ln (xs:List V) (lo hi:Option Int):(vo xs lo hi).length<=xs.length:=by
 unfold vo;rw[List.length_take,List.length_drop]
 lia
end
noncomputable def ixN (n:Nat) (i:Int):Option Nat:=if 0<=i then(if i<n then some i.toNat else none) else if -(n:Int)<=i then some (i+n).toNat else none
noncomputable def atI {α:Type}(xs:List α) (i:Int):Option α:=(ixN xs.length i).bind fun j=>xs[j]?
theorem wD {n:Nat}{i:Int}{j:Nat}(h:ixN n i=some j):seqIndex? i n=some j/\j<n/\ -(n:Int)<=i/\i<n:=by
 unfold ixN at h
 by_cases h0:0<=i
 ·rw[if_pos h0]at h
  by_cases h1:i<n
  ·rw[if_pos h1]at h
   have e:i.toNat=j:=Option.some.inj h;exact⟨by rw[seqIndex_of h0 h1,e],by lia,by lia,h1⟩
  ·rw[if_neg h1]at h;contradiction
 ·rw[if_neg h0]at h
  by_cases h1: -(n:Int)<=i
  ·rw[if_pos h1]at h
   have e:(i+n).toNat=j:=Option.some.inj h;exact⟨by rw[seqIndex_neg (by lia) h1,e],by lia,h1,by lia⟩
  ·rw[if_neg h1]at h;contradiction
theorem lE {α:Type}{xs:List α}{i:Int}{v:α}(h:atI xs i=some v):∃j,seqIndex? i xs.length=some j/\xs[j]?=some v/\j<xs.length/\ -(xs.length:Int)<=i/\i<xs.length:=by
 unfold atI at h;cases e:ixN xs.length i with
 |none=>rw[e]at h;contradiction
 |some j=>
  rw[e]at h;obtain⟨h1,h2,h3,h4⟩:=wD e;exact⟨j,h1,h,h2,h3,h4⟩
theorem pY {α:Type}{xs:List α}{j:Nat}{v:α}(h:xs[j]?=some v):atI xs (j:Int)=some v:=by
 have hj:j<xs.length:=(List.getElem?_eq_some_iff.mp h).1
 have e:ixN xs.length (j:Int)=some j:=by
  unfold ixN;rw[if_pos (by lia),if_pos (by lia)];simp
 unfold atI;rw[e];exact h
noncomputable def i0 (b:Expr):Prop:=∀o i,subscripted b false o i=operate [o,i] (getItem o i)
noncomputable def IxR (X:Cx) (r:R2):Prop:=
 ∀(value slice:Expr) (pins:List (Addr×Obj)) (s:Shared) (σ:St) (H:Hp) (x y:V) (v u:Value) (Q:VK),Inv X pins σ H s->RelV x v->RelV y u->r x y H Q->
  subscripted slice false v u=operate [v,u] (getItem v u)->wpAny (model X.prog X.w) X.A (subscriptTail value slice v u) (EP X pins σ Q) X.xe s
noncomputable def MtR (X:Cx) (id:String) (r:V->List V->Hp->VK->Prop):Prop:=
 ∀(pins:List (Addr×Obj)) (s:Shared) (σ:St) (H:Hp) (x:V) (xs:List V) (v:Value) (us:List Value) (Q:VK),Inv X pins σ H s->RelV x v->Vals xs us->r x xs H Q->
  wpAny (model X.prog X.w) X.A (call (.builtin id) (v::us)) (EP X pins σ Q) X.xe s
section
variable{X:Cx}{a b:Expr}{ta tb:TE}{pos:Pos}
theorem IxR.or {r r':R2}(h:IxR X r) (h':IxR X r'):IxR X (fun x y H Q=>r x y H Q\/r' x y H Q):=by
 intro value slice pins s σ H x y v u Q I rx ry q hs
 rcases q with q|q
 ·exact h value slice pins s σ H x y v u Q I rx ry q hs
 ·exact h' value slice pins s σ H x y v u Q I rx ry q hs
theorem wL {r:R2}(hr:IxR X r) (ha:PE X a ta) (hb:PE X b tb) (hs:i0 b):PE X (.Subscript a b pos) (tOp r ta tb):=by
 intro pins s σ H Q I h;exact Subscript_ (AA ha hb I h fun v u s2 x y H2 I2 rx ry q=>hr a b pins s2 σ H2 x y v u Q I2 rx ry q (hs _ _))
noncomputable def Bq (K:PySem.W.Frag):R2:=fun x y H Q=>∃p xs i v,x=.ref p/\y=.int i/\SqL K H p xs/\atI xs i=some v/\Q v H
noncomputable def A9 (K:PySem.W.Frag):R2:=fun x y H Q=>∃p xs i v,x=.ref p/\y=.int i/\SqT K H p xs/\atI xs i=some v/\Q v H
noncomputable def rIxS:R2:=fun x y H Q=>∃z i c,x=.str z/\y=.int i/\z.length<=sizeLine/\atI z.cps.toList i=some c/\Q (.str ⟨#[c]⟩) H
theorem vD:IxR X (Bq X.K):=by
 intro value slice pins s σ H x y v u Q I rx ry h hs;obtain⟨p,xs,i,z,rfl,rfl,hq,he,q⟩:=h;cases rx;obtain⟨t,rfl⟩:=ry;obtain⟨its,r,pl,hz⟩:=I.list hq;obtain⟨j,h1,h2,h3,h4,h5⟩:=lE he;obtain⟨w,ew,rw'⟩:=r.get h2;have hl:=r.length;have hn:=hV;have fin:EP X pins σ Q w s:=⟨z,H,I,rw',q⟩
 by_cases h0:0<=i
 ·have hj:i.toNat=j:=by
   rw[seqIndex_of h0 h5]at h1;exact Option.some.inj h1
  exact item_listR pl.isList h0 (by lia) (by rw[hj];simpa using ew) fin hs
 ·have hj:(i+(its.toArray.size:Int)).toNat=j:=by
   rw[seqIndex_neg (by lia) h4]at h1
   rw[List.size_toArray,<-hl];exact Option.some.inj h1
  exact subscriptTail_builtinR (x:=w) pl.isList.typeIs slot_list_getitem.lookup
   (wpAny_getItem_list_neg (Q:=fun r s'=>r=w/\EP X pins σ Q r s') pl.isList (by lia) (by rw[List.size_toArray]<;>lia) (by lia) (by rw[hj];simpa using ew) ⟨rfl,fin⟩) hs
theorem zo:IxR X (A9 X.K):=by
 intro value slice pins s σ H x y v u Q I rx ry h hs;obtain⟨p,xs,i,z,rfl,rfl,hq,he,q⟩:=h;cases rx;obtain⟨t,rfl⟩:=ry;obtain⟨its,r,pl,hz⟩:=I.tuple hq;obtain⟨j,h1,h2,h3,h4,h5⟩:=lE he;obtain⟨w,ew,rw'⟩:=r.get h2;have hl:=r.length;have hn:=hV;have fin:EP X pins σ Q w s:=⟨z,H,I,rw',q⟩;exact subscriptTail_builtinR (x:=w) pl.typeIs slot_tuple_getitem.lookup
  (getItem_tuple (j:=j) (Q:=fun r s'=>r=w/\EP X pins σ Q r s') pl (by lia) (by lia) (by rw[List.size_toArray,<-hl];exact h1) (by simpa using ew) ⟨rfl,fin⟩) hs
theorem uT:IxR X rIxS:=by
 intro value slice pins s σ H x y v u Q I rx ry h hs;obtain⟨z,i,c,rfl,rfl,hz,he,q⟩:=h;obtain⟨t,rfl⟩:=rx;obtain⟨t',rfl⟩:=ry;obtain⟨j,h1,h2,h3,h4,h5⟩:=lE he;have hl:z.cps.toList.length=z.length:=by simp[Str.length]
 rw[hl]at h1 h4 h5;have hn:=hV;exact tail_any (typeIs_str s z t) slot_str_getitem.lookup (getItem_str (c:=c) (by
  have e1:decide (i< -(2 ^ 63:Int))=false:=decide_eq_false (by lia)
  have e2:decide (i>=2 ^ 63)=false:=decide_eq_false (by lia)
  rw[e1,e2,Bool.or_false]) (by rw[h1];simpa using h2) ⟨.str ⟨#[c]⟩,H,I.tok _,⟨_,rfl⟩,q⟩) hs
noncomputable def rIx (K:PySem.W.Frag):R2:=fun x y H Q=>Bq K x y H Q\/A9 K x y H Q\/rIxS x y H Q
theorem uR:IxR X (rIx X.K):=vD.or (zo.or uT)
theorem jT (lo hi:Option Int) (n:Nat):(sliceBounds lo hi none n).1=((HT.sIx n 0 lo:Nat):Int)/\(sliceBounds lo hi none n).2.1=((HT.sIx n n hi:Nat):Int)/\(sliceBounds lo hi none n).2.2=1:=by
 refine⟨?_,?_,rfl⟩
 ·cases lo with
  |none=>simp[sliceBounds,HT.sIx]
  |some i=>
   simp only[sliceBounds,HT.sIx,Option.getD_none,show(1:Int)>0 by decide,if_true]
   by_cases h:i<0
   ·simp only[h,if_true]<;>lia
   ·simp only[h,if_false]<;>lia
 ·cases hi with
  |none=>simp[sliceBounds,HT.sIx]
  |some i=>
   simp only[sliceBounds,HT.sIx,Option.getD_none,show(1:Int)>0 by decide,if_true]
   by_cases h:i<0
   ·simp only[h,if_true]<;>lia
   ·simp only[h,if_false]<;>lia
theorem iz (its:List Value) (lo hi:Option Int):slicePick its.toArray lo hi none=((its.drop (HT.sIx its.length 0 lo)).take (HT.sIx its.length its.length hi - HT.sIx its.length 0 lo)).toArray:=by
 obtain⟨h1,h2,h3⟩:=jT lo hi its.toArray.size;unfold slicePick;rw[h1,h2,h3];simp only[sliceRange_one,pick_run,List.size_toArray]<;>rfl
noncomputable def B1 (K:PySem.W.Frag):V->Option Int->Option Int->Hp->VK->Prop:=fun x lo hi H Q=>∃a xs,x=.ref a/\SqL K H a xs/\∀p,H p=none->Q (.ref p) (upd H p (.lst (vo xs lo hi)))
theorem vc:SlR X (B1 X.K):=by
 intro pins s σ H x v vl vu lo hi sl Q I rx hs pl pu h;obtain⟨a,xs,rfl,hx,q⟩:=h;cases rx;obtain⟨its,r,ht,hz⟩:=I.list hx;have hlen:=r.length;refine⟨"list",_,slot_list_getitem.lookup,ht.isList.typeIs,?_⟩
 refine wpAny_getItem_list_slice ht.isList hs pl pu .none (by simp) ?_ (by rw[List.size_toArray]<;>lia)
 rw[iz,<-hlen];refine⟨.ref s.heap.objs.size,_,I.laid (t':=s.toks) (o:=.lst (vo xs lo hi)) (fun b ob q=>Heap.get?_push_of_some _ q) (Nat.le_refl _) ?_,rfl,q _ (I.hok.fresh (Nat.le_refl _))⟩
 exact⟨Nat.le_trans (ln xs lo hi) hz,_,0,(r.drop (HT.sIx xs.length 0 lo)).take (HT.sIx xs.length xs.length hi - HT.sIx xs.length 0 lo),Heap.get?_push_size _ rfl⟩
theorem jW:fA X (.builtin "len") (fun xs H Q=>∃p ys,xs=[.ref p]/\(SqL X.K H p ys\/SqT X.K H p ys)/\Q (.int ys.length) H):=by
 intro pins s σ H xs us Q I r h;obtain⟨p,ys,rfl,hq,q⟩:=h;obtain⟨u,rfl,rx⟩:=jU r;cases rx;have hn:=hV
 rcases hq with hq|hq
 ·obtain⟨its,r',pl,hz⟩:=I.list hq
  have hlen:=r'.length;exact Calls.call_len_list pl.isList (by simp only[List.size_toArray]<;>lia) ⟨.int ys.length,H,I.tok _,⟨s.toks+1,by rw[List.size_toArray,hlen]⟩,q⟩
 ·obtain⟨its,r',pl,hz⟩:=I.tuple hq
  have hlen:=r'.length;exact len_tuple pl (by simp only[List.size_toArray]<;>lia) ⟨.int ys.length,H,I.tok _,⟨s.toks+1,by rw[List.size_toArray,hlen]⟩,q⟩
theorem jC:fA X (.builtin "len") (fun xs H Q=>∃z,xs=[.str z]/\z.length<=sizeLine/\Q (.int z.length) H):=by
 intro pins s σ H xs us Q I r h;obtain⟨z,rfl,hz,q⟩:=h;obtain⟨u,rfl,t,rfl⟩:=jU r;have hn:=hV;exact len_str (by lia) ⟨.int z.length,H,I.tok _,⟨_,rfl⟩,q⟩
theorem iN:fA X (.type "tuple") (fun xs H Q=>∃p ys,xs=[.ref p]/\((SqL X.K H p ys/\∀l,H l=none->Q (.ref l) (upd H l (.tup ys)))\/(SqT X.K H p ys/\Q (.ref p) H))):=by
 intro pins s σ H xs us Q I r h;obtain⟨p,ys,rfl,h⟩:=h;obtain⟨u,rfl,rx⟩:=jU r;cases rx
 rcases h with⟨hq,q⟩|⟨hq,q⟩
 ·obtain⟨its,r',pl,hz⟩:=I.list hq
  have hlen:=r'.length;refine call_tuple_list pl.isList (fun h' kp=>?_) (by simp only[List.size_toArray]<;>lia)
  have I1:Inv X pins σ H {s with heap:=h'}:=I.kept (t':=s.toks) kp
  have I2:Inv X pins σ (upd H h'.objs.size (.tup ys)) {s with heap:=h'.push {cls:=.type "tuple",data:=.seq its.toArray}}:=
   I1.laid (t':=s.toks) (fun b o e=>Heap.get?_push_of_some _ e) (Nat.le_refl _) (show ObjOk X.prog X.w _ _ _ (.tup ys) from⟨hz,its,r',IsTup.new _ _⟩)
  exact⟨.ref h'.objs.size,_,I2,rfl,q _ (I1.hok.fresh (Nat.le_refl _))⟩
 ·obtain⟨its,r',pl,hz⟩:=I.tuple hq
  exact call_tuple_same pl ⟨.ref p,H,I,rfl,q⟩
noncomputable def tyV (K:PySem.W.Frag) (T:String) (x:V) (H:Hp):Prop:=match x with
 |.str _=>T="str"
 |.int _=>T="int"
 |.ref p=>(T="list"/\∃xs,SqL K H p xs)\/(T="tuple"/\∃o,K.lookup p=some o/\o.cls=.type "tuple"/\o.dict=none)\/
   (T="dict"/\((∃kvs,H p=some (.dK kvs))\/∃kvs,H p=some (.dT kvs)))\/(T="set"/\∃S n,H p=some (.set S n))
 |_=>False
theorem zp {pins:List (Addr×Obj)}{σ:St}{H:Hp}{s:Shared}{T:String}{x:V}{v:Value}(I:Inv X pins σ H s) (r:RelV x v) (ty:tyV X.K T x H):
  s.TypeIs v T/\∀a,v=.ref a->∃ob,s.heap.get? a=some ob/\ob.dict=none:=by
 cases x with
 |str z=>
  obtain⟨t,rfl⟩:=r;cases (show T="str" from ty)
  exact⟨typeIs_str s z t,fun _ e=>nomatch e⟩
 |int i=>
  obtain⟨t,rfl⟩:=r;cases (show T="int" from ty)
  exact⟨typeIs_int s i t,fun _ e=>nomatch e⟩
 |ref p=>
  cases r
  rcases ty with⟨rfl,xs,hq⟩|⟨rfl,o,hk,hc,hd⟩|⟨rfl,hk⟩|⟨rfl,S,n,hk⟩
  ·obtain⟨its,_,pl,_⟩:=I.list hq
   refine⟨pl.isList.typeIs,fun a e=>?_⟩
   cases e;obtain⟨o,n,e,c,hd,_⟩:=pl;exact⟨o,e,hd⟩
  ·refine⟨⟨o,I.kIn p o hk,hc⟩,fun a e=>?_⟩
   cases e;exact⟨o,I.kIn _ o hk,hd⟩
  ·have z:∃o,s.heap.get? p=some o/\o.ExactDict:=by
    rcases hk with⟨kvs,hk⟩|⟨kvs,hk⟩
    ·obtain⟨_,_,_,_,o,_,_,e,ex,_⟩:=I.hok p _ hk
     exact⟨o,e,ex⟩
    ·obtain⟨_,_,_,_,o,_,_,e,ex,_⟩:=I.hok p _ hk
     exact⟨o,e,ex⟩
   obtain⟨o,e,ex⟩:=z;refine⟨⟨o,e,ex.1⟩,fun a e2=>?_⟩
   cases e2;exact⟨o,e,ex.2.1⟩
  ·obtain⟨o,_,_,_,e,ex,_⟩:=I.hok p _ hk
   refine⟨⟨o,e,ex.1⟩,fun a e2=>?_⟩
   cases e2;exact⟨o,e,ex.2.1⟩
 |_=>exact False.elim ty
noncomputable def tBM (K:PySem.W.Frag) (T:String) (r:V->List V->Hp->VK->Prop) (to:TE) (t:TA):TE:=fun σ H Q=>to σ H fun x H1=>tyV K T x H1/\t σ H1 fun xs H2=>r x xs H2 Q
variable{o e:Expr}{es:List Expr}{to:TE}{t:TA}{name:Str}{apos cpos:Pos}{T id:String}{r:V->List V->Hp->VK->Prop}
theorem tZ (pa:PlainAttrs T) (slot:Slot T name id) (hty:typeOf (.builtin id)=pure (.type "method_descriptor")) (hm:MtR X id r) (ho:PE X o to) (ha:PA X (e::es) t)
  (hbase:attributeBase o name X.env (eval o X.env)=eval o X.env:=by rfl)
  (hfew:((backTo cpos (starEach (e::es) X.env)).all (fun x=>!x.1)&&(backToKw cpos (keywordEach [] X.env)).all (fun x=>x.1.isSome)
   &&decide ((e::es).length+([]:List Keyword).length+(if([]:List Keyword).isEmpty then 0 else 1)<30))=true:=by rfl)
  (hline:(apos.endLine==cpos.line)=true:=by rfl) (hs:starEach (e::es) X.env=(false,eval e X.env)::starEach es X.env:=by rfl) (hplain:(backTo cpos (starEach es X.env)).any (·.1)=false:=by rfl):
  PE X (.Call (.Attribute o name apos) (e::es) [] cpos) (tBM X.K T r to t):=by
 intro pins s σ H Q I h;refine wpAny_Call_method_late hbase hfew hline rfl (thn (ho pins s σ H _ I h) fun v s1 hz=>?_)
 obtain⟨x,H1,I1,r1,ty,q1⟩:=hz;obtain⟨h1,h2⟩:=zp I1 r1 ty;refine⟨T,id,pa,slot,hty,h1,h2,?_⟩
 have hA:=ha cpos pins s1 σ H1 _ I1 q1;rw[hs]at hA⊢;refine Calls.callWith_builtin (by show(false||(backTo cpos (starEach es X.env)).any (·.1))=false;rw[hplain]<;>rfl) (Calls.evalArgs_plain ?_)
 exact thn hA fun us s2 hz=>by obtain⟨vs,H2,I2,r2,q2⟩:=hz;exact hm pins s2 σ H2 x vs v us Q I2 r1 r2 q2
end
noncomputable def MtM (X:Cx) (id:String) (r:V->List V->Hp->VK->Prop):Prop:=
 ∀(pins:List (Addr×Obj)) (s:Shared) (σ:St) (H:Hp) (x:V) (xs:List V) (v:Value) (us:List Value) (Q:VK),Inv X pins σ H s->RelV x v->Vals xs us->r x xs H Q->
  wpAny (model X.prog X.w) X.A (call (.builtin id) (v::us)) (EP X pins σ Q) X.xe s
theorem Vals.one {x:V}{us:List Value}(h:Vals [x] us):∃u,us=[u]/\RelV x u:=jU h
theorem Vals.two {x y:V}{us:List Value}(h:Vals [x,y] us):∃u v,us=[u,v]/\RelV x u/\RelV y v:=by
 cases h with
 |cons r t=>
  obtain⟨u,rfl,q⟩:=jU t;exact⟨_,u,rfl,r,q⟩
section
variable{X:Cx}{pins:List (Addr×Obj)}{σ:St}{H:Hp}{s:Shared}{l b:Addr}{xs ys zs:List V}
theorem Inv.lset {its its':List Value}{n:Nat}{f:Array Value->Array Value}{t':Nat}(I:Inv X pins σ H s) (hH:H l=some (.lst xs))
  (e:s.heap.get? l=some {cls:=.type "list",data:=.seq its.toArray n}) (hf:f its.toArray=its'.toArray) (hv:Vals ys its') (hz:ys.length<=sizeLine):
  Inv X pins σ (upd H l (.lst ys)) {s with heap:=s.heap.update l (Obj.mapSeq f),toks:=t'}:=by
 have q:=PySem.IsL.update e f;rw[hf]at q;refine I.write (x:=l) (e:=l) (by rw[hH];exact trivial) (.inl rfl) (fun b' u hb hu=>(Heap.get?_update_other s.heap (Obj.mapSeq f) (Ne.symm hb)).trans hu) ⟨_,q⟩ ?_
 exact⟨hz,its',_,hv,q⟩
theorem Inv.lnew {its:List Value}{t':Nat}(I:Inv X pins σ H s) (hv:Vals ys its) (hz:ys.length<=sizeLine):
  Inv X pins σ (upd H s.heap.objs.size (.lst ys)) {s with heap:=s.heap.push {cls:=.type "list",data:=.seq its.toArray},toks:=t'}:=
 I.laid (fun _ _ q=>Heap.get?_push_of_some _ q) (Nat.le_refl _) ⟨hz,its,0,hv,Heap.get?_push_size _ rfl⟩
theorem Inv.fresh (I:Inv X pins σ H s):H s.heap.objs.size=none:=I.hok.fresh (Nat.le_refl _)
theorem Inv.lstM (I:Inv X pins σ H s) (hH:H l=some (.lst xs)):xs.length<=sizeLine/\∃(its:List Value) (n:Nat),Vals xs its/\xs.length=its.length/\s.heap.get? l=some {cls:=.type "list",data:=.seq its.toArray n}:=by
 obtain⟨z,its,n,r,e⟩:=I.hok l _ hH;exact⟨z,its,n,r,r.length,e⟩
theorem ti {n:Nat}(h:n<=sizeLine):Builtin.List.listTooLong n=false:=by
 unfold Builtin.List.listTooLong;exact decide_eq_false (by lia)
end
section
variable{X:Cx}
noncomputable def rAppend:V->List V->Hp->VK->Prop:=fun x vs H Q=>∃l xs y,x=.ref l/\vs=[y]/\H l=some (.lst xs)/\xs.length<sizeLine/\Q .non (upd H l (.lst (xs++[y])))
theorem dS:MtM X "list.append" rAppend:=by
 intro pins s σ H x vs v us Q I rx rv h;obtain⟨l,xs,y,rfl,rfl,hH,hz,q⟩:=h;cases rx;obtain⟨u,rfl,ru⟩:=rv.one;obtain⟨z,its,n,r,hl,e⟩:=I.lstM hH;refine call_meets F.slot_list_append ⟨_,e,rfl⟩ F.entry_list_append (F.args_list_append_2 _ _) (PySem.list_append l its.toArray n u (by rw[List.size_toArray];lia)) ⟨e,?_⟩
 refine⟨.non,_,I.lset (its':=its++[u]) hH e (by simp) (r.append (.cons ru .nil)) ?_,rfl,q⟩
 rw[List.length_append,List.length_singleton]
 lia
noncomputable def rExtend:V->List V->Hp->VK->Prop:=fun x vs H Q=>∃l b xs zs,x=.ref l/\vs=[.ref b]/\H l=some (.lst xs)/\H b=some (.lst zs)/\xs.length+zs.length<=sizeLine/\Q .non (upd H l (.lst (xs++zs)))
theorem pQ:MtM X "list.extend" rExtend:=by
 intro pins s σ H x vs v us Q I rx rv h;obtain⟨l,b,xs,zs,rfl,rfl,hH,hB,hz,q⟩:=h;cases rx;obtain⟨u,rfl,ru⟩:=rv.one;cases ru;obtain⟨z,its,n,r,hl,e⟩:=I.lstM hH;obtain⟨z2,its2,n2,r2,hl2,e2⟩:=I.lstM hB;have hsz:its.toArray.size+its2.toArray.size<=sizeLine:=by rw[List.size_toArray,List.size_toArray];lia
 have hlong:¬(!its.toArray.isEmpty&&Builtin.List.listTooLong (its.toArray.size+its2.toArray.size))=true:=by
  rw[ti hsz,Bool.and_false];exact Bool.false_ne_true
 refine call_meets F.slot_list_extend ⟨_,e,rfl⟩ F.entry_list_extend (F.args_list_extend_2 _ _)
  (AutoSeq1.list_extend_list_list_0 l its.toArray n b its2.toArray n2 hlong (by rw[List.size_toArray];lia) (by lia)) ⟨e,e2,?_⟩
 refine⟨.non,_,I.lset (its':=its++its2) hH e (by simp) (r.append r2) ?_,rfl,q⟩
 rw[List.length_append]
 lia
end
section
variable{prog:Program}{w:World}{A:Around}{E:Value->Shared->Prop}{s:Shared}
set_option maxRecDepth 100000 in
end
section
variable{X:Cx}
end
end L2
namespace Att
open PySem PySem.W PySem.Calls PyProof.Rows
theorem gm {P:Params}{h:Heap}:∀(ns:List Int) (vs:List Value),WellAll P h vs (ns.map WData.int)->IntsAre vs ns:=by
 intro ns
 induction ns with
 |nil=>
  intro vs w;rw[List.map_nil]at w;cases w;exact .nil
 |cons n ns ih=>
  intro vs w;rw[List.map_cons]at w;cases w with
  |cons a b=>
   cases a;exact .cons _ _ (ih _ b)
theorem pW {l:OpenLaw}{n:Nat}(hn:l.most=some n) {P:Params}{h:Heap}{args:List WData}{vals:List Value}
  (hpre:l.row.toRowW.claim.pre args=true) (hwl:WellAll P h vals args):
  ∃a vs ns,vals=[Value.ref a]/\args=[WData.list (ns.map WData.int)]/\h.get? a=some {cls:=.type "list",data:=.seq vs.toArray}/\IntsAre vs ns/\ns.length<=n:=by
 have hsh:WShape.hasAll [] args [.list .int]=true:=(pre_splitW hpre).1;have hc:l.pre.holds [] {args:=args}=true:=(pre_splitW hpre).2;obtain⟨d,r,rfl,h1,h2⟩:=hasAllW_cons hsh;obtain rfl:=hasAllW_nil h2;obtain⟨xs,rfl,h3⟩:=hasW_list h1;obtain⟨ns,rfl⟩:=items_int h3;have hlen:ns.length<=n:=by
  unfold OpenLaw.pre at hc;have h4:(WTm.not (.lt (.lit (.int (n:Int))) (.len (.arg 0)))).holds [] {args:=[.list (ns.map .int)]}=true:=by
   have h4:=(holds_andW hc).1;rw[hn]at h4;exact h4
  have h5:=condW_of h4 (w_not (w_lt w_lit (w_len_list (w_arg rfl))));rw[List.length_map]at h5;refine Nat.le_of_not_lt fun q=>?_
  have q':(n:Int)<((ns.length:Nat):Int):=by lia
  first
   |(rw[decide_eq_true q']at h5;exact absurd h5 (by decide))
   |(simp at h5;lia)
 cases hwl with
 |cons w1 w2=>
  cases w2;cases w1 with
  |list ho hall=>exact⟨_,_,ns,rfl,rfl,ho,gm ns _ hall,hlen⟩
theorem rE (l:OpenLaw) (args:List WData):l.row.toRowW.claim.post args (.bool true) args=true:=
 postW_of (r:=l.row.toRowW) (X:=(true==true))
  (show WShape.has [] (.bool true) .bool=true by first|rfl|decide|simp[WShape.has,WShape.arms,WShape.armsAll])
  (show(WTm.eq .res (.lit (.bool true))).value [] {args:=args,res:=some (.bool true),after:=args}=some (.bool (true==true)) from w_eq_bool (w_res rfl) w_lit) rfl
theorem attach_call {l:OpenLaw}{n:Nat}{q:Program}{loose:List Str}{XP:(Str->Option Value)->Heap->Prop}{YP:World->Heap->Prop}{d:DefRec}
  (hn:l.most=some n) (hdf:d.params.defaults=[])
  (call:∀(w:World) (s₀ s₁:Shared) (mg mb:Str->Option Value) (fa:Addr) (o:Obj) (pm cd doc:Value) (a:Addr) (vs:List Value) (ns:List Int),
   Ground q loose [] XP w s₀ mg mb s₁.heap->YP w s₁.heap->
   s₁.heap.get? fa=some o->o.data=.func (docDef d.name d.params d.body d.scope pm cd doc)->s₁.heap.CodeRec cd d.name->mg d.name=some (.ref fa)->
   s₁.heap.get? a=some {cls:=.type "list",data:=.seq vs.toArray}->IntsAre vs ns->ns.length<=n->s₁.gens=#[]->
   codeAny (model l.prog w) callerA (.call (.ref fa) ⟨[.ref a],[]⟩) (fun r s'=>r=.ok (.ret (.bool true))/\OldK s₁.heap s'.heap/\s'.os=s₁.os/\AllBare s'.gens) s₁):
  WalkO q loose XP YP l.row.toRowW d [] (fun f vs=>PySem.call f vs):=by
 intro w s₀ s₁ mg mb G Y fa o pm cd doc dV kV ho hd hcd hD hmg hg args vals as hpre hlay hrd hwl hlo;obtain rfl:dV=.none:=Dflts.none hD hdf;obtain rfl:kV=.none:=Dflts.noKw hD;obtain⟨a,vs,ns,rfl,rfl,hobj,hints,hlen⟩:=pW hn hpre hwl;refine enter_call (codeAny_mono (call w s₀ s₁ mg mb fa o pm cd doc a vs ns G Y ho (fd_plain hd) hcd hmg hobj hints hlen hg) fun r s' hq=>?_)
 obtain⟨rfl,h2,h3,h4⟩:=hq;exact⟨.inl ⟨.bool true,.bool true,[],rfl,fun _=>rfl,.bool true,rE l _,fun _=>⟨List.Pairwise.nil,fun _ hm=>(nomatch hm)⟩⟩,h2,h3,h4⟩
section
variable{prog:Program}{w:World}{A:Around}{E:Value->Shared->Prop}{s:Shared}{K:Frag}
end
end Att
namespace L2
open PySem PySem.Spec PyProof.Rows
variable[Lams]
theorem jS:∀{vs:List Value}{ns:List Int},IntsAre vs ns->Vals (ns.map V.int) vs
 |_,_,.nil=>.nil
 |_,_,.cons n t h=>.cons ⟨t,rfl⟩ (jS h)
noncomputable def zL (H:Hp):Prop:=∀b,H b=none\/(∃o xs,H b=some (.frz o (.lst xs)))\/∃lq,H b=some (.tbl lq #[])
noncomputable def eK:Hp:=fun b=>match Lams.tb.find? (fun q=>q.1==b)with
 |some q=>some (.tbl q.2 #[])
 |none=>none
theorem bM {b:Addr}{u:HO}(h:eK b=some u):∃q∈Lams.tb,b=q.1/\u=.tbl q.2 #[]:=by
 unfold eK at h;split at h
 ·rename_i q e
  obtain rfl:=Option.some.inj h;have h1:=List.find?_some e
  exact⟨q,List.mem_of_find?_eq_some e,(beq_iff_eq.mp h1).symm,rfl⟩
 ·contradiction
theorem iS (hTu:∀q∈Lams.tb,∀r∈Lams.tb,q.1=r.1->q=r) {q:Addr×Str}(hq:q∈Lams.tb):eK q.1=some (.tbl q.2 #[]):=by
 unfold eK;cases e:Lams.tb.find? (fun r=>r.1==q.1)with
 |none=>exact absurd (List.find?_eq_none.mp e q hq) (by simp)
 |some r=>
  have h1:=beq_iff_eq.mp (List.find?_some (p:=fun r:Addr×Str=>r.1==q.1) e)
  rw[hTu r (List.mem_of_find?_eq_some e) q hq h1]
theorem tw {P:Program}{w:World}{K:PySem.W.Frag}{mg mb:Str->Option Value}{CX:CXT}{k:Nat}{fa a:Addr}{fd:FuncData}{x:Str}{sp:Sp}{s₁:Shared}{vs:List Value}{ns:List Int}
  (KX:K.In s₁.heap) (hns:s₁.heap.Ns mainGlobals mg) (hb:s₁.heap.Ns builtinsNs mb) (hbb:∀x:Str,x≠"__name__"->mb x=bootBuiltins x) (hlim:s₁.heap.NoLimit) (hg:s₁.gens=#[])
  (ha:s₁.heap.get? a=some {cls:=.type "list",data:=.seq vs.toArray}) (hi:IntsAre vs ns) (hl:ns.length<=sizeLine) (hr:Room k callerA)
  (F:∀base:Heap,K.In base->base.Ns mainGlobals mg->FnOk P w K mg base CX k fa fd [x] sp) (hbind:∀(s:Shared) (u:Value),BindsTo s fd ⟨[u],[]⟩ [(x,u)])
  (hsp:∀H:Hp,zL H->SqL K H a (ns.map V.int)->sp [.ref a] H (fun v _=>v=.bl true) fun _ _ _=>False)
  (hCX:∀H e s',CX [] H s₁ (fun _ _ _=>False) e s'->False)
  (hbm:∃bm ob,mg "__builtins__"=some (.ref bm)/\bm≠builtinsNs/\s₁.heap.get? bm=some ob/\ob.cls=.type "module"/\ob.dict=some builtinsNs/\ob.data=.plain)
  (hT:∀q∈Lams.tb,s₁.heap.get? q.1=some {cls:=.none,data:=.fields #[]}/\K.lookup q.1=none/\isCodeTable s₁.heap q.1) (hTu:∀q∈Lams.tb,∀r∈Lams.tb,q.1=r.1->q=r):
  codeAny (model P w) callerA (.call (.ref fa) ⟨[.ref a],[]⟩) (fun r s'=>r=.ok (.ret (.bool true))/\OldK s₁.heap s'.heap/\s'.os=s₁.os/\AllBare s'.gens) s₁:=by
 have rv:=jS hi;have lenV:=hi.length;have core:∀H:Hp,zL H->SqL K H a (ns.map V.int)->HOk P w H s₁.heap->(∀b,H b≠none->(b=a/\K.lookup a=none)\/∃q∈Lams.tb,b=q.1)->TabH H->
   codeAny (model P w) callerA (.call (.ref fa) ⟨[.ref a],[]⟩) (fun r s'=>r=.ok (.ret (.bool true))/\OldK s₁.heap s'.heap/\s'.os=s₁.os/\AllBare s'.gens) s₁:=by
  intro H hO hS hok hA hTb;have base_of:∀{b:Addr}{o:Obj},s₁.heap.get? b=some o->H b=none->(sr s₁.heap H).get? b=some o:=fun e n=>tU e n
  have untr:∀{b:Addr}{o:Obj},s₁.heap.get? b=some o->o≠{cls:=.type "list",data:=.seq vs.toArray}->o≠{cls:=.none,data:=.fields #[]}->H b=none:=fun{b o} e n1 n2=>by
   cases q:H b with
   |none=>rfl
   |some u=>
    rcases hA b (by rw[q];simp)with⟨z,_⟩|⟨r,hr,z⟩
    ·subst z;rw[ha]at e;exact absurd (Option.some.inj e).symm n1
    ·subst z;rw[(hT r hr).1]at e;exact absurd (Option.some.inj e).symm n2
  have noA:∀{b:Addr}{o:Obj}{es:Array DictEntry}{ep:Nat},s₁.heap.get? b=some o->o.data=.dict es ep->H b=none:=fun{b o es ep} e d=>
   untr e (fun z=>by subst z;contradiction) fun z=>by subst z;contradiction
  have nsK:∀{b:Addr}{m:Str->Option Value},s₁.heap.Ns b m->(sr s₁.heap H).Ns b m:=fun{b m} ⟨o,es,ep,e,d,r⟩=>⟨o,es,ep,base_of e (noA e d),d,r⟩
  have hKb:K.In (sr s₁.heap H):=fun b o e=>base_of (KX b o e) (by
   cases q:H b with
   |none=>rfl
   |some u=>
    rcases hA b (by rw[q];simp)with⟨z,z2⟩|⟨r,hr,z⟩
    ·subst z;rw[z2]at e;contradiction
    ·subst z;rw[(hT r hr).2.1]at e;contradiction)
  have hM:Mod K mg (sr s₁.heap H):=⟨hKb,nsK hns,⟨mb,nsK hb,hbb⟩,let ⟨mc,h1,h2⟩:=hlim;⟨mc,nsK h1,h2⟩,by
   obtain⟨bm,ob,b1,b2,b3,b4,b5⟩:=hbm;exact⟨bm,ob,b1,b2,base_of b3 (untr b3 (fun z=>by subst z;cases b5.2) fun z=>by subst z;cases b5.2),b4,b5⟩⟩
  have e0:Env0 P w K mg (sr s₁.heap H) callerA [] s₁ H:=⟨rfl,hM,fun b o e=>wB e,Nat.le_of_eq (pJ _ _),trivial,fun b hb=>absurd (show b∈([]:List Addr) from hb) (by simp),hok,.of_eq hg,hTb⟩
  refine codeAny_mono ((F _ hKb (nsK hns)).run callerA [] s₁ H ⟨[.ref a],[]⟩ [.ref a] [.ref a] _ _ hr e0 (hbind s₁ (.ref a)) (.cons rfl .nil) (hsp H hO hS)) fun r s' h=>?_
  cases r with
  |error e=>exact(hCX H e s' h).elim
  |ok fl=>
   cases fl with
   |next=>exact False.elim h
   |brk=>exact False.elim h
   |cont=>exact False.elim h
   |ret u=>
    obtain⟨v,H',os,bare,un,hok',r',q⟩:=h;have q':v=.bl true:=q;subst q';obtain rfl:u=Value.bool true:=r';refine⟨rfl,⟨fun b o e=>?_,fun b o e=>un.there b o e (by simp)⟩,os,bare⟩
    cases q:H b with
    |none=>exact .inl (un.keep b o e q (by intro z;exact absurd (show b∈([]:List Addr) from z) (by simp)) (by simp))
    |some u=>
     rcases hO b with z|⟨ob,xs,z⟩|⟨lq,z⟩
     ·rw[q]at z;contradiction
     ·have z2:=un.frzs b ob _ z
      obtain⟨e1,_⟩:=hok b _ z;obtain⟨e2,_⟩:=hok' b _ z2;rw[e]at e1;obtain rfl:=Option.some.inj e1;exact .inl e2
     ·obtain⟨more,z2⟩:=un.tbls b lq _ z
      obtain⟨e1,_⟩:=hok b _ z;obtain⟨e2,_⟩:=hok' b _ z2;rw[e]at e1;obtain rfl:=Option.some.inj e1
      rcases hA b (by rw[q];simp)with⟨y,_⟩|⟨r,hr,y⟩
      ·subst y;rw[ha]at e;cases e
      ·subst y
       exact .inr (.inl ⟨(hT r hr).2.2,rfl,#[],more,rfl,e2⟩)
 have tna:eK a=none:=by
  cases q:eK a with
  |none=>rfl
  |some u=>
   obtain⟨r,hr,e,_⟩:=bM q;have:=(hT r hr).1;rw[<-e,ha]at this;cases this
 have tok:∀(H:Hp) b u,eK b=some u->ObjOk P w H s₁.heap b u:=fun H b u z=>by
  obtain⟨r,hr,e,rfl⟩:=bM z;subst e;exact⟨(hT r hr).1,trivial,fun pos cv e=>by cases e⟩
 cases hk:K.lookup a with
 |some o=>
  have e:=KX a o hk;rw[ha]at e;obtain rfl:=Option.some.inj e;refine core eK (fun b=>?_) (.inr ⟨_,vs.toArray,_,hk,rfl,rfl,rfl,by rw[List.size_toArray,lenV];exact hl,by simpa using rv⟩) (fun b u z=>tok _ b u z) (fun b z=>?_) fun q hq=>⟨_,iS hTu hq⟩
  ·cases q:eK b with
   |none=>exact .inl rfl
   |some u=>obtain⟨r,hr,e,rfl⟩:=bM q;exact .inr (.inr ⟨_,rfl⟩)
  ·cases q:eK b with
   |none=>exact absurd q z
   |some u=>obtain⟨r,hr,e,_⟩:=bM q;exact .inr ⟨r,hr,e⟩
 |none=>
  refine core (fun b=>if b=a then some (.frz {cls:=.type "list",data:=.seq vs.toArray} (.lst (ns.map V.int))) else eK b) (fun b=>?_) (.inl (.inr ⟨{cls:=.type "list",data:=.seq vs.toArray},if_pos rfl⟩)) (fun b u z=>?_) (fun b z=>?_) fun q hq=>⟨#[],?_⟩
  ·by_cases hb:b=a
   ·exact .inr (.inl ⟨_,_,if_pos hb⟩)
   ·cases q:eK b with
    |none=>exact .inl ((if_neg hb).trans q)
    |some u=>obtain⟨r,hr,e,rfl⟩:=bM q;exact .inr (.inr ⟨_,(if_neg hb).trans q⟩)
  ·by_cases hb:b=a
   ·have z':=(if_pos hb).symm.trans z
    obtain rfl:=Option.some.inj z';subst hb;exact⟨ha,by rw[List.length_map];exact hl,vs,_,rv,ha⟩
   ·exact tok _ b u ((if_neg hb).symm.trans z)
  ·by_cases hb:b=a
   ·exact .inl ⟨hb,hk⟩
   ·cases q:eK b with
    |none=>exact absurd ((if_neg hb).trans q) z
    |some u=>obtain⟨r,hr,e,_⟩:=bM q;exact .inr ⟨r,hr,e⟩
  ·have hne:q.1≠a:=fun z=>by rw[<-z,iS hTu hq]at tna;contradiction
   exact(if_neg hne).trans (iS hTu hq)
noncomputable abbrev KOf {K:PySem.W.Frag}{h:Heap}(_:K.In h):PySem.W.Frag:=K
theorem vq {l:PySem.W.OpenLaw}{n k:Nat}{q:Program}{loose:List Str}{XP:(Str->Option Value)->Heap->Prop}{YP:World->Heap->Prop}{d:DefRec}{K:Params->PySem.W.Frag}{CX:World->CXT}{sp:World->Sp}{x:Str}
  (hn:l.most=some n) (hn2:n<=sizeLine) (hdf:d.params.defaults=[]) (hr:Room k callerA)
  (hY:∀(w:World) (h:Heap),YP w h->(K w.params).In h/\∀q∈Lams.tb,h.get? q.1=some {cls:=.none,data:=.fields #[]})
  (F:∀(w:World) (mg:Str->Option Value) (fa:Addr) (h:Heap),(K w.params).In h->h.Ns mainGlobals mg->mg d.name=some (.ref fa)->
   ∃fd:FuncData,(∀(s:Shared) (u:Value),BindsTo s fd ⟨[u],[]⟩ [(x,u)])/\
    ∀base:Heap,(K w.params).In base->base.Ns mainGlobals mg->FnOk l.prog w (K w.params) mg base (CX w) k fa fd [x] (sp w))
  (hsp:∀(w:World) (H:Hp) (a:Addr) (ns:List Int),ns.length<=n->zL H->SqL (K w.params) H a (ns.map V.int)->sp w [.ref a] H (fun v _=>v=.bl true) fun _ _ _=>False)
  (hCX:∀(w:World) (H:Hp) (s:Shared) (e:Value) (s':Shared),CX w [] H s (fun _ _ _=>False) e s'->False) (hLam:∀(w:World),∀q∈Lams.tb,(K w.params).lookup q.1=none/\∃c,PySem.W.codeHdIn (K w.params) c q.1=true) (hTu:∀q∈Lams.tb,∀r∈Lams.tb,q.1=r.1->q=r):
  PySem.W.WalkO q loose XP YP l.row.toRowW d [] (fun f vs=>PySem.call f vs):=by
 refine Att.attach_call hn hdf fun w s₀ s₁ mg mb fa o pm cd doc a vs ns G Y ho hd hcd hmg hobj hints hlen hg=>?_
 have KX:=(hY w _ Y).1;obtain⟨fd,hb,hF⟩:=F w mg fa _ KX G.T.g hmg;exact tw KX G.T.g G.T.b G.T.builtins G.T.nolimit hg hobj hints (Nat.le_trans hlen hn2) hr hF hb (fun H hO hS=>hsp w H a ns hlen hO hS) (fun H e s'=>hCX w H s₁ e s') G.T.bmain (fun q hq=>⟨(hY w _ Y).2 q hq,(hLam w q hq).1,by
  obtain⟨c,hc⟩:=(hLam w q hq).2;obtain⟨o,vs,_,_,_,_,_,_,_,e1,e2,e3,e4,_⟩:=PySem.W.codeHd_of_K KX hc;exact⟨c,o,vs,e1,e2,e3,e4⟩⟩) hTu
theorem walk_ofK {l:PySem.W.OpenLaw}{n k:Nat}{q:Program}{loose:List Str}{XP:(Str->Option Value)->Heap->Prop}{YP:World->Heap->Prop}{d:DefRec}{K:Params->PySem.W.Frag}{CX:CXT}{sp:PySem.W.Frag->Sp}{x:Str}
  (hn:l.most=some n) (hn2:n<=sizeLine) (hdf:d.params.defaults=[]) (hr:Room k callerA)
  (hY:∀(w:World) (h:Heap),YP w h->(K w.params).In h/\∀q∈Lams.tb,h.get? q.1=some {cls:=.none,data:=.fields #[]})
  (F:∀(w:World) (mg:Str->Option Value) (fa:Addr) (h:Heap),(K w.params).In h->h.Ns mainGlobals mg->mg d.name=some (.ref fa)->
   ∃fd:FuncData,(∀(s:Shared) (u:Value),BindsTo s fd ⟨[u],[]⟩ [(x,u)])/\
    ∀base:Heap,(K w.params).In base->base.Ns mainGlobals mg->FnOk l.prog w (K w.params) mg base CX k fa fd [x] (sp (K w.params)))
  (hsp:∀(K:PySem.W.Frag) (H:Hp) (a:Addr) (ns:List Int),ns.length<=n->zL H->SqL K H a (ns.map V.int)->sp K [.ref a] H (fun v _=>v=.bl true) fun _ _ _=>False)
  (hCX:∀(H:Hp) (s:Shared) (e:Value) (s':Shared),CX [] H s (fun _ _ _=>False) e s'->False) (hLam:∀(w:World),∀q∈Lams.tb,(K w.params).lookup q.1=none/\∃c,PySem.W.codeHdIn (K w.params) c q.1=true) (hTu:∀q∈Lams.tb,∀r∈Lams.tb,q.1=r.1->q=r):
  PySem.W.WalkO q loose XP YP l.row.toRowW d [] (fun f vs=>PySem.call f vs):=
 vq (K:=K) (CX:=fun _=>CX) (sp:=fun w=>sp (K w.params)) hn hn2 hdf hr hY F (fun w H a ns h1 h2 h3=>hsp (K w.params) H a ns h1 h2 h3) (fun _ H s e s'=>hCX H s e s') hLam hTu
noncomputable def cE (s:Stmt):Arguments:=match s with
 |.FunctionDef _ a _ _ _ _ _ _ _ _=>a
 |_=>{posonlyargs:=[],args:=[],vararg:=none,kwonlyargs:=[],kw_defaults:=[],kwarg:=none,defaults:=[]}
noncomputable def aN (s:Stmt):List Stmt:=match s with
 |.FunctionDef _ _ b _ _ _ _ _ _ _=>b
 |_=>[]
noncomputable def ai (s:Stmt):Scope:=match s with
 |.FunctionDef _ _ _ _ _ _ sc _ _ _=>sc
 |_=>{kind:=.function,names:=[],isGenerator:=false,isCoroutine:=false}
noncomputable abbrev CX0:CXT:=fun _ _ _ _ _ _=>False
noncomputable abbrev E0:XK:=fun _ _ _=>False
theorem vC {X:Cx}:oV CX0 X E0:=fun _ _ _ _ _ _ _ h=>h.elim
structure Fun (K:PySem.W.Frag) (x qual:Str) (st:Stmt) (f:Addr) (fd:FuncData):Prop where
 ex:∃(oc:Value) (od:Option Addr) (kV doc pm:Value) (an:Option Addr) (cdv ct:Value) (osl:Array (Option Value)),
  fd=PySem.W.fnOf x qual (cE st) (aN st) (ai st) .none kV doc pm an cdv ct/\K.lookup f=some ⟨oc,od,.func fd,osl⟩/\PySem.W.codeIn K cdv qual=true
 kp:PySem.W.keepIn K (.ref f)=true
section
variable{P:Program}{w:World}{K:PySem.W.Frag}{mg:Str->Option Value}{base:Heap}
theorem Fun.ok {x qual:Str}{st:Stmt}{f:Addr}{fd:FuncData}{N ps:List Str}{k:Nat}{sp:Sp}(F:Fun K x qual st f fd) (S:FnScope N ps (ai st)) (len:∀vs H Q E,sp vs H Q E->vs.length=ps.length)
  (hbody:∀(cdv:Value) (A:Around) (outer:List Env) (s:Shared) (H:Hp) (vs:List V) (Q:VK) (E:XK),Room k (A.deeper (envOfC qual (ai st) s.heap.objs.size f cdv))->sp vs H Q E->
   ∃t,PSs (kD CX0 P w K mg base N qual (ai st) f cdv A outer s H E).nox (aN st) t/\t {nx:=fun _ H'=>Q .non H',rt:=Q} (eA N vs) H):FnOk P w K mg base CX0 (k+1) f fd ps sp:=by
 obtain⟨oc,od,kV,doc,pm,an,cdv,ct,osl,rfl,lk,hcd⟩:=F.ex;refine Aa lk hcd S len fun A outer s H vs Q E hr hsp=>?_
 obtain⟨t,h,q⟩:=hbody cdv A outer s H vs Q E hr hsp;exact⟨t,h.nox,q⟩
theorem Fun.binds {x qual:Str}{st:Stmt}{f:Addr}{fd:FuncData}{ps:List Str}(F:Fun K x qual st f fd)
  (h:∀(kV doc pm:Value) (an:Option Addr) (cdv ct:Value) (us:List Value),us.length=ps.length->bindArgs (PySem.W.fnOf x qual (cE st) (aN st) (ai st) .none kV doc pm an cdv ct) ⟨us,[]⟩=pure (ps.zip us)):Binds K fd ps []:=by
 obtain⟨oc,od,kV,doc,pm,an,cdv,ct,osl,rfl,lk,hcd⟩:=F.ex;exact .all (h kV doc pm an cdv ct)
theorem uL {x qual:Str}{st:Stmt}{f:Addr}{oc:Value}{od an:Option Addr}{osl:Array (Option Value)}{kV doc pm cdv ct:Value}(l:K.lookup f=some ⟨oc,od,.func (PySem.W.fnOf x qual (cE st) (aN st) (ai st) .none kV doc pm an cdv ct),osl⟩)
  (c:PySem.W.codeIn K cdv qual=true) (k:PySem.W.keepIn K (.ref f)=true):Fun K x qual st f (PySem.W.fnOf x qual (cE st) (aN st) (ai st) .none kV doc pm an cdv ct):=⟨⟨oc,od,kV,doc,pm,an,cdv,ct,osl,rfl,l,c⟩,k⟩
end
section
variable{X:Cx}
end
theorem yP {A B:Prop}(h:B):if false=true then A else B:=by
 rw[if_neg Bool.false_ne_true];exact h
theorem yk {A B:Prop}(h:A):if true=true then A else B:=by
 rw[if_pos rfl];exact h
noncomputable def HO.nt:HO->Bool
 |.tbl _ _=>false
 |_=>true
noncomputable abbrev HOn:={o:HO // o.nt=true}
theorem HOn.ok (o:HOn):HO.nt o.1=true:=o.2
structure Same (H H':Hp):Prop where
 get:∀b o,o.nt=true->H b=some o->H' b=some o
 tbl:∀b lq ps,H b=some (.tbl lq ps)->∃more,H' b=some (.tbl lq (ps++more))
theorem Same.app {H H':Hp}(s:Same H H') (b:Addr) (o:HO) (h:H b=some o) (n:o.nt=true:=by first|rfl|assumption|exact HOn.ok _):H' b=some o:=s.get b o n h
noncomputable instance Same.fn {H H':Hp}:CoeFun (Same H H') (fun _=>∀(b:Addr) (o:HO) (h:H b=some o) (n:o.nt=true:=by first|rfl|assumption|exact HOn.ok _),H' b=some o):=⟨@Same.app _ H H'⟩
theorem Same.refl (H:Hp):Same H H:=⟨fun _ _ _ h=>h,fun b lq ps h=>⟨#[],by rw[Array.append_empty];exact h⟩⟩
theorem Same.trans {H H1 H2:Hp}(a:Same H H1) (b:Same H1 H2):Same H H2:=⟨fun c o n h=>b.get c o n (a.get c o n h),fun c lq ps h=>by
 obtain⟨m1,e1⟩:=a.tbl c lq ps h;obtain⟨m2,e2⟩:=b.tbl c lq _ e1;exact⟨m1++m2,by rw[e2,Array.append_assoc]⟩⟩
theorem Same.there {H H':Hp}(e:Same H H') {l:Addr}{o:HO}(q:H l=some o):∃o',H' l=some o':=by
 cases n:o.nt with
 |true=>exact⟨o,e.get l o n q⟩
 |false=>
  cases o with
  |tbl lq ps=>obtain⟨m,q'⟩:=e.tbl l lq ps q;exact⟨_,q'⟩
  |_=>contradiction
theorem Same.free {H H':Hp}(e:Same H H') {l:Addr}(h:H' l=Option.none):H l=Option.none:=by
 cases q:H l with
 |none=>rfl
 |some o=>
  obtain⟨o',q'⟩:=e.there q;rw[q']at h
  contradiction
theorem Same.keep {Hk H H':Hp}(e:Same Hk H) (k:∀c o o',Hk c=some o'->H c=some o->H' c=some o):Same Hk H':=
 ⟨fun c o n q=>k c o o q (e.get c o n q),fun c lq ps q=>by
  obtain⟨m,q'⟩:=e.tbl c lq ps q;exact⟨m,k c _ _ q q'⟩⟩
theorem Same.put {Hk H:Hp}{b:Addr}{o:HO}(e:Same Hk H) (h:Hk b=none):Same Hk (upd H b o):=
 e.keep fun c o' o2 q1 q2=>by rw[aj (aG q1 h)];exact q2
theorem Same.seq {K:PySem.W.Frag}{H H':Hp}{a:Addr}{xs:List V}(e:Same H H') (h:SqL K H a xs):SqL K H' a xs:=by
 rcases h with(h|⟨o,h⟩)|h
 ·exact .inl (.inl (e _ _ h))
 ·exact .inl (.inr ⟨o,e _ _ h⟩)
 ·exact .inr h
section
variable{κ:Type}[DecidableEq κ]
end
noncomputable abbrev aI (X:Cx) (scope:Scope) (cl:List (Str×Addr)) (C:Addr) (s₂:Shared) (H₂:Hp) (ex:List Addr) (pn:List (Addr×Obj)):Cx:=
 {X with s₀:=s₂,H₀:=H₂,env:=compEnvC scope cl C X.env,outer:=X.stack,stack:=X.stack,ex:=ex,fn:=fun _=>false,pn:=pn,xe:=fun _ _=>False}
noncomputable def oF (bs:List Bool) (σ:St):St:=List.zipWith (fun(b:Bool) o=>if b=true then o else none) bs σ
theorem gj {bs:List Bool}{σ:St}(h:bs.length=σ.length):(oF bs σ).length=σ.length:=by
 unfold oF;rw[List.length_zipWith,h,Nat.min_self]
theorem tH {bs:List Bool}{σ:St}{i:Nat}{v:V}(h:(oF bs σ)[i]?=some (some v)):bs[i]?=some true/\σ[i]?=some (some v):=by
 unfold oF at h;rw[List.getElem?_zipWith]at h
 cases e1:bs[i]? with
 |none=>rw[e1]at h;simp at h
 |some b=>
  cases e2:σ[i]? with
  |none=>rw[e1,e2]at h;simp at h
  |some o=>
   rw[e1,e2]at h;simp only[Option.some.injEq]at h;cases b with
   |false=>simp at h
   |true=>simp at h;exact⟨rfl,by rw[h]⟩
noncomputable def PTs (X:Cx) (ifs:List Expr) (t:TT):Prop:=
 ∀(pins:List (Addr×Obj)) (s:Shared) (σ:St) (H:Hp) (Q:Bool->Hp->Prop),Inv X pins σ H s->t σ H Q->
  wpAny (model X.prog X.w) X.A (forIn ifs true fun c r=>if r=true then do let ok <-isTrue c X.env (eval c X.env);pure (ForInStep.yield ok) else pure (ForInStep.yield r)) (TP X pins σ Q) X.xe s
noncomputable def tTrue:TT:=fun _ H Q=>Q true H
theorem wc {X:Cx}:PTs X [] tTrue:=fun pins s σ H Q I h=>wpAny_tests_nil ⟨H,I,h⟩
theorem wH {X:Cx}{c:Expr}{t:TT}(h:PT X c t):PTs X [c] t:=fun pins s σ H Q I hq=>wpAny_tests_one (h pins s σ H Q I hq)
noncomputable def cK (env:Env):List (Str×NameKind)->List (Str×Addr)->List (Str×Addr)
 |[],acc=>acc
 |(n,k)::r,acc=>if(k==NameKind.free)=true then cK env r ((n,(env.cells.lookup n).getD 0)::acc) else cK env r acc
theorem i3 (env:Env):∀(names:List (Str×NameKind)) (acc:List (Str×Addr)),(∀y∈names,y.2=.free->∃c,env.cells.lookup y.1=some c)->
  (forIn names acc (fun(x:Str×NameKind) (cs:List (Str×Addr))=>(match x with
   |(name,kind)=>if(kind==.free)=true then(do let c <-cellOf env name;pure (ForInStep.yield ((name,c)::cs))) else pure (ForInStep.yield cs):Sem (ForInStep (List (Str×Addr))))))=pure (cK env names acc)
 |[],acc,_=>rfl
 |(n,k)::r,acc,h=>by
  by_cases hk:k=.free
  ·subst hk
   obtain⟨c,e⟩:=h (n,.free) List.mem_cons_self rfl;have ih:=i3 env r ((n,c)::acc) fun y hy=>h y (List.mem_cons_of_mem _ hy)
   have ec:cellOf env n=pure c:=by unfold cellOf;rw[e]
   rw[List.forIn_cons];simp only[beq_self_eq_true,if_true,ec,pure_bind];rw[ih];simp only[cK,beq_self_eq_true,if_true,e,Option.getD_some]
  ·have hb:(k==NameKind.free)=false:=by simpa using hk
   have ih:=i3 env r acc fun y hy=>h y (List.mem_cons_of_mem _ hy)
   rw[List.forIn_cons];simp only[hb,Bool.false_eq_true,if_false,pure_bind];rw[ih]
   conv=>rhs;rw[cK.eq_def]
   simp only[hb,Bool.false_eq_true,if_false]
theorem de (env:Env):∀(names:List (Str×NameKind)) (acc:List (Str×Addr)),(∀y∈names,y.2=.free->∃c,env.cells.lookup y.1=some c)->
  (∀x c,acc.lookup x=some c->env.cells.lookup x=some c)->∀x c,(cK env names acc).lookup x=some c->env.cells.lookup x=some c
 |[],acc,_,ha=>ha
 |(n,k)::r,acc,h,ha=>by
  have hr:∀y∈r,y.2=.free->∃c,env.cells.lookup y.1=some c:=fun y hy=>h y (List.mem_cons_of_mem _ hy)
  unfold cK
  by_cases hk:(k==NameKind.free)=true
  ·rw[if_pos hk]
   obtain⟨c,e⟩:=h (n,k) List.mem_cons_self (eq_of_beq hk);refine de env r _ hr fun x d hx=>?_
   rw[List.lookup_cons]at hx;cases q:x==n with
   |true=>
    rw[q,e]at hx;rw[eq_of_beq q,e]
    simpa using hx
   |false=>rw[q]at hx;exact ha x d hx
  ·rw[if_neg hk];exact de env r acc hr ha
theorem d9 (env:Env) (x:Str):∀(names:List (Str×NameKind)) (acc:List (Str×Addr)),((x,NameKind.free)∈names\/∃c,acc.lookup x=some c)->∃c,(cK env names acc).lookup x=some c
 |[],acc,h=>by
  rcases h with h|h
  ·contradiction
  ·exact h
 |(n,k)::r,acc,h=>by
  unfold cK
  by_cases hk:(k==NameKind.free)=true
  ·rw[if_pos hk]
   refine d9 env x r _ ?_
   by_cases q:(x==n)=true
   ·exact .inr ⟨_,by rw[List.lookup_cons,q]⟩
   ·rcases h with h|⟨c,h⟩
    ·rcases List.mem_cons.mp h with h|h
     ·cases h;simp at q
     ·exact .inl h
    ·exact .inr ⟨c,by rw[List.lookup_cons];simp[q,h]⟩
  ·rw[if_neg hk]
   refine d9 env x r _ ?_
   rcases h with h|h
   ·rcases List.mem_cons.mp h with h|h
    ·cases h;simp at hk
    ·exact .inl h
   ·exact .inr h
theorem dN {scope:Scope}{env:Env}(h:∀y∈scope.names,y.2=.free->∃c,env.cells.lookup y.1=some c):closureFor scope env=pure (cK env scope.names []):=by
 have e:=i3 env scope.names [] h;have q:closureFor scope env=((forIn scope.names [] (fun(x:Str×NameKind) (cs:List (Str×Addr))=>(match x with
   |(name,kind)=>if(kind==.free)=true then(do let c <-cellOf env name;pure (ForInStep.yield ((name,c)::cs))) else pure (ForInStep.yield cs):Sem (ForInStep (List (Str×Addr)))))) >>= fun cs=>pure cs):=rfl
 rw[q,e,pure_bind]
theorem bB {env:Env}:∀{names:List (Str×NameKind)}{x:Str}{k:NameKind},
  (names.map fun(n,k)=>if(k==NameKind.free&&env.scope.kind==.function&&env.kindOf n==some .cell) then(n,NameKind.cell) else(n,k)).lookup x=some k->
  names.lookup x=some k\/(names.lookup x=some .free/\k=.cell)
 |[],_,_,h=>by simp at h
 |(n,k')::r,x,k,h=>by
  have ih:=@bB env r x k;have h':List.lookup x ((if(k'==NameKind.free&&env.scope.kind==.function&&env.kindOf n==some .cell)=true then(n,NameKind.cell) else(n,k'))::(r.map fun(n,k)=>if(k==NameKind.free&&env.scope.kind==.function&&env.kindOf n==some .cell) then(n,NameKind.cell) else(n,k)))=some k:=h
  by_cases hc:(k'==NameKind.free&&env.scope.kind==.function&&env.kindOf n==some .cell)=true
  ·rw[if_pos hc]at h'
   rw[List.lookup_cons]at h'⊢;cases hx:x==n with
   |true=>
    rw[hx]at h';simp at h';have:k'=.free:=by
     have:=hc;simp only[Bool.and_eq_true]at this;exact eq_of_beq this.1.1
    exact .inr ⟨by rw[this],h'.symm⟩
   |false=>rw[hx]at h';exact ih h'
  ·rw[if_neg hc]at h'
   rw[List.lookup_cons]at h'⊢;cases hx:x==n with
   |true=>rw[hx]at h';exact .inl h'
   |false=>rw[hx]at h';exact ih h'
noncomputable def vk (wi:TI) (bs:List Bool) (g:TG) (tt:TT) (te:TE):TE:=fun σ H Q=>wi σ H fun J H1=>∀acc,H1 acc=none->
 ∃W:Nat->Nat->List V->St->Hp->Prop,(∃m,W 0 m [] (oF bs σ) (upd H1 acc (.lst [])))/\∀i m ys σ H,W i m ys σ H->H acc=some (.lst ys)/\
  ((J.stop i H/\Q (.ref acc) H)\/(J.go i H/\∀x H',J.yld i H x H'->g x σ H' fun σ2 H2=>tt σ2 H2 fun ok H3=>if ok=true
   then te σ2 H3 fun v H4=>H4 acc=some (.lst ys)/\ys.length<sizeLine/\∃m',m'<m/\W (i+1) m' (ys++[v]) σ2 (upd H4 acc (.lst (ys++[v])))
   else ∃m',m'<m/\W (i+1) m' ys σ2 H3))
section
variable{X:Cx}{pins:List (Addr×Obj)}{σ:St}{H:Hp}{s:Shared}{scope:Scope}{bs:List Bool}{fp:List Addr}
structure CompScope (X:Cx) (scope:Scope) (bs:List Bool):Prop where
 kind:scope.kind=.function
 cell:∀y∈scope.names,y.2≠.cell
 loc:∀y∈scope.names,y.2=.local->scope.names.lookup y.1=some .local
 fre:∀y∈scope.names,y.2=.free->scope.names.lookup y.1=some .free/\(X.env.kindOf y.1=some .cell\/X.env.kindOf y.1=some .free)
 len:bs.length=X.N.length
 vis:∀(i:Nat) (x:Str),X.N[i]?=some x->bs[i]?=some true->scope.names.lookup x=some .free
theorem CompScope.has (S:CompScope X scope bs) (I:Inv X pins σ H s):∀y∈scope.names,y.2=.free->∃c,X.env.cells.lookup y.1=some c:=fun y hy e=>I.ok.has y.1 (S.fre y hy e).2
theorem si {h':Heap}{m:Str->Option Value}(S:CompScope X scope bs) (I:Inv X pins σ H s) (hf:∀b∈fp,kF X pins H b) (ho:∀b∈fp,∃o,s.heap.get? b=some o)
  (hns:h'.Ns s.heap.objs.size m) (hk:∀b o,s.heap.get? b=some o->h'.get? b=some o) {t':Nat}:
  Inv (aI X scope (cK X.env scope.names []) s.heap.objs.size s H fp (X.pn++pins)) [] (oF bs σ) H {s with heap:=h',toks:=t'}:=by
 have hh:=S.has I;have cons:=de X.env scope.names [] hh (fun x c e=>by simp at e)
 refine⟨⟨I.ok.mod,S.kind,I.ok.glob,I.ok.blt,Nat.le_refl _,fun x y c h1 h2=>I.ok.inj x y c (cons x c h1) (cons y c h2),fun x hx=>?_,(fun x c h=>nomatch h),I.ok.hd,I.ok.frames,.inl rfl,fun b hb=>⟨?_,fun x c e=>(hf b hb).2.2.2.2.1 x c (cons x c e)⟩,
  I.bs,Nat.le_trans I.ok.bsz I.sz,fun b o e hb=>?_,fun b hb z=>?_,I.stack,I.stkFree,I.ok.tabs.to I.base.tbls⟩,
  rfl,I.bare,Un.kept hk,⟨m,hns,fun i x v e1 e2 e3=>?_⟩,fun x c e=>?_,I.hok.fresh (Nat.le_refl _),fun x c e=>I.freeC x c (cons x c e),fun p hp=>?_,I.hok.kept hk,?_⟩
 ·have hx':(relabel scope X.env).names.lookup x=some .cell\/(relabel scope X.env).names.lookup x=some .free:=hx
  have key:(x,NameKind.free)∈scope.names:=by
   rcases hx' with q|q
   ·rcases bB q with q|⟨q,_⟩
    ·exact absurd rfl (S.cell _ (PySem.mem_of_lookup q))
    ·exact PySem.mem_of_lookup q
   ·rcases bB q with q|⟨_,q⟩
    ·exact PySem.mem_of_lookup q
    ·contradiction
  exact d9 X.env x scope.names [] (.inl key)
 ·obtain⟨o,e⟩:=ho b hb
  exact Nat.ne_of_lt (Heap.lt_size e)
 ·rcases(hf b hb).2.2.2.1 with z|z
  ·exact I.ok.noex b o e z
  ·exact absurd (Nat.lt_of_lt_of_le (Heap.lt_size (I.ok.bs b o e).1) z) (Nat.lt_irrefl _)
 ·rcases List.mem_cons.mp (I.stkSub b z)with q|q
  ·exact(hf b hb).2.1 q
  ·exact(hf b hb).2.2.1 q
 ·obtain⟨hb,hs⟩:=tH e2
  have hfr:=S.vis i x e1 hb;obtain⟨_,hkd⟩:=S.fre _ (PySem.mem_of_lookup hfr) rfl;obtain⟨m0,hn0,hl⟩:=I.loc;have hvis:Vis X.env.scope x:=hkd.elim (fun z=>.inr (.inl z)) fun z=>.inr (.inr z)
  obtain⟨u,ru,lk⟩:=hl i x v e1 hs hvis;refine⟨u,ru,.inr ⟨?_,?_⟩⟩
  ·rcases e3 with q|q|q
   ·rcases bB (show(relabel scope X.env).names.lookup x=some .local from q)with q|⟨_,q⟩
    ·rw[hfr]at q;contradiction
    ·contradiction
   ·exact .inl q
   ·exact .inr q
  ·rcases lk with⟨kl,_⟩|⟨_,c,ec,ic⟩
   ·rcases hkd with z|z
    ·rw[kl]at z;contradiction
    ·rw[kl]at z;contradiction
   ·obtain⟨c',e'⟩:=d9 X.env x scope.names [] (.inl (PySem.mem_of_lookup hfr))
    have e'':=cons x c' e';rw[ec]at e'';obtain rfl:=Option.some.inj e'';obtain⟨o,q1,q2⟩:=ic;exact⟨c,e',o,hk c o q1,q2⟩
 ·obtain⟨v,o,q1,q2⟩:=I.cell x c (cons x c e)
  exact⟨v,o,hk c o q1,q2⟩
 ·have hp':p∈X.pn++pins:=by
   have q:p∈(X.pn++pins)++([]:List (Addr×Obj)):=hp;rwa[List.append_nil]at q
  obtain⟨e,n,ne,nf,d⟩:=I.pin p hp';refine⟨hk _ _ e,n,Nat.ne_of_lt (Heap.lt_size e),fun z=>?_,d⟩
  rcases List.mem_cons.mp (I.stkSub p.1 z)with q|q
  ·exact ne q
  ·exact nf q
 ·rw[gj (by rw[S.len,I.len])]
  exact I.len
theorem sH {cl:List (Str×Addr)}{pins':List (Addr×Obj)}{σ':St}{H':Hp}{s':Shared}{C:Addr}(I:Inv X pins σ H s) (hf:∀b∈fp,kF X pins H b)
  (J:Inv (aI X scope cl C s H fp (X.pn++pins)) pins' σ' H' s'):Inv X pins σ H' s':=by
 refine I.call' (ch:=fp) J.os J.base J.hok J.bare fun b hb=>?_
 obtain⟨f0,f1,f2,f3,f4,f5⟩:=hf b hb;exact⟨f3,f1,f4,f5⟩
end
section
variable{prog:Program}{w:World}{A:Around}{E:Value->Shared->Prop}{R:Result->Shared->Prop}{s:Shared}
theorem kE {elt target iter:Expr}{ifs:List Expr}{scope:Scope}{pos:Pos}{it acc:Value}{env:Env}(I:Nat->Shared->Prop)
  (turn:∀n s,I n s->wpAny (model prog w) A (pyNext it) (fun r s₁=>match r with
   |none=>R (.ok .next) s₁
   |some v=>wpAny (model prog w) A (letOwnedTupleGo target it v) (fun _ s₁=>wpAny (model prog w) A (assign target env v) (fun _ s₂=>
     wpAny (model prog w) A (forIn ifs true fun c r=>if r=true then do let ok <-isTrue c env (eval c env);pure (ForInStep.yield ok) else pure (ForInStep.yield r)) (fun ok s₃=>
      if ok=true then wpAny (model prog w) A (eval elt env) (fun x s₄=>
       wpAny (model prog w) A (call (.builtin "list.append") [acc,x]) (fun _ s₅=>∃m,m<n/\I m s₅) (fun _ _=>False) s₄) (fun _ _=>False) s₃
      else ∃m,m<n/\I m s₃) (fun _ _=>False) s₂) (fun _ _=>False) s₁) (fun _ _=>False) s₁) (fun _ _=>False) s)
  (n:Nat) (h:I n s):
  codeAny (model prog w) A (.compLoop (.ListComp elt [⟨target,iter,ifs,0⟩] scope pos) 0 it acc env) R s:=by
 refine codeAny_loop rfl I (fun n s hI=>?_) n h
 show wpAny _ A ((compTurn (.ListComp elt [⟨target,iter,ifs,0⟩] scope pos) 0 it acc env).onRaise (fun x=>do noteFrame x env;theTreesLotGoes x)) _ _ s
 refine wpAny_noted ?_
 rw[compTurn_list];refine wpAny_bind (wpAny_standAt (wpAny_bind (wpAny_mono (turn n s hI) (fun r s₁ h₁=>?_) fun _ _ h'=>h'.elim)))
 cases r with
 |none=>exact wpAny_pure h₁
 |some v=>
  refine wpAny_bind (wpAny_mono h₁ (fun _ s₁' h₁'=>?_) fun _ _ h'=>h'.elim)
  refine wpAny_bind (wpAny_mono h₁' (fun _ s₂ h₂=>wpAny_bind (wpAny_mono h₂ (fun ok s₃ h₃=>?_) fun _ _ h'=>h'.elim)) fun _ _ h'=>h'.elim)
  cases ok with
  |false=>exact wpAny_pure ⟨rfl,h₃⟩
  |true=>
   exact wpAny_bind (wpAny_bind (wpAny_mono h₃ (fun x s₄ h₄=>wpAny_bind (wpAny_mono h₄ (fun _ s₅ h₅=>wpAny_pure (wpAny_pure ⟨rfl,h₅⟩)) fun _ _ h'=>h'.elim)) fun _ _ h'=>h'.elim))
end
section
variable{X:Cx}{elt tg iter:Expr}{ifs:List Expr}{scope:Scope}{pos:Pos}{wi:TI}{g:TG}{tt:TT}{te:TE}{bs:List Bool}
theorem gX {pins:List (Addr×Obj)}{σ:St}{H:Hp}{s:Shared}{it:Addr}{fp:List Addr}{tn:Nat->Heap->Prop}{J:It}{Q:VK}{E:Value->Shared->Prop}{RR:Value->Addr->Result->Shared->Prop}
  (hc:X.calm=true) (S:CompScope X scope bs)
  (hg:∀cl C s₂ H₂ ex pn,PG (aI X scope cl C s₂ H₂ ex pn) tg g) (ht:∀cl C s₂ H₂ ex pn,PTs (aI X scope cl C s₂ H₂ ex pn) ifs tt) (he:∀cl C s₂ H₂ ex pn,PE (aI X scope cl C s₂ H₂ ex pn) elt te)
  (I:Inv X pins σ H s) (T:Turn X.prog X.w X.K tg J fp it tn) (st:tn 0 s.heap) (hf:∀b∈fp,kF X pins H b)
  (hq:∀acc,H acc=none->
   ∃W:Nat->Nat->List V->St->Hp->Prop,(∃m,W 0 m [] (oF bs σ) (upd H acc (.lst [])))/\∀i m ys σ H,W i m ys σ H->H acc=some (.lst ys)/\
    ((J.stop i H/\Q (.ref acc) H)\/(J.go i H/\∀x H',J.yld i H x H'->g x σ H' fun σ2 H2=>tt σ2 H2 fun ok H3=>if ok=true
     then te σ2 H3 fun v H4=>H4 acc=some (.lst ys)/\ys.length<sizeLine/\∃m',m'<m/\W (i+1) m' (ys++[v]) σ2 (upd H4 acc (.lst (ys++[v])))
     else ∃m',m'<m/\W (i+1) m' ys σ2 H3)))
  (hRR:∀D C s' H' m',Inv X pins σ H' s'->Q (.ref D) H'->s'.heap.Ns C m'->H' C=none->C≠X.env.locals->C∉X.fs->X.s₀.heap.objs.size<=C->(∀x c,X.env.cells.lookup x=some c->c≠C)->(∀p∈X.pn++pins,p.1≠C)->
   RR (.ref D) C (.ok .next) s'):
  wpAny (model X.prog X.w) X.A (newList []) (fun acc s₃=>wpAny (model X.prog X.w) X.A (newFunctionEnv scope X.env.globals (cK X.env scope.names []) [] X.env.qual none .none (some X.env)) (fun cenv s₄=>
   codeAny (model X.prog X.w) X.A (.compStart (.ListComp elt [⟨tg,iter,ifs,0⟩] scope pos) 0 (.ref it) acc {cenv with scope:=relabel scope X.env}) (RR acc cenv.locals) s₄) E s₃) E s:=by
 refine wpAny_newObj_type ?_
 have hfr:H s.heap.objs.size=none:=I.fresh;have I3:Inv X pins σ (upd H s.heap.objs.size (.lst [])) {s with heap:=s.heap.push {cls:=.type "list",dict:=none,data:=.seq ([]:List Value).toArray}}:=I.lnew (its:=[]) (t':=s.toks) .nil (Nat.zero_le _)
 have stp:tn 0 (s.heap.push {cls:=.type "list",dict:=none,data:=.seq ([]:List Value).toArray}):=T.keep _ _ _ st fun b _ o e=>Heap.get?_push_of_some _ e
 have hlt:∀b∈fp,b<s.heap.objs.size:=fun b hb=>by
  obtain⟨o,e,_⟩:=T.obj _ _ st b hb;exact Heap.lt_size e
 have f3:∀b∈fp,kF X pins (upd H s.heap.objs.size (.lst [])) b:=fun b hb=>⟨by rw[aj (Nat.ne_of_lt (hlt b hb))];exact(hf b hb).1,(hf b hb).2⟩
 obtain⟨W,⟨m0,w0⟩,turn⟩:=hq s.heap.objs.size hfr;generalize hacc:s.heap.objs.size=acc at*;generalize hs3:({s with heap:=s.heap.push {cls:=.type "list",dict:=none,data:=.seq ([]:List Value).toArray}}:Shared)=s3 at*
 have stp3:tn 0 s3.heap:=by rw[<-hs3];exact stp
 refine wpAny_newFunctionEnv S.cell (fun y hy=>by simp at hy) (fun h₁ hns₁ hsb₁=>?_) S.kind
 have keep:∀b o,s3.heap.get? b=some o->h₁.get? b=some o:=fun b o e=>(hsb₁.2 b (Nat.ne_of_lt (Heap.lt_size e))).trans (Heap.get?_push_of_some _ e)
 have ob3:∀b∈fp,∃o,s3.heap.get? b=some o:=fun b hb=>by
  obtain⟨o,e,_⟩:=T.obj _ _ stp3 b hb;exact⟨o,e⟩
 have I4:=si (t':=s3.toks+([]:List (Str×Value)).length) S I3 f3 ob3 hns₁ keep;have st4:tn 0 h₁:=T.keep _ _ _ stp3 fun b _ o e=>keep b o e
 have stat:∀{H':Hp}{pl:List (Addr×Obj)},(∀b∈fp,H' b=none)->∀b∈fp,kF (aI X scope (cK X.env scope.names []) s3.heap.objs.size s3 (upd H acc (.lst [])) fp (X.pn++pins)) [] H' b:=fun{H' pl} hn b hb=>by
  obtain⟨_,f1,f2,f3',f4,f5⟩:=f3 b hb;obtain⟨o,e⟩:=ob3 b hb;refine⟨hn b hb,Nat.ne_of_lt (Heap.lt_size e),fun z=>?_,.inl hb,fun x c e=>f4 x c (de X.env scope.names [] (S.has I3) (fun x c e=>by simp at e) x c e),fun p hp=>?_⟩
  ·rcases List.mem_cons.mp (I3.stkSub b z)with q|q
   ·exact f1 q
   ·exact f2 q
  ·have q:p∈(X.pn++pins)++([]:List (Addr×Obj)):=hp
   rw[List.append_nil]at q;exact f5 p q
 let X':Cx:=aI X scope (cK X.env scope.names []) s3.heap.objs.size s3 (upd H acc (.lst [])) fp (X.pn++pins)
 have loop:∀s5:Shared,s5={s3 with heap:=h₁,toks:=s3.toks+([]:List (Str×Value)).length}->
   codeAny (model X.prog X.w) X.A (.compLoop (.ListComp elt [⟨tg,iter,ifs,0⟩] scope pos) 0 (.ref it) (.ref acc) (compEnvC scope (cK X.env scope.names []) s3.heap.objs.size X.env)) (RR (.ref acc) s3.heap.objs.size) s5:=by
  rintro s5 rfl
  refine kE (fun n s'=>∃i ys σ' H',Inv (aI X scope (cK X.env scope.names []) s3.heap.objs.size s3 (upd H acc (.lst [])) fp (X.pn++pins)) [] σ' H' s'/\tn i s'.heap/\(∀b∈fp,H' b=none)/\W i n ys σ' H') ?_ m0
   ⟨0,[],oF bs σ,upd H acc (.lst []),I4,st4,fun b hb=>(f3 b hb).1,w0⟩
  rintro n s6 ⟨i,ys,σ6,H6,I6,st6,fr6,w6⟩
  obtain⟨hac,way⟩:=turn i n ys σ6 H6 w6
  rcases way with⟨stop,qn⟩|⟨go,step⟩
  ·refine thn (T.done X' rfl rfl rfl hc i [] s6 σ6 H6 (fun _ _=>False) I6 (stat (pl:=[]) fr6) st6 stop) fun r s7 hz=>?_
   obtain⟨hr,I7⟩:=hz;subst hr;obtain⟨m',hn',_⟩:=I7.loc;have IX:=sH (C:=s3.heap.objs.size) I3 f3 I7;refine hRR acc s3.heap.objs.size s7 H6 m' IX qn hn' I7.free (Nat.ne_of_gt I3.lt) (I3.nofs (Nat.le_refl _)) I3.sz (fun x c e z=>?_) fun p hp z=>?_
   ·obtain⟨v,q⟩:=I3.cell x c e
    exact absurd q.lt (by rw[z];exact Nat.lt_irrefl _)
   ·exact absurd (Heap.lt_size (I3.pin p hp).1) (by rw[z];exact Nat.lt_irrefl _)
  ·refine thn (T.item X' rfl rfl rfl hc i [] s6 σ6 H6 (fun _ _=>False) I6 (stat (pl:=[]) fr6) st6 go) fun r s7 hz=>?_
   obtain⟨u,hr,h7⟩:=hz;subst hr;refine thn h7 fun _ s8 hz=>?_
   obtain⟨x,H8,I8,r8,y8,st8,fr8⟩:=hz;have I8':=I8.pinned (stat (pl:=[]) fr8) (T.obj _ _ st8);refine thn (hg _ _ _ _ _ _ _ s8 σ6 H8 x u _ I8' r8 (step x H8 y8)) fun _ s9 hz=>?_
   obtain⟨σ9,H9,I9,q9⟩:=hz;refine thn (ht _ _ _ _ _ _ _ s9 σ9 H9 _ I9 q9) fun ok s10 hz=>?_
   obtain⟨H10,I10,q10⟩:=hz;have back:∀{σ':St}{H':Hp}{s':Shared},Inv (aI X scope (cK X.env scope.names []) s3.heap.objs.size s3 (upd H acc (.lst [])) fp (X.pn++pins)) ([]++jH fp s8.heap) σ' H' s'->tn (i+1) s'.heap/\∀b∈fp,H' b=none:=fun{σ' H' s'} K=>by
    refine⟨T.keep _ _ _ st8 fun b hb o e=>(K.pin (b,o) (List.mem_append_right _ (List.mem_append_right _ (df hb e)))).1,fun b hb=>?_⟩
    obtain⟨o,e,d⟩:=T.obj _ _ st8 b hb;exact(K.pin (b,o) (List.mem_append_right _ (List.mem_append_right _ (df hb e)))).2.1
   cases ok with
   |false=>
    rw[if_neg Bool.false_ne_true]at q10⊢;obtain⟨m',hm,w'⟩:=q10;obtain⟨b1,b2⟩:=back I10;exact⟨m',hm,i+1,ys,σ9,H10,I10.unpinned,b1,b2,w'⟩
   |true=>
    rw[if_pos rfl]at q10⊢;refine thn (he _ _ _ _ _ _ _ s10 σ9 H10 _ I10 q10) fun y s11 hz=>?_
    obtain⟨v,H11,I11,r11,hac11,hz,m',hm,w'⟩:=hz;have ap:=dS (X:=X') _ s11 σ9 H11 (.ref acc) [v] (.ref acc) [y] (fun(z:V) (H':Hp)=>H'=upd H11 acc (.lst (ys++[v]))) I11 rfl (.cons r11 .nil) ⟨acc,ys,v,rfl,rfl,hac11,hz,rfl⟩
    refine thn ap fun _ s12 hz=>?_
    obtain⟨_,H12,I12,_,e12⟩:=hz;subst e12;obtain⟨b1,b2⟩:=back I12;exact⟨m',hm,i+1,ys++[v],σ9,_,I12.unpinned,b1,b2,w'⟩
 exact codeAny_compStart_list (loop _ rfl) (T.self _ 0 _ _ _ st4 (loop _ rfl))
theorem vX (hc:X.calm=true) (hi:PI X tg iter wi) (S:CompScope X scope bs)
  (hg:∀cl C s₂ H₂ ex pn,PG (aI X scope cl C s₂ H₂ ex pn) tg g) (ht:∀cl C s₂ H₂ ex pn,PTs (aI X scope cl C s₂ H₂ ex pn) ifs tt) (he:∀cl C s₂ H₂ ex pn,PE (aI X scope cl C s₂ H₂ ex pn) elt te)
  (hs:∀x,foldedSetIterable iter X.env x=pure x:=by intro _;rfl):PE X (.ListComp elt [⟨tg,iter,ifs,0⟩] scope pos) (vk wi bs g tt te):=by
 intro pins s σ H Q I h;rw[eval_ListComp];refine wpAny_comprehension_free (use:=none) rfl hs (dN (S.has I)) S.kind S.loc (thn (hi pins s σ H _ I h) fun v s1 h1=>thn h1 fun itv s2 h2=>?_)
 obtain⟨it,fp,tn,J,H2,e,I2,T,st2,f2,hq⟩:=h2;subst e;refine gX (RR:=fun acc C=>compPost (model X.prog X.w) X.A X.xe none (EP X pins σ Q) acc C) hc S hg ht he I2 T st2 f2 hq ?_
 intro D C s' H' m' I' q' hn hC hL hF hz hcl hp;refine⟨m',hn,fun h'' hs''=>⟨.ref D,H',?_,rfl,q'⟩⟩
 exact I'.turned (t':=s'.toks) (fun b o hb e=>(hs''.2 b hb).trans e) hC hL (.inr hz) hcl hp
theorem pv {i:Nat}{y:Str}{py spos:Pos}(hc:X.calm=true) (hi:PI X tg iter wi) (S:CompScope X scope bs)
  (hg:∀cl C s₂ H₂ ex pn,PG (aI X scope cl C s₂ H₂ ex pn) tg g) (ht:∀cl C s₂ H₂ ex pn,PTs (aI X scope cl C s₂ H₂ ex pn) ifs tt) (he:∀cl C s₂ H₂ ex pn,PE (aI X scope cl C s₂ H₂ ex pn) elt te)
  (hN:X.N.Nodup) (hiN:X.N[i]?=some y) (hy:X.env.scope.names.lookup y=some .local)
  (hsw:swapsWith (.ListComp elt [⟨tg,iter,ifs,0⟩] scope pos) (some (.Name y py)) spos.line X.env=pure true:=by rfl)
  (hs:∀x,foldedSetIterable iter X.env x=pure x:=by intro _;rfl):PS X (.Assign [.Name y py] (.ListComp elt [⟨tg,iter,ifs,0⟩] scope pos) spos) (zN (vk wi bs g tt te) (iQ i)):=by
 intro pins s σ H D I h;rw[exec_Assign_Name_used _ _ _ _ hsw];refine wpAny_bind (wpAny_standAt (wpAny_bind ?_))
 show wpAny _ X.A (do let _ <-comprehension (.ListComp elt [⟨tg,iter,ifs,0⟩] scope pos) scope X.env _ (newList []) false (eval iter X.env) (some (assign (.Name y py) X.env))) _ _ s
 refine wpAny_bind (wpAny_mono (wpAny_comprehension_free (use:=some (assign (.Name y py) X.env)) (Q:=fun _ s'=>SP X pins D .next s') rfl hs (dN (S.has I)) S.kind S.loc
  (thn (hi pins s σ H _ I h) fun v s1 h1=>thn h1 fun itv s2 h2=>?_)) (fun _ s' hq=>wpAny_pure (wpAny_pure hq)) fun _ _ e=>e)
 obtain⟨it,fp,tn,J,H2,e,I2,T,st2,f2,hq⟩:=h2;subst e;refine gX (Q:=fun x H1=>iQ i x σ H1 D.nx) (RR:=fun acc C=>compPost (model X.prog X.w) X.A X.xe (some (assign (.Name y py) X.env)) (fun _ s'=>SP X pins D .next s') acc C) hc S hg ht he I2 T st2 f2 hq ?_
 intro A C s' H' m' I' q' hn hC hL hF hz hcl hp;show wpAny _ X.A (assign (.Name y py) X.env (.ref A)) _ _ _;refine wpAny_assign_Name (jA I' hN hiN (.inl hy) (v:=.ref A) rfl (fun s2 I2 hsb=>?_) (.inr hy))
 obtain⟨a,sb,ha⟩:=hsb;have hCa:C≠a:=by
  rcases ha with z|z
  ·rw[z];exact hL
  ·exact fun q=>hcl y a z q.symm
 refine⟨m',hn.sameBut sb hCa,fun h'' hs''=>⟨σ.set i (some (.ref A)),H',?_,q'⟩⟩
 exact I2.turned (t':=s2.toks) (fun b o hb e=>(hs''.2 b hb).trans e) hC hL (.inr hz) hcl hp
end
mutual
noncomputable def D.flat:D->Bool
 |.non=>true|.bl _=>true|.int _=>true|.str _=>true
 |.tup ds=>D.flats ds
 |.lst _=>false|.dT _ _=>false|.dK _ _=>false|.dD _ _=>false|.sp _ _=>false
noncomputable def D.flats:List D->Bool
 |[]=>true
 |d::ds=>d.flat&&D.flats ds
end
noncomputable def LstS (K:PySem.W.Frag) (B:Addr->Prop) (H:Hp) (a:Addr) (xs:List V):Prop:=
 (B a/\H a=some (.lst xs))\/(∃o,H a=some (.frz o (.lst xs)))\/
  ∃(o:Obj) (its:Array Value) (n:Nat),K.lookup a=some o/\o.cls=.type "list"/\o.dict=none/\o.data=.seq its n/\its.size<=sizeLine/\Vals xs its.toList
theorem LstS.sq {K:PySem.W.Frag}{B:Addr->Prop}{H:Hp}{a:Addr}{xs:List V}(h:LstS K B H a xs):SqL K H a xs:=by
 rcases h with⟨_,h⟩|⟨o,h⟩|h
 ·exact .inl (.inl h)
 ·exact .inl (.inr ⟨o,h⟩)
 ·exact .inr h
noncomputable def DicTS (B:Addr->Prop) (H:Hp) (a:Addr) (kvs:List (List Key×V)):Prop:=(B a/\H a=some (.dT kvs))\/∃o,H a=some (.frz o (.dT kvs))
noncomputable def DicKS (B:Addr->Prop) (H:Hp) (a:Addr) (kvs:List (Key×V)):Prop:=(B a/\H a=some (.dK kvs))\/∃o,H a=some (.frz o (.dK kvs))
noncomputable def DicDS (B:Addr->Prop) (H:Hp) (a:Addr) (kvs:List (D×V)):Prop:=∃ep,(B a/\H a=some (.dD kvs ep))\/∃o,H a=some (.frz o (.dD kvs ep))
mutual
noncomputable def Rep (K:PySem.W.Frag) (B:Addr->Prop) (H:Hp):D->V->Prop
 |.non,v=>v=.non
 |.bl b,v=>v=.bl b
 |.int i,v=>v=.int i
 |.str x,v=>v=.str x
 |.tup ds,v=>∃a xs,v=.ref a/\H a=some (.tup xs)/\Reps K B H ds xs
 |.lst ds,v=>∃a xs,v=.ref a/\LstS K B H a xs/\Reps K B H ds xs
 |.dT ks ds,v=>∃a kvs,v=.ref a/\DicTS B H a kvs/\kvs.map (·.1)=ks/\Reps K B H ds (kvs.map (·.2))
 |.dK ks ds,v=>∃a kvs,v=.ref a/\DicKS B H a kvs/\kvs.map (·.1)=ks/\Reps K B H ds (kvs.map (·.2))
 |.dD ks ds,v=>∃a kvs,v=.ref a/\DicDS B H a kvs/\kvs.map (·.1)=ks/\Reps K B H ds (kvs.map (·.2))
 |.sp false x,v=>∃f,v=.ref f/\PySem.W.nsIn K mainGlobals x=some (some (.ref f))
 |.sp true x,v=>∃a o c u,v=.ref a/\H a=some (.frz o (.own u))/\o.cls=.ref c/\PySem.W.nsIn K mainGlobals x=some (some (.ref c))
noncomputable def Reps (K:PySem.W.Frag) (B:Addr->Prop) (H:Hp):List D->List V->Prop
 |[],xs=>xs=[]
 |d::ds,xs=>∃x r,xs=x::r/\Rep K B H d x/\Reps K B H ds r
end
structure Ext (B:Addr->Prop) (H H':Hp):Prop where
 tups:∀a xs,H a=some (.tup xs)->H' a=some (.tup xs)
 frzs:∀a o u,H a=some (.frz o u)->H' a=some (.frz o u)
 lent:∀a,B a->H' a=H a
theorem Ext.refl {B:Addr->Prop}{H:Hp}:Ext B H H:=⟨fun _ _ h=>h,fun _ _ _ h=>h,fun _ _=>rfl⟩
theorem Ext.trans {B:Addr->Prop}{H H1 H2:Hp}(a:Ext B H H1) (b:Ext B H1 H2):Ext B H H2:=
 ⟨fun x y h=>b.tups x y (a.tups x y h),fun x y z h=>b.frzs x y z (a.frzs x y z h),fun x h=>(b.lent x h).trans (a.lent x h)⟩
section
variable{K:PySem.W.Frag}{B B':Addr->Prop}{H H':Hp}
theorem LstS.ext {a:Addr}{xs:List V}(h:LstS K B H a xs) (e:Ext B H H'):LstS K B H' a xs:=by
 rcases h with⟨b,h⟩|⟨o,h⟩|h
 ·exact .inl ⟨b,(e.lent a b).trans h⟩
 ·exact .inr (.inl ⟨o,e.frzs _ _ _ h⟩)
 ·exact .inr (.inr h)
theorem LstS.more {a:Addr}{xs:List V}(h:LstS K B H a xs) (e:∀a,B a->B' a):LstS K B' H a xs:=by
 rcases h with⟨b,h⟩|h|h
 ·exact .inl ⟨e a b,h⟩
 ·exact .inr (.inl h)
 ·exact .inr (.inr h)
theorem DicTS.ext {a:Addr}{xs:List (List Key×V)}(h:DicTS B H a xs) (e:Ext B H H'):DicTS B H' a xs:=by
 rcases h with⟨b,h⟩|⟨o,h⟩
 ·exact .inl ⟨b,(e.lent a b).trans h⟩
 ·exact .inr ⟨o,e.frzs _ _ _ h⟩
theorem DicKS.ext {a:Addr}{xs:List (Key×V)}(h:DicKS B H a xs) (e:Ext B H H'):DicKS B H' a xs:=by
 rcases h with⟨b,h⟩|⟨o,h⟩
 ·exact .inl ⟨b,(e.lent a b).trans h⟩
 ·exact .inr ⟨o,e.frzs _ _ _ h⟩
theorem DicDS.ext {a:Addr}{xs:List (D×V)}(h:DicDS B H a xs) (e:Ext B H H'):DicDS B H' a xs:=by
 obtain⟨ep,h⟩:=h
 rcases h with⟨b,h⟩|⟨o,h⟩
 ·exact⟨ep,.inl ⟨b,(e.lent a b).trans h⟩⟩
 ·exact⟨ep,.inr ⟨o,e.frzs _ _ _ h⟩⟩
mutual
theorem Rep.ext (e:Ext B H H'):∀{d:D}{v:V},Rep K B H d v->Rep K B H' d v
 |.non,v,h=>by simpa only[Rep]using h
 |.bl b,v,h=>by simpa only[Rep]using h
 |.int i,v,h=>by simpa only[Rep]using h
 |.str x,v,h=>by simpa only[Rep]using h
 |.tup ds,v,h=>by
  simp only[Rep]at h⊢;obtain⟨a,xs,hv,hq,hr⟩:=h;exact⟨a,xs,hv,e.tups _ _ hq,Reps.ext e hr⟩
 |.lst ds,v,h=>by
  simp only[Rep]at h⊢;obtain⟨a,xs,hv,hq,hr⟩:=h;exact⟨a,xs,hv,hq.ext e,Reps.ext e hr⟩
 |.dT ks ds,v,h=>by
  simp only[Rep]at h⊢;obtain⟨a,xs,hv,hq,hk,hr⟩:=h;exact⟨a,xs,hv,hq.ext e,hk,Reps.ext e hr⟩
 |.dK ks ds,v,h=>by
  simp only[Rep]at h⊢;obtain⟨a,xs,hv,hq,hk,hr⟩:=h;exact⟨a,xs,hv,hq.ext e,hk,Reps.ext e hr⟩
 |.dD ks ds,v,h=>by
  simp only[Rep]at h⊢;obtain⟨a,xs,hv,hq,hk,hr⟩:=h;exact⟨a,xs,hv,hq.ext e,hk,Reps.ext e hr⟩
 |.sp false x,v,h=>by simpa only[Rep]using h
 |.sp true x,v,h=>by
  simp only[Rep]at h⊢;obtain⟨a,o,c,u,hv,hq,hr⟩:=h;exact⟨a,o,c,u,hv,e.frzs _ _ _ hq,hr⟩
theorem Reps.ext (e:Ext B H H'):∀{ds:List D}{xs:List V},Reps K B H ds xs->Reps K B H' ds xs
 |[],xs,h=>by simpa only[Reps]using h
 |d::ds,xs,h=>by
  simp only[Reps]at h⊢;obtain⟨x,r,hx,h1,h2⟩:=h;exact⟨x,r,hx,Rep.ext e h1,Reps.ext e h2⟩
end
mutual
theorem Rep.more (e:∀a,B a->B' a):∀{d:D}{v:V},Rep K B H d v->Rep K B' H d v
 |.non,v,h=>by simpa only[Rep]using h
 |.bl b,v,h=>by simpa only[Rep]using h
 |.int i,v,h=>by simpa only[Rep]using h
 |.str x,v,h=>by simpa only[Rep]using h
 |.tup ds,v,h=>by
  simp only[Rep]at h⊢;obtain⟨a,xs,hv,hq,hr⟩:=h;exact⟨a,xs,hv,hq,Reps.more e hr⟩
 |.lst ds,v,h=>by
  simp only[Rep]at h⊢;obtain⟨a,xs,hv,hq,hr⟩:=h;exact⟨a,xs,hv,hq.more e,Reps.more e hr⟩
 |.dT ks ds,v,h=>by
  simp only[Rep]at h⊢;obtain⟨a,xs,hv,hq,hk,hr⟩:=h;exact⟨a,xs,hv,hq.imp (fun z=>⟨e a z.1,z.2⟩) fun z=>z,hk,Reps.more e hr⟩
 |.dK ks ds,v,h=>by
  simp only[Rep]at h⊢;obtain⟨a,xs,hv,hq,hk,hr⟩:=h;exact⟨a,xs,hv,hq.imp (fun z=>⟨e a z.1,z.2⟩) fun z=>z,hk,Reps.more e hr⟩
 |.dD ks ds,v,h=>by
  simp only[Rep]at h⊢;obtain⟨a,xs,hv,⟨ep,hq⟩,hk,hr⟩:=h;exact⟨a,xs,hv,⟨ep,hq.imp (fun z=>⟨e a z.1,z.2⟩) fun z=>z⟩,hk,Reps.more e hr⟩
 |.sp false x,v,h=>by simpa only[Rep]using h
 |.sp true x,v,h=>by simpa only[Rep]using h
theorem Reps.more (e:∀a,B a->B' a):∀{ds:List D}{xs:List V},Reps K B H ds xs->Reps K B' H ds xs
 |[],xs,h=>by simpa only[Reps]using h
 |d::ds,xs,h=>by
  simp only[Reps]at h⊢;obtain⟨x,r,hx,h1,h2⟩:=h;exact⟨x,r,hx,Rep.more e h1,Reps.more e h2⟩
end
mutual
theorem Rep.flat:∀{d:D}{v:V},d.flat=true->Rep K B H d v->Rep K B' H d v
 |.non,v,_,h=>by simpa only[Rep]using h
 |.bl b,v,_,h=>by simpa only[Rep]using h
 |.int i,v,_,h=>by simpa only[Rep]using h
 |.str x,v,_,h=>by simpa only[Rep]using h
 |.tup ds,v,f,h=>by
  simp only[Rep]at h⊢;simp only[D.flat]at f;obtain⟨a,xs,hv,hq,hr⟩:=h;exact⟨a,xs,hv,hq,Reps.flat f hr⟩
 |.lst ds,v,f,_=>by simp[D.flat]at f
 |.dT _ _,v,f,_=>by simp[D.flat]at f
 |.dK _ _,v,f,_=>by simp[D.flat]at f
 |.dD _ _,v,f,_=>by simp[D.flat]at f
 |.sp _ _,v,f,_=>by simp[D.flat]at f
theorem Reps.flat:∀{ds:List D}{xs:List V},D.flats ds=true->Reps K B H ds xs->Reps K B' H ds xs
 |[],xs,_,h=>by simpa only[Reps]using h
 |d::ds,xs,f,h=>by
  simp only[Reps]at h⊢;simp only[D.flats,Bool.and_eq_true]at f;obtain⟨x,r,hx,h1,h2⟩:=h;exact⟨x,r,hx,Rep.flat f.1 h1,Reps.flat f.2 h2⟩
end
theorem Reps.length:∀{ds:List D}{xs:List V},Reps K B H ds xs->ds.length=xs.length
 |[],xs,h=>by simp only[Reps]at h;subst h;rfl
 |d::ds,xs,h=>by
  simp only[Reps]at h;obtain⟨x,r,hx,h1,h2⟩:=h;subst hx;simp only[List.length_cons,Reps.length h2]
theorem Reps.nil:Reps K B H [] []:=by simp only[Reps]
theorem Reps.cons {d:D}{ds:List D}{x:V}{xs:List V}(h:Rep K B H d x) (t:Reps K B H ds xs):Reps K B H (d::ds) (x::xs):=by
 simp only[Reps];exact⟨x,xs,rfl,h,t⟩
theorem Reps.uncons {d:D}{ds:List D}{x:V}{xs:List V}(h:Reps K B H (d::ds) (x::xs)):Rep K B H d x/\Reps K B H ds xs:=by
 simp only[Reps]at h;obtain⟨y,r,e,h1,h2⟩:=h;cases e;exact⟨h1,h2⟩
theorem Reps.get:∀{ds:List D}{xs:List V}{i:Nat}{d:D},Reps K B H ds xs->ds[i]?=some d->∃x,xs[i]?=some x/\Rep K B H d x
 |[],_,_,_,_,e=>by simp at e
 |d::ds,xs,0,e,h,he=>by
  simp only[Reps]at h;obtain⟨x,r,hx,h1,h2⟩:=h;subst hx;simp at he;subst he;exact⟨x,rfl,h1⟩
 |d::ds,xs,i+1,e,h,he=>by
  simp only[Reps]at h;obtain⟨x,r,hx,h1,h2⟩:=h;subst hx;exact Reps.get (i:=i) h2 (by simpa using he)
theorem Reps.get':∀{ds:List D}{xs:List V}{i:Nat}{x:V},Reps K B H ds xs->xs[i]?=some x->∃d,ds[i]?=some d/\Rep K B H d x:=fun{ds xs i x} h e=>by
 have hl:=h.length;have hi:i<ds.length:=by rw[hl];exact(List.getElem?_eq_some_iff.mp e).1
 obtain⟨y,hy,r⟩:=h.get (i:=i) (d:=ds[i]) (by simp[hi])
 rw[e]at hy;obtain rfl:=Option.some.inj hy;exact⟨ds[i],by simp[hi],r⟩
theorem Reps.append:∀{ds es:List D}{xs ys:List V},Reps K B H ds xs->Reps K B H es ys->Reps K B H (ds++es) (xs++ys)
 |[],es,xs,ys,h,t=>by simp only[Reps]at h;subst h;simpa using t
 |d::ds,es,xs,ys,h,t=>by
  simp only[Reps]at h;obtain⟨x,r,hx,h1,h2⟩:=h;subst hx;exact Reps.cons h1 (Reps.append h2 t)
theorem Reps.take:∀{ds:List D}{xs:List V}(n:Nat),Reps K B H ds xs->Reps K B H (ds.take n) (xs.take n)
 |_,_,0,_=>by simp only[List.take_zero];exact Reps.nil
 |[],xs,n+1,h=>by simp only[Reps]at h;subst h;exact Reps.nil
 |d::ds,xs,n+1,h=>by
  simp only[Reps]at h;obtain⟨x,r,hx,h1,h2⟩:=h;subst hx;exact Reps.cons h1 (Reps.take n h2)
theorem Reps.drop:∀{ds:List D}{xs:List V}(n:Nat),Reps K B H ds xs->Reps K B H (ds.drop n) (xs.drop n)
 |_,_,0,h=>h
 |[],xs,n+1,h=>by simp only[Reps]at h;subst h;exact Reps.nil
 |d::ds,xs,n+1,h=>by
  simp only[Reps]at h;obtain⟨x,r,hx,h1,h2⟩:=h;subst hx;exact Reps.drop n h2
end
noncomputable abbrev DEnv:=List (Option (D×Bool))
noncomputable def ObR (K:PySem.W.Frag) (B:Addr->Prop) (H:Hp) (d:D) (a:Addr):Prop:=match d with
 |.lst ds=>∃xs,H a=some (.lst xs)/\Reps K B H ds xs
 |.dT ks ds=>∃kvs,H a=some (.dT kvs)/\kvs.map (·.1)=ks/\Reps K B H ds (kvs.map (·.2))
 |.dK ks ds=>∃kvs,H a=some (.dK kvs)/\kvs.map (·.1)=ks/\Reps K B H ds (kvs.map (·.2))
 |.dD ks ds=>∃kvs,(∃ep,H a=some (.dD kvs ep))/\kvs.map (·.1)=ks/\Reps K B H ds (kvs.map (·.2))
 |_=>False
structure Rel (K:PySem.W.Frag) (B:Addr->Prop) (Hk:Hp) (δ:DEnv) (σ:St) (H:Hp):Prop where
 same:Same Hk H
 bor:∀a,B a->∃o:HOn,Hk a=some o.1
 len:δ.length=σ.length
 var:∀(i:Nat) d,δ[i]?=some (some (d,false))->∃v,σ[i]?=some (some v)/\Rep K B H d v
 own:∀(i:Nat) d,δ[i]?=some (some (d,true))->∃a,σ[i]?=some (some (.ref a))/\Hk a=none/\ObR K B H d a
 dis:∀(i j:Nat) d e a,i≠j->δ[i]?=some (some (d,true))->δ[j]?=some (some (e,true))->σ[i]?=some (some (.ref a))->σ[j]?=some (some (.ref a))->False
noncomputable def BO (B:Addr->Prop) (δ:DEnv) (σ:St) (a:Addr):Prop:=B a\/∃(i:Nat) (d:D),δ[i]?=some (some (d,true))/\σ[i]?=some (some (.ref a))
noncomputable def bF (m:Bool) (B:Addr->Prop) (δ:DEnv) (σ:St):Addr->Prop:=if m=true then BO B δ σ else B
section
variable{K:PySem.W.Frag}{B B':Addr->Prop}{Hk H H':Hp}{δ:DEnv}{σ:St}
theorem Same.ext (s:Same H H') (b:∀a,B a->∃o:HOn,H a=some o.1):Ext B H H':=
 ⟨fun a xs h=>s a _ h,fun a o u h=>s a _ h,fun a h=>by obtain⟨o,e⟩:=b a h;rw[e,s a o e]⟩
theorem ObR.ext {d:D}{a:Addr}(h:ObR K B H d a) (e:Ext B H H') (ha:∀o:HO,H a=some o->o.nt=true->H' a=some o):ObR K B H' d a:=by
 cases d with
 |lst ds=>obtain⟨xs,h1,h2⟩:=h;exact⟨xs,ha _ h1 rfl,h2.ext e⟩
 |dT ks ds=>obtain⟨xs,h1,h0,h2⟩:=h;exact⟨xs,ha _ h1 rfl,h0,h2.ext e⟩
 |dK ks ds=>obtain⟨xs,h1,h0,h2⟩:=h;exact⟨xs,ha _ h1 rfl,h0,h2.ext e⟩
 |dD ks ds=>obtain⟨xs,⟨ep,h1⟩,h0,h2⟩:=h;exact⟨xs,⟨ep,ha _ h1 rfl⟩,h0,h2.ext e⟩
 |_=>exact(show False from h).elim
theorem ObR.there {d:D}{a:Addr}(h:ObR K B H d a):∃o:HOn,H a=some o.1:=by
 cases d with
 |lst ds=>obtain⟨xs,h1,h2⟩:=h;exact⟨⟨_,rfl⟩,h1⟩
 |dT ks ds=>obtain⟨xs,h1,h0,h2⟩:=h;exact⟨⟨_,rfl⟩,h1⟩
 |dK ks ds=>obtain⟨xs,h1,h0,h2⟩:=h;exact⟨⟨_,rfl⟩,h1⟩
 |dD ks ds=>obtain⟨xs,⟨ep,h1⟩,h0,h2⟩:=h;exact⟨⟨_,rfl⟩,h1⟩
 |_=>exact(show False from h).elim
theorem Rel.borH (R:Rel K B Hk δ σ H):∀a,B a->∃o:HOn,H a=some o.1:=fun a h=>by
 obtain⟨o,e⟩:=R.bor a h;exact⟨o,R.same a o e⟩
theorem Rel.boH (R:Rel K B Hk δ σ H):∀a,BO B δ σ a->∃o:HOn,H a=some o.1:=fun a h=>by
 rcases h with h|⟨i,d,h1,h2⟩
 ·exact R.borH a h
 ·obtain⟨b,e,_,ob⟩:=R.own i d h1
  rw[h2]at e;cases e;exact ob.there
theorem Rel.bsH (R:Rel K B Hk δ σ H) (m:Bool):∀a,bF m B δ σ a->∃o:HOn,H a=some o.1:=by
 unfold bF;cases m with
 |true=>exact R.boH
 |false=>exact R.borH
theorem Rel.to (R:Rel K B Hk δ σ H) (s:Same H H'):Rel K B Hk δ σ H':=by
 have e:Ext B H H':=s.ext R.borH;refine⟨R.same.trans s,R.bor,R.len,fun i d h=>?_,fun i d h=>?_,R.dis⟩
 ·obtain⟨v,h1,h2⟩:=R.var i d h
  exact⟨v,h1,h2.ext e⟩
 ·obtain⟨a,h1,h2,h3⟩:=R.own i d h
  exact⟨a,h1,h2,h3.ext e fun o q n=>s.get a o n q⟩
theorem Rep.same {m:Bool}{d:D}{v:V}(r:Rep K (bF m B δ σ) H d v) (R:Rel K B Hk δ σ H) (s:Same H H'):Rep K (bF m B δ σ) H' d v:=r.ext (s.ext (R.bsH m))
theorem Reps.same {m:Bool}{d:List D}{v:List V}(r:Reps K (bF m B δ σ) H d v) (R:Rel K B Hk δ σ H) (s:Same H H'):Reps K (bF m B δ σ) H' d v:=r.ext (s.ext (R.bsH m))
theorem kH (m:Bool):∀a,B a->bF m B δ σ a:=fun a h=>by
 unfold bF;cases m with
 |true=>exact .inl h
 |false=>exact h
theorem ObR.rep {d:D}{a:Addr}(h:ObR K B H d a) (hb:B' a) (hs:∀a,B a->B' a):Rep K B' H d (.ref a):=by
 cases d with
 |lst ds=>obtain⟨xs,h1,h2⟩:=h;simp only[Rep];exact⟨a,xs,rfl,.inl ⟨hb,h1⟩,h2.more hs⟩
 |dT ks ds=>obtain⟨xs,h1,h0,h2⟩:=h;simp only[Rep];exact⟨a,xs,rfl,.inl ⟨hb,h1⟩,h0,h2.more hs⟩
 |dK ks ds=>obtain⟨xs,h1,h0,h2⟩:=h;simp only[Rep];exact⟨a,xs,rfl,.inl ⟨hb,h1⟩,h0,h2.more hs⟩
 |dD ks ds=>obtain⟨xs,⟨ep,h1⟩,h0,h2⟩:=h;simp only[Rep];exact⟨a,xs,rfl,⟨ep,.inl ⟨hb,h1⟩⟩,h0,h2.more hs⟩
 |_=>exact(show False from h).elim
end
theorem PE.imp {X:Cx}{e:Expr}{t t':TE}(h:PE X e t) (i:∀σ H Q,t' σ H Q->t σ H Q):PE X e t':=fun pins s σ H Q I q=>h pins s σ H Q I (i σ H Q q)
theorem PT.imp {X:Cx}{e:Expr}{t t':TT}(h:PT X e t) (i:∀σ H Q,t' σ H Q->t σ H Q):PT X e t':=fun pins s σ H Q I q=>h pins s σ H Q I (i σ H Q q)
theorem PW.imp {X:Cx}{e:Expr}{t t':TT}(h:PW X e t) (i:∀σ H Q,t' σ H Q->t σ H Q):PW X e t':=fun whole pins s σ H Q I q=>h whole pins s σ H Q I (i σ H Q q)
theorem PA.imp {X:Cx}{e:List Expr}{t t':TA}(h:PA X e t) (i:∀σ H Q,t' σ H Q->t σ H Q):PA X e t':=fun pos pins s σ H Q I q=>h pos pins s σ H Q I (i σ H Q q)
theorem PI.imp {X:Cx}{tg e:Expr}{t t':TI}(h:PI X tg e t) (i:∀σ H Q,t' σ H Q->t σ H Q):PI X tg e t':=fun pins s σ H Q I q=>h pins s σ H Q I (i σ H Q q)
theorem PS.imp {X:Cx}{e:Stmt}{t t':TS}(h:PS X e t) (i:∀D σ H,t' D σ H->t D σ H):PS X e t':=fun pins s σ H D I q=>h pins s σ H D I (i D σ H q)
theorem PSs.imp {X:Cx}{e:List Stmt}{t t':TS}(h:PSs X e t) (i:∀D σ H,t' D σ H->t D σ H):PSs X e t':=fun pins s σ H D I q=>h pins s σ H D I (i D σ H q)
inductive tM (K:PySem.W.Frag) (m:Bool) (f:DEnv->Option D) (σ:St) (H:Hp) (Q:VK):Prop
 |mk (B:Addr->Prop) (Hk:Hp) (δ:DEnv) (d:D) (a_:Rel K B Hk δ σ H) (b_:f δ=some d) (c_:∀v H',Same H H'->Rep K (bF m B δ σ) H' d v->Q v H'):tM K m f σ H Q
inductive tF (K:PySem.W.Frag) (f:DEnv->Option D) (σ:St) (H:Hp) (Q:VK):Prop
 |mk (B:Addr->Prop) (Hk:Hp) (δ:DEnv) (d:D) (a_:Rel K B Hk δ σ H) (b_:f δ=some d) (c_:∀a H',Same H H'->H a=none->ObR K B H' d a->Q (.ref a) H'):tF K f σ H Q
inductive tMT (K:PySem.W.Frag) (f:DEnv->Option Bool) (σ:St) (H:Hp) (Q:(Bool->Hp->Prop)):Prop
 |mk (B:Addr->Prop) (Hk:Hp) (δ:DEnv) (d:Bool) (a_:Rel K B Hk δ σ H) (b_:f δ=some d) (c_:∀H',Same H H'->Q d H'):tMT K f σ H Q
inductive tMA (K:PySem.W.Frag) (m:Bool) (f:DEnv->Option (List D)) (σ:St) (H:Hp) (Q:(List V->Hp->Prop)):Prop
 |mk (B:Addr->Prop) (Hk:Hp) (δ:DEnv) (ds:List D) (a_:Rel K B Hk δ σ H) (b_:f δ=some ds) (c_:∀vs H',Same H H'->Reps K (bF m B δ σ) H' ds vs->Q vs H'):tMA K m f σ H Q
noncomputable abbrev DE (X:Cx) (m:Bool) (e:Expr) (f:DEnv->Option D):Prop:=PE X e (tM X.K m f)
noncomputable abbrev DF (X:Cx) (e:Expr) (f:DEnv->Option D):Prop:=PE X e (tF X.K f)
noncomputable abbrev DT (X:Cx) (e:Expr) (f:DEnv->Option Bool):Prop:=PT X e (tMT X.K f)
noncomputable abbrev DA (X:Cx) (m:Bool) (es:List Expr) (f:DEnv->Option (List D)):Prop:=PA X es (tMA X.K m f)
section
variable{X:Cx}{m m':Bool}{a b:Expr}{fa fb:DEnv->Option D}{pos:Pos}
noncomputable def rd (m:Bool) (i:Nat) (δ:DEnv):Option D:=match δ[i]? with|some (some (d,o))=>if(o&&!m)=true then none else some d|_=>none
theorem wK {m:Bool}{i:Nat}{δ:DEnv}{d:D}(h:rd m i δ=some d):∃o,δ[i]?=some (some (d,o))/\(o=true->m=true):=by
 unfold rd at h;split at h
 ·rename_i d' o e
  by_cases q:(o&&!m)=true
  ·rw[if_pos q]at h;contradiction
  ·rw[if_neg q]at h;obtain rfl:=Option.some.inj h
   refine⟨o,e,fun z=>?_⟩
   subst z;cases m with
   |true=>rfl
   |false=>simp at q
 ·contradiction
theorem Rel.rd {K:PySem.W.Frag}{B:Addr->Prop}{Hk H:Hp}{δ:DEnv}{σ:St}{i:Nat}{d:D}(R:Rel K B Hk δ σ H) (h:rd m i δ=some d):∃v,σ[i]?=some (some v)/\Rep K (bF m B δ σ) H d v:=by
 obtain⟨o,e,ho⟩:=wK h;cases o with
 |false=>
  obtain⟨v,h1,h2⟩:=R.var i d e;exact⟨v,h1,h2.more fun a h=>kH m a h⟩
 |true=>
  obtain⟨a,h1,h2,h3⟩:=R.own i d e;obtain rfl:=ho rfl;exact⟨_,h1,h3.rep (B':=bF true B δ σ) (by unfold bF;rw[if_pos rfl];exact .inr ⟨i,d,e,h1⟩) fun a h=>kH true a h⟩
theorem ya {i:Nat}{x:Str}(hN:X.N[i]?=some x) (hv:Vis X.env.scope x) (hd:(x==("__debug__":Str))=false:=by decide) (hcd:(x==("__classdict__":Str))=false:=by decide):DE X m (.Name x pos) (rd m i):=
 (aL hN hv hd hcd).imp fun σ H Q hz=>by
  obtain⟨B,Hk,δ,d,R,e,k⟩:=hz;obtain⟨v,h1,h2⟩:=R.rd e;exact⟨v,h1,k v H (Same.refl H) h2⟩
theorem aM {i:Int}{j:Nat}:DE X m (.Constant (.int i) j pos) (fun _=>some (.int i)):=xB.imp fun σ H Q hz=>by obtain⟨B,Hk,δ,d,R,e,k⟩:=hz;obtain rfl:=Option.some.inj e;exact k _ H (Same.refl H) rfl
theorem bw {x:Str}{j:Nat}:DE X m (.Constant (.str x) j pos) (fun _=>some (.str x)):=yh.imp fun σ H Q hz=>by obtain⟨B,Hk,δ,d,R,e,k⟩:=hz;obtain rfl:=Option.some.inj e;exact k _ H (Same.refl H) rfl
theorem nH {x:Bool}{j:Nat}:DE X m (.Constant (.bool x) j pos) (fun _=>some (.bl x)):=AV.imp fun σ H Q hz=>by obtain⟨B,Hk,δ,d,R,e,k⟩:=hz;obtain rfl:=Option.some.inj e;exact k _ H (Same.refl H) rfl
theorem mU {j:Nat}:DE X m (.Constant .none j pos) (fun _=>some .non):=xo.imp fun σ H Q hz=>by obtain⟨B,Hk,δ,d,R,e,k⟩:=hz;obtain rfl:=Option.some.inj e;exact k _ H (Same.refl H) rfl
theorem two {K:PySem.W.Frag}{σ:St}{H:Hp}{B:Addr->Prop}{Hk:Hp}{δ:DEnv}{d1 d2:D}{P:V->V->Hp->Prop}(R:Rel K B Hk δ σ H) (e1:fa δ=some d1) (e2:fb δ=some d2)
  (k:∀v u H',Same H H'->Rel K B Hk δ σ H'->Rep K (bF m B δ σ) H' d1 v->Rep K (bF m' B δ σ) H' d2 u->P v u H'):tM K m fa σ H fun x H1=>tM K m' fb σ H1 fun y H2=>P x y H2:=
 ⟨B,Hk,δ,d1,R,e1,fun v H1 s1 r1=>⟨B,Hk,δ,d2,R.to s1,e2,fun u H2 s2 r2=>k v u H2 (s1.trans s2) (R.to (s1.trans s2)) (r1.same (R.to s1) s2) r2⟩⟩
noncomputable def bI (C:Int->Int->Bool) (g:Int->Int->D) (x y:Option D):Option D:=match x,y with|some (.int i),some (.int j)=>if C i j=true then some (g i j) else none|_,_=>none
theorem wF {C:Int->Int->Bool}{g:Int->Int->D}{x y:Option D}{d:D}(h:bI C g x y=some d):∃i j,x=some (.int i)/\y=some (.int j)/\C i j=true/\d=g i j:=by
 unfold bI at h;split at h
 ·rename_i i j
  by_cases q:C i j=true
  ·rw[if_pos q]at h;obtain rfl:=Option.some.inj h;exact⟨i,j,rfl,rfl,q,rfl⟩
  ·rw[if_neg q]at h;contradiction
 ·contradiction
theorem uZ {C:Int->Int->Bool}{g:Int->Int->D}{i j:Int}(h:C i j=true):bI C g (some (.int i)) (some (.int j))=some (g i j):=by unfold bI;simp only[if_pos h]
noncomputable def cT:Int->Int->Bool:=fun _ _=>true
noncomputable def Bs:Int->Int->Bool:=fun i j=>decide ((-(2 ^ 64)<i/\i<2 ^ 64)\/(-(2 ^ 64)<j/\j<2 ^ 64))
noncomputable def A6:Int->Int->Bool:=fun _ j=>decide (0<j/\j<1073741824)
noncomputable def AY:Int->Int->Bool:=fun _ j=>decide (0<j)
theorem sB {op:Operator}{C:Int->Int->Bool}{g:Int->Int->Int}{r:R2}{mm:Bool}(ho:OpR X (binaryOp op) r) (hr:∀i j H Q,C i j=true->Q (V.int (g i j)) H->r (.int i) (.int j) H Q) (ha:DE X m a fa) (hb:DE X m' b fb):
  DE X mm (.BinOp a op b pos) (fun δ=>bI C (fun i j=>.int (g i j)) (fa δ) (fb δ)):=
 (vm ho ha hb).imp fun σ H Q hz=>by
  obtain⟨B,Hk,δ,d,R,e,k⟩:=hz;obtain⟨i,j,e1,e2,hc,rfl⟩:=wF e;refine two R e1 e2 fun v u H' s R' r1 r2=>?_
  simp only[Rep]at r1 r2;subst r1 r2;exact hr i j H' Q hc (k _ H' s (by simp only[Rep]))
noncomputable def mO (x y:Option D):Option D:=bI cT (fun i j=>.int (i+j)) x y
noncomputable def wZ (x y:Option D):Option D:=bI Bs (fun i j=>.int (i*j)) x y
noncomputable def zH (x y:Option D):Option D:=bI A6 (fun i j=>.int (i / j)) x y
noncomputable def nI (x y:Option D):Option D:=bI AY (fun i j=>.int (i%j)) x y
theorem yE {mm:Bool}(ha:DE X m a fa) (hb:DE X m' b fb):DE X mm (.BinOp a .Add b pos) (fun δ=>mO (fa δ) (fb δ)):=sB xW (fun i j H Q _ q=>⟨i,j,rfl,rfl,q⟩) ha hb
theorem yg {mm:Bool}(ha:DE X m a fa) (hb:DE X m' b fb):DE X mm (.BinOp a .Mult b pos) (fun δ=>wZ (fa δ) (fb δ)):=sB zq (fun i j H Q c q=>⟨i,j,rfl,rfl,(show(-(2 ^ 64)<i/\i<2 ^ 64)\/(-(2 ^ 64)<j/\j<2 ^ 64) from of_decide_eq_true c),q⟩) ha hb
theorem zm {mm:Bool}(ha:DE X m a fa) (hb:DE X m' b fb):DE X mm (.BinOp a .FloorDiv b pos) (fun δ=>zH (fa δ) (fb δ)):=sB u6 (fun i j H Q c q=>⟨i,j,rfl,rfl,(show 0<j/\j<1073741824 from of_decide_eq_true c),q⟩) ha hb
theorem pr {mm:Bool}(ha:DE X m a fa) (hb:DE X m' b fb):DE X mm (.BinOp a .Mod b pos) (fun δ=>nI (fa δ) (fb δ)):=sB yb (fun i j H Q c q=>⟨i,j,rfl,rfl,(show 0<j from of_decide_eq_true c),q⟩) ha hb
noncomputable def cI (g:Int->Int->Bool) (x y:Option D):Option Bool:=match x,y with|some (.int i),some (.int j)=>some (g i j)|_,_=>none
theorem vi {g:Int->Int->Bool}{x y:Option D}{c:Bool}(h:cI g x y=some c):∃i j,x=some (.int i)/\y=some (.int j)/\c=g i j:=by
 unfold cI at h;split at h
 ·rename_i i j;obtain rfl:=Option.some.inj h;exact⟨i,j,rfl,rfl,rfl⟩
 ·contradiction
theorem yu {op:CmpOp}{g:Int->Int->Bool}(ho:OpR X (compareOp op) (rI0 fun i j=>.bl (g i j))) (hm:behindInMarks op b=false) (ha:DE X m a fa) (hb:DE X m' b fb):
  DT X (.Compare a [op] [b] pos) (fun δ=>cI g (fa δ) (fb δ)):=
 (cQ ho ha hb hm).imp fun σ H Q hz=>by
  obtain⟨B,Hk,δ,d,R,e,k⟩:=hz;obtain⟨i,j,e1,e2,rfl⟩:=vi e;refine two R e1 e2 fun v u H' s R' r1 r2=>?_
  simp only[Rep]at r1 r2;subst r1 r2;exact⟨i,j,rfl,rfl,_,rfl,k H' s⟩
noncomputable abbrev gLt:Int->Int->Bool:=fun i j=>decide (i<j)
noncomputable def tyB (x:Option D):Option Bool:=match x with|some (.bl b)=>some b|_=>none
noncomputable def ofB (x:Option Bool):Option D:=match x with|some b=>some (.bl b)|none=>none
theorem dh {x:Option D}{c:Bool}(h:tyB x=some c):x=some (.bl c):=by
 unfold tyB at h;split at h
 ·obtain rfl:=Option.some.inj h;rfl
 ·contradiction
theorem jF (ha:DE X m a fa) (he:∀whole,isTrue a X.env whole=(do let v <-whole;standAt a.pos;holding [v] (truthy v)):=by intro _;rfl):DT X a (fun δ=>tyB (fa δ)):=
 (yQ ha he).imp fun σ H Q ⟨B,Hk,δ,d,R,e,k⟩=>⟨B,Hk,δ,_,R,dh e,fun v H' s r=>by
  simp only[Rep]at r;subst r;exact⟨d,rfl,k H' s⟩⟩
variable{fc ga gb:DEnv->Option Bool}{bC:List Expr}
noncomputable def tq (x y:Option Bool):Option Bool:=match x with|some true=>y|some false=>some false|none=>none
noncomputable def orO (x y:Option Bool):Option Bool:=match x with|some true=>some true|some false=>y|none=>none
noncomputable def dA (x:Option Bool):Option Bool:=match x with|some c=>some (!c)|none=>none
noncomputable abbrev DW (X:Cx) (e:Expr) (f:DEnv->Option Bool):Prop:=PW X e (tMT X.K f)
theorem kI (ha:DT X a ga):DW X (.BoolOp .And [a] pos) ga:=vV ha
theorem qL (ha:DT X a ga):DW X (.BoolOp .Or [a] pos) ga:=yB ha
theorem pU (ha:DT X a ga) (hb:DW X (.BoolOp .And (b::bC) pos) gb):DW X (.BoolOp .And (a::b::bC) pos) (fun δ=>tq (ga δ) (gb δ)):=
 (xN ha hb).imp fun σ H Q hz=>by
  obtain⟨B,Hk,δ,d,R,e,k⟩:=hz;unfold tq at e;split at e
  ·rename_i q
   exact⟨B,Hk,δ,true,R,q,fun H1 s1=>yk (⟨B,Hk,δ,d,R.to s1,e,fun H2 s2=>k H2 (s1.trans s2)⟩)⟩
  ·rename_i q;obtain rfl:=Option.some.inj e
   exact⟨B,Hk,δ,false,R,q,fun H1 s1=>yP (k H1 s1)⟩
  ·contradiction
theorem sj (ha:DT X a ga) (hb:DW X (.BoolOp .Or (b::bC) pos) gb):DW X (.BoolOp .Or (a::b::bC) pos) (fun δ=>orO (ga δ) (gb δ)):=
 (AL ha hb).imp fun σ H Q hz=>by
  obtain⟨B,Hk,δ,d,R,e,k⟩:=hz;unfold orO at e;split at e
  ·rename_i q;obtain rfl:=Option.some.inj e
   exact⟨B,Hk,δ,true,R,q,fun H1 s1=>yk (k H1 s1)⟩
  ·rename_i q
   exact⟨B,Hk,δ,false,R,q,fun H1 s1=>yP (⟨B,Hk,δ,d,R.to s1,e,fun H2 s2=>k H2 (s1.trans s2)⟩)⟩
  ·contradiction
theorem jm (ha:DT X a ga):DT X (.UnaryOp .Not a pos) (fun δ=>dA (ga δ)):=
 (xA ha).imp fun σ H Q hz=>by
  obtain⟨B,Hk,δ,d,R,e,k⟩:=hz;dsimp only[dA]at e;split at e
  ·rename_i c q;obtain rfl:=Option.some.inj e
   exact⟨B,Hk,δ,c,R,q,fun H1 s1=>k H1 s1⟩
  ·contradiction
theorem yr {op:BoolOp}{mm:Bool}(ha:DE X m a fa) (hk:m=mm:=by rfl):DE X mm (.BoolOp op [a] pos) fa:=by subst hk;exact zb ha
theorem yM {mm:Bool}(ha:DE X m a fa) (hb:DE X mm (.BoolOp .And (b::bC) pos) fb):DE X mm (.BoolOp .And (a::b::bC) pos) (fun δ=>match tyB (fa δ)with|some true=>fb δ|some false=>some (.bl false)|none=>none):=
 (xY ha hb).imp fun σ H Q hz=>by
  obtain⟨B,Hk,δ,d,R,e,k⟩:=hz;split at e
  ·rename_i q
   exact⟨B,Hk,δ,_,R,dh q,fun v H1 s1 r=>by
    simp only[Rep]at r;exact⟨true,r,by rw[if_pos rfl];exact⟨B,Hk,δ,d,R.to s1,e,fun v H2 s2=>k v H2 (s1.trans s2)⟩⟩⟩
  ·rename_i q;obtain rfl:=Option.some.inj e
   exact⟨B,Hk,δ,_,R,dh q,fun v H1 s1 r=>by
    simp only[Rep]at r;exact⟨false,r,by rw[if_neg Bool.false_ne_true];exact k _ H1 s1 (by simp only[Rep])⟩⟩
  ·contradiction
theorem AC {mm:Bool}(ha:DE X m a fa) (hb:DE X mm (.BoolOp .Or (b::bC) pos) fb):DE X mm (.BoolOp .Or (a::b::bC) pos) (fun δ=>match tyB (fa δ)with|some true=>some (.bl true)|some false=>fb δ|none=>none):=
 (AN ha hb).imp fun σ H Q hz=>by
  obtain⟨B,Hk,δ,d,R,e,k⟩:=hz;split at e
  ·rename_i q;obtain rfl:=Option.some.inj e
   exact⟨B,Hk,δ,_,R,dh q,fun v H1 s1 r=>by
    simp only[Rep]at r;exact⟨true,r,by rw[if_pos rfl];exact k _ H1 s1 (by simp only[Rep])⟩⟩
  ·rename_i q
   exact⟨B,Hk,δ,_,R,dh q,fun v H1 s1 r=>by
    simp only[Rep]at r;exact⟨false,r,by rw[if_neg Bool.false_ne_true];exact⟨B,Hk,δ,d,R.to s1,e,fun v H2 s2=>k v H2 (s1.trans s2)⟩⟩⟩
  ·contradiction
theorem zC {mm:Bool}(ha:DE X m a fa):DE X mm (.UnaryOp .Not a pos) (fun δ=>ofB (dA (tyB (fa δ)))):=
 (zv ha).imp fun σ H Q hz=>by
  obtain⟨B,Hk,δ,d,R,e,k⟩:=hz;cases q:tyB (fa δ)with
  |none=>simp only[q,dA,ofB]at e;contradiction
  |some c=>
   simp only[q,dA,ofB]at e;obtain rfl:=Option.some.inj e;exact⟨B,Hk,δ,_,R,dh q,fun v H1 s1 r=>by
    simp only[Rep]at r;exact⟨c,r,k _ H1 s1 (by simp only[Rep])⟩⟩
noncomputable def ad (x:Option D) (y:Option (List D)):Option (List D):=match x,y with|some d,some ds=>some (d::ds)|_,_=>none
theorem c8 {x:Option D}{y:Option (List D)}{l:List D}(h:ad x y=some l):∃d ds,x=some d/\y=some ds/\l=d::ds:=by
 unfold ad at h;split at h
 ·rename_i d ds;obtain rfl:=Option.some.inj h;exact⟨d,ds,rfl,rfl,rfl⟩
 ·contradiction
variable{e:Expr}{es:List Expr}{fe:DEnv->Option D}{fs:DEnv->Option (List D)}
theorem aB:DA X m [] (fun _=>some []):=aT.imp fun σ H Q hz=>by obtain⟨B,Hk,δ,d,R,e,k⟩:=hz;obtain rfl:=Option.some.inj e;exact k [] H (Same.refl H) Reps.nil
theorem af (ha:DE X m e fe) (hr:DA X m es fs) (hs:starEach (e::es) X.env=(false,eval e X.env)::starEach es X.env:=by rfl):DA X m (e::es) (fun δ=>ad (fe δ) (fs δ)):=
 (av ha hr hs).imp fun σ H Q hz=>by
  obtain⟨B,Hk,δ,l,R,e,k⟩:=hz;obtain⟨d,ds,e1,e2,rfl⟩:=c8 e;exact⟨B,Hk,δ,d,R,e1,fun v H1 s1 r1=>⟨B,Hk,δ,ds,R.to s1,e2,fun vs H2 s2 r2=>k (v::vs) H2 (s1.trans s2) (Reps.cons (r1.same (R.to s1) s2) r2)⟩⟩
noncomputable def lim:Nat:=1000000
theorem aH {n:Nat}(h:n<=lim):n<=sizeLine:=Nat.le_trans h (by decide)
noncomputable def dR (x:Option (List D)):Option D:=match x with|some ds=>if ds.length<=lim then some (.tup ds) else none|none=>none
noncomputable def dH (x:Option (List D)):Option D:=match x with|some ds=>if ds.length<=lim then some (.lst ds) else none|none=>none
theorem ot {x:Option (List D)}{d:D}(h:dR x=some d):∃ds,x=some ds/\ds.length<=lim/\d=.tup ds:=by
 unfold dR at h;split at h
 ·rename_i ds
  by_cases q:ds.length<=lim
  ·rw[if_pos q]at h;obtain rfl:=Option.some.inj h;exact⟨ds,rfl,q,rfl⟩
  ·rw[if_neg q]at h;contradiction
 ·contradiction
theorem rA {x:Option (List D)}{d:D}(h:dH x=some d):∃ds,x=some ds/\ds.length<=lim/\d=.lst ds:=by
 unfold dH at h;split at h
 ·rename_i ds
  by_cases q:ds.length<=lim
  ·rw[if_pos q]at h;obtain rfl:=Option.some.inj h;exact⟨ds,rfl,q,rfl⟩
  ·rw[if_neg q]at h;contradiction
 ·contradiction
theorem az {H:Hp}{p:Addr}{o:HO}(h:H p=none):Same H (upd H p o):=(Same.refl H).put h
theorem eP {x1:Nat}(h:DA X m es fs):DE X m (.Tuple es x1 pos) (fun δ=>dR (fs δ)):=
 (uc h).imp fun σ H Q hz=>by
  obtain⟨B,Hk,δ,d,R,e,k⟩:=hz;obtain⟨ds,e1,hl,rfl⟩:=ot e;refine⟨B,Hk,δ,ds,R,e1,fun vs H1 s1 r1=>⟨by rw[<-r1.length];exact aH hl,fun p hp=>?_⟩⟩
  have s2:=az (o:=.tup vs) hp;refine k _ _ (s1.trans s2) ?_
  simp only[Rep];exact⟨p,vs,rfl,ag,r1.same (R.to s1) s2⟩
theorem cx (h:DA X false es fs):DF X (.List es pos) (fun δ=>dH (fs δ)):=
 (pT h).imp fun σ H Q hz=>by
  obtain⟨B,Hk,δ,d,R,e,k⟩:=hz;obtain⟨ds,e1,hl,rfl⟩:=rA e;refine⟨B,Hk,δ,ds,R,e1,fun vs H1 s1 r1=>⟨by rw[<-r1.length];exact aH hl,fun p hp=>?_⟩⟩
  have s2:=az (o:=.lst vs) hp;exact k p _ (s1.trans s2) (s1.free hp) ⟨vs,ag,r1.same (m:=false) (R.to s1) s2⟩
end
noncomputable def okD:Nat->D->Bool
 |_,.non=>true
 |_,.int _=>true
 |_,.str _=>true
 |n+1,.tup ds=>ds.all (okD n)
 |n+1,.lst ds=>ds.all (okD n)
 |_,_=>false
theorem iY {n:Nat}{ds:List D}(h:okD n (.tup ds)=true):∃k,n=k+1/\ds.all (okD k)=true:=by
 cases n with
 |zero=>simp[okD]at h
 |succ k=>exact⟨k,rfl,by simpa only[okD]using h⟩
theorem iG {n:Nat}{ds:List D}(h:okD n (.lst ds)=true):∃k,n=k+1/\ds.all (okD k)=true:=by
 cases n with
 |zero=>simp[okD]at h
 |succ k=>exact⟨k,rfl,by simpa only[okD]using h⟩
section
variable{X:Cx}{pins:List (Addr×Obj)}{σ:St}{H:Hp}{s:Shared}{B B':Addr->Prop}
theorem dm {a:Addr}{xs ys:List V}(I:Inv X pins σ H s) (h:SqL X.K H a xs) (h':SqT X.K H a ys):False:=by
 obtain⟨its,_,⟨o,n,e,hc,_,_⟩,_⟩:=I.list h;obtain⟨its',_,⟨o',e',hc',_⟩,_⟩:=I.tuple h';rw[e]at e';obtain rfl:=Option.some.inj e';rw[hc]at hc';injection hc' with z
 exact absurd z (by decide)
mutual
theorem Rep.inj (I:Inv X pins σ H s):∀{n n':Nat}{d e:D}{v:V},okD n d=true->okD n' e=true->Rep X.K B H d v->Rep X.K B' H e v->d=e
 |n,n',.non,e,v,hd,he,r,r'=>by
  simp only[Rep]at r;subst r;cases e with
  |non=>rfl
  |dT _ _=>simp[okD]at he
  |dK _ _=>simp[okD]at he
  |dD _ _=>simp[okD]at he
  |sp _ _=>simp[okD]at he
  |tup _=>simp only[Rep]at r';obtain⟨a,xs,z,_⟩:=r';contradiction
  |lst _=>simp only[Rep]at r';obtain⟨a,xs,z,_⟩:=r';contradiction
  |_=>simp only[Rep]at r';contradiction
 |n,n',.bl _,e,v,hd,he,r,r'=>by simp[okD]at hd
 |n,n',.dT _ _,e,v,hd,he,r,r'=>by simp[okD]at hd
 |n,n',.dK _ _,e,v,hd,he,r,r'=>by simp[okD]at hd
 |n,n',.dD _ _,e,v,hd,he,r,r'=>by simp[okD]at hd
 |n,n',.sp _ _,e,v,hd,he,r,r'=>by simp[okD]at hd
 |n,n',.int i,e,v,hd,he,r,r'=>by
  simp only[Rep]at r;subst r;cases e with
  |int j=>simp only[Rep]at r';cases r';rfl
  |dT _ _=>simp[okD]at he
  |dK _ _=>simp[okD]at he
  |dD _ _=>simp[okD]at he
  |sp _ _=>simp[okD]at he
  |tup _=>simp only[Rep]at r';obtain⟨a,xs,z,_⟩:=r';contradiction
  |lst _=>simp only[Rep]at r';obtain⟨a,xs,z,_⟩:=r';contradiction
  |_=>simp only[Rep]at r';contradiction
 |n,n',.str i,e,v,hd,he,r,r'=>by
  simp only[Rep]at r;subst r;cases e with
  |str j=>simp only[Rep]at r';cases r';rfl
  |dT _ _=>simp[okD]at he
  |dK _ _=>simp[okD]at he
  |dD _ _=>simp[okD]at he
  |sp _ _=>simp[okD]at he
  |tup _=>simp only[Rep]at r';obtain⟨a,xs,z,_⟩:=r';contradiction
  |lst _=>simp only[Rep]at r';obtain⟨a,xs,z,_⟩:=r';contradiction
  |_=>simp only[Rep]at r';contradiction
 |n,n',.tup ds,e,v,hd,he,r,r'=>by
  simp only[Rep]at r;obtain⟨a,xs,rfl,hq,hr⟩:=r;obtain⟨k,_,hd⟩:=iY hd;cases e with
  |tup es=>
   simp only[Rep]at r';obtain⟨b,ys,z,hq',hr'⟩:=r';cases z;obtain rfl:=I.tuple_inj (SqT.of hq) (SqT.of hq');obtain⟨k',_,he⟩:=iY he;rw[Reps.inj I hd he hr hr']
  |lst es=>
   simp only[Rep]at r';obtain⟨b,ys,z,hq',hr'⟩:=r';cases z;exact(dm I hq'.sq (SqT.of hq)).elim
  |dT _ _=>simp[okD]at he
  |dK _ _=>simp[okD]at he
  |dD _ _=>simp[okD]at he
  |sp _ _=>simp[okD]at he
  |_=>simp only[Rep]at r';contradiction
 |n,n',.lst ds,e,v,hd,he,r,r'=>by
  simp only[Rep]at r;obtain⟨a,xs,rfl,hq,hr⟩:=r;obtain⟨k,_,hd⟩:=iG hd;cases e with
  |lst es=>
   simp only[Rep]at r';obtain⟨b,ys,z,hq',hr'⟩:=r';cases z;obtain rfl:=I.list_inj hq.sq hq'.sq;obtain⟨k',_,he⟩:=iG he;rw[Reps.inj I hd he hr hr']
  |tup es=>
   simp only[Rep]at r';obtain⟨b,ys,z,hq',hr'⟩:=r';cases z;exact(dm I hq.sq (SqT.of hq')).elim
  |dT _ _=>simp[okD]at he
  |dK _ _=>simp[okD]at he
  |dD _ _=>simp[okD]at he
  |sp _ _=>simp[okD]at he
  |_=>simp only[Rep]at r';contradiction
theorem Reps.inj (I:Inv X pins σ H s):∀{n n':Nat}{ds es:List D}{xs:List V},ds.all (okD n)=true->es.all (okD n')=true->Reps X.K B H ds xs->Reps X.K B' H es xs->ds=es
 |n,n',[],es,xs,hd,he,r,r'=>by
  simp only[Reps]at r;subst r;cases es with
  |nil=>rfl
  |cons e es=>simp only[Reps]at r';obtain⟨_,_,z,_⟩:=r';contradiction
 |n,n',d::ds,es,xs,hd,he,r,r'=>by
  simp only[Reps]at r;obtain⟨x,t,rfl,r1,r2⟩:=r;cases es with
  |nil=>simp only[Reps]at r';contradiction
  |cons e es=>
   obtain⟨q1,q2⟩:=r'.uncons;rw[List.all_cons,Bool.and_eq_true]at hd he;rw[Rep.inj I hd.1 he.1 r1 q1,Reps.inj I hd.2 he.2 r2 q2]
end
theorem eQ:∀(ds es:List D),(ds.length=es.length)->((List.range ds.length).all fun j=>decide (ds[j]?=es[j]?))=decide (ds=es):=by
 intro ds es hl;rw[Bool.eq_iff_iff,List.all_eq_true,decide_eq_true_iff];constructor
 ·intro h
  apply List.ext_getElem?;intro j
  by_cases hj:j<ds.length
  ·exact of_decide_eq_true (h j (List.mem_range.mpr hj))
  ·rw[List.getElem?_eq_none (by lia),List.getElem?_eq_none (by lia)]
 ·intro h j _
  subst h;exact decide_eq_true rfl
theorem i8:∀(ds es:List D),(((List.range (min ds.length es.length)).all fun j=>decide (ds[j]?=es[j]?))&&ds.length==es.length)=decide (ds=es):=by
 intro ds es
 by_cases hl:ds.length=es.length
 ·rw[hl,Nat.min_self,beq_self_eq_true,Bool.and_true,<-hl,eQ ds es hl]
 ·have h1:(ds.length==es.length)=false:=by simpa using hl
  have h2:¬ds=es:=fun z=>hl (by rw[z])
  rw[h1,Bool.and_false,decide_eq_false h2]
open SeqAt in
theorem zJ (I:Inv X pins σ H s):∀(n:Nat) (d e:D) (x y:V) (u w:Value) (A:Around),okD n d=true->okD n e=true->A.units+n+1<cLine->Rep X.K B H d x->Rep X.K B' H e y->RelV x u->RelV y w->
  RcAt A s u w (decide (d=e))/\EqAt A s u w (decide (d=e))/\RcNeAt A s u w (!decide (d=e)):=by
 intro n
 induction n using Nat.strongRecOn with
 |ind n ih=>
 intro d e x y u w A hd he hA rd re rx ry;have hu:A.units<cLine:=by lia
 cases d with
 |bl _=>simp[okD]at hd
 |dT _ _=>simp[okD]at hd
 |dK _ _=>simp[okD]at hd
 |dD _ _=>simp[okD]at hd
 |sp _ _=>simp[okD]at hd
 |non=>
  simp only[Rep]at rd;subst rd;cases rx;cases e with
  |bl _=>simp[okD]at he
  |dT _ _=>simp[okD]at he
  |dK _ _=>simp[okD]at he
  |dD _ _=>simp[okD]at he
  |sp _ _=>simp[okD]at he
  |non=>simp only[Rep]at re;subst re;cases ry;rw[decide_eq_true rfl];exact⟨RcAt.none_none,EqAt.same _,RcNeAt.none_none⟩
  |int j=>simp only[Rep]at re;subst re;obtain⟨t,rfl⟩:=ry;rw[decide_eq_false (by intro z;contradiction)];exact⟨RcAt.none_int j t,EqAt.none_int j t,RcNeAt.none_int j t⟩
  |str j=>simp only[Rep]at re;subst re;obtain⟨t,rfl⟩:=ry;rw[decide_eq_false (by intro z;contradiction)];exact⟨RcAt.none_str j t,EqAt.none_str j t,RcNeAt.none_str j t⟩
  |tup es=>
   simp only[Rep]at re;obtain⟨b,ys,rfl,hq,hr⟩:=re;cases ry;obtain⟨its,rv,ht,_⟩:=I.tuple (SqT.of hq);rw[decide_eq_false (by intro z;contradiction)];exact⟨RcAt.none_tuple ht hu,EqAt.none_tuple ht hu,RcNeAt.none_tuple ht hu⟩
  |lst es=>
   simp only[Rep]at re;obtain⟨b,ys,rfl,hq,hr⟩:=re;cases ry;obtain⟨its,rv,ht,_⟩:=I.list hq.sq;rw[decide_eq_false (by intro z;contradiction)];exact⟨RcAt.none_list ht.isList hu,EqAt.none_list ht.isList hu,RcNeAt.none_list ht.isList hu⟩
 |int i=>
  simp only[Rep]at rd;subst rd;obtain⟨t',rfl⟩:=rx;cases e with
  |bl _=>simp[okD]at he
  |dT _ _=>simp[okD]at he
  |dK _ _=>simp[okD]at he
  |dD _ _=>simp[okD]at he
  |sp _ _=>simp[okD]at he
  |non=>simp only[Rep]at re;subst re;cases ry;rw[decide_eq_false (by intro z;contradiction)];exact⟨RcAt.int_none i t',EqAt.int_none i t',RcNeAt.int_none i t'⟩
  |int j=>
   simp only[Rep]at re;subst re;obtain⟨t,rfl⟩:=ry;have q:decide (D.int i=D.int j)=(i==j):=by rw[Bool.eq_iff_iff,decide_eq_true_iff,beq_iff_eq,D.int.injEq]
   rw[q];exact⟨RcAt.int_int i t' j t,EqAt.int_int i t' j t,RcNeAt.int_int i t' j t⟩
  |str j=>simp only[Rep]at re;subst re;obtain⟨t,rfl⟩:=ry;rw[decide_eq_false (by intro z;contradiction)];exact⟨RcAt.int_str i t' j t,EqAt.int_str i t' j t,RcNeAt.int_str i t' j t⟩
  |tup es=>
   simp only[Rep]at re;obtain⟨b,ys,rfl,hq,hr⟩:=re;cases ry;obtain⟨its,rv,ht,_⟩:=I.tuple (SqT.of hq);rw[decide_eq_false (by intro z;contradiction)];exact⟨RcAt.int_tuple i t' ht hu,EqAt.int_tuple i t' ht hu,RcNeAt.int_tuple i t' ht hu⟩
  |lst es=>
   simp only[Rep]at re;obtain⟨b,ys,rfl,hq,hr⟩:=re;cases ry;obtain⟨its,rv,ht,_⟩:=I.list hq.sq;rw[decide_eq_false (by intro z;contradiction)];exact⟨RcAt.int_list i t' ht.isList hu,EqAt.int_list i t' ht.isList hu,RcNeAt.int_list i t' ht.isList hu⟩
 |str i=>
  simp only[Rep]at rd;subst rd;obtain⟨t',rfl⟩:=rx;cases e with
  |bl _=>simp[okD]at he
  |dT _ _=>simp[okD]at he
  |dK _ _=>simp[okD]at he
  |dD _ _=>simp[okD]at he
  |sp _ _=>simp[okD]at he
  |non=>simp only[Rep]at re;subst re;cases ry;rw[decide_eq_false (by intro z;contradiction)];exact⟨RcAt.str_none i t',EqAt.str_none i t',RcNeAt.str_none i t'⟩
  |int j=>simp only[Rep]at re;subst re;obtain⟨t,rfl⟩:=ry;rw[decide_eq_false (by intro z;contradiction)];exact⟨RcAt.str_int i t' j t,EqAt.str_int i t' j t,RcNeAt.str_int i t' j t⟩
  |str j=>
   simp only[Rep]at re;subst re;obtain⟨t,rfl⟩:=ry;have q:decide (D.str i=D.str j)=(i==j):=by rw[Bool.eq_iff_iff,decide_eq_true_iff,beq_iff_eq,D.str.injEq]
   rw[q];exact⟨RcAt.str_str i t' j t,EqAt.str_str i t' j t,RcNeAt.str_str i t' j t⟩
  |tup es=>
   simp only[Rep]at re;obtain⟨b,ys,rfl,hq,hr⟩:=re;cases ry;obtain⟨its,rv,ht,_⟩:=I.tuple (SqT.of hq);rw[decide_eq_false (by intro z;contradiction)];exact⟨RcAt.str_tuple i t' ht hu,EqAt.str_tuple i t' ht hu,RcNeAt.str_tuple i t' ht hu⟩
  |lst es=>
   simp only[Rep]at re;obtain⟨b,ys,rfl,hq,hr⟩:=re;cases ry;obtain⟨its,rv,ht,_⟩:=I.list hq.sq;rw[decide_eq_false (by intro z;contradiction)];exact⟨RcAt.str_list i t' ht.isList hu,EqAt.str_list i t' ht.isList hu,RcNeAt.str_list i t' ht.isList hu⟩
 |tup ds=>
  simp only[Rep]at rd;obtain⟨a,xs,rfl,hp,hr⟩:=rd;cases rx;obtain⟨its,rv,hta,_⟩:=I.tuple (SqT.of hp);obtain⟨k,rfl,hd'⟩:=iY hd;cases e with
  |bl _=>simp[okD]at he
  |dT _ _=>simp[okD]at he
  |dK _ _=>simp[okD]at he
  |dD _ _=>simp[okD]at he
  |sp _ _=>simp[okD]at he
  |non=>simp only[Rep]at re;subst re;cases ry;rw[decide_eq_false (by intro z;contradiction)];exact⟨RcAt.tuple_none hta hu,EqAt.tuple_none hta hu,RcNeAt.tuple_none hta hu⟩
  |int j=>simp only[Rep]at re;subst re;obtain⟨t,rfl⟩:=ry;rw[decide_eq_false (by intro z;contradiction)];exact⟨RcAt.tuple_int j t hta hu,EqAt.tuple_int j t hta hu,RcNeAt.tuple_int j t hta hu⟩
  |str j=>simp only[Rep]at re;subst re;obtain⟨t,rfl⟩:=ry;rw[decide_eq_false (by intro z;contradiction)];exact⟨RcAt.tuple_str j t hta hu,EqAt.tuple_str j t hta hu,RcNeAt.tuple_str j t hta hu⟩
  |lst es=>
   simp only[Rep]at re;obtain⟨b,ys,rfl,hq,hr⟩:=re;cases ry;obtain⟨its,rv,ht,_⟩:=I.list hq.sq;rw[decide_eq_false (by intro z;contradiction)];exact⟨RcAt.tuple_list hta ht.isList hu,EqAt.tuple_list hta ht.isList hu,RcNeAt.tuple_list hta ht.isList hu⟩
  |tup es=>
   simp only[Rep]at re;obtain⟨b,ys,rfl,hq,hr2⟩:=re;cases ry;obtain⟨its2,rv2,htb,_⟩:=I.tuple (SqT.of hq);obtain⟨k',e',he'⟩:=iY he;cases e';have l1:=hr.length;have l2:=rv.length;have l3:=hr2.length;have l4:=rv2.length;have el:∀j (h1:j<its.toArray.size) (h2:j<its2.toArray.size),EqAt A.in1 s its.toArray[j] its2.toArray[j] (decide (ds[j]?=es[j]?)):=fun j h1 h2=>by
    simp only[List.size_toArray]at h1 h2;obtain⟨d',hd1⟩:∃d',ds[j]?=some d':=⟨ds[j]'(by lia),by simp⟩
    obtain⟨e',he1⟩:∃e',es[j]?=some e':=⟨es[j]'(by lia),by simp⟩
    obtain⟨x',hx1,rx'⟩:=hr.get hd1;obtain⟨y',hy1,ry'⟩:=hr2.get he1;obtain⟨u',hu1,ru'⟩:=rv.get hx1;obtain⟨w',hw1,rw'⟩:=rv2.get hy1;have q:=(ih k (Nat.lt_succ_self k) d' e' x' y' u' w' A.in1 ((List.all_eq_true.mp hd') d' (List.mem_of_getElem? hd1)) ((List.all_eq_true.mp he') e' (List.mem_of_getElem? he1)) (by show A.units+1+k+1<cLine;lia) rx' ry' ru' rw').2.1
    have g1:its.toArray[j]=u':=by
     have:=List.getElem?_eq_some_iff.mp hu1
     simpa using this.2
    have g2:its2.toArray[j]=w':=by
     have:=List.getElem?_eq_some_iff.mp hw1
     simpa using this.2
    rw[g1,g2,hd1,he1];have q2:decide (some d'=some e')=decide (d'=e'):=by simp
    rw[q2];exact q
   have key:((List.range (min its.toArray.size its2.toArray.size)).all (fun j=>decide (ds[j]?=es[j]?))&&its.toArray.size==its2.toArray.size)=decide (D.tup ds=D.tup es):=by
    rw[List.size_toArray,List.size_toArray,<-l2,<-l4,<-l1,<-l3,i8];simp only[D.tup.injEq]
   have rc:=RcAt.tuples hta htb hu el;have rn:=RcNeAt.tuples hta htb hu el;rw[key]at rc rn;refine⟨rc,?_,rn⟩
   by_cases hab:a=b
   ·subst hab
    obtain rfl:=I.tuple_inj (SqT.of hp) (SqT.of hq);have:=Reps.inj I hd' he' hr hr2;subst this;rw[decide_eq_true rfl];exact EqAt.same _
   ·exact EqAt.of_refs hab rc
 |lst ds=>
  simp only[Rep]at rd;obtain⟨a,xs,rfl,hp,hr⟩:=rd;cases rx;obtain⟨its,rv,hta,_⟩:=I.list hp.sq;obtain⟨k,rfl,hd'⟩:=iG hd;cases e with
  |bl _=>simp[okD]at he
  |dT _ _=>simp[okD]at he
  |dK _ _=>simp[okD]at he
  |dD _ _=>simp[okD]at he
  |sp _ _=>simp[okD]at he
  |non=>simp only[Rep]at re;subst re;cases ry;rw[decide_eq_false (by intro z;contradiction)];exact⟨RcAt.list_none hta.isList hu,EqAt.list_none hta.isList hu,RcNeAt.list_none hta.isList hu⟩
  |int j=>simp only[Rep]at re;subst re;obtain⟨t,rfl⟩:=ry;rw[decide_eq_false (by intro z;contradiction)];exact⟨RcAt.list_int j t hta.isList hu,EqAt.list_int j t hta.isList hu,RcNeAt.list_int j t hta.isList hu⟩
  |str j=>simp only[Rep]at re;subst re;obtain⟨t,rfl⟩:=ry;rw[decide_eq_false (by intro z;contradiction)];exact⟨RcAt.list_str j t hta.isList hu,EqAt.list_str j t hta.isList hu,RcNeAt.list_str j t hta.isList hu⟩
  |tup es=>
   simp only[Rep]at re;obtain⟨b,ys,rfl,hq,hr⟩:=re;cases ry;obtain⟨its,rv,ht,_⟩:=I.tuple (SqT.of hq);rw[decide_eq_false (by intro z;contradiction)];exact⟨RcAt.list_tuple hta.isList ht hu,EqAt.list_tuple hta.isList ht hu,RcNeAt.list_tuple hta.isList ht hu⟩
  |lst es=>
   simp only[Rep]at re;obtain⟨b,ys,rfl,hq,hr2⟩:=re;cases ry;obtain⟨its2,rv2,htb,_⟩:=I.list hq.sq;obtain⟨k',e',he'⟩:=iG he;cases e';have l1:=hr.length;have l2:=rv.length;have l3:=hr2.length;have l4:=rv2.length;have el:∀j (h1:j<its.toArray.size) (h2:j<its2.toArray.size),EqAt A.in1 s its.toArray[j] its2.toArray[j] (decide (ds[j]?=es[j]?)):=fun j h1 h2=>by
    simp only[List.size_toArray]at h1 h2;obtain⟨d',hd1⟩:∃d',ds[j]?=some d':=⟨ds[j]'(by lia),by simp⟩
    obtain⟨e',he1⟩:∃e',es[j]?=some e':=⟨es[j]'(by lia),by simp⟩
    obtain⟨x',hx1,rx'⟩:=hr.get hd1;obtain⟨y',hy1,ry'⟩:=hr2.get he1;obtain⟨u',hu1,ru'⟩:=rv.get hx1;obtain⟨w',hw1,rw'⟩:=rv2.get hy1;have q:=(ih k (Nat.lt_succ_self k) d' e' x' y' u' w' A.in1 ((List.all_eq_true.mp hd') d' (List.mem_of_getElem? hd1)) ((List.all_eq_true.mp he') e' (List.mem_of_getElem? he1)) (by show A.units+1+k+1<cLine;lia) rx' ry' ru' rw').2.1
    have g1:its.toArray[j]=u':=by
     have:=List.getElem?_eq_some_iff.mp hu1
     simpa using this.2
    have g2:its2.toArray[j]=w':=by
     have:=List.getElem?_eq_some_iff.mp hw1
     simpa using this.2
    rw[g1,g2,hd1,he1];have q2:decide (some d'=some e')=decide (d'=e'):=by simp
    rw[q2];exact q
   by_cases hsz:its.toArray.size=its2.toArray.size
   ·have key:((List.range its.toArray.size).all (fun j=>decide (ds[j]?=es[j]?)))=decide (D.lst ds=D.lst es):=by
     have hl:ds.length=es.length:=by simp only[List.size_toArray]at hsz;lia
     rw[List.size_toArray,<-l2,<-l1,eQ _ _ hl];simp only[D.lst.injEq]
    have rc:=RcAt.lists hta.isList htb.isList hsz hu el;have rn:=RcNeAt.lists hta.isList htb.isList hsz hu el;rw[key]at rc rn;refine⟨rc,?_,rn⟩
    by_cases hab:a=b
    ·subst hab
     obtain rfl:=I.list_inj hp.sq hq.sq;have:=Reps.inj I hd' he' hr hr2;subst this;rw[decide_eq_true rfl];exact EqAt.same _
    ·exact EqAt.of_refs hab rc
   ·have hne:¬D.lst ds=D.lst es:=fun z=>hsz (by
     cases z;simp only[List.size_toArray];lia)
    have hb:(its.toArray.size != its2.toArray.size)=true:=by simpa using hsz
    rw[decide_eq_false hne];have rc:=RcAt.lists_lengths hta.isList htb.isList hb hu;refine⟨rc,?_,RcNeAt.lists_lengths hta.isList htb.isList hb hu⟩
    have hab:a≠b:=fun z=>by
     subst z;obtain rfl:=I.list_inj hp.sq hq.sq;exact hsz (by simp only[List.size_toArray];lia)
    exact EqAt.of_refs hab rc
end
section
variable{X:Cx}{m m' mm:Bool}{a b:Expr}{fa fb:DEnv->Option D}{pos:Pos}
noncomputable def ok2 (x y:D):Bool:=okD 16 x&&okD 16 y
noncomputable def eqO (x y:Option D):Option Bool:=match x,y with|some d,some e=>if ok2 d e=true then some (decide (d=e)) else none|_,_=>none
theorem mY {x y:Option D}{c:Bool}(h:eqO x y=some c):∃d e,x=some d/\y=some e/\okD 16 d=true/\okD 16 e=true/\c=decide (d=e):=by
 unfold eqO at h;split at h
 ·rename_i d e
  by_cases q:ok2 d e=true
  ·rw[if_pos q]at h
   obtain rfl:=Option.some.inj h;unfold ok2 at q;rw[Bool.and_eq_true]at q;exact⟨d,e,rfl,rfl,q.1,q.2,rfl⟩
  ·rw[if_neg q]at h;contradiction
 ·contradiction
theorem uC {d e:D}(h1:okD 16 d=true) (h2:okD 16 e=true):eqO (some d) (some e)=some (decide (d=e)):=by
 unfold eqO ok2;simp only[h1,h2,Bool.and_self,if_true]
noncomputable def neO (x y:Option D):Option Bool:=dA (eqO x y)
noncomputable def rD (K:PySem.W.Frag) (g:D->D->Bool):R2:=fun x y H Q=>∃B B' d e,okD 16 d=true/\okD 16 e=true/\Rep K B H d x/\Rep K B' H e y/\Q (.bl (g d e)) H
theorem zD (hu:X.A.units+64<cLine):OpR X (compareOp .Eq) (rD X.K fun d e=>decide (d=e)):=by
 intro pins s σ H x y v u Q I rx ry h;obtain⟨B,B',d,e,hd,he,r1,r2,q⟩:=h;exact(zJ I 16 d e x y v u X.A hd he (by lia) r1 r2 rx ry).1 X.prog X.w X.xe _ ⟨.bl _,H,I,rfl,q⟩
theorem xT (hu:X.A.units+64<cLine):OpR X (compareOp .NotEq) (rD X.K fun d e=>!decide (d=e)):=by
 intro pins s σ H x y v u Q I rx ry h;obtain⟨B,B',d,e,hd,he,r1,r2,q⟩:=h;exact(zJ I 16 d e x y v u X.A hd he (by lia) r1 r2 rx ry).2.2 X.prog X.w X.xe _ ⟨.bl _,H,I,rfl,q⟩
theorem qr (hu:X.A.units+64<cLine) (ha:DE X m a fa) (hb:DE X m' b fb):DT X (.Compare a [.Eq] [b] pos) (fun δ=>eqO (fa δ) (fb δ)):=
 (cQ (zD hu) ha hb (uw _)).imp fun σ H Q hz=>by
  obtain⟨B,Hk,δ,d,R,q,k⟩:=hz;obtain⟨d1,d2,e1,e2,o1,o2,rfl⟩:=mY q;exact two R e1 e2 fun v u H' s R' r1 r2=>⟨_,_,d1,d2,o1,o2,r1,r2,_,rfl,k H' s⟩
theorem oC (hu:X.A.units+64<cLine) (ha:DE X m a fa) (hb:DE X m' b fb):DT X (.Compare a [.NotEq] [b] pos) (fun δ=>neO (fa δ) (fb δ)):=
 (cQ (xT hu) ha hb (uw _)).imp fun σ H Q hz=>by
  obtain⟨B,Hk,δ,d,R,e,k⟩:=hz;cases q:eqO (fa δ) (fb δ)with
  |none=>simp only[q,neO,dA]at e;contradiction
  |some c=>
   simp only[q,neO,dA]at e;obtain rfl:=Option.some.inj e;obtain⟨d1,d2,e1,e2,o1,o2,rfl⟩:=mY q;exact two R e1 e2 fun v u H' s R' r1 r2=>⟨_,_,d1,d2,o1,o2,r1,r2,_,rfl,k H' s⟩
noncomputable def aS:D->Option (List D)
 |.lst ds=>some ds
 |.tup ds=>some ds
 |_=>none
noncomputable def inO (x y:Option D):Option Bool:=match x,y with|some d,some e=>(match aS e with|some es=>if(okD 16 d&&es.all (okD 16))=true then some (decide (d∈es)) else none|none=>none)|_,_=>none
theorem i4 {x y:Option D}{c:Bool}(h:inO x y=some c):∃d e es,x=some d/\y=some e/\aS e=some es/\okD 16 d=true/\es.all (okD 16)=true/\c=decide (d∈es):=by
 unfold inO at h;split at h
 ·rename_i d e
  split at h
  ·rename_i es he
   by_cases q:(okD 16 d&&es.all (okD 16))=true
   ·rw[if_pos q]at h
    obtain rfl:=Option.some.inj h;rw[Bool.and_eq_true]at q;exact⟨d,e,es,rfl,rfl,he,q.1,q.2,rfl⟩
   ·rw[if_neg q]at h;contradiction
  ·contradiction
 ·contradiction
noncomputable def bZ (x y:Option D):Option Bool:=dA (inO x y)
theorem Rep.items {K:PySem.W.Frag}{B:Addr->Prop}{H:Hp}{e:D}{es:List D}{y:V}(r:Rep K B H e y) (h:aS e=some es):∃p xs,y=.ref p/\(SqL K H p xs\/SqT K H p xs)/\Reps K B H es xs:=by
 cases e with
 |lst ds=>simp only[aS]at h;obtain rfl:=Option.some.inj h;simp only[Rep]at r;obtain⟨a,xs,e,hq,hr⟩:=r;exact⟨a,xs,e,.inl hq.sq,hr⟩
 |tup ds=>simp only[aS]at h;obtain rfl:=Option.some.inj h;simp only[Rep]at r;obtain⟨a,xs,e,hq,hr⟩:=r;exact⟨a,xs,e,.inr (SqT.of hq),hr⟩
 |_=>simp[aS]at h
open Classical in
theorem rO {pins:List (Addr×Obj)}{σ:St}{H:Hp}{s:Shared}{B B':Addr->Prop}{d:D}{es:List D}{x:V}{v:Value}{xs:List V}{its:List Value}(hu:X.A.units+64<cLine) (I:Inv X pins σ H s) (hd:okD 16 d=true) (he:es.all (okD 16)=true)
  (r1:Rep X.K B H d x) (r2:Reps X.K B' H es xs) (rx:RelV x v) (rv:Vals xs its):∃e:Value->Bool,(∀y,y∈its.toArray->SeqAt.EqAt X.A.in1 s y v (e y))/\its.toArray.any e=decide (d∈es):=by
 have one:∀j u,its[j]?=some u->∃d' x',es[j]?=some d'/\okD 16 d'=true/\Rep X.K B' H d' x'/\RelV x' u:=fun j u hj=>by
  have hl:=rv.length;have hlt:j<xs.length:=by rw[hl];exact(List.getElem?_eq_some_iff.mp hj).1
  obtain⟨u',hu',ru⟩:=rv.get (i:=j) (x:=xs[j]) (by simp[hlt])
  rw[hj]at hu';obtain rfl:=Option.some.inj hu';obtain⟨d',hd',rd'⟩:=r2.get' (i:=j) (x:=xs[j]) (by simp[hlt])
  exact⟨d',xs[j],hd',(List.all_eq_true.mp he) d' (List.mem_of_getElem? hd'),rd',ru⟩
 refine⟨fun u=>decide (∃d' x',okD 16 d'=true/\Rep X.K B' H d' x'/\RelV x' u/\d'=d),fun u hu'=>?_,?_⟩
 ·obtain⟨j,hj⟩:=List.getElem?_of_mem (show u∈its by simpa using hu')
  obtain⟨d',x',_,o',rd',ru⟩:=one j u hj;have q:=(zJ I 16 d' d x' x u v X.A.in1 o' hd (by show X.A.units+1+16+1<cLine;lia) rd' r1 ru rx).2.1
  have key:decide (∃d' x',okD 16 d'=true/\Rep X.K B' H d' x'/\RelV x' u/\d'=d)=decide (d'=d):=by
   rw[Bool.eq_iff_iff,decide_eq_true_iff,decide_eq_true_iff];constructor
   ·rintro⟨d2,x2,o2,r2',ru2,e2⟩
    rw[<-e2];have ex:=ru.inj ru2;subst ex;exact Rep.inj I o' o2 rd' r2'
   ·intro e2
    exact⟨d',x',o',rd',ru,e2⟩
  show SeqAt.EqAt X.A.in1 s u v (decide (∃d' x',okD 16 d'=true/\Rep X.K B' H d' x'/\RelV x' u/\d'=d));rw[key];exact q
 ·rw[Bool.eq_iff_iff,decide_eq_true_iff,Array.any_eq_true]
  constructor
  ·rintro⟨j,hj,h⟩
   have h':=of_decide_eq_true h;obtain⟨d2,x2,o2,r2',ru2,e2⟩:=h';have hj':its[j]?=some its.toArray[j]:=by
    simp only[List.size_toArray]at hj;simp[hj]
   obtain⟨d',x',hd',o',rd',ru⟩:=one j _ hj';have ex:=ru.inj ru2;subst ex;have:=Rep.inj I o' o2 rd' r2';subst this;rw[<-e2];exact List.mem_of_getElem? hd'
  ·intro h
   obtain⟨j,hj⟩:=List.getElem?_of_mem h
   obtain⟨y,hy,ry⟩:=r2.get hj;obtain⟨u,hu',ru⟩:=rv.get hy;obtain⟨hlt,ge⟩:=List.getElem?_eq_some_iff.mp hu'
   refine⟨j,by simpa using hlt,decide_eq_true ⟨d,y,hd,ry,?_,rfl⟩⟩
   simpa[ge]using ru
noncomputable def A4 (K:PySem.W.Frag) (neg:Bool):R2:=fun x y H Q=>∃B B' d e es,aS e=some es/\okD 16 d=true/\es.all (okD 16)=true/\Rep K B H d x/\Rep K B' H e y/\Q (.bl (if neg then !decide (d∈es) else decide (d∈es))) H
theorem uX (hu:X.A.units+64<cLine):OpR X (compareOp .In) (A4 X.K false):=by
 intro pins s σ H x y v u Q I rx ry h;obtain⟨B,B',d,e,es,hi,hd,he,r1,r2,q⟩:=h;obtain⟨p,xs,rfl,hq,rs⟩:=r2.items hi;cases ry
 rcases hq with hq|hq
 ·obtain⟨its,r,pl,hz⟩:=I.list hq
  obtain⟨g,g1,g2⟩:=rO hu I hd he r1 rs rx r;exact SeqAt.in_listAt g pl.isList g1 ⟨.bl _,H,I,rfl,by rw[g2];exact q⟩
 ·obtain⟨its,r,pl,hz⟩:=I.tuple hq
  obtain⟨g,g1,g2⟩:=rO hu I hd he r1 rs rx r;exact SeqAt.in_tupleAt g pl g1 ⟨.bl _,H,I,rfl,by rw[g2];exact q⟩
theorem qJ (hu:X.A.units+64<cLine):OpR X (compareOp .NotIn) (A4 X.K true):=by
 intro pins s σ H x y v u Q I rx ry h;obtain⟨B,B',d,e,es,hi,hd,he,r1,r2,q⟩:=h;obtain⟨p,xs,rfl,hq,rs⟩:=r2.items hi;cases ry
 rcases hq with hq|hq
 ·obtain⟨its,r,pl,hz⟩:=I.list hq
  obtain⟨g,g1,g2⟩:=rO hu I hd he r1 rs rx r;exact SeqAt.notIn_listAt g pl.isList g1 ⟨.bl _,H,I,rfl,by rw[g2];exact q⟩
 ·obtain⟨its,r,pl,hz⟩:=I.tuple hq
  obtain⟨g,g1,g2⟩:=rO hu I hd he r1 rs rx r;exact SeqAt.notIn_tupleAt g pl g1 ⟨.bl _,H,I,rfl,by rw[g2];exact q⟩
theorem r9 (hu:X.A.units+64<cLine) (ha:DE X m a fa) (hb:DE X m' b fb) (hm:behindInMarks .In b=false:=by rfl):DT X (.Compare a [.In] [b] pos) (fun δ=>inO (fa δ) (fb δ)):=
 (cQ (uX hu) ha hb hm).imp fun σ H Q hz=>by
  obtain⟨B,Hk,δ,d,R,q,k⟩:=hz;obtain⟨d1,d2,es,e1,e2,hi,o1,o2,rfl⟩:=i4 q;exact two R e1 e2 fun v u H' s R' r1 r2=>⟨_,_,d1,d2,es,hi,o1,o2,r1,r2,_,rfl,k H' s⟩
theorem mI (hu:X.A.units+64<cLine) (ha:DE X m a fa) (hb:DE X m' b fb) (hm:behindInMarks .NotIn b=false:=by rfl):DT X (.Compare a [.NotIn] [b] pos) (fun δ=>bZ (fa δ) (fb δ)):=
 (cQ (qJ hu) ha hb hm).imp fun σ H Q hz=>by
  obtain⟨B,Hk,δ,d,R,e,k⟩:=hz;cases q:inO (fa δ) (fb δ)with
  |none=>simp only[q,bZ,dA]at e;contradiction
  |some c=>
   simp only[q,bZ,dA]at e;obtain rfl:=Option.some.inj e;obtain⟨d1,d2,es,e1,e2,hi,o1,o2,rfl⟩:=i4 q;exact two R e1 e2 fun v u H' s R' r1 r2=>⟨_,_,d1,d2,es,hi,o1,o2,r1,r2,_,rfl,k H' s⟩
theorem Ah (hu:X.A.units+64<cLine) (ha:DE X m a fa) (hb:DE X m' b fb) (hm:behindInMarks .In b=false:=by rfl):DE X mm (.Compare a [.In] [b] pos) (fun δ=>ofB (inO (fa δ) (fb δ))):=
 (vR (uX hu) ha hb hm).imp fun σ H Q hz=>by
  obtain⟨B,Hk,δ,d,R,e,k⟩:=hz;cases q:inO (fa δ) (fb δ)with
  |none=>simp only[q,ofB]at e;contradiction
  |some c=>
   simp only[q,ofB]at e;obtain rfl:=Option.some.inj e;obtain⟨d1,d2,es,e1,e2,hi,o1,o2,rfl⟩:=i4 q;exact two R e1 e2 fun v u H' s R' r1 r2=>⟨_,_,d1,d2,es,hi,o1,o2,r1,r2,k _ H' s (by simp only[Rep];rfl)⟩
end
section
variable{X:Cx}{m m' mm:Bool}{a b:Expr}{fa fb:DEnv->Option D}{pos:Pos}
noncomputable def ixO (x y:Option D):Option D:=match x,y with|some d,some (.int i)=>(match aS d with|some ds=>atI ds i|none=>none)|_,_=>none
theorem su {x y:Option D}{d:D}(h:ixO x y=some d):∃e i es,x=some e/\y=some (.int i)/\aS e=some es/\atI es i=some d:=by
 unfold ixO at h;split at h
 ·rename_i e i
  split at h
  ·rename_i es he;exact⟨e,i,es,rfl,rfl,he,h⟩
  ·contradiction
 ·contradiction
theorem Reps.atI {K:PySem.W.Frag}{B:Addr->Prop}{H:Hp}{ds:List D}{xs:List V}{i:Int}{d:D}(r:Reps K B H ds xs) (h:atI ds i=some d):∃x,atI xs i=some x/\Rep K B H d x:=by
 unfold L2.atI at h⊢;rw[r.length]at h;cases q:ixN xs.length i with
 |none=>rw[q]at h;contradiction
 |some j=>
  rw[q]at h;exact r.get (i:=j) h
theorem sD {K:PySem.W.Frag}{B:Addr->Prop}{H:Hp}{e:D}{es:List D}{y:V}{i:Int}{d:D}{Q:VK}(r:Rep K B H e y) (h:aS e=some es) (hi:atI es i=some d) (k:∀v,Rep K B H d v->Q v H):rIx K y (.int i) H Q:=by
 obtain⟨p,xs,rfl,hq,rs⟩:=r.items h;obtain⟨x,hx,rx⟩:=rs.atI hi
 rcases hq with hq|hq
 ·exact .inl ⟨p,xs,i,x,rfl,rfl,hq,hx,k x rx⟩
 ·exact .inr (.inl ⟨p,xs,i,x,rfl,rfl,hq,hx,k x rx⟩)
theorem cG (ha:DE X m a fa) (hb:DE X m' b fb) (hs:i0 b:=by exact fun _ _=>rfl):DE X m (.Subscript a b pos) (fun δ=>ixO (fa δ) (fb δ)):=
 (wL uR ha hb hs).imp fun σ H Q hz=>by
  obtain⟨B,Hk,δ,d,R,e,k⟩:=hz;obtain⟨d1,i,es,e1,e2,hi,hd⟩:=su e;refine two R e1 e2 fun v u H' s R' r1 r2=>?_
  simp only[Rep]at r2;subst r2;exact sD r1 hi hd fun v rv=>k v H' s rv
noncomputable def xf (x y:Option D):Option D:=match x,y with|some (.str z),some (.int i)=>if z.length<=lim then(match atI z.cps.toList i with|some c=>some (.str ⟨#[c]⟩)|none=>none) else none|_,_=>none
theorem qC {x y:Option D}{d:D}(h:xf x y=some d):∃z i c,x=some (.str z)/\y=some (.int i)/\z.length<=lim/\atI z.cps.toList i=some c/\d=.str ⟨#[c]⟩:=by
 unfold xf at h;split at h
 ·rename_i z i
  by_cases q:z.length<=lim
  ·rw[if_pos q]at h
   split at h
   ·rename_i c hc;cases h;exact⟨z,i,c,rfl,rfl,q,hc,rfl⟩
   ·contradiction
  ·rw[if_neg q]at h;contradiction
 ·contradiction
theorem yw (ha:DE X m a fa) (hb:DE X m' b fb) (hs:i0 b:=by exact fun _ _=>rfl):DE X mm (.Subscript a b pos) (fun δ=>xf (fa δ) (fb δ)):=
 (wL uT ha hb hs).imp fun σ H Q hz=>by
  obtain⟨B,Hk,δ,d,R,e,k⟩:=hz;obtain⟨z,i,c,e1,e2,hl,hc,rfl⟩:=qC e;refine two R e1 e2 fun v u H' s R' r1 r2=>?_
  simp only[Rep]at r1 r2;subst r1 r2;exact⟨z,i,c,rfl,rfl,aH hl,hc,k _ H' s (by simp only[Rep])⟩
noncomputable def Co (x:Option D):Option D:=match x with|some d=>(match aS d with|some ds=>some (.int ds.length)|none=>(match d with|.str z=>if z.length<=lim then some (.int z.length) else none|_=>none))|none=>none
noncomputable def ja (x:Option D):Option D:=match x with|some d=>(match aS d with|some ds=>some (.int ds.length)|none=>none)|none=>none
theorem qI {x:Option D}{d:D}(h:ja x=some d):∃e es,x=some e/\aS e=some es/\d=.int es.length:=by
 unfold ja at h;split at h
 ·rename_i e
  split at h
  ·rename_i es he;cases h;exact⟨e,es,rfl,he,rfl⟩
  ·contradiction
 ·contradiction
theorem rH {K:PySem.W.Frag}{σ:St}{H:Hp}{B:Addr->Prop}{Hk:Hp}{δ:DEnv}{d:D}{P:List V->Hp->Prop}(R:Rel K B Hk δ σ H) (e:fa δ=some d)
  (k:∀v H',Same H H'->Rel K B Hk δ σ H'->Rep K (bF m B δ σ) H' d v->P [v] H'):vT (tM K m fa) tNil σ H P:=
 ⟨B,Hk,δ,d,R,e,fun v H1 s1 r1=>k v H1 s1 (R.to s1) r1⟩
theorem yq (g:Gl X "len") (hm:X.mg "len"=none) {p:Pos}(ha:DE X m a fa) (hs:starEach [a] X.env=[(false,eval a X.env)]:=by rfl) (hd1:((Str.ofString "len")==("__debug__":Str))=false:=by decide):DE X mm (.Call (.Name "len" p) [a] [] pos) (fun δ=>ja (fa δ)):=
 (dg jW g hm PySem.boot_len (av ha aT hs) (he:=hs)).imp fun σ H Q hz=>by
  obtain⟨B,Hk,δ,d,R,e,k⟩:=hz;obtain⟨d1,es,e1,hi,rfl⟩:=qI e;refine rH R e1 fun v H' s R' r=>?_
  obtain⟨p,xs,rfl,hq,rs⟩:=r.items hi;exact⟨p,xs,rfl,hq,k _ H' s (by simp only[Rep,rs.length])⟩
theorem Inv.frz {pins:List (Addr×Obj)}{σ:St}{H:Hp}{s:Shared}{p:Addr}{u:HO}(I:Inv X pins σ H s) (h:H p=some u) (mu:Mut (some u)):∃o,Inv X pins σ (upd H p (.frz o u)) s:=by
 have hob:=I.hok p u h;have hlt:=hob.lt;have mu':Mut (H p):=by rw[h];exact mu
 have heo:∃o,s.heap.get? p=some o:=by
  cases u with
  |lst xs=>obtain⟨_,_,_,_,e⟩:=hob;exact⟨_,e⟩
  |tup xs=>exact mu.elim
  |dK kvs=>obtain⟨_,_,_,_,o,_,_,e,_⟩:=hob;exact⟨_,e⟩
  |dD kvs ep=>obtain⟨_,_,_,_,o,_,e,_⟩:=hob;exact⟨_,e⟩
  |dT kvs=>obtain⟨_,_,_,_,o,_,_,e,_⟩:=hob;exact⟨_,e⟩
  |set S n=>obtain⟨o,_,_,_,e,_⟩:=hob;exact⟨_,e⟩
  |ins C dx fs=>obtain⟨_,_,_,e,_⟩:=hob;exact⟨_,e⟩
  |own y=>exact mu.elim
  |xd fs=>exact mu.elim
  |rng lo hi=>exact mu.elim
  |frz ob u=>exact mu.elim
  |tbl lq ps=>exact mu.elim
  |met f y=>exact mu.elim
  |ext φ=>obtain⟨_,⟨_,e⟩,_⟩:=hob;exact⟨_,e⟩
 obtain⟨o,ho⟩:=heo;refine⟨o,?_⟩
 have nown:∀c y,H c=some (.own y)->c≠p:=fun c y r z=>by subst z;rw[h]at r;cases r;exact mu
 have ntup:∀c xs,H c=some (.tup xs)->c≠p:=fun c xs r z=>by subst z;rw[h]at r;cases r;exact mu
 have new:ObjOk X.prog X.w (upd H p (.frz o u)) s.heap p (.frz o u):=⟨ho,hob.stay (fun b v _ q=>q) (fun b q=>by rw[aj (nown b p q)];exact q) fun b xs q=>by rw[aj (ntup b xs q)];exact q⟩
 exact I.un (t':=s.toks) (Un.write mu' (.inl rfl) (fun b v _ q=>q) ⟨o,ho⟩) (I.hok.write mu' (.inl rfl) (fun b v _ q=>q) ⟨o,ho⟩ new)
theorem ObR.mut {K:PySem.W.Frag}{B:Addr->Prop}{H:Hp}{d:D}{p:Addr}(h:ObR K B H d p):∃u,H p=some u/\Mut (some u):=by
 cases d with
 |lst ds=>obtain⟨xs,h1,h2⟩:=h;exact⟨_,h1,trivial⟩
 |dT ks ds=>obtain⟨xs,h1,h0,h2⟩:=h;exact⟨_,h1,trivial⟩
 |dK ks ds=>obtain⟨xs,h1,h0,h2⟩:=h;exact⟨_,h1,trivial⟩
 |dD ks ds=>obtain⟨xs,⟨ep,h1⟩,h0,h2⟩:=h;exact⟨_,h1,trivial⟩
 |_=>exact(show False from h).elim
theorem bj {B:Addr->Prop}{H:Hp}{p:Addr}{u o:HO}(h:H p=some u) (mu:Mut (some u)) (hb:¬B p):Ext B H (upd H p o):=
 ⟨fun c xs r=>by rw[aj (fun z=>by subst z;rw[h]at r;cases r;exact mu)];exact r,fun c x y r=>by rw[aj (fun z=>by subst z;rw[h]at r;cases r;exact mu)];exact r,
  fun c r=>by rw[aj (fun z=>by subst z;exact hb r)]⟩
theorem ObR.frozen {K:PySem.W.Frag}{B B':Addr->Prop}{H:Hp}{d:D}{p:Addr}{u:HO}{o:Obj}(h:ObR K B H d p) (hu:H p=some u) (hb:¬B p) (hs:∀a,B a->B' a):Rep K B' (upd H p (.frz o u)) d (.ref p):=by
 obtain⟨u',e,mu⟩:=h.mut;rw[hu]at e;cases e;have ex:Ext B H (upd H p (.frz o u)):=bj hu mu hb;cases d with
 |lst ds=>
  obtain⟨xs,h1,h2⟩:=h;rw[hu]at h1;cases h1;simp only[Rep];exact⟨p,xs,rfl,.inr (.inl ⟨o,ag⟩),(h2.ext ex).more hs⟩
 |dT ks ds=>
  obtain⟨xs,h1,h0,h2⟩:=h;rw[hu]at h1;cases h1;simp only[Rep];exact⟨p,xs,rfl,.inr ⟨o,ag⟩,h0,(h2.ext ex).more hs⟩
 |dK ks ds=>
  obtain⟨xs,h1,h0,h2⟩:=h;rw[hu]at h1;cases h1;simp only[Rep];exact⟨p,xs,rfl,.inr ⟨o,ag⟩,h0,(h2.ext ex).more hs⟩
 |dD ks ds=>
  obtain⟨xs,⟨ep,h1⟩,h0,h2⟩:=h;rw[hu]at h1;cases h1;simp only[Rep];exact⟨p,xs,rfl,⟨ep,.inr ⟨o,ag⟩⟩,h0,(h2.ext ex).more hs⟩
 |_=>exact(show False from h).elim
theorem DF.share (h:DF X a fa):DE X m a fa:=by
 intro pins s σ H Q I hq;obtain⟨B,Hk,δ,d,R,e,k⟩:=hq;have h1:=h pins s σ H (fun v H'=>∃p,v=.ref p/\Same H H'/\H p=none/\ObR X.K B H' d p) I ⟨B,Hk,δ,d,R,e,fun p H' s n ob=>⟨p,rfl,s,n,ob⟩⟩
 refine thn h1 fun u s1 hz=>?_
 obtain⟨v,H1,I1,rv,p,ev,sm,hn,ob⟩:=hz;subst ev;obtain⟨u',hu,mu⟩:=ob.mut;obtain⟨o,I2⟩:=I1.frz hu mu;have hb:¬B p:=fun z=>by
  obtain⟨o',e'⟩:=R.borH p z;rw[hn]at e';contradiction
 refine⟨.ref p,_,I2,rv,k _ _ (sm.put hn) (ob.frozen hu hb fun a h=>kH m a h)⟩
end
noncomputable def NRep (K:PySem.W.Frag) (B:Addr->Prop) (Hk H:Hp) (d:D) (v:V):Prop:=match d with
 |.lst es=>∃b xs,v=.ref b/\Hk b=none/\H b=some (.lst xs)/\Reps K B H es xs
 |d=>Rep K B H d v
noncomputable def NReps (K:PySem.W.Frag) (B:Addr->Prop) (Hk H:Hp):List D->List V->Prop
 |[],vs=>vs=[]
 |d::ds,vs=>∃x r,vs=x::r/\NRep K B Hk H d x/\NReps K B Hk H ds r
noncomputable def RepT (K:PySem.W.Frag) (B:Addr->Prop) (Hk H:Hp) (d:D) (v:V):Prop:=match d with
 |.tup ds=>∃a vs,v=.ref a/\H a=some (.tup vs)/\NReps K B Hk H ds vs
 |_=>False
noncomputable def A8 (K:PySem.W.Frag) (B:Addr->Prop) (Hk H:Hp) (d:D) (v:V):Prop:=Rep K B H d v\/∃es b xs,d=.lst es/\v=.ref b/\Hk b=none/\H b=some (.lst xs)/\Reps K B H es xs
noncomputable def MReps (K:PySem.W.Frag) (B:Addr->Prop) (Hk H:Hp):List D->List V->Prop
 |[],vs=>vs=[]
 |d::ds,vs=>∃x r,vs=x::r/\A8 K B Hk H d x/\MReps K B Hk H ds r
theorem NRep.m {K:PySem.W.Frag}{B:Addr->Prop}{Hk H:Hp}{d:D}{v:V}(h:NRep K B Hk H d v):A8 K B Hk H d v:=by
 cases d with
 |lst es=>obtain⟨b,xs,h1,h2,h3,h4⟩:=h;exact .inr ⟨es,b,xs,rfl,h1,h2,h3,h4⟩
 |_=>exact .inl h
theorem NReps.m {K:PySem.W.Frag}{B:Addr->Prop}{Hk H:Hp}:∀{ds:List D}{vs:List V},NReps K B Hk H ds vs->MReps K B Hk H ds vs
 |[],vs,h=>h
 |d::ds,vs,h=>by obtain⟨x,r,e,h1,h2⟩:=h;exact⟨x,r,e,h1.m,NReps.m h2⟩
theorem NReps.length {K:PySem.W.Frag}{B:Addr->Prop}{Hk H:Hp}:∀{ds:List D}{vs:List V},NReps K B Hk H ds vs->ds.length=vs.length
 |[],vs,h=>by rw[show vs=[] from h];rfl
 |d::ds,vs,h=>by obtain⟨x,r,rfl,h1,h2⟩:=h;rw[List.length_cons,List.length_cons,NReps.length h2]
theorem MReps.frz1 {K:PySem.W.Frag}{B:Addr->Prop}{Hk H:Hp}{b:Addr}{xs:List V}{o:Obj}(hx:H b=some (.lst xs)) (ex:Ext B H (upd H b (.frz o (.lst xs)))):∀{ds:List D}{vs:List V},MReps K B Hk H ds vs->MReps K B Hk (upd H b (.frz o (.lst xs))) ds vs
 |[],vs,h=>h
 |d::ds,vs,h=>by
  obtain⟨x,r,e,h1,h2⟩:=h;refine⟨x,r,e,?_,MReps.frz1 hx ex h2⟩
  rcases h1 with h1|⟨es,b',xs',rfl,rfl,n,hb',rs⟩
  ·exact .inl (h1.ext ex)
  ·by_cases q:b'=b
   ·subst q
    rw[hx]at hb';cases hb';refine .inl ?_
    simp only[Rep];exact⟨b',xs,rfl,.inr (.inl ⟨o,ag⟩),rs.ext ex⟩
   ·exact .inr ⟨es,b',xs',rfl,rfl,n,by rw[aj q];exact hb',rs.ext ex⟩
theorem AS {X:Cx}{pins:List (Addr×Obj)}{σ:St}{s:Shared}{B:Addr->Prop}{Hk:Hp}(hB:∀a,B a->∃o:HOn,Hk a=some o.1):∀(ds:List D) (vs:List V) (H:Hp),Inv X pins σ H s->MReps X.K B Hk H ds vs->
  ∃H',Inv X pins σ H' s/\Ext B H H'/\(∀c o o',Hk c=some o'->H c=some o->H' c=some o)/\Reps X.K B H' ds vs
 |[],vs,H,I,h=>⟨H,I,Ext.refl,fun _ _ _ _ q=>q,by rw[show vs=[] from h];exact Reps.nil⟩
 |d::ds,vs,H,I,h=>by
  obtain⟨x,r,rfl,h1,h2⟩:=h
  rcases h1 with h1|⟨es,b,xs,rfl,rfl,n,hb,rs⟩
  ·obtain⟨H',I',e',k',r'⟩:=AS hB ds r H I h2
   exact⟨H',I',e',k',Reps.cons (h1.ext e') r'⟩
  ·obtain⟨o,I1⟩:=I.frz hb trivial
   have nb:¬B b:=fun z=>by obtain⟨o',q⟩:=hB b z;rw[n]at q;contradiction
   have ex:Ext B H (upd H b (.frz o (.lst xs))):=bj hb trivial nb;obtain⟨H',I',e',k',r'⟩:=AS hB ds r _ I1 (MReps.frz1 hb ex h2);refine⟨H',I',ex.trans e',fun c o' o2 q1 q2=>k' c o' o2 q1 (by rw[aj (aG q1 n)];exact q2),Reps.cons (Rep.ext e' ?_) r'⟩
   simp only[Rep];exact⟨b,xs,rfl,.inr (.inl ⟨o,ag⟩),rs.ext ex⟩
noncomputable def jc (K:PySem.W.Frag) (B:Addr->Prop) (Hk H':Hp) (d:D) (fr:Bool) (v:V):Prop:=if fr=true then(∃a,v=.ref a/\Hk a=none/\ObR K B H' d a)\/RepT K B Hk H' d v else Rep K B H' d v
inductive spM (K:PySem.W.Frag) (f:List D->Option (D×Bool)) (vs:List V) (H:Hp) (Q:VK) (E:XK):Prop
 |mk (B:Addr->Prop) (ds:List D) (r:D) (fr:Bool) (a_:(∀a,B a->∃o:HOn,H a=some o.1)) (b_:Reps K B H ds vs) (c_:f ds=some (r,fr)) (d_:∀v H',Same H H'->jc K B H H' r fr v->Q v H'):spM K f vs H Q E
structure FnM (P:Program) (w:World) (K:PySem.W.Frag) (mg:Str->Option Value) (base:Heap) (k:Nat) (x:Str) (f:List D->Option (D×Bool)):Prop where
 ex:∃(p:Addr) (fd:FuncData) (ps:List Str),FnOk P w K mg base CX0 k p fd ps (spM K f)/\mg x=some (.ref p)/\PySem.W.keepIn K (.ref p)=true/\Binds K fd ps []
noncomputable def ac {α β:Type}(x:Option α) (f:α->Option β):Option β:=match x with|some a=>f a|none=>none
theorem aa {α β:Type}{x:Option α}{f:α->Option β}{b:β}(h:ac x f=some b):∃a,x=some a/\f a=some b:=by
 cases x with
 |none=>contradiction
 |some a=>exact⟨a,rfl,h⟩
noncomputable def shO (x:Option (D×Bool)):Option D:=match x with|some (d,_)=>some d|none=>none
noncomputable def frO (x:Option (D×Bool)):Option D:=match x with|some (.tup _,true)=>none|some (d,true)=>some d|_=>none
section
variable{X:Cx}{m m' mm:Bool}{a b e:Expr}{es:List Expr}{fa fb:DEnv->Option D}{fs:DEnv->Option (List D)}{pos p:Pos}{k:Nat}{x:Str}{f:List D->Option (D×Bool)}
theorem ii (F:FnM X.prog X.w X.K X.mg X.base k x f) (hr:Room k X.A) (hg:Gl X x) (ha:DA X m (e::es) fs) (hdb:(x==("__debug__":Str))=false) (he:starEach (e::es) X.env=(false,eval e X.env)::starEach es X.env) (hpl:(backTo pos (starEach es X.env)).any (·.1)=false):
  PE X (.Call (.Name x p) (e::es) [] pos) (fun σ H Q=>∃B Hk δ ds r fr,Rel X.K B Hk δ σ H/\fs δ=some ds/\f ds=some (r,fr)/\∀v H1 H',Same H H1->Same H1 H'->jc X.K (bF m B δ σ) H1 H' r fr v->Q v H'):=by
 obtain⟨q,fd,ps,h1,h2,h3,h4⟩:=F.ex;refine(kG (ds:=[]) (dvs:=[]) h1 hr hg h2 h3 h4 .nil vC ha hdb he hpl).imp fun σ H Q hz=>?_
 obtain⟨B,Hk,δ,ds,r,fr,R,e1,e2,kk⟩:=hz;refine⟨B,Hk,δ,ds,R,e1,fun vs H1 s1 rs=>?_⟩
 show spM X.K f (vs++[]) H1 Q E0;rw[List.append_nil];exact⟨bF m B δ σ,ds,r,fr,(R.to s1).bsH m,rs,e2,fun v H' s2 rr=>kk v H1 H' s1 s2 rr⟩
theorem vN (F:FnM X.prog X.w X.K X.mg X.base k x f) (hr:Room k X.A) (hg:Gl X x) (ha:DA X false (e::es) fs) (hdb:(x==("__debug__":Str))=false:=by decide) (he:starEach (e::es) X.env=(false,eval e X.env)::starEach es X.env:=by rfl)
  (hpl:(backTo pos (starEach es X.env)).any (·.1)=false:=by rfl):DF X (.Call (.Name x p) (e::es) [] pos) (fun δ=>frO (ac (fs δ) f)):=
 (ii F hr hg ha hdb he hpl).imp fun σ H Q hz=>by
  obtain⟨B,Hk,δ,d,R,e,kk⟩:=hz;cases q:ac (fs δ) f with
  |none=>simp only[q,frO]at e;contradiction
  |some p=>
   obtain⟨d',fr⟩:=p;obtain⟨ds,e1,e2⟩:=aa q;cases fr with
   |false=>cases d'<;>simp only[q,frO]at e<;>contradiction
   |true=>
    have hd:d'=d/\∀ts,d≠.tup ts:=by
     cases d' with
     |tup ts=>simp only[q,frO]at e;contradiction
     |_=>simp only[q,frO]at e;cases e;exact⟨rfl,fun ts z=>by cases z⟩
    obtain⟨rfl,nt⟩:=hd;refine⟨B,Hk,δ,ds,_,_,R,e1,e2,fun v H1 H' s1 s2 rr=>?_⟩
    unfold jc at rr;rw[if_pos rfl]at rr
    rcases rr with⟨a,rfl,n,ob⟩|rt
    ·exact kk a H' (s1.trans s2) (s1.free n) ob
    ·cases d' with
     |tup ts=>exact(nt ts rfl).elim
     |_=>exact(show False from rt).elim
theorem u9 (F:FnM X.prog X.w X.K X.mg X.base k x f) (hr:Room k X.A) (hg:Gl X x) (ha:DA X m (e::es) fs) (hdb:(x==("__debug__":Str))=false:=by decide) (he:starEach (e::es) X.env=(false,eval e X.env)::starEach es X.env:=by rfl)
  (hpl:(backTo pos (starEach es X.env)).any (·.1)=false:=by rfl):DE X m (.Call (.Name x p) (e::es) [] pos) (fun δ=>shO (ac (fs δ) f)):=by
 intro pins s σ H Q I hq;obtain⟨B,Hk,δ,d,R,e,kk⟩:=hq;unfold shO at e;split at e
 ·rename_i d' fr q
  cases e;obtain⟨ds,e1,e2⟩:=aa q;have h1:=ii (p:=p) F hr hg ha hdb he hpl pins s σ H (fun v H'=>∃H1,Same H H1/\Same H1 H'/\jc X.K (bF m B δ σ) H1 H' d fr v) I ⟨B,Hk,δ,ds,d,fr,R,e1,e2,fun v H1 H' s1 s2 rr=>⟨H1,s1,s2,rr⟩⟩
  refine thn h1 fun u s1 hz=>?_
  obtain⟨v,H',I1,rv,H1,sm1,sm2,rr⟩:=hz;cases fr with
  |false=>
   unfold jc at rr;rw[if_neg Bool.false_ne_true]at rr;exact⟨v,H',I1,rv,kk v H' (sm1.trans sm2) rr⟩
  |true=>
   unfold jc at rr;rw[if_pos rfl]at rr
   rcases rr with⟨p,rfl,n,ob⟩|rt
   rotate_left
   ·cases d with
    |tup ts=>
     obtain⟨a,vs,rfl,ha',rs⟩:=rt;obtain⟨H2,I2,e2,k2,r2⟩:=AS (B:=bF m B δ σ) (Hk:=H1) (fun c z=>by obtain⟨o',e'⟩:=R.bsH m c z;exact⟨o',sm1 c o' e'⟩) ts vs H' I1 rs.m
     refine⟨.ref a,H2,I2,rv,kk _ _ (sm1.trans (sm2.keep k2)) ?_⟩
     simp only[Rep];exact⟨a,vs,rfl,e2.tups _ _ ha',r2⟩
    |_=>exact(show False from rt).elim
   obtain⟨u',hu,mu⟩:=ob.mut;obtain⟨o,I2⟩:=I1.frz hu mu;have hb:¬bF m B δ σ p:=fun z=>by
    obtain⟨o',e'⟩:=R.bsH m p z;have:=sm1 p o' e';rw[n]at this;contradiction
   refine⟨.ref p,_,I2,rv,kk _ _ (sm1.trans (sm2.put n)) (ob.frozen hu hb fun a h=>h)⟩
 ·contradiction
end
inductive Out where
 |next (δ:DEnv)|ret (d:D) (fr:Bool)|brk (δ:DEnv)|cont (δ:DEnv)
noncomputable def OutK (K:PySem.W.Frag) (B:Addr->Prop) (Hk H:Hp) (Dn:Ends):Out->Prop
 |.next δ=>∀σ' H',Ext B H H'->Rel K B Hk δ σ' H'->Dn.nx σ' H'
 |.brk δ=>∀σ' H',Ext B H H'->Rel K B Hk δ σ' H'->Dn.bk σ' H'
 |.cont δ=>∀σ' H',Ext B H H'->Rel K B Hk δ σ' H'->Dn.ct σ' H'
 |.ret d fr=>∀v H',Ext B H H'->Same Hk H'->jc K B Hk H' d fr v->Dn.rt v H'
inductive tD (K:PySem.W.Frag) (g:DEnv->Option Out) (Dn:Ends) (σ:St) (H:Hp):Prop
 |mk (B:Addr->Prop) (Hk:Hp) (δ:DEnv) (o:Out) (a_:Rel K B Hk δ σ H) (b_:g δ=some o) (c_:OutK K B Hk H Dn o):tD K g Dn σ H
noncomputable abbrev DS (X:Cx) (st:Stmt) (g:DEnv->Option Out):Prop:=PS X st (tD X.K g)
noncomputable abbrev DSs (X:Cx) (sts:List Stmt) (g:DEnv->Option Out):Prop:=PSs X sts (tD X.K g)
theorem OutK.ext {K:PySem.W.Frag}{B:Addr->Prop}{Hk H H1:Hp}{Dn:Ends}{o:Out}(h:OutK K B Hk H Dn o) (e:Ext B H H1):OutK K B Hk H1 Dn o:=by
 cases o with
 |next δ=>exact fun σ' H' x r=>h σ' H' (e.trans x) r
 |brk δ=>exact fun σ' H' x r=>h σ' H' (e.trans x) r
 |cont δ=>exact fun σ' H' x r=>h σ' H' (e.trans x) r
 |ret d fr=>exact fun v H' x r=>h v H' (e.trans x) r
noncomputable def nextO (δ:DEnv):Option Out:=some (.next δ)
noncomputable def ba (x:Option Out) (k:DEnv->Option Out):Option Out:=match x with|some (.next δ)=>k δ|o=>o
section
variable{X:Cx}{m m' mm:Bool}{a b e:Expr}{es:List Expr}{fa fb:DEnv->Option D}{fs:DEnv->Option (List D)}{pos p:Pos}{st:Stmt}{bC:List Stmt}{g g1 g2:DEnv->Option Out}{fc:DEnv->Option Bool}
theorem iJ:DSs X [] nextO:=i7.imp fun Dn σ H hz=>by
 obtain⟨B,Hk,δ,o,R,e,k⟩:=hz;cases e;exact k σ H Ext.refl R
theorem bp (h1:DS X st g1) (h2:DSs X bC g2):DSs X (st::bC) (fun δ=>ba (g1 δ) g2):=
 (aZ h1 h2).imp fun Dn σ H hz=>by
  obtain⟨B,Hk,δ,o,R,e,k⟩:=hz;cases q:g1 δ with
  |none=>simp only[q,ba]at e;contradiction
  |some o1=>
   cases o1 with
   |next δ1=>
    simp only[q,ba]at e;exact⟨B,Hk,δ,_,R,q,fun σ' H' x R'=>⟨B,Hk,δ1,o,R',e,k.ext x⟩⟩
   |brk δ1=>simp only[q,ba]at e;cases e;exact⟨B,Hk,δ,_,R,q,k⟩
   |cont δ1=>simp only[q,ba]at e;cases e;exact⟨B,Hk,δ,_,R,q,k⟩
   |ret d fr=>simp only[q,ba]at e;cases e;exact⟨B,Hk,δ,_,R,q,k⟩
theorem bS (h1:DS X st g1):DSs X [st] g1:=dv h1
theorem we:DS X (.Continue pos) (fun δ=>some (.cont δ)):=lL.imp fun Dn σ H hz=>by obtain⟨B,Hk,δ,o,R,e,k⟩:=hz;cases e;exact k σ H Ext.refl R
noncomputable def ifO (c:Option Bool) (x y:Option Out):Option Out:=match c with|some true=>x|some false=>y|none=>none
theorem Rel.ext {K:PySem.W.Frag}{B:Addr->Prop}{Hk H H':Hp}{δ:DEnv}{σ:St}(R:Rel K B Hk δ σ H) (s:Same H H'):Ext B H H':=s.ext R.borH
theorem sk {c:Expr}{x y:List Stmt}(hc:DT X c fc) (ha:DSs X x g1) (hb:DSs X y g2):DS X (.If c x y pos) (fun δ=>ifO (fc δ) (g1 δ) (g2 δ)):=
 (nY hc ha hb).imp fun Dn σ H hz=>by
  obtain⟨B,Hk,δ,o,R,e,k⟩:=hz;unfold ifO at e;split at e
  ·rename_i q
   exact⟨B,Hk,δ,true,R,q,fun H1 s1=>yk ⟨B,Hk,δ,o,R.to s1,e,k.ext (R.ext s1)⟩⟩
  ·rename_i q
   exact⟨B,Hk,δ,false,R,q,fun H1 s1=>yP ⟨B,Hk,δ,o,R.to s1,e,k.ext (R.ext s1)⟩⟩
  ·contradiction
theorem Rel.set {K:PySem.W.Frag}{B:Addr->Prop}{Hk H:Hp}{δ:DEnv}{σ:St}{i:Nat}{d:D}{v:V}(R:Rel K B Hk δ σ H) (hi:i<σ.length) (r:Rep K B H d v):Rel K B Hk (δ.set i (some (d,false))) (σ.set i (some v)) H:=by
 have hi':i<δ.length:=by rw[R.len];exact hi
 refine⟨R.same,R.bor,by simpa using R.len,fun j e h=>?_,fun j e h=>?_,fun j k e f q hjk h1 h2 h3 h4=>?_⟩
 ·by_cases hj:j=i
  ·subst hj
   rw[List.getElem?_set_self hi']at h
   cases h;exact⟨v,by rw[List.getElem?_set_self hi],r⟩
  ·rw[List.getElem?_set_ne (Ne.symm hj)]at h
   rw[List.getElem?_set_ne (Ne.symm hj)]
   exact R.var j e h
 ·by_cases hj:j=i
  ·subst hj
   rw[List.getElem?_set_self hi']at h
   cases h
  ·rw[List.getElem?_set_ne (Ne.symm hj)]at h
   rw[List.getElem?_set_ne (Ne.symm hj)]
   exact R.own j e h
 ·have nj:j≠i:=fun z=>by subst z;rw[List.getElem?_set_self hi']at h1;cases h1
  have nk:k≠i:=fun z=>by subst z;rw[List.getElem?_set_self hi']at h2;cases h2
  rw[List.getElem?_set_ne (Ne.symm nj)]at h1 h3
  rw[List.getElem?_set_ne (Ne.symm nk)]at h2 h4
  exact R.dis j k e f q hjk h1 h2 h3 h4
theorem Rel.setOwn {K:PySem.W.Frag}{B:Addr->Prop}{Hk H:Hp}{δ:DEnv}{σ:St}{i:Nat}{d:D}{a:Addr}(R:Rel K B Hk δ σ H) (hi:i<σ.length) (hk:Hk a=none) (ob:ObR K B H d a)
  (ho:∀(j:Nat) e,j≠i->δ[j]?=some (some (e,true))->σ[j]?≠some (some (.ref a))):Rel K B Hk (δ.set i (some (d,true))) (σ.set i (some (.ref a))) H:=by
 have hi':i<δ.length:=by rw[R.len];exact hi
 refine⟨R.same,R.bor,by simpa using R.len,fun j e h=>?_,fun j e h=>?_,fun j k e f q hjk h1 h2 h3 h4=>?_⟩
 ·by_cases hj:j=i
  ·subst hj
   rw[List.getElem?_set_self hi']at h
   cases h
  ·rw[List.getElem?_set_ne (Ne.symm hj)]at h
   rw[List.getElem?_set_ne (Ne.symm hj)]
   exact R.var j e h
 ·by_cases hj:j=i
  ·subst hj
   rw[List.getElem?_set_self hi']at h
   cases h;exact⟨a,by rw[List.getElem?_set_self hi],hk,ob⟩
  ·rw[List.getElem?_set_ne (Ne.symm hj)]at h
   rw[List.getElem?_set_ne (Ne.symm hj)]
   exact R.own j e h
 ·by_cases nj:j=i
  ·subst nj
   have nk:k≠j:=fun z=>hjk z.symm
   rw[List.getElem?_set_self hi]at h3
   cases h3;rw[List.getElem?_set_ne (Ne.symm nk)]at h2 h4
   exact ho k f nk h2 h4
  ·rw[List.getElem?_set_ne (Ne.symm nj)]at h1 h3
   by_cases nk:k=i
   ·subst nk
    rw[List.getElem?_set_self hi]at h4
    cases h4;exact ho j e nj h1 h3
   ·rw[List.getElem?_set_ne (Ne.symm nk)]at h2 h4
    exact R.dis j k e f q hjk h1 h2 h3 h4
noncomputable def dE (i:Nat) (x:Option D) (δ:DEnv):Option Out:=match x with|some d=>if i<δ.length then some (.next (δ.set i (some (d,false)))) else none|none=>none
noncomputable def gN (i:Nat) (x:Option D) (δ:DEnv):Option Out:=match x with|some d=>if i<δ.length then some (.next (δ.set i (some (d,true)))) else none|none=>none
theorem jl {i:Nat}{x:Option D}{δ:DEnv}{o:Out}(h:dE i x δ=some o):∃d,x=some d/\i<δ.length/\o=.next (δ.set i (some (d,false))):=by
 unfold dE at h;split at h
 ·rename_i d
  by_cases q:i<δ.length
  ·rw[if_pos q]at h;cases h;exact⟨d,rfl,q,rfl⟩
  ·rw[if_neg q]at h;contradiction
 ·contradiction
theorem kh {i:Nat}{x:Option D}{δ:DEnv}{o:Out}(h:gN i x δ=some o):∃d,x=some d/\i<δ.length/\o=.next (δ.set i (some (d,true))):=by
 unfold gN at h;split at h
 ·rename_i d
  by_cases q:i<δ.length
  ·rw[if_pos q]at h;cases h;exact⟨d,rfl,q,rfl⟩
  ·rw[if_neg q]at h;contradiction
 ·contradiction
theorem wg {i:Nat}{Dn:Ends}{σ:St}{H:Hp}(h:tD X.K (fun δ=>dE i (fa δ) δ) Dn σ H):zN (tM X.K false fa) (iQ i) Dn σ H:=by
 obtain⟨B,Hk,δ,o,R,e,k⟩:=h;obtain⟨d,e1,hi,rfl⟩:=jl e;exact⟨B,Hk,δ,d,R,e1,fun v H' s r=>k _ H' (R.ext s) ((R.to s).set (by rw[<-R.len];exact hi) r)⟩
theorem sv {i:Nat}{Dn:Ends}{σ:St}{H:Hp}(h:tD X.K (fun δ=>gN i (fa δ) δ) Dn σ H):zN (tF X.K fa) (iQ i) Dn σ H:=by
 obtain⟨B,Hk,δ,o,R,e,k⟩:=h;obtain⟨d,e1,hi,rfl⟩:=kh e;refine⟨B,Hk,δ,d,R,e1,fun a H' s n ob=>k _ H' (R.ext s) ((R.to s).setOwn (by rw[<-R.len];exact hi) (R.same.free n) ob fun j e hj h1 h2=>?_)⟩
 obtain⟨b,h3,_,ob'⟩:=R.own j e h1;rw[h2]at h3;cases h3;obtain⟨o,e'⟩:=ob'.there;rw[n]at e';contradiction
theorem yL {i:Nat}{x:Str}{pos':Pos}(hN:X.N.Nodup) (ha:DE X false a fa) (hi:X.N[i]?=some x:=by rfl) (hx:Loc X.env.scope x:=by first|exact Or.inl rfl|exact Or.inr rfl) (hs:swapsWith a (some (.Name x pos')) pos.line X.env=pure false:=by rfl)
  (hf:X.fn x=true\/X.env.scope.names.lookup x=some .local:=by first|exact .inl rfl|exact .inr rfl):DS X (.Assign [.Name x pos'] a pos) (fun δ=>dE i (fa δ) δ):=
 (cV hN hi hx ha hs hf).imp fun Dn σ H h=>wg h
theorem wn {i:Nat}{x:Str}{pos':Pos}(hN:X.N.Nodup) (ha:DF X a fa) (hi:X.N[i]?=some x:=by rfl) (hx:Loc X.env.scope x:=by first|exact Or.inl rfl|exact Or.inr rfl) (hs:swapsWith a (some (.Name x pos')) pos.line X.env=pure false:=by rfl)
  (hf:X.fn x=true\/X.env.scope.names.lookup x=some .local:=by first|exact .inl rfl|exact .inr rfl):DS X (.Assign [.Name x pos'] a pos) (fun δ=>gN i (fa δ) δ):=
 (cV hN hi hx ha hs hf).imp fun Dn σ H h=>sv h
noncomputable def eN (x:Option D):Option Out:=match x with|some d=>some (.ret d false)|none=>none
noncomputable def kX (x:Option D):Option Out:=match x with|some d=>some (.ret d true)|none=>none
theorem gK (ha:DE X false a fa):DS X (.Return (some a) pos) (fun δ=>eN (fa δ)):=
 (fC ha).imp fun Dn σ H hz=>by
  obtain⟨B,Hk,δ,o,R,e,k⟩:=hz;cases q:fa δ with
  |none=>simp only[q,eN]at e;contradiction
  |some d=>
   simp only[q,eN]at e;cases e;exact⟨B,Hk,δ,d,R,q,fun v H' s r=>k v H' (R.ext s) (R.same.trans s) (by unfold jc;rw[if_neg Bool.false_ne_true];exact r)⟩
theorem wP (ha:DF X a fa):DS X (.Return (some a) pos) (fun δ=>kX (fa δ)):=
 (fC ha).imp fun Dn σ H hz=>by
  obtain⟨B,Hk,δ,o,R,e,k⟩:=hz;cases q:fa δ with
  |none=>simp only[q,kX]at e;contradiction
  |some d=>
   simp only[q,kX]at e;cases e;exact⟨B,Hk,δ,d,R,q,fun p H' s n ob=>k (.ref p) H' (R.ext s) (R.same.trans s) (by unfold jc;rw[if_pos rfl];exact .inl ⟨p,rfl,R.same.free n,ob⟩)⟩
noncomputable def bD (i:Nat) (δ:DEnv):Option D:=match δ[i]? with|some (some (d,true))=>some d|_=>none
theorem bO {i:Nat}{δ:DEnv}{d:D}(h:bD i δ=some d):δ[i]?=some (some (d,true)):=by
 unfold bD at h;split at h
 ·rename_i d' e;cases h;exact e
 ·contradiction
theorem wp {i:Nat}{x:Str}{px:Pos}(hN:X.N[i]?=some x:=by rfl) (hv:Vis X.env.scope x:=by first|exact Or.inl rfl|exact Or.inr (Or.inl rfl)|exact Or.inr (Or.inr rfl)) (hd:(x==("__debug__":Str))=false:=by decide) (hcd:(x==("__classdict__":Str))=false:=by decide):
  DS X (.Return (some (.Name x px)) pos) (fun δ=>kX (bD i δ)):=
 (fC (aL hN hv hd hcd)).imp fun Dn σ H hz=>by
  obtain⟨B,Hk,δ,o,R,e,k⟩:=hz;cases q:bD i δ with
  |none=>simp only[q,kX]at e;contradiction
  |some d=>
   simp only[q,kX]at e;cases e;obtain⟨p,h1,h2,h3⟩:=R.own i d (bO q);exact⟨.ref p,h1,k (.ref p) H Ext.refl R.same (by unfold jc;rw[if_pos rfl];exact .inl ⟨p,rfl,h2,h3⟩)⟩
theorem Rel.lset {K:PySem.W.Frag}{B:Addr->Prop}{Hk H:Hp}{δ:DEnv}{σ:St}{i:Nat}{ds ds':List D}{l:Addr}{xs xs':List V}(R:Rel K B Hk δ σ H) (h:δ[i]?=some (some (.lst ds,true))) (hl:σ[i]?=some (some (.ref l))) (hx:H l=some (.lst xs)) (r:Reps K B H ds' xs'):
  Ext B H (upd H l (.lst xs'))/\Rel K B Hk (δ.set i (some (.lst ds',true))) σ (upd H l (.lst xs')):=by
 obtain⟨a,e1,e2,ys,e3,_⟩:=R.own i _ h;rw[hl]at e1;cases e1;have hb:¬B l:=fun z=>by obtain⟨o,q⟩:=R.bor l z;rw[e2]at q;contradiction
 have ex:Ext B H (upd H l (.lst xs')):=bj hx trivial hb;have hi':i<δ.length:=(List.getElem?_eq_some_iff.mp h).1
 refine⟨ex,⟨R.same.put e2,R.bor,by simpa using R.len,fun j e q=>?_,fun j e q=>?_,fun j k e f q hjk h1 h2 h3 h4=>?_⟩⟩
 ·by_cases hj:j=i
  ·subst hj
   rw[List.getElem?_set_self hi']at q
   cases q
  ·rw[List.getElem?_set_ne (Ne.symm hj)]at q
   obtain⟨v,q1,q2⟩:=R.var j e q;exact⟨v,q1,q2.ext ex⟩
 ·by_cases hj:j=i
  ·subst hj
   rw[List.getElem?_set_self hi']at q
   cases q;exact⟨l,hl,e2,xs',ag,r.ext ex⟩
  ·rw[List.getElem?_set_ne (Ne.symm hj)]at q
   obtain⟨c,q1,q2,q3⟩:=R.own j e q;have hc:c≠l:=fun z=>by subst z;exact R.dis j i e _ c hj q h q1 hl
   exact⟨c,q1,q2,q3.ext ex fun o q _=>by rw[aj hc];exact q⟩
 ·have h1':∃e',δ[j]?=some (some (e',true)):=by
   by_cases hj:j=i
   ·subst hj;exact⟨_,h⟩
   ·rw[List.getElem?_set_ne (Ne.symm hj)]at h1;exact⟨_,h1⟩
  have h2':∃e',δ[k]?=some (some (e',true)):=by
   by_cases hj:k=i
   ·subst hj;exact⟨_,h⟩
   ·rw[List.getElem?_set_ne (Ne.symm hj)]at h2;exact⟨_,h2⟩
  obtain⟨e',h1'⟩:=h1';obtain⟨f',h2'⟩:=h2';exact R.dis j k e' f' q hjk h1' h2' h3 h4
noncomputable def nP (i:Nat) (x:Option D) (δ:DEnv):Option Out:=match bD i δ,x with|some (.lst ds),some d=>if ds.length<lim then some (.next (δ.set i (some (.lst (ds++[d]),true)))) else none|_,_=>none
theorem jg {i:Nat}{x:Option D}{δ:DEnv}{o:Out}(h:nP i x δ=some o):∃ds d,δ[i]?=some (some (.lst ds,true))/\x=some d/\ds.length<lim/\o=.next (δ.set i (some (.lst (ds++[d]),true))):=by
 unfold nP at h;split at h
 ·rename_i ds d q
  by_cases hl:ds.length<lim
  ·rw[if_pos hl]at h;cases h;exact⟨ds,d,bO q,rfl,hl,rfl⟩
  ·rw[if_neg hl]at h;contradiction
 ·contradiction
theorem qh {i:Nat}{x:Str}{px apos cpos:Pos}(ha:DE X false a fa) (hN:X.N[i]?=some x:=by rfl) (hv:Vis X.env.scope x:=by first|exact Or.inl rfl|exact Or.inr (Or.inl rfl)|exact Or.inr (Or.inr rfl))
  (hbase:attributeBase (.Name x px) "append" X.env (eval (.Name x px) X.env)=eval (.Name x px) X.env:=by rfl)
  (hfew:((backTo cpos (starEach [a] X.env)).all (fun x=>!x.1)&&(backToKw cpos (keywordEach [] X.env)).all (fun x=>x.1.isSome)&&decide (([a]).length+([]:List Keyword).length+(if([]:List Keyword).isEmpty then 0 else 1)<30))=true:=by rfl)
  (hline:(apos.endLine==cpos.line)=true:=by rfl) (hs:starEach [a] X.env=(false,eval a X.env)::starEach [] X.env:=by rfl) (hd:(x==("__debug__":Str))=false:=by decide) (hcd:(x==("__classdict__":Str))=false:=by decide)
  (hsw:swapsWith (.Call (.Attribute (.Name x px) "append" apos) [a] [] cpos) none pos.line X.env=pure false:=by rfl):DS X (.Expr (.Call (.Attribute (.Name x px) "append" apos) [a] [] cpos) pos) (fun δ=>nP i (fa δ) δ):=
 (dz (tZ PySem.F.plainAttrs_list PySem.F.slot_list_append PySem.F.type_list_append dS (aL hN hv hd hcd) (av ha aT hs) hbase hfew hline hs) hsw).imp fun Dn σ H hz=>by
  obtain⟨B,Hk,δ,o,R,e,k⟩:=hz;obtain⟨ds,d,h1,e1,hl,rfl⟩:=jg e;obtain⟨l,h2,h3,xs,h4,h5⟩:=R.own i _ h1;refine⟨.ref l,h2,.inl ⟨rfl,xs,SqL.of h4⟩,rH R e1 fun v H' s R' r=>?_⟩
  have h4':=s l _ h4;have h5':Reps X.K B H' ds xs:=h5.ext (R.ext s);obtain⟨x1,x2⟩:=R'.lset (ds':=ds++[d]) (xs':=xs++[v]) h1 h2 h4' (h5'.append (Reps.cons r Reps.nil));exact⟨l,xs,v,rfl,rfl,h4',by rw[<-h5.length];exact Nat.lt_of_lt_of_le hl (aH (Nat.le_refl _)),k σ _ ((R.ext s).trans x1) x2⟩
noncomputable def frzE (i:Nat) (δ:DEnv):DEnv:=match δ[i]? with|some (some (d,true))=>δ.set i (some (d,false))|_=>δ
theorem Rel.frzE {pins:List (Addr×Obj)}{σ:St}{H:Hp}{s:Shared}{B:Addr->Prop}{Hk:Hp}{δ:DEnv}(i:Nat) (I:Inv X pins σ H s) (R:Rel X.K B Hk δ σ H):∃H',Inv X pins σ H' s/\Ext B H H'/\Rel X.K B Hk (frzE i δ) σ H':=by
 unfold L2.frzE;split
 ·rename_i d h
  obtain⟨a,e1,e2,ob⟩:=R.own i d h;obtain⟨u,hu,mu⟩:=ob.mut;obtain⟨o,I2⟩:=I.frz hu mu;have hb:¬B a:=fun z=>by obtain⟨o,q⟩:=R.bor a z;rw[e2]at q;contradiction
  have ex:Ext B H (upd H a (.frz o u)):=bj hu mu hb;have hi':i<δ.length:=(List.getElem?_eq_some_iff.mp h).1
  refine⟨_,I2,ex,⟨R.same.put e2,R.bor,by simpa using R.len,fun j e q=>?_,fun j e q=>?_,fun j k e f q hjk h1 h2 h3 h4=>?_⟩⟩
  ·by_cases hj:j=i
   ·subst hj
    rw[List.getElem?_set_self hi']at q
    cases q;exact⟨_,e1,ob.frozen hu hb fun a h=>h⟩
   ·rw[List.getElem?_set_ne (Ne.symm hj)]at q
    obtain⟨v,q1,q2⟩:=R.var j e q;exact⟨v,q1,q2.ext ex⟩
  ·by_cases hj:j=i
   ·subst hj
    rw[List.getElem?_set_self hi']at q
    cases q
   ·rw[List.getElem?_set_ne (Ne.symm hj)]at q
    obtain⟨c,q1,q2,q3⟩:=R.own j e q;have hc:c≠a:=fun z=>by subst z;exact R.dis j i e _ c hj q h q1 e1
    exact⟨c,q1,q2,q3.ext ex fun o q _=>by rw[aj hc];exact q⟩
  ·have nj:j≠i:=fun z=>by subst z;rw[List.getElem?_set_self hi']at h1;cases h1
   have nk:k≠i:=fun z=>by subst z;rw[List.getElem?_set_self hi']at h2;cases h2
   rw[List.getElem?_set_ne (Ne.symm nj)]at h1
   rw[List.getElem?_set_ne (Ne.symm nk)]at h2
   exact R.dis j k e f q hjk h1 h2 h3 h4
 ·exact⟨H,I,Ext.refl,R⟩
theorem Ba (i:Nat) (h:DS X st g):DS X st (fun δ=>g (frzE i δ)):=by
 intro pins s σ H Dn I ⟨B,Hk,δ,o,R,e,k⟩;obtain⟨H',I',x,R'⟩:=R.frzE i I;exact h pins s σ H' Dn I' ⟨B,Hk,_,o,R',e,k.ext x⟩
theorem wS {sts:List Stmt}(i:Nat) (h:DSs X sts g):DSs X sts (fun δ=>g (frzE i δ)):=by
 intro pins s σ H Dn I ⟨B,Hk,δ,o,R,e,k⟩;obtain⟨H',I',x,R'⟩:=R.frzE i I;exact h pins s σ H' Dn I' ⟨B,Hk,_,o,R',e,k.ext x⟩
end
inductive tG (K:PySem.W.Frag) (τ:D->DEnv->Option DEnv) (v:V) (σ:St) (H:Hp) (Q:(St->Hp->Prop)):Prop
 |mk (B:Addr->Prop) (Hk:Hp) (δ:DEnv) (d:D) (δ':DEnv) (a_:Rel K B Hk δ σ H) (b_:Rep K B H d v) (c_:τ d δ=some δ') (d_:∀σ',Rel K B Hk δ' σ' H->Q σ' H):tG K τ v σ H Q
inductive tGs (K:PySem.W.Frag) (τ:List D->DEnv->Option DEnv) (vs:List V) (σ:St) (H:Hp) (Q:(St->Hp->Prop)):Prop
 |mk (B:Addr->Prop) (Hk:Hp) (δ:DEnv) (ds:List D) (δ':DEnv) (a_:Rel K B Hk δ σ H) (b_:Reps K B H ds vs) (c_:τ ds δ=some δ') (d_:∀σ',Rel K B Hk δ' σ' H->Q σ' H):tGs K τ vs σ H Q
noncomputable abbrev DG (X:Cx) (tg:Expr) (τ:D->DEnv->Option DEnv):Prop:=PG X tg (tG X.K τ)
noncomputable abbrev DGs (X:Cx) (tg:List Expr) (τ:List D->DEnv->Option DEnv):Prop:=PGs X tg (tGs X.K τ)
noncomputable def ae (i:Nat) (d:D) (δ:DEnv):Option DEnv:=if i<δ.length then some (δ.set i (some (d,false))) else none
noncomputable def toNil (ds:List D) (δ:DEnv):Option DEnv:=match ds with|[]=>some δ|_=>none
noncomputable def am (τ:D->DEnv->Option DEnv) (υ:List D->DEnv->Option DEnv) (ds:List D) (δ:DEnv):Option DEnv:=match ds with|d::r=>ac (τ d δ) (υ r)|[]=>none
noncomputable def bg (υ:List D->DEnv->Option DEnv) (d:D) (δ:DEnv):Option DEnv:=match d with|.tup ds=>υ ds δ|_=>none
theorem PG.imp {X:Cx}{tg:Expr}{t t':TG}(h:PG X tg t) (i:∀v σ H Q,t' v σ H Q->t v σ H Q):PG X tg t':=fun pins s σ H v u Q I r q=>h pins s σ H v u Q I r (i v σ H Q q)
theorem PGs.imp {X:Cx}{tg:List Expr}{t t':TGs}(h:PGs X tg t) (i:∀v σ H Q,t' v σ H Q->t v σ H Q):PGs X tg t':=fun pins s σ H v u Q I r q=>h pins s σ H v u Q I r (i v σ H Q q)
section
variable{X:Cx}{pos:Pos}
theorem wx {i:Nat}{x:Str}(hN:X.N.Nodup) (hi:X.N[i]?=some x:=by rfl) (hx:Loc X.env.scope x:=by first|exact Or.inl rfl|exact Or.inr rfl) (hf:X.fn x=true\/X.env.scope.names.lookup x=some .local:=by first|exact .inl rfl|exact .inr rfl):DG X (.Name x pos) (ae i):=
 (eG hN hi hx hf).imp fun v σ H Q hz=>by
  obtain⟨B,Hk,δ,d,δ',R,r,e,k⟩:=hz;unfold ae at e
  by_cases q:i<δ.length
  ·rw[if_pos q]at e;obtain rfl:=Option.some.inj e
   exact k _ (R.set (by rw[<-R.len];exact q) r)
  ·rw[if_neg q]at e;contradiction
theorem vG:DGs X [] toNil:=ql.imp fun v σ H Q hz=>by
 obtain⟨B,Hk,δ,ds,δ',R,r,e,k⟩:=hz;cases ds with
 |nil=>simp only[toNil]at e;obtain rfl:=Option.some.inj e;simp only[Reps]at r;exact⟨r,k σ R⟩
 |cons d ds=>simp only[toNil]at e;contradiction
theorem r6 {e:Expr}{es:List Expr}{τ:D->DEnv->Option DEnv}{υ:List D->DEnv->Option DEnv}(h1:DG X e τ) (h2:DGs X es υ) (hs:(assignEach (e::es) X.env).map (·.2)=assign e X.env::(assignEach es X.env).map (·.2):=by rfl):DGs X (e::es) (am τ υ):=
 (ix h1 h2 hs).imp fun v σ H Q hz=>by
  obtain⟨B,Hk,δ,ds,δ',R,r,e,k⟩:=hz;cases ds with
  |nil=>simp only[am]at e;contradiction
  |cons d ds=>
   simp only[am]at e;obtain⟨δ1,e1,e2⟩:=aa e;simp only[Reps]at r;obtain⟨x,xs,rfl,r1,r2⟩:=r;exact⟨x,xs,rfl,B,Hk,δ,d,δ1,R,r1,e1,fun σ1 R1=>⟨B,Hk,δ1,ds,δ',R1,r2,e2,k⟩⟩
theorem bN {τ:D->DEnv->Option DEnv}{υ:List D->DEnv->Option DEnv}{n:Nat}(h:∀ds δ δ',υ ds δ=some δ'->ds.length=n) (ds:List D) (δ δ':DEnv) (e:am τ υ ds δ=some δ'):ds.length=n+1:=by
 cases ds with
 |nil=>simp only[am]at e;contradiction
 |cons d ds=>
  simp only[am]at e;obtain⟨δ1,_,e2⟩:=aa e;rw[List.length_cons,h _ _ _ e2]
theorem fY (ds:List D) (δ δ':DEnv) (e:toNil ds δ=some δ'):ds.length=0:=by
 cases ds with
 |nil=>rfl
 |cons d ds=>simp only[toNil]at e;contradiction
theorem xS {es:List Expr}{k:Nat}{υ:List D->DEnv->Option DEnv}{n:Nat}(hc:X.calm=true) (h:DGs X es υ) (hl:∀ds δ δ',υ ds δ=some δ'->ds.length=n)
  (hn:(assignEach es X.env).length=n:=by rfl) (hst:(assignEach es X.env).findIdx? (·.1)=none:=by rfl):DG X (.Tuple es k pos) (bg υ):=
 (uf hc h hn hst).imp fun v σ H Q hz=>by
  obtain⟨B,Hk,δ,d,δ',R,r,e,k⟩:=hz;cases d with
  |tup ds=>
   simp only[bg]at e;simp only[Rep]at r;obtain⟨a,xs,rfl,hq,rs⟩:=r;exact⟨a,xs,rfl,SqT.of hq,by rw[<-rs.length];exact hl _ _ _ e,B,Hk,δ,ds,δ',R,rs,e,k⟩
  |_=>simp only[bg]at e;contradiction
end
noncomputable def bc (δ:DEnv):Prop:=∀(i:Nat) d,δ[i]?≠some (some (d,true))
structure Anew (τ:D->DEnv->Option DEnv):Prop where
 new:∀d d' δ δ',τ d δ=some δ'->τ d' δ'=τ d' δ
 own:∀d δ δ',τ d δ=some δ'->bc δ->bc δ'
theorem fV {δ:DEnv}{i:Nat}{d:D}(h:bc δ):bc (δ.set i (some (d,false))):=fun j e q=>by
 by_cases hj:i=j
 ·subst hj
  rw[List.getElem?_set]at q
  simp at q
 ·rw[List.getElem?_set_ne hj]at q
  exact h j e q
theorem i5 (i:Nat):∀d δ δ',ae i d δ=some δ'->bc δ->bc δ':=fun d δ δ' h n=>by
 unfold ae at h
 by_cases q:i<δ.length
 ·rw[if_pos q]at h;obtain rfl:=Option.some.inj h;exact fV n
 ·rw[if_neg q]at h;contradiction
theorem u8:∀ds δ δ',toNil ds δ=some δ'->bc δ->bc δ':=fun ds δ δ' h n=>by
 cases ds with
 |nil=>simp only[toNil]at h;obtain rfl:=Option.some.inj h;exact n
 |cons d ds=>simp only[toNil]at h;contradiction
theorem m7 {τ:D->DEnv->Option DEnv}{υ:List D->DEnv->Option DEnv}(h1:∀d δ δ',τ d δ=some δ'->bc δ->bc δ') (h2:∀ds δ δ',υ ds δ=some δ'->bc δ->bc δ'):∀ds δ δ',am τ υ ds δ=some δ'->bc δ->bc δ':=fun ds δ δ' h n=>by
 cases ds with
 |nil=>simp only[am]at h;contradiction
 |cons d ds=>
  simp only[am]at h;obtain⟨δ1,e1,e2⟩:=aa h;exact h2 _ _ _ e2 (h1 _ _ _ e1 n)
theorem v0 {υ:List D->DEnv->Option DEnv}(h2:∀ds δ δ',υ ds δ=some δ'->bc δ->bc δ'):∀d δ δ',bg υ d δ=some δ'->bc δ->bc δ':=fun d δ δ' h n=>by
 cases d with
 |tup ds=>exact h2 ds δ δ' h n
 |_=>simp only[bg]at h;contradiction
theorem cw (i:Nat):Anew (ae i):=Anew.mk (own:=i5 i)<|fun d d' δ δ' h=>by
 unfold ae at h⊢
 by_cases q:i<δ.length
 ·rw[if_pos q]at h;obtain rfl:=Option.some.inj h
  rw[List.length_set,if_pos q,if_pos q,List.set_set]
 ·rw[if_neg q]at h;contradiction
theorem ox (i j:Nat) (hij:i≠j):Anew (bg (am (ae i) (am (ae j) toNil))):=Anew.mk (own:=v0 (m7 (i5 i) (m7 (i5 j) u8)))<|fun d d' δ δ' h=>by
 cases d with
 |tup ds=>
  cases ds with
  |nil=>simp only[bg,am]at h;contradiction
  |cons a ds=>
   cases ds with
   |nil=>simp only[bg,am]at h;obtain⟨_,_,h⟩:=aa h;contradiction
   |cons b ds=>
    cases ds with
    |cons c ds=>simp only[bg,am]at h;obtain⟨_,_,h⟩:=aa h;obtain⟨_,_,h⟩:=aa h;simp only[toNil]at h;contradiction
    |nil=>
     simp only[bg,am]at h;obtain⟨δ1,h1,h⟩:=aa h;obtain⟨δ2,h2,h⟩:=aa h;simp only[toNil]at h;obtain rfl:=Option.some.inj h;unfold ae at h1
     by_cases qi:i<δ.length
     ·rw[if_pos qi]at h1;obtain rfl:=Option.some.inj h1
      unfold ae at h2
      by_cases qj:j<(δ.set i (some (a,false))).length
      ·rw[if_pos qj]at h2;obtain rfl:=Option.some.inj h2
       rw[List.length_set]at qj;cases d' with
       |tup es=>
        cases es with
        |nil=>rfl
        |cons a' es=>
         cases es with
         |nil=>
          simp only[bg,am,ae,List.length_set];rw[if_pos qi,if_pos qi];rfl
         |cons b' es=>
          have e3:(((List.set δ i (some (a,false))).set j (some (b,false))).set i (some (a',false))).set j (some (b',false))=(List.set δ i (some (a',false))).set j (some (b',false)):=by
           rw[List.set_comm _ _ hij.symm,List.set_set,List.set_set]
          simp only[bg,am,ae,List.length_set];rw[if_pos qi,if_pos qi];simp only[ac,am,ae,List.length_set];rw[if_pos qj,if_pos qj,e3]
       |_=>rfl
      ·rw[if_neg qj]at h2;contradiction
     ·rw[if_neg qi]at h1;contradiction
 |_=>simp only[bg]at h;contradiction
noncomputable def ItD (K:PySem.W.Frag) (B:Addr->Prop) (H1:Hp) (J:It) (ds:List D):Prop:=∀H',Ext B H1 H'->J.stop ds.length H'/\∀(i:Nat) d,ds[i]?=some d->J.go i H'/\∀x H'',J.yld i H' x H''->Same H' H''/\Rep K B H'' d x
inductive tI (K:PySem.W.Frag) (m:Bool) (f:DEnv->Option (List D)) (σ:St) (H:Hp) (R:(It->Hp->Prop)):Prop
 |mk (B:Addr->Prop) (Hk:Hp) (δ:DEnv) (ds:List D) (a_:Rel K B Hk δ σ H) (b_:f δ=some ds) (c_:∀J H1,Same H H1->ItD K (bF m B δ σ) H1 J ds->R J H1):tI K m f σ H R
noncomputable abbrev DI (X:Cx) (m:Bool) (tg iter:Expr) (f:DEnv->Option (List D)):Prop:=PI X tg iter (tI X.K m f)
noncomputable def en (x:Option D):Option (List D):=match x with|some (.lst ds)=>some ds|_=>none
noncomputable def vW (x:Option D):Option (List D):=match x with|some (.tup ds)=>some ds|_=>none
theorem kA {x:Option D}{ds:List D}(h:en x=some ds):x=some (.lst ds):=by
 unfold en at h;split at h
 ·obtain rfl:=Option.some.inj h;rfl
 ·contradiction
theorem jw {x:Option D}{ds:List D}(h:vW x=some ds):x=some (.tup ds):=by
 unfold vW at h;split at h
 ·obtain rfl:=Option.some.inj h;rfl
 ·contradiction
noncomputable def jb (lo:Int) (n:Nat):List D:=(List.range n).map fun(i:Nat)=>.int (lo+(i:Int))
section
variable{X:Cx}{m m' mm:Bool}{a b tg:Expr}{fa fb:DEnv->Option D}{pos p:Pos}
theorem bP (h:DE X m a fa):DI X m tg a (fun δ=>en (fa δ)):=
 (vj h).imp fun σ H Q hz=>by
  obtain⟨B,Hk,δ,ds,R,e,k⟩:=hz;refine⟨B,Hk,δ,_,R,kA e,fun v H' s r=>?_⟩
  simp only[Rep]at r;obtain⟨l,xs,rfl,hq,rs⟩:=r;refine⟨l,rfl,⟨xs,hq.sq⟩,k _ H' s fun H2 x=>?_⟩
  have hq2:=hq.ext x;have rs2:=rs.ext x;refine⟨⟨xs,hq2.sq,by rw[rs.length];exact Nat.le_refl _⟩,fun i d hd=>?_⟩
  obtain⟨y,hy,ry⟩:=rs2.get hd;refine⟨⟨xs,y,hq2.sq,hy⟩,fun z H3 ⟨e3,hz⟩=>⟨by rw[e3];exact Same.refl _,?_⟩⟩
  rw[e3];have:=hz xs hq2.sq;rw[hy]at this;obtain rfl:=Option.some.inj this;exact ry
theorem xD (h:DE X m a fa):DI X m tg a (fun δ=>vW (fa δ)):=
 (yD h).imp fun σ H Q hz=>by
  obtain⟨B,Hk,δ,ds,R,e,k⟩:=hz;refine⟨B,Hk,δ,_,R,jw e,fun v H' s r=>?_⟩
  simp only[Rep]at r;obtain⟨l,xs,rfl,hq,rs⟩:=r;refine⟨l,rfl,⟨xs,SqT.of hq⟩,k _ H' s fun H2 x=>?_⟩
  have hq2:SqT X.K H2 l xs:=SqT.of (x.tups _ _ hq);have rs2:=rs.ext x;refine⟨⟨xs,hq2,by rw[rs.length];exact Nat.le_refl _⟩,fun i d hd=>?_⟩
  obtain⟨y,hy,ry⟩:=rs2.get hd;refine⟨⟨xs,y,hq2,hy⟩,fun z H3 ⟨e3,hz⟩=>⟨by rw[e3];exact Same.refl _,?_⟩⟩
  rw[e3];have:=hz xs hq2;rw[hy]at this;obtain rfl:=Option.some.inj this;exact ry
theorem wo {K:PySem.W.Frag}{B:Addr->Prop}{H1:Hp}(lo:Int) (n:Nat):ItD K B H1 (Itr lo n) (jb lo n):=fun H' x=>by
 refine⟨by show n<=(jb lo n).length;unfold jb;simp,fun i d hd=>?_⟩
 unfold jb at hd;rw[List.getElem?_map]at hd
 cases q:(List.range n)[i]? with
 |none=>rw[q]at hd;contradiction
 |some j=>
  rw[q]at hd;obtain⟨hi,ej⟩:=List.getElem?_eq_some_iff.mp q
  rw[List.getElem_range]at ej;subst ej;rw[List.length_range]at hi;simp only[Option.map_some,Option.some.injEq]at hd;subst hd;refine⟨hi,fun z H3 ⟨e3,hz⟩=>⟨by rw[e3];exact Same.refl _,?_⟩⟩
  simp only[Rep];exact hz
noncomputable def rG (x:Option D):Option (List D):=match x with|some (.int j)=>if(decide (-(2 ^ 62)<=j/\j<2 ^ 62))=true then some (jb 0 j.toNat) else none|_=>none
theorem kJ (g:Gl X "range") (hm:X.mg "range"=none) (h:DE X m a fa) (hs:starEach [a] X.env=[(false,eval a X.env)]:=by rfl):DI X mm tg (.Call (.Name "range" p) [a] [] pos) (fun δ=>rG (fa δ)):=
 (pk g hm (av h aT hs) hs).imp fun σ H Q hz=>by
  obtain⟨B,Hk,δ,ds,R,e,k⟩:=hz;unfold rG at e;split at e
  ·rename_i j q
   by_cases c:(decide (-(2 ^ 62)<=j/\j<2 ^ 62))=true
   ·rw[if_pos c]at e;obtain rfl:=Option.some.inj e
    have c':=of_decide_eq_true c;refine rH R q fun v H' s R' r=>?_
    simp only[Rep]at r;subst r;exact⟨j,rfl,c'.1,c'.2,k _ H' s (wo 0 _)⟩
   ·rw[if_neg c]at e;contradiction
  ·contradiction
end
noncomputable def aR (body:D->DEnv->Option Out):List D->DEnv->Option Out
 |[],δ=>some (.next δ)
 |d::ds,δ=>match body d δ with
  |some (.next δ')=>aR body ds δ'
  |some (.cont δ')=>aR body ds δ'
  |some (.brk δ')=>some (.next δ')
  |some (.ret e fr)=>some (.ret e fr)
  |none=>none
section
variable{X:Cx}{tg iter:Expr}{body:List Stmt}{fi:DEnv->Option (List D)}{τ:D->DEnv->Option DEnv}{gb:DEnv->Option Out}{pos:Pos}
theorem oE (hp:PassesOwn (model X.prog X.w) X.A X.env X.xe) (hc:X.calm=true) (hi:DI X false tg iter fi) (hg:DG X tg τ) (hb:DSs X body gb) (hs:∀x,foldedSetIterable iter X.env x=pure x:=by intro _;rfl):
  DS X (.For tg iter body [] pos) (fun δ=>ac (fi δ) fun ds=>aR (fun d δ=>ac (τ d δ) gb) ds δ):=
 (mW hp hc hi hg hb hs).imp fun Dn σ H hz=>by
  obtain⟨B,Hk,δ,o,R,e,k⟩:=hz;obtain⟨ds,e1,e2⟩:=aa e;refine⟨B,Hk,δ,ds,R,e1,fun J H1 s1 it=>?_⟩
  have it':ItD X.K B H1 J ds:=it;refine⟨fun i n σ' H'=>n=ds.length - i/\i<=ds.length/\Ext B H1 H'/\∃δ',Rel X.K B Hk δ' σ' H'/\aR (fun d δ=>ac (τ d δ) gb) (ds.drop i) δ'=some o,
   ⟨ds.length,by simp,Nat.zero_le _,Ext.refl,δ,R.to s1,e2⟩,?_⟩
  rintro i n σ' H' ⟨rfl,hi,x,δ',R',e'⟩
  obtain⟨hst,hgo⟩:=it' H' x
  by_cases hlt:i<ds.length
  ·obtain⟨go,yl⟩:=hgo i ds[i] (by simp[hlt])
   refine .inr ⟨go,fun σ2 H2=>Ext B H1 H2/\∃δ2,Rel X.K B Hk δ2 σ2 H2/\aR (fun d δ=>ac (τ d δ) gb) (ds.drop (i+1)) δ2=some o,fun σ2 H2 z=>⟨_,by lia,rfl,hlt,z⟩,fun v H2 hy=>?_⟩
   obtain⟨sy,rv⟩:=yl v H2 hy
   replace x:=x.trans (R'.ext sy)
   replace R':=R'.to sy
   rw[List.drop_eq_getElem_cons hlt]at e';simp only[aR]at e';cases q:ac (τ ds[i] δ') gb with
   |none=>rw[q]at e';contradiction
   |some o1=>
    rw[q]at e';obtain⟨δ1,q1,q2⟩:=aa q;refine⟨B,Hk,δ',ds[i],δ1,R',rv,q1,fun σ3 R3=>⟨B,Hk,δ1,o1,R3,q2,?_⟩⟩
    have kx:=k.ext (R.ext s1);cases o1 with
    |next δ3=>exact fun σ4 H4 x4 R4=>⟨x.trans x4,δ3,R4,e'⟩
    |cont δ3=>exact fun σ4 H4 x4 R4=>⟨x.trans x4,δ3,R4,e'⟩
    |brk δ3=>simp only at e';obtain rfl:=Option.some.inj e';exact fun σ4 H4 x4 R4=>kx σ4 H4 (x.trans x4) R4
    |ret d fr=>simp only at e';obtain rfl:=Option.some.inj e';exact fun v4 H4 x4 R4=>kx v4 H4 (x.trans x4) R4
  ·have hi':i=ds.length:=by lia
   subst hi';rw[List.drop_length]at e';simp only[aR]at e';obtain rfl:=Option.some.inj e';exact .inl ⟨hst,k σ' H' ((R.ext s1).trans x) R'⟩
end
noncomputable def cA (h:D->Option (Option D)):List D->Option (List D)
 |[]=>some []
 |d::ds=>match h d with
  |none=>none
  |some none=>cA h ds
  |some (some y)=>match cA h ds with
   |some l=>some (y::l)
   |none=>none
noncomputable def bd (bo:Bool) (bs:List Bool) (δ:DEnv):DEnv:=List.zipWith (fun(b:Bool) (o:Option (D×Bool))=>if b=true then(match o with|some (d,ow)=>if(ow&&!bo)=true then none else some (d,false)|none=>none) else none) bs δ
theorem ei {bo:Bool}{bs:List Bool}{δ:DEnv}{i:Nat}{d:D}{ow:Bool}(h:(bd bo bs δ)[i]?=some (some (d,ow))):bs[i]?=some true/\ow=false/\rd bo i δ=some d:=by
 unfold bd at h;rw[List.getElem?_zipWith]at h
 cases e1:bs[i]? with
 |none=>rw[e1]at h;simp at h
 |some b=>
  cases e2:δ[i]? with
  |none=>rw[e1,e2]at h;simp at h
  |some o=>
   rw[e1,e2]at h;simp only[Option.some.injEq]at h;cases b with
   |false=>simp at h
   |true=>
    rw[if_pos rfl]at h;cases o with
    |none=>contradiction
    |some q=>
     obtain⟨d',ow'⟩:=q;simp only at h
     by_cases c:(ow'&&!bo)=true
     ·rw[if_pos c]at h;contradiction
     ·rw[if_neg c]at h;cases h
      exact⟨rfl,rfl,by unfold rd;rw[e2];simp only[if_neg c]⟩
theorem om {K:PySem.W.Frag}{B:Addr->Prop}{Hk H:Hp}{δ:DEnv}{σ:St}{bo:Bool}{bs:List Bool}(R:Rel K B Hk δ σ H) (hl:bs.length=σ.length):Rel K (bF bo B δ σ) H (bd bo bs δ) (oF bs σ) H:=by
 refine⟨Same.refl H,R.bsH bo,?_,fun i d h=>?_,fun i d h=>?_,fun i j d e a hij h=>?_⟩
 ·unfold bd;rw[List.length_zipWith,gj hl,R.len,hl,Nat.min_self]
 ·obtain⟨h1,_,h3⟩:=ei h
  obtain⟨v,h4,h5⟩:=R.rd h3;refine⟨v,?_,h5⟩
  unfold oF;rw[List.getElem?_zipWith,h1,h4]
  simp
 ·obtain⟨_,h2,_⟩:=ei h
  contradiction
 ·obtain⟨_,h2,_⟩:=ei h
  contradiction
noncomputable def aJ (x:Option (List D)):Option D:=match x with|some ds=>some (.lst ds)|none=>none
section
variable{X:Cx}{elt tg iter:Expr}{ifs:List Expr}{scope:Scope}{pos:Pos}{bo:Bool}{fi:DEnv->Option (List D)}{τ:D->DEnv->Option DEnv}{ft:DEnv->Option Bool}{fe:DEnv->Option D}{bs:List Bool}
noncomputable abbrev DTs (X:Cx) (ifs:List Expr) (f:DEnv->Option Bool):Prop:=PTs X ifs (tMT X.K f)
theorem fX {X:Cx}:DTs X [] (fun _=>some true):=fun pins s σ H Q I hz=>by obtain⟨B,Hk,δ,d,R,e,k⟩:=hz;obtain rfl:=Option.some.inj e;exact wc pins s σ H Q I (k H (Same.refl H))
theorem pN {X:Cx}{c:Expr}{f:DEnv->Option Bool}(h:DT X c f):DTs X [c] f:=wH h
noncomputable def bb (τ:D->DEnv->Option DEnv) (ft:DEnv->Option Bool) (fe:DEnv->Option D) (δ:DEnv) (d:D):Option (Option D):=ac (τ d δ) fun δ'=>match ft δ' with|some true=>(match fe δ' with|some y=>some (some y)|none=>none)|some false=>some none|none=>none
noncomputable def dG (bo:Bool) (bs:List Bool) (τ:D->DEnv->Option DEnv) (ft:DEnv->Option Bool) (fe:DEnv->Option D) (δ:DEnv) (ds:List D):Option (List D):=if ds.length<=lim then cA (bb τ ft fe (bd bo bs δ)) ds else none
theorem fN {K:PySem.W.Frag}{σ:St}{H:Hp}{Q:VK}(hτ:Anew τ) (hl:bs.length=σ.length) {B:Addr->Prop}{Hk:Hp}{δ:DEnv}{ds ls:List D}(R:Rel K B Hk δ σ H) (e1:fi δ=some ds) (e2:dG bo bs τ ft fe δ ds=some ls)
  (k:∀a H',Same H H'->H a=none->(∃xs,H' a=some (.lst xs)/\Reps K (bF bo B δ σ) H' ls xs)->Q (.ref a) H'):vk (tI K bo fi) bs (tG K τ) (tMT K ft) (tM K false fe) σ H Q:=by
 unfold dG at e2
 by_cases hlim:ds.length<=lim
 ·rw[if_pos hlim]at e2
  refine⟨B,Hk,δ,ds,R,e1,fun J H1 s1 it acc hacc=>?_⟩
  have R1:=R.to s1;have nb:¬bF bo B δ σ acc:=fun z=>by obtain⟨o,q⟩:=R1.bsH bo acc z;rw[hacc]at q;contradiction
  have R2:Rel K (bF bo B δ σ) H1 (bd bo bs δ) (oF bs σ) (upd H1 acc (.lst [])):=(om (bo:=bo) (bs:=bs) R1 hl).to (az hacc);have no0:bc (bd bo bs δ):=fun j d h=>by obtain⟨_,h2,_⟩:=ei h;contradiction
  have x0:Ext (bF bo B δ σ) H1 (upd H1 acc (.lst [])):=(az hacc).ext (R1.bsH bo);refine⟨fun i n ys σ' H'=>n=ds.length - i/\i<=ds.length/\ys.length<=i/\H' acc=some (.lst ys)/\Ext (bF bo B δ σ) H1 H'/\∃δ' l1 l2,Rel K (bF bo B δ σ) H1 δ' σ' H'/\(∀d,τ d δ'=τ d (bd bo bs δ))/\bc δ'/\ls=l1++l2/\Reps K (bF bo B δ σ) H' l1 ys/\cA (bb τ ft fe (bd bo bs δ)) (ds.drop i)=some l2,
   ⟨ds.length,by simp,Nat.zero_le _,Nat.le_refl _,ag,x0,bd bo bs δ,[],ls,R2,fun _=>rfl,no0,rfl,Reps.nil,e2⟩,?_⟩
  rintro i n ys σ' H' ⟨rfl,hi,hys,ha,x,δ',l1,l2,R',hd',nw',hls,rs,ec⟩
  refine⟨ha,?_⟩
  obtain⟨hst,hgo⟩:=it H' x
  by_cases hlt:i<ds.length
  ·obtain⟨go,yl⟩:=hgo i ds[i] (by simp[hlt])
   refine .inr ⟨go,fun v H2 hy=>?_⟩
   obtain⟨sy,rv⟩:=yl v H2 hy;have xy:=R'.ext sy
   replace ha:=sy acc _ ha
   replace rs:=rs.ext xy
   replace x:=x.trans xy
   replace R':=R'.to sy
   rw[List.drop_eq_getElem_cons hlt]at ec;simp only[cA]at ec;cases q:bb τ ft fe (bd bo bs δ) ds[i]with
   |none=>rw[q]at ec;contradiction
   |some oy=>
    rw[q]at ec;obtain⟨δ1,q1,q2⟩:=aa q;have q1':τ ds[i] δ'=some δ1:=by rw[hd'];exact q1
    have hd1:∀d,τ d δ1=τ d (bd bo bs δ):=fun d=>by rw[hτ.new _ d _ _ q1',hd' d]
    have nw1:bc δ1:=hτ.own _ _ _ q1' nw';refine⟨_,H1,δ',ds[i],δ1,R',rv,q1',fun σ3 R3=>?_⟩
    split at q2
    ·rename_i qt
     refine⟨_,H1,δ1,true,R3,qt,fun H3 s3=>yk ?_⟩
     split at q2
     ·rename_i y qe
      obtain rfl:=Option.some.inj q2;simp only at ec;cases qc:cA (bb τ ft fe (bd bo bs δ)) (ds.drop (i+1))with
      |none=>rw[qc]at ec;contradiction
      |some l3=>
       rw[qc]at ec;obtain rfl:=Option.some.inj ec;refine⟨_,H1,δ1,y,R3.to s3,qe,fun v4 H4 s4 r4=>?_⟩
       have s34:=s3.trans s4;have ha4:H4 acc=some (.lst ys):=s34 acc _ ha;have x4:Ext (bF bo B δ σ) H2 H4:=R3.ext s34;have rs4:Reps K (bF bo B δ σ) H4 l1 ys:=rs.ext x4;have r4':Rep K (bF bo B δ σ) H4 y v4:=r4;have x5:Ext (bF bo B δ σ) H4 (upd H4 acc (.lst (ys++[v4]))):=bj ha4 trivial nb;have R5:Rel K (bF bo B δ σ) H1 δ1 σ3 (upd H4 acc (.lst (ys++[v4]))):=by
        have R4:=R3.to s34;refine⟨R4.same.put hacc,R4.bor,R4.len,fun j d h=>?_,fun j d h=>?_,R4.dis⟩
        ·obtain⟨v,h1,h2⟩:=R4.var j d h
         exact⟨v,h1,h2.ext x5⟩
        ·obtain⟨c,h1,h2,h3⟩:=R4.own j d h
         exact(nw1 j d h).elim
       refine⟨ha4,by have:=aH hlim;lia,ds.length - (i+1),by lia,rfl,hlt,by rw[List.length_append,List.length_singleton];lia,ag,x.trans (x4.trans x5),δ1,l1++[y],l3,R5,hd1,nw1,by rw[hls,List.append_assoc];rfl,?_,qc⟩
       exact(rs4.ext x5).append (Reps.cons (r4'.ext x5) Reps.nil)
     ·contradiction
    ·rename_i qt
     obtain rfl:=Option.some.inj q2;refine⟨_,H1,δ1,false,R3,qt,fun H3 s3=>yP ?_⟩
     exact⟨ds.length - (i+1),by lia,rfl,hlt,by lia,s3 acc _ ha,x.trans (R3.ext s3),δ1,l1,l2,R3.to s3,hd1,nw1,hls,rs.ext (R3.ext s3),ec⟩
    ·contradiction
  ·have hi':i=ds.length:=by lia
   subst hi';rw[List.drop_length]at ec;simp only[cA]at ec;obtain rfl:=Option.some.inj ec;rw[List.append_nil]at hls;subst hls;exact .inl ⟨hst,k acc H' (s1.trans R'.same) (s1.free hacc) ⟨ys,ha,rs⟩⟩
 ·rw[if_neg hlim]at e2;contradiction
end
section
variable{X:Cx}{elt tg iter:Expr}{ifs:List Expr}{scope:Scope}{pos:Pos}{bo:Bool}{fi:DEnv->Option (List D)}{τ:D->DEnv->Option DEnv}{ft:DEnv->Option Bool}{fe:DEnv->Option D}{bs:List Bool}
theorem vK (hc:X.calm=true) (hτ:Anew τ) (hi:DI X bo tg iter fi) (S:CompScope X scope bs)
  (hg:∀cl C s₂ H₂ ex pn,DG (aI X scope cl C s₂ H₂ ex pn) tg τ) (ht:∀cl C s₂ H₂ ex pn,DTs (aI X scope cl C s₂ H₂ ex pn) ifs ft) (he:∀cl C s₂ H₂ ex pn,DE (aI X scope cl C s₂ H₂ ex pn) false elt fe)
  (hs:∀x,foldedSetIterable iter X.env x=pure x):PE X (.ListComp elt [⟨tg,iter,ifs,0⟩] scope pos) (fun σ H Q=>∃B Hk δ ds ls,Rel X.K B Hk δ σ H/\fi δ=some ds/\dG bo bs τ ft fe δ ds=some ls/\
   ∀a H',Same H H'->H a=none->(∃xs,H' a=some (.lst xs)/\Reps X.K (bF bo B δ σ) H' ls xs)->Q (.ref a) H'):=by
 intro pins s σ H Q I ⟨B,Hk,δ,ds,ls,R,e1,e2,k⟩;exact vX hc hi S hg ht he hs pins s σ H Q I (fN hτ (by rw[S.len,I.len]) R e1 e2 k)
theorem iH (hc:X.calm=true) (hτ:Anew τ) (hi:DI X false tg iter fi) (S:CompScope X scope bs)
  (hg:∀cl C s₂ H₂ ex pn,DG (aI X scope cl C s₂ H₂ ex pn) tg τ) (ht:∀cl C s₂ H₂ ex pn,DTs (aI X scope cl C s₂ H₂ ex pn) ifs ft) (he:∀cl C s₂ H₂ ex pn,DE (aI X scope cl C s₂ H₂ ex pn) false elt fe)
  (hs:∀x,foldedSetIterable iter X.env x=pure x:=by intro _;rfl):DF X (.ListComp elt [⟨tg,iter,ifs,0⟩] scope pos) (fun δ=>aJ (ac (fi δ) (dG false bs τ ft fe δ))):=
 (vK hc hτ hi S hg ht he hs).imp fun σ H Q hz=>by
  obtain⟨B,Hk,δ,d,R,e,k⟩:=hz;cases q:ac (fi δ) (dG false bs τ ft fe δ)with
  |none=>simp only[q,aJ]at e;contradiction
  |some ls=>
   simp only[q,aJ]at e;obtain rfl:=Option.some.inj e;obtain⟨ds,e1,e2⟩:=aa q;exact⟨B,Hk,δ,ds,ls,R,e1,e2,fun a H' s n ob=>k a H' s n ob⟩
theorem vH {i:Nat}{y:Str}{py spos:Pos}(hN:X.N.Nodup) (hc:X.calm=true) (hτ:Anew τ) (hi:DI X false tg iter fi) (S:CompScope X scope bs)
  (hg:∀cl C s₂ H₂ ex pn,DG (aI X scope cl C s₂ H₂ ex pn) tg τ) (ht:∀cl C s₂ H₂ ex pn,DTs (aI X scope cl C s₂ H₂ ex pn) ifs ft) (he:∀cl C s₂ H₂ ex pn,DE (aI X scope cl C s₂ H₂ ex pn) false elt fe)
  (hiN:X.N[i]?=some y:=by rfl) (hy:X.env.scope.names.lookup y=some .local:=by rfl)
  (hsw:swapsWith (.ListComp elt [⟨tg,iter,ifs,0⟩] scope pos) (some (.Name y py)) spos.line X.env=pure true:=by rfl)
  (hs:∀x,foldedSetIterable iter X.env x=pure x:=by intro _;rfl):DS X (.Assign [.Name y py] (.ListComp elt [⟨tg,iter,ifs,0⟩] scope pos) spos) (fun δ=>gN i (aJ (ac (fi δ) (dG false bs τ ft fe δ))) δ):=by
 intro pins s σ H Dn I ⟨B,Hk,δ,o,R,e,k⟩;obtain⟨d,ed,hlt,rfl⟩:=kh e;cases q:ac (fi δ) (dG false bs τ ft fe δ)with
 |none=>simp only[q,aJ]at ed;contradiction
 |some ls=>
  simp only[q,aJ]at ed;obtain rfl:=Option.some.inj ed;obtain⟨ds,e1,e2⟩:=aa q;refine pv hc hi S hg ht he hN hiN hy hsw hs pins s σ H Dn I (fN (Q:=fun x H1=>iQ i x σ H1 Dn.nx) hτ (by rw[S.len,I.len]) R e1 e2 fun a H' s n ob=>?_)
  refine k _ H' (R.ext s) ((R.to s).setOwn (by rw[<-R.len];exact hlt) (R.same.free n) ob fun j e hj h1 h2=>?_)
  obtain⟨b,h3,_,ob'⟩:=R.own j e h1;rw[h2]at h3;cases h3;obtain⟨o,e'⟩:=ob'.there;rw[n]at e';contradiction
end
noncomputable def cj (n:Nat) (ds:List D):DEnv:=ds.map (fun d=>some (d,false))++List.replicate (n - ds.length) none
noncomputable def gA (x:Option Out):Option (D×Bool):=match x with|some (.ret d fr)=>some (d,fr)|some (.next _)=>some (.non,false)|_=>none
noncomputable def eU (n np:Nat) (g:DEnv->Option Out) (ds:List D):Option (D×Bool):=if ds.length=np then gA (g (cj n ds)) else none
theorem jt {K:PySem.W.Frag}{B:Addr->Prop}{H:Hp}{N:List Str}{ds:List D}{vs:List V}(hb:∀a,B a->∃o:HOn,H a=some o.1) (r:Reps K B H ds vs) (hl:ds.length<=N.length):Rel K B H (cj N.length ds) (eA N vs) H:=by
 have el:=r.length;have key:∀(i:Nat) d ow,(cj N.length ds)[i]?=some (some (d,ow))->ow=false/\ds[i]?=some d:=fun i d ow h=>by
  unfold cj at h
  by_cases hi:i<ds.length
  ·rw[List.getElem?_append_left (by simpa using hi),List.getElem?_map]at h
   cases q:ds[i]? with
   |none=>rw[q]at h;contradiction
   |some e=>rw[q]at h;simp only[Option.map_some,Option.some.injEq,Prod.mk.injEq]at h;exact⟨h.2.symm,by rw[h.1]⟩
  ·rw[List.getElem?_append_right (by simpa using hi),List.getElem?_replicate]at h
   split at h<;>cases h
 refine⟨Same.refl H,hb,?_,fun i d h=>?_,fun i d h=>?_,fun i j d e a _ h=>?_⟩
 ·unfold cj eA
  simp only[List.length_append,List.length_map,List.length_replicate]
  lia
 ·obtain⟨_,h2⟩:=key i d _ h
  obtain⟨v,h3,h4⟩:=r.get h2;refine⟨v,?_,h4⟩
  have hi:i<vs.length:=(List.getElem?_eq_some_iff.mp h3).1
  unfold eA;rw[List.getElem?_append_left (by simpa using hi),List.getElem?_map,h3]
  rfl
 ·have:=(key i d _ h).1;contradiction
 ·have:=(key i d _ h).1;contradiction
section
variable{P:Program}{w:World}{K:PySem.W.Frag}{mg:Str->Option Value}{base:Heap}
theorem mf {x qual:Str}{st:Stmt}{f:Addr}{fd:FuncData}{N ps:List Str}{k:Nat}{g:DEnv->Option Out}(F:Fun K x qual st f fd) (S:FnScope N ps (ai st)) (hb:Binds K fd ps []) (hm:mg x=some (.ref f)) (hn:ps.length<=N.length)
  (body:∀(cdv:Value) (A:Around) (outer:List Env) (s:Shared) (H:Hp) (E:XK),Room k (A.deeper (envOfC qual (ai st) s.heap.objs.size f cdv))->DSs (kD CX0 P w K mg base N qual (ai st) f cdv A outer s H E).nox (aN st) g):
  FnOk P w K mg base CX0 (k+1) f fd ps (spM K (eU N.length ps.length g))/\FnM P w K mg base (k+1) x (eU N.length ps.length g):=by
 have key:FnOk P w K mg base CX0 (k+1) f fd ps (spM K (eU N.length ps.length g)):=by
  refine F.ok S (fun vs H Q E h=>?_) (fun cdv A outer s H vs Q E hr h=>?_)
  ·obtain⟨B,ds,r,fr,_,hr,hf,_⟩:=h
   unfold eU at hf
   by_cases q:ds.length=ps.length
   ·rw[<-hr.length,q]
   ·rw[if_neg q]at hf;contradiction
  ·obtain⟨B,ds,r,fr,hB,hrs,hf,kk⟩:=h
   refine⟨_,body cdv A outer s H E hr,?_⟩
   unfold eU at hf
   by_cases q:ds.length=ps.length
   ·rw[if_pos q]at hf
    have R:Rel K B H (cj N.length ds) (eA N vs) H:=jt hB hrs (by lia)
    cases qo:g (cj N.length ds)with
    |none=>rw[qo]at hf;contradiction
    |some o=>
     rw[qo]at hf;refine⟨B,H,cj N.length ds,o,R,by first|exact qo|rfl,?_⟩
     cases o with
     |ret d fr'=>
      simp only[gA,Option.some.injEq,Prod.mk.injEq]at hf;obtain⟨rfl,rfl⟩:=hf;exact fun v H' x s rr=>kk v H' s rr
     |next δ=>
      simp only[gA,Option.some.injEq,Prod.mk.injEq]at hf;obtain⟨rfl,rfl⟩:=hf;exact fun σ' H' x R'=>kk .non H' R'.same (by unfold jc;rw[if_neg Bool.false_ne_true];simp only[Rep])
     |brk δ=>simp only[gA]at hf;contradiction
     |cont δ=>simp only[gA]at hf;contradiction
   ·rw[if_neg q]at hf;contradiction
 exact⟨key,⟨f,fd,ps,key,hm,F.kp,hb⟩⟩
end
theorem wR:bootBuiltins "list"=some (.type "list"):=by decide +kernel
theorem io:bootBuiltins "tuple"=some (.type "tuple"):=by decide +kernel
theorem iW:bootBuiltins "isinstance"=some (.builtin "isinstance"):=by decide +kernel
theorem zf:bootBuiltins "int"=some (.type "int"):=by decide +kernel
theorem uu:bootBuiltins "str"=some (.type "str"):=by decide +kernel
theorem wy:bootBuiltins "bool"=some (.type "bool"):=by decide +kernel
theorem xF:bootBuiltins "set"=some (.type "set"):=by decide +kernel
theorem fK:bootBuiltins "sorted"=some (.builtin "sorted"):=by decide +kernel
section
variable{X:Cx}
end
noncomputable def DO (X:Cx) (e:Option Expr) (f:DEnv->Option (Option Int)):Prop:=PO X e (fun σ H Q=>∃B Hk δ o,Rel X.K B Hk δ σ H/\f δ=some o/\∀H',Same H H'->Q o H')
theorem PO.imp {X:Cx}{e:Option Expr}{t t':TO}(h:PO X e t) (i:∀σ H Q,t' σ H Q->t σ H Q):PO X e t':=fun pins s σ H Q I q=>h pins s σ H Q I (i σ H Q q)
noncomputable def sE (x:Option D):Option (Option Int):=match x with|some (.int i)=>some (some i)|_=>none
section
variable{X:Cx}{m m' mm:Bool}{a b:Expr}{fa fb:DEnv->Option D}{pos p p2:Pos}{lo hi:Option Expr}{fl fh:DEnv->Option (Option Int)}
theorem oa:DO X none (fun _=>some none):=wO.imp fun σ H Q hz=>by obtain⟨B,Hk,δ,o,R,e,k⟩:=hz;obtain rfl:=Option.some.inj e;exact k H (Same.refl H)
theorem qS (h:DE X m a fa):DO X (some a) (fun δ=>sE (fa δ)):=(wG h).imp fun σ H Q hz=>by
 obtain⟨B,Hk,δ,o,R,e,k⟩:=hz;unfold sE at e;dsimp only at e;split at e
 ·rename_i i q
  obtain rfl:=Option.some.inj e;refine⟨B,Hk,δ,_,R,q,fun v H' s r=>?_⟩
  simp only[Rep]at r;exact⟨i,r,k H' s⟩
 ·contradiction
theorem An {K:PySem.W.Frag}{σ:St}{H:Hp}{B:Addr->Prop}{Hk:Hp}{δ:DEnv}{d:D}{l u:Option Int}{r:V->Option Int->Option Int->Hp->VK->Prop}{Q:VK}(R:Rel K B Hk δ σ H) (e1:fa δ=some d) (e2:fl δ=some l) (e3:fh δ=some u)
  (k:∀v H',Same H H'->Rel K B Hk δ σ H'->Rep K (bF m B δ σ) H' d v->r v l u H' Q):
  tSl r (tM K m fa) (fun σ H Q=>∃B Hk δ o,Rel K B Hk δ σ H/\fl δ=some o/\∀H',Same H H'->Q o H') (fun σ H Q=>∃B Hk δ o,Rel K B Hk δ σ H/\fh δ=some o/\∀H',Same H H'->Q o H') σ H Q:=
 ⟨B,Hk,δ,d,R,e1,fun v H1 s1 r1=>⟨B,Hk,δ,l,R.to s1,e2,fun H2 s2=>⟨B,Hk,δ,u,R.to (s1.trans s2),e3,fun H3 s3=>k v H3 (s1.trans (s2.trans s3)) (R.to (s1.trans (s2.trans s3))) (r1.same (R.to s1) (s2.trans s3))⟩⟩⟩
noncomputable def wY (ds:List D) (lo hi:Option Int):List D:=(ds.drop (HT.sIx ds.length 0 lo)).take (HT.sIx ds.length ds.length hi - HT.sIx ds.length 0 lo)
theorem Reps.cut {K:PySem.W.Frag}{B:Addr->Prop}{H:Hp}{ds:List D}{xs:List V}(r:Reps K B H ds xs) (lo hi:Option Int):Reps K B H (wY ds lo hi) (vo xs lo hi):=by
 unfold wY vo;rw[r.length];exact(r.drop _).take _
noncomputable def sJ (x:Option D) (l u:Option (Option Int)):Option D:=match x,l,u with|some (.lst ds),some l,some u=>some (.lst (wY ds l u))|_,_,_=>none
theorem q5 (ha:DE X false a fa) (hl:DO X lo fl) (hh:DO X hi fh):DF X (.Subscript a (.Slice lo hi none p2) pos) (fun δ=>sJ (fa δ) (fl δ) (fh δ)):=
 (sw vc ha hl hh).imp fun σ H Q hz=>by
  obtain⟨B,Hk,δ,d,R,e,k⟩:=hz;unfold sJ at e;split at e
  ·rename_i ds l u q1 q2 q3
   obtain rfl:=Option.some.inj e;refine An R q1 q2 q3 fun v H' s R' r=>?_
   simp only[Rep]at r;obtain⟨c,xs,rfl,hq,rs⟩:=r;refine⟨c,xs,rfl,hq.sq,fun p hp=>?_⟩
   have s2:=az (o:=.lst (vo xs l u)) hp;exact k p _ (s.trans s2) (s.free hp) ⟨_,ag,(rs.cut l u).same (m:=false) R' s2⟩
  ·contradiction
noncomputable def BI (x:Option D):Option D:=match x with|some d=>(match aS d with|some ds=>some (.lst ds)|none=>none)|none=>none
theorem ym {x:Option D}{g:List D->D}{d:D}(h:(match x with|some d=>(match aS d with|some ds=>some (g ds)|none=>none)|none=>none)=some d):∃e es,x=some e/\aS e=some es/\d=g es:=by
 split at h
 ·rename_i e
  split at h
  ·rename_i es he;obtain rfl:=Option.some.inj h;exact⟨e,es,rfl,he,rfl⟩
  ·contradiction
 ·contradiction
noncomputable def qN (x:Option D):Option D:=match x with|some d=>(match aS d with|some ds=>some (.tup ds)|none=>none)|none=>none
theorem tL (g:Gl X "tuple") (hm:X.mg "tuple"=none) (ha:DE X m a fa) (hs:starEach [a] X.env=[(false,eval a X.env)]:=by rfl):DE X m (.Call (.Name "tuple" p) [a] [] pos) (fun δ=>qN (fa δ)):=
 (gd iN g hm io (av ha aT hs) (he:=hs)).imp fun σ H Q hz=>by
  obtain⟨B,Hk,δ,d,R,e,k⟩:=hz;obtain⟨d1,es,e1,hi,rfl⟩:=ym (g:=D.tup) e;refine rH R e1 fun v H' s R' r=>?_
  cases d1 with
  |lst ds=>
   simp only[aS]at hi;obtain rfl:=Option.some.inj hi;simp only[Rep]at r;obtain⟨c,xs,rfl,hq,rs⟩:=r;refine⟨c,xs,rfl,.inl ⟨hq.sq,fun l hl=>?_⟩⟩
   have s2:=az (o:=.tup xs) hl;refine k _ _ (s.trans s2) ?_
   simp only[Rep];exact⟨l,xs,rfl,ag,rs.same R' s2⟩
  |tup ds=>
   simp only[aS]at hi;obtain rfl:=Option.some.inj hi;have r':=r;simp only[Rep]at r;obtain⟨c,xs,rfl,hq,rs⟩:=r;exact⟨c,xs,rfl,.inr ⟨SqT.of hq,k _ H' s r'⟩⟩
  |_=>simp[aS]at hi
noncomputable def tyD:D->Option String
 |.non=>some "NoneType"|.bl _=>some "bool"|.int _=>some "int"|.str _=>some "str"|.tup _=>some "tuple"|.lst _=>some "list"|_=>none
noncomputable def sZ (t c:String):Bool:=t==c||(t=="bool"&&c=="int")
noncomputable def gu (c:String) (x:Option D):Option D:=match x with|some d=>(match tyD d with|some t=>some (.bl (sZ t c))|none=>none)|none=>none
theorem rR {c:String}(hc:c="int"\/c="bool"\/c="str"\/c="list"\/c="tuple"):fA X (.builtin "isinstance") (fun xs H Q=>∃B d x t,xs=[x,.ty c]/\Rep X.K B H d x/\tyD d=some t/\Q (.bl (sZ t c)) H):=by
 intro pins s σ H xs us Q I r h;obtain⟨B,d,x,t,rfl,rx,ht,q⟩:=h;obtain⟨u,w',rfl,ru,rw'⟩:=Ad r;cases rw';have fin:∀b,b=sZ t c->∀tk,EP X pins σ Q (.bool b) {s with toks:=tk}:=fun b e tk=>⟨.bl b,H,I.tok tk,rfl,by rw[e];exact q⟩
 have kit:∀(T:String),(T="NoneType"\/T="bool"\/T="int"\/T="str"\/T="list"\/T="tuple")->PySem.W.kitOne X.K (.type T) (.type c)=some (sZ T c):=fun T hT=>by
  rcases hc with rfl|rfl|rfl|rfl|rfl<;>rcases hT with rfl|rfl|rfl|rfl|rfl|rfl<;>rfl
 cases d with
 |non=>simp only[tyD,Option.some.injEq]at ht;subst ht;simp only[Rep]at rx;subst rx;exact dL I ru (.non) (kit _ (by simp)) (fin _ rfl)
 |bl b=>simp only[tyD,Option.some.injEq]at ht;subst ht;simp only[Rep]at rx;subst rx;exact dL I ru (.bl b) (kit _ (by simp)) (fin _ rfl)
 |int b=>simp only[tyD,Option.some.injEq]at ht;subst ht;simp only[Rep]at rx;subst rx;exact dL I ru (.int b) (kit _ (by simp)) (fin _ rfl)
 |str b=>simp only[tyD,Option.some.injEq]at ht;subst ht;simp only[Rep]at rx;subst rx;exact dL I ru (.str b) (kit _ (by simp)) (fin _ rfl)
 |tup ds=>
  simp only[tyD,Option.some.injEq]at ht;subst ht;simp only[Rep]at rx;obtain⟨a,xs,rfl,hq,_⟩:=rx;cases ru;obtain⟨its,_,⟨o,h1,h2,_⟩,_⟩:=I.tuple (SqT.of hq);exact PySem.W.kia_one PySem.W.kitx_tuple I.kIn ⟨o,h1,h2⟩ (kit _ (by simp)) (fun z=>nomatch z) (fin _ rfl)
 |lst ds=>
  simp only[tyD,Option.some.injEq]at ht;subst ht;simp only[Rep]at rx;obtain⟨a,xs,rfl,hq,_⟩:=rx;cases ru;obtain⟨its,_,⟨o,n,h1,h2,_⟩,_⟩:=I.list hq.sq;exact PySem.W.kia_one PySem.W.kitx_list I.kIn ⟨o,h1,h2⟩ (kit _ (by simp)) (fun z=>nomatch z) (fin _ rfl)
 |dT _ _=>simp[tyD]at ht
 |dK _ _=>simp[tyD]at ht
 |dD _ _=>simp[tyD]at ht
 |sp _ _=>simp[tyD]at ht
theorem pV {c:Str}{cs:String}{pc:Pos}(hc:cs="int"\/cs="bool"\/cs="str"\/cs="list"\/cs="tuple") (g:Gl X "isinstance") (hm:X.mg "isinstance"=none) (gc:Gl X c) (hmc:X.mg c=none) (hv:bootBuiltins c=some (.type cs)) (ha:DE X m a fa)
  (hs:starEach [a,.Name c pc] X.env=[(false,eval a X.env),(false,eval (.Name c pc) X.env)]:=by rfl) (hs2:starEach [.Name c pc] X.env=[(false,eval (.Name c pc) X.env)]:=by rfl) (hn:c≠"__name__":=by decide) (hd:(c==("__debug__":Str))=false:=by decide)
  (hpl:(backTo pos (starEach [.Name c pc] X.env)).any (·.1)=false:=by rfl):
  DE X mm (.Call (.Name "isinstance" p) [a,.Name c pc] [] pos) (fun δ=>gu cs (fa δ)):=
 (dg (rR hc) g hm iW (av ha (av (v7 (v:=.ty cs) gc hmc hv rfl hn hd) aT hs2) (by rw[hs,hs2])) (he:=by rw[hs,hs2]) (hpl:=hpl)).imp fun σ H Q hz=>by
  obtain⟨B,Hk,δ,d,R,e,k⟩:=hz;unfold gu at e;split at e
  ·rename_i d1 q
   split at e
   ·rename_i t qt
    obtain rfl:=Option.some.inj e;exact⟨B,Hk,δ,d1,R,q,fun v H' s r=>⟨_,d1,v,t,rfl,r,qt,k _ H' s (by simp only[Rep])⟩⟩
   ·contradiction
  ·contradiction
end
end L2
namespace L2
open PySem PySem.Spec PyProof.Rows PySem.W
variable[Lams]
noncomputable def bY {α:Type}(lt:Nat->Nat->Bool):KasT α->α
 |.ret a=>a
 |.ask i j k=>bY lt (k (lt i j))
noncomputable def kin {α:Type}(n:Nat) (lt:Nat->Nat->Bool):KasT α->Prop
 |.ret _=>True
 |.ask i j k=>i<n/\j<n/\kin n lt (k (lt i j))
theorem cu {α β:Type}(lt:Nat->Nat->Bool) (f:α->KasT β):∀t:KasT α,bY lt (t.bind f)=bY lt (f (bY lt t))
 |.ret a=>rfl
 |.ask i j k=>cu lt f (k (lt i j))
theorem bi {α β:Type}{n:Nat}{lt:Nat->Nat->Bool}(f:α->KasT β):∀t:KasT α,kin n lt t->kin n lt (f (bY lt t))->kin n lt (t.bind f)
 |.ret a,_,h=>h
 |.ask i j k,h,h'=>⟨h.1,h.2.1,bi f (k (lt i j)) h.2.2 h'⟩
theorem um {α:Type}{n:Nat}{lt:Nat->Nat->Bool}{cmp:Nat->Nat->(Bool->Shared->Prop)->Shared->Prop}{Q:α->Shared->Prop}{s:Shared}(hc:∀i j C,i<n->j<n->C (lt i j) s->cmp i j C s):∀t:KasT α,kin n lt t->Q (bY lt t) s->t.kasWp cmp Q s
 |.ret a,_,h=>h
 |.ask i j k,h,h'=>hc i j _ h.1 h.2.1 (um hc (k (lt i j)) h.2.2 h')
section
variable{n:Nat}{lt:Nat->Nat->Bool}
structure Ord (lt:Nat->Nat->Bool):Prop where
 asym:∀i j,lt i j=true->lt j i=false
 tr:∀i j k,lt j i=false->lt k j=false->lt k i=false
variable(O:Ord lt)
structure Ok (n:Nat) (p:Array Nat):Prop where
 sz:p.size=n
 pm:p.toList.Perm (List.range n)
theorem Ok.below {p:Array Nat}(h:Ok n p) (i:Nat) (hn:0<n):p.getD i 0<n:=by
 by_cases hi:i<p.size
 ·have e:p.getD i 0=p[i]:=by simp[Array.getD,hi]
  rw[e];have hm:p[i]∈p.toList:=by simp
  exact List.mem_range.mp (h.pm.mem_iff.mp hm)
 ·have e:p.getD i 0=0:=by simp[Array.getD,hi]
  rw[e];exact hn
theorem Ok.rev {p:Array Nat}(h:Ok n p) (i j:Nat):Ok n (kas_rev p i j):=by
 unfold kas_rev;exact⟨by rw[mirror_size];exact h.sz,(Array.perm_iff_toList_perm.mp (mirror_perm p i j _)).trans h.pm⟩
theorem Ok.bub {p:Array Nat}(h:Ok n p) (i j:Nat):Ok n (bubble p i j):=
 ⟨by rw[bubble_size];exact h.sz,(Array.perm_iff_toList_perm.mp (bubble_perm p i j)).trans h.pm⟩
theorem cW {p:Array Nat}{i j:Nat}(hj:j<=p.size) (k:Nat):(kas_rev p i j).getD k 0=if i<=k/\k<j then p.getD (i+j - 1 - k) 0 else p.getD k 0:=by
 have e:=getElem?_mirror_all (i:=i) hj k
 unfold kas_rev;have g:∀(q:Array Nat) (m:Nat),q.getD m 0=(q[m]?).getD 0:=fun q m=>by
  by_cases hm:m<q.size<;>simp[Array.getD,hm]
 rw[g,e,g p (i+j - 1 - k),g p k];split<;>rfl
theorem qf {p:Array Nat}{src d:Nat}(hs:src<p.size) (hd:d<=src) (k:Nat):(bubble p src d).getD k 0=if k=src - d then p.getD src 0 else if src - d<k/\k<=src then p.getD (k - 1) 0 else p.getD k 0:=by
 have e:=getElem?_bubble hs d hd k
 have g:∀(q:Array Nat) (m:Nat),q.getD m 0=(q[m]?).getD 0:=fun q m=>by
  by_cases hm:m<q.size<;>simp[Array.getD,hm]
 rw[g,e,g p src,g p (k - 1),g p k];split
 ·rfl
 ·split<;>rfl
noncomputable def Up (lt:Nat->Nat->Bool) (p:Array Nat) (k:Nat):Prop:=∀i j,i<=j->j<k->lt (p.getD j 0) (p.getD i 0)=false
noncomputable def Down (lt:Nat->Nat->Bool) (p:Array Nat) (k:Nat):Prop:=∀i j,i<=j->j<k->lt (p.getD i 0) (p.getD j 0)=false
theorem Ord.irr (O:Ord lt) (i:Nat):lt i i=false:=by
 cases e:lt i i with
 |false=>rfl
 |true=>have:=O.asym i i e;rw[e]at this;exact this
theorem Up.snoc (O:Ord lt) {p:Array Nat}{k:Nat}(h:Up lt p k) (hk:lt (p.getD k 0) (p.getD (k - 1) 0)=false) (h1:1<=k):Up lt p (k+1):=fun i j hij hj=>by
 by_cases e:j=k
 ·subst e
  by_cases e2:i=j
  ·subst e2;exact O.irr _
  ·exact O.tr _ _ _ (h i (j - 1) (by lia) (by lia)) hk
 ·exact h i j hij (by lia)
theorem Down.snoc (O:Ord lt) {p:Array Nat}{k:Nat}(h:Down lt p k) (hk:lt (p.getD (k - 1) 0) (p.getD k 0)=false) (h1:1<=k):Down lt p (k+1):=fun i j hij hj=>by
 by_cases e:j=k
 ·subst e
  by_cases e2:i=j
  ·subst e2;exact O.irr _
  ·exact O.tr _ _ _ hk (h i (j - 1) (by lia) (by lia))
 ·exact h i j hij (by lia)
include O in
theorem nZ (hn:0<n) {p:Array Nat}(hp:Ok n p):∀(f k:Nat),1<=k->Up lt p k->kin n lt (kas_asc p f k)/\k<=bY lt (kas_asc p f k)/\bY lt (kas_asc p f k)<=k+f/\Up lt p (bY lt (kas_asc p f k))
 |0,k,h1,h=>⟨trivial,Nat.le_refl _,Nat.le_refl _,h⟩
 |f+1,k,h1,h=>by
  unfold kas_asc;cases c:lt (p.getD k 0) (p.getD (k - 1) 0)with
  |true=>
   refine⟨⟨hp.below _ hn,hp.below _ hn,?_⟩,?_⟩
   ·rw[c];exact trivial
   ·show _<=bY lt (if lt (p.getD k 0) (p.getD (k - 1) 0)=true then _ else _)/\_
    simp only[bY,c,if_true];exact⟨Nat.le_refl _,by lia,h⟩
  |false=>
   have ih:=nZ hn hp f (k+1) (by lia) (h.snoc O c h1)
   refine⟨⟨hp.below _ hn,hp.below _ hn,?_⟩,?_⟩
   ·rw[c];exact ih.1
   ·simp only[bY,c,Bool.false_eq_true,if_false]
    exact⟨by lia,by lia,ih.2.2.2⟩
include O in
theorem iR (hn:0<n):∀(f:Nat) (p:Array Nat) (k q:Nat),Ok n p->q+1<=k->k+f<=n->Down lt p k->(∀i j,k - (q+1)<=i->i<=j->j<k->lt (p.getD j 0) (p.getD i 0)=false)->
  kin n lt (kas_desc f p k q)/\(let r:=bY lt (kas_desc f p k q);Ok n r.1/\r.2.2+1<=r.2.1/\k<=r.2.1/\r.2.1<=k+f/\Down lt r.1 r.2.1/\∀i j,r.2.1 - (r.2.2+1)<=i->i<=j->j<r.2.1->lt (r.1.getD j 0) (r.1.getD i 0)=false)
 |0,p,k,q,hp,hq,hk,hd,he=>⟨trivial,hp,hq,Nat.le_refl _,Nat.le_refl _,hd,he⟩
 |f+1,p,k,q,hp,hq,hk,hd,he=>by
  unfold kas_desc;cases c:lt (p.getD k 0) (p.getD (k - 1) 0)with
  |true=>
   have hd2:Down lt p (k+1):=hd.snoc O (O.asym _ _ c) (by lia)
   by_cases hq0:q>0
   ·-- the equal ones at the end are turned about
    have hp2:=hp.rev (k - (q+1)) k;have hks:k<=p.size:=by rw[hp.sz];lia
    have hd3:Down lt (kas_rev p (k - (q+1)) k) (k+1):=fun i j hij hj=>by
     rw[cW hks,cW hks]
     by_cases hi:k - (q+1)<=i/\i<k
     ·rw[if_pos hi]
      by_cases hj':k - (q+1)<=j/\j<k
      ·rw[if_pos hj']
       exact he _ _ (by lia) (by lia) (by lia)
      ·rw[if_neg hj']
       exact hd2 _ _ (by lia) hj
     ·rw[if_neg hi]
      by_cases hj':k - (q+1)<=j/\j<k
      ·rw[if_pos hj']
       exact hd2 _ _ (by lia) (by lia)
      ·rw[if_neg hj']
       exact hd2 _ _ hij hj
    have ih:=iR hn f (kas_rev p (k - (q+1)) k) (k+1) 0 hp2 (by lia) (by lia) hd3 (fun i j h1 h2 h3=>by
     have:i=j:=by lia
     subst this;exact O.irr _)
    refine⟨⟨hp.below _ hn,hp.below _ hn,?_⟩,?_⟩
    ·simp only[c,if_true,if_pos hq0];exact ih.1
    ·simp only[bY,c,if_true,if_pos hq0]
     exact⟨ih.2.1,ih.2.2.1,by have:=ih.2.2.2.1;lia,by have:=ih.2.2.2.2.1;lia,ih.2.2.2.2.2⟩
   ·have ih:=iR hn f p (k+1) 0 hp (by lia) (by lia) hd2 (fun i j h1 h2 h3=>by
     have:i=j:=by lia
     subst this;exact O.irr _)
    refine⟨⟨hp.below _ hn,hp.below _ hn,?_⟩,?_⟩
    ·simp only[c,if_true,if_neg hq0];exact ih.1
    ·simp only[bY,c,if_true,if_neg hq0]
     exact⟨ih.2.1,ih.2.2.1,by have:=ih.2.2.2.1;lia,by have:=ih.2.2.2.2.1;lia,ih.2.2.2.2.2⟩
  |false=>
   cases c2:lt (p.getD (k - 1) 0) (p.getD k 0)with
   |true=>
    refine⟨⟨hp.below _ hn,hp.below _ hn,?_⟩,?_⟩
    ·simp only[c,Bool.false_eq_true,if_false]
     refine⟨hp.below _ hn,hp.below _ hn,?_⟩
     rw[c2];exact trivial
    ·simp only[bY,c,c2,Bool.false_eq_true,if_false,if_true]
     exact⟨hp,hq,Nat.le_refl _,by lia,hd,he⟩
   |false=>
    have hd2:Down lt p (k+1):=hd.snoc O c2 (by lia)
    have he2:∀i j,k+1 - (q+1+1)<=i->i<=j->j<k+1->lt (p.getD j 0) (p.getD i 0)=false:=fun i j h1 h2 h3=>by
     by_cases e:j=k
     ·subst e
      by_cases e2:i=j
      ·subst e2;exact O.irr _
      ·exact O.tr _ _ _ (he i (j - 1) (by lia) (by lia) (by lia)) c
     ·exact he i j (by lia) h2 (by lia)
    have ih:=iR hn f p (k+1) (q+1) hp (by lia) (by lia) hd2 he2
    refine⟨⟨hp.below _ hn,hp.below _ hn,?_⟩,?_⟩
    ·simp only[c,Bool.false_eq_true,if_false]
     refine⟨hp.below _ hn,hp.below _ hn,?_⟩
     simp only[c2,Bool.false_eq_true,if_false];exact ih.1
    ·simp only[bY,c,c2,Bool.false_eq_true,if_false]
     exact⟨ih.2.1,ih.2.2.1,by have:=ih.2.2.2.1;lia,by have:=ih.2.2.2.2.1;lia,ih.2.2.2.2.2⟩
include O in
theorem lR (hn:0<n) {p:Array Nat}(hp:Ok n p) {k:Nat}(h1:1<=k) (hk:k<=n) (hd:Down lt p k):
  kin n lt (kas_tail3 k n p)/\(let r:=bY lt (kas_tail3 k n p);Ok n r.2/\1<=r.1/\r.1<=n/\Up lt r.2 r.1):=by
 have hks:k<=p.size:=by rw[hp.sz];exact hk
 have hp2:=hp.rev 0 k;have hu:Up lt (kas_rev p 0 k) k:=fun i j hij hj=>by
  rw[cW hks,cW hks,if_pos ⟨Nat.zero_le _,hj⟩,if_pos ⟨Nat.zero_le _,by lia⟩]
  exact hd _ _ (by lia) (by lia)
 have a:=nZ O hn hp2 (n - k) k h1 hu;unfold kas_tail3;refine⟨bi _ _ a.1 trivial,?_⟩
 rw[cu];simp only[bY];exact⟨hp2,by lia,by lia,a.2.2.2⟩
include O in
theorem gn (hn:0<n) {p:Array Nat}(hp:Ok n p) {k:Nat}(h1:1<=k) (hk:k+1<=n) (hd:Down lt p (k+1)):
  kin n lt (kas_descPart k n p)/\(let r:=bY lt (kas_descPart k n p);Ok n r.2/\1<=r.1/\r.1<=n/\Up lt r.2 r.1):=by
 have d:=iR O hn (n - (k+1)) p (k+1) 0 hp (by lia) (by lia) hd (fun i j h1 h2 h3=>by
  have:i=j:=by lia
  subst this;exact O.irr _)
 unfold kas_descPart;obtain⟨d1,d2,d3,d4,d5,d6,d7⟩:=d;rw[cu];generalize hr:bY lt (kas_desc (n - (k+1)) p (k+1) 0)=r at*
 by_cases hq:r.2.2>0
 ·have hks:r.2.1<=r.1.size:=by rw[d2.sz];lia
  have hd3:Down lt (kas_rev r.1 (r.2.1 - (r.2.2+1)) r.2.1) r.2.1:=fun i j hij hj=>by
   rw[cW hks,cW hks]
   by_cases hi:r.2.1 - (r.2.2+1)<=i/\i<r.2.1
   ·rw[if_pos hi,if_pos ⟨by lia,hj⟩]
    exact d7 _ _ (by lia) (by lia) (by lia)
   ·rw[if_neg hi]
    by_cases hj':r.2.1 - (r.2.2+1)<=j/\j<r.2.1
    ·rw[if_pos hj']
     exact d6 _ _ (by lia) (by lia)
    ·rw[if_neg hj']
     exact d6 _ _ hij hj
  have t:=lR O hn (d2.rev (r.2.1 - (r.2.2+1)) r.2.1) (k:=r.2.1) (by lia) (by lia) hd3
  refine⟨bi _ _ d1 ?_,?_⟩
  ·rw[hr,if_pos hq];exact t.1
  ·rw[if_pos hq];exact t.2
 ·have t:=lR O hn d2 (k:=r.2.1) (by lia) (by lia) d6
  refine⟨bi _ _ d1 ?_,?_⟩
  ·rw[hr,if_neg hq];exact t.1
  ·rw[if_neg hq];exact t.2
include O in
theorem t5 (h2:2<=n) {p:Array Nat}(hp:Ok n p):kin n lt (kas_count n p)/\(let r:=bY lt (kas_count n p);Ok n r.2/\1<=r.1/\r.1<=n/\Up lt r.2 r.1):=by
 have hn:0<n:=by lia
 have one:Up lt p 1:=fun i j hij hj=>by
  have:i=j:=by lia
  subst this;exact O.irr _
 have a:=nZ O hn hp (n - 1) 1 (Nat.le_refl _) one;unfold kas_count;rw[cu];obtain⟨a1,a2,a3,a4⟩:=a;have stop:∀(f k:Nat),bY lt (kas_asc p f k)<k+f->lt (p.getD (bY lt (kas_asc p f k)) 0) (p.getD (bY lt (kas_asc p f k) - 1) 0)=true:=by
  intro f
  induction f with
  |zero=>intro k h;simp only[kas_asc,bY]at h;lia
  |succ f ih=>
   intro k h;cases c:lt (p.getD k 0) (p.getD (k - 1) 0)with
   |true=>simp only[kas_asc,bY,c,if_true]at h⊢
   |false=>
    simp only[kas_asc,bY,c,Bool.false_eq_true,if_false]at h⊢;exact ih (k+1) (by lia)
 have stop1:=stop (n - 1) 1;generalize hr:bY lt (kas_asc p (n - 1) 1)=m at*
 by_cases hm:(m==n)=true
 ·refine⟨bi _ _ a1 ?_,?_⟩
  ·rw[hr,if_pos hm];exact trivial
  ·rw[if_pos hm];exact⟨hp,a2,(show m<=n by lia),a4⟩
 ·have hmn:m<n:=by
   have:m≠n:=by simpa using hm
   lia
  have st:=stop1 (by lia)
  by_cases h1:m>1
  ·cases c:lt (p.getD 0 0) (p.getD (m - 1) 0)with
   |true=>
    refine⟨bi _ _ a1 ?_,?_⟩
    ·rw[hr,if_neg hm,if_pos h1]
     refine⟨hp.below _ hn,hp.below _ hn,?_⟩
     rw[c];exact trivial
    ·rw[if_neg hm,if_pos h1]
     simp only[bY,c,if_true];exact⟨hp,a2,by lia,a4⟩
   |false=>
    have hms:m<=p.size:=by rw[hp.sz];lia
    have same:∀i j,i<m->j<m->lt (p.getD i 0) (p.getD j 0)=false:=fun i j hi hj=>
     O.tr _ _ _ (O.tr _ _ _ (a4 j (m - 1) (by lia) (by lia)) c) (a4 0 i (Nat.zero_le _) hi)
    have hd:Down lt (kas_rev p 0 m) (m+1):=fun i j hij hj=>by
     rw[cW hms,cW hms]
     by_cases hi:0<=i/\i<m
     ·rw[if_pos hi]
      by_cases hj':0<=j/\j<m
      ·rw[if_pos hj'];exact same _ _ (by lia) (by lia)
      ·rw[if_neg hj']
       have:j=m:=by lia
       subst this;exact O.tr _ _ _ (O.asym _ _ st) (same _ _ (by lia) (by lia))
     ·rw[if_neg hi]
      have:i=j:=by lia
      subst this;rw[if_neg hi];exact O.irr _
    have t:=gn O hn (hp.rev 0 m) (k:=m) (by lia) (by lia) hd
    refine⟨bi _ _ a1 ?_,?_⟩
    ·rw[hr,if_neg hm,if_pos h1]
     refine⟨hp.below _ hn,hp.below _ hn,?_⟩
     simp only[c,Bool.false_eq_true,if_false];exact t.1
    ·rw[if_neg hm,if_pos h1]
     simp only[bY,c,Bool.false_eq_true,if_false];exact t.2
  ·have m1:m=1:=by lia
   subst m1;have hd:Down lt p (1+1):=fun i j hij hj=>by
    by_cases e:i=j
    ·subst e;exact O.irr _
    ·have e1:i=0:=by lia
     have e2:j=1:=by lia
     subst e1 e2;exact O.asym _ _ st
   have t:=gn O hn hp (k:=1) (by lia) (by lia) hd
   refine⟨bi _ _ a1 ?_,?_⟩
   ·rw[hr,if_neg hm,if_neg h1];exact t.1
   ·rw[if_neg hm,if_neg h1];exact t.2
include O in
theorem iT (hn:0<n) {p:Array Nat}(hp:Ok n p) {k:Nat}(hu:Up lt p k):∀(f l r:Nat),l<=r->r<=k->r - l<=f->(∀i,i<l->lt (p.getD k 0) (p.getD i 0)=false)->(∀i,r<=i->i<k->lt (p.getD k 0) (p.getD i 0)=true)->
  kin n lt (kas_place p k f l r)/\bY lt (kas_place p k f l r)<=k/\(∀i,i<bY lt (kas_place p k f l r)->lt (p.getD k 0) (p.getD i 0)=false)/\(∀i,bY lt (kas_place p k f l r)<=i->i<k->lt (p.getD k 0) (p.getD i 0)=true)
 |0,l,r,hlr,hrk,hf,h1,h2=>by
  have:l=r:=by lia
  subst this;exact⟨trivial,hrk,h1,h2⟩
 |f+1,l,r,hlr,hrk,hf,h1,h2=>by
  unfold kas_place
  by_cases hge:l>=r
  ·have:l=r:=by lia
   subst this;rw[if_pos hge];exact⟨trivial,hrk,h1,h2⟩
  ·rw[if_neg hge]
   cases c:lt (p.getD k 0) (p.getD ((l+r) / 2) 0)with
   |true=>
    have ih:=iT hn hp hu f l ((l+r) / 2) (by lia) (by lia) (by lia) h1 (fun i hi hik=>by
     cases e:lt (p.getD k 0) (p.getD i 0)with
     |true=>rfl
     |false=>
      have q:=O.tr _ _ _ (hu ((l+r) / 2) i hi hik) e;rw[c]at q;contradiction)
    refine⟨⟨hp.below _ hn,hp.below _ hn,?_⟩,?_⟩
    ·simp only[c,if_true];exact ih.1
    ·simp only[bY,c,if_true];exact ih.2
   |false=>
    have ih:=iT hn hp hu f ((l+r) / 2+1) r (by lia) hrk (by lia) (fun i hi=>by
     by_cases e:i<l
     ·exact h1 i e
     ·exact O.tr _ _ _ (hu i ((l+r) / 2) (by lia) (by lia)) c) h2
    refine⟨⟨hp.below _ hn,hp.below _ hn,?_⟩,?_⟩
    ·simp only[c,Bool.false_eq_true,if_false];exact ih.1
    ·simp only[bY,c,Bool.false_eq_true,if_false];exact ih.2
include O in
theorem t8 (hn:0<n):∀(f:Nat) (p:Array Nat) (k:Nat),Ok n p->k+f=n->Up lt p k->kin n lt (kas_bin f p k)/\Ok n (bY lt (kas_bin f p k))/\Up lt (bY lt (kas_bin f p k)) n
 |0,p,k,hp,hk,hu=>by
  have:k=n:=by lia
  subst this;exact⟨trivial,hp,hu⟩
 |f+1,p,k,hp,hk,hu=>by
  unfold kas_bin;have pl:=iT O hn hp hu k 0 k (Nat.zero_le _) (Nat.le_refl _) (by lia) (fun i hi=>by lia) (fun i h1 h2=>by lia)
  rw[cu];obtain⟨p1,p2,p3,p4⟩:=pl;generalize hr:bY lt (kas_place p k k 0 k)=l at*;have hks:k<p.size:=by rw[hp.sz];lia
  have hu2:Up lt (bubble p k (k - l)) (k+1):=fun i j hij hj=>by
   rw[qf hks (by lia),qf hks (by lia)]
   have ek:k - (k - l)=l:=by lia
   rw[ek]
   by_cases i1:i=l
   ·rw[if_pos i1]
    by_cases j1:j=l
    ·rw[if_pos j1];exact O.irr _
    ·rw[if_neg j1,if_pos ⟨by lia,by lia⟩]
     exact O.asym _ _ (p4 _ (by lia) (by lia))
   ·rw[if_neg i1]
    by_cases i2:l<i/\i<=k
    ·rw[if_pos i2,if_neg (by lia),if_pos ⟨by lia,by lia⟩]
     exact hu _ _ (by lia) (by lia)
    ·rw[if_neg i2]
     by_cases j1:j=l
     ·rw[if_pos j1];exact p3 _ (by lia)
     ·rw[if_neg j1]
      by_cases j2:l<j/\j<=k
      ·rw[if_pos j2];exact hu _ _ (by lia) (by lia)
      ·rw[if_neg j2];exact hu _ _ hij (by lia)
  have ih:=t8 hn f (bubble p k (k - l)) (k+1) (hp.bub k (k - l)) (by lia) hu2
  refine⟨bi _ _ p1 ?_,ih.2⟩
  rw[hr];exact ih.1
include O in
theorem vO (h2:2<=n):kin n lt (kas_sort n)/\Ok n (bY lt (kas_sort n))/\Up lt (bY lt (kas_sort n)) n:=by
 have hp:Ok n (List.toArray (List.range n)):=⟨by simp,by simp⟩
 have c:=t5 O h2 hp;unfold kas_sort;rw[cu];obtain⟨c1,c2,c3,c4,c5⟩:=c;generalize hr:bY lt (kas_count n (List.toArray (List.range n)))=r at*
 by_cases h:r.1<n
 ·have em:max r.1 1=r.1:=by lia
  have b:=t8 O (by lia) (n - r.1) r.2 r.1 c2 (by lia) c5
  refine⟨bi _ _ c1 ?_,?_⟩
  ·rw[hr,if_pos h,em];exact b.1
  ·rw[if_pos h,em];exact b.2
 ·have:r.1=n:=by lia
  refine⟨bi _ _ c1 ?_,?_⟩
  ·rw[hr,if_neg h];exact trivial
  ·rw[if_neg h];exact⟨c2,by rw[<-this];exact c5⟩
end
section
variable{prog:Program}{w:World}{A:Around}{E:Value->Shared->Prop}{s:Shared}{vs:List Value}{a:Addr}
noncomputable def ca (vs:List Value) (p:List Nat):List Value:=p.map fun i=>vs.getD i Value.none
theorem rQ {n:Nat}{P:PySem.Fin->Shared->Prop}{κ:SortKind}{lt:Nat->Nat->Bool}(ho:s.heap.get? a=some (seqObj "list" vs.toArray n)) (h64:vs.length<64) (O:Ord lt)
  (hk:2<=vs.length->∀h',(∀b o,b≠a->s.heap.get? b=some o->h'.get? b=some o)->∀Q:SortKind->Shared->Prop,Q κ {s with heap:=h'}->wpAny (model prog w) A (keyKind' vs.toArray) Q (fun _ _=>False) {s with heap:=h'})
  (hlt:∀h',(∀b o,b≠a->s.heap.get? b=some o->h'.get? b=some o)->∀(i j:Nat) (C:Bool->Shared->Prop),i<vs.length->j<vs.length->C (lt i j) {s with heap:=h'}->wpAny (model prog w) A (keyLt' κ (vs.getD i Value.none) (vs.getD j Value.none)) C (fun _ _=>False) {s with heap:=h'})
  (h:∀p:List Nat,p.Perm (List.range vs.length)->(∀i j,i<=j->j<vs.length->lt (p.getD j 0) (p.getD i 0)=false)->∀h' c,(∀b o,b≠a->s.heap.get? b=some o->h'.get? b=some o)->h'.get? a=some (seqObj "list" (ca vs p).toArray c)->P (.done (.ret .none)) {s with heap:=h'}):
  wpAny (model prog w) A (Builtin.«list.sort» ⟨[.ref a],[]⟩) P E s:=by
 have ha:a<s.heap.objs.size:=Heap.lt_size ho;have hz:vs.length<=sizeLine:=by rw[sizeLine_eq];lia
 rw[list_sort_plain];refine wpAny_bind (listItems_at ho rfl (wpAny_bind (listUpdate_at ho rfl ?_ (by rw[List.size_toArray];exact hz) (Nat.zero_le _))))
 obtain⟨e1,g1⟩:∃e1,(s.heap.update a (Obj.mapSeq fun _=>(#[]:Array Value))).get? a=some (seqObj "list" #[] e1):=⟨_,get?_update_seq ho fun _=>#[]⟩
 refine wpAny_bind (seqEpoch_at g1 rfl (wpAny_bind (wpAny_newTuple ?_ hz)))
 refine wpAny_bind (wpAny_newList ?_ (Nat.zero_le _))
 refine wpAny_holding ?_
 have keep:∀b o,b≠a->s.heap.get? b=some o->(((s.heap.update a (Obj.mapSeq fun _=>(#[]:Array Value))).push (seqObj "tuple" vs.toArray 0)).push (seqObj "list" #[] 0)).get? b=some o:=fun b o hb e=>
  Heap.get?_push_of_some _ (Heap.get?_push_of_some _ ((Heap.get?_update_other s.heap _ (Ne.symm hb)).trans e))
 have g3:(((s.heap.update a (Obj.mapSeq fun _=>(#[]:Array Value))).push (seqObj "tuple" vs.toArray 0)).push (seqObj "list" #[] 0)).get? a=some (seqObj "list" #[] e1):=Heap.get?_push_of_some _ (Heap.get?_push_of_some _ g1)
 show wpAny (model prog w) A _ P E {s with heap:=((s.heap.update a (Obj.mapSeq fun _=>(#[]:Array Value))).push (seqObj "tuple" vs.toArray 0)).push (seqObj "list" #[] 0)}
 generalize hH:(((s.heap.update a (Obj.mapSeq fun _=>(#[]:Array Value))).push (seqObj "tuple" vs.toArray 0)).push (seqObj "list" #[] 0))=H1 at*
 dsimp only;have fin:∀(st:SortSt) (p:List Nat),(arrOf st).map (·.2)=(ca vs p).toArray->failedOf st=none->p.Perm (List.range vs.length)->(∀i j,i<=j->j<vs.length->lt (p.getD j 0) (p.getD i 0)=false)->
   wpAny (model prog w) A (do
    let touched:=(<-seqEpoch a) != e1
    Builtin.List.listUpdate (.ref a) fun _=>(arrOf st).map (·.2)
    if let some e:=failedOf st then rule "list.sort.comparison-raised";throw e
    if touched then rule "list.sort.modified";raiseError "ValueError" "list modified during sort"
    ret .none) P E {s with heap:=H1}:=fun st p har hf hp hs=>by
  rw[har,hf];refine wpAny_bind (seqEpoch_at g3 rfl (wpAny_bind (listUpdate_at g3 rfl ?_ (Nat.zero_le _) ?_)))
  ·simp only[bne_self_eq_false,Bool.false_eq_true,if_false]
   obtain⟨c,g4⟩:∃c,(H1.update a (Obj.mapSeq fun _=>(ca vs p).toArray)).get? a=some (seqObj "list" (ca vs p).toArray c):=⟨_,get?_update_seq g3 fun _=>(ca vs p).toArray⟩
   exact wpAny_pure (h p hp hs _ c (fun b o hb e=>(Heap.get?_update_other H1 _ (Ne.symm hb)).trans (keep b o hb e)) g4)
  ·rw[List.size_toArray];unfold ca;rw[List.length_map,hp.length_eq,List.length_range];lia
 by_cases h2:vs.toArray.size<2
 ·rw[if_pos h2,if_pos h2]
  refine wpAny_bind (wpAny_pure ?_)
  rw[StateT.run_pure];refine wpAny_bind (wpAny_pure ?_)
  rw[List.size_toArray]at h2;refine fin (SortSt.mk' general' (vs.toArray.zip vs.toArray) #[] 7 none) (List.range vs.length) ?_ rfl (List.Perm.refl _) (fun i j hij hj=>?_)
  ·show(vs.toArray.zip vs.toArray).map (fun(x:Value×Value)=>x.2)=_
   clear fin hlt hk h ho keep hH g3 g1
   rcases vs with _|⟨v,_|⟨v',r⟩⟩
   ·simp[ca]
   ·simp[ca,List.range_succ]
   ·exact absurd h2 (by simp)
  ·have e1:i=0:=by lia
   have e2:j=0:=by lia
   rw[e1,e2];exact O.irr _
 ·rw[if_neg h2,if_neg h2]
  rw[List.size_toArray]at h2;have h2':2<=vs.length:=by lia
  refine wpAny_bind (wpAny_mono (hk h2' H1 keep _ ?_) (fun _ _ q=>q) fun _ _ x=>x.elim)
  obtain⟨so1,so2,so3⟩:=vO O h2';have run:=kat_run (prog:=prog) (w:=w) (A:=A) (E:=E) (s:={s with heap:=H1}) (κ:=κ) (vs:=vs) (ks:=vs) (Q:=fun st' s'=>s'={s with heap:=H1}/\(arrOf st').map (·.2)=(ca vs (bY lt (kas_sort vs.length)).toList).toArray/\failedOf st'=none)
   (G:=fun p s'=>s'={s with heap:=H1}/\p=bY lt (kas_sort vs.length)) rfl h2' h64 (fun p st' s' hp har hf hz=>by obtain⟨e1,e2⟩:=hz;exact⟨e1,by rw[kat_snds rfl har,e2];rfl,hf⟩)
   (um (fun i j C hi hj hC=>hlt H1 keep i j C hi hj hC) _ so1 ⟨rfl,rfl⟩)
  refine wpAny_bind (wpAny_mono run ?_ fun _ _ e=>e)
  rintro⟨⟨⟩,st'⟩ s' ⟨rfl,har,hf⟩
  refine fin st' _ har hf so2.pm (fun i j hij hj=>?_)
  have:=so3 i j hij hj;have g:∀(q:Array Nat) (m:Nat),q.toList.getD m 0=q.getD m 0:=fun q m=>by
   by_cases hm:m<q.size<;>simp[Array.getD,hm]
  rw[g,g];exact this
end
noncomputable def dB (lt:D->D->Option Bool):List D->List D->Option Bool
 |[],[]=>some false
 |[],_::_=>some true
 |_::_,[]=>some false
 |x::xs,y::ys=>if x=y then dB lt xs ys else lt x y
noncomputable def ltD:Nat->D->D->Option Bool
 |_,.int i,.int j=>some (decide (i<j))
 |_,.str x,.str y=>some (decide (x.cps.toList<y.cps.toList))
 |n+1,.tup xs,.tup ys=>dB (ltD n) xs ys
 |_,_,_=>none
theorem o8 {x y:Str}(h:x.cps.toList=y.cps.toList):x=y:=by
 obtain⟨a⟩:=x;obtain⟨b⟩:=y;simp only at h;rw[Array.toList_inj.mp h]
section
variable{lt:D->D->Option Bool}
theorem ou (h:∀x y z,lt x y=some true->lt y z=some true->lt x z=some true) (hi:∀x y,lt x y=some true->lt y x≠some true):∀xs ys zs,dB lt xs ys=some true->dB lt ys zs=some true->dB lt xs zs=some true
 |[],[],_,a,_=>by simp[dB]at a
 |[],_::_,[],_,b=>by simp[dB]at b
 |[],_::_,_::_,_,_=>by simp[dB]
 |_::_,[],_,a,_=>by simp[dB]at a
 |_::_,_::_,[],_,b=>by simp[dB]at b
 |x::xs,y::ys,z::zs,a,b=>by
  simp only[dB]at a b⊢
  by_cases e1:x=y
  ·subst e1
   rw[if_pos rfl]at a
   by_cases e2:x=z
   ·subst e2
    rw[if_pos rfl]at b⊢;exact ou h hi xs ys zs a b
   ·rw[if_neg e2]at b⊢;exact b
  ·rw[if_neg e1]at a
   by_cases e2:y=z
   ·subst e2
    rw[if_neg e1];exact a
   ·rw[if_neg e2]at b
    by_cases e3:x=z
    ·subst e3;exact absurd b (hi _ _ a)
    ·rw[if_neg e3];exact h _ _ _ a b
theorem rm (hi:∀x y,lt x y=some true->lt y x≠some true):∀xs ys,dB lt xs ys=some true->dB lt ys xs≠some true
 |[],[],a=>by simp[dB]at a
 |[],_::_,_=>by simp[dB]
 |_::_,[],a=>by simp[dB]at a
 |x::xs,y::ys,a=>by
  simp only[dB]at a⊢
  by_cases e1:x=y
  ·subst e1
   rw[if_pos rfl]at a⊢;exact rm hi xs ys a
  ·rw[if_neg e1]at a
   rw[if_neg (Ne.symm e1)];exact hi _ _ a
theorem lT (h:∀x y,lt x y=some false->x=y\/lt y x=some true):∀xs ys,dB lt xs ys=some false->xs=ys\/dB lt ys xs=some true
 |[],[],_=>.inl rfl
 |[],_::_,a=>by simp[dB]at a
 |_::_,[],_=>.inr (by simp[dB])
 |x::xs,y::ys,a=>by
  simp only[dB]at a⊢
  by_cases e1:x=y
  ·subst e1
   rw[if_pos rfl]at a⊢
   rcases lT h xs ys a with q|q
   ·exact .inl (by rw[q])
   ·exact .inr q
  ·rw[if_neg e1]at a
   rcases h x y a with q|q
   ·exact absurd q e1
   ·rw[if_neg (Ne.symm e1)];exact .inr q
end
theorem lZ:∀(n:Nat) (x y:D),ltD n x y=some true->ltD n y x≠some true:=by
 intro n
 induction n with
 |zero=>
  intro x y h;cases x<;>cases y<;>simp only[ltD,Option.some.injEq,decide_eq_true_eq,reduceCtorEq]at h<;>simp only[ltD,ne_eq,Option.some.injEq,decide_eq_true_eq]
  ·lia
  ·exact List.lt_asymm h
 |succ n ih=>
  intro x y h;cases x<;>cases y<;>simp only[ltD,Option.some.injEq,decide_eq_true_eq,reduceCtorEq]at h<;>simp only[ltD,ne_eq,Option.some.injEq,decide_eq_true_eq]
  ·lia
  ·exact List.lt_asymm h
  ·exact rm ih _ _ h
theorem xI:∀(n:Nat) (x y z:D),ltD n x y=some true->ltD n y z=some true->ltD n x z=some true:=by
 intro n
 induction n with
 |zero=>
  intro x y z h h';cases x<;>cases y<;>simp only[ltD,Option.some.injEq,decide_eq_true_eq,reduceCtorEq]at h<;>cases z<;>simp only[ltD,Option.some.injEq,decide_eq_true_eq,reduceCtorEq]at h'<;>simp only[ltD,Option.some.injEq,decide_eq_true_eq]
  ·lia
  ·exact List.lt_trans h h'
 |succ n ih=>
  intro x y z h h';cases x<;>cases y<;>simp only[ltD,Option.some.injEq,decide_eq_true_eq,reduceCtorEq]at h<;>cases z<;>simp only[ltD,Option.some.injEq,decide_eq_true_eq,reduceCtorEq]at h'<;>simp only[ltD,Option.some.injEq,decide_eq_true_eq]
  ·lia
  ·exact List.lt_trans h h'
  ·exact ou ih (lZ n) _ _ _ h h'
theorem lC:∀(n:Nat) (x y:D),ltD n x y=some false->x=y\/ltD n y x=some true:=by
 intro n
 induction n with
 |zero=>
  intro x y h;cases x<;>cases y<;>simp only[ltD,Option.some.injEq,decide_eq_false_iff_not,reduceCtorEq]at h<;>simp only[ltD,Option.some.injEq,decide_eq_true_eq,D.int.injEq,D.str.injEq]
  ·lia
  ·rename_i x y
   by_cases q:y.cps.toList<x.cps.toList
   ·exact .inr q
   ·exact .inl (o8 (List.le_antisymm (List.not_lt.mp q) (List.not_lt.mp h)))
 |succ n ih=>
  intro x y h;cases x<;>cases y<;>simp only[ltD,Option.some.injEq,decide_eq_false_iff_not,reduceCtorEq]at h<;>simp only[ltD,Option.some.injEq,decide_eq_true_eq,D.int.injEq,D.str.injEq,D.tup.injEq]
  ·lia
  ·rename_i x y
   by_cases q:y.cps.toList<x.cps.toList
   ·exact .inr q
   ·exact .inl (o8 (List.le_antisymm (List.not_lt.mp q) (List.not_lt.mp h)))
  ·exact lT ih _ _ h
noncomputable def LtAt (A:Around) (s:Shared) (y x:Value) (b:Bool):Prop:=
 ∀(prog:Program) (w:World) (E:Value->Shared->Prop) (Q:Value->Shared->Prop),Q (.bool b) s->wpAny (model prog w) A (richCompare .Lt y x) Q E s
inductive LexAt (A:Around) (s:Shared):List Value->List Value->Bool->Prop
 |none:LexAt A s [] [] false
 |less {w:Value}{ws:List Value}:LexAt A s [] (w::ws) true
 |more {v:Value}{vs:List Value}:LexAt A s (v::vs) [] false
 |eq {v w:Value}{vs ws:List Value}{b:Bool}:SeqAt.EqAt A s v w true->LexAt A s vs ws b->LexAt A s (v::vs) (w::ws) b
 |ne {v w:Value}{vs ws:List Value}{b:Bool}:SeqAt.EqAt A s v w false->LtAt A s v w b->LexAt A s (v::vs) (w::ws) b
section
open PySem.SeqAt
open PySem.AutoSeq1 (wpAny_loadPart')
open PySem.MeetsSeq PySem.MeetsSeq2 PySem.MeetsSeq3
theorem rg (l b:Addr) (items items2:Array Value) (n n2:Nat) (dd dd2:Option Addr) (sl sl2:Array (Option Value)) (r:Bool):
  Meets (Builtin.«tuple.__lt__» ⟨[.ref l,.ref b],[]⟩)
   (fun A R s=>s.heap.get? l=some {cls:=.type "tuple",dict:=dd,data:=.seq items n,slots:=sl}/\s.heap.get? b=some {cls:=.type "tuple",dict:=dd2,data:=.seq items2 n2,slots:=sl2}/\
    LexAt A.in1 s items.toList items2.toList r/\R (.ok (.ret (.bool r))) s):=
 .of_wp fun prog w A R s h=>by
  obtain⟨hp,g,d,tk,os⟩:=s;obtain⟨hl,hb,hx,h⟩:=h;have f2:=AutoSeq1.sub_tuple_tuple
  wp_walk using wpAny_loadPart' hl,wpAny_loadPart' hb,wpAny_forIn_list _ (fun bC b s'=>b.1=none/\s'=⟨hp,g,d,tk,os⟩/\∃(vs ws:List Value),bC=vs.zip ws/\
   LexAt A.in1 ⟨hp,g,d,tk,os⟩ vs ws r/\vs.length+items2.size=ws.length+items.size) _
  case turn=>
   rintro⟨y,x⟩ bC b s' ⟨hb',rfl,vs,ws,hz,hlex,hlen⟩
   cases hlex with
   |none=>rw[List.zip_nil_left]at hz;contradiction
   |less=>rw[List.zip_nil_left]at hz;contradiction
   |more=>rw[List.zip_nil_right]at hz;contradiction
   |eq he ht=>
    rw[List.zip_cons_cons]at hz;injection hz with hyx hrest
    injection hyx with hy hx'
    subst hy hx';simp only[List.length_cons]at hlen;refine wpAny_bind (he prog w _ _ ?_)
    wp_walk
    exact⟨rfl,rfl,_,_,hrest,ht,by lia⟩
   |ne he hlt=>
    rw[List.zip_cons_cons]at hz;injection hz with hyx hrest
    injection hyx with hy hx'
    subst hy hx';refine wpAny_bind (he prog w _ _ ?_)
    have hri:=hlt prog w
    wp_walk using hri
    exact⟨_,rfl,by simpa using h⟩
  case fin=>
   rintro⟨b1,b2⟩ s' ⟨hb',rfl,vs,ws,hz,hlex,hlen⟩
   simp only at hb';subst hb';have hv:r=decide (items.size<items2.size):=by
    cases hlex with
    |none=>simp only[List.length_nil]at hlen;exact(decide_eq_false (by lia)).symm
    |less=>simp only[List.length_nil,List.length_cons]at hlen;exact(decide_eq_true (by lia)).symm
    |more=>simp only[List.length_nil,List.length_cons]at hlen;exact(decide_eq_false (by lia)).symm
    |eq _ _=>rw[List.zip_cons_cons]at hz;contradiction
    |ne _ _=>rw[List.zip_cons_cons]at hz;contradiction
   rw[hv]at h
   wp_walk
   exact⟨_,rfl,by simpa[Builtin.Tuple.tupleCompareSizes]using h⟩
  case h=>exact⟨rfl,rfl,items.toList,items2.toList,rfl,hx,by simp only[Array.length_toList];lia⟩
end
theorem LtAt.tuples {A:Around}{s:Shared}{l b:Addr}{items items2:Array Value}{r:Bool}(hl:s.heap.IsTuple l items) (hb:s.heap.IsTuple b items2) (hu:A.units<cLine) (hx:LexAt A.in1 s items.toList items2.toList r):LtAt A s (.ref l) (.ref b) r:=fun prog w E Q h=>by
 obtain⟨⟨cls,dd,data,sl⟩,ho,hc,n,hd⟩:=id hl;obtain⟨⟨cls2,dd2,data2,sl2⟩,ho2,hc2,n2,hd2⟩:=id hb;simp only at hc hd hc2 hd2;subst hc hd hc2 hd2;exact richCompare_meets_room (op:=.Lt) ⟨_,ho,rfl⟩ ⟨_,ho2,rfl⟩ PySem.F.slot_tuple_lt PySem.F.entry_tuple_lt (PySem.F.args_tuple_lt_2 _ _) (rg l b items items2 n n2 dd dd2 sl sl2 r)
  ⟨ho,ho2,hx,show Value.bool r≠Value.notImplemented/\Q (.bool r) s from⟨(fun x=>nomatch x),h⟩⟩ hu
section
variable{X:Cx}{pins:List (Addr×Obj)}{σ:St}{H:Hp}{s:Shared}{B B':Addr->Prop}
theorem rN (I:Inv X pins σ H s) {n:Nat}{A:Around}(hA:A.units+n+1<cLine)
  (ih:∀(d e:D) (x y:V) (u w:Value) (r:Bool),okD n d=true->okD n e=true->Rep X.K B H d x->Rep X.K B' H e y->RelV x u->RelV y w->ltD n d e=some r->LtAt A s u w r):
  ∀(ds es:List D) (xs ys:List V) (us ws:List Value) (r:Bool),ds.all (okD n)=true->es.all (okD n)=true->Reps X.K B H ds xs->Reps X.K B' H es ys->Vals xs us->Vals ys ws->dB (ltD n) ds es=some r->LexAt A s us ws r
 |[],[],xs,ys,us,ws,r,hd,he,r1,r2,v1,v2,h=>by
  simp only[Reps]at r1 r2;subst r1 r2;cases v1;cases v2;simp only[dB,Option.some.injEq]at h;subst h;exact .none
 |[],e::es,xs,ys,us,ws,r,hd,he,r1,r2,v1,v2,h=>by
  simp only[Reps]at r1 r2;subst r1;obtain⟨y,t,rfl,_,_⟩:=r2;cases v1;cases v2;simp only[dB,Option.some.injEq]at h;subst h;exact .less
 |d::ds,[],xs,ys,us,ws,r,hd,he,r1,r2,v1,v2,h=>by
  simp only[Reps]at r1 r2;subst r2;obtain⟨y,t,rfl,_,_⟩:=r1;cases v1;cases v2;simp only[dB,Option.some.injEq]at h;subst h;exact .more
 |d::ds,e::es,xs,ys,us,ws,r,hd,he,r1,r2,v1,v2,h=>by
  simp only[Reps]at r1 r2;obtain⟨x,xt,rfl,r1a,r1b⟩:=r1;obtain⟨y,yt,rfl,r2a,r2b⟩:=r2;cases v1 with
  |cons va vb=>
   cases v2 with
   |cons wa wb=>
    rw[List.all_cons,Bool.and_eq_true]at hd he;have q:=(zJ I n d e x y _ _ A hd.1 he.1 hA r1a r2a va wa).2.1;simp only[dB]at h
    by_cases c:d=e
    ·rw[if_pos c]at h
     rw[decide_eq_true c]at q;exact .eq q (rN I hA ih ds es xt yt _ _ r hd.2 he.2 r1b r2b vb wb h)
    ·rw[if_neg c]at h
     rw[decide_eq_false c]at q;exact .ne q (ih d e x y _ _ r hd.1 he.1 r1a r2a va wa h)
theorem Bg (I:Inv X pins σ H s):∀(n:Nat) (d e:D) (x y:V) (u w:Value) (r:Bool) (A:Around),okD n d=true->okD n e=true->A.units+n+1<cLine->Rep X.K B H d x->Rep X.K B' H e y->RelV x u->RelV y w->ltD n d e=some r->LtAt A s u w r:=by
 intro n;have flat:∀(d e:D) (x y:V) (u w:Value) (r:Bool) (A:Around),Rep X.K B H d x->Rep X.K B' H e y->RelV x u->RelV y w->ltD 0 d e=some r->LtAt A s u w r:=fun d e x y u w r A rd re rx ry h=>by
  cases d with
  |int i=>
   cases e with
   |int j=>
    simp only[Rep]at rd re;subst rd re;obtain⟨t,rfl⟩:=rx;obtain⟨t',rfl⟩:=ry;simp only[ltD,Option.some.injEq]at h;subst h;exact fun prog w E Q hq=>HT.rcLt_int A s i t j t' prog w E Q hq
   |_=>simp[ltD]at h
  |str i=>
   cases e with
   |str j=>
    simp only[Rep]at rd re;subst rd re;obtain⟨t,rfl⟩:=rx;obtain⟨t',rfl⟩:=ry;simp only[ltD,Option.some.injEq]at h;subst h;exact fun prog w E Q hq=>(lt_str hq:wpAny (model prog w) A (compareOp .Lt (.str i t) (.str j t')) Q E s)
   |_=>simp[ltD]at h
  |_=>simp[ltD]at h
 induction n with
 |zero=>exact fun d e x y u w r A _ _ _ rd re rx ry h=>flat d e x y u w r A rd re rx ry h
 |succ n ih=>
  intro d e x y u w r A hd he hA rd re rx ry h;cases d with
  |tup ds=>
   cases e with
   |tup es=>
    simp only[Rep]at rd re;obtain⟨a,xs,rfl,hq,r1⟩:=rd;obtain⟨b,ys,rfl,hq',r2⟩:=re;cases rx;cases ry;obtain⟨its,v1,t1,_⟩:=I.tuple (SqT.of hq);obtain⟨its2,v2,t2,_⟩:=I.tuple (SqT.of hq');simp only[okD]at hd he;simp only[ltD]at h;have hA':A.in1.units+n+1<cLine:=by show A.units+1+n+1<cLine;lia
    exact LtAt.tuples t1 t2 (by lia) (by simpa using rN I hA' (fun d e x y u w r o1 o2 r1 r2 v1 v2 hl=>ih d e x y u w r A.in1 o1 o2 hA' r1 r2 v1 v2 hl) ds es xs ys its its2 r hd he r1 r2 v1 v2 h)
   |_=>simp[ltD]at h
  |int i=>cases e<;>first|(simp[ltD]at h;done)|exact flat _ _ x y u w r A rd re rx ry (by simpa only[ltD]using h)
  |str i=>cases e<;>first|(simp[ltD]at h;done)|exact flat _ _ x y u w r A rd re rx ry (by simpa only[ltD]using h)
  |_=>simp[ltD]at h
end
noncomputable def leD (x y:D):Prop:=ltD 15 y x≠some true
noncomputable def ub (x:D):List D->List D
 |[]=>[x]
 |y::ys=>if ltD 15 y x=some true then y::ub x ys else x::y::ys
noncomputable def cH (ds:List D):List D:=ds.foldr ub []
noncomputable def gp (ds:List D):Bool:=ds.all fun x=>okD 15 x&&ds.all fun y=>(ltD 15 x y).isSome
theorem iE {ds:List D}(h:gp ds=true) {x y:D}(hx:x∈ds) (hy:y∈ds):∃b,ltD 15 x y=some b:=by
 unfold gp at h;have h1:=List.all_eq_true.mp h x hx;rw[Bool.and_eq_true]at h1;exact Option.isSome_iff_exists.mp (List.all_eq_true.mp h1.2 y hy)
theorem pM {ds:List D}(h:gp ds=true) {x:D}(hx:x∈ds):okD 15 x=true:=by
 unfold gp at h;have h1:=List.all_eq_true.mp h x hx;rw[Bool.and_eq_true]at h1;exact h1.1
theorem fq (x:D):∀l:List D,(ub x l).Perm (x::l)
 |[]=>List.Perm.refl _
 |y::ys=>by
  unfold ub;split
  ·exact((fq x ys).cons y).trans (List.Perm.swap x y ys)
  ·exact List.Perm.refl _
theorem cr:∀ds:List D,(cH ds).Perm ds
 |[]=>List.Perm.refl _
 |d::ds=>by
  show(ub d (cH ds)).Perm (d::ds);exact(fq d _).trans ((cr ds).cons d)
theorem uP {x y z:D}{ds:List D}(h:gp ds=true) (hx:x∈ds) (hy:y∈ds) (hz:z∈ds) (a:leD x y) (b:leD y z):leD x z:=by
 unfold leD at*;intro c;obtain⟨r1,e1⟩:=iE h hy hx;obtain⟨r2,e2⟩:=iE h hz hy;cases r1 with
 |true=>exact a e1
 |false=>
  cases r2 with
  |true=>exact b e2
  |false=>
   rcases lC 15 _ _ e1 with q1|q1
   ·subst q1;exact b c
   ·rcases lC 15 _ _ e2 with q2|q2
    ·subst q2;exact a c
    ·exact lZ 15 _ _ (xI 15 _ _ _ q1 q2) c
theorem xU {x y:D}{ds:List D}(h:gp ds=true) (hx:x∈ds) (hy:y∈ds) (a:leD x y) (b:leD y x):x=y:=by
 unfold leD at*;obtain⟨r1,e1⟩:=iE h hx hy;cases r1 with
 |true=>exact absurd e1 b
 |false=>
  rcases lC 15 _ _ e1 with q|q
  ·exact q
  ·exact absurd q a
theorem fg {x:D}{ds:List D}(h:gp ds=true) (hx:x∈ds):∀l:List D,(∀y∈l,y∈ds)->l.Pairwise leD->(ub x l).Pairwise leD
 |[],_,_=>by simp[ub]
 |y::ys,hm,hp=>by
  unfold ub;obtain⟨h1,h2⟩:=List.pairwise_cons.mp hp;have hy:=hm y List.mem_cons_self;split
  ·rename_i c
   refine List.pairwise_cons.mpr ⟨fun z hz=>?_,fg h hx ys (fun z hz=>hm z (List.mem_cons_of_mem _ hz)) h2⟩
   rcases List.mem_cons.mp ((fq x ys).mem_iff.mp hz)with q|q
   ·subst q;exact lZ 15 _ _ c
   ·exact h1 z q
  ·rename_i c
   refine List.pairwise_cons.mpr ⟨fun z hz=>?_,hp⟩
   rcases List.mem_cons.mp hz with q|q
   ·subst q;exact c
   ·exact uP h hx hy (hm z hz) c (h1 z q)
theorem cP {ds:List D}(h:gp ds=true):(cH ds).Pairwise leD:=by
 have key:∀l:List D,(∀y∈l,y∈ds)->(cH l).Pairwise leD:=by
  intro l
  induction l with
  |nil=>intro _;exact List.Pairwise.nil
  |cons y l ih=>
   intro hm;exact fg h (hm y List.mem_cons_self) _ (fun z hz=>hm z (List.mem_cons_of_mem _ ((cr l).mem_iff.mp hz))) (ih fun z hz=>hm z (List.mem_cons_of_mem _ hz))
 exact key ds fun _ h=>h
theorem eo {ds:List D}(h:gp ds=true):∀(l1 l2:List D),(∀y∈l1,y∈ds)->l1.Perm l2->l1.Pairwise leD->l2.Pairwise leD->l1=l2
 |[],l2,_,hp,_,_=>(List.nil_perm.mp hp).symm
 |a::l1,[],_,hp,_,_=>(List.perm_nil.mp hp)
 |a::l1,b::l2,hm,hp,h1,h2=>by
  obtain⟨p1,q1⟩:=List.pairwise_cons.mp h1;obtain⟨p2,q2⟩:=List.pairwise_cons.mp h2;have hm2:∀y∈b::l2,y∈ds:=fun y hy=>hm y (hp.mem_iff.mpr hy)
  have ab:a=b:=by
   have ha:a∈b::l2:=hp.mem_iff.mp List.mem_cons_self;have hb:b∈a::l1:=hp.mem_iff.mpr List.mem_cons_self
   rcases List.mem_cons.mp ha with z|z
   ·exact z
   ·rcases List.mem_cons.mp hb with y|y
    ·exact y.symm
    ·exact xU h (hm a List.mem_cons_self) (hm2 b List.mem_cons_self) (p1 b y) (p2 a z)
  subst ab;rw[eo h l1 l2 (fun y hy=>hm y (List.mem_cons_of_mem _ hy)) (List.perm_cons a |>.mp hp) q1 q2]
inductive KD|st|it|ts|tt
noncomputable def eW:KD->D->Bool
 |.st,.str _=>true
 |.it,.int _=>true
 |.ts,.tup (.str _::_)=>true
 |.tt,.tup (.tup _::_)=>true
 |_,_=>false
theorem kR {d:D}(h:eW .ts d=true):∃x ds,d=.tup (.str x::ds):=by
 unfold eW at h;split at h
 ·contradiction
 ·contradiction
 ·exact⟨_,_,rfl⟩
 ·contradiction
 ·contradiction
theorem lB {d:D}(h:eW .tt d=true):∃x ds,d=.tup (.tup x::ds):=by
 unfold eW at h;split at h
 ·contradiction
 ·contradiction
 ·contradiction
 ·exact⟨_,_,rfl⟩
 ·contradiction
noncomputable def wM:KD->SortKind
 |.st=>oneType'
 |.it=>oneType'
 |.ts=>tuples' true
 |.tt=>tuples' false
section
variable{prog:Program}{w:World}{A:Around}{E:Value->Shared->Prop}{s:Shared}
theorem gS {b:Bool}{Q:Bool->Shared->Prop}{fin:Bool}{r:Bool}:∀{vs ws:List Value}{i:Nat},LexAt A s vs ws r->(b=false\/1<=i)->(fin=decide (vs.length<ws.length))->Q r s->KatLex prog w A b fin Q (vs.zip ws) i s:=by
 intro vs ws i h
 induction h generalizing i with
 |none=>
  intro hb hf q;subst hf;exact kat_nil (by simpa using q)
 |less=>
  intro hb hf q;rw[List.zip_nil_left];subst hf;exact kat_nil (by simpa using q)
 |more=>
  intro hb hf q;rw[List.zip_nil_right];subst hf;exact kat_nil (by simpa using q)
 |eq he ht ih=>
  intro hb hf q;rw[List.zip_cons_cons];refine kat_cons (he prog w _ _ (kat_yes ?_))
  exact ih (.inr (by lia)) (by rw[hf];simp) q
 |ne he hl=>
  intro hb hf q;rw[List.zip_cons_cons];refine kat_cons (he prog w _ _ (kat_no ?_))
  have hz:(b&&i==0)=false:=by
   rcases hb with z|z
   ·rw[z,Bool.false_and]
   ·have:(i==0)=false:=by simp;lia
    rw[this,Bool.and_false]
  rw[hz];exact kat_one _ _ (hl prog w _ _ q)
end
section
variable{X:Cx}{pins:List (Addr×Obj)}{σ:St}{H:Hp}{s:Shared}{B B':Addr->Prop}
theorem y0 (I:Inv X pins σ H s) {A:Around}(hA:A.units+20<cLine) {c:KD}{d e:D}{x y:V}{u w':Value}{r:Bool}(hd:okD 15 d=true) (he:okD 15 e=true) (kd:eW c d=true) (ke:eW c e=true) (rd:Rep X.K B H d x) (re:Rep X.K B' H e y) (rx:RelV x u) (ry:RelV y w')
  (h:ltD 15 d e=some r) {C:Bool->Shared->Prop}(q:C r s):wpAny (model X.prog X.w) A (keyLt' (wM c) u w') C (fun _ _=>False) s:=by
 cases c with
 |st=>
  cases d<;>simp only[eW,Bool.false_eq_true]at kd
  cases e<;>simp only[eW,Bool.false_eq_true]at ke
  simp only[Rep]at rd re;subst rd re;obtain⟨t,rfl⟩:=rx;obtain⟨t',rfl⟩:=ry;simp only[ltD,Option.some.injEq]at h;subst h;show wpAny _ _ (keyLt' oneType' _ _) _ _ _;rw[keyLt'_oneType];exact oneLt_str q
 |it=>
  cases d<;>simp only[eW,Bool.false_eq_true]at kd
  cases e<;>simp only[eW,Bool.false_eq_true]at ke
  simp only[Rep]at rd re;subst rd re;obtain⟨t,rfl⟩:=rx;obtain⟨t',rfl⟩:=ry;simp only[ltD,Option.some.injEq]at h;subst h;show wpAny _ _ (keyLt' oneType' _ _) _ _ _;rw[keyLt'_oneType];exact oneLt_int q
 |ts=>
  obtain⟨i,ds,rfl⟩:=kR kd;obtain⟨j,es,rfl⟩:=kR ke;simp only[Rep]at rd re;obtain⟨a,xs,rfl,hq,r1⟩:=rd;obtain⟨b,ys,rfl,hq',r2⟩:=re;cases rx;cases ry;obtain⟨its,v1,⟨o1,g1,c1,n1,d1⟩,_⟩:=I.tuple (SqT.of hq);obtain⟨its2,v2,⟨o2,g2,c2,n2,d2⟩,_⟩:=I.tuple (SqT.of hq');refine kat_lt g1 d1 g2 d2 ?_
  simp only[Reps]at r1 r2;obtain⟨x,xt,rfl,r1a,r1b⟩:=r1;obtain⟨y,yt,rfl,r2a,r2b⟩:=r2;simp only[Rep]at r1a r2a;subst r1a r2a;simp only[okD,List.all_cons,Bool.and_eq_true]at hd he;simp only[ltD,dB,D.str.injEq]at h;cases v1 with
  |cons va vb=>
   cases v2 with
   |cons wa wb=>
    obtain⟨t,rfl⟩:=va;obtain⟨t',rfl⟩:=wa;show KatLex _ _ _ _ _ _ ((Value.str i t::_).zip (Value.str j t'::_)) 0 s;rw[List.zip_cons_cons]
    by_cases cij:i=j
    ·subst cij
     rw[if_pos rfl]at h;have q1:=SeqAt.EqAt.str_str (A:=A) (s:=s) i t i t';rw[beq_self_eq_true]at q1;refine kat_cons (q1 _ _ _ _ (kat_yes ?_))
     have lx:=rN (B:=B) (B':=B') I (n:=14) (A:=A) (by lia) (fun d e x y u w r o1 o2 r1 r2 v1 v2 hl=>Bg I 14 d e x y u w r A o1 o2 (by lia) r1 r2 v1 v2 hl) ds es xt yt _ _ r
      hd.2 he.2 r1b r2b vb wb h
     exact gS lx (.inr (Nat.le_refl _)) (by simp) q
    ·rw[if_neg cij]at h
     have q1:=SeqAt.EqAt.str_str (A:=A) (s:=s) i t j t';have eb:(i==j)=false:=by simpa using cij
     rw[eb]at q1;refine kat_cons (q1 _ _ _ _ (kat_no ?_))
     simp only[Option.some.injEq]at h;subst h;exact oneLt_str q
 |tt=>
  obtain⟨i,ds,rfl⟩:=lB kd;obtain⟨j,es,rfl⟩:=lB ke;have rd':=rd;have re':=re;simp only[Rep]at rd re;obtain⟨a,xs,rfl,hq,r1⟩:=rd;obtain⟨b,ys,rfl,hq',r2⟩:=re;cases rx;cases ry;obtain⟨its,v1,⟨o1,g1,c1,n1,d1⟩,_⟩:=I.tuple (SqT.of hq);obtain⟨its2,v2,⟨o2,g2,c2,n2,d2⟩,_⟩:=I.tuple (SqT.of hq');refine kat_lt g1 d1 g2 d2 ?_
  have hd':(D.tup i::ds).all (okD 14)=true:=by simpa only[okD]using hd
  have he':(D.tup j::es).all (okD 14)=true:=by simpa only[okD]using he
  simp only[ltD]at h;have lx:=rN (B:=B) (B':=B') I (n:=14) (A:=A) (by lia) (fun d e x y u w r o1 o2 r1 r2 v1 v2 hl=>Bg I 14 d e x y u w r A o1 o2 (by lia) r1 r2 v1 v2 hl) _ _ xs ys _ _ r hd' he' (by simpa only[Reps]using r1) (by simpa only[Reps]using r2) v1 v2 h
  exact gS lx (.inl rfl) (by simp) q
theorem sF (I:Inv X pins σ H s) {A:Around}{c:KD}{ds:List D}{xs:List V}{us:List Value}(h2:2<=us.length) (hk:ds.all (eW c)=true) (r:Reps X.K B H ds xs) (v:Vals xs us) {Q:SortKind->Shared->Prop}(q:Q (wM c) s):
  wpAny (model X.prog X.w) A (keyKind' us.toArray) Q (fun _ _=>False) s:=by
 have each:∀u∈us,∃d x,eW c d=true/\Rep X.K B H d x/\RelV x u:=fun u hu=>by
  obtain⟨j,hj⟩:=List.getElem?_of_mem hu
  have hl:=v.length;have hlt:j<xs.length:=by rw[hl];exact(List.getElem?_eq_some_iff.mp hj).1
  obtain⟨u',hu',ru⟩:=v.get (i:=j) (x:=xs[j]) (by simp[hlt])
  rw[hj]at hu';obtain rfl:=Option.some.inj hu';obtain⟨d,hd,rd⟩:=r.get' (i:=j) (x:=xs[j]) (by simp[hlt])
  exact⟨d,xs[j],List.all_eq_true.mp hk d (List.mem_of_getElem? hd),rd,ru⟩
 cases c with
 |st=>
  refine kas_kind (T:=.type "str") h2 (fun u hu=>?_) (by decide) (by decide) q
  obtain⟨d,x,k1,rd,ru⟩:=each u hu;cases d<;>simp only[eW,Bool.false_eq_true]at k1
  simp only[Rep]at rd;subst rd;obtain⟨t,rfl⟩:=ru;exact .now
 |it=>
  refine kas_kind (T:=.type "int") h2 (fun u hu=>?_) (by decide) (by decide) q
  obtain⟨d,x,k1,rd,ru⟩:=each u hu;cases d<;>simp only[eW,Bool.false_eq_true]at k1
  simp only[Rep]at rd;subst rd;obtain⟨t,rfl⟩:=ru;exact .now
 |ts=>
  have mk:∀(ds:List D) (xs:List V) (us:List Value),ds.all (eW .ts)=true->Reps X.K B H ds xs->Vals xs us->∃fs,KatTups s.heap us fs/\fs.length=us.length/\∀f∈fs,∃z t,f=.str z t:=by
   intro ds
   induction ds with
   |nil=>intro xs us _ r v;simp only[Reps]at r;subst r;cases v;exact⟨[],.nil,rfl,fun _ h=>by cases h⟩
   |cons d ds ih=>
    intro xs us hk r v;simp only[Reps]at r;obtain⟨x,xt,rfl,ra,rb⟩:=r;cases v with
    |cons va vb=>
     rw[List.all_cons,Bool.and_eq_true]at hk;obtain⟨fs,f1,f2,f3⟩:=ih xt _ hk.2 rb vb;obtain⟨z,es,rfl⟩:=kR hk.1;simp only[Rep]at ra;obtain⟨a,ys,rfl,hq,rs⟩:=ra;cases va;obtain⟨its,v1,⟨o1,g1,c1,n1,d1⟩,_⟩:=I.tuple (SqT.of hq);simp only[Reps]at rs;obtain⟨y,yt,rfl,ry,_⟩:=rs;simp only[Rep]at ry;subst ry;cases v1 with
     |cons w1 w2=>
      obtain⟨t,rfl⟩:=w1;exact⟨.str z t::fs,.cons g1 c1 d1 (by simp) f1,by simp[f2],fun f hf=>by
       rcases List.mem_cons.mp hf with q|q
       ·exact⟨z,t,q⟩
       ·exact f3 f q⟩
  obtain⟨fs,f1,f2,f3⟩:=mk ds xs us hk r v;refine kat_kind (T:=.type "str") f1 (by lia) (fun f hf=>?_) (by decide) q
  obtain⟨z,t,rfl⟩:=f3 f hf;exact .now
 |tt=>
  have mk:∀(ds:List D) (xs:List V) (us:List Value),ds.all (eW .tt)=true->Reps X.K B H ds xs->Vals xs us->∃fs,KatTups s.heap us fs/\fs.length=us.length/\∀f∈fs,∃b o,f=.ref b/\s.heap.get? b=some o/\o.cls=.type "tuple":=by
   intro ds
   induction ds with
   |nil=>intro xs us _ r v;simp only[Reps]at r;subst r;cases v;exact⟨[],.nil,rfl,fun _ h=>by cases h⟩
   |cons d ds ih=>
    intro xs us hk r v;simp only[Reps]at r;obtain⟨x,xt,rfl,ra,rb⟩:=r;cases v with
    |cons va vb=>
     rw[List.all_cons,Bool.and_eq_true]at hk;obtain⟨fs,f1,f2,f3⟩:=ih xt _ hk.2 rb vb;obtain⟨z,es,rfl⟩:=lB hk.1;simp only[Rep]at ra;obtain⟨a,ys,rfl,hq,rs⟩:=ra;cases va;obtain⟨its,v1,⟨o1,g1,c1,n1,d1⟩,_⟩:=I.tuple (SqT.of hq);simp only[Reps]at rs;obtain⟨y,yt,rfl,ry,_⟩:=rs;simp only[Rep]at ry;obtain⟨b,zs,rfl,hqb,_⟩:=ry;cases v1 with
     |cons w1 w2=>
      cases w1;obtain⟨_,_,⟨o2,g2,c2,_⟩,_⟩:=I.tuple (SqT.of hqb);exact⟨.ref b::fs,.cons g1 c1 d1 (by simp) f1,by simp[f2],fun f hf=>by
       rcases List.mem_cons.mp hf with q|q
       ·exact⟨b,o2,q,g2,c2⟩
       ·exact f3 f q⟩
  obtain⟨fs,f1,f2,f3⟩:=mk ds xs us hk r v;refine kat_kind (T:=.type "tuple") f1 (by lia) (fun f hf=>?_) (by decide) q
  obtain⟨b,o,rfl,g,hc⟩:=f3 f hf;rw[<-hc];exact(Looks.ld g).andThen .now
end
theorem fL {α:Type}(l:List α) (d:α) {i:Nat}(h:i<l.length):l.getD i d=l[i]:=by simp[h]
theorem vQ {α:Type}(l:List α) (d:α) {i:Nat}(h:l.length<=i):l.getD i d=d:=by simp[h]
noncomputable def atG (ds:List D) (i:Nat):D:=ds.getD i (ds.headD .non)
theorem lj {ds:List D}(h:ds≠[]) (i:Nat):atG ds i∈ds:=by
 unfold atG;cases ds with
 |nil=>exact absurd rfl h
 |cons d ds=>
  by_cases hi:i<(d::ds).length
  ·rw[fL _ _ hi];exact List.getElem_mem hi
  ·rw[vQ _ _ (by lia)];exact List.mem_cons_self
theorem zY {ds:List D}(h:gp ds=true):Ord (fun i j=>decide (ltD 15 (atG ds i) (atG ds j)=some true)):=by
 by_cases hn:ds=[]
 ·subst hn
  have e:∀i,atG [] i=.non:=fun i=>rfl
  exact⟨fun i j q=>by simp only[e,ltD]at q;simp at q,fun i j k _ _=>by simp[e,ltD]⟩
 ·refine⟨fun i j q=>decide_eq_false (lZ 15 _ _ (of_decide_eq_true q)),fun i j k a b=>decide_eq_false ?_⟩
  exact uP h (lj hn i) (lj hn j) (lj hn k) (of_decide_eq_false a) (of_decide_eq_false b)
theorem Reps.getP {K:PySem.W.Frag}{B:Addr->Prop}{H:Hp}{ds:List D}{xs:List V}(r:Reps K B H ds xs):∀p:List Nat,(∀i∈p,i<ds.length)->Reps K B H (p.map fun i=>ds.getD i .non) (p.map fun i=>xs.getD i .non)
 |[],_=>Reps.nil
 |i::p,h=>by
  have hi:=h i List.mem_cons_self;obtain⟨x,hx,rx⟩:=r.get (i:=i) (d:=ds[i]) (by simp[hi])
  refine Reps.cons ?_ (Reps.getP r p fun j hj=>h j (List.mem_cons_of_mem _ hj))
  have e1:ds.getD i .non=ds[i]:=by simp[hi]
  have e2:xs.getD i .non=x:=by rw[List.getD_eq_getElem?_getD,hx];rfl
  show Rep K B H (ds.getD i .non) (xs.getD i .non);rw[e1,e2];exact rx
theorem Vals.getP {xs:List V}{us:List Value}(r:Vals xs us):∀p:List Nat,(∀i∈p,i<xs.length)->Vals (p.map fun i=>xs.getD i .non) (ca us p)
 |[],_=>.nil
 |i::p,h=>by
  have hi:=h i List.mem_cons_self;obtain⟨u,hu,ru⟩:=r.get (i:=i) (x:=xs[i]) (by simp[hi])
  refine .cons ?_ (Vals.getP r p fun j hj=>h j (List.mem_cons_of_mem _ hj))
  have e1:xs.getD i .non=xs[i]:=by simp[hi]
  have e2:us.getD i Value.none=u:=by rw[List.getD_eq_getElem?_getD,hu];rfl
  show RelV (xs.getD i .non) (us.getD i Value.none);rw[e1,e2];exact ru
theorem gy (ds:List D):(List.range ds.length).map (fun i=>ds.getD i .non)=ds:=by
 apply List.ext_getElem?;intro i;rw[List.getElem?_map]
 by_cases hi:i<ds.length
 ·simp[hi]
 ·rw[List.getElem?_eq_none (by simpa using hi),List.getElem?_eq_none (by lia)];rfl
theorem qV {ds:List D}(h:gp ds=true) {p:List Nat}(hp:p.Perm (List.range ds.length)) (hs:∀i j,i<=j->j<ds.length->decide (ltD 15 (atG ds (p.getD j 0)) (atG ds (p.getD i 0))=some true)=false):
  (p.map fun i=>ds.getD i .non)=cH ds:=by
 have pl:p.length=ds.length:=by rw[hp.length_eq,List.length_range]
 have hpl:∀i∈p,i<ds.length:=fun i hi=>List.mem_range.mp (hp.mem_iff.mp hi)
 have perm:(p.map fun i=>ds.getD i .non).Perm ds:=by
  have:=hp.map (fun i=>ds.getD i D.non)
  rw[gy]at this;exact this
 refine eo h _ _ (fun y hy=>perm.mem_iff.mp hy) (perm.trans (cr ds).symm) ?_ (cP h)
 rw[List.pairwise_iff_getElem];intro i j hi hj hij;rw[List.length_map]at hi hj;rw[List.getElem_map,List.getElem_map];have q:=of_decide_eq_false (hs i j (Nat.le_of_lt hij) (by lia))
 have e:∀k (hk:k<p.length),atG ds (p.getD k 0)=ds.getD p[k] .non:=fun k hk=>by
  have:p.getD k 0=p[k]:=by simp[hk]
  rw[this];unfold atG;have hl:=hpl p[k] (List.getElem_mem hk);rw[fL _ _ hl,fL _ _ hl]
 rw[e j hj,e i hi]at q;exact q
section
variable{X:Cx}{m m' mm:Bool}{a b:Expr}{fa fb:DEnv->Option D}{pos p:Pos}
theorem fm {pins:List (Addr×Obj)}{σ:St}{H:Hp}{s:Shared}{B:Addr->Prop}{c:KD}{ds:List D}{ys:List V}{us:List Value}{Q:VK}{h1:Heap}{t1:Nat}(hu:X.A.units+64<cLine) (I:Inv X pins σ H s) (k1:∀b o,s.heap.get? b=some o->h1.get? b=some o) (hsz:s.heap.objs.size<=h1.objs.size)
  (r:Reps X.K B H ds ys) (v:Vals ys us) (h64:ds.length<64) (hc:gp ds=true) (hk:ds.all (eW c)=true)
  (q:∀l zs,H l=none->Reps X.K B H (cH ds) zs->Q (.ref l) (upd H l (.lst zs))):
  wpAny (model X.prog X.w) X.A.in1 (do
   let l <-newList us
   let _ <-holding [l] (call (.builtin "list.sort") [l] [])
   ret l) (fun fin s'=>∃w,fin=.done (.ret w)/\EP X pins σ Q w s') X.xe {s with heap:=h1,toks:=t1}:=by
 have l1:=r.length;have l2:=v.length;have hz:us.length<=sizeLine:=by rw[sizeLine_eq];lia
 refine wpAny_bind (wpAny_newList ?_ hz)
 have g0:(h1.push (seqObj "list" us.toArray 0)).get? h1.objs.size=some (seqObj "list" us.toArray 0):=Heap.get?_push_size _ rfl
 have k2:∀b o,s.heap.get? b=some o->b≠h1.objs.size/\(h1.push (seqObj "list" us.toArray 0)).get? b=some o:=fun b o e=>⟨Nat.ne_of_lt (Heap.lt_size (k1 b o e)),Heap.get?_push_of_some _ (k1 b o e)⟩
 refine wpAny_bind (wpAny_holding (wpAny_call_entry slot_list_sort ⟨_,g0,rfl⟩ entry_list_sort ?_ (args_list_sort _)))
 have hA:X.A.in1.in1.units+20<cLine:=by show X.A.units+1+1+20<cLine;lia
 refine rQ (s:={s with heap:=h1.push (seqObj "list" us.toArray 0),toks:=t1}) (vs:=us) (κ:=wM c) g0 (by lia) (zY hc) (fun h2 h' kp Q' q'=>?_) (fun h' kp i j C hi hj hC=>?_) (fun pp hp hs h' cc kp g=>?_)
 ·have I1:Inv X pins σ H {s with heap:=h',toks:=t1}:=I.kept fun b o e=>kp b o (k2 b o e).1 (k2 b o e).2
  exact sF I1 h2 hk r v q'
 ·have I1:Inv X pins σ H {s with heap:=h',toks:=t1}:=I.kept fun b o e=>kp b o (k2 b o e).1 (k2 b o e).2
  have hi':i<ds.length:=by lia
  have hj':j<ds.length:=by lia
  obtain⟨x,hx,rx⟩:=r.get (i:=i) (d:=ds[i]) (by simp[hi'])
  obtain⟨y,hy,ry⟩:=r.get (i:=j) (d:=ds[j]) (by simp[hj'])
  obtain⟨ux,hux,vx⟩:=v.get hx;obtain⟨uy,huy,vy⟩:=v.get hy;have e1:us.getD i Value.none=ux:=by rw[List.getD_eq_getElem?_getD,hux];rfl
  have e2:us.getD j Value.none=uy:=by rw[List.getD_eq_getElem?_getD,huy];rfl
  have m1:ds[i]∈ds:=List.getElem_mem hi';have m2:ds[j]∈ds:=List.getElem_mem hj';rw[e1,e2];obtain⟨rr,er⟩:=iE hc m1 m2;refine y0 I1 hA (pM hc m1) (pM hc m2) (List.all_eq_true.mp hk _ m1) (List.all_eq_true.mp hk _ m2) rx ry vx vy er ?_
  have g1:atG ds i=ds[i]:=by unfold atG;exact fL _ _ hi'
  have g2:atG ds j=ds[j]:=by unfold atG;exact fL _ _ hj'
  simp only[g1,g2,er]at hC;cases rr with
  |true=>simpa using hC
  |false=>simpa using hC
 ·have hpl:∀i∈pp,i<ds.length:=fun i hi=>by rw[l1,l2];exact List.mem_range.mp (hp.mem_iff.mp hi)
  have hp':pp.Perm (List.range ds.length):=by rw[l1,l2];exact hp
  have es:=qV hc hp' (fun i j hij hj=>hs i j hij (by lia))
  have rz:Reps X.K B H (cH ds) (pp.map fun i=>ys.getD i .non):=by rw[<-es];exact r.getP pp hpl
  have vz:=v.getP pp (fun i hi=>by rw[<-l1];exact hpl i hi)
  have hlen:(pp.map fun i=>ys.getD i V.non).length<=sizeLine:=by rw[List.length_map,hp'.length_eq,List.length_range,sizeLine_eq];lia
  have hfr:H h1.objs.size=none:=I.hok.fresh hsz;refine⟨_,rfl,wpAny_pure ⟨_,rfl,.ref h1.objs.size,_,I.laid (a:=h1.objs.size) (o:=.lst (pp.map fun i=>ys.getD i .non)) (h':=h') (t':=t1) (fun b o e=>kp b o (k2 b o e).1 (k2 b o e).2) hsz ?_,rfl,q _ _ hfr rz⟩⟩
  exact⟨hlen,_,cc,vz,g⟩
theorem lA {c:KD}(hu:X.A.units+64<cLine):fA X (.builtin "sorted") (fun xs H Q=>∃B p ds ys,xs=[.ref p]/\SqL X.K H p ys/\Reps X.K B H ds ys/\ds.length<64/\gp ds=true/\ds.all (eW c)=true/\
  ∀l zs,H l=none->Reps X.K B H (cH ds) zs->Q (.ref l) (upd H l (.lst zs))):=by
 intro pins s σ H xs us Q I r h;obtain⟨B,p,ds,ys,rfl,hq,rs,h64,hc,hk,q⟩:=h;obtain⟨u,rfl,rx⟩:=jU r;cases rx;obtain⟨its,rv,pl,hz⟩:=I.list hq;have l1:=rs.length;have l2:=rv.length;refine Calls.call_function_entry kind_sorted plain_sorted entry_sorted (args_sorted1 _) ?_
 unfold Builtin.«sorted»;refine wpAny_bind (m:=checkCount "sorted" 1 1 _) (wpAny_pure (wpAny_bind (collect_list pl.isList ?_ (by rw[sizeLine_eq];lia))))
 have hsz:((s.heap.push (seqObj "list" #[] 0)).update s.heap.objs.size (Obj.mapSeq (· ++its.toArray))).objs.size=s.heap.objs.size+1:=by
  rw[Heap.size_update,size_push']
 refine fm (t1:=s.toks) hu I (fun b o e=>?_) (by rw[hsz];lia) rs rv h64 hc hk q
 exact(Heap.get?_update_other _ _ (Nat.ne_of_gt (Heap.lt_size e))).trans (Heap.get?_push_of_some _ e)
noncomputable def nS (c:KD) (x:Option D):Option D:=match x with|some (.lst ds)=>if(decide (ds.length<64)&&gp ds&&ds.all (eW c))=true then some (.lst (cH ds)) else none|_=>none
theorem sg {c:KD}{ds:List D}(h1:ds.length<64) (h2:gp ds=true) (h3:ds.all (eW c)=true):nS c (some (.lst ds))=some (.lst (cH ds)):=by
 unfold nS;have:(decide (ds.length<64)&&gp ds&&ds.all (eW c))=true:=by rw[decide_eq_true h1,h2,h3];rfl
 simp only[this,if_true]
theorem jE {c:KD}(hu:X.A.units+64<cLine) (g:Gl X "sorted") (hm:X.mg "sorted"=none) (ha:DE X false a fa) (hs:starEach [a] X.env=[(false,eval a X.env)]:=by rfl):DF X (.Call (.Name "sorted" p) [a] [] pos) (fun δ=>nS c (fa δ)):=
 (dg (lA (c:=c) hu) g hm fK (av ha aT hs) (he:=hs)).imp fun σ H Q hz=>by
  obtain⟨B,Hk,δ,d,R,e,k⟩:=hz;unfold nS at e;split at e
  ·rename_i ds qd
   by_cases cc:(decide (ds.length<64)&&gp ds&&ds.all (eW c))=true
   ·rw[if_pos cc]at e;obtain rfl:=Option.some.inj e
    rw[Bool.and_eq_true,Bool.and_eq_true]at cc;obtain⟨⟨c1,c2⟩,c3⟩:=cc;refine rH R qd fun v H' s R' r=>?_
    simp only[Rep]at r;obtain⟨l,xs,rfl,hq,rs⟩:=r;refine⟨_,l,ds,xs,rfl,hq.sq,rs,of_decide_eq_true c1,c2,c3,fun l' zs hl rz=>?_⟩
    have s2:=az (o:=.lst zs) hl;exact k l' _ (s.trans s2) (s.free hl) ⟨_,ag,rz.same (m:=false) R' s2⟩
   ·rw[if_neg cc]at e;contradiction
  ·contradiction
end
theorem dt:entryFor table "dict.update.loop"=some Builtin.«dict.update.loop»:=entryFor_of_tree (by kernel_rfl)
theorem bA:plainId "dict.update.loop"=true:=by decide +kernel
theorem qA:typeLookup (.type "list") "keys"=pure none:=by rw[typeLookup_type,builtinLookup_eq_fast];kernel_rfl
theorem wk {prog:Program}{w:World}{A:Around}{E:Value->Shared->Prop}{s:Shared}{a:Addr}{o:Obj}{xs:Array Value}{k:Nat}{Q:Option Value->Shared->Prop}
  (hx:s.heap.get? a=some o) (hc:o.cls=.type "list") (hdat:o.data=.seq xs k) (hd:o.dict=none) (hA:A.handled=none)
  (h:∀h' tk,(∀b o,s.heap.get? b=some o->h'.get? b=some o)->Q none {s with heap:=h',toks:=tk}):wpAny (model prog w) A (getAttr? (.ref a) "keys") Q E s:=by
 obtain⟨c,dct,dat,sl⟩:=o;simp only at hc hdat hd;subst hc hdat hd;obtain⟨hp,g,d,tk,os⟩:=s;have hT:∀tk',(⟨hp,g,d,tk',os⟩:Shared).TypeIs (.ref a) "list":=fun _=>⟨_,hx,rfl⟩
 have f1:=sub_AttributeError;have f3:=F.slot_list_getattribute.lookup;have f4:=F.slot_list_getattribute.bind (.ref a);have f5:=am_list_getattr_none;unfold getAttr? getAttrBy? getAttrBy
 repeat (any_goals (first|assumption|exact hT _|((with_reducible show wpAny _ _ (call (Value.builtin "list.__getattribute__") _ _) _ _ _);refine call_meets F.slot_list_getattribute (hT _) am_entry_list_getattribute (F.args_list_getattribute_2 _ _) (meets_getattribute_miss_list a xs k sl _ _ qA (by decide) (by decide)) ⟨hx,hA,fun h' tk' e hx'=>?_⟩)|wp_step))
 obtain⟨t',u',he⟩:=hx'.there;show wpAny _ _ (getattributeRaised _ _ _ _ _ _ _) _ _ _;unfold getattributeRaised
 repeat (any_goals (first|assumption|wp_step))
 exact h _ _ hx'.keeps
section
variable{X:Cx}{pins:List (Addr×Obj)}{σ:St}{H:Hp}{s:Shared}{A:Around}{E:Value->Shared->Prop}
end
section
variable{X:Cx}
end
noncomputable def ka:D->Option Key
 |.int i=>some (.inl i)
 |.str x=>some (.inr x)
 |_=>none
noncomputable def keysOf:List D->Option (List Key)
 |[]=>some []
 |d::ds=>(match ka d,keysOf ds with|some k,some ks=>some (k::ks)|_,_=>none)
section
variable{X:Cx}{m m' mm:Bool}{a b c:Expr}{fa fb fc:DEnv->Option D}{pos apos cpos:Pos}
end
noncomputable def cJ:List D->Option (List Str)
 |[]=>some []
 |.str i::ds=>(match cJ ds with|some l=>some (i::l)|none=>none)
 |_=>none
theorem qk (ns:List Str):cJ (ns.map D.str)=some ns:=by
 induction ns with
 |nil=>rfl
 |cons n ns ih=>simp only[List.map_cons,cJ,ih]
theorem gJ:∀{ds:List D}{ns:List Str},cJ ds=some ns->ds=ns.map D.str
 |[],ns,h=>by simp only[cJ,Option.some.injEq]at h;subst h;rfl
 |.str i::ds,ns,h=>by
  simp only[cJ]at h;cases q:cJ ds with
  |none=>rw[q]at h;contradiction
  |some l=>
   rw[q]at h;simp only[Option.some.injEq]at h;subst h;rw[List.map_cons,gJ q]
 |.non::ds,ns,h=>by simp[cJ]at h
 |.bl _::ds,ns,h=>by simp[cJ]at h
 |.int _::ds,ns,h=>by simp[cJ]at h
 |.tup _::ds,ns,h=>by simp[cJ]at h
 |.lst _::ds,ns,h=>by simp[cJ]at h
 |.dT _ _::ds,ns,h=>by simp[cJ]at h
 |.dK _ _::ds,ns,h=>by simp[cJ]at h
 |.dD _ _::ds,ns,h=>by simp[cJ]at h
 |.sp _ _::ds,ns,h=>by simp[cJ]at h
section
variable{X:Cx}{m m' mm:Bool}{a b:Expr}{fa fb:DEnv->Option D}{pos p apos cpos:Pos}
noncomputable def BL (x y:Option D):Option D:=match x,y with|some (.str z),some (.lst ds)=>(match cJ ds with|some ys=>if(ys.map (·.length)).sum+ys.length*z.length<=16777216 then some (.str (Txt.join z ys)) else none|none=>none)|_,_=>none
theorem pB (l:Addr) (items:Array Value) (n:Nat) (b:Addr) (items2:Array Value) (n2:Nat) (s1 s2:Array (Option Value)) (hc0:items.size+items2.size<=sizeLine):
  Meets (Builtin.«list.__add__» ⟨[.ref l,.ref b],[]⟩) (fun _ R s=>s.heap.get? l=some ⟨.type "list",none,.seq items n,s1⟩/\s.heap.get? b=some ⟨.type "list",none,.seq items2 n2,s2⟩/\R (.ok (.ret (Value.ref s.heap.objs.size))) {s with heap:=s.heap.push {cls:=Value.type "list",data:=Data.seq (items++items2)}}):=
 .of_wp fun prog w A R s h=>by
  obtain⟨hp,g,d,tk,os⟩:=s;obtain⟨hl,hb,h⟩:=h;have f1:=AutoSeq1.idx_int;have f2:=AutoSeq1.sub_tuple_tuple;have f3:=AutoSeq1.sub_list_list;have f4:=AutoSeq1.sub_tuple_list;have f5:=AutoSeq1.sub_list_tuple
  wp_walk using AutoSeq1.wpAny_loadPart' hl,AutoSeq1.wpAny_loadPart' hb
  exact⟨_,rfl,h⟩
theorem rf {P:Program}{w:World}{A:Around}{E:Value->Shared->Prop}{s:Shared}{l b:Addr}{its its2:Array Value}{Q:Value->Shared->Prop}(hl:PlainL s.heap l its) (hb:PlainL s.heap b its2)
  (h:Q (.ref s.heap.objs.size) {s with heap:=s.heap.push {cls:=.type "list",data:=.seq (its++its2)}}) (hsz:its.size+its2.size<=sizeLine):wpAny (model P w) A (binaryOp .Add (.ref l) (.ref b)) Q E s:=by
 obtain⟨⟨c1,d1,a1,s1⟩,n1,e1,rfl,rfl,rfl⟩:=hl;obtain⟨⟨c2,d2,a2,s2⟩,n2,e2,rfl,rfl,rfl⟩:=hb;exact concat_meets ⟨_,e1,rfl⟩ ⟨_,e2,rfl⟩ noFill_list_add seq_list_add F.slot_list_add F.entry_list_add (F.args_list_add_2 _ _) (pB l its n1 b its2 n2 s1 s2 hsz) ⟨e1,e2,h⟩
theorem pi:OpR X (binaryOp .Add) (fun x y H Q=>∃l b xs zs,x=.ref l/\y=.ref b/\SqL X.K H l xs/\SqL X.K H b zs/\xs.length+zs.length<=sizeLine/\∀p,H p=none->Q (.ref p) (upd H p (.lst (xs++zs)))):=by
 intro pins s σ H x y v u Q I rx ry h;obtain⟨l,b,xs,zs,rfl,rfl,hH,hB,hz,q⟩:=h;cases rx;cases ry;obtain⟨its,r,pl,_⟩:=I.list hH;obtain⟨its2,r2,pl2,_⟩:=I.list hB;have hl:=r.length;have hl2:=r2.length;refine rf pl pl2 ?_ (by rw[List.size_toArray,List.size_toArray];lia)
 have ea:its.toArray++its2.toArray=(its++its2).toArray:=by simp
 rw[ea];exact⟨.ref _,_,I.lnew (t':=s.toks) (r.append r2) (by rw[List.length_append];lia),rfl,q _ I.fresh⟩
noncomputable def ur (x y:Option D):Option D:=match x,y with|some (.lst i),some (.lst j)=>if i.length+j.length<=lim then some (.lst (i++j)) else none|_,_=>none
theorem md (ha:DE X false a fa) (hb:DE X false b fb):DF X (.BinOp a .Add b pos) (fun δ=>ur (fa δ) (fb δ)):=
 (vm pi ha hb).imp fun σ H Q hz=>by
  obtain⟨B,Hk,δ,d,R,e,k⟩:=hz;unfold ur at e;split at e
  ·rename_i i j q1 q2
   by_cases hz:i.length+j.length<=lim
   ·rw[if_pos hz]at e;obtain rfl:=Option.some.inj e
    refine two R q1 q2 fun v u H' s R' r1 r2=>?_
    simp only[Rep]at r1 r2;obtain⟨c,xs,rfl,hq,rs⟩:=r1;obtain⟨c2,xs2,rfl,hq2,rs2⟩:=r2;refine⟨c,c2,xs,xs2,rfl,rfl,hq.sq,hq2.sq,by rw[<-rs.length,<-rs2.length];exact aH hz,fun p hp=>?_⟩
    have s2:=az (o:=.lst (xs++xs2)) hp;exact k p _ (s.trans s2) (s.free hp) ⟨_,ag,(rs.append rs2).same (m:=false) R' s2⟩
   ·rw[if_neg hz]at e;contradiction
  ·contradiction
noncomputable def nV (i:Nat) (x:Option D) (δ:DEnv):Option Out:=match bD i δ,x with|some (.lst ds),some (.lst es)=>if ds.length+es.length<=lim then some (.next (δ.set i (some (.lst (ds++es),true)))) else none|_,_=>none
theorem o0 {i:Nat}{x:Option D}{δ:DEnv}{o:Out}(h:nV i x δ=some o):∃ds es,δ[i]?=some (some (.lst ds,true))/\x=some (.lst es)/\ds.length+es.length<=lim/\o=.next (δ.set i (some (.lst (ds++es),true))):=by
 unfold nV at h;split at h
 ·rename_i ds d q
  by_cases hl:ds.length+d.length<=lim
  ·rw[if_pos hl]at h;obtain rfl:=Option.some.inj h;exact⟨ds,d,bO q,rfl,hl,rfl⟩
  ·rw[if_neg hl]at h;contradiction
 ·contradiction
theorem oS {i:Nat}{x:Str}{px apos cpos:Pos}(ha:DF X a fa) (hN:X.N[i]?=some x:=by rfl) (hv:Vis X.env.scope x:=by first|exact Or.inl rfl|exact Or.inr (Or.inl rfl)|exact Or.inr (Or.inr rfl))
  (hbase:attributeBase (.Name x px) "extend" X.env (eval (.Name x px) X.env)=eval (.Name x px) X.env:=by rfl)
  (hfew:((backTo cpos (starEach [a] X.env)).all (fun x=>!x.1)&&(backToKw cpos (keywordEach [] X.env)).all (fun x=>x.1.isSome)&&decide (([a]).length+([]:List Keyword).length+(if([]:List Keyword).isEmpty then 0 else 1)<30))=true:=by rfl)
  (hline:(apos.endLine==cpos.line)=true:=by rfl) (hs:starEach [a] X.env=(false,eval a X.env)::starEach [] X.env:=by rfl) (hd:(x==("__debug__":Str))=false:=by decide) (hcd:(x==("__classdict__":Str))=false:=by decide)
  (hsw:swapsWith (.Call (.Attribute (.Name x px) "extend" apos) [a] [] cpos) none pos.line X.env=pure false:=by rfl):DS X (.Expr (.Call (.Attribute (.Name x px) "extend" apos) [a] [] cpos) pos) (fun δ=>nV i (fa δ) δ):=
 (dz (tZ PySem.F.plainAttrs_list PySem.F.slot_list_extend PySem.F.type_list_extend pQ (aL hN hv hd hcd) (av ha aT hs) hbase hfew hline hs) hsw).imp fun Dn σ H hz=>by
  obtain⟨B,Hk,δ,o,R,e,k⟩:=hz;obtain⟨ds,es,h1,e1,hl,rfl⟩:=o0 e;obtain⟨l,h2,h3,xs,h4,h5⟩:=R.own i _ h1;refine⟨.ref l,h2,.inl ⟨rfl,xs,SqL.of h4⟩,B,Hk,δ,_,R,e1,fun p H' s hp ob=>?_⟩
  have R':=R.to s;have h4':=s l _ h4;have h5':Reps X.K B H' ds xs:=h5.ext (R.ext s);obtain⟨zs,h6,h7⟩:=ob;obtain⟨x1,x2⟩:=R'.lset (ds':=ds++es) (xs':=xs++zs) h1 h2 h4' (h5'.append h7);exact⟨l,p,xs,zs,rfl,rfl,h4',h6,by rw[<-h5.length,<-h7.length];exact aH hl,k σ _ ((R.ext s).trans x1) x2⟩
end
end L2
namespace L2
open PySem PySem.Spec PyProof.Rows
variable[Lams]
noncomputable def lI (osc:Scope) (scope:Scope) (N:List Str) (bs:List Bool):Bool:=
 decide (scope.kind=.function)&&scope.names.all (fun y=>!decide (y.2=.cell))&&scope.names.all (fun y=>!decide (y.2=.local)||decide (scope.names.lookup y.1=some .local))&&
 scope.names.all (fun y=>!decide (y.2=.free)||(decide (scope.names.lookup y.1=some .free)&&(decide (osc.names.lookup y.1=some .cell)||decide (osc.names.lookup y.1=some .free))))&&
 decide (bs.length=N.length)&&(N.zip bs).all (fun p=>!p.2||decide (scope.names.lookup p.1=some .free))
theorem kw {X:Cx}{osc scope:Scope}{N:List Str}{bs:List Bool}(h1:X.env.scope=osc) (h2:X.N=N) (h:lI osc scope N bs=true):CompScope X scope bs:=by
 unfold lI at h;simp only[Bool.and_eq_true,decide_eq_true_eq]at h;obtain⟨⟨⟨⟨⟨a,b⟩,c⟩,d⟩,e⟩,f⟩:=h;refine⟨a,fun y hy z=>?_,fun y hy z=>?_,fun y hy z=>?_,by rw[h2];exact e,fun i x hx hb=>?_⟩
 ·have:=List.all_eq_true.mp b y hy
  rw[decide_eq_true z]at this;contradiction
 ·have:=List.all_eq_true.mp c y hy
  rw[decide_eq_true z]at this
  simpa using this
 ·have:=List.all_eq_true.mp d y hy
  rw[decide_eq_true z]at this;simp only[Bool.not_true,Bool.false_or,Bool.and_eq_true,Bool.or_eq_true,decide_eq_true_eq]at this;refine⟨this.1,?_⟩
  unfold Env.kindOf;rw[h1];exact this.2
 ·rw[h2]at hx
  have hz:(N.zip bs)[i]?=some (x,true):=by rw[List.getElem?_zip_eq_some];exact⟨hx,hb⟩
  have:=List.all_eq_true.mp f _ (List.mem_of_getElem? hz)
  simpa using this
structure Nm (X:Cx) (i:Nat) (x:Str):Prop where
 at':X.N[i]?=some x
 vis:Vis X.env.scope x
 d1:(x==("__debug__":Str))=false
 d2:(x==("__classdict__":Str))=false
structure Lc (X:Cx) (i:Nat) (x:Str):Prop where
 at':X.N[i]?=some x
 loc:Loc X.env.scope x
 fnl:X.fn x=true\/X.env.scope.names.lookup x=some .local
structure Gb (X:Cx) (x:Str):Prop where
 gl:Gl X x
 d1:(x==("__debug__":Str))=false
noncomputable def Af:Option NameKind->Bool
 |some .local=>true|some .cell=>true|some .free=>true|_=>false
noncomputable def AE:Option NameKind->Bool
 |some .local=>true|some .cell=>true|_=>false
noncomputable def nmB (N:List Str) (sc:Scope) (i:Nat) (x:Str):Bool:=decide (N[i]?=some x)&&Af (sc.names.lookup x)&&!(x==("__debug__":Str))&&!(x==("__classdict__":Str))
noncomputable def lcB (N:List Str) (sc:Scope) (i:Nat) (x:Str):Bool:=decide (N[i]?=some x)&&AE (sc.names.lookup x)
noncomputable def Bf (N:List Str) (sc:Scope) (i:Nat) (x:Str):Bool:=decide (N[i]?=some x)&&decide (sc.names.lookup x=some .local)
noncomputable def gbB (sc:Scope) (x:Str):Bool:=decide (sc.names.lookup x=some .globalImplicit)&&!(x==("__debug__":Str))
theorem rM {sc:Scope}{x:Str}(h:Af (sc.names.lookup x)=true):Vis sc x:=by
 unfold Af at h;split at h
 ·rename_i e;exact .inl e
 ·rename_i e;exact .inr (.inl e)
 ·rename_i e;exact .inr (.inr e)
 ·contradiction
theorem sK {sc:Scope}{x:Str}(h:AE (sc.names.lookup x)=true):Loc sc x:=by
 unfold AE at h;split at h
 ·rename_i e;exact .inl e
 ·rename_i e;exact .inr e
 ·contradiction
structure Has (X:Cx) (N:List Str) (sc:Scope):Prop where
 n:X.N=N
 sc:X.env.scope=sc
 calm:X.calm=true
 nd:X.N.Nodup
theorem Has.nm {X:Cx}{N:List Str}{sc:Scope}{i:Nat}{x:Str}(h:Has X N sc) (b:nmB N sc i x=true):Nm X i x:=by
 unfold nmB at b;simp only[Bool.and_eq_true,decide_eq_true_eq,Bool.not_eq_true']at b;exact⟨by rw[h.n];exact b.1.1.1,by rw[h.sc];exact rM b.1.1.2,b.1.2,b.2⟩
theorem Has.lc {X:Cx}{N:List Str}{sc:Scope}{i:Nat}{x:Str}(h:Has X N sc) (hf:∀x,X.fn x=true) (b:lcB N sc i x=true):Lc X i x:=by
 unfold lcB at b;simp only[Bool.and_eq_true,decide_eq_true_eq]at b;exact⟨by rw[h.n];exact b.1,by rw[h.sc];exact sK b.2,.inl (hf x)⟩
theorem Has.lcl {X:Cx}{N:List Str}{sc:Scope}{i:Nat}{x:Str}(h:Has X N sc) (b:Bf N sc i x=true):Lc X i x:=by
 unfold Bf at b;simp only[Bool.and_eq_true,decide_eq_true_eq]at b;exact⟨by rw[h.n];exact b.1,by rw[h.sc];exact .inl b.2,.inr (by rw[h.sc];exact b.2)⟩
theorem Has.gb {X:Cx}{N:List Str}{sc:Scope}{x:Str}(h:Has X N sc) (b:gbB sc x=true):Gb X x:=by
 unfold gbB at b;simp only[Bool.and_eq_true,decide_eq_true_eq,Bool.not_eq_true']at b;refine⟨?_,b.2⟩
 unfold Gl Env.kindOf;rw[h.sc];exact b.1
noncomputable def Bc (scope sc:Scope):Scope:=
 {scope with names:=scope.names.map fun(n,k)=>if(k==.free&&sc.kind==.function&&sc.names.lookup n==some .cell) then(n,.cell) else(n,k)}
theorem wf {scope sc:Scope}{env:Env}(h:env.scope=sc):relabel scope env=Bc scope sc:=by subst h;rfl
theorem Has.comp {X:Cx}{N:List Str}{sc:Scope}(h:Has X N sc) (scope:Scope) (cl:List (Str×Addr)) (C:Addr) (s₂:Shared) (H₂:Hp) (ex:List Addr) (pn:List (Addr×Obj)):Has (aI X scope cl C s₂ H₂ ex pn) N (Bc scope sc):=
 ⟨h.n,wf h.sc,h.calm,h.nd⟩
theorem CompScope.of' {X:Cx}{N:List Str}{sc scope:Scope}{bs:List Bool}(h:Has X N sc) (b:lI sc scope N bs=true):CompScope X scope bs:=kw h.sc h.n b
section
variable{X:Cx}{m m' mm:Bool}{a b e:Expr}{es:List Expr}{fa fb:DEnv->Option D}{fs:DEnv->Option (List D)}{pos p:Pos}{k:Nat}{x:Str}{f:List D->Option (D×Bool)}{i:Nat}
theorem nv (m:Bool) (n:Nm X i x):DE X m (.Name x pos) (rd m i):=ya n.at' n.vis n.d1 n.d2
theorem eD {pos':Pos}(n:X.N.Nodup) (l:Lc X i x) (ha:DE X false a fa) (hs:swapsWith a (some (.Name x pos')) pos.line X.env=pure false:=by rfl):DS X (.Assign [.Name x pos'] a pos) (fun δ=>dE i (fa δ) δ):=yL (i:=i) (x:=x) (pos:=pos) (pos':=pos') n ha l.at' l.loc hs l.fnl
theorem m8 {pos':Pos}(n:X.N.Nodup) (l:Lc X i x) (ha:DF X a fa) (hs:swapsWith a (some (.Name x pos')) pos.line X.env=pure false:=by rfl):DS X (.Assign [.Name x pos'] a pos) (fun δ=>gN i (fa δ) δ):=wn (i:=i) (x:=x) (pos:=pos) (pos':=pos') n ha l.at' l.loc hs l.fnl
theorem b0 (n:X.N.Nodup) (l:Lc X i x):DG X (.Name x pos) (ae i):=wx n l.at' l.loc l.fnl
theorem sQ {px:Pos}(n:Nm X i x):DS X (.Return (some (.Name x px)) pos) (fun δ=>kX (bD i δ)):=wp (i:=i) (x:=x) (px:=px) (pos:=pos) n.at' n.vis n.d1 n.d2
theorem db (F:FnM X.prog X.w X.K X.mg X.base k x f) (hr:Room k X.A) (g:Gb X x) (ha:DA X m (e::es) fs) (he:starEach (e::es) X.env=(false,eval e X.env)::starEach es X.env:=by rfl)
  (hpl:(backTo pos (starEach es X.env)).any (·.1)=false:=by rfl):DE X m (.Call (.Name x p) (e::es) [] pos) (fun δ=>shO (ac (fs δ) f)):=u9 F hr g.gl ha g.d1 he hpl
theorem bK (F:FnM X.prog X.w X.K X.mg X.base k x f) (hr:Room k X.A) (g:Gb X x) (ha:DA X false (e::es) fs) (he:starEach (e::es) X.env=(false,eval e X.env)::starEach es X.env:=by rfl)
  (hpl:(backTo pos (starEach es X.env)).any (·.1)=false:=by rfl):DF X (.Call (.Name x p) (e::es) [] pos) (fun δ=>frO (ac (fs δ) f)):=vN (p:=p) F hr g.gl ha g.d1 he hpl
theorem ie {p:Pos}(g:Gb X "len") (hm:X.mg "len"=none) (ha:DE X m a fa) (hs:starEach [a] X.env=[(false,eval a X.env)]:=by rfl):DE X mm (.Call (.Name "len" p) [a] [] pos) (fun δ=>ja (fa δ)):=yq g.gl hm ha hs g.d1
variable{apos cpos px:Pos}
theorem gM (n:Nm X i x) (ha:DE X false a fa)
  (hbase:attributeBase (.Name x px) "append" X.env (eval (.Name x px) X.env)=eval (.Name x px) X.env:=by rfl)
  (hfew:((backTo cpos (starEach [a] X.env)).all (fun x=>!x.1)&&(backToKw cpos (keywordEach [] X.env)).all (fun x=>x.1.isSome)&&decide (([a]).length+([]:List Keyword).length+(if([]:List Keyword).isEmpty then 0 else 1)<30))=true:=by rfl)
  (hline:(apos.endLine==cpos.line)=true:=by rfl) (hs:starEach [a] X.env=(false,eval a X.env)::starEach [] X.env:=by rfl)
  (hsw:swapsWith (.Call (.Attribute (.Name x px) "append" apos) [a] [] cpos) none pos.line X.env=pure false:=by rfl):DS X (.Expr (.Call (.Attribute (.Name x px) "append" apos) [a] [] cpos) pos) (fun δ=>nP i (fa δ) δ):=
 qh ha n.at' n.vis hbase hfew hline hs n.d1 n.d2 hsw
theorem nJ (n:Nm X i x) (ha:DF X a fa)
  (hbase:attributeBase (.Name x px) "extend" X.env (eval (.Name x px) X.env)=eval (.Name x px) X.env:=by rfl)
  (hfew:((backTo cpos (starEach [a] X.env)).all (fun x=>!x.1)&&(backToKw cpos (keywordEach [] X.env)).all (fun x=>x.1.isSome)&&decide (([a]).length+([]:List Keyword).length+(if([]:List Keyword).isEmpty then 0 else 1)<30))=true:=by rfl)
  (hline:(apos.endLine==cpos.line)=true:=by rfl) (hs:starEach [a] X.env=(false,eval a X.env)::starEach [] X.env:=by rfl)
  (hsw:swapsWith (.Call (.Attribute (.Name x px) "extend" apos) [a] [] cpos) none pos.line X.env=pure false:=by rfl):DS X (.Expr (.Call (.Attribute (.Name x px) "extend" apos) [a] [] cpos) pos) (fun δ=>nV i (fa δ) δ):=
 oS ha n.at' n.vis hbase hfew hline hs n.d1 n.d2 hsw
noncomputable def swB (sc scope:Scope) (t:Str) (l1 l2:Nat):Bool:=
 ((if sc.kind.isAnnotationScope then ScopeKind.function else sc.kind)==.function)&&sc.names.lookup t==some .local&&l1==l2&&!(scope.names.any fun(n,k)=>n==t&&(k==.local||k==.cell))
theorem da {N:List Str}{sc scope:Scope}{c:Bool}{elt:Expr}{gens:List Comprehension}{pos':Pos}{l:Nat}(h:Has X N sc) (q:swB sc scope x pos'.line pos.line=c):
  swapsWith (.ListComp elt gens scope pos) (some (.Name x pos')) l X.env=pure c:=by
 subst q;unfold swB;rw[<-h.sc];rfl
variable{elt tg iter:Expr}{ifs:List Expr}{scope:Scope}{bo:Bool}{fi:DEnv->Option (List D)}{τ:D->DEnv->Option DEnv}{ft:DEnv->Option Bool}{fe:DEnv->Option D}{bs:List Bool}
theorem fT {y:Str}{N:List Str}{sc:Scope}(h:Has X N sc) (b:decide (sc.names.lookup y=some .local)=true):X.env.scope.names.lookup y=some .local:=by rw[h.sc];exact of_decide_eq_true b
theorem sx {y:Str}{py spos:Pos}{N:List Str}{sc:Scope}(h:Has X N sc) (l:Lc X i y) (hτ:Anew τ) (hi:DI X false tg iter fi) (S:CompScope X scope bs)
  (hg:∀cl C s₂ H₂ ex pn,DG (aI X scope cl C s₂ H₂ ex pn) tg τ) (ht:∀cl C s₂ H₂ ex pn,DTs (aI X scope cl C s₂ H₂ ex pn) ifs ft) (he:∀cl C s₂ H₂ ex pn,DE (aI X scope cl C s₂ H₂ ex pn) false elt fe)
  (b1:decide (sc.names.lookup y=some .local)=true) (b2:swB sc scope y py.line pos.line=true)
  (hs:∀x,foldedSetIterable iter X.env x=pure x:=by intro _;rfl):DS X (.Assign [.Name y py] (.ListComp elt [⟨tg,iter,ifs,0⟩] scope pos) spos) (fun δ=>gN i (aJ (ac (fi δ) (dG false bs τ ft fe δ))) δ):=
 vH h.nd h.calm hτ hi S hg ht he l.at' (fT h b1) (da h b2) hs
end
theorem w8 {P:Program}{w:World}{K:PySem.W.Frag}{mg:Str->Option Value}{base:Heap}{f:Addr}{cdv:Value}{A:Around}{outer:List Env}{s:Shared}{H:Hp}{E:XK}{N:List Str}{q:Str}{sc:Scope}(nd:N.Nodup):
  Has (kD CX0 P w K mg base N q sc f cdv A outer s H E).nox N sc:=⟨rfl,rfl,rfl,nd⟩
theorem spM_law {K:PySem.W.Frag}{H:Hp}{a:Addr}{ns:List Int}{f:List D->Option (D×Bool)}(hS:SqL K H a (ns.map V.int)) (h:f [.lst (ns.map D.int)]=some (.bl true,false)):
  spM K f [.ref a] H (fun v _=>v=.bl true) fun _ _ _=>False:=by
 have hr:Reps K (fun b=>∃o:HOn,H b=some o.1) H (ns.map D.int) (ns.map V.int):=by
  clear hS h
  induction ns with
  |nil=>exact Reps.nil
  |cons n ns ih=>exact Reps.cons (by simp only[Rep]) ih
 refine⟨fun b=>∃o:HOn,H b=some o.1,[.lst (ns.map D.int)],.bl true,false,fun _ h=>h,Reps.cons ?_ Reps.nil,h,fun v H' _ r=>?_⟩
 ·simp only[Rep]
  refine⟨a,_,rfl,?_,hr⟩
  rcases hS with(h1|⟨o,h1⟩)|h1
  ·exact .inl ⟨⟨⟨_,rfl⟩,h1⟩,h1⟩
  ·exact .inr (.inl ⟨o,h1⟩)
  ·exact .inr (.inr h1)
 ·unfold jc at r
  rw[if_neg Bool.false_ne_true]at r
  simpa only[Rep]using r
section
variable{X:Cx}{C:Str}{m m' mm:Bool}{a b e:Expr}{es:List Expr}{fa:DEnv->Option D}{fx:DEnv->Option (Option D)}{fs:DEnv->Option (List D)}{fxs:DEnv->Option (Option (List D))}{pos p:Pos}{k:Nat}{x:Str}
end
section
variable{X:Cx}{C:Str}{m m' mm:Bool}{a b e:Expr}{es:List Expr}{fs:DEnv->Option (List D)}{pos p:Pos}{k:Nat}{x:Str}{f:List D->Option (Option (D×Bool))}
end
inductive OutX where
 |o (x:Out)|rai
section
variable{X:Cx}{C:Str}{st:Stmt}{bC sts:List Stmt}{g:DEnv->Option Out}{g1 g2:DEnv->Option OutX}{pos:Pos}{a:Expr}{fx:DEnv->Option (Option D)}{fc:DEnv->Option Bool}
end
section
variable{P:Program}{w:World}{K:PySem.W.Frag}{mg:Str->Option Value}{base:Heap}{C:Str}
end
end L2
namespace L2
open PySem
noncomputable def ItAt (t:Bool) (h:Heap) (c q:Addr) (n:Nat):Prop:=if t=true then h.IsTupleIter c q n else h.IsListIter c q n
noncomputable def SqAt (t:Bool) (h:Heap) (q:Addr) (vs:Array Value):Prop:=if t=true then h.IsTuple q vs else h.IsList q vs
theorem ItAt.obj {t:Bool}{h:Heap}{c q:Addr}{n:Nat}(x:ItAt t h c q n):∃o,h.get? c=some o/\o.cls=.type (if t=true then "tuple_iterator" else "list_iterator")/\o.data=.fields #[.ref q,.int n 0]:=by
 cases t<;>exact x
theorem ItAt.to {t:Bool}{h h':Heap}{c q:Addr}{n:Nat}(x:ItAt t h c q n) (k:∀o,h.get? c=some o->h'.get? c=some o):ItAt t h' c q n:=by
 cases t<;>(obtain⟨o,e,r⟩:=x;exact⟨o,k o e,r⟩)
theorem SqAt.to {t:Bool}{h h':Heap}{q:Addr}{vs:Array Value}(x:SqAt t h q vs) (k:∀o,h.get? q=some o->h'.get? q=some o):SqAt t h' q vs:=by
 cases t<;>(obtain⟨o,e,r⟩:=x;exact⟨o,k o e,r⟩)
section
variable{prog:Program}{w:World}{A:Around}{E:Value->Shared->Prop}{s:Shared}
theorem rX {c q:Addr}{n:Nat}{vs:Array Value}{Q:Value->Shared->Prop}(hh:A.handled=none) (hc:s.heap.IsTupleIter c q n) (hq:s.heap.IsTuple q vs)
  (some':∀v,vs[n]?=some v->∀h',h'.IsTupleIter c q (n+1)->Heap.SameBut c s.heap h'->Q v {s with heap:=h'})
  (none':vs[n]?=none->∀h' e,Heap.ExtBut c s.heap h'->(∃o,h'.get? e=some o/\o.cls=.type "StopIteration")->E (.ref e) {s with heap:=h'}):
  wpAny (model prog w) A (Builtin.SmallTypes.nextOf (.ref c)) Q E s:=by
 have ty:=hc.typeIs;obtain⟨oc,gc,kc,dc⟩:=hc;obtain⟨oq,gq,_,m,dq⟩:=hq;unfold Builtin.SmallTypes.nextOf;refine wpAny_bind (wpAny_callSpecial?_slot (name:=Str.ofString "__next__") ty F.slot_tuple_iterator_next (wpAny_call_entry F.slot_tuple_iterator_next ty F.entry_tuple_iterator_next ?body (F.args_tuple_iterator_next_1 _)))
 change wpAny _ _ (field (.ref c) 0 >>= _) _ E s;refine wpAny_bind (wpAny_field gc dc (x:=.ref q) rfl ?_)
 change wpAny _ _ (if(Value.ref q==Value.none)=true then _ else _) _ E s
 rw[if_neg (by exact Bool.false_ne_true)]
 change wpAny _ _ (field (.ref c) 1 >>= _) _ E s;refine wpAny_bind (wpAny_field gc dc (x:=.int n 0) rfl (wpAny_bind (wpAny_seqItems gq dq ?_)))
 simp only[Int.toNat_natCast]
 rcases hv:vs[n]? with _|v
 ·simp only[newExc,newTuple,raiseNew]
  refine wpAny_bind (wpAny_rule (wpAny_bind (wpAny_setField gc dc (by simp) (wpAny_bind (wpAny_bind (wpAny_newObj_type ?_ (by size_fits)))))))
  refine wpAny_bind (m:=firstArgMember _ _) (wpAny_of_eq (a:=Value.none) (by first|rfl|(simp only[firstArgMember];rfl)) (wpAny_newObj_type ?_ (by size_fits)))
  refine wpAny_bind (wpAny_handled ?_)
  rw[show A.in1.handled=none from hh]
  exact wpAny_bind (wpAny_pure (wpAny_throw (none' hv _ _ (((Heap.SameBut.update ..).extBut.push _).push _) ⟨_,Heap.get?_push_size _ rfl,rfl⟩)))
 ·refine wpAny_bind (wpAny_setField gc dc (by simp) (wpAny_pure ⟨v,rfl,wpAny_pure (some' v hv _ ⟨_,Heap.get?_update_self _ gc (Obj.isFreed_of_fields (Obj.data_mapFields dc _)),?_,?_⟩ (Heap.SameBut.update ..))⟩))
  ·rw[Obj.cls_mapFields];exact kc
  ·rw[Obj.data_mapFields dc];simp[rawInt]
theorem yv {t:Bool}{c q:Addr}{n:Nat}{vs:Array Value}{Q:Value->Shared->Prop}(hh:A.handled=none) (hc:ItAt t s.heap c q n) (hq:SqAt t s.heap q vs)
  (some':∀v,vs[n]?=some v->∀h',ItAt t h' c q (n+1)->Heap.SameBut c s.heap h'->Q v {s with heap:=h'})
  (none':vs[n]?=none->∀h' e,Heap.ExtBut c s.heap h'->(∃o,h'.get? e=some o/\o.cls=.type "StopIteration")->E (.ref e) {s with heap:=h'}):
  wpAny (model prog w) A (Builtin.SmallTypes.nextOf (.ref c)) Q E s:=by
 cases t with
 |true=>exact rX hh hc hq some' none'
 |false=>
  rcases hv:vs[n]? with _|v
  ·exact wpAny_nextOf_list_end hh hc hq hv (none' hv)
  ·exact wpAny_nextOf_list_item hc hq hv (some' v hv)
end
structure Zp (t u:Bool) (h:Heap) (z P O c d p q:Addr) (n:Nat) (f:Value):Prop where
 zz:IsZip h z P O f
 pp:IsPair h P (.ref c) (.ref d)
 oo:∃a b,IsPair h O a b
 cc:ItAt t h c p n
 dd:ItAt u h d q n
structure Ap (z P O c d p q:Addr):Prop where
 nd:[z,P,O,c,d].Nodup
 p:p∉[z,P,O,c,d]
 q:q∉[z,P,O,c,d]
theorem ak {a b:Addr}{h h':Heap}{o:Obj}(k:Heap.SameBut a h h') (n:b≠a) (e:h.get? b=some o):h'.get? b=some o:=(k.2 b n).trans e
section
variable{prog:Program}{w:World}{A:Around}{E:Value->Shared->Prop}{s:Shared}
theorem rY {t u:Bool}{z P O c d p q:Addr}{n:Nat}{xs ys:Array Value}{Q:Value->Shared->Prop}(hh:A.handled=none) (ap:Ap z P O c d p q) (Z:Zp t u s.heap z P O c d p q n .none)
  (hp:SqAt t s.heap p xs) (hq:SqAt u s.heap q ys)
  (item:∀x y,xs[n]?=some x->ys[n]?=some y->∀h',Zp t u h' z P O c d p q (n+1) (rawInt s.heap.objs.size)->IsPair h' s.heap.objs.size x y->h'.objs.size=s.heap.objs.size+1->
   (∀b o,b∉[z,P,O,c,d]->s.heap.get? b=some o->h'.get? b=some o)->Q (.ref s.heap.objs.size) {s with heap:=h'})
  (stop:(xs[n]?=none\/ys[n]?=none)->∀h' e,(∀b o,b∉[z,P,O,c,d]->s.heap.get? b=some o->h'.get? b=some o)->(∃o,h'.get? e=some o/\o.cls=.type "StopIteration")->E (.ref e) {s with heap:=h'}):
  wpAny (model prog w) A (Builtin.«zip.__next__» ⟨[.ref z],[]⟩) (fun r s'=>∃v,r=.done (.ret v)/\Q v s') E s:=by
 obtain⟨zz,pp,⟨a,b,oo⟩,cc,dd⟩:=Z;have nd:=ap.nd;have np:=ap.p;have nq:=ap.q;simp only[List.nodup_cons,List.mem_cons,List.not_mem_nil,or_false,not_or,List.nodup_nil,and_true,not_false_eq_true]at nd np nq;obtain⟨⟨zP,zO,zc,zd⟩,⟨PO,Pc,Pd⟩,⟨Oc,Od⟩,cd⟩:=nd;obtain⟨pz,pP,pO,pc,pd⟩:=np;obtain⟨qz,qP,qO,qc,qd⟩:=nq;change wpAny _ _ (field (.ref z) 2 >>= _) _ E s;refine wpAny_bind (wpAny_field zz rfl (x:=.bool false) rfl ?_)
 change wpAny _ _ (field (.ref z) 3 >>= _) _ E s;refine wpAny_bind (wpAny_field zz rfl (x:=.ref P) rfl (wpAny_bind (wpAny_seqItems pp rfl ?_)))
 change wpAny _ _ (Builtin.SmallTypes.ownedTupleIsFree (.ref z) >>= _) _ E s;unfold Builtin.SmallTypes.ownedTupleIsFree;refine wpAny_bind (wpAny_bind (wpAny_field zz rfl (x:=.none) rfl (wpAny_pure ?_)))
 simp only[if_true];refine wpAny_bind (wpAny_rule (wpAny_bind (wpAny_field zz rfl (x:=.ref O) rfl (wpAny_bind (wpAny_setField_rec zz (by simp) fun k₁ g₁ m₁=>wpAny_bind ?_)))))
 have z₁:IsZip k₁ z P O .ellipsis:=g₁;simp only[List.zipIdx_cons,List.zipIdx_nil,List.forIn_cons,List.forIn_nil];refine wpAny_bind (wpAny_bind (wpAny_onRaise ?_))
 change wpAny _ _ (Builtin.SmallTypes.nextOf (.ref c) >>= _) _ _ _;refine wpAny_bind (yv (t:=t) hh (cc.to fun o e=>ak m₁ (Ne.symm zc) e) (hp.to fun o e=>ak m₁ pz e) (fun x hx k₂ c₂ m₂=>wpAny_pure ?_) fun hx k₂ e m₂ he=>?_)
 ·have o₂:IsPair k₂ O a b:=ak m₂ Oc (ak m₁ (Ne.symm zO) oo)
  refine wpAny_bind (wpAny_seqItems o₂ rfl (wpAny_bind (wpAny_updateSeq_pair o₂ fun k₃ g₃ m₃=>wpAny_bind (wpAny_letGo (wpAny_pure ?_)))))
  have o₃:IsPair k₃ O x b:=g₃;refine wpAny_bind (wpAny_bind (wpAny_onRaise ?_))
  change wpAny _ _ (Builtin.SmallTypes.nextOf (.ref d) >>= _) _ _ _;refine wpAny_bind (yv (t:=u) hh (dd.to fun o e=>ak m₃ (Ne.symm Od) (ak m₂ (Ne.symm cd) (ak m₁ (Ne.symm zd) e))) (hq.to fun o e=>ak m₃ qO (ak m₂ qc (ak m₁ qz e))) (fun y hy k₄ d₄ m₄=>wpAny_pure ?_) fun hy k₄ e m₄ he=>?_)
  ·have o₄:IsPair k₄ O x b:=ak m₄ Od o₃
   refine wpAny_bind (wpAny_seqItems o₄ rfl (wpAny_bind (wpAny_updateSeq_pair o₄ fun k₅ g₅ m₅=>wpAny_bind (wpAny_letGo (wpAny_pure (wpAny_pure ?_))))))
   have o₅:IsPair k₅ O x y:=g₅;have old:∀f o,f≠z->f≠O->f≠c->f≠d->s.heap.get? f=some o->k₅.get? f=some o:=fun f o n1 n2 n3 n4 e=>ak m₅ n2 (ak m₄ n4 (ak m₃ n2 (ak m₂ n3 (ak m₁ n1 e))))
   have sz:k₅.objs.size=s.heap.objs.size:=by rw[m₅.1,m₄.1,m₃.1,m₂.1,m₁.1]
   have z₅:IsZip k₅ z P O .ellipsis:=ak m₅ zO (ak m₄ zd (ak m₃ zO (ak m₂ zc z₁)));refine wpAny_bind (wpAny_seqItems o₅ rfl (wpAny_bind (wpAny_newTuple ?_)))
   have z₆:IsZip (k₅.push {cls:=.type "tuple",data:=.seq #[x,y]}) z P O .ellipsis:=Heap.get?_push_of_some _ z₅
   change wpAny _ _ (Builtin.SmallTypes.ownedTupleHandOut (.ref z) (.ref k₅.objs.size) >>= _) _ E _;unfold Builtin.SmallTypes.ownedTupleHandOut;refine wpAny_bind (wpAny_bind (wpAny_setField_rec z₆ (by simp) fun k₇ g₇ m₇=>?_))
   have z₇:IsZip k₇ z P O (rawInt k₅.objs.size):=g₇;refine wpAny_setField_rec z₇ (by simp) fun k₈ g₈ m₈=>wpAny_pure ⟨_,rfl,?_⟩
   have z₈:IsZip k₈ z P O (rawInt k₅.objs.size):=g₈;have up:∀f o,f≠z->k₅.get? f=some o->k₈.get? f=some o:=fun f o n1 e=>ak m₈ n1 (ak m₇ n1 (Heap.get?_push_of_some _ e))
   have lz:=Heap.lt_size z₅;have new:IsPair k₈ k₅.objs.size x y:=ak m₈ (Nat.ne_of_gt lz) (ak m₇ (Nat.ne_of_gt lz) (Heap.get?_push_size _ rfl))
   have sz8:k₈.objs.size=k₅.objs.size+1:=by rw[m₈.1,m₇.1,Heap.size_push]
   change Q (.ref k₅.objs.size) _;rw[sz]at z₈ new sz8⊢;refine item x y hx hy k₈ ⟨z₈,up _ _ (Ne.symm zP) (old _ _ (Ne.symm zP) PO Pc Pd pp),⟨x,y,up _ _ (Ne.symm zO) o₅⟩,?_,?_⟩ new sz8 fun f o hf e=>?_
   ·exact c₂.to fun o e=>up _ o (Ne.symm zc) (ak m₅ (Ne.symm Oc) (ak m₄ cd (ak m₃ (Ne.symm Oc) e)))
   ·exact d₄.to fun o e=>up _ o (Ne.symm zd) (ak m₅ (Ne.symm Od) e)
   ·simp only[List.mem_cons,List.not_mem_nil,or_false,not_or]at hf
    exact up f o hf.1 (old f o hf.1 hf.2.2.1 hf.2.2.2.1 hf.2.2.2.2 e)
  ·obtain⟨oe,ge,ke⟩:=he
   have z₄:IsZip k₄ z P O .ellipsis:=m₄ _ _ zd (ak m₃ zO (ak m₂ zc z₁));have ez:e≠z:=fun r=>by rw[r]at ge;rw[z₄]at ge;obtain rfl:=Option.some.inj ge;simp at ke
   refine wpAny_setField_rec z₄ (by simp) fun k₅ _ m₅=>stop (.inr hy) k₅ e (fun f o hf g=>?_) ⟨oe,ak m₅ ez ge,ke⟩
   simp only[List.mem_cons,List.not_mem_nil,or_false,not_or]at hf;obtain⟨n1,_,n2,n3,n4⟩:=hf;exact ak m₅ n1 (m₄ _ _ n4 (ak m₃ n2 (ak m₂ n3 (ak m₁ n1 g))))
 ·obtain⟨oe,ge,ke⟩:=he
  have z₂:IsZip k₂ z P O .ellipsis:=m₂ _ _ zc z₁;have ez:e≠z:=fun r=>by rw[r]at ge;rw[z₂]at ge;obtain rfl:=Option.some.inj ge;simp at ke
  refine wpAny_setField_rec z₂ (by simp) fun k₃ _ m₃=>stop (.inl hx) k₃ e (fun f o hf g=>?_) ⟨oe,ak m₃ ez ge,ke⟩
  simp only[List.mem_cons,List.not_mem_nil,or_false,not_or]at hf;exact ak m₃ hf.1 (m₂ _ _ hf.2.2.2.1 (ak m₁ hf.1 g))
end
end L2
namespace L2
open PySem
variable[Lams]
section
variable{X:Cx}{pins:List (Addr×Obj)}{σ:St}{H:Hp}{s:Shared}{h':Heap}
theorem Inv.turnLay {t':Nat}{fp:List Addr}{T:Addr}{o:HO}(I:Inv X pins σ H s) (k:∀b u,b∉fp->s.heap.get? b=some u->h'.get? b=some u) (hf:∀b∈fp,kF X pins H b)
  (hT:s.heap.objs.size<=T) (new:ObjOk X.prog X.w (upd H T o) h' T o):Inv X pins σ (upd H T o) {s with heap:=h',toks:=t'}:=by
 have hn:H T=none:=I.hok.fresh hT;have far:∀b u,H b=some u->b∉fp:=fun b u e z=>by rw[(hf b z).1]at e;contradiction
 have lo:∀b u,s.heap.get? b=some u->b≠T:=fun b u e=>Nat.ne_of_lt (Nat.lt_of_lt_of_le (Heap.lt_size e) hT)
 refine I.step (g':=s.gens) (d':=s.drawn) (ch:=fp) (fun b hb=>?_) (fun b u _ _ hc e _=>k b u hc e) (fun b u _ _ hc e _=>⟨u.slots,k b u hc e⟩) (fun b u _ e n=>by rw[aj (lo b u e)];exact n)
  (fun b u hc e=>⟨u,k b u hc e⟩) (fun b xs e=>by rw[aj (aG e hn)];exact e) (fun b u v e=>by rw[aj (aG e hn)];exact e) (fun b lq ps e=>⟨#[],by rw[aj (aG e hn),e];simp⟩) (fun m hm=>?_) (fun b u e=>?_) I.bare
 ·obtain⟨_,f1,_,f3,f4,f5⟩:=hf b hb
  exact⟨f3,f1,f4,f5⟩
 ·obtain⟨ob,es,ep,ho,r⟩:=hm
  exact⟨ob,es,ep,k _ ob (fun z=>(hf _ z).2.1 rfl) ho,r⟩
 ·by_cases hb:b=T
  ·subst hb;rw[ag]at e;obtain rfl:=Option.some.inj e;exact new
  ·rw[aj hb]at e
   refine(I.hok b u e).stay (fun c v hc q=>k c v ?_ q) (fun c q=>by rw[aj (aG q hn)];exact q) fun c xs q=>by rw[aj (aG q hn)];exact q
   rcases hc with z|z
   ·rw[z];exact far b u e
   ·exact far c _ z
theorem Inv.turns {t':Nat}{fp:List Addr}(I:Inv X pins σ H s) (k:∀b u,b∉fp->s.heap.get? b=some u->h'.get? b=some u) (hf:∀b∈fp,kF X pins H b):Inv X pins σ H {s with heap:=h',toks:=t'}:=by
 have far:∀b u,H b=some u->b∉fp:=fun b u e z=>by rw[(hf b z).1]at e;contradiction
 refine I.step (g':=s.gens) (d':=s.drawn) (ch:=fp) (fun b hb=>?_) (fun b u _ _ hc e _=>k b u hc e) (fun b u _ _ hc e _=>⟨u.slots,k b u hc e⟩) (fun b u _ e n=>n)
  (fun b u hc e=>⟨u,k b u hc e⟩) (fun b xs e=>e) (fun b u v e=>e) (fun b lq ps e=>⟨#[],by rw[e];simp⟩) (fun m hm=>?_) (fun b u e=>?_) I.bare
 ·obtain⟨_,f1,_,f3,f4,f5⟩:=hf b hb
  exact⟨f3,f1,f4,f5⟩
 ·obtain⟨ob,es,ep,ho,r⟩:=hm
  exact⟨ob,es,ep,k _ ob (fun z=>(hf _ z).2.1 rfl) ho,r⟩
 ·refine(I.hok b u e).stay (fun c v hc q=>k c v ?_ q) (fun _ q=>q) fun _ _ q=>q
  rcases hc with z|z
  ·rw[z];exact far b u e
  ·exact far c _ z
end
noncomputable def SqV (t:Bool) (K:PySem.W.Frag) (H:Hp) (a:Addr) (xs:List V):Prop:=if t=true then SqT K H a xs else SqL K H a xs
section
variable{prog:Program}{w:World}{A:Around}{E:Value->Shared->Prop}{s:Shared}
theorem mF {t u:Bool}{z P O c d p q:Addr}{n:Nat}{xs ys:Array Value}{Q:Option Value->Shared->Prop}(hh:A.handled=none) (ap:Ap z P O c d p q) (Z:Zp t u s.heap z P O c d p q n .none)
  (hp:SqAt t s.heap p xs) (hq:SqAt u s.heap q ys)
  (item:∀x y,xs[n]?=some x->ys[n]?=some y->∀h',Zp t u h' z P O c d p q (n+1) (rawInt s.heap.objs.size)->IsPair h' s.heap.objs.size x y->h'.objs.size=s.heap.objs.size+1->
   (∀b o,b∉[z,P,O,c,d]->s.heap.get? b=some o->h'.get? b=some o)->Q (some (.ref s.heap.objs.size)) {s with heap:=h'})
  (stop:(xs[n]?=none\/ys[n]?=none)->∀h',(∀b o,b∉[z,P,O,c,d]->s.heap.get? b=some o->h'.get? b=some o)->Q none {s with heap:=h'}):
  wpAny (model prog w) A (pyNext (.ref z)) Q E s:=by
 have ty:s.TypeIs (.ref z) "zip":=⟨_,Z.zz,rfl⟩;unfold pyNext;refine wpAny_bind (wpAny_attempt (wpAny_callSpecial?_slot (name:=Str.ofString "__next__") ty F.slot_zip_next (wpAny_call_entry F.slot_zip_next ty F.entry_zip_next (rY hh ap Z hp hq (fun x y hx hy h' b1 b2 b3 b4=>wpAny_pure (item x y hx hy h' b1 b2 b3 b4)) fun hn h' e k he=>?_) (F.args_zip_next_1 _))))
 obtain⟨o,ho,hc⟩:=he;exact wpAny_bind (wpAny_isInstance (T:="StopIteration") (b:=true) ⟨o,ho,hc⟩ isSubtype_stop (wpAny_pure (stop hn h' k)))
end
section
variable{X:Cx}{pins:List (Addr×Obj)}{σ:St}{H:Hp}{s:Shared}
theorem Inv.seqV {t:Bool}{a:Addr}{xs:List V}(I:Inv X pins σ H s) (h:SqV t X.K H a xs):∃its,Vals xs its/\SqAt t s.heap a its.toArray:=by
 cases t with
 |true=>obtain⟨its,rv,p,_⟩:=I.tuple h;exact⟨its,rv,p⟩
 |false=>obtain⟨its,rv,p,_⟩:=I.list h;exact⟨its,rv,p.isList⟩
theorem Inv.seqV_inj {t:Bool}{a:Addr}{xs ys:List V}(I:Inv X pins σ H s) (h:SqV t X.K H a xs) (h':SqV t X.K H a ys):xs=ys:=by
 cases t with
 |true=>exact I.tuple_inj h h'
 |false=>exact I.list_inj h h'
end
noncomputable def Itz (t u:Bool) (K:PySem.W.Frag) (p q:Addr):It:=
 ⟨fun i H=>∃xs ys x y,SqV t K H p xs/\SqV u K H q ys/\xs[i]?=some x/\ys[i]?=some y,
  fun i H v H'=>∃T x y,H T=none/\v=.ref T/\H'=upd H T (.tup [x,y])/\(∀xs,SqV t K H p xs->xs[i]?=some x)/\∀ys,SqV u K H q ys->ys[i]?=some y,
  fun i H=>∃xs ys,SqV t K H p xs/\SqV u K H q ys/\(xs.length<=i\/ys.length<=i)⟩
theorem tj {P:Program}{w:World}{K:PySem.W.Frag}{elts:List Expr}{x1} {pos:Pos}{t u:Bool}{z Pr O c d p q:Addr}(ap:Ap z Pr O c d p q):
  Turn P w K (.Tuple elts x1 pos) (Itz t u K p q) [z,Pr,O,c,d] z (fun n h=>Zp t u h z Pr O c d p q n .none) where
 mem:=by simp
 obj:=fun i h st b hb=>by
  obtain⟨zz,pp,⟨a,a',oo⟩,cc,dd⟩:=st;simp only[List.mem_cons,List.not_mem_nil,or_false]at hb
  rcases hb with rfl|rfl|rfl|rfl|rfl
  ·exact⟨_,zz,fun v e=>by cases e⟩
  ·exact⟨_,pp,fun v e=>by cases e⟩
  ·exact⟨_,oo,fun v e=>by cases e⟩
  ·obtain⟨o,e,_,hd⟩:=cc.obj;exact⟨o,e,fun v e'=>by rw[hd]at e';cases e'⟩
  ·obtain⟨o,e,_,hd⟩:=dd.obj;exact⟨o,e,fun v e'=>by rw[hd]at e';cases e'⟩
 keep:=fun i h h' st k=>by
  obtain⟨zz,pp,⟨a,a',oo⟩,cc,dd⟩:=st;exact⟨k z (by simp) _ zz,k Pr (by simp) _ pp,⟨a,a',k O (by simp) _ oo⟩,cc.to fun o e=>k c (by simp) o e,dd.to fun o e=>k d (by simp) o e⟩
 item:=by
  intro X hP hw hK hc i pins s σ H E I hf st hg;subst hP hw hK;obtain⟨xs,ys,x,y,h1,h2,hx,hy⟩:=hg;obtain⟨is,ri,sp⟩:=I.seqV h1;obtain⟨js,rj,sq⟩:=I.seqV h2;obtain⟨ux,e1,r1⟩:=ri.get hx;obtain⟨uy,e2,r2⟩:=rj.get hy;refine mF (I.ok.hd hc) ap st sp sq (fun vx vy hvx hvy h' Z' new sz k=>?_) fun hn=>?_
  ·have ex:vx=ux:=by simp at hvx;rw[e1]at hvx;exact(Option.some.inj hvx).symm
   have ey:vy=uy:=by simp at hvy;rw[e2]at hvy;exact(Option.some.inj hvy).symm
   subst ex ey;refine⟨_,rfl,?_⟩
   have hT:H s.heap.objs.size=none:=I.hok.fresh (Nat.le_refl _);have nT:∀b∈[z,Pr,O,c,d],b≠s.heap.objs.size:=fun b hb e=>by
    obtain⟨o,g,_⟩:=(show ∀b∈[z,Pr,O,c,d],∃o,s.heap.get? b=some o/\∀v,o.data≠.cell v from fun b hb=>by
     obtain⟨zz,pp,⟨a,a',oo⟩,cc,dd⟩:=st;simp only[List.mem_cons,List.not_mem_nil,or_false]at hb
     rcases hb with rfl|rfl|rfl|rfl|rfl
     ·exact⟨_,zz,fun v e=>by cases e⟩
     ·exact⟨_,pp,fun v e=>by cases e⟩
     ·exact⟨_,oo,fun v e=>by cases e⟩
     ·obtain⟨o,e,_,hd⟩:=cc.obj;exact⟨o,e,fun v e'=>by rw[hd]at e';cases e'⟩
     ·obtain⟨o,e,_,hd⟩:=dd.obj;exact⟨o,e,fun v e'=>by rw[hd]at e';cases e'⟩) b hb
    rw[e]at g;exact absurd (Heap.lt_size g) (Nat.lt_irrefl _)
   have I1:Inv X pins σ (upd H s.heap.objs.size (.tup [x,y])) {s with heap:=h'}:=I.turnLay (t':=s.toks) k hf (Nat.le_refl _) ⟨by show 2<=sizeLine;decide,[vx,vy],.cons r1 (.cons r2 .nil),⟨_,new,rfl,_,rfl⟩⟩
   obtain⟨zz,pp,oo,cc,dd⟩:=Z';have nd:=ap.nd;simp only[List.nodup_cons,List.mem_cons,List.not_mem_nil,or_false,not_or,List.nodup_nil,and_true,not_false_eq_true]at nd;refine wpAny_letOwnedTupleGo_zip zz fun g2 z2 m2=>?_
   have hz:=hf z (by simp)
   refine⟨.ref s.heap.objs.size,upd H s.heap.objs.size (.tup [x,y]),I1.turned (t':=s.toks) (fun b o hb e=>ak m2 hb e) (by rw[aj (nT z (by simp))];exact hz.1) hz.2.1 hz.2.2.2.1 hz.2.2.2.2.1 hz.2.2.2.2.2,rfl,
    ⟨s.heap.objs.size,x,y,hT,rfl,rfl,fun xs' h=>by rw[I.seqV_inj h h1];exact hx,fun ys' h=>by rw[I.seqV_inj h h2];exact hy⟩,?_,fun b hb=>by rw[aj (nT b hb)];exact(hf b hb).1⟩
   obtain⟨a,a',oo⟩:=oo;exact⟨z2,ak m2 (Ne.symm nd.1.1) pp,⟨a,a',ak m2 (Ne.symm nd.1.2.1) oo⟩,cc.to fun o e=>ak m2 (Ne.symm nd.1.2.2.1) e,dd.to fun o e=>ak m2 (Ne.symm nd.1.2.2.2) e⟩
  ·exfalso
   rcases hn with hn|hn
   ·simp at hn;have:=(List.getElem?_eq_some_iff.mp e1).1;lia
   ·simp at hn;have:=(List.getElem?_eq_some_iff.mp e2).1;lia
 done:=by
  intro X hP hw hK hc i pins s σ H E I hf st hg;subst hP hw hK;obtain⟨xs,ys,h1,h2,hl⟩:=hg;obtain⟨is,ri,sp⟩:=I.seqV h1;obtain⟨js,rj,sq⟩:=I.seqV h2;have l1:=ri.length;have l2:=rj.length;refine mF (I.ok.hd hc) ap st sp sq (fun vx vy hvx hvy h' Z' new sz k=>?_) fun hn h' k=>⟨rfl,I.turns (t':=s.toks) k hf⟩
  exfalso;simp at hvx hvy;have a1:=(List.getElem?_eq_some_iff.mp hvx).1
  have a2:=(List.getElem?_eq_some_iff.mp hvy).1
  lia
 self:=fun _ _ _ _ _ st h=>wpAny_pyIter_zip st.zz h
end L2
namespace L2
open PySem PySem.Spec PyProof.Rows
variable[Lams]
noncomputable def itO (t:Bool) (p:Addr):Obj:={cls:=.type (if t=true then "tuple_iterator" else "list_iterator"),data:=.fields #[.ref p,.int 0 0]}
theorem dY {prog:Program}{w:World}{A:Around}{E:Value->Shared->Prop}{s:Shared}{t:Bool}{p:Addr}{xs:Array Value}{Q:Value->Shared->Prop}(hp:SqAt t s.heap p xs) (h:Q (.ref s.heap.objs.size) {s with heap:=s.heap.push (itO t p)}):wpAny (model prog w) A (pyIter (.ref p)) Q E s:=by
 cases t with
 |true=>exact wpAny_pyIter_tuple hp h
 |false=>exact wpAny_pyIter_list hp h
noncomputable def zO (a b:Value):Obj:={cls:=.type "tuple",data:=.seq #[a,b]}
noncomputable def tu (t u:Bool) (h:Heap) (p q:Addr):Heap:=
 ((((h.push (itO t p)).push (itO u q)).push (zO (.ref h.objs.size) (.ref (h.push (itO t p)).objs.size))).push (zO .none .none)).push
  {cls:=.type "zip",data:=.fields #[.none,.bool false,.bool false,.ref ((h.push (itO t p)).push (itO u q)).objs.size,.ref (((h.push (itO t p)).push (itO u q)).push (zO (.ref h.objs.size) (.ref (h.push (itO t p)).objs.size))).objs.size]}
theorem wI (t u:Bool) (p q:Addr) (xs ys:Array Value):
  Meets (Builtin.«zip.__new__» ⟨[.type "zip",.ref p,.ref q],[]⟩) (fun _ R s=>SqAt t s.heap p xs/\SqAt u s.heap q ys/\
   R (.ok (.ret (.ref (((((s.heap.push (itO t p)).push (itO u q)).push (zO (.ref s.heap.objs.size) (.ref (s.heap.push (itO t p)).objs.size))).push (zO .none .none)).objs.size)))) {s with heap:=tu t u s.heap p q}):=
 .of_wp fun prog w A R s h=>by
  obtain⟨hp,g,d,tk,os⟩:=s;obtain⟨h1,h2,h⟩:=h;have hsub:=sub_zip;have k1:SqAt t (Shared.heap ⟨hp,g,d,tk,os⟩) p xs:=h1;have k2:SqAt u (Shared.heap ⟨hp.push (itO t p),g,d,tk,os⟩) q ys:=h2.to fun o e=>Heap.get?_push_of_some _ e
  wp_walk using dY k1,dY k2
  exact⟨_,rfl,h⟩
theorem rL {prog:Program}{w:World}{A:Around}{E:Value->Shared->Prop}{s:Shared}{t u:Bool}{p q:Addr}{xs ys:Array Value}{Q:Value->Shared->Prop}(hp:SqAt t s.heap p xs) (hq:SqAt u s.heap q ys)
  (h:∀z P O c d h',Ap z P O c d p q->Zp t u h' z P O c d p q 0 .none->(∀b∈[z,P,O,c,d],s.heap.objs.size<=b)->(∀b o,s.heap.get? b=some o->h'.get? b=some o)->Q (.ref z) {s with heap:=h'}):
  wpAny (model prog w) A (call (.type "zip") [.ref p,.ref q]) Q E s:=by
 refine callType_new F.called_zip (by decide) (F.typeCall_zip_2 _ _) (F.newCall_zip_2 _ _) (fun obj=>F.args_object_init_3 obj _ _) F.entry_zip_new (wI t u p q xs ys) ⟨hp,hq,?_⟩
 have lp:p<s.heap.objs.size:=by cases t<;>(obtain⟨o,e,_⟩:=hp;exact Heap.lt_size e)
 have lq:q<s.heap.objs.size:=by cases u<;>(obtain⟨o,e,_⟩:=hq;exact Heap.lt_size e)
 generalize e1:s.heap.push (itO t p)=k1;generalize e2:k1.push (itO u q)=k2;generalize e3:k2.push (zO (.ref s.heap.objs.size) (.ref k1.objs.size))=k3;generalize e4:k3.push (zO .none .none)=k4;have hL:tu t u s.heap p q=k4.push {cls:=.type "zip",data:=.fields #[.none,.bool false,.bool false,.ref k2.objs.size,.ref k3.objs.size]}:=by unfold tu;rw[e1,e2,e3,e4]
 have s1:k1.objs.size=s.heap.objs.size+1:=by rw[<-e1];exact Heap.size_push ..
 have s2:k2.objs.size=s.heap.objs.size+2:=by rw[<-e2,Heap.size_push,s1]
 have s3:k3.objs.size=s.heap.objs.size+3:=by rw[<-e3,Heap.size_push,s2]
 have s4:k4.objs.size=s.heap.objs.size+4:=by rw[<-e4,Heap.size_push,s3]
 have u1:∀{b o},s.heap.get? b=some o->k1.get? b=some o:=fun e=>by rw[<-e1];exact Heap.get?_push_of_some _ e
 have u2:∀{b o},k1.get? b=some o->k2.get? b=some o:=fun e=>by rw[<-e2];exact Heap.get?_push_of_some _ e
 have u3:∀{b o},k2.get? b=some o->k3.get? b=some o:=fun e=>by rw[<-e3];exact Heap.get?_push_of_some _ e
 have u4:∀{b o},k3.get? b=some o->k4.get? b=some o:=fun e=>by rw[<-e4];exact Heap.get?_push_of_some _ e
 have u5:∀{b o},k4.get? b=some o->(tu t u s.heap p q).get? b=some o:=fun e=>by rw[hL];exact Heap.get?_push_of_some _ e
 have z5:IsZip (tu t u s.heap p q) k4.objs.size k2.objs.size k3.objs.size .none:=by rw[hL];exact Heap.get?_push_size _ rfl
 have o5:IsPair (tu t u s.heap p q) k3.objs.size .none .none:=u5 (by rw[<-e4];exact Heap.get?_push_size _ rfl)
 have p5:IsPair (tu t u s.heap p q) k2.objs.size (.ref s.heap.objs.size) (.ref k1.objs.size):=u5 (u4 (by rw[<-e3];exact Heap.get?_push_size _ rfl))
 have d5:(tu t u s.heap p q).get? k1.objs.size=some (itO u q):=u5 (u4 (u3 (by rw[<-e2];exact Heap.get?_push_size _ rfl)))
 have c5:(tu t u s.heap p q).get? s.heap.objs.size=some (itO t p):=u5 (u4 (u3 (u2 (by rw[<-e1];exact Heap.get?_push_size _ rfl))))
 refine⟨⟨_,z5,rfl⟩,h k4.objs.size k2.objs.size k3.objs.size s.heap.objs.size k1.objs.size _ ⟨?_,?_,?_⟩ ⟨z5,p5,⟨_,_,o5⟩,?_,?_⟩ ?_ fun b o e=>u5 (u4 (u3 (u2 (u1 e))))⟩
 ·rw[s1,s2,s3,s4]
  simp only[List.nodup_cons,List.mem_cons,List.not_mem_nil,or_false,not_or,List.nodup_nil,and_true,not_false_eq_true];refine⟨⟨?_,?_,?_,?_⟩,⟨?_,?_,?_⟩,⟨?_,?_⟩,?_⟩<;>(intro e;have e':(_:Nat)=_:=e;lia)
 ·rw[s1,s2,s3,s4]
  simp only[List.mem_cons,List.not_mem_nil,or_false,not_or];have far:∀k:Nat,p≠s.heap.objs.size+k:=fun k=>Nat.ne_of_lt (Nat.lt_of_lt_of_le lp (Nat.le_add_right _ k))
  exact⟨far 4,far 2,far 3,far 0,far 1⟩
 ·rw[s1,s2,s3,s4]
  simp only[List.mem_cons,List.not_mem_nil,or_false,not_or];have far:∀k:Nat,q≠s.heap.objs.size+k:=fun k=>Nat.ne_of_lt (Nat.lt_of_lt_of_le lq (Nat.le_add_right _ k))
  exact⟨far 4,far 2,far 3,far 0,far 1⟩
 ·cases t<;>exact⟨_,c5,rfl,rfl⟩
 ·cases u<;>exact⟨_,d5,rfl,rfl⟩
 ·rw[s1,s2,s3,s4]
  intro b hb;simp only[List.mem_cons,List.not_mem_nil,or_false]at hb;have:(s.heap.objs.size:Nat)<=(b:Nat):=by rcases hb with rfl|rfl|rfl|rfl|rfl<;>lia
  exact this
section
variable{X:Cx}{elts:List Expr}{x1:Nat}{tp:Pos}
noncomputable def B3 (t u:Bool) (K:PySem.W.Frag) (ta:TA):TI:=fun σ H R=>ta σ H fun vs H1=>∃p q,vs=[.ref p,.ref q]/\(∃xs,SqV t K H1 p xs)/\(∃ys,SqV u K H1 q ys)/\R (Itz t u K p q) H1
theorem yV {t u:Bool}{a b:Expr}{ta:TA}{p pos:Pos}(hg:Gl X "zip") (hm:X.mg "zip"=none) (ha:PA X [a,b] ta) (hs:starEach [a,b] X.env=[(false,eval a X.env),(false,eval b X.env)]:=by rfl) (hs2:starEach [b] X.env=[(false,eval b X.env)]:=by rfl):
  PI X (.Tuple elts x1 tp) (.Call (.Name "zip" p) [a,b] [] pos) (B3 t u X.K ta):=by
 intro pins s σ H R I h;refine Call_ (gR I hg hm boot_zip (PyProof.Rows.callWith_type1 (thn (ha pos pins s σ H _ I h) fun us s1 ⟨vs,H1,I1,r1,q1⟩=>?_) (by rw[hs,hs2]) (by rw[hs2];rfl)))
 obtain⟨l1,l2,e,⟨xs,h1⟩,⟨ys,h2⟩,q⟩:=q1;subst e;cases r1 with
 |cons r rr=>
  cases rr with
  |cons r' rr=>
   cases rr;cases r;cases r';obtain⟨is,ri,sp⟩:=I1.seqV h1;obtain⟨js,rj,sq⟩:=I1.seqV h2;refine rL sp sq fun z P O c d h' ap Z hi k=>?_
   have I2:Inv X pins σ H1 {s1 with heap:=h'}:=I1.kept (t':=s1.toks) k
   refine wpAny_pyIter_zip (s:={s1 with heap:=h'}) Z.zz ⟨z,[z,P,O,c,d],_,_,H1,rfl,I2,tj ap,Z,fun b hb=>?_,q⟩
   have hn:H1 b=none:=I1.hok.fresh (hi b hb);obtain⟨f0,f1,f2,f3,f4,f5⟩:=I1.fpOk (hi b hb) hn;exact⟨f0,f1,f2,f3,f4,f5⟩
noncomputable def dZ:List D->List D->List D
 |d::ds,e::es=>.tup [d,e]::dZ ds es
 |_,_=>[]
theorem jX:∀(ds es:List D) (i:Nat) (x:D),(dZ ds es)[i]?=some x->∃d e,ds[i]?=some d/\es[i]?=some e/\x=.tup [d,e]
 |[],_,i,x,h=>by simp[dZ]at h
 |d::ds,[],i,x,h=>by simp[dZ]at h
 |d::ds,e::es,0,x,h=>by simp[dZ]at h;exact⟨d,e,rfl,rfl,h.symm⟩
 |d::ds,e::es,i+1,x,h=>by simp[dZ]at h;simpa using jX ds es i x h
theorem jV:∀ds es:List D,(dZ ds es).length=min ds.length es.length
 |[],_=>by simp[dZ]
 |d::ds,[]=>by simp[dZ]
 |d::ds,e::es=>by simp[dZ,jV ds es]
noncomputable def AB (t:Bool) (x:Option D):Option (List D):=if t=true then vW x else en x
noncomputable def Az (t u:Bool) (x y:Option D):Option (List D):=ac (AB t x) fun ds=>ac (AB u y) fun es=>some (dZ ds es)
theorem mT {K:PySem.W.Frag}{B:Addr->Prop}{H:Hp}{t:Bool}{x:Option D}{ds:List D}{v:V}{d:D}(h:AB t x=some ds) (e:x=some d) (r:Rep K B H d v):∃l xs,v=.ref l/\Reps K B H ds xs/\∀H',Ext B H H'->SqV t K H' l xs:=by
 cases t with
 |true=>
  have:=jw h;rw[e]at this;obtain rfl:=Option.some.inj this;simp only[Rep]at r;obtain⟨l,xs,rfl,hq,rs⟩:=r;exact⟨l,xs,rfl,rs,fun H' x=>SqT.of (x.tups _ _ hq)⟩
 |false=>
  have:=kA h;rw[e]at this;obtain rfl:=Option.some.inj this;simp only[Rep]at r;obtain⟨l,xs,rfl,hq,rs⟩:=r;exact⟨l,xs,rfl,rs,fun H' x=>(hq.ext x).sq⟩
theorem yZ {t u m:Bool}{a b:Expr}{fa fb:DEnv->Option D}{p pos:Pos}(g:Gl X "zip") (hm:X.mg "zip"=none) (h:DE X m a fa) (h':DE X m b fb) (hs:starEach [a,b] X.env=[(false,eval a X.env),(false,eval b X.env)]:=by rfl) (hs2:starEach [b] X.env=[(false,eval b X.env)]:=by rfl):
  DI X m (.Tuple elts x1 tp) (.Call (.Name "zip" p) [a,b] [] pos) (fun δ=>Az t u (fa δ) (fb δ)):=
 (yV (t:=t) (u:=u) g hm (av h (av h' aT hs2) (by rw[hs,hs2])) hs hs2).imp fun σ H Q hz=>by
  obtain⟨B,Hk,δ,ds,R,e,k⟩:=hz;obtain⟨as,q1,e⟩:=aa e;obtain⟨bs,q2,e⟩:=aa e;obtain rfl:=Option.some.inj e;obtain⟨d1,e1⟩:∃d,fa δ=some d:=by
   cases q:fa δ with
   |none=>rw[q]at q1;cases t<;>contradiction
   |some d=>exact⟨d,rfl⟩
  obtain⟨d2,e2⟩:∃d,fb δ=some d:=by
   cases q:fb δ with
   |none=>rw[q]at q2;cases u<;>contradiction
   |some d=>exact⟨d,rfl⟩
  refine two R e1 e2 fun v w H' s R' r1 r2=>?_
  obtain⟨l1,xs,rfl,rs1,sq1⟩:=mT q1 e1 r1;obtain⟨l2,ys,rfl,rs2,sq2⟩:=mT q2 e2 r2;refine⟨l1,l2,rfl,⟨xs,sq1 _ Ext.refl⟩,⟨ys,sq2 _ Ext.refl⟩,k _ H' s fun H2 x=>?_⟩
  have hx:=sq1 H2 x;have hy:=sq2 H2 x;have rx:=rs1.ext x;have ry:=rs2.ext x;refine⟨⟨xs,ys,hx,hy,?_⟩,fun i d hd=>?_⟩
  ·rw[jV,<-rx.length,<-ry.length];lia
  ·obtain⟨d1,d2,g1,g2,rfl⟩:=jX _ _ _ _ hd
   obtain⟨y1,w1,z1⟩:=rx.get g1;obtain⟨y2,w2,z2⟩:=ry.get g2;refine⟨⟨xs,ys,y1,y2,hx,hy,w1,w2⟩,fun v H3 ⟨T,v1,v2,hT,ev,e3,n1,n2⟩=>?_⟩
   have:=n1 xs hx;rw[w1]at this;obtain rfl:=Option.some.inj this;have:=n2 ys hy;rw[w2]at this;obtain rfl:=Option.some.inj this;have sm:Same H2 (upd H2 T (.tup [y1,y2])):=az hT;have bo:∀a,bF m B δ σ a->∃o:HOn,H2 a=some o.1:=fun a ha=>by
    obtain⟨o,ho⟩:=R'.bsH m a ha;exact⟨o,(x.lent a ha).trans ho⟩
   have ex:=sm.ext bo;rw[e3,ev];refine⟨sm,?_⟩
   simp only[Rep];exact⟨T,[y1,y2],rfl,ag,Reps.cons (z1.ext ex) (Reps.cons (z2.ext ex) Reps.nil)⟩
end
end L2
namespace L2
open PySem PySem.Spec PyProof.Rows
theorem iD {α β:Type}(f:α->β):∀{l1 l2:List β},l1.Perm l2->∀l:List α,l2=l.map f->∃l':List α,l'.Perm l/\l1=l'.map f:=by
 intro l1 l2 p
 induction p with
 |nil=>intro l h;exact⟨l,List.Perm.refl _,h⟩
 |cons x p ih=>
  intro l h;cases l with
  |nil=>contradiction
  |cons a l=>
   simp only[List.map_cons,List.cons.injEq]at h;obtain⟨l',p',e'⟩:=ih l h.2;exact⟨a::l',List.Perm.cons a p',by rw[List.map_cons,h.1,e']⟩
 |swap x y l0=>
  intro l h;cases l with
  |nil=>contradiction
  |cons a l=>
   cases l with
   |nil=>cases h
   |cons b l=>
    simp only[List.map_cons,List.cons.injEq]at h;exact⟨b::a::l,List.Perm.swap a b l,by rw[List.map_cons,List.map_cons,h.1,h.2.1,h.2.2]⟩
 |trans p q ih1 ih2=>
  intro l h;obtain⟨l2,p2,e2⟩:=ih2 l h;obtain⟨l1,p1,e1⟩:=ih1 l2 e2;exact⟨l1,p1.trans p2,e1⟩
noncomputable def uS:List Str->List Str
 |[]=>[]
 |x::l=>if x∈l then uS l else x::uS l
theorem jY (x:Str):∀l:List Str,x∈uS l↔x∈l
 |[]=>Iff.rfl
 |d::l=>by
  unfold uS;split
  ·rename_i h
   rw[jY x l,List.mem_cons];exact⟨.inr,fun z=>z.elim (fun e=>e▸h) id⟩
  ·rw[List.mem_cons,List.mem_cons,jY x l]
theorem e8:∀l:List Str,(uS l).Nodup
 |[]=>List.nodup_nil
 |d::l=>by
  unfold uS;split
  ·exact e8 l
  ·rename_i h
   exact List.nodup_cons.mpr ⟨fun z=>h ((jY d l).mp z),e8 l⟩
theorem uF:∀l:List Str,(uS l).length<=l.length
 |[]=>Nat.le_refl _
 |d::l=>by
  have:=uF l;unfold uS;split<;>simp<;>lia
noncomputable abbrev dk (w:World):Bool:=!w.params.followText "set-order"
theorem aF:Slot "set_iterator" "__next__" "set_iterator.__next__":=
 .of (owner:="set_iterator") (n:="__next__") (by rw[typeLookup_type,builtinLookup_eq_fast];kernel_rfl) (by decide +kernel) (by decide +kernel) (by decide +kernel)
  (by first|exact .inl (by decide +kernel)|exact .inr (by decide +kernel)) (by rw[isSubtype_type];kernel_rfl)
theorem bG:entryFor table "set_iterator.__next__"=some Builtin.«set_iterator.__next__»:=entryFor_of_tree (by kernel_rfl)
theorem eS:Slot "set_iterator" "__iter__" "set_iterator.__iter__":=
 .of (owner:="set_iterator") (n:="__iter__") (by rw[typeLookup_type,builtinLookup_eq_fast];kernel_rfl) (by decide +kernel) (by decide +kernel) (by decide +kernel)
  (by first|exact .inl (by decide +kernel)|exact .inr (by decide +kernel)) (by rw[isSubtype_type];kernel_rfl)
theorem i6:entryFor table "set_iterator.__iter__"=some Builtin.«dict_keyiterator.__iter__»:=
 entryFor_alias (id':="dict_keyiterator.__iter__") (by kernel_rfl) rfl (by decide +kernel) (by kernel_rfl)
theorem fR:entryFor table "set.__iter__"=some Builtin.«frozenset.__iter__»:=
 entryFor_alias (id':="frozenset.__iter__") (by kernel_rfl) rfl (by decide +kernel) (by kernel_rfl)
theorem bX (a:Value):argsOk "set_iterator.__next__" ⟨[a],[]⟩:=by
 unfold argsOk;kernel_rfl
theorem jd (a:Value):argsOk "set_iterator.__iter__" ⟨[a],[]⟩:=by
 unfold argsOk;kernel_rfl
theorem gU {α:Type}{l:List α}{i:Nat}(h:i<l.length):(l[i]::l.eraseIdx i).Perm l:=by
 rw[List.eraseIdx_eq_take_drop_succ];refine List.perm_middle.symm.trans ?_
 rw[<-List.drop_eq_getElem_cons h,List.take_append_drop]
theorem hW {prog:Program}{w:World}{A:Around}{E:Value->Shared->Prop}{α:Type}:∀(n:Nat) (xs:List α) (s:Shared) (Q:List α->Shared->Prop),xs.length=n->
  (∀ys d,ys.Perm xs->Q ys {s with drawn:=d})->wpAny (model prog w) A (drawOrder n xs) Q E s
 |0,xs,s,Q,hl,hQ=>by
  have:xs=[]:=List.length_eq_zero_iff.mp hl;subst this;unfold drawOrder;exact wpAny_pure (hQ [] s.drawn (List.Perm.refl _))
 |n+1,[],s,Q,hl,hQ=>by contradiction
 |n+1,x::xs,s,Q,hl,hQ=>by
  unfold drawOrder;refine wpAny_bind (Q:=Q) ?_
  intro Γ p hΓ;refine⟨by simp,?_⟩
  generalize hd:s.drawn.bump .order=d1;generalize hi:(model prog w).w.draws .order (s.drawn.get .order)%(x::xs).length=i;have hlt:i<(x::xs).length:=by rw[<-hi];exact Nat.mod_lt _ (by simp)
  have key:wpAny (model prog w) A (match(x::xs)[i]? with|some y=>(do return y::(<-drawOrder n ((x::xs).eraseIdx i)))|none=>unsupported "internal:drawOrder") Q E {s with drawn:=d1}:=by
   rw[List.getElem?_eq_getElem hlt]
   dsimp only;refine wpAny_bind (hW n ((x::xs).eraseIdx i) _ _ (by rw[List.length_eraseIdx_of_lt hlt,hl];rfl) fun ys d hp=>?_)
   refine wpAny_pure (hQ _ d ?_)
   exact(List.Perm.cons _ hp).trans (gU hlt)
  exact key
theorem rB {α:Type}(f:Nat->Nat):∀(fuel k:Nat) (left:List α) (out:Array α),fuel=left.length->(pickOrder.go f fuel k left out).toList.Perm (out.toList++left)
 |0,k,left,out,h=>by
  have:left=[]:=List.length_eq_zero_iff.mp h.symm;subst this;unfold pickOrder.go;simp
 |fuel+1,k,left,out,h=>by
  unfold pickOrder.go;have hlt:f k%left.length<left.length:=Nat.mod_lt _ (by lia)
  rw[List.getElem?_eq_getElem hlt]
  dsimp only;refine(rB f fuel (k+1) _ _ (by rw[List.length_eraseIdx_of_lt hlt];lia)).trans ?_
  rw[Array.toList_push,List.append_assoc];exact List.Perm.append_left _ (gU hlt)
theorem oN {α:Type}(f:Nat->Nat) (xs:Array α):(pickOrder f xs).toList.Perm xs.toList:=by
 unfold pickOrder
 simpa using rB f xs.size 0 xs.toList #[] (by simp)
theorem sL {es:List (Int×Value)}{order:List Nat}(h:order.Perm (List.range es.length)):(order.filterMap (es[·]?)).Perm es:=by
 have h1:=h.filterMap (es[·]?)
 rwa[List.filterMap_getElem?_range_length]at h1
structure SetIs (h:Heap) (S:Addr) (es:List (Int×Value)) (ep:Nat) (t:SetTable):Prop where
 ob:∃o,h.get? S=some o/\o.ExactSet/\o.data=.set es.toArray ep t
 fits:t.fits es.toArray.size=true
theorem SetIs.at {h h':Heap}{S:Addr}{es:List (Int×Value)}{ep:Nat}{t:SetTable}(x:SetIs h S es ep t) (k:∀o,h.get? S=some o->h'.get? S=some o):SetIs h' S es ep t:=by
 obtain⟨⟨o,ho,r⟩,a⟩:=x;exact⟨⟨o,k o ho,r⟩,a⟩
noncomputable def IterAt (h:Heap) (I:Addr) (first:Value) (i:Nat) (S:Addr) (n ep:Nat):Prop:=∃o,h.get? I=some o/\o.cls=.type "set_iterator"/\o.data=.fields #[first,rawInt i,.ref S,rawInt n,rawInt ep]
theorem IterAt.typeIs {s:Shared}{I S:Addr}{first:Value}{i n ep:Nat}(x:IterAt s.heap I first i S n ep):s.TypeIs (.ref I) "set_iterator":=by
 obtain⟨o,ho,hc,_⟩:=x;exact⟨o,ho,hc⟩
theorem IterAt.at {h h':Heap}{I S:Addr}{first:Value}{i n ep:Nat}(x:IterAt h I first i S n ep) (k:∀o,h.get? I=some o->h'.get? I=some o):IterAt h' I first i S n ep:=by
 obtain⟨o,ho,r⟩:=x;exact⟨o,k o ho,r⟩
section
variable{prog:Program}{w:World}{A:Around}{E:Value->Shared->Prop}{s:Shared}{I S:Addr}{es:List (Int×Value)}{ep:Nat}{t:SetTable}{i:Nat}
theorem jf {sl nx:Nat}{v:Value}{Q:Option Value->Shared->Prop}(hne:S≠I) (it:IterAt s.heap I (rawInt sl) i S es.length ep) (st:SetIs s.heap S es ep t)
  (hn:∀(s:Shared) (R:Option (Value×Nat)->Shared->Prop) (E:Value->Shared->Prop),SetIs s.heap S es ep t->R (some (v,nx)) s->wpAny (model prog w) A.in1 (setNext S sl i ep) R E s)
  (hQ:∀h',IterAt h' I (rawInt nx) (i+1) S es.length ep->(∀b o,b≠I->s.heap.get? b=some o->h'.get? b=some o)->Q (some v) {s with heap:=h'}):wpAny (model prog w) A (pyNext (.ref I)) Q E s:=by
 have hT:=it.typeIs;obtain⟨o,ho,hc,hd⟩:=it;unfold pyNext;refine wpAny_bind (wpAny_attempt (wpAny_callSpecial?_slot (name:=Str.ofString "__next__") hT aF (wpAny_call_entry aF hT bG ?_ (bX _))))
 unfold Builtin.«set_iterator.__next__»;refine wpAny_bind (m:=slotArgs "__next__" 0 _) (wpAny_pure ?_)
 dsimp only;refine wpAny_bind (wpAny_fieldsOf ho hd ?_)
 dsimp only[rawInt];obtain⟨os,hos,hex,hds⟩:=st.ob;refine wpAny_bind (wpAny_setEntries_of hos hds st.fits ?_)
 rw[if_neg (by simp)]
 simp only[Int.toNat_natCast];refine wpAny_bind (hn s _ _ st ?_)
 dsimp only;refine wpAny_bind (wpAny_setField ho hd (by simp) ?_)
 have g1:=Heap.get?_update_self (Obj.mapFields (·.setIfInBounds 0 (rawInt nx))) ho (Obj.isFreed_of_fields (Obj.data_mapFields hd _))
 refine wpAny_bind (wpAny_setField g1 (Obj.data_mapFields hd _) (by simp) ?_)
 have g2:=Heap.get?_update_self (Obj.mapFields (·.setIfInBounds 1 (rawInt ((i:Int)+1)))) g1 (Obj.isFreed_of_fields (Obj.data_mapFields (Obj.data_mapFields hd _) _))
 refine wpAny_pure ⟨_,rfl,wpAny_pure (hQ _ ?_ ?_)⟩
 ·exact⟨_,g2,(Obj.cls_mapFields ..).trans ((Obj.cls_mapFields ..).trans hc),by rw[Obj.data_mapFields (Obj.data_mapFields hd _)];simp[rawInt]⟩
 ·intro b o' hb e
  exact(Heap.get?_update_other _ _ (Ne.symm hb)).trans ((Heap.get?_update_other _ _ (Ne.symm hb)).trans e)
theorem iA {T:Addr}{ps:List Nat}{p:Nat}{e:Int×Value}{Q:Option Value->Shared->Prop}(hne:S≠I) (it:IterAt s.heap I (.ref T) i S es.length ep) (st:SetIs s.heap S es ep t) (ht:∃o n,s.heap.get? T=some o/\o.data=.seq (ps.map fun(k:Nat)=>rawInt k).toArray n)
  (hp:ps[i]?=some p) (he:es[p]?=some e)
  (hQ:∀h',IterAt h' I (.ref T) (i+1) S es.length ep->(∀b o,b≠I->s.heap.get? b=some o->h'.get? b=some o)->Q (some e.2) {s with heap:=h'}):wpAny (model prog w) A (pyNext (.ref I)) Q E s:=by
 have hT:=it.typeIs;obtain⟨o,ho,hc,hd⟩:=it;unfold pyNext;refine wpAny_bind (wpAny_attempt (wpAny_callSpecial?_slot (name:=Str.ofString "__next__") hT aF (wpAny_call_entry aF hT bG ?_ (bX _))))
 unfold Builtin.«set_iterator.__next__»;refine wpAny_bind (m:=slotArgs "__next__" 0 _) (wpAny_pure ?_)
 dsimp only;refine wpAny_bind (wpAny_fieldsOf ho hd ?_)
 dsimp only[rawInt];obtain⟨os,hos,hex,hds⟩:=st.ob;refine wpAny_bind (wpAny_setEntries_of hos hds st.fits ?_)
 rw[if_neg (by simp)]
 simp only[Int.toNat_natCast];obtain⟨oT,nT,hoT,hdT⟩:=ht;refine wpAny_bind (wpAny_seqItems hoT hdT ?_)
 dsimp only;have e1:(ps.map fun(k:Nat)=>rawInt k).toArray[i]?=some (rawInt p):=by simp[hp]
 rw[e1];dsimp only[rawInt];simp only[Int.toNat_natCast];refine wpAny_bind ?_
 unfold setNextDrawn;refine wpAny_bind (wpAny_setState_of hos hds st.fits ?_)
 dsimp only;rw[if_neg (by simp)]
 have e2:es.toArray[p]?=some e:=by simp[he]
 rw[e2];dsimp only;refine wpAny_pure ?_
 refine wpAny_bind (wpAny_setField ho hd (by simp) ?_)
 have g2:=Heap.get?_update_self (Obj.mapFields (·.setIfInBounds 1 (rawInt ((i:Int)+1)))) ho (Obj.isFreed_of_fields (Obj.data_mapFields hd _))
 refine wpAny_pure ⟨_,rfl,wpAny_pure (hQ _ ?_ ?_)⟩
 ·exact⟨_,g2,(Obj.cls_mapFields ..).trans hc,by rw[Obj.data_mapFields hd];simp[rawInt]⟩
 ·intro b o' hb e
  exact(Heap.get?_update_other _ _ (Ne.symm hb)).trans e
theorem kO {sl:Nat}{Q:Option Value->Shared->Prop}(hh:A.handled=none) (it:IterAt s.heap I (rawInt sl) i S es.length ep) (st:SetIs s.heap S es ep t)
  (hn:∀(s:Shared) (R:Option (Value×Nat)->Shared->Prop) (E:Value->Shared->Prop),SetIs s.heap S es ep t->R none s->wpAny (model prog w) A.in1 (setNext S sl i ep) R E s)
  (hQ:∀h',(∀b o,b≠I->s.heap.get? b=some o->h'.get? b=some o)->Q none {s with heap:=h'}):wpAny (model prog w) A (pyNext (.ref I)) Q E s:=by
 have hT:=it.typeIs;obtain⟨o,ho,hc,hd⟩:=it;unfold pyNext;refine wpAny_bind (wpAny_attempt (wpAny_callSpecial?_slot (name:=Str.ofString "__next__") hT aF (wpAny_call_entry aF hT bG ?_ (bX _))))
 unfold Builtin.«set_iterator.__next__»;refine wpAny_bind (m:=slotArgs "__next__" 0 _) (wpAny_pure ?_)
 dsimp only;refine wpAny_bind (wpAny_fieldsOf ho hd ?_)
 dsimp only[rawInt];obtain⟨os,hos,hex,hds⟩:=st.ob;refine wpAny_bind (wpAny_setEntries_of hos hds st.fits ?_)
 rw[if_neg (by simp)]
 simp only[Int.toNat_natCast];refine wpAny_bind (hn s _ _ st ?_)
 dsimp only;refine wpAny_bind (wpAny_setField ho hd (by simp) ?_)
 refine wpAny_bind ?_
 simp only[newExc,newTuple];refine wpAny_bind (wpAny_newObj_type ?_ (by size_fits))
 refine wpAny_bind (m:=firstArgMember _ _) (wpAny_of_eq (a:=Value.none) (by first|rfl|(simp only[firstArgMember];rfl)) ?_)
 refine wpAny_newObj_type ?_ (by size_fits)
 simp only[raiseNew];refine wpAny_bind (wpAny_handled ?_)
 rw[show A.in1.handled=none from hh]
 refine wpAny_bind (wpAny_pure (wpAny_throw ?_))
 refine wpAny_bind (wpAny_isInstance (T:="StopIteration") (b:=true) ⟨_,Heap.get?_push_size _ rfl,rfl⟩ isSubtype_stop ?_)
 exact wpAny_pure (hQ _ fun b o' hb e=>Heap.get?_push_of_some _ (Heap.get?_push_of_some _ ((Heap.get?_update_other _ _ (Ne.symm hb)).trans e)))
theorem jD {T:Addr}{ps:List Nat}{Q:Option Value->Shared->Prop}(hh:A.handled=none) (it:IterAt s.heap I (.ref T) i S es.length ep) (st:SetIs s.heap S es ep t) (ht:∃o n,s.heap.get? T=some o/\o.data=.seq (ps.map fun(k:Nat)=>rawInt k).toArray n)
  (hp:ps[i]?=none) (hQ:∀h',(∀b o,b≠I->s.heap.get? b=some o->h'.get? b=some o)->Q none {s with heap:=h'}):wpAny (model prog w) A (pyNext (.ref I)) Q E s:=by
 have hT:=it.typeIs;obtain⟨o,ho,hc,hd⟩:=it;unfold pyNext;refine wpAny_bind (wpAny_attempt (wpAny_callSpecial?_slot (name:=Str.ofString "__next__") hT aF (wpAny_call_entry aF hT bG ?_ (bX _))))
 unfold Builtin.«set_iterator.__next__»;refine wpAny_bind (m:=slotArgs "__next__" 0 _) (wpAny_pure ?_)
 dsimp only;refine wpAny_bind (wpAny_fieldsOf ho hd ?_)
 dsimp only[rawInt];obtain⟨os,hos,hex,hds⟩:=st.ob;refine wpAny_bind (wpAny_setEntries_of hos hds st.fits ?_)
 rw[if_neg (by simp)]
 simp only[Int.toNat_natCast];obtain⟨oT,nT,hoT,hdT⟩:=ht;refine wpAny_bind (wpAny_seqItems hoT hdT ?_)
 dsimp only;have e1:(ps.map fun(k:Nat)=>rawInt k).toArray[i]?=none:=by simpa using hp
 rw[e1];dsimp only;refine wpAny_bind (wpAny_setField ho hd (by simp) ?_)
 have g1:=Heap.get?_update_self (Obj.mapFields (·.setIfInBounds 0 (rawInt 0))) ho (Obj.isFreed_of_fields (Obj.data_mapFields hd _))
 refine wpAny_bind (wpAny_setField g1 (Obj.data_mapFields hd _) (by simp) ?_)
 refine wpAny_bind ?_
 simp only[newExc,newTuple];refine wpAny_bind (wpAny_newObj_type ?_ (by size_fits))
 refine wpAny_bind (m:=firstArgMember _ _) (wpAny_of_eq (a:=Value.none) (by first|rfl|(simp only[firstArgMember];rfl)) ?_)
 refine wpAny_newObj_type ?_ (by size_fits)
 simp only[raiseNew];refine wpAny_bind (wpAny_handled ?_)
 rw[show A.in1.handled=none from hh]
 refine wpAny_bind (wpAny_pure (wpAny_throw ?_))
 refine wpAny_bind (wpAny_isInstance (T:="StopIteration") (b:=true) ⟨_,Heap.get?_push_size _ rfl,rfl⟩ isSubtype_stop ?_)
 exact wpAny_pure (hQ _ fun b o' hb e=>Heap.get?_push_of_some _ (Heap.get?_push_of_some _ ((Heap.get?_update_other _ _ (Ne.symm hb)).trans ((Heap.get?_update_other _ _ (Ne.symm hb)).trans e))))
theorem oj {first:Value}{n:Nat}{Q:Value->Shared->Prop}(it:IterAt s.heap I first i S n ep) (hQ:Q (.ref I) s):wpAny (model prog w) A (pyIter (.ref I)) Q E s:=by
 refine wpAny_pyIter_slot it.typeIs eS (wpAny_call_entry eS it.typeIs i6 ?_ (jd _))
 show wpAny _ _ (ret (.ref I)) _ _ s;exact wpAny_pure ⟨_,rfl,"set_iterator",_,it.typeIs,aF.lookup,hQ⟩
end
section
variable{prog:Program}{w:World}{A:Around}{E:Value->Shared->Prop}{s:Shared}{S:Addr}{es:List (Int×Value)}{ep:Nat}{t:SetTable}{i sl:Nat}
theorem gY (a:Addr) (slot given epochThen:Nat):setNext a slot given epochThen=(do
  let (es,epoch,t) <-setState a
  if <-setsByText then
   if epoch != epochThen then unsupported "set_iterator.__next__:elements-changed"
   return ((<-setWalk a)[given]?).map fun e=>(e.2,slot)
  if !t.plain&&es.size>1 then unsupported "set_iterator.__next__:the-table-is-plain-no-more"
  (if(!t.led&&!es.isEmpty)=true then unsupported "set:maker-not-led" else pure ():Sem Unit)
  let i:=SetTable.below t.place slot
  return match es[i]?,t.place[i]? with
   |some (_,x),some j=>some (x,j+1)
   |_,_=>none):=rfl
theorem kz (hb:w.params.followText "set-order"=true) (st:SetIs s.heap S es ep t) {R:Option (Value×Nat)->Shared->Prop}
  (h:R (((pickOrder (w.params.setOrder S ep) es.toArray)[i]?).map fun e=>(e.2,sl)) s):wpAny (model prog w) A (setNext S sl i ep) R E s:=by
 obtain⟨os,hos,hex,hds⟩:=st.ob;rw[gY];refine wpAny_bind (wpAny_setState_of hos hds st.fits ?_)
 dsimp only;unfold setsByText;refine wpAny_bind (wpAny_bind (wpAny_askSetting (wpAny_pure ?_)))
 show wpAny _ _ (if w.params.followText "set-order"=true then _ else _) _ _ _
 rw[if_pos hb,if_neg (by simp)]
 refine wpAny_bind ?_
 unfold setWalk setsByText;refine wpAny_bind (wpAny_setState_of hos hds st.fits ?_)
 dsimp only;refine wpAny_bind (wpAny_bind (wpAny_askSetting (wpAny_pure ?_)))
 show wpAny _ _ (if w.params.followText "set-order"=true then _ else _) _ _ _
 rw[if_pos hb];refine wpAny_bind (wpAny_askSetting (wpAny_pure ?_))
 exact wpAny_pure h
theorem j7 (hb:w.params.followText "set-order"=false) (st:SetIs s.heap S es ep t) (hled:t.led=true) (hpl:(!t.plain&&decide (es.toArray.size>1))=false) {R:Option (Value×Nat)->Shared->Prop}
  (h:R (match es.toArray[SetTable.below t.place sl]?,t.place[SetTable.below t.place sl]? with|some (_,x),some j=>some (x,j+1)|_,_=>none) s):wpAny (model prog w) A (setNext S sl i ep) R E s:=by
 obtain⟨os,hos,hex,hds⟩:=st.ob;rw[gY];refine wpAny_bind (wpAny_setState_of hos hds st.fits ?_)
 dsimp only;unfold setsByText;refine wpAny_bind (wpAny_bind (wpAny_askSetting (wpAny_pure ?_)))
 show wpAny _ _ (if w.params.followText "set-order"=true then _ else _) _ _ _
 rw[if_neg (by rw[hb];exact Bool.false_ne_true),if_neg (by rw[hpl];exact Bool.false_ne_true),if_neg (by rw[hled];simp)]
 refine wpAny_bind (wpAny_pure ?_)
 exact wpAny_pure h
end
noncomputable def jQ (t:SetTable) (i:Nat):Nat:=match i with|0=>0|k+1=>t.place.getD k 0+1
theorem eV {t:SetTable}{i:Nat}(h1:t.place.size<=1) (hi:i<=t.place.size):SetTable.below t.place (jQ t i)=i:=by
 obtain⟨m,⟨l⟩,d,f,le,mo,pl⟩:=t
 match l,h1 with
 |[],_=>cases Nat.le_zero.mp hi;rfl
 |[p],_=>
  match i,hi with
  |0,_=>simp[SetTable.below,SetTable.below.go,jQ]
  |1,_=>simp[SetTable.below,SetTable.below.go,jQ]
section
variable{prog:Program}{w:World}{A:Around}{E:Value->Shared->Prop}{s:Shared}{I S:Addr}{es:List (Int×Value)}{ep:Nat}{t:SetTable}
theorem kg {vs:List Value}{nx:Nat->Nat}(hl:vs.length=es.length) (hnx:∀i (hi:i<vs.length) (s:Shared) (R:Option (Value×Nat)->Shared->Prop) (E:Value->Shared->Prop),SetIs s.heap S es ep t->R (some (vs[i],nx (i+1))) s->wpAny (model prog w) A.in1 (setNext S (nx i) i ep) R E s)
  (hend:∀(s:Shared) (R:Option (Value×Nat)->Shared->Prop) (E:Value->Shared->Prop),SetIs s.heap S es ep t->R none s->wpAny (model prog w) A.in1 (setNext S (nx es.length) es.length ep) R E s) (hh:A.handled=none) (hne:S≠I):
  Walks prog w A I [I,S] [I] es.length (fun i v=>vs[i]?=some v) (fun i h=>IterAt h I (rawInt (nx i)) i S es.length ep/\SetIs h S es ep t) where
 sub:=fun b hb=>by simp at hb;simp[hb]
 frame:=fun _ _ _ st hk=>⟨st.1.at fun o e=>hk I (by simp) o e,st.2.at fun o e=>hk S (by simp) o e⟩
 item:=fun i s Q E hi st hQ=>jf hne st.1 st.2 (hnx i (by lia)) fun h' it' k=>
  hQ _ h' s.toks (List.getElem?_eq_getElem _) ⟨it',st.2.at fun o e=>k S o hne e⟩ fun b o hb e=>k b o (fun z=>hb (by simp[z])) e
 done:=fun s Q E st hQ=>kO hh st.1 st.2 hend fun h' k=>hQ h' s.toks fun b o hb e=>k b o (fun z=>hb (by simp[z])) e
 self:=fun _ _ _ _ st hQ=>oj st.1 hQ
theorem kQ {T:Addr}{ps:List Nat}(hp:ps.Perm (List.range es.length)) (hh:A.handled=none) (hne:S≠I) (hTI:T≠I):Walks prog w A I [I,S,T] [I] es.length (fun i v=>((ps.filterMap (es[·]?)).map (·.2))[i]?=some v)
  (fun i h=>IterAt h I (.ref T) i S es.length ep/\SetIs h S es ep t/\∃o n,h.get? T=some o/\o.data=.seq (ps.map fun(k:Nat)=>rawInt k).toArray n) where
 sub:=fun b hb=>by simp at hb;simp[hb]
 frame:=fun _ _ _ st hk=>⟨st.1.at fun o e=>hk I (by simp) o e,st.2.1.at fun o e=>hk S (by simp) o e,by obtain⟨o,n,e,r⟩:=st.2.2;exact⟨o,n,hk T (by simp) o e,r⟩⟩
 item:=fun i s Q E hi st hQ=>by
  have hpl:=hp.length_eq;rw[List.length_range]at hpl;have hip:i<ps.length:=by lia
  have hpe:ps[i]<es.length:=List.mem_range.mp (hp.mem_iff.mp (List.getElem_mem hip));refine iA (ps:=ps) (p:=ps[i]) (e:=es[ps[i]]) hne st.1 st.2.1 st.2.2 (by simp[hip]) (by simp[hpe]) fun h' it' k=>?_
  refine hQ _ h' s.toks ?_ ⟨it',st.2.1.at fun o e=>k S o hne e,by obtain⟨o,n,e,r⟩:=st.2.2;exact⟨o,n,k T o hTI e,r⟩⟩ fun b o hb e=>k b o (fun z=>hb (by simp[z])) e
  have e1:ps.filterMap (es[·]?)=ps.map fun k=>es.getD k (0,.none):=by
   have hall:∀k∈ps,k<es.length:=fun k hk=>List.mem_range.mp (hp.mem_iff.mp hk)
   clear hpl hip hpe hp hi hQ st
   induction ps with
   |nil=>rfl
   |cons k ps ih=>
    have hk:=hall k (List.mem_cons_self ..);rw[List.filterMap_cons,List.getElem?_eq_getElem hk,List.map_cons,ih fun z hz=>hall z (List.mem_cons_of_mem _ hz)]
    simp[hk]
  rw[e1];simp[hip,hpe]
 done:=fun s Q E st hQ=>by
  have hpl:=hp.length_eq;rw[List.length_range]at hpl;exact jD hh st.1 st.2.1 st.2.2 (by rw[List.getElem?_eq_none (by lia)]) fun h' k=>hQ h' s.toks fun b o hb e=>k b o (fun z=>hb (by simp[z])) e
 self:=fun _ _ _ _ st hQ=>oj st.1 hQ
end
theorem kK (a:Addr):setDrawn a=(do
  let (es,_,t) <-setState a
  let byText <-setsByText
  return !byText&&(!t.plain&&es.size>1)):=rfl
theorem oU:typeLookup (.type "set") "__len__"=pure (some (.builtin "set.__len__")):=F.slot_set_len.lookup
section
variable{prog:Program}{w:World}{A:Around}{E:Value->Shared->Prop}{s:Shared}{S:Addr}{es:List (Int×Value)}{ep:Nat}{t:SetTable}
theorem sY (st:SetIs s.heap S es ep t) (hled:t.led=dk w) (hpl:es.length<=1\/t.plain=false) (hn:es.length<=1000) {Q:Value->Shared->Prop}
  (hQ:∀(I:Addr) (vs:List Value) (fp:List Addr) (St:Nat->Heap->Prop) (h':Heap) (d:Drawn),vs.Perm (es.map (·.2))->(∀A':Around,A'.handled=none->Walks prog w A' I fp [I] es.length (fun i v=>vs[i]?=some v) St)->St 0 h'->
   (∀b o,s.heap.get? b=some o->h'.get? b=some o)->s.heap.objs.size<=I->I∈fp->(∀b∈fp,b=S\/s.heap.objs.size<=b)->Q (.ref I) {s with heap:=h',drawn:=d}):wpAny (model prog w) A (pyIter (.ref S)) Q E s:=by
 obtain⟨os,hos,hex,hds⟩:=id st.ob;have hT:s.TypeIs (.ref S) "set":=⟨os,hos,hex.1⟩;have hSlt:S<s.heap.objs.size:=Heap.lt_size hos;refine wpAny_pyIter_slot hT F.slot_set_iter (wpAny_call_entry F.slot_set_iter hT fR ?_ (F.args_set_iter_1 _))
 unfold Builtin.«frozenset.__iter__» Builtin.Frozenset.slot0 slotArgs;simp only[List.isEmpty_nil,Bool.not_true,Bool.false_eq_true,↓reduceIte,bind_assoc,List.length_nil,bne_self_eq_false];unfold Builtin.Frozenset.addrOf Builtin.Frozenset.sizeOf;refine wpAny_bind (wpAny_pure ?_)
 try dsimp only
 refine wpAny_bind (wpAny_pure ?_)
 refine wpAny_bind (wpAny_bind (wpAny_setEntries_of hos hds st.fits (wpAny_pure ?_)))
 refine wpAny_bind ?_
 rw[kK];refine wpAny_bind (wpAny_setState_of hos hds st.fits ?_)
 dsimp only;refine wpAny_bind ?_
 unfold setsByText;refine wpAny_bind (wpAny_askSetting (wpAny_pure ?_))
 refine wpAny_pure ?_
 have hsz:es.toArray.size=es.length:=by simp
 show wpAny _ _ (if(!w.params.followText "set-order"&&(!t.plain&&decide (es.toArray.size>1)))=true then _ else _) _ _ _
 by_cases hdr:(!w.params.followText "set-order"&&(!t.plain&&decide (es.toArray.size>1)))=true
 ·rw[if_pos hdr]
  refine wpAny_bind (hW es.toArray.size (List.range es.toArray.size) s _ (by simp) fun ps d hp=>?_)
  rw[hsz]at hp⊢;have hpl:=hp.length_eq;rw[List.length_range]at hpl;unfold newTuple;refine wpAny_bind (wpAny_newObj_type ?_ (by show(ps.map fun(i:Nat)=>rawInt i).toArray.size<=sizeLine;rw[sizeLine_eq];simp;lia))
  have g1:(s.heap.push {cls:=.type "tuple",data:=.seq (ps.map fun(i:Nat)=>rawInt i).toArray}).get? S=some os:=Heap.get?_push_of_some _ hos
  refine wpAny_bind (wpAny_setEpoch_of (s:={s with heap:=s.heap.push {cls:=.type "tuple",data:=.seq (ps.map fun(i:Nat)=>rawInt i).toArray},drawn:=d}) g1 hds st.fits ?_)
  unfold newFields;refine wpAny_bind (wpAny_newObj_type ?_ (by size_fits))
  refine wpAny_pure ⟨_,rfl,"set_iterator",_,⟨_,Heap.get?_push_size _ rfl,rfl⟩,aF.lookup,?_⟩
  have sz1:(s.heap.push {cls:=.type "tuple",data:=.seq (ps.map fun(i:Nat)=>rawInt i).toArray}).objs.size=s.heap.objs.size+1:=Heap.size_push ..
  refine hQ (s.heap.push {cls:=.type "tuple",data:=.seq (ps.map fun(i:Nat)=>rawInt i).toArray}).objs.size ((ps.filterMap (es[·]?)).map (·.2)) [(s.heap.push {cls:=.type "tuple",data:=.seq (ps.map fun(i:Nat)=>rawInt i).toArray}).objs.size,S,s.heap.objs.size] _ _ d ((sL hp).map _)
   (fun A' hA'=>kQ (T:=s.heap.objs.size) (ps:=ps) (es:=es) (S:=S) (ep:=ep) (t:=t) hp hA' ?_ ?_) ?_ (fun b o e=>Heap.get?_push_of_some _ (Heap.get?_push_of_some _ e)) ?_ (by simp) ?_
  ·rw[sz1];exact Nat.ne_of_lt (Nat.lt_succ_of_lt hSlt)
  ·rw[sz1];exact Nat.ne_of_lt (Nat.lt_succ_self _)
  ·exact⟨⟨_,Heap.get?_push_size _ rfl,rfl,rfl⟩,st.at fun o e=>Heap.get?_push_of_some _ (Heap.get?_push_of_some _ e),_,_,Heap.get?_push_of_some _ (Heap.get?_push_size _ rfl),rfl⟩
  ·rw[sz1];exact Nat.le_succ _
  ·intro b hb
   simp only[List.mem_cons,List.not_mem_nil,or_false]at hb
   rcases hb with rfl|rfl|rfl
   ·right;rw[sz1];exact Nat.le_succ _
   ·left;rfl
   ·right;exact Nat.le_refl _
 ·rw[if_neg hdr]
  refine wpAny_bind (wpAny_pure ?_)
  refine wpAny_bind (wpAny_setEpoch_of hos hds st.fits ?_)
  unfold newFields;refine wpAny_bind (wpAny_newObj_type ?_ (by size_fits))
  refine wpAny_pure ⟨_,rfl,"set_iterator",_,⟨_,Heap.get?_push_size _ rfl,rfl⟩,aF.lookup,?_⟩
  rw[hsz];have fin:∀(vs:List Value) (St:Nat->Heap->Prop),vs.Perm (es.map (·.2))->(∀A':Around,A'.handled=none->Walks prog w A' s.heap.objs.size [s.heap.objs.size,S] [s.heap.objs.size] es.length (fun i v=>vs[i]?=some v) St)->
    St 0 (s.heap.push {cls:=.type "set_iterator",data:=.fields [rawInt 0,rawInt 0,.ref S,rawInt es.length,rawInt ep].toArray})->
    Q (.ref s.heap.objs.size) {s with heap:=s.heap.push {cls:=.type "set_iterator",data:=.fields [rawInt 0,rawInt 0,.ref S,rawInt es.length,rawInt ep].toArray}}:=fun vs St hp W h0=>by
   refine hQ s.heap.objs.size vs [s.heap.objs.size,S] St _ s.drawn hp W h0 (fun b o e=>Heap.get?_push_of_some _ e) (Nat.le_refl _) (by simp) fun b hb=>?_
   simp only[List.mem_cons,List.not_mem_nil,or_false]at hb
   rcases hb with rfl|rfl
   ·exact .inr (Nat.le_refl _)
   ·exact .inl rfl
  cases hbt:w.params.followText "set-order" with
  |true=>
   have pp:=(oN (w.params.setOrder S ep) es.toArray).map (·.2)
   have pl:=pp.length_eq;simp only[List.length_map,Array.length_toList]at pl;refine fin _ _ (by simpa using pp) (fun A' hA'=>kg (S:=S) (ep:=ep) (t:=t) (nx:=fun _=>0) (by simpa using pl) (fun i hi s R E st' hR=>kz hbt st' ?_) (fun s R E st' hR=>kz hbt st' ?_) hA' (Nat.ne_of_lt hSlt)) ⟨⟨_,Heap.get?_push_size _ rfl,rfl,rfl⟩,st.at fun o e=>Heap.get?_push_of_some _ e⟩
   ·rw[Array.getElem?_eq_getElem (by simpa using hi)];simpa using hR
   ·rw[Array.getElem?_eq_none (by simp[pl])];exact hR
  |false=>
   have hp2:(!t.plain&&decide (es.toArray.size>1))=false:=by
    rw[hbt]at hdr
    simpa using hdr
   have h1:es.length<=1:=by
    rcases hpl with h|h
    ·exact h
    ·rw[h]at hp2;simpa using hp2
   have hl:t.place.size=es.length:=by
    have:=st.fits;unfold SetTable.fits at this;rw[Bool.and_eq_true,beq_iff_eq,hsz]at this;exact this.1
   have hle:t.led=true:=by rw[hled,dk,hbt];rfl
   refine fin _ _ (List.Perm.refl _) (fun A' hA'=>kg (S:=S) (ep:=ep) (t:=t) (nx:=jQ t) (by simp) (fun i hi s R E st' hR=>j7 hbt st' hle hp2 ?_) (fun s R E st' hR=>j7 hbt st' hle hp2 ?_) hA' (Nat.ne_of_lt hSlt)) ⟨⟨_,Heap.get?_push_size _ rfl,rfl,rfl⟩,st.at fun o e=>Heap.get?_push_of_some _ e⟩
   ·have hi':i<es.length:=by simpa using hi
    have hip:i<t.place.size:=by lia
    rw[eV (by lia) (by lia),show es.toArray[i]?=some es[i] by simp[hi'],Array.getElem?_eq_getElem hip]
    dsimp only;have:jQ t (i+1)=t.place[i]+1:=by show t.place.getD i 0+1=_;simp[Array.getD,hip]
    rw[this]at hR
    simpa using hR
   ·rw[eV (by lia) (by lia),show es.toArray[es.length]?=none by simp]
    exact hR
theorem lK (hh:A.handled=none) (st:SetIs s.heap S es ep t) (hled:t.led=dk w) (hpl:es.length<=1\/t.plain=false) (hn:es.length<=1000) {Q:List Value->Shared->Prop}
  (hQ:∀(vs:List Value) (h':Heap) (d:Drawn) (tk:Nat),vs.Perm (es.map (·.2))->(∀b o,s.heap.get? b=some o->h'.get? b=some o)->s.heap.objs.size<=h'.objs.size->Q vs {s with heap:=h',drawn:=d,toks:=tk}):wpAny (model prog w) A (collect (.ref S)) Q E s:=by
 obtain⟨os,hos,hex,hds⟩:=id st.ob;have hSlt:S<s.heap.objs.size:=Heap.lt_size hos;unfold collect;refine wpAny_bind (wpAny_runValue (codeAny_builtin F.entry_proto_collect ?_))
 rw[Around.under_plainId F.plain_proto_collect _];show wpAny _ A.in1 (newList [] >>= fun l=>again (.builtin "list.__iadd__" ⟨[l,.ref S],[]⟩)) _ _ s
 refine wpAny_bind (wpAny_newObj_type ?_)
 refine wpAny_pure ⟨plainId_quiet F.plain_list_iadd _,codeAny_builtin F.entry_list_iadd ?_⟩
 rw[Around.under_plainId F.plain_list_iadd _];generalize hL:s.heap.objs.size=L;have hst1:SetIs (s.heap.push {cls:=.type "list",data:=.seq ([]:List Value).toArray}) S es ep t:=st.at fun o e=>Heap.get?_push_of_some _ e
 have g0:(s.heap.push {cls:=.type "list",data:=.seq ([]:List Value).toArray}).get? L=some {cls:=.type "list",data:=.seq ([]:List Value).toArray}:=by rw[<-hL];exact Heap.get?_push_size _ rfl
 have hS1:(s.heap.push {cls:=.type "list",data:=.seq ([]:List Value).toArray}).get? S=some os:=Heap.get?_push_of_some _ hos
 have hT1:Shared.TypeIs {s with heap:=s.heap.push {cls:=.type "list",data:=.seq ([]:List Value).toArray}} (.ref S) "set":=⟨os,hS1,hex.1⟩
 show wpAny _ A.in1 (Builtin.List.listExtendWith (.ref L) (.ref S) (.ref L)) _ _ _;unfold Builtin.List.listExtendWith;refine wpAny_bind (wpAny_typeOf hT1 ?_)
 have h1:Builtin.List.listSameRef (.ref L) (.ref S)=false:=by simp[Builtin.List.listSameRef];rw[<-hL];exact Nat.ne_of_gt hSlt
 have h2:(Value.type "set"==Value.type "list")=false:=by decide
 have h3:(Value.type "set"==Value.type "tuple")=false:=by decide
 simp only[h1,h2,h3,Bool.or_false,Bool.false_eq_true,if_false];refine wpAny_bind (sY (s:={s with heap:=s.heap.push {cls:=.type "list",data:=.seq ([]:List Value).toArray}}) hst1 hled hpl hn fun I vs fp St h' d hp W hS0 hk hI hIf hfp=>?_)
 have hT2:Shared.TypeIs {s with heap:=h',drawn:=d} (.ref S) "set":=⟨os,hk S os hS1,hex.1⟩
 have gL:h'.get? L=some {cls:=.type "list",data:=.seq ([]:List Value).toArray}:=hk L _ g0;refine wpAny_bind (wpAny_holding ?_)
 unfold Builtin.List.listLengthHint;refine wpAny_bind (wpAny_specialOf hT2 oU ?_)
 generalize hid:("set.__len__":String)=id0
 wp_delta
 rw[show splitId id0=some ("set","__len__") from by subst hid;decide +kernel]
 subst hid;dsimp only;refine wpAny_bind (wpAny_isInstance (b:=true) hT2 (by rw[isSubtype_type];kernel_rfl) ?_)
 rw[if_neg (by decide)]
 rw[if_pos (by decide +kernel)]
 refine wpAny_bind (wpAny_typeOf hT2 ?_)
 dsimp only;refine wpAny_pure ?_
 rw[if_pos (by decide +kernel)]
 refine wpAny_bind (wpAny_rule ?_)
 refine wpAny_bind ?_
 show wpAny _ A.in1 (updateSeq L (·.push .none) >>= fun _=>updateSeq L (·.pop)) _ _ _
 refine wpAny_bind (wpAny_updateSeq gL rfl ?_)
 have gL2:=Heap.get?_update_self (Obj.mapSeq (·.push Value.none)) gL rfl
 refine wpAny_updateSeq gL2 rfl ?_
 have gL3:=Heap.get?_update_self (Obj.mapSeq (·.pop)) gL2 rfl
 have oth:∀b o,b≠L->h'.get? b=some o->((h'.update L (Obj.mapSeq (·.push Value.none))).update L (Obj.mapSeq (·.pop))).get? b=some o:=
  fun b o hb e=>(Heap.get?_update_other _ _ (Ne.symm hb)).trans ((Heap.get?_update_other _ _ (Ne.symm hb)).trans e)
 have WS:=(W A.in1 (by simp[hh])).toS
 have hLS:L≠S:=by rw[<-hL];exact Nat.ne_of_gt hSlt
 have hLf:L∉fp:=fun hm=>by
  rcases hfp L hm with e|e
  ·exact hLS e
  ·have e2:s.heap.objs.size+1<=L:=by have:=e;rwa[Heap.size_push]at this
   rw[hL]at e2;exact Nat.lt_irrefl _ e2
 refine wpAny_pure ⟨plainId_quiet F.plain_extend_loop _,codeAny_extend_loopS WS (by rw[sizeLine_eq];lia) L hLf _ es.length 0 _ _ _ rfl (Nat.zero_le _)
  (WS.frame 0 ({s with heap:=h',drawn:=d}:Shared) _ s.toks hS0 (Nat.le_refl _) fun b hb o e=>oth b o (fun h=>hLf (h▸hb)) e) gL3 (ItemsOf.nil _) fun s' acc' c' hm hS' hacc=>?_⟩
 show wpAny _ A (load L >>= _) _ _ s';refine wpAny_bind (wpAny_load hS' ?_)
 have e1:s'.gens=s.gens:=hm.gens;have e2:s'.drawn=d:=hm.drawn;have e3:s'.os=s.os:=hm.os;obtain⟨hh',gg',dd',tt',oo'⟩:=s';simp only at e1 e2 e3;subst e1;subst e2;subst e3;refine wpAny_pure (hQ acc'.toList hh' dd' tt' ?_ (fun b o e=>?_) (by rw[hL];exact Nat.le_of_lt (Heap.lt_size hS')))
 ·have:acc'.toList=vs:=by
   have hvl:=hp.length_eq;rw[List.length_map]at hvl;apply List.ext_getElem?;intro j
   by_cases hj:j<acc'.size
   ·have:=hacc.2 j acc'[j] (by simp[hj])
    rw[this];simp[hj]
   ·rw[List.getElem?_eq_none (by simpa using hj),List.getElem?_eq_none (by rw[hvl,<-hacc.1];lia)]
  rw[this];exact hp
 ·have hbL:b≠L:=by rw[<-hL];exact Nat.ne_of_lt (Heap.lt_size e)
  have hbI:b≠I:=fun z=>by
   have h5:s.heap.objs.size+1<=I:=by have:=hI;rwa[Heap.size_push]at this
   have:=Heap.lt_size e;rw[z]at this;exact absurd (Nat.lt_of_lt_of_le (Nat.lt_succ_of_lt this) h5) (Nat.lt_irrefl _)
  refine hm.heap b o (by simp only[List.mem_cons,List.not_mem_nil,or_false,not_or];exact⟨hbL,hbI⟩) (oth b o hbL (hk b o (Heap.get?_push_of_some _ e)))
end
theorem ww (t:SetTable) (es:Array (Int×Value)) (h:Int) (x:Value):(layNew t es h x).2.1.led=t.led:=by
 unfold layNew;split
 ·dsimp only
  unfold SetTable.orStandIn;split<;>rfl
 ·rfl
theorem qK (t:SetTable) (es:Array (Int×Value)) (n:Nat):(relayAll t es n).2.1.led=t.led/\(t.plain=false->(relayAll t es n).2.1.plain=false):=by
 unfold relayAll;split
 ·rename_i t' order e
  have:t'.led=t.led/\t'.plain=t.plain:=by
   unfold SetTable.relaid SetTable.laid at e;cases q:SetTable.layClean (SetTable.sizeAbove n - 1) (es.map (·.1))with
   |none=>rw[q]at e;contradiction
   |some o=>rw[q]at e;cases e;exact⟨rfl,rfl⟩
  dsimp only;split
  ·exact⟨this.1,fun h=>this.2.trans h⟩
  ·exact⟨rfl,fun _=>rfl⟩
 ·exact⟨rfl,fun _=>rfl⟩
noncomputable abbrev tE (w:World) (p:Str×Tok):Int×Value:=(hashStr w p.1,.str p.1 p.2)
noncomputable def SetT (w:World) (h:Heap) (a:Addr) (ts:List (Str×Tok)):Prop:=
 ∃o ep t,h.get? a=some o/\o.ExactSet/\o.data=.set (ts.map (tE w)).toArray ep t/\t.fits ts.length=true/\t.led=dk w/\(ts=[]\/t.plain=false)
theorem SetT.same {w:World}{h h':Heap}{a:Addr}{ts:List (Str×Tok)}(S:SetT w h a ts) (k:∀o,h.get? a=some o->h'.get? a=some o):SetT w h' a ts:=by
 obtain⟨o,ep,t,ho,r⟩:=S;exact⟨o,ep,t,k o ho,r⟩
section
variable{prog:Program}{w:World}{A:Around}{E:Value->Shared->Prop}{s:Shared}{a:Addr}
theorem jv {h:Heap}{o:Obj}{es:Array (Int×Value)}{ep:Nat}{t t':SetTable}{ts:List (Str×Tok)}(ho:h.get? a=some o) (hex:o.ExactSet) (hd:o.data=.set es ep t) (hf:t'.fits ts.length=true) (hl:t'.led=dk w) (hp:t'.plain=false):
  (h.update a (Obj.putSet (ts.map (tE w)).toArray t')).get? a=some {o with data:=.set (ts.map (tE w)).toArray (ep+1) t'}/\SetT w (h.update a (Obj.putSet (ts.map (tE w)).toArray t')) a ts:=by
 have hg:=Heap.get?_update_self (Obj.putSet (ts.map (tE w)).toArray t') ho (by rw[putSet_of _ t' hd];rfl)
 rw[putSet_of _ t' hd]at hg;exact⟨hg,_,ep+1,t',hg,hex,rfl,hf,hl,.inr hp⟩
theorem lU {o:Obj}{es es1:Array (Int×Value)}{ep:Nat}{t t2:SetTable}{ts1:List (Str×Tok)}{wd:Bool}{R:Option Bool->Shared->Prop}(ho:s.heap.get? a=some o) (hex:o.ExactSet) (hd:o.data=.set es ep t) (e1:es1=(ts1.map (tE w)).toArray)
  (hf:t2.fits es1.size=true) (hl:t2.led=dk w) (hp:t2.plain=false) (hb:ts1.length<4000)
  (h:∀h' ts',Heap.SameBut a s.heap h'->ts'.Perm ts1->SetT w h' a ts'->R (some true) {s with heap:=h'}):
  wpAny (model prog w) A (do
    storeSet a es1 t2
    if(!wd&&t2.tooFull)=true then do
      (match(relayAll t2 es1 (SetTable.grown es1.size)).2.2 with|true=>rule "set.scan.the-table-gave-way"|false=>pure ())
      storeSet a (relayAll t2 es1 (SetTable.grown es1.size)).1 (relayAll t2 es1 (SetTable.grown es1.size)).2.1
      pure (some true)
     else pure (some true)) R E s:=by
 subst e1;have hsz:(ts1.map (tE w)).toArray.size=ts1.length:=by simp
 refine wpAny_bind (wpAny_storeSet_of ho hd ?_ (by rw[hsz,sizeLine_eq];lia))
 obtain⟨g1,S1⟩:=jv (w:=w) (ts:=ts1) ho hex hd (hsz▸hf) hl hp;have sb:=Heap.SameBut.update s.heap a (Obj.putSet (ts1.map (tE w)).toArray t2);split
 ·have hp1:=relayAll_perm t2 (ts1.map (tE w)).toArray (SetTable.grown (ts1.map (tE w)).toArray.size)
  have hfr:=relayAll_fits t2 (ts1.map (tE w)).toArray (SetTable.grown (ts1.map (tE w)).toArray.size);obtain⟨l1,l2⟩:=qK t2 (ts1.map (tE w)).toArray (SetTable.grown (ts1.map (tE w)).toArray.size);generalize relayAll t2 (ts1.map (tE w)).toArray (SetTable.grown (ts1.map (tE w)).toArray.size)=Rl at hp1 hfr l1 l2⊢;obtain⟨es2,t3,gv⟩:=Rl;dsimp only at hp1 hfr l1 l2⊢;obtain⟨ts2,p2,e2⟩:=iD (tE w) hp1 ts1 rfl;obtain rfl:es2=(ts2.map (tE w)).toArray:=by rw[<-e2]
  have hl2:=p2.length_eq;have hgw:∀(b:Bool) {s₁:Shared}{Q':Unit->Shared->Prop},Q' () s₁->wpAny (model prog w) A (match b with|true=>rule "set.scan.the-table-gave-way"|false=>pure ()) Q' E s₁:=
   fun b s₁ Q' hq=>by cases b<;>first|exact wpAny_pure hq|exact wpAny_rule hq
  refine wpAny_bind (hgw _ ?_)
  refine wpAny_bind (wpAny_storeSet_of (s:={s with heap:=s.heap.update a (Obj.putSet (ts1.map (tE w)).toArray t2)}) g1 rfl ?_ (by rw[sizeLine_eq];simp;lia))
  exact wpAny_pure (h _ ts2 (sb.trans (Heap.SameBut.update _ a _)) p2 (jv (w:=w) (ts:=ts2) g1 hex rfl (by simpa using hfr) (l1.trans hl) (l2 hp)).2)
 ·exact wpAny_pure (h _ ts1 sb (List.Perm.refl _) S1)
theorem Ar {ts:List (Str×Tok)}{x:Str}{tk:Tok}{Q:Bool->Shared->Prop}(S:SetT w s.heap a ts) (hb:ts.length<100)
  (h:∀h' ts' b,Heap.SameBut a s.heap h'->SetT w h' a ts'->(ts'=ts/\x∈ts.map (·.1)\/ts'.Perm ((x,tk)::ts)/\x∉ts.map (·.1))->Q b {s with heap:=h'}):wpAny (model prog w) A (setAddHashed a (.str x tk) (hashStr w x)) Q E s:=by
 have S0:=S;obtain⟨o,ep,t,ho,hex,hd,hf,hled,hpl⟩:=S;have hsz:(ts.map (tE w)).toArray.size=ts.length:=by simp
 rw[<-hsz]at hf;have key:(PySem.strKind prog w).is x (.str x tk)=true:=by show(x==x)=true;simp
 have hel:ElemsOf (PySem.strKind prog w) (ts.map (tE w)).toArray.toList:=fun e he=>by
  obtain⟨p,_,rfl⟩:=List.mem_map.mp he;exact⟨⟨p.1,by show(p.1==p.1)=true;simp,rfl⟩,rfl⟩
 unfold setAddHashed setAddHashedIn;refine wpAny_holding (wpAny_bind (wpAny_setState_of ho hd hf ?_))
 dsimp only;rw[byScan_of rfl (by unfold scanBound;lia) hel]
 simp only[↓reduceIte];unfold setAddByScan;refine wpAny_bind ?_
 refine wpAny_bind (wpAny_rule ?_)
 refine wpAny_bind (wpAny_setScan_of (knd:=PySem.strKind prog w) key ho hd hf hel ?_)
 cases hr:List.findIdx? (fun e=>(PySem.strKind prog w).is x e.2) (ts.map (tE w)).toArray.toList with
 |some j=>
  dsimp only;obtain⟨hj,hpj,_⟩:=List.findIdx?_eq_some_iff_getElem.mp hr
  have hj':j<ts.length:=by simpa using hj
  have e:ts[j].1=x:=by
   have h0:(PySem.strKind prog w).is x (Value.str ts[j].1 ts[j].2)=true:=by simpa using hpj
   exact beq_iff_eq.mp (show(ts[j].1==x)=true from h0)
  exact wpAny_pure (wpAny_pure (h s.heap ts false (Heap.SameBut.refl a s.heap) S0 (.inl ⟨rfl,List.mem_map.mpr ⟨ts[j],List.getElem_mem hj',e⟩⟩)))
 |none=>
  dsimp only;have hno:x∉ts.map (·.1):=fun hm=>by
   obtain⟨p,hp,e⟩:=List.mem_map.mp hm;have:=List.findIdx?_eq_none_iff.mp hr (tE w p) (List.mem_map.mpr ⟨p,hp,rfl⟩)
   have:(p.1==x)=false:=this;rw[e]at this;simp at this
  have hperm:=layNew_perm t (ts.map (tE w)).toArray (hashStr w x) (.str x tk);have hfits:=layNew_fits t (ts.map (tE w)).toArray (hashStr w x) (.str x tk);have hl1:=ww t (ts.map (tE w)).toArray (hashStr w x) (.str x tk);show wpAny _ _ (match layNew t (ts.map (tE w)).toArray (hashStr w x) (.str x tk)with|(es,t,wd,gv)=>_) _ _ _
  generalize layNew t (ts.map (tE w)).toArray (hashStr w x) (.str x tk)=L at hperm hfits hl1⊢;obtain⟨es1,t1,wd,gv⟩:=L;dsimp only at hperm hfits hl1⊢;obtain⟨ts1,p1,e1⟩:=iD (tE w) hperm (ts++[(x,tk)]) (by simp)
  have e1:es1=(ts1.map (tE w)).toArray:=by rw[<-e1]
  have hgw:∀(b:Bool) {s₁:Shared}{Q':Unit->Shared->Prop},Q' () s₁->wpAny (model prog w) A (match b with|true=>rule "set.scan.the-table-gave-way"|false=>pure ()) Q' E s₁:=
   fun b s₁ Q' hq=>by cases b<;>first|exact wpAny_pure hq|exact wpAny_rule hq
  refine wpAny_bind (hgw _ ?_)
  have hlen:=p1.length_eq;simp only[List.length_append,List.length_cons,List.length_nil]at hlen;have fin:∀h' ts',Heap.SameBut a s.heap h'->ts'.Perm ts1->SetT w h' a ts'->wpAny (model prog w) A (pure true) Q E {s with heap:=h'}:=fun h' ts' sb pp ST=>
   wpAny_pure (h h' ts' true sb ST (.inr ⟨pp.trans (p1.trans (List.perm_append_singleton _ _)),hno⟩))
  split
  ·refine wpAny_bind ?_
   rw[hashByValue_scannable 8 rfl];refine wpAny_pure ?_
   exact lU ho hex hd e1 (SetTable.fits_plain_off hfits) (hl1.trans hled) rfl (by lia) fin
  ·rename_i hq
   refine wpAny_bind (wpAny_pure ?_)
   simp only[↓reduceIte];exact lU ho hex hd e1 hfits (hl1.trans hled) (by simpa using hq) (by lia) fin
end
structure Fill (w:World) (h:Heap) (a:Addr) (done:List Str) (ts:List (Str×Tok)):Prop where
 at':SetT w h a ts
 nd:(ts.map (·.1)).Nodup
 mem:∀x,x∈ts.map (·.1)↔x∈done
 len:ts.length<=done.length
section
variable{prog:Program}{w:World}{s:Shared}{A:Around}{R:Result->Shared->Prop}{It:Addr}{fp wr:List Addr}{G:Array GenState->Array GenState->Prop}{n:Nat}{P:Nat->Value->Prop}{St:Nat->Shared->Prop}
theorem sX (W:WalksS prog w A.in1 It fp wr G n P St) (hG:∀a b,G a b->b=a) (S:Addr) (hSf:S∉fp) (hS0:s.heap.get? S=none) (hwr:∀b∈wr,s.heap.get? b=none) (ss:List Str) (hn:ss.length=n) (h64:n<64)
  (hval:∀(i:Nat) v x,P i v->ss[i]?=some x->∃tk,v=.str x tk):
  ∀(k i:Nat) (h:Heap) (tk:Nat) (ts:List (Str×Tok)),n - i=k->i<=n->St i {s with heap:=h,toks:=tk}->(∀b o,s.heap.get? b=some o->h.get? b=some o)->Fill w h S (ss.take i) ts->
   (∀h' tk' ts',(∀b o,s.heap.get? b=some o->h'.get? b=some o)->Fill w h' S ss ts'->R (.ok (.ret .none)) {s with heap:=h',toks:=tk'})->
   codeAny (model prog w) A (.builtin "set.update.loop" ⟨[.ref S,.ref It],[]⟩) R {s with heap:=h,toks:=tk}:=by
 have hSw:S∉wr:=fun h=>hSf (W.sub _ h)
 have back:∀{h:Heap}{tk:Nat}{s':Shared},(∀b o,s.heap.get? b=some o->h.get? b=some o)->Moved wr G {s with heap:=h,toks:=tk} s'->s'={s with heap:=s'.heap,toks:=s'.toks}/\∀b o,s.heap.get? b=some o->s'.heap.get? b=some o:=fun{h tk s'} hk hm=>by
  have e1:s'.gens=s.gens:=hG _ _ hm.gens;have e2:s'.drawn=s.drawn:=hm.drawn;have e3:s'.os=s.os:=hm.os;refine⟨?_,fun b o e=>?_⟩
  ·obtain⟨h',g',d',t',o'⟩:=s'
   simp only at e1 e2 e3;subst e1;subst e2;subst e3;rfl
  ·refine hm.heap b o (fun hb=>?_) (hk b o e)
   rw[hwr b hb]at e;contradiction
 intro k
 induction k with
 |zero=>
  intro i h tk ts hk hi hst hkeep hF hR;have hin:i=n:=by lia
  subst hin;refine codeAny_builtin F.entry_set_update_loop ?_
  rw[Around.under_plainId F.plain_set_update_loop _];show wpAny _ A.in1 (pyNext (.ref It) >>= _) _ _ _;refine wpAny_bind (W.done _ _ _ hst fun s' hm=>?_)
  obtain⟨es,hkeep'⟩:=back hkeep hm;show wpAny _ A.in1 (ret Value.none) _ _ s';rw[es];have e:=List.take_length (l:=ss);rw[hn]at e;rw[e]at hF;exact wpAny_pure (hR s'.heap s'.toks ts hkeep' ⟨hF.at'.same fun o e=>hm.heap S o hSw e,hF.nd,hF.mem,hF.len⟩)
 |succ k ih=>
  intro i h tk ts hk hi hst hkeep hF hR;have hlt:i<n:=by lia
  refine codeAny_builtin F.entry_set_update_loop ?_
  rw[Around.under_plainId F.plain_set_update_loop _];show wpAny _ A.in1 (pyNext (.ref It) >>= _) _ _ _;refine wpAny_bind (W.item i _ _ _ hlt hst fun v s' hP hst' hm=>?_)
  obtain⟨es,hkeep'⟩:=back hkeep hm;have hil:i<ss.length:=by lia
  obtain⟨tx,rfl⟩:=hval i v ss[i] hP (by simp[hil])
  have hat:SetT w s'.heap S ts:=hF.at'.same fun o e=>hm.heap S o hSw e
  have hfl:=hF.len;rw[List.length_take]at hfl;have htake:ss.take (i+1)=ss.take i++[ss[i]]:=by rw[List.take_succ];simp[hil]
  show wpAny _ A.in1 (holding [Value.str ss[i] tx] (setAdd S (.str ss[i] tx)) >>= _) _ _ s';refine wpAny_bind (wpAny_holding ?_)
  rw[es]at hst'⊢;unfold setAdd;refine wpAny_holding (wpAny_bind (wpAny_pyHash_str ?_))
  refine Ar (s:={s with heap:=s'.heap,toks:=s'.toks+1}) hat (by lia) fun h' ts' b hsb hS' hor=>?_
  have keep2:∀b o,s.heap.get? b=some o->h'.get? b=some o:=fun b o e=>by
   rw[hsb.2 b (fun z=>by rw[z,hS0]at e;contradiction)]
   exact hkeep' b o e
  have F':Fill w h' S (ss.take (i+1)) ts':=by
   rw[htake]
   rcases hor with⟨rfl,hm'⟩|⟨hp,hm'⟩
   ·refine⟨hS',hF.nd,fun d=>?_,by simp;lia⟩
    rw[hF.mem d,List.mem_append,List.mem_singleton];exact⟨.inl,fun z=>z.elim id fun e=>e▸(hF.mem _).mp hm'⟩
   ·have hp2:=hp.map (·.1)
    have hp3:=hp.length_eq;rw[List.length_cons]at hp3;rw[List.map_cons]at hp2;refine⟨hS',?_,fun d=>?_,by simp;lia⟩
    ·rw[hp2.nodup_iff,List.nodup_cons];exact⟨hm',hF.nd⟩
    ·rw[hp2.mem_iff,List.mem_cons,hF.mem d,List.mem_append,List.mem_singleton]
     exact Or.comm
  refine wpAny_pure ⟨plainId_quiet F.plain_set_update_loop _,ih (i+1) h' (s'.toks+1) ts' (by lia) hlt ?_ keep2 F' hR⟩
  exact W.frame _ {s with heap:=s'.heap,toks:=s'.toks} _ _ hst' (Nat.le_succ _) fun b hb o e=>by
   rw[hsb.2 b (fun h:b=S=>hSf (by rw[<-h];exact hb))];exact e
end
noncomputable abbrev du (led:Bool):Obj:={cls:=.type "set",dict:=none,data:=.set #[] 0 (.fresh 0 0 led)}
section
variable{prog:Program}{w:World}{A:Around}{E:Value->Shared->Prop}{s:Shared}
theorem ki (a:Value) {Q₁:Value->Shared->Prop}(h:Q₁ (.ref s.heap.objs.size) {s with heap:=s.heap.push (du (dk w))}):
  codeAny (model prog w) A (.call (.builtin "set.__new__") ⟨[.type "set",a],[]⟩) (wants Q₁ E) s:=by
 refine codeAny_of_tree ?_
 show wpAny _ A.in1 (do checkBuiltinCall "set.__new__" ⟨[.type "set",a],[]⟩;again (.builtin "set.__new__" ⟨[.type "set",a],[]⟩)) _ _ s
 refine wpAny_bind (wpAny_of_eq (F.newCall_set_1 a) (wpAny_pure ⟨plainId_quiet F.plain_set_new _,codeAny_builtin F.entry_set_new ?_⟩))
 rw[Around.under_plainId F.plain_set_new _];unfold Builtin.«set.__new__» Builtin.Frozenset.newClass;have hsub:=sub_set_self;obtain⟨hp,g,d,tk,os⟩:=s;dsimp only
 wp_walk
 refine wpAny_askSetting (wpAny_pure ?_)
 dsimp only;simp only[newObj];refine wpAny_bind (wpAny_alloc (wpAny_pure ?_))
 exact wpAny_pure h
end
section
variable{prog:Program}{w:World}{s:Shared}{A:Around}{E:Value->Shared->Prop}
theorem tP {h:Heap}{a:Addr}(e:h.get? a=some (du (dk w))):Fill w h a [] []:=
 ⟨⟨_,0,_,e,⟨rfl,rfl,rfl⟩,rfl,rfl,rfl,.inl rfl⟩,List.nodup_nil,fun d=>Iff.rfl,Nat.le_refl _⟩
theorem nA (hh:A.handled=none) {l:Addr}{items:Array Value}{Q:Value->Shared->Prop}(hl:s.heap.IsList l items) (ss:List Str) (hlen:ss.length=items.size) (h64:items.size<64)
  (hel:∀(i:Nat) v x,items[i]?=some v->ss[i]?=some x->∃tk,v=.str x tk)
  (h:∀(h':Heap) (tk:Nat) ts,(∀b o,s.heap.get? b=some o->h'.get? b=some o)->Fill w h' s.heap.objs.size ss ts->Q (.ref s.heap.objs.size) {s with heap:=h',toks:=tk}):
  wpAny (model prog w) A (call (.type "set") [.ref l]) Q E s:=by
 obtain⟨c,tl,hmro⟩:=F.called_set.mro;have hmade:=F.called_set.made;have hsub:=F.called_set.sub;refine wpAny_call (codeAny_of_tree ?_)
 show wpAny _ _ (callAny (.type "set") _) _ _ _;refine wpAny_pure ⟨Code.quiet_builtin _ (by decide +kernel),codeAny_builtin F.entry_type_call ?_⟩
 rw[Around.under_plain (weight_type_call_type "set" [.ref l] []) rfl];have h1:=F.called_set.notType;have h2:=F.called_set.canCreate;have hct:=F.typeCall_set_1 (.ref l)
 repeat (any_goals (first|assumption|wp_step))
 refine codeAny_mono (ki (.ref l) (E:=E) (Q₁:=fun obj s₁=>obj=.ref s.heap.objs.size/\s₁={s with heap:=s.heap.push (du (dk w))}) ⟨rfl,rfl⟩) fun r s₁ hr=>?_
 cases r with
 |error e=>exact hr
 |ok fl=>
  cases fl with
  |ret obj=>
   obtain⟨rfl,rfl⟩:=hr;have hS:(s.heap.push (du (dk w))).get? s.heap.objs.size=some (du (dk w)):=Heap.get?_push_size _ rfl
   have hT:Shared.TypeIs {s with heap:=s.heap.push (du (dk w))} (.ref s.heap.objs.size) "set":=⟨_,hS,rfl⟩
   have hli:=F.called_set.init.lookup;have hbi:=F.called_set.init.bind (.ref s.heap.objs.size)
   repeat (any_goals (first|assumption|wp_step))
   refine codeAny_mono (codeAny_call_builtin (R:=wants (fun r s₂=>r=.none/\∃h' tk ts,s₂={s with heap:=h',toks:=tk}/\Fill w h' s.heap.objs.size ss ts/\
     (∀b o,s.heap.get? b=some o->h'.get? b=some o)) E) F.called_set.init.plain F.entry_set_init (check_set_init_1 hT ?_)) fun r₂ s₂ hr₂=>?_
   ·obtain⟨ol,hol,hcl,nl,hdl⟩:=hl
    obtain⟨ocls,odict,odata,oslots⟩:=ol;simp only at hcl hdl;subst hcl;subst hdl;have hol':(s.heap.push (du (dk w))).get? l=some {cls:=.type "list",dict:=odict,data:=.seq items nl,slots:=oslots}:=Heap.get?_push_of_some _ hol
    have hsls:=F.sub_list_set;have hslf:=F.sub_list_frozenset;have hne:(Value.type "list"==Value.type "dict")=false:=by decide
    have hl1:(s.heap.push (du (dk w))).IsList l items:=⟨_,hol',rfl,nl,rfl⟩;unfold Builtin.«set.__init__» noKeywords Builtin.Frozenset.updateFrom;generalize hPI:pyIter=PI
    wp_walk
    subst hPI;refine wpAny_pyIter_list hl1 ?_
    refine wpAny_bind (wpAny_runValue ?_)
    have hlS:l<s.heap.objs.size:=Heap.lt_size hol;have hh3:A.in1.in1.in1.handled=none:=by simp[hh]
    have hneI:l≠(s.heap.push (du (dk w))).objs.size:=by
     rw[Heap.size_push];exact Nat.ne_of_lt (Nat.lt_succ_of_lt hlS)
    have hSf:s.heap.objs.size∉[(s.heap.push (du (dk w))).objs.size,l]:=by
     rw[Heap.size_push];simp only[List.mem_cons,List.mem_singleton,List.not_mem_nil,or_false,not_or];exact⟨Nat.ne_of_lt (Nat.lt_succ_self _),Nat.ne_of_gt hlS⟩
    have hnone:∀b,s.heap.objs.size<=b->s.heap.get? b=none:=fun b hb=>by
     cases q:s.heap.get? b with
     |none=>rfl
     |some o=>exact absurd (Heap.lt_size q) (Nat.not_lt.mpr hb)
    refine sX (s:=s) (w:=w) ((Walks.list hh3 _ l hneI items).toS) ?_ s.heap.objs.size
     hSf (hnone _ (Nat.le_refl _)) ?_ ss hlen h64 hel (items.size - 0) 0 _ s.toks [] (by lia) (Nat.zero_le _)
     ⟨⟨_,Heap.get?_push_size _ rfl,rfl,rfl⟩,(hl1.push _)⟩ (fun b o e=>Heap.get?_push_of_some _ (Heap.get?_push_of_some _ e)) ?_ ?_
    ·intro a b e;exact e
    ·intro b hb
     simp only[List.mem_singleton]at hb;rw[hb,Heap.size_push];exact hnone _ (Nat.le_succ _)
    ·exact tP (Heap.get?_push_of_some _ hS)
    ·intro h' tk' ts hk hF
     show wpAny _ _ _ _ _ _;refine wpAny_pure ?_
     show wpAny _ _ (ret Value.none) _ _ _;exact wpAny_pure ⟨rfl,h',tk',ts,rfl,hF,hk⟩
   ·cases r₂ with
    |error e=>exact hr₂
    |ok fl₂=>
     cases fl₂ with
     |ret r=>
      obtain⟨rfl,h',tk,ts,rfl,hF,hk⟩:=hr₂
      repeat (any_goals (first|assumption|wp_step))
      exact h _ _ _ hk hF
     |_=>exact hr₂.elim
  |_=>exact hr.elim
end
end L2
namespace L2
open PySem PySem.Spec PyProof.Rows
variable[Lams]
theorem Inv.drawn {X:Cx}{pins:List (Addr×Obj)}{σ:St}{H:Hp}{s:Shared}(I:Inv X pins σ H s) (d:Drawn):Inv X pins σ H {s with drawn:=d}:=
 ⟨I.ok,I.os,I.bare,I.base,I.loc,I.cell,I.free,I.freeC,I.pin,I.hok,I.len⟩
noncomputable def se (w:World) (S:Addr) (us:List Str):HO:=.ext fun h=>∃ts:List (Str×Tok),(ts.map (·.1)).Perm us/\SetT w h S ts
theorem qg {X:Cx}(hc:X.calm=true):fA X (.type "set") (fun xs H Q=>∃(l:Addr) (ss:List Str),xs=[.ref l]/\SqL X.K H l (ss.map V.str)/\ss.length<64/\
  ∀(S:Addr) (us:List Str),H S=none->us.Nodup->(∀x,x∈us↔x∈ss)->us.length<=ss.length->Q (.ref S) (upd H S (se X.w S us))):=by
 intro pins s σ H xs us Q I r h;obtain⟨l,ss,rfl,hq,h64,q⟩:=h;obtain⟨u,rfl,rx⟩:=jU r;cases rx;obtain⟨its,rv,pl,hz⟩:=I.list hq;have l2:=rv.length;rw[List.length_map]at l2;refine nA (I.ok.hd hc) pl.isList ss (by simp;lia) (by simp;lia) (fun i v x hv hd=>?_) fun h' tk ts hk hF=>?_
 ·obtain⟨u,hu',ru⟩:=rv.get (show(ss.map V.str)[i]?=some (.str x) by simp[hd])
  have:u=v:=by
   have:its[i]?=some v:=by simpa using hv
   rw[hu']at this;exact Option.some.inj this
  subst this;exact ru
 ·refine⟨.ref s.heap.objs.size,_,I.laid (a:=s.heap.objs.size) (o:=se X.w s.heap.objs.size (ts.map (·.1))) (h':=h') (t':=tk) hk (Nat.le_refl _) ?_,rfl,q _ _ I.fresh hF.nd hF.mem (by simpa using hF.len)⟩
  have S:=hF.at';obtain⟨o,ep,t,ho,r⟩:=hF.at';exact⟨⟨ts,List.Perm.refl _,S⟩,⟨o,ho⟩,fun h1 h2 ⟨ts',p,a⟩ k=>⟨ts',p,a.same k⟩⟩
end L2
namespace L2
open PySem
variable[Lams]
@[simp] theorem lim_eq:lim=1000000:=by decide
@[simp] theorem bindO_s {α β:Type}(a:α) (f:α->Option β):ac (some a) f=f a:=(rfl)
@[simp] theorem shO_s (d:D) (b:Bool):shO (some (d,b))=some d:=(rfl)
@[simp] theorem frO_s (ds:List D):frO (some (.lst ds,true))=some (.lst ds):=(rfl)
@[simp] theorem consO_s (a:D) (l:List D):ad (some a) (some l)=some (a::l):=(rfl)
@[simp] theorem seqO_n (δ:DEnv) (k:DEnv->Option Out):ba (some (.next δ)) k=k δ:=(rfl)
@[simp] theorem ifO_t (x y:Option Out):ifO (some true) x y=x:=(rfl)
@[simp] theorem ifO_f (x y:Option Out):ifO (some false) x y=y:=(rfl)
@[simp] theorem retO_s (d:D):eN (some d)=some (.ret d false):=(rfl)
@[simp] theorem retF_s (d:D):kX (some d)=some (.ret d true):=(rfl)
@[simp] theorem outF_r (d:D) (b:Bool):gA (some (.ret d b))=some (d,b):=(rfl)
@[simp] theorem nextO_s (δ:DEnv):nextO δ=some (.next δ):=(rfl)
@[simp] theorem setO_s (i:Nat) (d:D) (δ:DEnv) (h:i<δ.length):dE i (some d) δ=some (.next (δ.set i (some (d,false)))):=by unfold dE;simp only[if_pos h]
@[simp] theorem setF_s (i:Nat) (d:D) (δ:DEnv) (h:i<δ.length):gN i (some d) δ=some (.next (δ.set i (some (d,true)))):=by unfold gN;simp only[if_pos h]
@[simp] theorem toName_s (i:Nat) (d:D) (δ:DEnv) (h:i<δ.length):ae i d δ=some (δ.set i (some (d,false))):=by unfold ae;simp only[if_pos h]
@[simp] theorem toTup_s (υ:List D->DEnv->Option DEnv) (ds:List D) (δ:DEnv):bg υ (.tup ds) δ=υ ds δ:=(rfl)
@[simp] theorem toCons_s (τ:D->DEnv->Option DEnv) (υ:List D->DEnv->Option DEnv) (d:D) (ds:List D) (δ:DEnv):am τ υ (d::ds) δ=ac (τ d δ) (υ ds):=(rfl)
@[simp] theorem toNil_s (δ:DEnv):toNil [] δ=some δ:=(rfl)
@[simp] theorem addI_s (i j:Int):mO (some (.int i)) (some (.int j))=some (.int (i+j)):=(rfl)
@[simp] theorem mulI_s (i j:Int) (h:(-(2 ^ 64)<i/\i<2 ^ 64)\/(-(2 ^ 64)<j/\j<2 ^ 64)):wZ (some (.int i)) (some (.int j))=some (.int (i*j)):=uZ (by unfold Bs;exact decide_eq_true h)
@[simp] theorem modI_s (i j:Int) (h:0<j):nI (some (.int i)) (some (.int j))=some (.int (i%j)):=uZ (by unfold AY;exact decide_eq_true h)
@[simp] theorem divI_s (i j:Int) (h:0<j/\j<1073741824):zH (some (.int i)) (some (.int j))=some (.int (i / j)):=uZ (by unfold A6;exact decide_eq_true h)
@[simp] theorem tupO_s (ds:List D) (h:ds.length<=lim):dR (some ds)=some (.tup ds):=by unfold dR;simp only[if_pos h]
@[simp] theorem lstO_s (ds:List D) (h:ds.length<=lim):dH (some ds)=some (.lst ds):=by unfold dH;simp only[if_pos h]
@[simp] theorem lstLim_s (ds:List D):aJ (some ds)=some (.lst ds):=(rfl)
@[simp] theorem lstL_s (ds:List D):en (some (.lst ds))=some ds:=(rfl)
@[simp] theorem tupL_s (ds:List D):vW (some (.tup ds))=some ds:=(rfl)
@[simp] theorem tupleO_l (ds:List D):qN (some (.lst ds))=some (.tup ds):=(rfl)
@[simp] theorem lenL_l (ds:List D):ja (some (.lst ds))=some (.int ds.length):=(rfl)
@[simp] theorem lenL_t (ds:List D):ja (some (.tup ds))=some (.int ds.length):=(rfl)
@[simp] theorem ixO_l (ds:List D) (i:Int):ixO (some (.lst ds)) (some (.int i))=atI ds i:=(rfl)
@[simp] theorem ixO_t (ds:List D) (i:Int):ixO (some (.tup ds)) (some (.int i))=atI ds i:=(rfl)
@[simp] theorem partI_s (i:Int):sE (some (.int i))=some (some i):=(rfl)
@[simp] theorem cutLO_s (ds:List D) (l u:Option Int):sJ (some (.lst ds)) (some l) (some u)=some (.lst (wY ds l u)):=(rfl)
@[simp] theorem catO_s (x y:List D) (h:x.length+y.length<=lim):ur (some (.lst x)) (some (.lst y))=some (.lst (x++y)):=by unfold ur;simp only[if_pos h]
@[simp] theorem notO_s (b:Bool):dA (some b)=some (!b):=(rfl)
@[simp] theorem tyB_s (b:Bool):tyB (some (.bl b))=some b:=(rfl)
@[simp] theorem ofB_s (b:Bool):ofB (some b)=some (.bl b):=(rfl)
@[simp] theorem orO_f (y:Option Bool):orO (some false) y=y:=(rfl)
@[simp] theorem andO_t (y:Option Bool):tq (some true) y=y:=(rfl)
@[simp] theorem andO_f (y:Option Bool):tq (some false) y=some false:=(rfl)
@[simp] theorem cI_s (g:Int->Int->Bool) (i j:Int):cI g (some (.int i)) (some (.int j))=some (g i j):=(rfl)
theorem oX (x y:D) (h:ok2 x y=true):eqO (some x) (some y)=some (decide (x=y)):=by unfold eqO;simp only[if_pos h]
@[simp] theorem eqO_int (i j:Int):eqO (some (.int i)) (some (.int j))=some (decide (i=j)):=by
 rw[oX _ _ (by rfl)];simp only[D.int.injEq]
theorem gG (j:Int) (h: -(2 ^ 62)<=j/\j<2 ^ 62):rG (some (.int j))=some (jb 0 j.toNat):=by unfold rG;simp only[decide_eq_true h,if_true]
theorem lV {δ:DEnv}{i:Nat}{ds:List D}(d:D) (h:δ[i]?=some (some (.lst ds,true))) (hl:ds.length<lim):nP i (some d) δ=some (.next (δ.set i (some (.lst (ds++[d]),true)))):=by
 unfold nP bD;simp only[h,if_pos hl]
theorem uH {δ:DEnv}{i:Nat}{ds es:List D}(h:δ[i]?=some (some (.lst ds,true))) (hl:ds.length+es.length<=lim):nV i (some (.lst es)) δ=some (.next (δ.set i (some (.lst (ds++es),true)))):=by
 unfold nV bD;simp only[h,if_pos hl]
@[simp] theorem rd_0 (m:Bool) (d:D) (δ:DEnv):rd m 0 (some (d,false)::δ)=some d:=(rfl)
@[simp] theorem rd_0o (d:D) (δ:DEnv):rd true 0 (some (d,true)::δ)=some d:=(rfl)
@[simp] theorem rd_1 (m:Bool) (i:Nat) (x:Option (D×Bool)) (δ:DEnv):rd m (i+1) (x::δ)=rd m i δ:=(rfl)
@[simp] theorem rdOwn_0 (d:D) (δ:DEnv):bD 0 (some (d,true)::δ)=some d:=(rfl)
@[simp] theorem rdOwn_1 (i:Nat) (x:Option (D×Bool)) (δ:DEnv):bD (i+1) (x::δ)=bD i δ:=(rfl)
@[simp] theorem frzE_0 (d:D) (b:Bool) (δ:DEnv):frzE 0 (some (d,b)::δ)=some (d,false)::δ:=by cases b<;>rfl
@[simp] theorem frzE_1 (i:Nat) (x:Option (D×Bool)) (δ:DEnv):frzE (i+1) (x::δ)=x::frzE i δ:=by
 unfold frzE;rw[List.getElem?_cons_succ]
 split<;>simp_all
theorem Bt (i:Nat) (d:D) (δ:DEnv):nP i (some d) δ=(match bD i δ with|some (.lst ds)=>if ds.length<lim then some (.next (δ.set i (some (.lst (ds++[d]),true)))) else none|_=>none):=by
 unfold nP;split
 ·rename_i e1 e2;obtain rfl:=Option.some.inj e2;rw[e1]
 ·rename_i h
  split
  ·rename_i ds e;exact absurd rfl (h ds d e)
  ·rfl
theorem uq (i:Nat) (es:List D) (δ:DEnv):nV i (some (.lst es)) δ=(match bD i δ with|some (.lst ds)=>if ds.length+es.length<=lim then some (.next (δ.set i (some (.lst (ds++es),true)))) else none|_=>none):=by
 unfold nV;split
 ·rename_i e1 e2;cases e2;rw[e1]
 ·rename_i h
  split
  ·rename_i ds e;exact absurd rfl (h ds es e)
  ·rfl
theorem yA {n np:Nat}{g:DEnv->Option Out}{ds:List D}(h:ds.length=np):eU n np g ds=gA (g (cj n ds)):=by unfold eU;rw[if_pos h]
theorem bf {f:List D->Option (D×Bool)}{n np:Nat}{g:DEnv->Option Out}{ds:List D}{δ:DEnv}(hf:f=eU n np g) (hl:ds.length=np) (hs:cj n ds=δ):f ds=gA (g δ):=by subst hf hs;exact yA hl
theorem mX {α:Type}{xs:List α}{i:Int}(h0:0<=i) (h1:i<xs.length):∃v,v∈xs/\xs[i.toNat]?=some v/\atI xs i=some v:=by
 have hi:i.toNat<xs.length:=by lia
 refine⟨xs[i.toNat],List.getElem_mem hi,by simp[hi],?_⟩
 have:=pY (xs:=xs) (j:=i.toNat) (v:=xs[i.toNat]) (by simp[hi])
 rwa[Int.toNat_of_nonneg h0]at this
theorem pj {α:Type}{xs:List α}{i:Int}{v:α}(h0:0<=i) (h:xs[i.toNat]?=some v):atI xs i=some v:=by
 have:=pY h;rwa[Int.toNat_of_nonneg h0]at this
theorem b7 {bo:Bool}{bs:List Bool}{τ:D->DEnv->Option DEnv}{ft:DEnv->Option Bool}{fe:DEnv->Option D}{δ:DEnv}{ds:List D}(h:ds.length<=lim):dG bo bs τ ft fe δ ds=cA (bb τ ft fe (bd bo bs δ)) ds:=by unfold dG;rw[if_pos h]
theorem fM {body:D->DEnv->Option Out}(I:List D->DEnv->Prop):∀(post pre:List D) (δ:DEnv),I pre δ->(∀p d q δ,p++d::q=pre++post->I p δ->∃δ',(body d δ=some (.next δ')\/body d δ=some (.cont δ'))/\I (p++[d]) δ')->
  ∃δ',aR body post δ=some (.next δ')/\I (pre++post) δ'
 |[],pre,δ,h,_=>⟨δ,rfl,by simpa using h⟩
 |d::post,pre,δ,h,st=>by
  obtain⟨δ1,e1,i1⟩:=st pre d post δ rfl h;obtain⟨δ',e',i'⟩:=fM I post (pre++[d]) δ1 i1 fun p d' q δ e i=>st p d' q δ (by simpa using e) i
  refine⟨δ',?_,by simpa using i'⟩
  unfold aR
  rcases e1 with e1|e1<;>rw[e1]<;>exact e'
theorem tO {lo:Int}{n:Nat}{d:D}(h:d∈jb lo n):∃i:Nat,i<n/\d=.int (lo+i):=by
 unfold jb at h;obtain⟨i,hi,e⟩:=List.mem_map.mp h;exact⟨i,List.mem_range.mp hi,e.symm⟩
theorem bW (lo:Int) (n:Nat):(jb lo n).length=n:=by unfold jb;simp
theorem vn (z:Str) (i:Int) (hz:z.length<=lim) (h0:0<=i) (h1:i<z.length):∃x:Str,x.length=1/\xf (some (.str z)) (some (.int i))=some (.str x):=by
 obtain⟨c,_,_,e⟩:=mX (xs:=z.cps.toList) (i:=i) h0 (by simpa[Str.length]using h1)
 refine⟨⟨#[c]⟩,rfl,?_⟩
 unfold xf;simp only[if_pos hz,e]
end L2
namespace L2
open PySem PySem.Spec PyProof.Rows
variable[Lams]
noncomputable def ltV (x y:Option D):Option Bool:=match x,y with
 |some (.int i),some (.int j)=>some (decide (i<j))
 |some (.str i),some (.str j)=>some (decide (i.cps.toList<j.cps.toList))
 |_,_=>none
section
variable{X:Cx}{a b e:Expr}{fa fb:DEnv->Option D}{m m' mm:Bool}{pos p2 q1 q2:Pos}{te:TE}
noncomputable def rLtV:R2:=fun x y H Q=>(∃i j,x=.int i/\y=.int j/\Q (.bl (decide (i<j))) H)\/∃i j,x=.str i/\y=.str j/\Q (.bl (decide (i.cps.toList<j.cps.toList))) H
theorem zA:OpR X (compareOp .Lt) rLtV:=by
 intro pins s σ H x y v u Q I rx ry h
 rcases h with h|h
 ·exact xQ pins s σ H x y v u Q I rx ry h
 ·exact oJ pins s σ H x y v u Q I rx ry h
theorem tS {x y:Option D}{c:Bool}(h:ltV x y=some c):∃d e,x=some d/\y=some e/\∀{K:PySem.W.Frag}{B B':Addr->Prop}{H:Hp}{v u:V}{Q:VK},Rep K B H d v->Rep K B' H e u->Q (.bl c) H->rLtV v u H Q:=by
 unfold ltV at h;split at h
 ·rename_i i j
  obtain rfl:=Option.some.inj h;refine⟨_,_,rfl,rfl,fun r1 r2 q=>?_⟩
  simp only[Rep]at r1 r2;exact .inl ⟨i,j,r1,r2,q⟩
 ·rename_i i j
  obtain rfl:=Option.some.inj h;refine⟨_,_,rfl,rfl,fun r1 r2 q=>?_⟩
  simp only[Rep]at r1 r2;exact .inr ⟨i,j,r1,r2,q⟩
 ·contradiction
theorem xz (hm:behindInMarks .Lt b=false) (ha:DE X m a fa) (hb:DE X m' b fb):DT X (.Compare a [.Lt] [b] pos) (fun δ=>ltV (fa δ) (fb δ)):=
 (cQ zA ha hb hm).imp fun σ H Q hz=>by
  obtain⟨B,Hk,δ,d,R,e,k⟩:=hz;obtain⟨d1,d2,e1,e2,go⟩:=tS e;refine two R e1 e2 fun v u H' s R' r1 r2=>?_
  exact go r1 r2 ⟨_,rfl,k H' s⟩
end
section
variable{X:Cx}{a b e:Expr}{fa fb:DEnv->Option D}{m m' mm:Bool}{pos p2 q1 q2:Pos}{te:TE}
end
noncomputable def ck (t:DEnv->Option Bool) (b:DEnv->Option Out):Nat->DEnv->Option Out
 |0,_=>none
 |n+1,δ=>match t δ with
  |none=>none
  |some false=>some (.next δ)
  |some true=>match b δ with
   |some (.next δ')=>ck t b n δ'
   |some (.cont δ')=>ck t b n δ'
   |some (.brk δ')=>some (.next δ')
   |some (.ret e fr)=>some (.ret e fr)
   |none=>none
section
variable{X:Cx}{c a b:Expr}{body:List Stmt}{ft:DEnv->Option Bool}{gb:DEnv->Option Out}{pos:Pos}{fa fb:DEnv->Option D}{m m' mm:Bool}
theorem rS (n:Nat) (hp:PassesOwn (model X.prog X.w) X.A X.env X.xe) (hc:DT X c ft) (hb:DSs X body gb):DS X (.While c body [] pos) (fun δ=>ck ft gb n δ):=
 (m6 hp hc hb).imp fun Dn σ H hz=>by
  obtain⟨B,Hk,δ,o,R,e,k⟩:=hz;refine⟨fun j σ' H'=>∃δ',Ext B H H'/\Rel X.K B Hk δ' σ' H'/\ck ft gb j δ'=some o,⟨n,δ,Ext.refl,R,e⟩,?_⟩
  rintro j σ1 H1 ⟨δ1,x1,R1,e1⟩
  cases j with
  |zero=>contradiction
  |succ j=>
   unfold ck at e1;cases q:ft δ1 with
   |none=>rw[q]at e1;contradiction
   |some t=>
    refine⟨B,Hk,δ1,t,R1,q,fun H2 s2=>?_⟩
    rw[q]at e1;have x2:=x1.trans (R1.ext s2);have R2:=R1.to s2;cases t with
    |false=>
     obtain rfl:=Option.some.inj e1;rw[if_neg Bool.false_ne_true];exact k σ1 H2 x2 R2
    |true=>
     rw[if_pos rfl];simp only at e1;cases q2:gb δ1 with
     |none=>rw[q2]at e1;contradiction
     |some o1=>
      rw[q2]at e1;refine⟨fun σ' H'=>∃δ',Ext B H H'/\Rel X.K B Hk δ' σ' H'/\ck ft gb j δ'=some o,fun σ' H' z=>⟨j,Nat.lt_succ_self j,z⟩,B,Hk,δ1,o1,R2,q2,?_⟩
      cases o1 with
      |next δ3=>exact fun σ4 H4 x4 R4=>⟨δ3,x2.trans x4,R4,e1⟩
      |cont δ3=>exact fun σ4 H4 x4 R4=>⟨δ3,x2.trans x4,R4,e1⟩
      |brk δ3=>simp only at e1;obtain rfl:=Option.some.inj e1;exact fun σ4 H4 x4 R4=>k σ4 H4 (x2.trans x4) R4
      |ret d fr=>simp only at e1;obtain rfl:=Option.some.inj e1;exact fun v4 H4 x4 R4=>k v4 H4 (x2.trans x4) R4
noncomputable def nX (x:Option D):Option Bool:=match x with
 |some .non=>some false
 |some (.bl b)=>some b
 |some (.int i)=>some (i != 0)
 |some (.str y)=>if y.length<=lim then some ((y.length:Int) != 0) else none
 |some (.lst ds)=>some (!ds.isEmpty)
 |some (.tup ds)=>some (!ds.isEmpty)
 |_=>none
theorem Reps.empty {K:PySem.W.Frag}{B:Addr->Prop}{H:Hp}{ds:List D}{xs:List V}(r:Reps K B H ds xs):ds.isEmpty=xs.isEmpty:=by
 have:=r.length;cases ds<;>cases xs<;>simp at this<;>rfl
theorem t7 (ha:DE X m a fa) (he:∀whole,isTrue a X.env whole=(do let v <-whole;standAt a.pos;holding [v] (truthy v)):=by intro _;rfl):DT X a (fun δ=>nX (fa δ)):=
 (sO ha he).imp fun σ H Q hz=>by
  obtain⟨B,Hk,δ,d,R,e,k⟩:=hz;cases q:fa δ with
  |none=>rw[q]at e;contradiction
  |some z=>
   rw[q]at e;refine⟨B,Hk,δ,z,R,q,fun v H' s r=>⟨d,?_,k H' s⟩⟩
   cases z with
   |non=>simp only[Rep]at r;subst r;simp only[nX]at e;obtain rfl:=Option.some.inj e;rfl
   |bl b=>simp only[Rep]at r;subst r;simp only[nX]at e;obtain rfl:=Option.some.inj e;rfl
   |int i=>simp only[Rep]at r;subst r;simp only[nX]at e;obtain rfl:=Option.some.inj e;rfl
   |str y=>
    simp only[Rep]at r;subst r;simp only[nX]at e
    by_cases hl:y.length<=lim
    ·rw[if_pos hl]at e;obtain rfl:=Option.some.inj e;exact⟨aH hl,rfl⟩
    ·rw[if_neg hl]at e;contradiction
   |lst ds=>
    simp only[Rep]at r;obtain⟨p,xs,rfl,hq,rs⟩:=r;simp only[nX]at e;obtain rfl:=Option.some.inj e;exact .inl ⟨xs,hq.sq,by rw[rs.empty]⟩
   |tup ds=>
    simp only[Rep]at r;obtain⟨p,xs,rfl,hq,rs⟩:=r;simp only[nX]at e;obtain rfl:=Option.some.inj e;exact .inr (.inl ⟨xs,SqT.of hq,by rw[rs.empty]⟩)
   |dT ks vs=>simp only[nX]at e;contradiction
   |dK ks vs=>simp only[nX]at e;contradiction
   |dD ks vs=>simp only[nX]at e;contradiction
   |sp _ _=>simp only[nX]at e;contradiction
noncomputable def qB (x:Option D):Option Bool:=match x with|some d=>some (decide (d=.non))|none=>none
theorem Rep.non {K:PySem.W.Frag}{B:Addr->Prop}{H:Hp}{d:D}{v:V}(r:Rep K B H d v):(v=.non)=(d=.non):=by
 cases d
 case sp k x=>
  cases k<;>simp only[Rep]at r
  ·obtain⟨p,rfl,_⟩:=r;simp
  ·obtain⟨p,o,c,u,rfl,_⟩:=r;simp
 all_goals simp only[Rep]at r
 case non=>simp[r]
 all_goals first
  |(subst r;simp)
  |(obtain⟨p,xs,rfl,_⟩:=r;simp)
theorem wW {K:PySem.W.Frag}{B:Addr->Prop}{H:Hp}{d:D}{v:V}(r:Rep K B H d v):decide (v=.non)=decide (d=.non):=by
 by_cases h:d=.non
 ·rw[decide_eq_true h,decide_eq_true (by rw[r.non];exact h)]
 ·rw[decide_eq_false h,decide_eq_false (by rw[r.non];exact h)]
theorem oz {x:Option D}{c:Bool}(h:qB x=some c):∃d,x=some d/\c=decide (d=.non):=by
 unfold qB at h;split at h
 ·obtain rfl:=Option.some.inj h;exact⟨_,rfl,rfl⟩
 ·contradiction
theorem pA {tk:Nat}{p:Pos}(ha:DE X m a fa) (hm:behindInMarks .IsNot (.Constant .none tk p)=false:=by rfl):DT X (.Compare a [.IsNot] [.Constant .none tk p] pos) (fun δ=>dA (qB (fa δ))):=
 (cQ wu ha (mU (m:=false)) hm).imp fun σ H Q hz=>by
  obtain⟨B,Hk,δ,d,R,e,k⟩:=hz;cases h:qB (fa δ)with
  |none=>simp only[h,dA]at e;contradiction
  |some c=>
   simp only[h,dA]at e;obtain rfl:=Option.some.inj e;obtain⟨z,q,rfl⟩:=oz h;refine two (fb:=fun _=>some .non) R q rfl fun v u H' s R' r1 r2=>?_
   simp only[Rep]at r2;exact⟨r2,_,rfl,by rw[wW r1];exact k H' s⟩
end
theorem wm {prog:Program}{w:World}{A:Around}{E:Value->Shared->Prop}{s:Shared}{elts:List Expr}{x1} {pos:Pos}{e c T:Addr}{i:Int}{x:Value}{Q:Unit->Shared->Prop}(he:IsEnumOut s.heap e c i x T)
  (hQ:∀h',IsEnum h' e c i x->Heap.SameBut e s.heap h'->Q () {s with heap:=h'}):wpAny (model prog w) A (letOwnedTupleGo (.Tuple elts x1 pos) (.ref e) (.ref T)) Q E s:=by
 unfold letOwnedTupleGo;refine wpAny_bind (wpAny_load he ?_)
 change wpAny _ _ (if(["enumerate","zip","dict_itemiterator","dict_reverseitemiterator","odict_iterator","itertools.zip_longest","itertools.pairwise"].contains "enumerate"&&(#[rawInt T,.bool false,.ref c,rawInt i,.none,x]:Array Value)[0]?==some (rawInt T))=true then _ else _) Q E s
 rw[if_pos (by simp)]
 refine wpAny_bind (wpAny_rule (wpAny_setField_rec he (by simp) fun h' g' m'=>hQ h' g' m'))
section
variable{X:Cx}{elts:List Expr}{x1:Nat}{tp:Pos}{m:Bool}{a:Expr}{fa:DEnv->Option D}{p pos:Pos}
noncomputable def gx (i:Nat):List D->List D
 |[]=>[]
 |d::ds=>.tup [.int i,d]::gx (i+1) ds
theorem jJ:∀(ds:List D) (j i:Nat) (x:D),(gx j ds)[i]?=some x->∃d,ds[i]?=some d/\x=.tup [.int ((j+i:Nat):Int),d]
 |[],j,i,x,h=>by simp[gx]at h
 |d::ds,j,0,x,h=>by simp[gx]at h;exact⟨d,rfl,by rw[<-h];simp⟩
 |d::ds,j,i+1,x,h=>by
  simp[gx]at h;obtain⟨e,h1,h2⟩:=jJ ds (j+1) i x h;exact⟨e,by simpa using h1,by rw[h2,show j+1+i=j+(i+1) by lia]⟩
theorem fQ:∀(j:Nat) (ds:List D),(gx j ds).length=ds.length
 |_,[]=>rfl
 |j,d::ds=>by simp[gx,fQ (j+1) ds]
end
mutual
theorem KR.raw {P:Program}{w:World}{H:Hp}{h:Heap}(ok:HOk P w H h):∀{d:D}{v:V}{u:Value},KR H d v->RelV v u->RH h d u
 |.int i,v,u,r,q=>by simp only[KR]at r;subst r;obtain⟨t,rfl⟩:=q;simp only[RH];exact⟨t,rfl⟩
 |.str i,v,u,r,q=>by simp only[KR]at r;subst r;obtain⟨t,rfl⟩:=q;simp only[RH];exact⟨t,rfl⟩
 |.tup ds,v,u,r,q=>by
  simp only[KR]at r;obtain⟨a,xs,rfl,g,rs⟩:=r;cases q;obtain⟨_,its,rv,ht⟩:=(show ObjOk P w H h a (.tup xs) from ok a _ g)
  simp only[RH];exact⟨a,its,rfl,ht,KRs.raw ok rs rv⟩
 |.non,v,u,r,_=>by simp only[KR]at r
 |.bl _,v,u,r,_=>by simp only[KR]at r
 |.lst _,v,u,r,_=>by simp only[KR]at r
 |.dT _ _,v,u,r,_=>by simp only[KR]at r
 |.dK _ _,v,u,r,_=>by simp only[KR]at r
 |.dD _ _,v,u,r,_=>by simp only[KR]at r
 |.sp _ _,v,u,r,_=>by simp only[KR]at r
theorem KRs.raw {P:Program}{w:World}{H:Hp}{h:Heap}(ok:HOk P w H h):∀{ds:List D}{xs:List V}{us:List Value},KRs H ds xs->Vals xs us->RHs h ds us
 |[],xs,us,r,q=>by simp only[KRs]at r;subst r;cases q;simp only[RHs]
 |d::ds,xs,us,r,q=>by
  simp only[KRs]at r;obtain⟨x,t,rfl,r1,r2⟩:=r;cases q with
  |cons q1 q2=>simp only[RHs];exact⟨_,_,rfl,KR.raw ok r1 q1,KRs.raw ok r2 q2⟩
end
mutual
theorem Rep.key {K:PySem.W.Frag}{B:Addr->Prop}{H:Hp}:∀{n:Nat}{d:D}{v:V},bL n d=true->Rep K B H d v->KR H d v
 |n,.int i,v,_,r=>by simp only[Rep]at r;simp only[KR];exact r
 |n,.str i,v,_,r=>by simp only[Rep]at r;simp only[KR];exact r
 |n,.tup ds,v,h,r=>by
  simp only[Rep]at r;obtain⟨a,xs,rfl,g,rs⟩:=r;obtain⟨k,_,hd⟩:=dW h;simp only[KR];exact⟨a,xs,rfl,g,Reps.key hd rs⟩
 |n,.non,v,h,_=>by cases n<;>simp[bL]at h
 |n,.bl _,v,h,_=>by cases n<;>simp[bL]at h
 |n,.lst _,v,h,_=>by cases n<;>simp[bL]at h
 |n,.dT _ _,v,h,_=>by cases n<;>simp[bL]at h
 |n,.dK _ _,v,h,_=>by cases n<;>simp[bL]at h
 |n,.dD _ _,v,h,_=>by cases n<;>simp[bL]at h
 |n,.sp _ _,v,h,_=>by cases n<;>simp[bL]at h
theorem Reps.key {K:PySem.W.Frag}{B:Addr->Prop}{H:Hp}:∀{n:Nat}{ds:List D}{xs:List V},ds.all (bL n)=true->Reps K B H ds xs->KRs H ds xs
 |n,[],xs,_,r=>by simp only[Reps]at r;simp only[KRs];exact r
 |n,d::ds,xs,h,r=>by
  rw[List.all_cons,Bool.and_eq_true]at h;simp only[Reps]at r;obtain⟨x,t,rfl,r1,r2⟩:=r;simp only[KRs];exact⟨x,t,rfl,Rep.key h.1 r1,Reps.key h.2 r2⟩
end
mutual
theorem KR.rep {K:PySem.W.Frag}{B:Addr->Prop}{H:Hp}:∀{d:D}{v:V},KR H d v->Rep K B H d v
 |.int i,v,r=>by simp only[KR]at r;simp only[Rep];exact r
 |.str i,v,r=>by simp only[KR]at r;simp only[Rep];exact r
 |.tup ds,v,r=>by
  simp only[KR]at r;obtain⟨a,xs,rfl,g,rs⟩:=r;simp only[Rep];exact⟨a,xs,rfl,g,KRs.rep rs⟩
 |.non,v,r=>by simp only[KR]at r
 |.bl _,v,r=>by simp only[KR]at r
 |.lst _,v,r=>by simp only[KR]at r
 |.dT _ _,v,r=>by simp only[KR]at r
 |.dK _ _,v,r=>by simp only[KR]at r
 |.dD _ _,v,r=>by simp only[KR]at r
 |.sp _ _,v,r=>by simp only[KR]at r
theorem KRs.rep {K:PySem.W.Frag}{B:Addr->Prop}{H:Hp}:∀{ds:List D}{xs:List V},KRs H ds xs->Reps K B H ds xs
 |[],xs,r=>by simp only[KRs]at r;simp only[Reps];exact r
 |d::ds,xs,r=>by
  simp only[KRs]at r;obtain⟨x,t,rfl,r1,r2⟩:=r;simp only[Reps];exact⟨x,t,rfl,KR.rep r1,KRs.rep r2⟩
end
theorem DPairs.val {H:Hp}{kvs:List (D×V)}{xs:List (D×Addr×Value)}(r:DPairs H kvs xs) (k:D):RelO (bV kvs k) ((atKey xs k).map (·.2)):=by
 induction r with
 |nil=>exact True.intro
 | @cons p q ps qs h t ih=>
  by_cases e:p.1=k
  ·rw[aO e,show atKey (q::qs) k=some q.2 by simp[atKey,List.find?_cons,h.1.symm.trans e]]
   exact h.2.2.2
  ·have e':¬q.1=k:=fun z=>e (h.1.trans z)
   rw[aP e,show atKey (q::qs) k=atKey qs k by simp[atKey,List.find?_cons,e']]
   exact ih
theorem DPairs.repl {H:Hp}{kvs:List (D×V)}{xs:List (D×Addr×Value)}(r:DPairs H kvs xs) (k:D) {y:V}{u:Value}(ry:RelV y u):DPairs H (kvs.map fun kv=>if kv.1=k then(kv.1,y) else kv) (xs.map (putAt k u)):=by
 induction r with
 |nil=>exact .nil
 | @cons p q ps qs h t ih=>
  refine .cons ?_ ih
  dsimp only
  by_cases e:p.1=k
  ·rw[if_pos e,putAt,if_pos (h.1.symm.trans e)];exact⟨h.1,h.2.1,h.2.2.1,ry⟩
  ·rw[if_neg e,putAt,if_neg fun z=>e (h.1.trans z)];exact h
theorem DPairs.put {H:Hp}{kvs:List (D×V)}{xs:List (D×Addr×Value)}(r:DPairs H kvs xs) (k:D) {b:Addr}{y:V}{u:Value}(hk:bL 8 k=true) (hb:KR H k (.ref b)) (ry:RelV y u):DPairs H (cF kvs k y) (storedH xs k b u):=by
 have e:(kvs.any fun kv=>decide (kv.1=k))=(atKey xs k).isSome:=by rw[dj,(r.val k).isSome_eq,Option.isSome_map]
 unfold cF storedH;rw[e]
 by_cases q:(atKey xs k).isSome=true
 ·rw[if_pos q,if_pos q];exact r.repl k ry
 ·rw[if_neg q,if_neg q];exact Paired.snoc r ⟨rfl,hk,hb,ry⟩
section
variable{P:Program}{w:World}{H:Hp}{h:Heap}{a:Addr}
theorem h9 {kvs:List (D×V)}{ep:Nat}(ok:HOk P w H h) (e:Rd H a (.dD kvs ep)):kvs.length<=sizeLine/\(a==sysModules)=false/\∃xs,DPairs H kvs xs/\h.DictOfH (bh P w) a xs:=by
 obtain⟨z,y,xs,r,o,es,h1,h2,h3,h4,h5⟩:=(show ObjOk P w H h a (.dD kvs ep) from gB ok e)
 refine⟨z,y,xs,r,o,es,ep,h1,h2,h3,h4,?_,h5⟩
 have all:∀{l:List (D×V)}{m:List (D×Addr×Value)},DPairs H l m->∀x∈m,(bh P w).is h x.1 x.2.1:=by
  intro l m q
  induction q with
  |nil=>intro x hx;exact nomatch hx
  | @cons p q ps qs hq t ih=>
   intro x hx
   rcases List.mem_cons.mp hx with rfl|hx
   ·exact⟨by rw[<-hq.1];exact hq.2.1,by rw[<-hq.1];exact KR.raw ok hq.2.2.1 rfl⟩
   ·exact ih x hx
 exact all r
theorem iI (hb:sysModules<h.objs.size):ObjOk P w H (h.push {cls:=.type "dict",data:=.dict #[]}) h.objs.size (.dD [] 0):=
 ⟨Nat.zero_le _,by simpa using Nat.ne_of_gt hb,[],.nil,_,#[],Heap.get?_push_size _ rfl,⟨rfl,rfl,rfl⟩,rfl,rfl,List.nodup_nil⟩
end
section
variable{X:Cx}{pins:List (Addr×Obj)}{σ:St}{H:Hp}{s:Shared}{a b:Addr}{kvs:List (D×V)}{ep:Nat}{k:D}{v:V}{r:Value}{A:Around}{E:Value->Shared->Prop}
theorem cD (I:Inv X pins σ H s) (hk:bL 8 k=true) (kb:KR H k (.ref b)):(bh X.prog X.w).is s.heap k b:=⟨hk,KR.raw I.hok kb rfl⟩
theorem nu {Q:Value->Shared->Prop}(hu:A.units+40<cLine) (I:Inv X pins σ H s) (e:Rd H a (.dD kvs ep)) (hk:bL 8 k=true) (kb:KR H k (.ref b)) (l:bV kvs k=some v) (h:∀w' s',Inv X pins σ H s'->RelV v w'->Q w' s'):
  wpAny (model X.prog X.w) A (getItem (.ref a) (.ref b)) Q E s:=by
 obtain⟨z,hd,xs,rel,dd⟩:=h9 I.hok e;obtain⟨w',hw,rw'⟩:=RelO.some_of (v:=v) (o:=(atKey xs k).map (·.2)) (by rw[<-l];exact rel.val k)
 obtain⟨p,hp,hp2⟩:=Option.map_eq_some_iff.mp hw;refine wpAny_getItem_heap (knd:=bh X.prog X.w) (by show A.units+1+30<cLine;lia) (cD I hk kb) dd hp ?_
 rw[hp2];exact h w' _ (I.tok _) rw'
theorem rT {Q:Value->Shared->Prop}(hu:A.units+40<cLine) (I:Inv X pins σ H s) (e:Rd H a (.dD kvs ep)) (hk:bL 8 k=true) (kb:KR H k (.ref b)) (h:∀s',Inv X pins σ H s'->Q (.bool (!(bV kvs k).isSome)) s'):
  wpAny (model X.prog X.w) A (compareOp .NotIn (.ref b) (.ref a)) Q E s:=by
 obtain⟨z,hd,xs,rel,dd⟩:=h9 I.hok e;refine wpAny_notIn_heap (knd:=bh X.prog X.w) (by show A.units+1+30<cLine;lia) (cD I hk kb) hd dd ?_
 have q:=(rel.val k).isSome_eq;rw[Option.isSome_map]at q;rw[<-q];exact h _ (I.tok _)
theorem nc {Q:Unit->Shared->Prop}(hu:A.units+40<cLine) (I:Inv X pins σ H s) (e:H a=some (.dD kvs ep)) (hk:bL 8 k=true) (kb:KR H k (.ref b)) (l:kvs.length<sizeLine) (rv:RelV v r) (h:∀ep' s',Inv X pins σ (upd H a (.dD (cF kvs k v) ep')) s'->Q () s'):
  wpAny (model X.prog X.w) A (setItem (.ref a) (.ref b) r) Q E s:=by
 obtain⟨z,hd,xs,rel,dd⟩:=h9 I.hok (.inl e);have hl:(cF kvs k v).length<=sizeLine:=by have:=aW kvs k v;lia
 refine wpAny_setItem_heap (knd:=bh X.prog X.w) (hsz:=by rw[<-Paired.length rel];exact z) (by show A.units+1+30<cLine;lia) (cD I hk kb) dd fun h' dd' hs=>?_
 obtain⟨q,es,ep',hq,h2,h3,h4,_,h5⟩:=dd';refine h ep' _ (dC I (by rw[e];exact True.intro) hs ⟨q,hq⟩ ⟨hl,hd,_,Paired.mapP (rel.put k hk kb rv) fun p q z=>⟨z.1,z.2.1,KR.to (fun c ys ec=>?_) z.2.2.1,z.2.2.2⟩,q,es,hq,h2,h3,h4,h5⟩)
 rw[aj (iO ec e (fun z=>nomatch z))]
 exact ec
end
theorem Rel.oset {K:PySem.W.Frag}{B:Addr->Prop}{Hk H:Hp}{δ:DEnv}{σ:St}{i:Nat}{d d':D}{l:Addr}{o:HO}(R:Rel K B Hk δ σ H) (h:δ[i]?=some (some (d,true))) (hl:σ[i]?=some (some (.ref l))) (new:Ext B H (upd H l o)->ObR K B (upd H l o) d' l):
  Ext B H (upd H l o)/\Rel K B Hk (δ.set i (some (d',true))) σ (upd H l o):=by
 obtain⟨a,e1,e2,ob⟩:=R.own i _ h;rw[hl]at e1;cases e1;obtain⟨u,hx,mu⟩:=ob.mut;have hb:¬B l:=fun z=>by obtain⟨o,q⟩:=R.bor l z;rw[e2]at q;contradiction
 have ex:Ext B H (upd H l o):=bj hx mu hb;have hi':i<δ.length:=(List.getElem?_eq_some_iff.mp h).1
 have was:∀j e,(δ.set i (some (d',true)))[j]?=some (some (e,true))->∃e',δ[j]?=some (some (e',true)):=fun j e q=>by
  by_cases hj:j=i
  ·subst hj;exact⟨_,h⟩
  ·rw[List.getElem?_set_ne (Ne.symm hj)]at q;exact⟨_,q⟩
 refine⟨ex,⟨R.same.put e2,R.bor,by simpa using R.len,fun j e q=>?_,fun j e q=>?_,fun j k e f q hjk h1 h2 h3 h4=>?_⟩⟩
 ·by_cases hj:j=i
  ·subst hj
   rw[List.getElem?_set_self hi']at q
   cases q
  ·rw[List.getElem?_set_ne (Ne.symm hj)]at q
   obtain⟨v,q1,q2⟩:=R.var j e q;exact⟨v,q1,q2.ext ex⟩
 ·by_cases hj:j=i
  ·subst hj
   rw[List.getElem?_set_self hi']at q
   cases q;exact⟨l,hl,e2,new ex⟩
  ·rw[List.getElem?_set_ne (Ne.symm hj)]at q
   obtain⟨c,q1,q2,q3⟩:=R.own j e q;have hc:c≠l:=fun z=>by subst z;exact R.dis j i e _ c hj q h q1 hl
   exact⟨c,q1,q2,q3.ext ex fun o q _=>by rw[aj hc];exact q⟩
 ·obtain⟨e',z1⟩:=was j e h1
  obtain⟨f',z2⟩:=was k f h2;exact R.dis j k e' f' q hjk z1 z2 h3 h4
noncomputable def nW:D->Bool
 |.tup _=>true
 |_=>false
noncomputable def cX {κ:Type}[DecidableEq κ] (k:κ):List κ->List D->Option D
 |x::ks,d::ds=>if x=k then some d else cX k ks ds
 |_,_=>none
noncomputable def m9 {κ:Type}[DecidableEq κ] (k:κ) (v:D):List κ->List D->List D
 |x::ks,d::ds=>(if x=k then v else d)::m9 k v ks ds
 |_,_=>[]
noncomputable def rV {κ:Type}[DecidableEq κ] (k:κ) (v:D) (ks:List κ) (ds:List D):List D:=if k∈ks then m9 k v ks ds else ds++[v]
noncomputable def ip {κ:Type}[DecidableEq κ] (k:κ) (ks:List κ):List κ:=if k∈ks then ks else ks++[k]
section
variable{K:PySem.W.Frag}{B:Addr->Prop}{H:Hp}{κ:Type}[DecidableEq κ]
theorem cM (k:κ):∀{kvs:List (κ×V)}{ds:List D},Reps K B H ds (kvs.map (·.2))->(cX k (kvs.map (·.1)) ds=none->bV kvs k=none)/\∀d,cX k (kvs.map (·.1)) ds=some d->∃v,bV kvs k=some v/\Rep K B H d v
 |[],ds,r=>⟨fun _=>rfl,fun d h=>by cases ds<;>simp[cX]at h⟩
 |p::kvs,ds,r=>by
  cases ds with
  |nil=>simp only[List.map_cons,Reps]at r;contradiction
  |cons d ds=>
   rw[List.map_cons]at r;obtain⟨r1,r2⟩:=r.uncons;rw[List.map_cons];unfold cX
   by_cases e:p.1=k
   ·rw[if_pos e]
    exact⟨fun z=>(by contradiction),fun d2 z=>(by obtain rfl:=Option.some.inj z;exact⟨p.2,aO e,r1⟩)⟩
   ·rw[if_neg e,aP e]
    exact cM k r2
theorem pC (k:κ) (kvs:List (κ×V)):(kvs.any fun kv=>decide (kv.1=k))=decide (k∈kvs.map (·.1)):=by
 rw[Bool.eq_iff_iff,List.any_eq_true,decide_eq_true_iff,List.mem_map];constructor
 ·rintro⟨x,h1,h2⟩;exact⟨x,h1,of_decide_eq_true h2⟩
 ·rintro⟨x,h1,h2⟩;exact⟨x,h1,decide_eq_true h2⟩
theorem fF (k:κ) (v:V) (kvs:List (κ×V)):(cF kvs k v).map (·.1)=ip k (kvs.map (·.1)):=by
 unfold cF ip;rw[pC]
 by_cases hk:k∈kvs.map (·.1)
 ·rw[decide_eq_true hk,if_pos rfl,if_pos hk,List.map_map]
  refine List.map_congr_left fun x _=>?_
  simp only[Function.comp];split<;>rfl
 ·rw[decide_eq_false hk,if_neg Bool.false_ne_true,if_neg hk]
  simp
theorem kj {d:D}{v:V}(r:Rep K B H d v) (k:κ):∀{kvs:List (κ×V)}{ds:List D},Reps K B H ds (kvs.map (·.2))->Reps K B H (m9 k d (kvs.map (·.1)) ds) ((kvs.map fun kv=>if kv.1=k then(kv.1,v) else kv).map (·.2))
 |[],ds,q=>by
  cases ds with
  |nil=>exact Reps.nil
  |cons _ _=>simp only[List.map_nil,Reps]at q;obtain⟨_,_,z,_⟩:=q;contradiction
 |p::kvs,ds,q=>by
  cases ds with
  |nil=>simp only[List.map_cons,Reps]at q;contradiction
  |cons d0 ds=>
   rw[List.map_cons]at q;obtain⟨r1,r2⟩:=q.uncons;have ih:=kj r k r2;rw[List.map_cons,List.map_cons,List.map_cons];unfold m9
   by_cases e:p.1=k
   ·rw[if_pos e,if_pos e];exact Reps.cons r ih
   ·rw[if_neg e,if_neg e];exact Reps.cons r1 ih
theorem iL {d:D}{v:V}(r:Rep K B H d v) (k:κ) {kvs:List (κ×V)}{ds:List D}(q:Reps K B H ds (kvs.map (·.2))):Reps K B H (rV k d (kvs.map (·.1)) ds) ((cF kvs k v).map (·.2)):=by
 unfold cF rV;rw[pC]
 by_cases hk:k∈kvs.map (·.1)
 ·rw[decide_eq_true hk,if_pos rfl,if_pos hk];exact kj r k q
 ·rw[decide_eq_false hk,if_neg Bool.false_ne_true,if_neg hk,List.map_append]
  exact q.append (Reps.cons r Reps.nil)
end
noncomputable def DGA (H:Hp) (a:Addr) (y:V) (r:Option V):Prop:=zj H a y r\/∃kvs ep k b,Rd H a (.dD kvs ep)/\y=.ref b/\bL 8 k=true/\KR H k (.ref b)/\r=bV kvs k
noncomputable def DPA (H:Hp) (a:Addr) (y v:V) (N:Hp->Prop):Prop:=(∃H',Bb H a y v H'/\N H')\/∃kvs ep k b,H a=some (.dD kvs ep)/\y=.ref b/\bL 8 k=true/\KR H k (.ref b)/\kvs.length<sizeLine/\∀ep',N (upd H a (.dD (cF kvs k v) ep'))
section
variable{X:Cx}{pins:List (Addr×Obj)}{σ:St}{H:Hp}{s:Shared}{a:Addr}{y v:V}{u r:Value}{o:Option V}{A:Around}{E:Value->Shared->Prop}
theorem nR {Q:Value->Shared->Prop}(hu:A.units+40<cLine) (I:Inv X pins σ H s) (g:DGA H a y (some v)) (ry:RelV y u) (h:∀w' s',Inv X pins σ H s'->RelV v w'->Q w' s'):wpAny (model X.prog X.w) A (getItem (.ref a) u) Q E s:=by
 rcases g with g|⟨kvs,ep,k,b,e,rfl,hk,kb,l⟩
 ·exact rl (by lia) I g ry h
 ·cases (show u=Value.ref b from ry);exact nu hu I e hk kb l.symm h
theorem sI {Q:Value->Shared->Prop}(hu:A.units+40<cLine) (I:Inv X pins σ H s) (g:DGA H a y o) (ry:RelV y u) (h:∀s',Inv X pins σ H s'->Q (.bool (!o.isSome)) s'):wpAny (model X.prog X.w) A (compareOp .NotIn u (.ref a)) Q E s:=by
 rcases g with g|⟨kvs,ep,k,b,e,rfl,hk,kb,rfl⟩
 ·exact vM (by lia) I g ry h
 ·cases (show u=Value.ref b from ry);exact rT hu I e hk kb h
theorem nE {N:Hp->Prop}{Q:Unit->Shared->Prop}(hu:A.units+40<cLine) (I:Inv X pins σ H s) (g:DPA H a y v N) (ry:RelV y u) (rv:RelV v r) (h:∀H' s',Inv X pins σ H' s'->N H'->Q () s'):wpAny (model X.prog X.w) A (setItem (.ref a) u r) Q E s:=by
 rcases g with⟨H',g,n⟩|⟨kvs,ep,k,b,e,rfl,hk,kb,l,n⟩
 ·exact qm (by lia) I g ry rv fun s' I'=>h H' s' I' n
 ·cases (show u=Value.ref b from ry);exact nc hu I e hk kb l rv fun ep' s' I'=>h _ s' I' (n ep')
theorem jy (I:Inv X pins σ H s) (g:DGA H a y o):s.TypeIs (.ref a) "dict":=by
 rcases g with g|⟨kvs,ep,k,b,e,_⟩
 ·exact k7 I g
 ·obtain⟨_,_,xs,_,dd⟩:=h9 I.hok e
  exact dd.typeIs
end
noncomputable def tGA (td ty:TE):TE:=fun σ H Q=>td σ H fun x H1=>ty σ H1 fun y H2=>∃a v,x=.ref a/\DGA H2 a y (some v)/\Q v H2
noncomputable def rIA (neg:Bool):R2:=fun y x H Q=>∃a o,x=.ref a/\DGA H a y o/\Q (.bl (if neg then !o.isSome else o.isSome)) H
noncomputable def sPA (td ty tv:TE):TS:=fun D σ H=>tv σ H fun v H1=>td σ H1 fun x H2=>ty σ H2 fun y H3=>∃a,x=.ref a/\DPA H3 a y v fun H4=>D.nx σ H4
section
variable{X:Cx}{o i value:Expr}{pos pos':Pos}{td ty tv:TE}
theorem ff (hu:X.A.units+64<cLine) (ho:PE X o td) (hi:PE X i ty) (hs:xj i):PE X (.Subscript o i pos) (tGA td ty):=by
 intro pins s σ H Q I h;refine wV PySem.F.slot_dict_getitem.lookup hs (thn (ho pins s σ H _ I h) fun u s1 ⟨x,H1,I1,rx,q1⟩=>thn (hi pins s1 σ H1 _ I1 q1) fun iv s2 hz=>?_)
 obtain⟨y,H2,I2,ry,a,v,ex,g,q2⟩:=hz;subst ex;obtain rfl:u=Value.ref a:=rx;exact⟨jy I2 g,nR (by lia) I2 g ry fun w' s3 I3 rw'=>⟨v,H2,I3,rw',q2⟩⟩
theorem qX (hu:X.A.units+64<cLine):OpR X (compareOp .NotIn) (rIA true):=by
 intro pins s σ H y x v u Q I ry rx ⟨a,o,ex,g,q⟩;subst ex;obtain rfl:u=Value.ref a:=rx;exact sI (by lia) I g ry fun s3 I3=>⟨.bl (!o.isSome),H,I3,rfl,q⟩
theorem h8 (hu:X.A.units+64<cLine) (ho:PE X o td) (hi:PE X i ty) (hv:PE X value tv) (hs:swapsWith value (some (.Subscript o i pos')) pos.line X.env=pure false):PS X (.Assign [.Subscript o i pos'] value pos) (sPA td ty tv):=by
 intro pins s σ H D I h;refine wpAny_Assign_Subscript (thn (hv pins s σ H _ I h) fun r s1 ⟨v,H1,I1,rv,q1⟩=>thn (ho pins s1 σ H1 _ I1 q1) fun u s2 ⟨x,H2,I2,rx,q2⟩=>thn (hi pins s2 σ H2 _ I2 q2) fun iv s3 ⟨y,H3,I3,ry,a,ex,g⟩=>?_) hs
 subst ex;obtain rfl:u=Value.ref a:=rx;exact nE (by lia) I3 g ry rv fun H4 s4 I4 q3=>⟨σ,H4,I4,q3⟩
end
noncomputable def cO (x k:Option D):Option (Option D):=match x,k with
 |some (.dK ks vs),some d=>(match ka d with|some kk=>some (cX kk ks vs)|none=>none)
 |some (.dD ks vs),some d=>if(bL 8 d&&nW d)=true then some (cX d ks vs) else none
 |_,_=>none
theorem eF {K:PySem.W.Frag}{B:Addr->Prop}{H:Hp}{d:D}{k:Key}{v:V}(h:ka d=some k) (r:Rep K B H d v):v=kV k:=by
 cases d<;>simp only[ka]at h<;>first
  |(cases h;simp only[Rep]at r;exact r)
  |contradiction
theorem cy {K:PySem.W.Frag}{B:Addr->Prop}{H:Hp}{d:D}{v:V}(h:nW d=true) (r:Rep K B H d v):∃b,v=.ref b:=by
 cases d<;>simp only[nW]at h<;>first
  |(simp only[Rep]at r;obtain⟨a,xs,e,_⟩:=r;exact⟨a,e⟩)
  |contradiction
theorem dU {K:PySem.W.Frag}{B B':Addr->Prop}{H:Hp}{x k:Option D}{o:Option D}(h:cO x k=some o):∃d e,x=some d/\k=some e/\∀{v u:V},Rep K B H d v->Rep K B' H e u->∃a r,v=.ref a/\DGA H a u r/\r.isSome=o.isSome/\∀z,o=some z->∃w,r=some w/\Rep K B H z w:=by
 unfold cO at h;split at h
 ·rename_i ks vs d
  split at h
  ·rename_i kk hk
   obtain rfl:=Option.some.inj h;refine⟨_,_,rfl,rfl,fun{v u} r1 r2=>?_⟩
   simp only[Rep]at r1;obtain⟨a,kvs,rfl,hq,rfl,rs⟩:=r1;have hu:=eF hk r2;obtain⟨n1,n2⟩:=cM kk rs;refine⟨a,bV kvs kk,rfl,.inl (.inl ⟨kvs,kk,hq.imp And.right id,hu,rfl⟩),?_,fun z hz=>n2 z hz⟩
   cases q:cX kk (kvs.map (·.1)) vs with
   |none=>rw[n1 q];rfl
   |some z=>obtain⟨w,e,_⟩:=n2 z q;rw[e];rfl
  ·contradiction
 ·rename_i ks vs d
  split at h
  ·rename_i hk
   obtain rfl:=Option.some.inj h;rw[Bool.and_eq_true]at hk;refine⟨_,_,rfl,rfl,fun{v u} r1 r2=>?_⟩
   simp only[Rep]at r1;obtain⟨a,kvs,rfl,⟨ep,hq⟩,rfl,rs⟩:=r1;obtain⟨b,rfl⟩:=cy hk.2 r2;obtain⟨n1,n2⟩:=cM d rs;refine⟨a,bV kvs d,rfl,.inr ⟨kvs,ep,d,b,hq.imp And.right id,rfl,hk.1,r2.key hk.1,rfl⟩,?_,fun z hz=>n2 z hz⟩
   cases q:cX d (kvs.map (·.1)) vs with
   |none=>rw[n1 q];rfl
   |some z=>obtain⟨w,e,_⟩:=n2 z q;rw[e];rfl
  ·contradiction
 ·contradiction
noncomputable def gt (x k:Option D):Option D:=match cO x k with|some (some d)=>some d|_=>none
section
variable{X:Cx}{a b:Expr}{fa fb:DEnv->Option D}{m m' mm:Bool}{pos:Pos}
theorem mC (hu:X.A.units+64<cLine) (ha:DE X m a fa) (hb:DE X m' b fb) (hs:xj b:=by intro _ _;rfl):DE X m (.Subscript a b pos) (fun δ=>gt (fa δ) (fb δ)):=
 (ff hu ha hb hs).imp fun σ H Q hz=>by
  obtain⟨B,Hk,δ,d,R,e,k⟩:=hz;unfold gt at e;cases q:cO (fa δ) (fb δ)with
  |none=>rw[q]at e;contradiction
  |some o=>
   rw[q]at e;cases o with
   |none=>contradiction
   |some z=>
    obtain rfl:=Option.some.inj e;obtain⟨d1,d2,e1,e2,_⟩:=dU (K:=X.K) (B:=bF m B δ σ) (B':=bF m' B δ σ) (H:=H) q;refine two R e1 e2 fun v u H' s R' r1 r2=>?_
    obtain⟨d1',d2',e1',e2',go⟩:=dU (K:=X.K) (B:=bF m B δ σ) (B':=bF m' B δ σ) (H:=H') q;rw[e1]at e1';obtain rfl:=Option.some.inj e1';rw[e2]at e2';obtain rfl:=Option.some.inj e2';obtain⟨c,r,ev,g,_,hz⟩:=go r1 r2;obtain⟨w,rfl,rw'⟩:=hz _ rfl;exact⟨c,w,ev,g,k w H' s rw'⟩
end
section
variable{prog:Program}{w:World}{A:Around}{E:Value->Shared->Prop}{s:Shared}
theorem lP {κ:Type}[DecidableEq κ] {knd:PySem.KeyKind prog w κ}{d:Addr}{kvs:List (κ×Value)}{k:κ}{key dflt:Value}{Q:Value->Shared->Prop}(hkey:knd.is k key=true) (hm:s.heap.DictOf knd d kvs) (hsz:kvs.length<=sizeLine)
  (old:∀v,valueAt kvs k=some v->Q v {s with toks:=s.toks+1}) (new:valueAt kvs k=none->∀h',h'.DictOf knd d (stored kvs k dflt)->Heap.SameBut d s.heap h'->Q dflt {s with heap:=h',toks:=s.toks+1}):
  wpAny (model prog w) A (dictSetDefault d key dflt) Q E s:=by
 obtain⟨o,es,ep,ho,hc,hd,hk,hp,hn⟩:=hm;have hes:es.size<=sizeLine:=by
  have e1:=hp.length;rw[Array.length_toList]at e1
  lia
 have hix:(es.findIdx? fun e=>knd.is k e.key)=kvs.findIdx? fun kv=>decide (kv.1=k):=by rw[<-hp.findIdx k];obtain⟨l⟩:=es;simp
 have hval:=hp.find k;unfold dictSetDefault
 try with_reducible refine wpAny_holding ?_
 refine wpAny_bind (knd.pyHash hkey (wpAny_bind (wpAny_dictFind_of (s:={s with toks:=s.toks+1}) hkey ho hd hk ?_)))
 rcases hi:(es.findIdx? fun e=>knd.is k e.key)with _|i<;>rw[hi]
 ·have hnot:k∉kvs.map (·.1):=not_mem_of_findIdx_none (hix▸hi)
  have hany:¬(kvs.any fun kv=>decide (kv.1=k))=true:=by
   rw[List.any_eq_true]
   rintro⟨kv,hkv,he⟩
   exact hnot (List.mem_map.mpr ⟨kv,hkv,of_decide_eq_true he⟩)
  have hv:valueAt kvs k=none:=by
   unfold valueAt;rw[Option.map_eq_none_iff,List.find?_eq_none]
   exact fun x hx he=>hany (List.any_eq_true.mpr ⟨x,hx,he⟩)
  refine wpAny_bind (wpAny_rule (wpAny_bind (wpAny_updateDictKeys (hz:=hes) (s:={s with toks:=s.toks+1}) ho hd (wpAny_pure (new hv _ ⟨_,_,ep+1,Heap.get?_update_self _ ho (Obj.isFreed_of_dict (Obj.data_mapDictKeys hd _)),hc.mapDictKeys _,Obj.data_mapDictKeys hd _,hk.push hkey _,?_,?_⟩ (Heap.SameBut.update ..))))))
  ·rw[stored,if_neg hany]
   have q:=hp.append hkey (knd.hash k) dflt;obtain⟨l⟩:=es
   simpa using q
  ·rw[stored,if_neg hany,List.map_append,List.nodup_append]
   refine⟨hn,by simp,fun a ha b hb=>?_⟩
   have hb':b=k:=by simpa using hb
   exact fun e=>hnot (by rw[<-hb',<-e];exact ha)
 ·obtain⟨hlt,_⟩:=Array.findIdx?_eq_some_iff_findIdx_eq.mp hi
  have hv:valueAt kvs k=some es[i].val:=by
   have q:=hp.find k;rw[<-q];have hf:(es.toList.findIdx? fun e=>knd.is k e.key)=some i:=by rw[<-hi];obtain⟨l⟩:=es;simp
   obtain⟨h1,h2,h3⟩:=List.findIdx?_eq_some_iff_getElem.mp hf
   have:es.toList.find? (fun e=>knd.is k e.key)=some es.toList[i]:=by
    rw[List.find?_eq_some_iff_getElem]
    exact⟨h2,i,h1,rfl,fun j hj=>by simpa using h3 j hj⟩
   rw[this];simp
  refine wpAny_bind (wpAny_dictEntries (s:={s with toks:=s.toks+1}) ho hd ?_)
  rw[Array.getElem?_eq_getElem hlt]
  exact wpAny_bind (wpAny_rule (wpAny_pure (old _ hv)))
theorem kL {κ:Type}[DecidableEq κ] {knd:HeapKind prog w κ}{d a:Addr}{xs:List (κ×Addr×Value)}{k:κ}{dflt:Value}{Q:Value->Shared->Prop}(hu:knd.room A) (hkey:knd.is s.heap k a) (hm:s.heap.DictOfH knd d xs) (hsz:xs.length<=sizeLine)
  (old:∀p,atKey xs k=some p->Q p.2 {s with toks:=s.toks+knd.draws k}) (new:atKey xs k=none->∀h',h'.DictOfH knd d (storedH xs k a dflt)->Heap.SameBut d s.heap h'->Q dflt {s with heap:=h',toks:=s.toks+knd.draws k}):
  wpAny (model prog w) A (dictSetDefault d (.ref a) dflt) Q E s:=by
 obtain⟨o,es,ep,ho,hc,hd,he,his,hn⟩:=hm;unfold dictSetDefault
 try with_reducible refine wpAny_holding ?_
 refine wpAny_bind (knd.pyHash hu hkey (wpAny_bind (wpAny_dictFind_heap (s:={s with toks:=s.toks+knd.draws k}) hu hkey ho hd he his hn (fun hno=>?_) fun j p hj=>?_)))
 ·have hat:=atKey_none_of_get hno
  have hnot:=not_mem_keys_of_get hno;refine wpAny_bind (wpAny_rule (wpAny_bind (wpAny_updateDictKeys (hz:=by have e:=size_of_entries he;lia) (s:={s with toks:=s.toks+knd.draws k}) ho hd (wpAny_pure (new hat _ ⟨_,_,ep+1,Heap.get?_update_self _ ho (Obj.isFreed_of_dict (Obj.data_mapDictKeys hd _)),hc.mapDictKeys _,Obj.data_mapDictKeys hd _,?_,?_,?_⟩ (Heap.SameBut.update ..))))))
  ·rw[storedH_new hat]
   simp[he,entryOfKey]
  ·rw[storedH_new hat]
   intro x hx
   rcases List.mem_append.mp hx with hx|hx
   ·exact knd.keeps (his x hx) ho hd (Heap.SameBut.update ..)
   ·rw[List.mem_singleton.mp hx]
    exact knd.keeps hkey ho hd (Heap.SameBut.update ..)
  ·rw[storedH_new hat,List.map_append,List.nodup_append]
   refine⟨hn,by simp,fun x hx y hy=>?_⟩
   have hy':y=k:=by simpa using hy
   exact fun e=>hnot (by rw[<-hy',<-e];exact hx)
 ·have hat:=atKey_of_get hn hj
  refine wpAny_bind (wpAny_dictEntries (s:={s with toks:=s.toks+knd.draws k}) ho hd ?_)
  rw[entry_at he j,hj];exact wpAny_bind (wpAny_rule (wpAny_pure (old p hat)))
end
section
variable{X:Cx}{pins:List (Addr×Obj)}{σ:St}{H:Hp}{s:Shared}{a:Addr}{y v:V}{u r:Value}{o:Option V}{A:Around}{E:Value->Shared->Prop}
theorem fI {Q:Value->Shared->Prop}{P:Program}{w:World}{d:Addr}{key dflt:Value}(ty:s.TypeIs (.ref d) "dict") (hd:(d==sysModules)=false) (h:wpAny (model P w) A.in1 (dictSetDefault d key dflt) Q E s):
  wpAny (model P w) A (call (.builtin "dict.setdefault") [.ref d,key,dflt]) Q E s:=by
 refine wpAny_call_entry F.slot_dict_setdefault ty F.entry_dict_setdefault ?_ (F.args_dict_setdefault_3 _ _ _)
 unfold Builtin.«dict.setdefault»;refine wpAny_bind ?_
 unfold Builtin.Dict.keyAndDefault;refine wpAny_bind (wpAny_notOrdered_dict ty (wpAny_pure ?_))
 change wpAny _ _ (if(d==sysModules)=true then _ else(dictSetDefault d key dflt >>= _)) _ _ s
 rw[if_neg (by rw[hd];exact Bool.false_ne_true)]
 refine wpAny_bind (wpAny_mono h (fun v s' q=>wpAny_pure ⟨v,rfl,q⟩) fun _ _ q=>q)
end
noncomputable def DSd (H:Hp) (a:Addr) (y z v:V) (N:Hp->Prop):Prop:=(DGA H a y (some v)/\N H/\((∃kvs,H a=some (.dK kvs))\/∃kvs ep,H a=some (.dD kvs ep)))\/(DGA H a y none/\v=z/\DPA H a y z N)
section
variable{X:Cx}{pins:List (Addr×Obj)}{σ:St}{H:Hp}{N:Hp->Prop}{s:Shared}{a:Addr}{y z v:V}{u r:Value}{A:Around}{E:Value->Shared->Prop}
theorem rC {Q:Value->Shared->Prop}(hu:A.units+40<cLine) (I:Inv X pins σ H s) (g:DSd H a y z v N) (ry:RelV y u) (rz:RelV z r) (h:∀w' H' s',Inv X pins σ H' s'->N H'->RelV v w'->Q w' s'):
  wpAny (model X.prog X.w) A (call (.builtin "dict.setdefault") [.ref a,u,r]) Q E s:=by
 have ty:s.TypeIs (.ref a) "dict":=by rcases g with⟨g,_⟩|⟨g,_⟩<;>exact jy I g
 rcases g with⟨g,nn,own⟩|⟨g,rfl,p⟩
 ·rcases g with(⟨kvs,k,e,ey,l⟩|⟨kvs,k,b,e,ey,eb,l⟩)|⟨kvs,ep,k,b,e,ey,hk,kb,l⟩
  ·subst ey
   obtain⟨z1,hd,vs,rel,dd⟩:=k9 I.hok e;obtain⟨w',hw,rw'⟩:=RelO.some_of (v:=v) (o:=valueAt vs k) (by rw[l];exact rel.val k)
   refine fI ty hd (lP (kS ry) dd (by rw[<-rel.length];exact z1) (fun v' hv'=>?_) fun hn=>?_)
   ·rw[hw]at hv';obtain rfl:=Option.some.inj hv';exact h w' _ _ (I.tok _) nn rw'
   ·rw[hw]at hn;contradiction
  ·rcases own with⟨k2,e2⟩|⟨k2,ep2,e2⟩
   ·rcases e with e|⟨o,e⟩<;>(rw[e2]at e;cases e)
   ·rcases e with e|⟨o,e⟩<;>(rw[e2]at e;cases e)
  ·subst ey
   cases (show u=Value.ref b from ry)
   obtain⟨z1,hd,xs,rel,dd⟩:=h9 I.hok e;obtain⟨w',hw,rw'⟩:=RelO.some_of (v:=v) (o:=(atKey xs k).map (·.2)) (by rw[l];exact rel.val k)
   obtain⟨p,hp,hp2⟩:=Option.map_eq_some_iff.mp hw;refine fI ty hd (kL (knd:=bh X.prog X.w) (by show A.units+1+30<cLine;lia) (cD I hk kb) dd (by rw[<-Paired.length rel];exact z1) (fun p' hp'=>?_) fun hn=>?_)
   ·rw[hp]at hp';obtain rfl:=Option.some.inj hp';rw[hp2];exact h w' _ _ (I.tok _) nn rw'
   ·rw[hp]at hn;contradiction
 ·rcases p with⟨H',⟨kvs,k,e,ey,l,eH⟩|⟨kvs,k,b,e,ey,eb,l,eH⟩,nn⟩|⟨kvs,ep,k,b,e,ey,hk,kb,l,nn⟩
  ·subst ey eH
   obtain⟨z1,hd,vs,rel,dd⟩:=yG I.hok e;have hn:valueAt vs k=none:=by
    rcases g with(⟨kvs',k',e',ey',l'⟩|⟨kvs',k',b',e',ey',_,l'⟩)|⟨kvs',ep',k',b',e',ey',_,_,l'⟩
    ·have hkk:k'=k:=by cases k<;>cases k'<;>simp[kV]at ey'<;>rw[ey']
     subst hkk
     rcases e' with e'|⟨o,e'⟩
     ·rw[e]at e';cases e';exact RelO.none_of (by rw[l'];exact rel.val k')
     ·rw[e]at e';cases e'
    ·rcases e' with e'|⟨o,e'⟩<;>(rw[e]at e';cases e')
    ·rcases e' with e'|⟨o,e'⟩<;>(rw[e]at e';cases e')
   refine fI ty hd (lP (kS ry) dd (by rw[<-rel.length];exact z1) (fun v' hv'=>?_) fun _ h' dd' hs=>?_)
   ·rw[hn]at hv';contradiction
   ·have hl:(cF kvs k v).length<=sizeLine:=by have:=aW kvs k v;lia
    have he:∃q,h'.get? a=some q:=let ⟨q,_,_,hq,_⟩:=dd';⟨q,hq⟩
    exact h r _ _ (dC I (by rw[e];exact True.intro) hs he (uE hl hd (rel.put k rz) dd')) nn rz
  ·rcases g with(⟨kvs',k',e',ey',l'⟩|⟨kvs',k',b',e',ey',_,l'⟩)|⟨kvs',ep',k',b',e',ey',_,_,l'⟩
   ·rcases e' with e'|⟨o,e'⟩<;>(rw[e]at e';cases e')
   ·subst ey eH
    cases (show u=Value.ref b from ry)
    cases ey';obtain⟨z1,hd,xs,rel,dd⟩:=xM I.hok e
    rcases e' with e'|⟨o,e'⟩
    ·rw[e]at e';cases e'
     have hkk:k'=k:=by
      rename_i eb2;rw[eb]at eb2;have e3:k.map kV=k'.map kV:=by
       have:=Option.some.inj eb2;injection this
      have inj:∀{x y:Key},kV x=kV y->x=y:=fun{x y} q=>by cases x<;>cases y<;>simp[kV]at q<;>rw[q]
      have mapinj:∀{l m:List Key},l.map kV=m.map kV->l=m:=by
       intro l
       induction l with
       |nil=>intro m q;cases m with
        |nil=>rfl
        |cons _ _=>contradiction
       |cons x l ih=>intro m q;cases m with
        |nil=>contradiction
        |cons y m=>simp only[List.map_cons,List.cons.injEq]at q;rw[inj q.1,ih q.2]
      exact(mapinj e3).symm
     subst hkk;have hn:(atKey xs k').map (·.2)=none:=RelO.none_of (by rw[l'];exact rel.val k')
     refine fI ty hd (kL (knd:=tupleKind (aV X.prog X.w)) (tupleKind_room_in1 (by lia)) (gW I.hok eb) dd (by rw[<-Paired.length rel];exact z1) (fun p' hp'=>?_) fun _ h' dd' hs=>?_)
     ·rw[hp']at hn;contradiction
     ·have hl:(cF kvs k' v).length<=sizeLine:=by have:=aW kvs k' v;lia
      obtain⟨q,es,ep,hq,h2,h3,h4,_,h5⟩:=dd';refine h r (upd H a (.dT (cF kvs k' v))) _ (dC I (by rw[e];exact True.intro) hs ⟨q,hq⟩ ⟨hl,hd,_,(rel.put k' eb rz).keeps fun c ys ec=>?_,q,es,ep,hq,h2,h3,h4,h5⟩) nn rz
      rw[aj (iO ec e (fun z=>nomatch z))]
      exact ec
    ·rw[e]at e';cases e'
   ·rcases e' with e'|⟨o,e'⟩<;>(rw[e]at e';cases e')
  ·subst ey
   cases (show u=Value.ref b from ry)
   obtain⟨z1,hd,xs,rel,dd⟩:=h9 I.hok (.inl e);have hn:(atKey xs k).map (·.2)=none:=by
    rcases g with(⟨kvs',k',e',ey',l'⟩|⟨kvs',k',b',e',ey',_,l'⟩)|⟨kvs',ep',k',b',e',ey',hk',kb',l'⟩
    ·rcases e' with e'|⟨o,e'⟩<;>(rw[e]at e';cases e')
    ·rcases e' with e'|⟨o,e'⟩<;>(rw[e]at e';cases e')
    ·cases ey'
     have hkk:k'=k:=RH.inj (cD I hk' kb').2 (cD I hk kb).2;subst hkk
     rcases e' with e'|⟨o,e'⟩
     ·rw[e]at e';cases e';exact RelO.none_of (by rw[l'];exact rel.val k')
     ·rw[e]at e';cases e'
   refine fI ty hd (kL (knd:=bh X.prog X.w) (by show A.units+1+30<cLine;lia) (cD I hk kb) dd (by rw[<-Paired.length rel];exact z1) (fun p' hp'=>?_) fun _ h' dd' hs=>?_)
   ·rw[hp']at hn;contradiction
   ·have hl:(cF kvs k v).length<=sizeLine:=by have:=aW kvs k v;lia
    obtain⟨q,es,ep',hq,h2,h3,h4,_,h5⟩:=dd';refine h r (upd H a (.dD (cF kvs k v) ep')) _ (dC I (by rw[e];exact True.intro) hs ⟨q,hq⟩ ⟨hl,hd,_,Paired.mapP (rel.put k hk kb rz) fun p q z=>⟨z.1,z.2.1,KR.to (fun c ys ec=>?_) z.2.2.1,z.2.2.2⟩,q,es,hq,h2,h3,h4,h5⟩) (nn ep') rz
    rw[aj (iO ec e (fun z=>nomatch z))]
    exact ec
end
noncomputable def tDNewD:TE:=fun _ H Q=>∀p,H p=none->Q (.ref p) (upd H p (.dD [] 0))
section
variable{X:Cx}{pos pos' cpos apos:Pos}{m m':Bool}{a b c:Expr}{fa fb fc:DEnv->Option D}{i:Nat}{x:Str}{px:Pos}
theorem iM:PE X (.Dict [] [] pos) tDNewD:=fun pins s σ H Q I h=>
 wpAny_Dict_empty ⟨.ref s.heap.objs.size,_,I.laid (a:=s.heap.objs.size) (o:=.dD [] 0) (t':=s.toks) (fun _ _ q=>Heap.get?_push_of_some _ q) (Nat.le_refl _) (iI I.big),rfl,h _ (I.hok.fresh (Nat.le_refl _))⟩
theorem sA:DF X (.Dict [] [] pos) (fun _=>some (.dD [] [])):=iM.imp fun σ H Q hz=>by
 obtain⟨B,Hk,δ,d,R,e,k⟩:=hz;obtain rfl:=Option.some.inj e;intro p hp;exact k p _ (az hp) hp ⟨[],⟨0,ag⟩,rfl,Reps.nil⟩
noncomputable def cU (x:D) (k v:D):Option D:=match x with
 |.dK ks vs=>(match ka k with|some kk=>if ks.length<lim then some (.dK (ip kk ks) (rV kk v ks vs)) else none|none=>none)
 |.dD ks vs=>if(bL 8 k&&nW k&&decide (ks.length<lim))=true then some (.dD (ip k ks) (rV k v ks vs)) else none
 |_=>none
noncomputable def jo (i:Nat) (k v:Option D) (δ:DEnv):Option Out:=match bD i δ,k,v with
 |some x,some k,some v=>(match cU x k v with|some y=>some (.next (δ.set i (some (y,true))))|none=>none)
 |_,_,_=>none
theorem iu {K:PySem.W.Frag}{B B':Addr->Prop}{H:Hp}{x k v y:D}{l:Addr}{u z:V}(h:cU x k v=some y) (ob:ObR K B H x l) (rk:Rep K B' H k u) (rz:Rep K B H v z):
  ∀{N:Hp->Prop},(∀o,(Ext B H (upd H l o)->ObR K B (upd H l o) y l)->N (upd H l o))->DPA H l u z N:=by
 intro N go;unfold cU at h;split at h
 ·rename_i ks vs
  obtain⟨kvs,e,rfl,rs⟩:=ob;split at h
  ·rename_i kk hk
   split at h
   ·rename_i hl
    obtain rfl:=Option.some.inj h;rw[List.length_map]at hl;exact .inl ⟨_,.inl ⟨kvs,kk,e,eF hk rk,Nat.lt_of_lt_of_le hl (aH (Nat.le_refl _)),rfl⟩,go _ fun ex=>⟨_,ag,fF kk z kvs,(iL rz kk rs).ext ex⟩⟩
   ·contradiction
  ·contradiction
 ·rename_i ks vs
  obtain⟨kvs,⟨ep,e⟩,rfl,rs⟩:=ob;split at h
  ·rename_i hc
   obtain rfl:=Option.some.inj h;rw[Bool.and_eq_true,Bool.and_eq_true,decide_eq_true_iff,List.length_map]at hc;obtain⟨⟨h1,h2⟩,h3⟩:=hc;obtain⟨b,rfl⟩:=cy h2 rk;exact .inr ⟨kvs,ep,k,b,e,rfl,h1,rk.key h1,Nat.lt_of_lt_of_le h3 (aH (Nat.le_refl _)),fun ep'=>go _ fun ex=>⟨_,⟨ep',ag⟩,fF k z kvs,(iL rz k rs).ext ex⟩⟩
  ·contradiction
 ·contradiction
theorem vJ (hu:X.A.units+64<cLine) (n:Nm X i x) (hb:DE X m b fb) (hv:DE X false c fc) (hs:swapsWith c (some (.Subscript (.Name x px) b pos')) pos.line X.env=pure false:=by rfl):
  DS X (.Assign [.Subscript (.Name x px) b pos'] c pos) (fun δ=>jo i (fb δ) (fc δ) δ):=
 (h8 hu (aL n.at' n.vis n.d1 n.d2) hb hv hs).imp fun Dn σ H hz=>by
  obtain⟨B,Hk,δ,o,R,e,k⟩:=hz;unfold jo at e;split at e
  ·rename_i d0 kd vd q0 q1 q2
   split at e
   ·rename_i y qy
    obtain rfl:=Option.some.inj e;have h1:=bO q0;refine⟨B,Hk,δ,vd,R,q2,fun z H1 s1 rz=>?_⟩
    have R1:=R.to s1;obtain⟨l,h2,h3,ob⟩:=R1.own i _ h1;refine⟨.ref l,h2,B,Hk,δ,kd,R1,q1,fun u H2 s2 rk=>?_⟩
    have R2:=R1.to s2;have ob2:=ob.ext (R1.ext s2) fun o q n=>s2.get l o n q
    refine⟨l,rfl,iu qy ob2 rk (rz.ext (R1.ext s2)) fun ho new=>?_⟩
    obtain⟨x1,x2⟩:=R2.oset h1 h2 new;exact k σ _ ((R.ext (s1.trans s2)).trans x1) x2
   ·contradiction
  ·contradiction
end
noncomputable def mh (x:V) (H:Hp):Prop:=∃a,x=.ref a/\((∃kvs,Rd H a (.dK kvs))\/∃kvs ep,Rd H a (.dD kvs ep))
section
variable{X:Cx}{pos cpos apos px:Pos}{m m' mm:Bool}{o a b c e:Expr}{es:List Expr}{fa fb fc:DEnv->Option D}{i:Nat}{x:Str}{to:TE}{t:TA}{name:Str}{id:String}{r:V->List V->Hp->VK->Prop}
theorem jR {pins:List (Addr×Obj)}{σ:St}{H:Hp}{s:Shared}{v:V}{u:Value}(I:Inv X pins σ H s) (rv:RelV v u) (d:mh v H):s.TypeIs u "dict"/\∀a,u=.ref a->∃ob,s.heap.get? a=some ob/\ob.dict=none:=by
 obtain⟨a,rfl,d⟩:=d;obtain rfl:u=Value.ref a:=rv
 rcases d with⟨kvs,e⟩|⟨kvs,ep,e⟩
 ·obtain⟨_,_,vs,_,dd⟩:=k9 I.hok e
  refine⟨dd.typeIs,fun b q=>?_⟩
  cases q;obtain⟨ob,_,_,h1,h2,_⟩:=dd;exact⟨ob,h1,h2.2.1⟩
 ·obtain⟨_,_,xs,_,dd⟩:=h9 I.hok e
  refine⟨dd.typeIs,fun b q=>?_⟩
  cases q;obtain⟨ob,_,_,h1,h2,_⟩:=dd;exact⟨ob,h1,h2.2.1⟩
noncomputable def BB (r:V->List V->Hp->VK->Prop) (to:TE) (t:TA):TE:=fun σ H Q=>to σ H fun x H1=>mh x H1/\t σ H1 fun xs H2=>r x xs H2 Q
theorem qD (slot:Slot "dict" name id) (hty:typeOf (.builtin id)=pure (.type "method_descriptor")) (hm:MtM X id r) (ho:PE X o to) (ha:PA X (e::es) t)
  (base:attributeBase o name X.env (eval o X.env)=eval o X.env:=by rfl)
  (few:((backTo cpos (starEach (e::es) X.env)).all (fun x=>!x.1)&&(backToKw cpos (keywordEach [] X.env)).all (fun x=>x.1.isSome)&&decide ((e::es).length+([]:List Keyword).length+(if([]:List Keyword).isEmpty then 0 else 1)<30))=true:=by rfl)
  (line:(apos.endLine==cpos.line)=true:=by rfl) (stars:starEach (e::es) X.env=(false,eval e X.env)::starEach es X.env:=by rfl) (plain:(backTo cpos (starEach es X.env)).any (·.1)=false:=by rfl):
  PE X (.Call (.Attribute o name apos) (e::es) [] cpos) (BB r to t):=by
 intro pins s σ H Q I h;refine wpAny_Call_method_late base few line rfl (thn (ho pins s σ H _ I h) fun v s1 hz=>?_)
 obtain⟨x,H1,I1,r1,d1,q1⟩:=hz;obtain⟨h1,h2⟩:=jR I1 r1 d1;have hA:=ha cpos pins s1 σ H1 _ I1 q1;refine⟨"dict",id,PySem.F.plainAttrs_dict,slot,hty,h1,h2,?_⟩
 rw[stars]at hA⊢;exact Calls.callWith_builtin (by show(false||(backTo cpos (starEach es X.env)).any (·.1))=false;rw[plain]<;>rfl) (Calls.evalArgs_plain (thn hA fun us s2 hz=>by obtain⟨vs,H2,I2,r2,q2⟩:=hz;exact hm pins s2 σ H2 x vs v us Q I2 r1 r2 q2))
noncomputable def rSetdef:V->List V->Hp->VK->Prop:=fun x vs H Q=>∃l y z v,x=.ref l/\vs=[y,z]/\DSd H l y z v fun H'=>Q v H'
theorem jM (hu:X.A.units+64<cLine):MtM X "dict.setdefault" rSetdef:=by
 intro pins s σ H x vs v us Q I rx rv h;obtain⟨l,y,z,w,rfl,rfl,g⟩:=h;cases rx;obtain⟨u1,u2,rfl,r1,r2⟩:=rv.two;exact rC (by lia) I g r1 r2 fun w' H' s' I' q rw'=>⟨w,H',I',rw',q⟩
theorem ObR.dictAt {K:PySem.W.Frag}{B:Addr->Prop}{H:Hp}{x k v y:D}{l:Addr}{o:Option D}(ob:ObR K B H x l) (h:cO (some x) (some k)=some o):mh (.ref l) H/\((∃kvs,H l=some (.dK kvs))\/∃kvs ep,H l=some (.dD kvs ep)):=by
 cases x with
 |dK ks vs=>obtain⟨kvs,e,_⟩:=ob;exact⟨⟨l,rfl,.inl ⟨kvs,.inl e⟩⟩,.inl ⟨kvs,e⟩⟩
 |dD ks vs=>obtain⟨kvs,⟨ep,e⟩,_⟩:=ob;exact⟨⟨l,rfl,.inr ⟨kvs,ep,.inl e⟩⟩,.inr ⟨kvs,ep,e⟩⟩
 |_=>simp only[cO]at h;contradiction
theorem ObR.get {K:PySem.W.Frag}{B B':Addr->Prop}{H:Hp}{x k:D}{l:Addr}{o:Option D}{u:V}(ob:ObR K B H x l) (h:cO (some x) (some k)=some o) (rk:Rep K B' H k u):
  ∃r,DGA H l u r/\r.isSome=o.isSome/\∀z,o=some z->∃w,r=some w/\Rep K B H z w:=by
 cases x with
 |dK ks vs=>
  obtain⟨kvs,e,rfl,rs⟩:=ob;simp only[cO]at h;split at h
  ·rename_i kk hk
   obtain⟨n1,n2⟩:=cM kk rs;have h':cX kk (kvs.map (·.1)) vs=o:=Option.some.inj h
   refine⟨bV kvs kk,.inl (.inl ⟨kvs,kk,.inl e,eF hk rk,rfl⟩),?_,fun z hz=>n2 z (h'.trans hz)⟩
   rw[<-h'];cases q:cX kk (kvs.map (·.1)) vs with
   |none=>rw[n1 q];rfl
   |some z=>obtain⟨w,e,_⟩:=n2 z q;rw[e];rfl
  ·contradiction
 |dD ks vs=>
  obtain⟨kvs,⟨ep,e⟩,rfl,rs⟩:=ob;simp only[cO]at h;split at h
  ·rename_i hk
   rw[Bool.and_eq_true]at hk;obtain⟨b,rfl⟩:=cy hk.2 rk;obtain⟨n1,n2⟩:=cM k rs;have h':cX k (kvs.map (·.1)) vs=o:=Option.some.inj h
   refine⟨bV kvs k,.inr ⟨kvs,ep,k,b,.inl e,rfl,hk.1,rk.key hk.1,rfl⟩,?_,fun z hz=>n2 z (h'.trans hz)⟩
   rw[<-h'];cases q:cX k (kvs.map (·.1)) vs with
   |none=>rw[n1 q];rfl
   |some z=>obtain⟨w,e,_⟩:=n2 z q;rw[e];rfl
  ·contradiction
 |_=>simp only[cO]at h;contradiction
end
section
variable{prog:Program}{w:World}{A:Around}{E:Value->Shared->Prop}{s:Shared}
theorem jk {d:Addr}{o:Obj}{es:Array DictEntry}{ep:Nat}{Q:Value->Shared->Prop}(hd:(d==sysModules)=false) (ho:s.heap.get? d=some o) (hc:o.ExactDict) (hdat:o.data=.dict es ep)
  (hQ:Q (.ref s.heap.objs.size) {s with heap:=s.heap.push {cls:=.type "dict_keyiterator",data:=.fields #[.ref d,.int 0 0,.int es.size 0,.int ep 0]}}):wpAny (model prog w) A (pyIter (.ref d)) Q E s:=by
 have ty:s.TypeIs (.ref d) "dict":=⟨o,ho,hc.1⟩;refine wpAny_pyIter_slot ty F.slot_dict_iter (wpAny_call_entry F.slot_dict_iter ty F.entry_dict_iter ?_ (F.args_dict_iter_1 _))
 unfold Builtin.«dict.__iter__»;refine wpAny_bind ?_
 unfold Builtin.Dict.dictSlotNone;refine wpAny_bind (wpAny_notOrdered_dict ty (wpAny_pure ?_))
 change wpAny _ _ (Builtin.Dict.showsAll d >>= _) _ E s;unfold Builtin.Dict.showsAll;rw[if_neg (by rw[hd];exact Bool.false_ne_true)]
 refine wpAny_bind (wpAny_pure (wpAny_bind (wpAny_dictEntries ho hdat (wpAny_bind (wpAny_dictEpoch ho hdat (wpAny_bind (wpAny_newObj_type (wpAny_pure ⟨_,rfl,"dict_keyiterator",_,⟨_,Heap.get?_push_size _ rfl,rfl⟩,F.slot_dict_keyiterator_next.lookup,?_⟩))))))))
 simpa[rawInt]using hQ
theorem d8 {it d:Addr}{o:Obj}{es:Array DictEntry}{i ep:Nat}{Q:Option Value->Shared->Prop}(hh:A.handled=none) (hit:s.heap.IsKeyIter it d i es.size ep) (ho:s.heap.get? d=some o) (hdat:o.data=.dict es ep)
  (item:∀e,es[i]?=some e->∀h',h'.IsKeyIter it d (i+1) es.size ep->Heap.SameBut it s.heap h'->Q (some e.key) {s with heap:=h'})
  (stop:es[i]?=none->∀h',Heap.ExtBut it s.heap h'->Q none {s with heap:=h'}):wpAny (model prog w) A (pyNext (.ref it)) Q E s:=by
 obtain⟨oi,gi,ci,di⟩:=id hit;unfold pyNext;refine wpAny_bind (wpAny_attempt (wpAny_callSpecial?_slot (name:=Str.ofString "__next__") hit.typeIs F.slot_dict_keyiterator_next (wpAny_call_entry F.slot_dict_keyiterator_next hit.typeIs F.entry_dict_keyiterator_next ?_ (F.args_dict_keyiterator_next_1 _))))
 refine wpAny_bind (wpAny_pure (wpAny_bind (wpAny_bind ?_)))
 first|refine wpAny_bind (wpAny_typeNameOfWhole_keyiter hit.typeIs (wpAny_pure ?_))|refine wpAny_bind (wpAny_typeNameOf_keyiter hit.typeIs (wpAny_pure ?_))
 refine wpAny_bind (wpAny_fieldsOf gi di ?_)
 simp only[show Builtin.Dict_items.ownsTuple "dict_keyiterator"=false by decide,Bool.false_eq_true,if_false]
 change wpAny _ _ (if(Value.ref d==Value.none)=true then _ else _) _ _ s
 rw[if_neg (by exact Bool.false_ne_true)]
 refine wpAny_bind (wpAny_pure (wpAny_bind (wpAny_dictEntries ho hdat ?_)))
 rw[if_neg (by simp)]
 refine wpAny_bind (wpAny_pure (wpAny_bind (wpAny_dictEpoch ho hdat ?_)))
 rw[if_neg (by simp)]
 refine wpAny_pure ?_
 by_cases hlt:i<es.size
 ·have hx:=Array.getElem?_eq_getElem hlt
  simp only[show ¬((i:Int)<0) from by lia,if_false,Int.toNat_natCast,hx]
  refine wpAny_bind ?_
  first|refine wpAny_bind (wpAny_typeNameOfWhole_keyiter hit.typeIs (wpAny_pure ?_))|refine wpAny_bind (wpAny_typeNameOf_keyiter hit.typeIs (wpAny_pure ?_))
  refine wpAny_bind (wpAny_isOneOf_keyiter hit.typeIs ?_)
  change wpAny _ _ (setField (.ref it) 1 (rawInt ((i:Int)+1)) >>= _) _ _ s;have nx:(s.heap.update it (Obj.mapFields (·.setIfInBounds 1 (rawInt ((i:Int)+1))))).IsKeyIter it d (i+1) es.size ep:=⟨_,Heap.get?_update_self _ gi (Obj.isFreed_of_fields (Obj.data_mapFields di _)),(Obj.cls_mapFields ..).trans ci,by rw[Obj.data_mapFields di];simp[rawInt]⟩
  refine wpAny_bind (wpAny_setField gi di (by simp) (wpAny_bind (wpAny_holding (wpAny_bind (wpAny_isOneOf_keyiter (s:={s with heap:=s.heap.update it (Obj.mapFields (·.setIfInBounds 1 (rawInt ((i:Int)+1))))}) nx.typeIs ?_)))))
  change wpAny _ _ (pure es[i].key) _ _ _;exact wpAny_pure (wpAny_pure ⟨_,rfl,wpAny_pure (item _ hx _ nx (Heap.SameBut.update ..))⟩)
 ·have hx:es[i]?=none:=Array.getElem?_eq_none (by lia)
  simp only[show ¬((i:Int)<0) from by lia,if_false,Int.toNat_natCast,hx]
  refine wpAny_bind ?_
  first|refine wpAny_bind (wpAny_typeNameOfWhole_keyiter hit.typeIs (wpAny_pure ?_))|refine wpAny_bind (wpAny_typeNameOf_keyiter hit.typeIs (wpAny_pure ?_))
  change wpAny _ _ (setField (.ref it) 0 .none >>= _) _ _ s;refine wpAny_bind (wpAny_setField gi di (by simp) ?_)
  change wpAny _ _ (newExc (.type "StopIteration") [] >>= _) _ _ _;simp only[newExc,newTuple,raiseNew];refine wpAny_bind (wpAny_bind (wpAny_newObj_type ?_ (by size_fits)))
  refine wpAny_bind (m:=firstArgMember _ _) (wpAny_of_eq (a:=Value.none) (by first|rfl|(simp only[firstArgMember];rfl)) (wpAny_newObj_type ?_ (by size_fits)))
  refine wpAny_bind (wpAny_handled ?_)
  rw[show A.in1.handled=none from hh]
  refine wpAny_bind (wpAny_pure (wpAny_throw ?_))
  refine wpAny_bind (wpAny_isInstance (T:="StopIteration") (b:=true) ⟨_,Heap.get?_push_size _ rfl,rfl⟩ isSubtype_stop ?_)
  exact wpAny_pure (stop hx _ (((Heap.SameBut.update ..).extBut.push _).push _))
end
noncomputable def Itk (a:Addr) (kvs:List (D×V)) (ep:Nat):It:=
 ⟨fun i H=>Rd H a (.dD kvs ep)/\i<kvs.length,fun i H v H'=>H'=H/\∃p,kvs[i]?=some p/\KR H p.1 v,fun i H=>Rd H a (.dD kvs ep)/\kvs.length<=i⟩
theorem DPairs.get {H:Hp}:∀{kvs:List (D×V)}{xs:List (D×Addr×Value)}{i:Nat}{p:D×V},DPairs H kvs xs->kvs[i]?=some p->∃q,xs[i]?=some q/\KR H p.1 (.ref q.2.1)
 |_,_,_,_,.nil,h=>by simp at h
 |_,_,0,_,.cons r _,h=>by simp at h;subst h;exact⟨_,rfl,r.2.2.1⟩
 |_,_,i+1,p,.cons _ t,h=>by
  obtain⟨q,h1,h2⟩:=DPairs.get (i:=i) (p:=p) t (by simpa using h)
  exact⟨q,by simpa using h1,h2⟩
theorem pS {P:Program}{w:World}{K:PySem.W.Frag}{tg:Expr}{a it:Addr}{kvs:List (D×V)}{ep:Nat}:Turn P w K tg (Itk a kvs ep) [it] it (fun i h=>h.IsKeyIter it a i kvs.length ep) where
 mem:=by simp
 obj:=fun i h st b hb=>by
  have e:b=it:=by simpa using hb
  subst e;obtain⟨o,e,c,d⟩:=st;exact⟨o,e,fun v z=>by rw[d]at z;cases z⟩
 keep:=fun i h h' st k=>st.at fun o e=>k it (by simp) o e
 item:=by
  intro X hP hw hK hc i pins s σ H E I hf st hg;subst hP hw hK;obtain⟨rd,hi⟩:=hg;obtain⟨z,y,xs,r,o,es,h1,h2,h3,h4,h5⟩:=(show ObjOk X.prog X.w H s.heap a (.dD kvs ep) from gB I.hok rd)
  have hsz:es.size=kvs.length:=by rw[size_of_entries h4,<-Paired.length r]
  have hp:kvs[i]?=some kvs[i]:=by simp[hi]
  obtain⟨q,hq,kr⟩:=r.get hp;obtain⟨f0,f1,f2,f3,f4,f5⟩:=hf it (by simp)
  rw[<-hsz]at st;refine d8 (I.ok.hd hc) st h1 h3 (fun e he h' st' sb=>?_) fun hn=>?_
  ·have ek:e.key=.ref q.2.1:=by
    rw[entry_at h4 i,hq]at he;have:=Option.some.inj he;rw[<-this];rfl
   have I1:Inv X pins σ H {s with heap:=h'}:=I.turned (t':=s.toks) (fun b o hb e=>(sb.2 b hb).trans e) f0 f1 f3 f4 f5
   rw[hsz]at st';obtain⟨o',e',c',d'⟩:=id st';rw[ek];exact⟨_,rfl,sC (s:={s with heap:=h'}) e' c' d' (by decide) ⟨.ref q.2.1,H,I1,rfl,⟨rfl,kvs[i],hp,kr⟩,st',fun b hb=>(hf b hb).1⟩⟩
  ·exfalso
   rw[Array.getElem?_eq_getElem (by lia)]at hn
   contradiction
 done:=by
  intro X hP hw hK hc i pins s σ H E I hf st hg;subst hP hw hK;obtain⟨rd,hi⟩:=hg;obtain⟨z,y,xs,r,o,es,h1,h2,h3,h4,h5⟩:=(show ObjOk X.prog X.w H s.heap a (.dD kvs ep) from gB I.hok rd)
  have hsz:es.size=kvs.length:=by rw[size_of_entries h4,<-Paired.length r]
  obtain⟨f0,f1,f2,f3,f4,f5⟩:=hf it (by simp)
  rw[<-hsz]at st;refine d8 (I.ok.hd hc) st h1 h3 (fun e he h' st' sb=>?_) fun hn h' eb=>⟨rfl,I.turned (t':=s.toks) (fun b o hb e=>eb b o hb e) f0 f1 f3 f4 f5⟩
  exfalso;rw[Array.getElem?_eq_none (by lia)]at he
  contradiction
 self:=fun _ _ _ _ _ st h=>wpAny_pyIter_keyiter st h
section
variable{X:Cx}{tg a:Expr}{m:Bool}{fa:DEnv->Option D}
noncomputable def yc (te:TE):TI:=fun σ H R=>te σ H fun x H1=>∃a kvs ep,x=.ref a/\Rd H1 a (.dD kvs ep)/\R (Itk a kvs ep) H1
theorem pf {te:TE}(h:PE X a te):PI X tg a (yc te):=by
 intro pins s σ H R I hq;refine thn (h pins s σ H _ I hq) fun v s1 hz=>?_
 obtain⟨x,H1,I1,r1,l,kvs,ep,e,rd,q⟩:=hz;subst e;cases r1;obtain⟨z,y,xs,r,o,es,h1,h2,h3,h4,h5⟩:=(show ObjOk X.prog X.w H1 s1.heap l (.dD kvs ep) from gB I1.hok rd)
 have hsz:es.size=kvs.length:=by rw[size_of_entries h4,<-Paired.length r]
 refine jk y h1 h2 h3 ?_
 rw[hsz];refine⟨s1.heap.objs.size,[s1.heap.objs.size],_,_,H1,rfl,I1.kept (t':=s1.toks) fun b o e=>Heap.get?_push_of_some _ e,pS,⟨_,Heap.get?_push_size _ rfl,rfl,rfl⟩,fun b hb=>?_,q⟩
 have e:b=s1.heap.objs.size:=by simpa using hb
 subst e;exact I1.fpOk (Nat.le_refl _) (I1.hok.fresh (Nat.le_refl _))
noncomputable def ij (x:Option D):Option (List D):=match x with|some (.dD ks vs)=>some ks|_=>none
theorem lG (h:DE X m a fa):DI X m tg a (fun δ=>ij (fa δ)):=
 (pf h).imp fun σ H Q hz=>by
  obtain⟨B,Hk,δ,ds,R,e,k⟩:=hz;unfold ij at e;split at e
  ·rename_i ks vs q1
   obtain rfl:=Option.some.inj e;refine⟨B,Hk,δ,_,R,q1,fun v H' s r=>?_⟩
   simp only[Rep]at r;obtain⟨l,kvs,rfl,⟨ep,hq⟩,rfl,rs⟩:=r;have rd:∀{H2:Hp},Ext (bF m B δ σ) H' H2->Rd H2 l (.dD kvs ep):=fun{H2} x=>by
    rcases hq with⟨b,hq⟩|⟨o,hq⟩
    ·exact .inl ((x.lent l b).trans hq)
    ·exact .inr ⟨o,x.frzs _ _ _ hq⟩
   refine⟨l,kvs,ep,rfl,rd Ext.refl,k _ H' s fun H2 x=>?_⟩
   refine⟨⟨rd x,by simp⟩,fun i d hd=>?_⟩
   rw[List.getElem?_map]at hd
   cases hp:kvs[i]? with
   |none=>rw[hp]at hd;contradiction
   |some p=>
    rw[hp]at hd;have hd':p.1=d:=Option.some.inj hd;refine⟨⟨rd x,(List.getElem?_eq_some_iff.mp hp).1⟩,fun z H3 ⟨e3,p',hp',kr⟩=>?_⟩
    rw[hp]at hp';obtain rfl:=Option.some.inj hp';rw[e3];exact⟨Same.refl _,by rw[<-hd'];exact kr.rep⟩
  ·contradiction
end
section
variable{X:Cx}{pos cpos apos p:Pos}{m m' mm:Bool}{a b c:Expr}{fa fb fc:DEnv->Option D}
noncomputable def BJ (x y:Option D):Option D:=match x,y with|some (.tup xs),some (.tup ys)=>if xs.length+ys.length<=lim then some (.tup (xs++ys)) else none|_,_=>none
noncomputable def rGetA:V->List V->Hp->VK->Prop:=fun x vs H Q=>∃l y z o,x=.ref l/\vs=[y,z]/\DGA H l y o/\Q (o.getD z) H
theorem vP (hu:X.A.units+64<cLine):MtM X "dict.get" rGetA:=by
 intro pins s σ H x vs v us Q I rx rv h;obtain⟨l,y,z,o,rfl,rfl,g,q⟩:=h;cases rx;obtain⟨u1,u2,rfl,r1,r2⟩:=rv.two
 rcases g with g|⟨kvs,ep,k,b,e,rfl,hk,kb,rfl⟩
 ·exact yo (by lia) I g r1 r2 fun w' s' I' rw'=>⟨_,H,I',rw',q⟩
 ·cases (show u1=Value.ref b from r1)
  obtain⟨z1,hd,xs,rel,dd⟩:=h9 I.hok e;refine call_meetsIn PySem.F.slot_dict_get dd.typeIs PySem.F.entry_dict_get (PySem.F.args_dict_get_3 _ _ _) (meetsH_dict_get_default (bh X.prog X.w) l b hd u2) ⟨by show X.A.units+1+30<cLine;lia,k,xs,cD I hk kb,dd,⟨_,H,I.tok _,?_,q⟩⟩
  exact(rel.val k).getD r2
noncomputable def j9 (x k y:Option D):Option D:=match cO x k,y with|some o,some z=>some (o.getD z)|_,_=>none
theorem oO (hu:X.A.units+64<cLine) (ha:DE X m a fa) (hb:DE X m b fb) (hc:DE X m c fc)
  (base:attributeBase a "get" X.env (eval a X.env)=eval a X.env:=by rfl)
  (few:((backTo cpos (starEach [b,c] X.env)).all (fun x=>!x.1)&&(backToKw cpos (keywordEach [] X.env)).all (fun x=>x.1.isSome)&&decide (([b,c]).length+([]:List Keyword).length+(if([]:List Keyword).isEmpty then 0 else 1)<30))=true:=by rfl)
  (line:(apos.endLine==cpos.line)=true:=by rfl) (stars:starEach [b,c] X.env=(false,eval b X.env)::starEach [c] X.env:=by rfl) (stars2:starEach [c] X.env=[(false,eval c X.env)]:=by rfl) (plain:(backTo cpos (starEach [c] X.env)).any (·.1)=false:=by rfl):
  DE X m (.Call (.Attribute a "get" apos) [b,c] [] cpos) (fun δ=>j9 (fa δ) (fb δ) (fc δ)):=
 (qD PySem.F.slot_dict_get PySem.F.type_dict_get (vP hu) ha (av hb (av hc aT stars2) stars) base few line stars plain).imp fun σ H Q hz=>by
  obtain⟨B,Hk,δ,d,R,e,k⟩:=hz;unfold j9 at e;split at e
  ·rename_i o z q1 q2
   obtain rfl:=Option.some.inj e;obtain⟨d1,d2,e1,e2,_⟩:=dU (K:=X.K) (B:=bF m B δ σ) (B':=bF m B δ σ) (H:=H) q1;refine⟨B,Hk,δ,d1,R,e1,fun v H1 s1 r1=>?_⟩
   have R1:=R.to s1;have hda:mh v H1:=by
    unfold cO at q1;rw[e1,e2]at q1;cases d1 with
    |dK ks vs=>simp only[Rep]at r1;obtain⟨a,kvs,rfl,hq,_⟩:=r1;exact⟨a,rfl,.inl ⟨kvs,hq.imp And.right id⟩⟩
    |dD ks vs=>simp only[Rep]at r1;obtain⟨a,kvs,rfl,⟨ep,hq⟩,_⟩:=r1;exact⟨a,rfl,.inr ⟨kvs,ep,hq.imp And.right id⟩⟩
    |_=>simp at q1
   refine⟨hda,two (m:=m) (m':=m) R1 e2 q2 fun u w H' s R' r2 r3=>?_⟩
   obtain⟨d1',d2',e1',e2',go⟩:=dU (K:=X.K) (B:=bF m B δ σ) (B':=bF m B δ σ) (H:=H') q1;rw[e1]at e1';obtain rfl:=Option.some.inj e1';rw[e2]at e2';obtain rfl:=Option.some.inj e2';obtain⟨c',r,ev,g,gs,gz⟩:=go (r1.same R1 s) r2;refine⟨c',u,w,r,ev,rfl,g,?_⟩
   cases o with
   |none=>
    cases r with
    |none=>exact k w H' (s1.trans s) r3
    |some _=>simp at gs
   |some dd=>
    obtain⟨w',rfl,rw'⟩:=gz _ rfl;exact k w' H' (s1.trans s) rw'
  ·contradiction
end
section
variable{prog:Program}{w:World}{A:Around}{E:Value->Shared->Prop}{s:Shared}
theorem ni (hh:A.handled=none) (I d:Addr) (hne:d≠I) {o:Obj}{es:Array DictEntry}{ep:Nat}(hdat:o.data=.dict es ep):
  Walks prog w A I [I,d] [I] es.size (fun i v=>∃e,es[i]?=some e/\v=e.key) (fun i h=>h.IsKeyIter I d i es.size ep/\h.get? d=some o) where
 sub:=fun b hb=>by simp at hb;simp[hb]
 frame:=fun _ _ _ st hk=>⟨st.1.at fun o e=>hk I (by simp) o e,hk d (by simp) _ st.2⟩
 item:=fun i s Q E hi st hQ=>d8 hh st.1 st.2 hdat (fun e he h' it' sb=>hQ _ h' s.toks ⟨e,he,rfl⟩ ⟨it',(sb.2 d hne).trans st.2⟩ fun b o hb e=>(sb.2 b (fun z=>hb (by simp[z]))).trans e) fun hn=>by
  rw[Array.getElem?_eq_getElem hi]at hn;contradiction
 done:=fun s Q E st hQ=>d8 hh st.1 st.2 hdat (fun e he=>by rw[Array.getElem?_eq_none (Nat.le_refl _)]at he;contradiction) fun _ h' eb=>hQ h' s.toks fun b o hb e=>eb b o (fun z=>hb (by simp[z])) e
 self:=fun _ _ _ _ st hQ=>wpAny_pyIter_keyiter st.1 hQ
theorem lD {R:Result->Shared->Prop}(hh:A.handled=none) {d S:Addr}{o:Obj}{es:Array DictEntry}{ep c₀:Nat}(hd:(d==sysModules)=false) (ho:s.heap.get? d=some o) (hc:o.ExactDict) (hdat:o.data=.dict es ep) (hn:es.size<=sizeLine) (res:Value)
  (hS:s.heap.get? S=some {cls:=.type "list",data:=.seq #[] c₀})
  (hR:∀h' tk acc' c',(∀b o,b≠S->s.heap.get? b=some o->h'.get? b=some o)->h'.get? S=some {cls:=.type "list",dict:=none,data:=.seq acc' c',slots:=#[]}->ItemsOf (fun i v=>∃e,es[i]?=some e/\v=e.key) acc' es.size->R (.ok (.ret res)) {s with heap:=h',toks:=tk}):
  wpAny (model prog w) A.in1 (Builtin.List.listExtendWith (.ref S) (.ref d) res)
   (fun fin s'=>match fin with|.done f=>R (.ok f) s'|.again c'=>c'.quiet=true/\codeAny (model prog w) A c' R s') (fun e s'=>R (.error e) s') s:=by
 have ty:s.TypeIs (.ref d) "dict":=⟨o,ho,hc.1⟩;have nSd:S≠d:=fun e=>by rw[e,ho]at hS;have:=Option.some.inj hS;rw[this]at hdat;contradiction
 have nSI:S≠s.heap.objs.size:=Nat.ne_of_lt (Heap.lt_size hS);have ndI:d≠s.heap.objs.size:=Nat.ne_of_lt (Heap.lt_size ho);have nSf:S∉[s.heap.objs.size,d]:=fun hm=>by
  rcases List.mem_cons.mp hm with e|hm
  ·exact nSI e
  ·exact nSd (List.mem_singleton.mp hm)
 unfold Builtin.List.listExtendWith;refine wpAny_bind (wpAny_typeOf ty ?_)
 simp only[show Builtin.List.listSameRef (.ref S) (.ref d)=false by simp[Builtin.List.listSameRef,nSd],show(Value.type "dict"==Value.type "list")=false by decide,show(Value.type "dict"==Value.type "tuple")=false by decide,Bool.or_false,Bool.false_eq_true,if_false]
 refine wpAny_bind (jk hd ho hc hdat (wpAny_bind (wpAny_holding ?_)))
 have ho1:(s.heap.push {cls:=.type "dict_keyiterator",data:=.fields #[.ref d,.int 0 0,.int es.size 0,.int ep 0]}).get? d=some o:=Heap.get?_push_of_some _ ho
 have ty1:Shared.TypeIs {s with heap:=s.heap.push {cls:=.type "dict_keyiterator",data:=.fields #[.ref d,.int 0 0,.int es.size 0,.int ep 0]}} (.ref d) "dict":=⟨o,ho1,hc.1⟩
 unfold Builtin.List.listLengthHint;refine wpAny_bind (wpAny_specialOf ty1 F.slot_dict_len.lookup ?_)
 wp_delta
 refine wpAny_bind (wpAny_isInstance ty1 (b:=true) (by rw[isSubtype_type];kernel_rfl) ?_)
 change wpAny _ _ (typeOf (Value.ref d) >>= _) _ _ _;refine wpAny_bind (wpAny_typeOf ty1 (wpAny_pure ?_))
 rw[if_pos (by decide)]
 have hS1:(s.heap.push {cls:=.type "dict_keyiterator",data:=.fields #[.ref d,.int 0 0,.int es.size 0,.int ep 0]}).get? S=some {cls:=.type "list",data:=.seq #[] c₀}:=Heap.get?_push_of_some _ hS
 refine wpAny_bind (wpAny_rule (wpAny_bind ?_))
 change wpAny _ A.in1 (updateSeq S (·.push .none) >>= fun _=>updateSeq S (·.pop)) _ _ _
 have hS2:=Heap.get?_update_self (Obj.mapSeq (·.push Value.none)) hS1 rfl
 refine wpAny_bind (wpAny_updateSeq hS1 rfl (wpAny_updateSeq (hz:=by seq_fits) hS2 rfl ?_))
 have hS3:=Heap.get?_update_self (Obj.mapSeq (·.pop)) hS2 rfl
 have oth:∀b o,b≠S->(s.heap.push {cls:=.type "dict_keyiterator",data:=.fields #[.ref d,.int 0 0,.int es.size 0,.int ep 0]}).get? b=some o->(((s.heap.push {cls:=.type "dict_keyiterator",data:=.fields #[.ref d,.int 0 0,.int es.size 0,.int ep 0]}).update S (Obj.mapSeq (·.push Value.none))).update S (Obj.mapSeq (·.pop))).get? b=some o:=
  fun b o hb e=>(Heap.get?_update_other _ _ (Ne.symm hb)).trans ((Heap.get?_update_other _ _ (Ne.symm hb)).trans e)
 refine wpAny_pure ⟨plainId_quiet F.plain_extend_loop _,codeAny_extend_loopS (ni (A:=A.in1) (show A.in1.handled=none from hh) s.heap.objs.size d ndI hdat).toS hn _ nSf _ es.size 0 _ _ _ rfl (Nat.zero_le _) ⟨⟨_,oth _ _ (Ne.symm nSI) (Heap.get?_push_size _ rfl),rfl,rfl⟩,oth _ _ (Ne.symm nSd) ho1⟩ hS3 (ItemsOf.nil _) fun s' acc' c' hm hS' hacc=>?_⟩
 rw[Moved.eq_with hm];refine hR s'.heap s'.toks acc' c' (fun b ob hb e=>hm.heap b ob (fun hmem=>?_) (oth b ob hb (Heap.get?_push_of_some _ e))) hS' hacc
 rcases List.mem_cons.mp hmem with e'|hmem
 ·exact hb e'
 ·rw[List.mem_singleton.mp hmem]at e;exact absurd (Heap.lt_size e) (Nat.lt_irrefl _)
end
section
variable{X:Cx}{pos p:Pos}{m:Bool}{a:Expr}{fa:DEnv->Option D}
theorem DPairs.keys {H:Hp}:∀{kvs:List (D×V)}{xs:List (D×Addr×Value)},DPairs H kvs xs->KRs H (kvs.map (·.1)) (xs.map fun q=>V.ref q.2.1)
 |_,_,.nil=>by simp only[List.map_nil,KRs]
 |_,_,.cons r t=>by
  simp only[List.map_cons,KRs];exact⟨_,_,rfl,r.2.2.1,DPairs.keys t⟩
end
end L2
namespace L2
open PySem PySem.Spec PyProof.Rows PySem.W
variable[Lams]
section
variable{X:Cx}{pins:List (Addr×Obj)}{σ:St}{H:Hp}{s:Shared}{A:Around}{E:Value->Shared->Prop}
theorem gP {d b:Addr}{kvs:List (D×V)}{ep:Nat}{k:D}{v:V}{r:Value}{Q:Unit->Shared->Prop}(hu:A.units+30<cLine) (I:Inv X pins σ H s) (e:H d=some (.dD kvs ep)) (hk:bL 8 k=true) (kb:KR H k (.ref b)) (l:kvs.length<sizeLine) (rv:RelV v r)
  (h:∀ep' h' tk,Heap.SameBut d s.heap h'->Inv X pins σ (upd H d (.dD (cF kvs k v) ep')) {s with heap:=h',toks:=tk}->Q () {s with heap:=h',toks:=tk}):wpAny (model X.prog X.w) A (dictSet d (.ref b) r) Q E s:=by
 obtain⟨z,hd,xs,rel,dd⟩:=h9 I.hok (.inl e);have hl:(cF kvs k v).length<=sizeLine:=by have:=aW kvs k v;lia
 refine wpAny_dictSet_heap (knd:=bh X.prog X.w) (hsz:=by rw[<-Paired.length rel];exact z) (show A.units+30<cLine from hu) (cD I hk kb) dd fun h' dd' hs=>?_
 obtain⟨q,es,ep',hq,h2,h3,h4,_,h5⟩:=dd';refine h ep' h' _ hs (dC I (by rw[e];exact True.intro) hs ⟨q,hq⟩ ⟨hl,hd,_,Paired.mapP (rel.put k hk kb rv) fun p q z=>⟨z.1,z.2.1,KR.to (fun c ys ec=>?_) z.2.2.1,z.2.2.2⟩,q,es,hq,h2,h3,h4,h5⟩)
 rw[aj (iO ec e (fun z=>nomatch z))]
 exact ec
noncomputable def PairD (H:Hp) (y:V) (p:D×V):Prop:=∃b kb,y=.ref b/\H b=some (.tup [.ref kb,p.2])/\bL 8 p.1=true/\KR H p.1 (.ref kb)
theorem PairD.upd {y:V}{p:D×V}{d:Addr}{kvs:List (D×V)}{ep:Nat}{o:HO}(h:PairD H y p) (e:H d=some (.dD kvs ep)):PairD (L2.upd H d o) y p:=by
 obtain⟨b,kb,h1,h2,h3,h4⟩:=h;exact⟨b,kb,h1,by rw[aj (iO h2 e (fun z=>nomatch z))];exact h2,h3,h4.to fun c ys ec=>by rw[aj (iO ec e (fun z=>nomatch z))];exact ec⟩
noncomputable def f7 (kvs:List (D×V)) (ps:List (D×V)):List (D×V):=ps.foldl (fun m p=>cF m p.1 p.2) kvs
theorem SqL.updDD {K:PySem.W.Frag}{l d:Addr}{ys:List V}{kvs:List (D×V)}{ep:Nat}{o:HO}(h:SqL K H l ys) (e:H d=some (.dD kvs ep)):SqL K (upd H d o) l ys:=by
 rcases h with(h|⟨ob,h⟩)|h
 ·exact .inl (.inl (by rw[aj (iO h e (fun z=>nomatch z))];exact h))
 ·exact .inl (.inr ⟨ob,by rw[aj (iO h e (fun z=>nomatch z))];exact h⟩)
 ·exact .inr h
theorem nG {d l it:Addr}{R:Result->Shared->Prop}(hu:A.units+40<cLine) (hh:A.handled=none) (ps:List (D×V)) (ys:List V) (hlen:ys.length=ps.length):
  ∀(n i:Nat) (t:Tok) (H:Hp) (s:Shared) (kvs:List (D×V)) (ep:Nat),i+n=ps.length->Inv X pins σ H s->H d=some (.dD kvs ep)->kvs.length+n<lim->SqL X.K H l ys->(∀(j:Nat) y p,ys[j]?=some y->ps[j]?=some p->PairD H y p)->s.heap.IsListIter it l i->kF X pins H it->it≠d->
   (∀H' s',Inv X pins σ H' s'->(∃ep',H'=upd H d (.dD (f7 kvs (ps.drop i)) ep'))->R (.ok (.ret .none)) s')->
   codeAny (model X.prog X.w) A (.builtin "dict.update.loop" ⟨[.ref d,.ref it,.int i t,.none],[]⟩) R s:=by
 intro n
 induction n with
 |zero=>
  intro i t H s kvs ep hi I e hl hq hp st hf hne hR;refine codeAny_builtin dt ?_
  rw[Around.under_plainId bA _];obtain⟨its,rv,pl,hz⟩:=I.list hq;have hll:=rv.length;show wpAny _ A.in1 (pyNext (.ref it) >>= _) _ _ s;obtain⟨f0,f1,f2,f3,f4,f5⟩:=hf;refine wpAny_bind (wpAny_pyNext_list_end hh st pl.isList (by simp;lia) fun h' eb=>?_)
  show wpAny _ A.in1 (Builtin.Dict.addKeywords d [] >>= fun _=>ret .none) _ _ _
  refine wpAny_bind (wpAny_pure (wpAny_pure (hR H _ (I.turned (t':=s.toks) (fun b o hb e=>eb b o hb e) f0 f1 f3 f4 f5) ⟨ep,?_⟩)))
  rw[List.drop_of_length_le (by lia)]
  show H=upd H d (.dD kvs ep)
  funext b
  by_cases hb:b=d
  ·subst hb;rw[ag];exact e
  ·rw[aj hb]
 |succ n ih=>
  intro i t H s kvs ep hi I e hl hq hp st hf hne hR;refine codeAny_builtin dt ?_
  rw[Around.under_plainId bA _];obtain⟨its,rv,pl,hz⟩:=I.list hq;have hip:i<ps.length:=by lia
  have hiy:i<ys.length:=by lia
  obtain⟨b,kb,ey,hb,hk8,hkb⟩:=hp i ys[i] ps[i] (by simp[hiy]) (by simp[hip])
  obtain⟨u,hu1,ru⟩:=rv.get (i:=i) (x:=ys[i]) (by simp[hiy])
  rw[ey]at ru;cases ru;show wpAny _ A.in1 (pyNext (.ref it) >>= _) _ _ s;obtain⟨f0,f1,f2,f3,f4,f5⟩:=id hf;refine wpAny_bind (wpAny_pyNext_list_item st pl.isList (x:=.ref b) (by simpa using hu1) fun h' st' sb=>?_)
  have I1:Inv X pins σ H {s with heap:=h'}:=I.turned (t':=s.toks) (fun b o hb e=>(sb.2 b hb).trans e) f0 f1 f3 f4 f5
  obtain⟨tz,tis,tv,⟨to,tg,tc,tn,td⟩⟩:=(show ObjOk X.prog X.w H h' b (.tup [.ref kb,ps[i].2]) from I1.hok b _ hb)
  obtain⟨ku,vu,rfl,rk,rvv⟩:=Vals.two tv;cases rk;refine wpAny_bind (wpAny_holding (wpAny_bind (wpAny_tryCatch ?_)))
  unfold Builtin.Dict.pairItems;refine wpAny_bind (wpAny_typeOf (show Shared.TypeIs {s with heap:=h'} (.ref b) "tuple" from⟨_,tg,tc⟩) ?_)
  rw[if_pos (by decide)]
  unfold seqItems?;refine wpAny_bind (wpAny_bind (wpAny_load tg ?_))
  rw[td];refine wpAny_pure (wpAny_pure ?_)
  show wpAny _ A.in1 (holding [Value.ref kb,vu] (dictSet d (.ref kb) vu)) _ _ _;refine wpAny_holding (gP (by show A.units+1+30<cLine;lia) I1 e hk8 hkb (by have:=aH (Nat.le_refl lim);lia) rvv fun ep' h2 tk2 hs2 I2=>?_)
  refine wpAny_pure ⟨plainId_quiet bA _,?_⟩
  have hlen2:=aW kvs ps[i].1 ps[i].2;refine ih (i+1) 0 (upd H d (.dD (cF kvs ps[i].1 ps[i].2) ep')) _ (cF kvs ps[i].1 ps[i].2) ep' (by lia) I2 ag (by lia) (hq.updDD e) (fun j y p h1 h2=>(hp j y p h1 h2).upd e) ?_ ?_ hne ?_
  ·obtain⟨o,ho,hc,hd'⟩:=st'
   exact⟨o,(hs2.2 it hne).trans ho,hc,hd'⟩
  ·exact⟨by rw[aj hne];exact f0,f1,f2,f3,f4,f5⟩
  ·rintro H' s' I' ⟨ep2,eH⟩
   refine hR H' s' I' ⟨ep2,?_⟩
   rw[eH,qQ,List.drop_eq_getElem_cons hip];rfl
theorem nU (hc:X.calm=true) (hu:X.A.units+64<cLine):fA X (.type "dict") (fun xs H Q=>∃(l:Addr) (ys:List V) (ps:List (D×V)),xs=[.ref l]/\SqL X.K H l ys/\ys.length=ps.length/\ps.length<lim/\
  (∀(j:Nat) y p,ys[j]?=some y->ps[j]?=some p->PairD H y p)/\∀d ep,H d=none->Q (.ref d) (upd H d (.dD (f7 [] ps) ep))):=by
 intro pins s σ H xs us Q I r h;obtain⟨l,ys,ps,rfl,hq,hl,hlim,hp,q⟩:=h;obtain⟨u,rfl,rx⟩:=r.one;cases rx;have hh:X.A.handled=none:=I.ok.hd hc;refine callType_codes (Q₁:=fun obj s₁=>obj=.ref s.heap.objs.size/\s₁={s with heap:=s.heap.push {cls:=.type "dict",data:=.dict #[]}}) F.kt_called_dict (F.kt_typeCall_dict_1 _) F.entry_dict_init (kt_code_dict_new _ ⟨rfl,rfl⟩) ?_
 rintro obj s₁ ⟨rfl,rfl⟩
 have hfr:H s.heap.objs.size=none:=I.fresh;have I1:Inv X pins σ (upd H s.heap.objs.size (.dD [] 0)) {s with heap:=s.heap.push {cls:=.type "dict",data:=.dict #[]}}:=
  I.laid (t':=s.toks) (fun _ _ q=>Heap.get?_push_of_some _ q) (Nat.le_refl _) (iI I.big)
 have hT:Shared.TypeIs {s with heap:=s.heap.push {cls:=.type "dict",data:=.dict #[]}} (.ref s.heap.objs.size) "dict":=⟨_,Heap.get?_push_size _ rfl,rfl⟩
 have sm:Same H (upd H s.heap.objs.size (.dD [] 0)):=az hfr;have hq1:SqL X.K (upd H s.heap.objs.size (.dD [] 0)) l ys:=sm.seq hq;obtain⟨its,rv,⟨ol,nl,hol,hcl,hdl,hsl⟩,hz⟩:=I1.list hq1;refine⟨hT,F.args_dict_init_2 _ _,?_⟩
 unfold Builtin.«dict.__init__»;refine wpAny_bind ?_
 unfold Builtin.Dict.selfAndRest;refine wpAny_bind (wpAny_notOrdered_dict hT ?_)
 show wpAny _ _ (pure (s.heap.objs.size,[Value.ref l])) _ _ _;refine wpAny_pure ?_
 show wpAny _ _ (Builtin.Dict.updateFrom "dict.__init__" s.heap.objs.size (.ref l) [] .none) _ _ _;unfold Builtin.Dict.updateFrom;refine wpAny_bind (wpAny_typeOf (show Shared.TypeIs {s with heap:=s.heap.push {cls:=.type "dict",data:=.dict #[]}} (.ref l) "list" from⟨_,hol,hcl⟩) ?_)
 rw[if_pos (by decide)]
 refine wpAny_bind (wk hol hcl hsl hdl (by simp[hh]) fun h2 tk2 kp2=>?_)
 have I2:Inv X pins σ (upd H s.heap.objs.size (.dD [] 0)) {s with heap:=h2,toks:=tk2}:=I1.kept kp2
 rw[if_pos (by decide)]
 refine wpAny_bind (wpAny_rule ?_)
 have pl2:h2.IsList l its.toArray:=⟨ol,kp2 _ _ hol,hcl,nl,hsl⟩;refine wpAny_bind (wpAny_pyIter_list pl2 ?_)
 refine wpAny_pure ⟨plainId_quiet bA _,?_⟩
 have I3:Inv X pins σ (upd H s.heap.objs.size (.dD [] 0)) {s with heap:=h2.push {cls:=.type "list_iterator",data:=.fields #[.ref l,.int 0 0]},toks:=tk2}:=I2.kept fun b o e=>Heap.get?_push_of_some _ e
 have hlt:s.heap.objs.size<h2.objs.size:=Heap.lt_size (kp2 _ _ (Heap.get?_push_size (h:=s.heap) (o:={cls:=.type "dict",data:=.dict #[]}) rfl))
 have fp:kF X pins (upd H s.heap.objs.size (.dD [] 0)) h2.objs.size:=I2.fpOk (Nat.le_refl _) (I2.hok.fresh (Nat.le_refl _));refine nG (X:=X) (A:=X.A.in1) (by show X.A.units+1+40<cLine;lia) (by simp[hh]) ps ys hl ps.length 0 0 (upd H s.heap.objs.size (.dD [] 0)) _ [] 0 (by lia) I3 ag (by simpa using hlim) hq1 (fun j y p h1 h2'=>?_) ⟨_,Heap.get?_push_size _ rfl,rfl,rfl⟩ fp (Nat.ne_of_gt hlt) ?_
 ·obtain⟨b,kb,e1,e2,e3,e4⟩:=hp j y p h1 h2'
  exact⟨b,kb,e1,sm _ _ e2,e3,e4.to fun c ys ec=>sm _ _ ec⟩
 ·rintro H' s' I' ⟨ep,eH⟩
  rw[qQ,List.drop_zero]at eH;subst eH;exact⟨rfl,⟨.ref s.heap.objs.size,_,I',rfl,q _ ep hfr⟩⟩
end
noncomputable def ud:D->Option (D×D)
 |.tup [k,v]=>if(bL 8 k&&nW k)=true then some (k,v) else none
 |_=>none
noncomputable def eE:List D->Option (List (D×D))
 |[]=>some []
 |d::ds=>match ud d,eE ds with|some p,some ps=>some (p::ps)|_,_=>none
noncomputable def j3:List D->List D->List (D×D)->List D×List D
 |ks,vs,[]=>(ks,vs)
 |ks,vs,p::ps=>j3 (ip p.1 ks) (rV p.1 p.2 ks vs) ps
noncomputable def gZ (x:Option D):Option D:=match x with|some (.lst ds)=>(match eE ds with|some ps=>if ds.length<lim then some (.dD (j3 [] [] ps).1 (j3 [] [] ps).2) else none|none=>none)|_=>none
section
variable{K:PySem.W.Frag}{B:Addr->Prop}{H:Hp}
noncomputable def PQ (K:PySem.W.Frag) (B:Addr->Prop) (H:Hp):List (D×D)->List (D×V)->Prop:=Paired fun p q=>p.1=q.1/\Rep K B H p.2 q.2
theorem je:∀{ps:List (D×D)}{qs:List (D×V)}{kvs:List (D×V)}{vs:List D},PQ K B H ps qs->Reps K B H vs (kvs.map (·.2))->(f7 kvs qs).map (·.1)=(j3 (kvs.map (·.1)) vs ps).1/\Reps K B H (j3 (kvs.map (·.1)) vs ps).2 ((f7 kvs qs).map (·.2))
 |_,_,kvs,vs,.nil,r=>⟨rfl,r⟩
 |_,_,kvs,vs,@Paired.cons _ _ _ p q ps qs h t,r=>by
  have h1:=fF q.1 q.2 kvs;have h2:=iL h.2 q.1 r;have ih:=je (kvs:=cF kvs q.1 q.2) t h2;rw[h1]at ih;unfold j3;rw[h.1];exact ih
theorem gh:∀{ds:List D}{ps:List (D×D)}{ys:List V},eE ds=some ps->Reps K B H ds ys->∃qs,PQ K B H ps qs/\ys.length=qs.length/\∀(j:Nat) y q,ys[j]?=some y->qs[j]?=some q->PairD H y q
 |[],ps,ys,h,r=>by
  obtain rfl:=Option.some.inj h;have:ys=[]:=r;subst this;exact⟨[],.nil,rfl,fun j y q h=>by simp at h⟩
 |d::ds,ps,ys,h,r=>by
  simp only[eE]at h;split at h
  ·rename_i p ps' q1 q2
   obtain rfl:=Option.some.inj h;obtain⟨y,ys',rfl,r1,r2⟩:=r;obtain⟨qs,h1,h2,h3⟩:=gh q2 r2;unfold ud at q1;split at q1
   ·rename_i k v
    split at q1
    ·rename_i hc
     obtain rfl:=Option.some.inj q1;rw[Bool.and_eq_true]at hc;simp only[Rep]at r1;obtain⟨b,xs,rfl,hb,rr⟩:=r1;obtain⟨ku,r3,rfl,rk,rr2⟩:=rr;simp only[Reps]at rr2;obtain⟨vu,r4,rfl,rv,rfl⟩:=rr2;obtain⟨kb,rfl⟩:=cy hc.2 rk;refine⟨(k,vu)::qs,.cons ⟨rfl,rv⟩ h1,by simp[h2],fun j y q e1 e2=>?_⟩
     cases j with
     |zero=>
      simp at e1 e2;subst e1 e2;exact⟨b,kb,rfl,hb,hc.1,rk.key hc.1⟩
     |succ j=>exact h3 j y q (by simpa using e1) (by simpa using e2)
    ·contradiction
   ·contradiction
  ·contradiction
end
section
variable{X:Cx}{pos p:Pos}{a:Expr}{fa:DEnv->Option D}
theorem sR:bootBuiltins "dict"=some (.type "dict"):=by decide +kernel
theorem tJ (hc:X.calm=true) (hu:X.A.units+64<cLine) (g:Gl X "dict") (hm:X.mg "dict"=none) (ha:DE X false a fa) (hs:starEach [a] X.env=[(false,eval a X.env)]:=by rfl):DF X (.Call (.Name "dict" p) [a] [] pos) (fun δ=>gZ (fa δ)):=
 (gd (nU hc hu) g hm sR (av ha aT hs) (he:=hs)).imp fun σ H Q hz=>by
  obtain⟨B,Hk,δ,d,R,e,k⟩:=hz;unfold gZ at e;split at e
  ·rename_i ds q
   split at e
   ·rename_i ps qp
    split at e
    ·rename_i hl
     obtain rfl:=Option.some.inj e;refine rH R q fun v H' s R' r=>?_
     simp only[Rep]at r;obtain⟨l,ys,rfl,hq,rs⟩:=r;obtain⟨qs,h1,h2,h3⟩:=gh qp rs;have hlen:qs.length=ds.length:=by rw[<-h2,rs.length]
     refine⟨l,ys,qs,rfl,hq.sq,h2,by rw[hlen];exact hl,h3,fun d ep hd=>?_⟩
     have s2:=az (o:=.dD (f7 [] qs) ep) hd;obtain⟨g1,g2⟩:=je (kvs:=[]) (vs:=[]) h1 Reps.nil;exact k d _ (s.trans s2) (s.free hd) ⟨_,⟨ep,ag⟩,g1,Reps.same (m:=false) g2 R' s2⟩
    ·contradiction
   ·contradiction
  ·contradiction
end
end L2
namespace L2
open PySem PySem.Spec PyProof.Rows
variable[Lams]
section
variable{K:PySem.W.Frag}{B:Addr->Prop}{Hk H H' H1:Hp}
theorem NRep.ext {d:D}{v:V}(h:NRep K B Hk H d v) (s:Same H H') (x:Ext B H H'):NRep K B Hk H' d v:=by
 cases d with
 |lst es=>obtain⟨b,xs,h1,h2,h3,h4⟩:=h;exact⟨b,xs,h1,h2,s _ _ h3,h4.ext x⟩
 |_=>exact Rep.ext x h
theorem NReps.ext (s:Same H H') (x:Ext B H H'):∀{ds:List D}{vs:List V},NReps K B Hk H ds vs->NReps K B Hk H' ds vs
 |[],vs,h=>h
 |d::ds,vs,h=>by obtain⟨y,r,e,h1,h2⟩:=h;exact⟨y,r,e,h1.ext s x,NReps.ext s x h2⟩
theorem NReps.get:∀{ds:List D}{vs:List V}{j:Nat}{d:D},NReps K B Hk H ds vs->ds[j]?=some d->∃v,vs[j]?=some v/\NRep K B Hk H d v
 |[],vs,j,d,h,e=>by simp at e
 |c::ds,vs,j,d,h,e=>by
  obtain⟨y,r,rfl,h1,h2⟩:=h;cases j with
  |zero=>simp only[List.getElem?_cons_zero,Option.some.injEq]at e;subst e;exact⟨y,rfl,h1⟩
  |succ j=>simp only[List.getElem?_cons_succ]at e⊢;exact NReps.get h2 e
theorem RepT.ext {d:D}{v:V}(h:RepT K B Hk H d v) (s:Same H H') (x:Ext B H H'):RepT K B Hk H' d v:=by
 cases d with
 |tup ds=>obtain⟨a,vs,h1,h2,h3⟩:=h;exact⟨a,vs,h1,s _ _ h2,NReps.ext s x h3⟩
 |_=>exact h
theorem ObR.more {B':Addr->Prop}{d:D}{a:Addr}(h:ObR K B H d a) (e:∀a,B a->B' a):ObR K B' H d a:=by
 cases d with
 |lst ds=>obtain⟨xs,h1,h2⟩:=h;exact⟨xs,h1,Reps.more e h2⟩
 |dT ks ds=>obtain⟨xs,h1,h0,h2⟩:=h;exact⟨xs,h1,h0,Reps.more e h2⟩
 |dK ks ds=>obtain⟨xs,h1,h0,h2⟩:=h;exact⟨xs,h1,h0,Reps.more e h2⟩
 |dD ks ds=>obtain⟨xs,h1,h0,h2⟩:=h;exact⟨xs,h1,h0,Reps.more e h2⟩
 |_=>exact(show False from h).elim
noncomputable def BN (B:Addr->Prop) (H1 H:Hp) (b:Addr):Prop:=B b\/(H1 b=none/\∃xs,H b=some (.lst xs))
theorem NRep.view {d:D}{v:V}(h:NRep K B H1 H d v):Rep K (BN B H1 H) H d v:=by
 cases d with
 |lst es=>
  obtain⟨b,xs,h1,h2,h3,h4⟩:=h;simp only[Rep];exact⟨b,xs,h1,.inl ⟨.inr ⟨h2,xs,h3⟩,h3⟩,Reps.more (fun _ z=>.inl z) h4⟩
 |_=>exact Rep.more (fun _ z=>.inl z) h
theorem NReps.view:∀{ds:List D}{vs:List V},NReps K B H1 H ds vs->Reps K (BN B H1 H) H ds vs
 |[],vs,h=>by rw[show vs=[] from h];exact Reps.nil
 |d::ds,vs,h=>by obtain⟨y,r,rfl,h1,h2⟩:=h;exact Reps.cons h1.view (NReps.view h2)
theorem RepT.view {d:D}{v:V}(h:RepT K B H1 H d v):Rep K (BN B H1 H) H d v:=by
 cases d with
 |tup ds=>
  obtain⟨a,vs,h1,h2,h3⟩:=h;simp only[Rep];exact⟨a,vs,h1,h2,h3.view⟩
 |_=>exact(show False from h).elim
noncomputable def NewT (K:PySem.W.Frag) (B:Addr->Prop) (Hk:Hp) (δ:DEnv) (σ:St) (H:Hp) (d:D) (v:V):Prop:=
 ∃H1,Same Hk H1/\RepT K B H1 H d v/\∀(k:Nat) e a,δ[k]?=some (some (e,true))->σ[k]?=some (some (.ref a))->∃o:HOn,H1 a=some o.1
theorem NewT.same {δ:DEnv}{σ:St}{d:D}{v:V}(h:NewT K B Hk δ σ H d v) (R:Rel K B Hk δ σ H) (s:Same H H'):NewT K B Hk δ σ H' d v:=by
 obtain⟨H1,h1,h2,h3⟩:=h;exact⟨H1,h1,h2.ext s (R.ext s),h3⟩
open Classical in
theorem Rel.view {δ:DEnv}{σ:St}{i:Nat}{d:D}{v:V}(R:Rel K B Hk δ σ H) (hv:σ[i]?=some (some v)) (n:NewT K B Hk δ σ H d v):∃B' Hk',Rel K B' Hk' (δ.set i (some (d,false))) σ H:=by
 obtain⟨H1,h1,h2,h3⟩:=n;have hi:i<σ.length:=(List.getElem?_eq_some_iff.mp hv).1
 have hi':i<δ.length:=by rw[R.len];exact hi
 have nk:∀a o,H1 a=some o->∀z:H1 a=none/\∃xs,H a=some (.lst xs),False:=fun a o q z=>by rw[q]at z;cases z.1
 refine⟨BN B H1 H,fun a=>if H1 a=none/\∃xs,H a=some (.lst xs) then H a else Hk a,⟨⟨fun a o nt q=>?_,fun a lq ps q=>?_⟩,fun a q=>?_,by simpa using R.len,fun j e q=>?_,fun j e q=>?_,fun j k e f q hjk h1 h2 h3 h4=>?_⟩⟩
 ·split at q
  ·exact q
  ·exact R.same.get a o nt q
 ·split at q
  ·exact⟨#[],by rw[Array.append_empty];exact q⟩
  ·exact R.same.tbl a lq ps q
 ·by_cases z:H1 a=none/\∃xs,H a=some (.lst xs)
  ·obtain⟨_,xs,hx⟩:=id z
   exact⟨⟨_,rfl⟩,by rw[if_pos z];exact hx⟩
  ·rcases q with q|q
   ·obtain⟨o,q⟩:=R.bor a q
    exact⟨o,by rw[if_neg z];exact q⟩
   ·exact(z q).elim
 ·by_cases hj:j=i
  ·subst hj
   rw[List.getElem?_set_self hi']at q
   cases q;exact⟨v,hv,h2.view⟩
  ·rw[List.getElem?_set_ne (Ne.symm hj)]at q
   obtain⟨u,q1,q2⟩:=R.var j e q;exact⟨u,q1,Rep.more (fun _ z=>.inl z) q2⟩
 ·by_cases hj:j=i
  ·subst hj
   rw[List.getElem?_set_self hi']at q
   cases q
  ·rw[List.getElem?_set_ne (Ne.symm hj)]at q
   obtain⟨a,q1,q2,q3⟩:=R.own j e q;obtain⟨o,ho⟩:=h3 j e a q q1;refine⟨a,q1,by rw[if_neg (nk a o ho)];exact q2,ObR.more (show ObR K B H e a from q3) fun _ z=>.inl z⟩
 ·have hj:¬j=i:=fun z=>by subst z;rw[List.getElem?_set_self hi']at h1;cases h1
  have hk:¬k=i:=fun z=>by subst z;rw[List.getElem?_set_self hi']at h2;cases h2
  rw[List.getElem?_set_ne (Ne.symm hj)]at h1
  rw[List.getElem?_set_ne (Ne.symm hk)]at h2
  exact R.dis j k e f q hjk h1 h2 h3 h4
theorem Rel.unset {δ:DEnv}{σ:St}{i:Nat}{v:V}(R:Rel K B Hk δ σ H) (hi:i<σ.length):Rel K B Hk (δ.set i none) (σ.set i (some v)) H:=by
 have hi':i<δ.length:=by rw[R.len];exact hi
 have key:∀(j:Nat) p,(δ.set i none)[j]?=some (some p)->j≠i/\δ[j]?=some (some p)/\(σ.set i (some v))[j]?=σ[j]?:=fun j p q=>by
  by_cases hj:j=i
  ·subst hj;rw[List.getElem?_set_self hi']at q;cases q
  ·rw[List.getElem?_set_ne (Ne.symm hj)]at q
   exact⟨hj,q,by rw[List.getElem?_set_ne (Ne.symm hj)]⟩
 refine⟨R.same,R.bor,by simpa using R.len,fun j e q=>?_,fun j e q=>?_,fun j k e f q hjk h1 h2 h3 h4=>?_⟩
 ·obtain⟨_,q1,q2⟩:=key j _ q
  obtain⟨u,q3,q4⟩:=R.var j e q1;exact⟨u,by rw[q2];exact q3,q4⟩
 ·obtain⟨_,q1,q2⟩:=key j _ q
  obtain⟨a,q3,q4⟩:=R.own j e q1;exact⟨a,by rw[q2];exact q3,q4⟩
 ·obtain⟨_,q1,q2⟩:=key j _ h1
  obtain⟨_,q3,q4⟩:=key k _ h2;rw[q2]at h3;rw[q4]at h4;exact R.dis j k e f q hjk q1 q3 h3 h4
theorem dJ {δ:DEnv}{i:Nat}(h:δ[i]?=some none):δ.set i none=δ:=by
 apply List.ext_getElem?;intro j
 by_cases hj:j=i
 ·subst hj;rw[List.getElem?_set_self (List.getElem?_eq_some_iff.mp h).1,h]
 ·rw[List.getElem?_set_ne (Ne.symm hj)]
theorem Rel.updN {δ:DEnv}{σ:St}{b:Addr}{xs ys:List V}(R:Rel K B Hk δ σ H) (s1:Same Hk H1) (h1:H1 b=none) (hb:H b=some (.lst xs)) (h3:∀(k:Nat) e a,δ[k]?=some (some (e,true))->σ[k]?=some (some (.ref a))->∃o:HOn,H1 a=some o.1):
  Ext B H (upd H b (.lst ys))/\Rel K B Hk δ σ (upd H b (.lst ys)):=by
 have hk:Hk b=none:=s1.free h1;have nb:¬B b:=fun z=>by obtain⟨o,q⟩:=R.bor b z;rw[hk]at q;contradiction
 have ex:Ext B H (upd H b (.lst ys)):=bj hb trivial nb;refine⟨ex,R.same.put hk,R.bor,R.len,fun j e q=>?_,fun j e q=>?_,R.dis⟩
 ·obtain⟨v,q1,q2⟩:=R.var j e q;exact⟨v,q1,q2.ext ex⟩
 ·obtain⟨a,q1,q2,q3⟩:=R.own j e q
  obtain⟨o,ho⟩:=h3 j e a q q1;have na:a≠b:=fun z=>by subst z;rw[h1]at ho;contradiction
  exact⟨a,q1,q2,q3.ext ex fun o' z _=>by rw[aj na];exact z⟩
end
inductive tN (K:PySem.W.Frag) (i:Nat) (g:DEnv->Option Out) (Dn:Ends) (σ:St) (H:Hp):Prop
 |mk (B:Addr->Prop) (Hk:Hp) (δ:DEnv) (d:D) (v:V) (o:Out) (a_:Rel K B Hk δ σ H) (b_:δ[i]?=some none) (c_:σ[i]?=some (some v)) (d_:NewT K B Hk δ σ H d v) (e_:g (δ.set i (some (d,false)))=some o) (f_:OutK K B Hk H Dn o):tN K i g Dn σ H
noncomputable abbrev DNs (X:Cx) (i:Nat) (sts:List Stmt) (g:DEnv->Option Out):Prop:=PSs X sts (tN X.K i g)
noncomputable def tpO (x:Option (D×Bool)):Option D:=match x with|some (.tup ds,true)=>some (.tup ds)|_=>none
theorem sn {x:Option (D×Bool)}{d:D}(h:tpO x=some d):x=some (d,true)/\∃ds,d=.tup ds:=by
 unfold tpO at h;split at h
 ·obtain rfl:=Option.some.inj h;exact⟨rfl,_,rfl⟩
 ·contradiction
noncomputable def dw (x:Option Out):Option Out:=match x with|some (.ret d fr)=>some (.ret d fr)|_=>none
theorem jP {x:Option Out}{o:Out}(h:dw x=some o):x=some o:=by
 unfold dw at h;split at h
 ·exact h
 ·contradiction
noncomputable def xh (i:Nat) (jx x:Option D) (δ:DEnv) (k:DEnv->Option Out):Option Out:=match δ[i]?,jx,x with
 |some (some (.tup ds,false)),some (.int j),some _=>(match atI ds j with|some (.lst es)=>if es.length<lim then k (δ.set i none) else none|_=>none)
 |_,_,_=>none
theorem qM {i:Nat}{jx x:Option D}{δ:DEnv}{k:DEnv->Option Out}{o:Out}(h:xh i jx x δ k=some o):∃ds j y es,δ[i]?=some (some (.tup ds,false))/\jx=some (.int j)/\x=some y/\atI ds j=some (.lst es)/\es.length<lim/\k (δ.set i none)=some o:=by
 unfold xh at h;split at h
 ·rename_i ds j y q
  split at h
  ·rename_i es he
   by_cases hl:es.length<lim
   ·rw[if_pos hl]at h;exact⟨ds,j,y,es,q,rfl,rfl,he,hl,h⟩
   ·rw[if_neg hl]at h;contradiction
  ·contradiction
 ·contradiction
section
variable{X:Cx}{i:Nat}{x y:Str}{bC:List Stmt}{gr gb:DEnv->Option Out}{pos pos' p cpos apos px:Pos}{k:Nat}{f:List D->Option (D×Bool)}{e a b:Expr}{es:List Expr}{fs:DEnv->Option (List D)}{fa fb:DEnv->Option D}{ft:DEnv->Option Bool}
theorem vw (hN:X.N.Nodup) (l:Lc X i x) (F:FnM X.prog X.w X.K X.mg X.base k y f) (hr:Room k X.A) (g:Gb X y) (ha:DA X false (e::es) fs) (hrest:DNs X i bC gr)
  (he:starEach (e::es) X.env=(false,eval e X.env)::starEach es X.env:=by rfl) (hpl:(backTo cpos (starEach es X.env)).any (·.1)=false:=by rfl)
  (hs:swapsWith (.Call (.Name y p) (e::es) [] cpos) (some (.Name x pos')) pos.line X.env=pure false:=by rfl):
  DSs X (.Assign [.Name x pos'] (.Call (.Name y p) (e::es) [] cpos) pos::bC) (fun δ=>ba (dE i (tpO (ac (fs δ) f)) δ) gr):=
 (aZ (cV hN l.at' l.loc (ii F hr g.gl ha g.d1 he hpl) hs l.fnl) hrest).imp fun Dn σ H hz=>by
  obtain⟨B,Hk,δ,o,R,e,kk⟩:=hz;cases q:dE i (tpO (ac (fs δ) f)) δ with
  |none=>simp only[q,ba]at e;contradiction
  |some o1=>
   obtain⟨d,e1,hi,rfl⟩:=jl q;simp only[q,ba]at e;obtain⟨e2,ts,rfl⟩:=sn e1;obtain⟨ds,e3,e4⟩:=aa e2;have hi':i<σ.length:=by rw[<-R.len];exact hi
   refine⟨B,Hk,δ,ds,_,_,R,e3,e4,fun v H1 H' s1 s2 rr=>?_⟩
   unfold jc at rr;rw[if_pos rfl]at rr
   rcases rr with⟨c,_,_,z⟩|rt
   ·exact(show False from z).elim
   ·have s:=s1.trans s2
    refine⟨B,Hk,δ.set i none,.tup ts,v,o,(R.to s).unset hi',List.getElem?_set_self hi,List.getElem?_set_self hi',⟨H1,R.same.trans s1,rt,fun j c a h1 h2=>?_⟩,by rw[List.set_set];exact e,kk.ext (R.ext s)⟩
    have hj:j≠i:=fun z=>by subst z;rw[List.getElem?_set_self hi]at h1;cases h1
    rw[List.getElem?_set_ne (Ne.symm hj)]at h1 h2
    obtain⟨a',q1,_,q3⟩:=R.own j c h1;rw[h2]at q1;cases q1;obtain⟨o',ho⟩:=q3.there;exact⟨o',s1 _ _ ho⟩
theorem wU {body:List Stmt}(hc:DT X e ft) (hb:DSs X body gb) (hrest:DNs X i bC gr):DNs X i (.If e body [] pos::bC) (fun δ=>ifO (ft δ) (dw (gb (δ.set i none))) (gr δ)):=by
 refine(aZ (nY hc hb i7) hrest).imp fun Dn σ H hz=>?_
 obtain⟨B,Hk,δ,d,v,o,R,hd,hv,n,e,kk⟩:=hz;obtain⟨B',Hk',R'⟩:=R.view hv n;unfold ifO at e;split at e
 ·rename_i q
  refine⟨B',Hk',_,true,R',q,fun H1 s1=>yk ?_⟩
  have e':=jP e;rw[List.set_set,dJ hd]at e';refine⟨B,Hk,δ,o,R.to s1,e',?_⟩
  have kk':=kk.ext (R.ext s1);unfold dw at e;split at e
  ·obtain rfl:=Option.some.inj e;exact kk'
  ·contradiction
 ·rename_i q
  refine⟨B',Hk',_,false,R',q,fun H1 s1=>yP ?_⟩
  exact⟨B,Hk,δ,d,v,o,R.to s1,hd,hv,n.same R s1,e,kk.ext (R.ext s1)⟩
 ·contradiction
theorem qG (n:Nm X i x) (hb:DE X false b fb) (ha:DE X false a fa) (hrest:DSs X bC gr) (hsb:i0 b:=by exact fun _ _=>rfl)
  (hbase:attributeBase (.Subscript (.Name x px) b p) "append" X.env (eval (.Subscript (.Name x px) b p) X.env)=eval (.Subscript (.Name x px) b p) X.env:=by rfl)
  (hfew:((backTo cpos (starEach [a] X.env)).all (fun x=>!x.1)&&(backToKw cpos (keywordEach [] X.env)).all (fun x=>x.1.isSome)&&decide (([a]).length+([]:List Keyword).length+(if([]:List Keyword).isEmpty then 0 else 1)<30))=true:=by rfl)
  (hline:(apos.endLine==cpos.line)=true:=by rfl) (hs:starEach [a] X.env=(false,eval a X.env)::starEach [] X.env:=by rfl)
  (hsw:swapsWith (.Call (.Attribute (.Subscript (.Name x px) b p) "append" apos) [a] [] cpos) none pos.line X.env=pure false:=by rfl):
  DNs X i (.Expr (.Call (.Attribute (.Subscript (.Name x px) b p) "append" apos) [a] [] cpos) pos::bC) (fun δ=>xh i (fb (δ.set i none)) (fa (δ.set i none)) δ gr):=
 (aZ (dz (tZ PySem.F.plainAttrs_list PySem.F.slot_list_append PySem.F.type_list_append dS (wL uR (aL n.at' n.vis n.d1 n.d2) hb hsb) (av ha aT hs) hbase hfew hline hs) hsw) hrest).imp
  fun Dn σ H hz=>by
  obtain⟨B,Hk,δ,d,v,o,R,hd,hv,nt,e,kk⟩:=hz;have hi:i<δ.length:=(List.getElem?_eq_some_iff.mp hd).1
  obtain⟨ds,j,y,es,h1,e2,e3,hj,hl,e4⟩:=qM e;rw[List.set_set,dJ hd]at e2 e3 e4;rw[List.getElem?_set_self hi]at h1
  cases h1;refine⟨v,hv,B,Hk,δ,_,R,e2,fun u H' s r2=>?_⟩
  simp only[Rep]at r2;subst r2;obtain⟨H0,n1,n2,n3⟩:=nt.same R s;obtain⟨q,vs,rfl,hq,rs⟩:=n2;have hj':∃jj,ixN vs.length j=some jj/\ds[jj]?=some (.lst es):=by
   unfold atI at hj;rw[rs.length]at hj;cases z:ixN vs.length j with
   |none=>rw[z]at hj;contradiction
   |some jj=>rw[z]at hj;exact⟨jj,rfl,hj⟩
  obtain⟨jj,z1,z2⟩:=hj';obtain⟨w,hw,b',xs,rfl,nb,hb',rxs⟩:=rs.get z2;refine .inr (.inl ⟨q,vs,j,.ref b',rfl,rfl,SqT.of hq,by unfold atI;rw[z1];exact hw,.inl ⟨rfl,xs,SqL.of hb'⟩,rH (R.to s) e3 fun v2 H2 s2 R2 r3=>?_⟩)
  have hb2:=s2 b' _ hb';obtain⟨x1,x2⟩:=R2.updN (ys:=xs++[v2]) n1 nb hb2 n3;exact⟨b',xs,v2,rfl,rfl,hb2,by rw[<-rxs.length];exact Nat.lt_of_lt_of_le hl (aH (Nat.le_refl _)),B,Hk,δ,o,x2,e4,kk.ext (((R.ext s).trans ((R.to s).ext s2)).trans x1)⟩
end
inductive tNA (K:PySem.W.Frag) (f:DEnv->Option (List D)) (σ:St) (H:Hp) (Q:(List V->Hp->Prop)):Prop
 |mk (B:Addr->Prop) (Hk:Hp) (δ:DEnv) (ds:List D) (a_:Rel K B Hk δ σ H) (b_:f δ=some ds) (c_:∀vs H',Same H H'->NReps K B Hk H' ds vs->Q vs H'):tNA K f σ H Q
noncomputable abbrev DNA (X:Cx) (es:List Expr) (f:DEnv->Option (List D)):Prop:=PA X es (tNA X.K f)
noncomputable def vU (x:Option D):Option D:=match x with|some (.lst _)=>none|some d=>some d|none=>none
theorem oM {x:Option D}{d:D}(h:vU x=some d):x=some d/\∀es,d≠.lst es:=by
 unfold vU at h;split at h
 ·contradiction
 ·rename_i d' hd;obtain rfl:=Option.some.inj h;exact⟨rfl,fun es z=>hd es z⟩
 ·contradiction
noncomputable def uK (x:Option D):Option D:=match x with|some (.lst ds)=>some (.lst ds)|_=>none
theorem jO {x:Option D}{d:D}(h:uK x=some d):∃ds,x=some (.lst ds)/\d=.lst ds:=by
 unfold uK at h;split at h
 ·obtain rfl:=Option.some.inj h;exact⟨_,rfl,rfl⟩
 ·contradiction
noncomputable def u0 (x:Option (List D)):Option Out:=match x with|some ds=>if ds.length<=lim then some (.ret (.tup ds) true) else none|none=>none
section
variable{X:Cx}{i:Nat}{x:Str}{e:Expr}{es:List Expr}{fs:DEnv->Option (List D)}{fe:DEnv->Option D}{pos px:Pos}
theorem qT:DNA X [] (fun _=>some []):=aT.imp fun σ H Q hz=>by obtain⟨B,Hk,δ,d,R,e,k⟩:=hz;obtain rfl:=Option.some.inj e;exact k [] H (Same.refl H) rfl
theorem rh (ha:DE X false e fe) (hr:DNA X es fs) (hs:starEach (e::es) X.env=(false,eval e X.env)::starEach es X.env:=by rfl):DNA X (e::es) (fun δ=>ad (vU (fe δ)) (fs δ)):=
 (av ha hr hs).imp fun σ H Q hz=>by
  obtain⟨B,Hk,δ,l,R,e,k⟩:=hz;obtain⟨d,ds,e1,e2,rfl⟩:=c8 e;obtain⟨e1,nl⟩:=oM e1;refine⟨B,Hk,δ,d,R,e1,fun v H1 s1 r1=>⟨B,Hk,δ,ds,R.to s1,e2,fun vs H2 s2 r2=>k (v::vs) H2 (s1.trans s2) ⟨v,vs,rfl,?_,r2⟩⟩⟩
  have r1':Rep X.K B H2 d v:=Rep.ext ((R.to s1).ext s2) r1;cases d with
  |lst es=>exact(nl es rfl).elim
  |_=>exact r1'
theorem v5 (ha:DF X e fe) (hr:DNA X es fs) (hs:starEach (e::es) X.env=(false,eval e X.env)::starEach es X.env:=by rfl):DNA X (e::es) (fun δ=>ad (uK (fe δ)) (fs δ)):=
 (av ha hr hs).imp fun σ H Q hz=>by
  obtain⟨B,Hk,δ,l,R,e,k⟩:=hz;obtain⟨d,ds,e1,e2,rfl⟩:=c8 e;obtain⟨ls,e1',rfl⟩:=jO e1;refine⟨B,Hk,δ,_,R,e1',fun a H1 s1 n1 ob=>⟨B,Hk,δ,ds,R.to s1,e2,fun vs H2 s2 r2=>k (_::vs) H2 (s1.trans s2) ⟨_,vs,rfl,?_,r2⟩⟩⟩
  obtain⟨xs,h1,h2⟩:=ob;exact⟨a,xs,rfl,R.same.free n1,s2 _ _ h1,h2.ext ((R.to s1).ext s2)⟩
theorem vY (n:Nm X i x) (hr:DNA X es fs) (hs:starEach (.Name x px::es) X.env=(false,eval (.Name x px) X.env)::starEach es X.env:=by rfl):DNA X (.Name x px::es) (fun δ=>ad (uK (bD i δ)) (fs δ)):=
 (av (aL n.at' n.vis n.d1 n.d2) hr hs).imp fun σ H Q hz=>by
  obtain⟨B,Hk,δ,l,R,e,k⟩:=hz;obtain⟨d,ds,e1,e2,rfl⟩:=c8 e;obtain⟨ls,e1',rfl⟩:=jO e1;obtain⟨a,h1,h2,xs,h3,h4⟩:=R.own i _ (bO e1');exact⟨.ref a,h1,B,Hk,δ,ds,R,e2,fun vs H2 s2 r2=>k (_::vs) H2 s2 ⟨_,vs,rfl,⟨a,xs,rfl,h2,s2 _ _ h3,h4.ext (R.ext s2)⟩,r2⟩⟩
theorem kW {x1:Nat}{tpos:Pos}(h:DNA X es fs):DS X (.Return (some (.Tuple es x1 tpos)) pos) (fun δ=>u0 (fs δ)):=
 (fC (uc h)).imp fun Dn σ H hz=>by
  obtain⟨B,Hk,δ,o,R,e,k⟩:=hz;cases q:fs δ with
  |none=>simp only[q,u0]at e;contradiction
  |some ds=>
   simp only[q,u0]at e
   by_cases hl:ds.length<=lim
   ·rw[if_pos hl]at e;obtain rfl:=Option.some.inj e
    refine⟨B,Hk,δ,ds,R,q,fun vs H1 s1 r1=>⟨by rw[<-r1.length];exact aH hl,fun p hp=>?_⟩⟩
    have s2:=az (o:=.tup vs) hp;refine k _ _ (R.ext (s1.trans s2)) (R.same.trans (s1.trans s2)) ?_
    unfold jc;rw[if_pos rfl];exact .inr ⟨p,vs,rfl,ag,r1.ext s2 ((R.to s1).ext s2)⟩
   ·rw[if_neg hl]at e;contradiction
end
section
variable{X:Cx}{tg:Expr}{m m' mm:Bool}{a b e:Expr}{fa fb:DEnv->Option D}{p pos apos cpos:Pos}
noncomputable def Ag (z:Str):List D:=z.cps.toList.map fun c=>.str ⟨#[c]⟩
noncomputable def Cp (x:Option D):Option (List D):=match x with|some (.str z)=>some (Ag z)|_=>none
noncomputable def yK (x:Option D):Option D:=match x with|some (.str z)=>if z.length<=lim then some (.int z.length) else none|_=>none
end
section
variable{X:Cx}{m m' mm:Bool}{a b e:Expr}{fa fb:DEnv->Option D}{p pos apos cpos:Pos}
theorem vE (g:Gl X "len") (hm:X.mg "len"=none) (ha:DE X m a fa) (hs:starEach [a] X.env=[(false,eval a X.env)]:=by rfl):DE X mm (.Call (.Name "len" p) [a] [] pos) (fun δ=>yK (fa δ)):=
 (dg jC g hm PySem.boot_len (av ha aT hs) (he:=hs)).imp fun σ H Q hz=>by
  obtain⟨B,Hk,δ,d,R,e,k⟩:=hz;unfold yK at e;split at e
  ·rename_i z q
   by_cases hl:z.length<=lim
   ·rw[if_pos hl]at e;obtain rfl:=Option.some.inj e
    exact⟨B,Hk,δ,_,R,q,fun v H' s r=>⟨z,by simp only[Rep]at r;rw[r],aH hl,k _ H' s (by simp only[Rep])⟩⟩
   ·rw[if_neg hl]at e;contradiction
  ·contradiction
end
theorem mq {kvs:List (D×V)}{k:D}{v:V}(h:bV kvs k=some v):∃p∈kvs,p.2=v/\p.1=k:=by
 unfold bV at h;obtain⟨p,h1,h2⟩:=Option.map_eq_some_iff.mp h;exact⟨p,List.mem_of_find?_eq_some h1,h2,by simpa using List.find?_some h1⟩
noncomputable def cR (δ:DEnv):Bool:=δ.all fun o=>match o with|some (_,true)=>false|_=>true
theorem cL {δ:DEnv}(h:cR δ=true):bc δ:=fun i d e=>by
 have:=(List.all_eq_true.mp h) _ (List.mem_of_getElem? e);simp at this
theorem eC {δ:DEnv}{i:Nat}(h:bc δ):bc (δ.set i none):=fun j e q=>by
 by_cases hj:i=j
 ·subst hj
  rw[List.getElem?_set]at q
  split at q
  ·split at q<;>cases q
  ·exact h i e q
 ·rw[List.getElem?_set_ne hj]at q
  exact h j e q
theorem Rel.updX {K:PySem.W.Frag}{B:Addr->Prop}{Hk H:Hp}{δ:DEnv}{σ:St}{l:Addr}{u o:HO}(R:Rel K B Hk δ σ H) (no:bc δ) (hk:Hk l=none) (hl:H l=some u) (mu:Mut (some u)):Ext B H (upd H l o)/\Rel K B Hk δ σ (upd H l o):=by
 have nb:¬B l:=fun z=>by obtain⟨o,q⟩:=R.bor l z;rw[hk]at q;contradiction
 have ex:Ext B H (upd H l o):=bj hl mu nb;refine⟨ex,R.same.put hk,R.bor,R.len,fun j e q=>?_,fun j e q=>(no j e q).elim,R.dis⟩
 obtain⟨v,q1,q2⟩:=R.var j e q;exact⟨v,q1,q2.ext ex⟩
section
variable{X:Cx}{ig ib ik ir:Nat}{xg xb xk xr:Str}{iter ke ve:Expr}{fi:DEnv->Option (List D)}{fk fe:DEnv->Option D}{p1 p2 p3 p4 p5 p6 p7 p8 p9 p10 p11 p12 p13 p14 p15 p16 p17 p18 ap cp:Pos}{kk:Nat}
end
noncomputable def leT (a b:Str):Bool:=!decide (b.cps.toList<a.cps.toList)
theorem dX (a b c:Str) (h1:leT a b=true) (h2:leT b c=true):leT a c=true:=by
 unfold leT at*;simp only[Bool.not_eq_true',decide_eq_false_iff_not]at*;exact List.le_trans h1 h2
theorem fy (a b:Str):(leT a b||leT b a)=true:=by
 unfold leT
 by_cases h:b.cps.toList<a.cps.toList
 ·have:¬a.cps.toList<b.cps.toList:=fun h'=>absurd (List.lt_trans h h') (List.lt_irrefl _)
  simp[this]
 ·simp[h]
theorem mZ (a b:Str) (h1:leT a b=true) (h2:leT b a=true):a=b:=by
 unfold leT at*;simp only[Bool.not_eq_true',decide_eq_false_iff_not]at*;exact Str.ext' (Array.toList_inj.mp (List.le_antisymm h1 h2))
noncomputable def eY (ss:List Str):List Str:=ss.mergeSort leT
theorem c9 (ss:List Str):(eY ss).Perm ss:=List.mergeSort_perm ss leT
theorem fZ:∀(l:List Str) (p:Str),risingS p l=true->(p::l).Pairwise (fun a b=>leT a b=true)
 |[],p,_=>by simp
 |x::r,p,h=>by
  have h':(!ltCps x.cps.toList p.cps.toList&&risingS x r)=true:=h;rw[Bool.and_eq_true,ltCps_eq]at h';have ih:=fZ r x h'.2;refine List.pairwise_cons.mpr ⟨fun y hy=>?_,ih⟩
  rcases List.mem_cons.mp hy with rfl|hy
  ·exact h'.1
  ·exact dX _ _ _ h'.1 ((List.pairwise_cons.mp ih).1 y hy)
theorem lm:∀(l:List Str),sortedS l=true->l.Pairwise (fun a b=>leT a b=true)
 |[],_=>.nil
 |x::r,h=>fZ r x h
theorem qw {ss ss':List Str}(hp:ss'.Perm ss) (hs:sortedS ss'=true):ss'=eY ss:=
 List.Perm.eq_of_pairwise (le:=fun a b=>leT a b=true) (fun a b _ _ h1 h2=>mZ a b h1 h2) (lm _ hs) (List.pairwise_mergeSort dX fy ss) (hp.trans (c9 ss).symm)
theorem gE {ss ss':List Str}(hp:ss'.Perm ss):eY ss'=eY ss:=
 List.Perm.eq_of_pairwise (le:=fun a b=>leT a b=true) (fun a b _ _ h1 h2=>mZ a b h1 h2) (List.pairwise_mergeSort dX fy ss') (List.pairwise_mergeSort dX fy ss) ((c9 ss').trans (hp.trans (c9 ss).symm))
theorem dO:∀{ss:List Str}{us:List Value},StrsAre us ss->Vals (ss.map V.str) us
 |_,_,.nil=>.nil
 |_,_,.cons x t h=>.cons ⟨t,rfl⟩ (dO h)
theorem j4 {K:PySem.W.Frag}{B:Addr->Prop}{H:Hp}:∀ss:List Str,Reps K B H (ss.map D.str) (ss.map V.str)
 |[]=>Reps.nil
 |x::ss=>Reps.cons (by simp only[Rep]) (j4 ss)
section
variable{X:Cx}
theorem j5 {pins:List (Addr×Obj)}{σ:St}{H:Hp}{s:Shared}{ss:List Str}{us:List Value}{Q:VK}{h1:Heap}{t1:Nat}(I:Inv X pins σ H s) (k1:∀b o,s.heap.get? b=some o->h1.get? b=some o) (hsz:s.heap.objs.size<=h1.objs.size)
  (v:StrsAre us ss) (h64:us.length<64) (q:∀l,H l=none->Q (.ref l) (upd H l (.lst ((eY ss).map V.str)))):
  wpAny (model X.prog X.w) X.A.in1 (do
   let l <-newList us
   let _ <-holding [l] (call (.builtin "list.sort") [l] [])
   ret l) (fun fin s'=>∃w,fin=.done (.ret w)/\EP X pins σ Q w s') X.xe {s with heap:=h1,toks:=t1}:=by
 have hz:us.length<=sizeLine:=by rw[sizeLine_eq];lia
 refine wpAny_bind (wpAny_newList ?_ hz)
 have g0:(h1.push (seqObj "list" us.toArray 0)).get? h1.objs.size=some (seqObj "list" us.toArray 0):=Heap.get?_push_size _ rfl
 have k2:∀b o,s.heap.get? b=some o->b≠h1.objs.size/\b<(h1.push (seqObj "list" us.toArray 0)).objs.size/\(h1.push (seqObj "list" us.toArray 0)).get? b=some o:=fun b o e=>
  ⟨Nat.ne_of_lt (Heap.lt_size (k1 b o e)),Heap.lt_size (Heap.get?_push_of_some _ (k1 b o e)),Heap.get?_push_of_some _ (k1 b o e)⟩
 refine wpAny_bind (wpAny_holding (wpAny_call_entry slot_list_sort ⟨_,g0,rfl⟩ entry_list_sort ?_ (args_list_sort _)))
 refine list_sort_treeK (s:={s with heap:=h1.push (seqObj "list" us.toArray 0),toks:=t1}) strKind_oneLt g0 v.keysOf (fun v₁ v₂ bC e=>keyKind_strs (by rw[<-e];exact v)) h64 fun st' hp hs=>?_
 obtain⟨ss',a1,a2,a3⟩:=sorted_out_str v hp hs;have e:=qw a2 a3;subst e;obtain⟨c,hc⟩:=sortedHeap_at (vs:=us) (out:=(arrOf st').map (·.2)) g0
 have hfr:H h1.objs.size=none:=I.hok.fresh hsz;have hl:((eY ss).map V.str).length<=sizeLine:=by
  have h1:=dO a1;have h2:=a2.length_eq;have h3:=(dO v).length;rw[List.length_map]at h3⊢
  lia
 refine⟨_,rfl,wpAny_pure ⟨_,rfl,.ref h1.objs.size,_,I.laid (a:=h1.objs.size) (o:=.lst ((eY ss).map V.str)) (h':=sortedHeap (h1.push (seqObj "list" us.toArray 0)) h1.objs.size us ((arrOf st').map (·.2))) (t':=t1) (fun b o e=>(sortedHeap_old (k2 b o e).1 (k2 b o e).2.1).trans (k2 b o e).2.2) hsz ?_,rfl,q _ hfr⟩⟩
 exact⟨hl,_,c,dO a1,by rw[Array.toArray_toList];exact hc⟩
theorem yp:∀ts:List (Str×Tok),StrsAre (ts.map fun p=>.str p.1 p.2) (ts.map (·.1))
 |[]=>.nil
 |p::ts=>.cons p.1 p.2 (yp ts)
theorem jB (hc:X.calm=true):fA X (.builtin "sorted") (fun xs H Q=>∃S us,xs=[.ref S]/\H S=some (se X.w S us)/\us.length<64/\∀l,H l=none->Q (.ref l) (upd H l (.lst ((eY us).map V.str)))):=by
 intro pins s σ H xs us Q I r h;obtain⟨S,ss,rfl,hS,h64,q⟩:=h;obtain⟨u,rfl,rx⟩:=jU r;cases rx;obtain⟨⟨ts1,p1,o,ep,t,ho,hex,hd,hf,hled,hpl⟩,_,_⟩:=I.hok S _ hS;have hl1:=p1.length_eq;rw[List.length_map]at hl1;have st:SetIs s.heap S (ts1.map (tE X.w)) ep t:=⟨⟨o,ho,hex,hd⟩,by simpa using hf⟩
 refine Calls.call_function_entry kind_sorted plain_sorted entry_sorted (args_sorted1 _) ?_
 unfold Builtin.«sorted»;refine wpAny_bind (m:=checkCount "sorted" 1 1 _) (wpAny_pure (wpAny_bind (lK (by simp[I.ok.hd hc]) st hled (hpl.imp (fun h=>by simp[h]) id) (by rw[List.length_map];lia) fun vs h' d tk hp hkeep hsz=>?_)))
 rw[List.map_map]at hp;obtain⟨ts2,p2,rfl⟩:=iD (fun p:Str×Tok=>Value.str p.1 p.2) hp ts1 rfl
 have hl2:=p2.length_eq;refine j5 (s:={s with drawn:=d}) (t1:=tk) (I.drawn d) hkeep hsz (yp ts2) (by rw[List.length_map];lia) fun l hl'=>?_
 rw[gE ((p2.map (·.1)).trans p1)]
 exact q l hl'
noncomputable def cY (x:Option D):Option D:=match x with
 |some (.lst ds)=>(match cJ ds with|some ss=>if ss.length<64 then some (.lst ((eY (uS ss)).map D.str)) else none|none=>none)
 |_=>none
variable{a:Expr}{fa:DEnv->Option D}{pos pos2 p p2:Pos}
theorem f6 {K:PySem.W.Frag}{B:Addr->Prop}{H:Hp}:∀{ss:List Str}{ys:List V},Reps K B H (ss.map D.str) ys->ys=ss.map V.str
 |[],ys,r=>r
 |x::ss,ys,r=>by
  obtain⟨y,rr,rfl,r1,r2⟩:=r;simp only[Rep]at r1;rw[r1,f6 r2];rfl
theorem hZ (hc:X.calm=true) (g:Gl X "sorted") (hm:X.mg "sorted"=none) (g2:Gl X "set") (hm2:X.mg "set"=none) (ha:DE X false a fa) (hs:starEach [a] X.env=[(false,eval a X.env)]:=by rfl)
  (hs2:starEach [.Call (.Name "set" p2) [a] [] pos2] X.env=[(false,eval (.Call (.Name "set" p2) [a] [] pos2) X.env)]:=by rfl):
  DF X (.Call (.Name "sorted" p) [.Call (.Name "set" p2) [a] [] pos2] [] pos) (fun δ=>cY (fa δ)):=
 (dg (jB hc) g hm fK (av (gd (qg hc) g2 hm2 xF (av ha aT hs) (he:=hs)) aT hs2) (he:=hs2)).imp fun σ H Q hz=>by
  obtain⟨B,Hk,δ,d,R,e,k⟩:=hz;unfold cY at e;split at e
  ·rename_i ds qd
   split at e
   ·rename_i us qu
    cases gJ qu
    by_cases cc:us.length<64
    ·rw[if_pos cc]at e;obtain rfl:=Option.some.inj e
     simp only[tCB,vT,tNil];refine⟨B,Hk,δ,_,R,qd,fun v H' s r=>?_⟩
     have R':=R.to s;simp only[Rep]at r;obtain⟨l,xs,rfl,hq,rs⟩:=r;cases f6 rs;refine⟨l,us,rfl,hq.sq,cc,fun S ss hS hnd hmem hlen=>?_⟩
     have s2:=az (o:=se X.w S ss) hS;refine⟨S,ss,rfl,ag,by lia,fun l' hl'=>?_⟩
     rw[gE ((List.perm_ext_iff_of_nodup hnd (e8 us)).mpr fun x=>(hmem x).trans (jY x us).symm)]
     have s3:=az (o:=.lst ((eY (uS us)).map V.str)) hl';exact k l' _ (s.trans (s2.trans s3)) (s.free (s2.free hl')) ⟨_,ag,j4 _⟩
    ·rw[if_neg cc]at e;contradiction
   ·contradiction
  ·contradiction
end
end L2
namespace L2
open PySem PySem.StrLaws
variable[Lams]
theorem t9 {i:Nat}{j:Int}{x:D}{δ:DEnv}{k:DEnv->Option Out}{ds es:List D}(h:δ[i]?=some (some (.tup ds,false))) (ha:atI ds j=some (.lst es)) (hl:es.length<lim):xh i (some (.int j)) (some x) δ k=k (δ.set i none):=by
 unfold xh;simp only[h,ha,if_pos hl]
noncomputable def sU (ss:List Str):List D:=(eY (uS ss)).map D.str
theorem jN {ss:List Str}(hu:ss.length<64):cY (some (.lst (ss.map D.str)))=some (.lst (sU ss)):=by
 unfold cY sU;simp only[qk,if_pos hu]
theorem cg (x y:Str):eqO (some (.str x)) (some (.str y))=some (decide (x=y)):=by
 rw[oX _ _ rfl];congr 1;simp
end L2
namespace L2
open PySem
variable[Lams]
noncomputable def ifV {α:Type}(c:Option Bool) (x y:Option α):Option α:=match c with|some true=>x|some false=>y|none=>none
noncomputable def zM (x y:Option D):Option D:=match tyB x with|some true=>y|some false=>some (.bl false)|none=>none
noncomputable def orV (x y:Option D):Option D:=match tyB x with|some true=>some (.bl true)|some false=>y|none=>none
section
variable{X:Cx}{m mm:Bool}{a b c:Expr}{bC:List Expr}{fa fb:DEnv->Option D}{fc:DEnv->Option Bool}{pos:Pos}
theorem vh (ha:DE X m a fa) (hb:DE X mm (.BoolOp .And (b::bC) pos) fb):DE X mm (.BoolOp .And (a::b::bC) pos) (fun δ=>zM (fa δ) (fb δ)):=yM ha hb
theorem zt (ha:DE X m a fa) (hb:DE X mm (.BoolOp .Or (b::bC) pos) fb):DE X mm (.BoolOp .Or (a::b::bC) pos) (fun δ=>orV (fa δ) (fb δ)):=AC ha hb
end
end L2
set_option tactic.hygienic false
namespace L2
open PySem PySem.Spec PyProof.Rows
variable[Lams]
noncomputable def DAt (K:PySem.W.Frag) (B:Addr->Prop) (Hk H:Hp) (l:Addr) (v:V) (d:D):Prop:=∃a,v=.ref a/\a≠l/\Hk a=none/\ObR K B H d a
inductive DL (K:PySem.W.Frag) (B:Addr->Prop) (Hk H:Hp) (l:Addr):List (D×V)->List (D×D)->Prop
 |nil:DL K B Hk H l [] []
 |cons {p:D×V}{q:D×D}{r:List (D×V)}{g:List (D×D)}(e:p.1=q.1) (h:DAt K B Hk H l p.2 q.2) (t:DL K B Hk H l r g):DL K B Hk H l (p::r) (q::g)
noncomputable def gv (g:List (D×D)) (k:D):Option D:=match g with
 |[]=>none
 |p::r=>if p.1=k then some p.2 else gv r k
noncomputable def uj (g:List (D×D)) (k d:D):List (D×D):=match g with
 |[]=>[]
 |p::r=>if p.1=k then(p.1,d)::r else p::uj r k d
section
variable{K:PySem.W.Frag}{B:Addr->Prop}{Hk H H':Hp}{l a:Addr}{kvs:List (D×V)}{g:List (D×D)}{k d:D}{v:V}
theorem DL.to (h:DL K B Hk H l kvs g) (f:∀p∈kvs,∀a d,p.2=.ref a->a≠l->Hk a=none->ObR K B H d a->ObR K B H' d a):DL K B Hk H' l kvs g:=by
 induction h with
 |nil=>exact .nil
 |cons e h t ih=>
  obtain⟨a,h1,h2,h3,h4⟩:=h;exact .cons e ⟨a,h1,h2,h3,f _ (List.mem_cons_self ..) a _ h1 h2 h3 h4⟩ (ih fun p hp=>f p (List.mem_cons_of_mem _ hp))
theorem DL.same (h:DL K B Hk H l kvs g) (s:Same H H') (b:∀a,B a->∃o:HOn,H a=some o.1):DL K B Hk H' l kvs g:=
 h.to fun p hp a d e _ _ ob=>ob.ext (s.ext b) fun o q n=>s.get a o n q
theorem DL.length (h:DL K B Hk H l kvs g):kvs.length=g.length:=by
 induction h with
 |nil=>rfl
 |cons e h t ih=>rw[List.length_cons,List.length_cons,ih]
theorem DL.keys (h:DL K B Hk H l kvs g):kvs.map (·.1)=g.map (·.1):=by
 induction h with
 |nil=>rfl
 |cons e h t ih=>rw[List.map_cons,List.map_cons,e,ih]
theorem DL.at (h:DL K B Hk H l kvs g) (e:bV kvs k=some v):∃d,gv g k=some d/\DAt K B Hk H l v d:=by
 induction h with
 |nil=>exact nomatch e
 |cons e1 h t ih=>
  unfold gv
  by_cases c:p.1=k
  ·rw[aO c]at e
   rw[if_pos (e1▸c),<-Option.some.inj e];exact⟨_,rfl,h⟩
  ·rw[aP c]at e
   rw[if_neg (e1▸c)];exact ih e
theorem DL.none (h:DL K B Hk H l kvs g) (e:bV kvs k=none):gv g k=none:=by
 induction h with
 |nil=>rfl
 |cons e1 h t ih=>
  unfold gv
  by_cases c:p.1=k
  ·rw[aO c]at e;exact nomatch e
  ·rw[aP c]at e
   rw[if_neg (e1▸c)];exact ih e
theorem DL.get (h:DL K B Hk H l kvs g) (e:gv g k=some d):∃a,bV kvs k=some (.ref a)/\a≠l/\Hk a=Option.none/\ObR K B H d a:=by
 cases q:bV kvs k with
 |none=>rw[h.none q]at e;exact nomatch e
 |some v=>
  obtain⟨d',e',a,rfl,h2,h3,h4⟩:=h.at q;rw[e]at e';exact⟨a,rfl,h2,h3,by rw[Option.some.inj e'];exact h4⟩
theorem DL.upd (h:DL K B Hk H l kvs g) (nd:(kvs.map (·.2)).Nodup) (e:bV kvs k=some (.ref a)) (new:ObR K B H' d a) (old:∀b d,b≠a->ObR K B H d b->ObR K B H' d b):DL K B Hk H' l kvs (uj g k d):=by
 induction h with
 |nil=>exact nomatch e
 |cons e1 h t ih=>
  rw[List.map_cons,List.nodup_cons]at nd;unfold uj
  by_cases c:p.1=k
  ·rw[aO c]at e
   have ea:=Option.some.inj e;rw[if_pos (e1▸c)];obtain⟨a',h1,h2,h3,h4⟩:=h;rw[ea]at h1;cases h1;exact .cons e1 ⟨a,ea,h2,h3,new⟩ (t.to fun p' hp' b d' e2 _ _ ob=>old b d' (fun z=>nd.1 (List.mem_map.mpr ⟨p',hp',by rw[e2,z,ea]⟩)) ob)
  ·rw[aP c]at e
   rw[if_neg (e1▸c)];obtain⟨a',h1,h2,h3,h4⟩:=h;refine .cons e1 ⟨a',h1,h2,h3,old _ _ (fun z=>?_) h4⟩ (ih nd.2 e)
   obtain⟨p',hp',e3,_⟩:=mq e;exact nd.1 (List.mem_map.mpr ⟨p',hp',by rw[e3,h1,z]⟩)
theorem DL.snoc (h:DL K B Hk H l kvs g) (i:DAt K B Hk H l v d):DL K B Hk H l (kvs++[(k,v)]) (g++[(k,d)]):=by
 induction h with
 |nil=>exact .cons rfl i .nil
 |cons e h t ih=>exact .cons e h ih
end
inductive DM (K:PySem.W.Frag) (B:Addr->Prop) (Hk H:Hp) (l:Addr):List (D×V)->List (D×D)->Prop
 |nil:DM K B Hk H l [] []
 |cons {p:D×V}{q:D×D}{r:List (D×V)}{g:List (D×D)}(e:p.1=q.1) (h:Rep K B H q.2 p.2\/DAt K B Hk H l p.2 q.2) (t:DM K B Hk H l r g):DM K B Hk H l (p::r) (q::g)
section
variable{K:PySem.W.Frag}{B:Addr->Prop}{Hk H H':Hp}{l a:Addr}{kvs:List (D×V)}{g:List (D×D)}{k d:D}{v:V}
theorem DL.m (h:DL K B Hk H l kvs g):DM K B Hk H l kvs g:=by
 induction h with
 |nil=>exact .nil
 |cons e h t ih=>exact .cons e (.inr h) ih
theorem DM.frz1 {b:Addr}{u:HO}{o:Obj}(h:DM K B Hk H l kvs g) (hx:H b=some u) (mu:Mut (some u)) (nb:¬B b):DM K B Hk (L2.upd H b (.frz o u)) l kvs g:=by
 induction h with
 |nil=>exact .nil
 |cons e h t ih=>
  refine .cons e ?_ ih
  rcases h with h|⟨a,h1,h2,h3,h4⟩
  ·exact .inl (h.ext (bj hx mu nb))
  ·by_cases c:a=b
   ·subst c
    rw[h1];exact .inl (h4.frozen hx nb fun _ z=>z)
   ·exact .inr ⟨a,h1,h2,h3,h4.ext (bj hx mu nb) fun o q _=>by rw[aj c];exact q⟩
theorem zZ {X:Cx}{pins:List (Addr×Obj)}{σ:St}{s:Shared}{ol:HO}(hB:∀a,B a->∃o:HOn,Hk a=some o.1):∀{kvs:List (D×V)}{g:List (D×D)}{H:Hp},Inv X pins σ H s->DM X.K B Hk H l kvs g->H l=some ol->
  ∃H',Inv X pins σ H' s/\Ext B H H'/\(∀c o o',Hk c=some o'->H c=some o->H' c=some o)/\H' l=some ol/\Reps X.K B H' (g.map (·.2)) (kvs.map (·.2))
 |_,_,H,I,.nil,hl=>⟨H,I,Ext.refl,fun _ _ _ _ q=>q,hl,Reps.nil⟩
 |_,_,H,I,.cons h2 h3 h4,hl=>by
  rcases h3 with h3|⟨a,e1,e2,e3,ob⟩
  ·obtain⟨H',I',e',k',l',r'⟩:=zZ hB I h4 hl
   exact⟨H',I',e',k',l',Reps.cons (h3.ext e') r'⟩
  ·obtain⟨u,hu,mu⟩:=ob.mut
   obtain⟨o,I1⟩:=I.frz hu mu;have nb:¬B a:=fun z=>by obtain⟨o',w⟩:=hB a z;rw[e3]at w;exact nomatch w
   have ex:Ext B H (upd H a (.frz o u)):=bj hu mu nb;obtain⟨H',I',e',k',l',r'⟩:=zZ hB I1 (h4.frz1 hu mu nb) (by rw[aj (Ne.symm e2)];exact hl)
   refine⟨H',I',ex.trans e',fun c o' o2 q1 q2=>k' c o' o2 q1 (by rw[aj (aG q1 e3)];exact q2),l',Reps.cons ?_ r'⟩
   dsimp only;rw[e1];exact(ob.frozen hu nb fun _ z=>z).ext e'
end
end L2
set_option tactic.hygienic false
namespace L2
open PySem PySem.Spec PyProof.Rows
variable[Lams]
theorem Rel.updY {K:PySem.W.Frag}{B:Addr->Prop}{Hk H:Hp}{δ:DEnv}{σ:St}{l:Addr}{u o:HO}(R:Rel K B Hk δ σ H) (no:∀(j:Nat) d,δ[j]?=some (some (d,true))->σ[j]?≠some (some (.ref l))) (hk:Hk l=none) (hl:H l=some u) (mu:Mut (some u)):Ext B H (upd H l o)/\Rel K B Hk δ σ (upd H l o):=by
 have nb:¬B l:=fun z=>by obtain⟨o,q⟩:=R.bor l z;rw[hk]at q;exact nomatch q
 have ex:Ext B H (upd H l o):=bj hl mu nb;refine⟨ex,R.same.put hk,R.bor,R.len,fun j e q=>?_,fun j e q=>?_,R.dis⟩
 ·obtain⟨v,q1,q2⟩:=R.var j e q;exact⟨v,q1,q2.ext ex⟩
 ·obtain⟨c,q1,q2,q3⟩:=R.own j e q
  have hc:c≠l:=fun z=>no j e q (z▸q1)
  exact⟨c,q1,q2,q3.ext ex fun o q _=>by rw[aj hc];exact q⟩
structure GS (K:PySem.W.Frag) (B:Addr->Prop) (Hk:Hp) (ig it l:Nat) (δ:DEnv) (σ:St) (H:Hp) (g:List (D×D)) (po:Option D):Prop where
 rel:Rel K B Hk δ σ H
 at':σ[ig]?=some (some (.ref l))
 hid:δ[ig]?=some none/\δ[it]?=some none
 new:Hk l=none
 dict:∃kvs ep,H l=some (.dD kvs ep)/\DL K B Hk H l kvs g/\(kvs.map (·.2)).Nodup/\(∀k,po=some k->∃a,σ[it]?=some (some (.ref a))/\bV kvs k=some (.ref a))/\
  ∀(j:Nat) d c,δ[j]?=some (some (d,true))->σ[j]?=some (some (.ref c))->c≠l/\V.ref c∉kvs.map (·.2)
section
variable{K:PySem.W.Frag}{B:Addr->Prop}{Hk H H':Hp}{ig it l:Nat}{δ:DEnv}{σ:St}{g:List (D×D)}{po:Option D}{k d:D}{v:V}
theorem GS.len (G:GS K B Hk ig it l δ σ H g po):δ.length=σ.length:=G.rel.len
theorem GS.same (G:GS K B Hk ig it l δ σ H g po) (s:Same H H'):GS K B Hk ig it l δ σ H' g po:=by
 obtain⟨kvs,ep,h1,h2,h3,h4,h5⟩:=G.dict;exact⟨G.rel.to s,G.at',G.hid,G.new,kvs,ep,s l _ h1,h2.same s G.rel.borH,h3,h4,h5⟩
theorem GS.set (G:GS K B Hk ig it l δ σ H g po) {i:Nat}(hi:i<σ.length) (hg:ig≠i) (ht:it≠i) (r:Rep K B H d v):GS K B Hk ig it l (δ.set i (some (d,false))) (σ.set i (some v)) H g po:=by
 obtain⟨kvs,ep,h1,h2,h3,h4,h5⟩:=G.dict;refine⟨G.rel.set hi r,by rw[List.getElem?_set_ne (Ne.symm hg)];exact G.at',?_,G.new,kvs,ep,h1,h2,h3,fun k e=>?_,fun j d' c e1 e2=>?_⟩
 ·rw[List.getElem?_set_ne (Ne.symm hg),List.getElem?_set_ne (Ne.symm ht)];exact G.hid
 ·rw[List.getElem?_set_ne (Ne.symm ht)];exact h4 k e
 ·by_cases hj:i=j
  ·subst hj
   rw[List.getElem?_set_self (by rw[G.len];exact hi)]at e1
   exact nomatch e1
  ·rw[List.getElem?_set_ne hj]at e1 e2
   exact h5 j d' c e1 e2
theorem GS.drop (G:GS K B Hk ig it l δ σ H g po):GS K B Hk ig it l δ σ H g none:=by
 obtain⟨kvs,ep,h1,h2,h3,h4,h5⟩:=G.dict;exact⟨G.rel,G.at',G.hid,G.new,kvs,ep,h1,h2,h3,fun k e=>(nomatch e),h5⟩
theorem GS.point (G:GS K B Hk ig it l δ σ H g po) {a:Addr}(hi:it<σ.length) (hg:ig≠it) (e:∃kvs ep,H l=some (.dD kvs ep)/\bV kvs k=some (.ref a)):GS K B Hk ig it l δ (σ.set it (some (.ref a))) H g (some k):=by
 obtain⟨kvs,ep,h1,h2,h3,h4,h5⟩:=G.dict;have R:=G.rel.unset (v:=.ref a) hi;have ed:δ.set it none=δ:=by
  refine List.ext_getElem? fun j=>?_
  by_cases hj:it=j
  ·subst hj;rw[List.getElem?_set_self (by rw[G.len];exact hi)];exact G.hid.2.symm
  ·rw[List.getElem?_set_ne hj]
 rw[ed]at R;refine⟨R,by rw[List.getElem?_set_ne (Ne.symm hg)];exact G.at',G.hid,G.new,kvs,ep,h1,h2,h3,fun k' e'=>?_,fun j d' c e1 e2=>?_⟩
 ·obtain rfl:=Option.some.inj e'
  obtain⟨kvs',ep',q1,q2⟩:=e;rw[h1]at q1;cases q1;exact⟨a,List.getElem?_set_self hi,q2⟩
 ·by_cases hj:it=j
  ·subst hj;rw[G.hid.2]at e1;exact nomatch e1
  ·rw[List.getElem?_set_ne hj]at e2
   exact h5 j d' c e1 e2
theorem GS.put (G:GS K B Hk ig it l δ σ H g po) {c:Addr}{kvs:List (D×V)}{ep:Nat}(hl:H l=some (.dD kvs ep)) (hc:DAt K B Hk H l (.ref c) d) (fr:.ref c∉kvs.map (·.2)) (fo:∀(j:Nat) d,δ[j]?=some (some (d,true))->σ[j]?≠some (some (.ref c))) (e:bV kvs k=none) (ep':Nat):
  Ext B H (upd H l (.dD (cF kvs k (.ref c)) ep'))/\GS K B Hk ig it l δ σ (upd H l (.dD (cF kvs k (.ref c)) ep')) (g++[(k,d)]) po:=by
 obtain⟨kvs',ep2,h1,dl,nd,h4,h5⟩:=G.dict;rw[hl]at h1;cases h1;obtain⟨ex,R'⟩:=G.rel.updY (o:=.dD (cF kvs k (.ref c)) ep') (fun j d' e1 e2=>(h5 j d' l e1 e2).1 rfl) G.new hl trivial
 have ev:(cF kvs k (.ref c)).map (·.2)=kvs.map (·.2)++[.ref c]:=by rw[mn _ e,List.map_append];rfl
 refine⟨ex,R',G.at',G.hid,G.new,_,ep',ag,?_,?_,fun k' e'=>?_,fun j d' b e1 e2=>?_⟩
 ·have:=(dl.snoc (k:=k) hc).to fun p hp a d' e1 e2 _ ob=>ob.ext ex fun o q _=>by rw[aj e2];exact q
  rw[<-mn _ e]at this;exact this
 ·rw[ev]
  refine List.nodup_append.mpr ⟨nd,by simp,fun x hx y hy z=>?_⟩
  obtain rfl:y=.ref c:=by simpa using hy
  exact fr (z▸hx)
 ·obtain⟨a,q1,q2⟩:=h4 k' e'
  refine⟨a,q1,?_⟩
  rw[sM,if_neg (fun z=>by subst z;rw[e]at q2;exact nomatch q2)]
  exact q2
 ·obtain⟨q1,q2⟩:=h5 j d' b e1 e2
  refine⟨q1,?_⟩
  rw[ev,List.mem_append,List.mem_singleton]
  rintro(z|z)
  ·exact q2 z
  ·cases z;exact fo j d' e1 e2
theorem GS.wr (G:GS K B Hk ig it l δ σ H g po) {a:Addr}{o:HO}(e:∃kvs ep,H l=some (.dD kvs ep)/\bV kvs k=some (.ref a)) (new:Ext B H (upd H a o)->ObR K B (upd H a o) d a):
  Ext B H (upd H a o)/\GS K B Hk ig it l δ σ (upd H a o) (uj g k d) po:=by
 obtain⟨kvs,ep,hl,dl,nd,h4,h5⟩:=G.dict;obtain⟨kvs',ep',q1,e⟩:=e;rw[hl]at q1;cases q1;obtain⟨d0,_,a',ea,h2,h3,ob⟩:=dl.at e;cases ea;obtain⟨u,hu,mu⟩:=ob.mut;obtain⟨p,hp,ep1,_⟩:=mq e;obtain⟨ex,R'⟩:=G.rel.updY (o:=o) (fun j d' e1 e2=>(h5 j d' a e1 e2).2 (List.mem_map.mpr ⟨p,hp,ep1⟩)) h3 hu mu
 exact⟨ex,R',G.at',G.hid,G.new,kvs,ep,by rw[aj (Ne.symm h2)];exact hl,dl.upd nd e (new ex) fun b d' hb ob'=>ob'.ext ex fun o' q _=>by rw[aj hb];exact q,nd,h4,h5⟩
end
noncomputable abbrev GF:=Option D->DEnv->List (D×D)->Option (DEnv×List (D×D))
noncomputable def tGS (K:PySem.W.Frag) (ig it:Nat) (F:GF):TS:=fun Dn σ H=>∃B Hk δ l g po δ' g',GS K B Hk ig it l δ σ H g po/\F po δ g=some (δ',g')/\∀σ' H',Ext B H H'->GS K B Hk ig it l δ' σ' H' g' po->Dn.nx σ' H'
noncomputable abbrev DGS (X:Cx) (ig it:Nat) (st:Stmt) (F:GF):Prop:=PS X st (tGS X.K ig it F)
noncomputable abbrev lN (X:Cx) (ig it:Nat) (sts:List Stmt) (F:GF):Prop:=PSs X sts (tGS X.K ig it F)
noncomputable def mz (F G:GF):GF:=fun po δ g=>ac (F po δ g) fun p=>G po p.1 p.2
noncomputable def gIf (c:DEnv->Option Bool) (F G:GF):GF:=fun po δ g=>match c δ with|some true=>F po δ g|some false=>G po δ g|none=>none
noncomputable def gSkip:GF:=fun _ δ g=>some (δ,g)
section
variable{X:Cx}{ig it:Nat}{st:Stmt}{sts sts':List Stmt}{F F':GF}{c:Expr}{fc:DEnv->Option Bool}{pos:Pos}
theorem iV:lN X ig it [] gSkip:=i7.imp fun Dn σ H hz=>by
 obtain⟨B,Hk,δ,l,g,po,δ',g',G,e,k⟩:=hz;obtain⟨rfl,rfl⟩:=Prod.mk.inj (Option.some.inj e);exact k σ H Ext.refl G
theorem b6 (h1:DGS X ig it st F) (h2:lN X ig it sts F'):lN X ig it (st::sts) (mz F F'):=(aZ h1 h2).imp fun Dn σ H hz=>by
 obtain⟨B,Hk,δ,l,g,po,δ',g',G,e,k⟩:=hz;obtain⟨⟨δ1,g1⟩,e1,e2⟩:=aa e;exact⟨B,Hk,δ,l,g,po,δ1,g1,G,e1,fun σ1 H1 x1 G1=>⟨B,Hk,δ1,l,g1,po,δ',g',G1,e2,fun σ2 H2 x2 G2=>k σ2 H2 (x1.trans x2) G2⟩⟩
theorem bn (h1:DGS X ig it st F):lN X ig it [st] F:=dv h1
theorem mD (hc:DT X c fc) (ha:lN X ig it sts F) (hb:lN X ig it sts' F'):DGS X ig it (.If c sts sts' pos) (gIf fc F F'):=(nY hc ha hb).imp fun Dn σ H hz=>by
 obtain⟨B,Hk,δ,l,g,po,δ',g',G,e,k⟩:=hz;unfold gIf at e;cases q:fc δ with
 |none=>rw[q]at e;exact nomatch e
 |some b=>
  rw[q]at e;refine⟨B,Hk,δ,b,G.rel,q,fun H1 s1=>?_⟩
  have x1:=G.rel.ext s1;cases b with
  |true=>exact⟨B,Hk,δ,l,g,po,δ',g',G.same s1,e,fun σ2 H2 x2 G2=>k σ2 H2 (x1.trans x2) G2⟩
  |false=>exact⟨B,Hk,δ,l,g,po,δ',g',G.same s1,e,fun σ2 H2 x2 G2=>k σ2 H2 (x1.trans x2) G2⟩
end
end L2
set_option tactic.hygienic false
namespace L2
open PySem PySem.Spec PyProof.Rows
variable[Lams]
noncomputable def tGG (K:PySem.W.Frag) (ig it:Nat) (τ:D->DEnv->Option DEnv):TG:=fun v σ H Q=>∃B Hk δ l g po d δ',GS K B Hk ig it l δ σ H g po/\Rep K B H d v/\τ d δ=some δ'/\∀σ',GS K B Hk ig it l δ' σ' H g po->Q σ' H
noncomputable abbrev DGG (X:Cx) (ig it:Nat) (tg:Expr) (τ:D->DEnv->Option DEnv):Prop:=PG X tg (tGG X.K ig it τ)
noncomputable def i9 (i j:Nat) (d:D) (δ:DEnv):Option DEnv:=match d with
 |.tup [x,y]=>if i<δ.length/\j<δ.length then some ((δ.set i (some (x,false))).set j (some (y,false))) else none
 |_=>none
theorem oB {i j:Nat}{d:D}{δ δ':DEnv}(h:i9 i j d δ=some δ'):∃x y,d=.tup [x,y]/\i<δ.length/\j<δ.length/\δ'=(δ.set i (some (x,false))).set j (some (y,false)):=by
 unfold i9 at h;split at h
 ·by_cases c:i<δ.length/\j<δ.length
  ·rw[if_pos c]at h;exact⟨_,_,rfl,c.1,c.2,(Option.some.inj h).symm⟩
  ·rw[if_neg c]at h;exact nomatch h
 ·exact nomatch h
section
variable{X:Cx}{ig it i j:Nat}{x y:Str}{px py pos:Pos}{kk:Nat}
theorem kT (hN:X.N.Nodup) (lx:Lc X i x) (hg:ig≠i) (ht:it≠i):DGG X ig it (.Name x px) (ae i):=(eG hN lx.at' lx.loc lx.fnl).imp fun v σ H Q hz=>by
 obtain⟨B,Hk,δ,l,g,po,d,δ',G,r,e,k⟩:=hz;unfold ae at e
 by_cases c:i<δ.length
 ·rw[if_pos c]at e
  obtain rfl:=Option.some.inj e;exact k _ (G.set (by rw[<-G.len];exact c) hg ht r)
 ·rw[if_neg c]at e;exact nomatch e
theorem oD (hN:X.N.Nodup) (hc:X.calm=true) (lx:Lc X i x) (ly:Lc X j y) (hg:ig≠i) (ht:it≠i) (hg':ig≠j) (ht':it≠j)
  (h1:(assignEach [.Name x px,.Name y py] X.env).map (·.2)=assign (.Name x px) X.env::(assignEach [.Name y py] X.env).map (·.2)) (h2:(assignEach [.Name y py] X.env).map (·.2)=assign (.Name y py) X.env::(assignEach [] X.env).map (·.2))
  (hn:(assignEach [.Name x px,.Name y py] X.env).length=2) (hst:(assignEach [.Name x px,.Name y py] X.env).findIdx? (·.1)=none):DGG X ig it (.Tuple [.Name x px,.Name y py] kk pos) (i9 i j):=
 (uf hc (ix (eG hN lx.at' lx.loc lx.fnl) (ix (eG hN ly.at' ly.loc ly.fnl) ql h2) h1) hn hst).imp fun v σ H Q hz=>by
  obtain⟨B,Hk,δ,l,g,po,d,δ',G,r,e,k⟩:=hz;obtain⟨dx,dy,rfl,l1,l2,rfl⟩:=oB e;simp only[Rep,Reps]at r;obtain⟨a,xs,rfl,hq,v1,r1,rfl,rx,v2,r2,rfl,ry,rfl⟩:=r;have hl:=G.len;exact⟨a,_,rfl,SqT.of hq,rfl,v1,_,rfl,v2,_,rfl,rfl,k _ ((G.set (by rw[<-hl];exact l1) hg ht rx).set (by rw[List.length_set,<-hl];exact l2) hg' ht' ry)⟩
end
noncomputable def cS (τ:D->DEnv->Option DEnv) (F:GF) (po:Option D):List D->DEnv->List (D×D)->Option (DEnv×List (D×D))
 |[],δ,g=>some (δ,g)
 |d::ds,δ,g=>ac (ac (τ d δ) fun δ1=>F po δ1 g) fun p=>cS τ F po ds p.1 p.2
noncomputable def kZ (fi:DEnv->Option (List D)) (τ:D->DEnv->Option DEnv) (F:GF):GF:=fun po δ g=>ac (fi δ) fun ds=>cS τ F po ds δ g
section
variable{X:Cx}{ig it i:Nat}{tg iter:Expr}{body:List Stmt}{F:GF}{τ:D->DEnv->Option DEnv}{fi:DEnv->Option (List D)}{pos:Pos}
theorem eJ (hp:PassesOwn (model X.prog X.w) X.A X.env X.xe) (hc:X.calm=true) (hi:DI X false tg iter fi) (hg:DGG X ig it tg τ) (hb:lN X ig it body F) (hs:∀x,foldedSetIterable iter X.env x=pure x):
  DGS X ig it (.For tg iter body [] pos) (kZ fi τ F):=
 (mW hp hc hi hg hb hs).imp fun Dn σ H hz=>by
  obtain⟨B,Hk,δ,l,g,po,δz,gz,G,e,k⟩:=hz;obtain⟨ds,e1,e2⟩:=aa e;refine⟨B,Hk,δ,ds,G.rel,e1,fun J H1 s1 it'=>?_⟩
  have it1:ItD X.K B H1 J ds:=it';refine⟨fun i n σ' H'=>n=ds.length - i/\i<=ds.length/\Ext B H1 H'/\∃δ' g',GS X.K B Hk ig it l δ' σ' H' g' po/\cS τ F po (ds.drop i) δ' g'=some (δz,gz),
   ⟨ds.length,by simp,Nat.zero_le _,Ext.refl,δ,g,G.same s1,e2⟩,?_⟩
  rintro i n σ' H' hz
  obtain⟨rfl,hi,x,δ',g',G',e'⟩:=hz;obtain⟨hst,hgo⟩:=it1 H' x
  by_cases hlt:i<ds.length
  ·obtain⟨go,yl⟩:=hgo i ds[i] (List.getElem?_eq_getElem hlt)
   refine .inr ⟨go,fun σ2 H2=>Ext B H1 H2/\∃δ' g',GS X.K B Hk ig it l δ' σ2 H2 g' po/\cS τ F po (ds.drop (i+1)) δ' g'=some (δz,gz),fun σ2 H2 z=>⟨_,by lia,rfl,hlt,z⟩,fun v H2 hy=>?_⟩
   obtain⟨sy,rv⟩:=yl v H2 hy
   replace x:=x.trans (G'.rel.ext sy)
   replace G':=G'.same sy
   rw[List.drop_eq_getElem_cons hlt]at e';obtain⟨⟨δ2,g2⟩,q1,q2⟩:=aa e';obtain⟨δ1,q3,q4⟩:=aa q1;exact⟨B,Hk,δ',l,g',po,ds[i],δ1,G',rv,q3,fun σ3 G3=>⟨B,Hk,δ1,l,g',po,δ2,g2,G3,q4,fun σ4 H4 x4 G4=>⟨x.trans x4,δ2,g2,G4,q2⟩⟩⟩
  ·have hi':i=ds.length:=by lia
   subst hi';rw[List.drop_length]at e';obtain⟨rfl,rfl⟩:=Prod.mk.inj (Option.some.inj e');exact .inl ⟨hst,k σ' H' ((G.rel.ext s1).trans x) G'⟩
end
noncomputable def tSF (K:PySem.W.Frag) (i:Nat) (f:DEnv->Option D):TS:=fun Dn σ H=>∃B Hk δ d,Rel K B Hk δ σ H/\f δ=some d/\∀a H',Same H H'->Rep K B H' d (.ref a)->Dn.nx (σ.set i (some (.ref a))) H'
theorem mj {X:Cx}{st:Stmt}{t:TS}(h:PS X st t):PS X st (fun Dn σ H=>t {Dn with nx:=fun σ' H1=>∃a u,H1 a=some u/\Mut (some u)/\∀o,Dn.nx σ' (upd H1 a (.frz o u))} σ H):=by
 intro pins s σ H Dn I hq;refine thn (h pins s σ H _ I hq) fun f s' hz=>?_
 cases f with
 |next=>
  obtain⟨σ',H1,I1,a,u,hu,mu,k⟩:=hz;obtain⟨o,I2⟩:=I1.frz hu mu;exact⟨σ',_,I2,k o⟩
 |brk=>exact hz
 |cont=>exact hz
 |ret v=>exact hz
section
variable{X:Cx}{ig it i:Nat}{x:Str}{e:Expr}{st:Stmt}{f:DEnv->Option D}{pos pos':Pos}
theorem uO {K:PySem.W.Frag}{B:Addr->Prop}{Hk H H1:Hp}{δ:DEnv}{σ:St}{d:D}{a:Addr}{N:V->Hp->Prop}(R:Rel K B Hk δ σ H) (s:Same H H1) (hn:H a=none) (ob:ObR K B H1 d a) (k:∀a H',Same H H'->Rep K B H' d (.ref a)->N (.ref a) H'):
  ∃c u,H1 c=some u/\Mut (some u)/\∀o,N (.ref a) (upd H1 c (.frz o u)):=by
 obtain⟨u,hu,mu⟩:=ob.mut;refine⟨a,u,hu,mu,fun o=>k a _ (s.put hn) (ob.frozen hu (fun z=>?_) fun _ z=>z)⟩
 obtain⟨o,q⟩:=R.borH a z;rw[hn]at q;exact nomatch q
theorem qH (hN:X.N.Nodup) (lx:Lc X i x) (he:DF X e f) (hs:swapsWith e (some (.Name x pos')) pos.line X.env=pure false):PS X (.Assign [.Name x pos'] e pos) (tSF X.K i f):=
 (mj (cV hN lx.at' lx.loc he hs lx.fnl)).imp fun Dn σ H hz=>by
  obtain⟨B,Hk,δ,d,R,e,k⟩:=hz;exact⟨B,Hk,δ,d,R,e,fun a H1 s hn ob=>uO (N:=fun v H'=>Dn.nx (σ.set i (some v)) H') R s hn ob k⟩
noncomputable def rJ (i:Nat) (f:DEnv->Option D):GF:=fun _ δ g=>match f δ with|some d=>if i<δ.length then some (δ.set i (some (d,false)),g) else none|none=>none
theorem f8 (h:PS X st (tSF X.K i f)) (hg:ig≠i) (ht:it≠i):DGS X ig it st (rJ i f):=h.imp fun Dn σ H hz=>by
 obtain⟨B,Hk,δ,l,g,po,δz,gz,G,e,k⟩:=hz;unfold rJ at e;cases q:f δ with
 |none=>rw[q]at e;exact nomatch e
 |some d=>
  rw[q]at e
  by_cases c:i<δ.length
  ·simp only[if_pos c]at e
   obtain⟨rfl,rfl⟩:=Prod.mk.inj (Option.some.inj e);exact⟨B,Hk,δ,d,G.rel,q,fun a H' s r=>k _ H' (G.rel.ext s) ((G.same s).set (by rw[<-G.len];exact c) hg ht r)⟩
  ·simp only[if_neg c]at e;exact nomatch e
end
section
variable{X:Cx}{ig it i:Nat}{pos:Pos}{tg iter elt:Expr}{ifs:List Expr}{scope:Scope}{bs:List Bool}{τ:D->DEnv->Option DEnv}{fi:DEnv->Option (List D)}{ft:DEnv->Option Bool}{fe:DEnv->Option D}
theorem pR {i:Nat}{y:Str}{py spos:Pos}(hN:X.N.Nodup) (hc:X.calm=true) (hτ:Anew τ) (hi:DI X false tg iter fi) (S:CompScope X scope bs)
  (hg:∀cl C s₂ H₂ ex pn,DG (aI X scope cl C s₂ H₂ ex pn) tg τ) (ht:∀cl C s₂ H₂ ex pn,DTs (aI X scope cl C s₂ H₂ ex pn) ifs ft) (he:∀cl C s₂ H₂ ex pn,DE (aI X scope cl C s₂ H₂ ex pn) false elt fe)
  (hiN:X.N[i]?=some y) (hy:X.env.scope.names.lookup y=some .local)
  (hsw:swapsWith (.ListComp elt [⟨tg,iter,ifs,0⟩] scope pos) (some (.Name y py)) spos.line X.env=pure true)
  (hs:∀x,foldedSetIterable iter X.env x=pure x):PS X (.Assign [.Name y py] (.ListComp elt [⟨tg,iter,ifs,0⟩] scope pos) spos) (tSF X.K i (fun δ=>aJ (ac (fi δ) (dG false bs τ ft fe δ)))):=by
 intro pins s σ H Dn I hz;obtain⟨B,Hk,δ,d,R,e,k⟩:=hz;cases q:ac (fi δ) (dG false bs τ ft fe δ)with
 |none=>simp only[q,aJ]at e;contradiction
 |some ls=>
  simp only[q,aJ]at e;obtain rfl:=Option.some.inj e;obtain⟨ds,e1,e2⟩:=aa q;exact mj (pv hc hi S hg ht he hN hiN hy hsw hs) pins s σ H Dn I (fN (Q:=fun x H1=>iQ i x σ H1 _) hτ (by rw[S.len,I.len]) R e1 e2 fun a H' s n ob=>uO (d:=.lst ls) (N:=fun v H'=>Dn.nx (σ.set i (some v)) H') R s n ob k)
end
end L2
set_option tactic.hygienic false
namespace L2
open PySem PySem.Spec PyProof.Rows
variable[Lams]
theorem DL.mem {K:PySem.W.Frag}{B:Addr->Prop}{Hk H:Hp}{l:Addr}{kvs:List (D×V)}{g:List (D×D)}{p:D×V}(h:DL K B Hk H l kvs g) (hp:p∈kvs):∃d,DAt K B Hk H l p.2 d:=by
 induction h with
 |nil=>exact nomatch hp
 |cons e h t ih=>
  rcases List.mem_cons.mp hp with rfl|hp
  ·exact⟨_,h⟩
  ·exact ih hp
theorem DL.fresh {K:PySem.W.Frag}{B:Addr->Prop}{Hk H:Hp}{l c:Addr}{kvs:List (D×V)}{g:List (D×D)}(h:DL K B Hk H l kvs g) (hc:H c=Option.none):V.ref c∉kvs.map (·.2):=fun hm=>by
 obtain⟨p,hp,e⟩:=List.mem_map.mp hm;obtain⟨d,a,e1,_,_,ob⟩:=h.mem hp;rw[e]at e1;cases e1;obtain⟨o,q⟩:=ob.there;rw[hc]at q;exact nomatch q
theorem Rel.fresh {K:PySem.W.Frag}{B:Addr->Prop}{Hk H:Hp}{δ:DEnv}{σ:St}{c:Addr}(R:Rel K B Hk δ σ H) (hc:H c=none) (j:Nat) (d:D) (e:δ[j]?=some (some (d,true))):σ[j]?≠some (some (.ref c)):=fun q=>by
 obtain⟨a,e1,_,ob⟩:=R.own j d e;rw[q]at e1;cases e1;obtain⟨o,q⟩:=ob.there;rw[hc]at q;exact nomatch q
noncomputable def ji (ik:Nat) (δ:DEnv):Option D:=match rd false ik δ with|some k=>if(bL 8 k&&nW k)=true then some k else none|none=>none
theorem xH {i:Nat}{δ:DEnv}{d:D}(h:rd false i δ=some d):δ[i]?=some (some (d,false)):=by
 unfold rd at h;split at h
 ·cases o with
  |true=>exact nomatch h
  |false=>rw[<-Option.some.inj h];assumption
 ·exact nomatch h
theorem ky {ik:Nat}{δ:DEnv}{k:D}(h:ji ik δ=some k):δ[ik]?=some (some (k,false))/\bL 8 k=true/\nW k=true:=by
 unfold ji at h;cases q:rd false ik δ with
 |none=>rw[q]at h;exact nomatch h
 |some k'=>
  rw[q]at h
  by_cases c:(bL 8 k'&&nW k')=true
  ·simp only[if_pos c]at h
   obtain rfl:=Option.some.inj h;rw[Bool.and_eq_true]at c;exact⟨xH q,c⟩
  ·simp only[if_neg c]at h;exact nomatch h
noncomputable def zF (ik:Nat):GF:=fun _ δ g=>ac (ji ik δ) fun k=>match gv g k with|some _=>some (δ,g)|none=>if g.length<lim then some (δ,g++[(k,.dD [] [])]) else none
section
variable{X:Cx}{ig it ik:Nat}{xg xk xt:Str}{p1 p2 p3 ap cp pos:Pos}
theorem GS.key {K:PySem.W.Frag}{B:Addr->Prop}{Hk H:Hp}{ig it l:Nat}{δ:DEnv}{σ:St}{g:List (D×D)}{po:Option D}{kd:D}{ik:Nat}(G:GS K B Hk ig it l δ σ H g po) (h:ji ik δ=some kd):∃b,σ[ik]?=some (some (.ref b))/\Rep K B H kd (.ref b)/\bL 8 kd=true:=by
 obtain⟨h1,h2,h3⟩:=ky h;obtain⟨v,e,r⟩:=G.rel.var ik kd h1;obtain⟨b,rfl⟩:=cy h3 r;exact⟨b,e,r,h2⟩
theorem vI (hu:X.A.units+64<cLine) (ng:Nm X ig xg) (nk:Nm X ik xk)
  (base:attributeBase (.Name xg p1) "setdefault" X.env (eval (.Name xg p1) X.env)=eval (.Name xg p1) X.env)
  (few:((backTo cp (starEach [.Name xk p2,.Dict [] [] p3] X.env)).all (fun x=>!x.1)&&(backToKw cp (keywordEach [] X.env)).all (fun x=>x.1.isSome)&&decide (([Expr.Name xk p2,.Dict [] [] p3]).length+([]:List Keyword).length+(if([]:List Keyword).isEmpty then 0 else 1)<30))=true)
  (line:(ap.endLine==cp.line)=true) (stars:starEach [.Name xk p2,.Dict [] [] p3] X.env=(false,eval (.Name xk p2) X.env)::starEach [.Dict [] [] p3] X.env) (stars2:starEach [.Dict [] [] p3] X.env=[(false,eval (.Dict [] [] p3) X.env)]) (plain:(backTo cp (starEach [.Dict [] [] p3] X.env)).any (·.1)=false)
  (hs:swapsWith (.Call (.Attribute (.Name xg p1) "setdefault" ap) [.Name xk p2,.Dict [] [] p3] [] cp) none pos.line X.env=pure false):
  DGS X ig it (.Expr (.Call (.Attribute (.Name xg p1) "setdefault" ap) [.Name xk p2,.Dict [] [] p3] [] cp) pos) (zF ik):=
 (dz (qD PySem.F.slot_dict_setdefault PySem.F.type_dict_setdefault (jM hu) (aL ng.at' ng.vis ng.d1 ng.d2) (av (aL nk.at' nk.vis nk.d1 nk.d2) (av iM aT stars2) stars) base few line stars plain) hs).imp fun Dn σ H hz=>by
  obtain⟨B,Hk,δ,l,g,po,δz,gz,G,e,k⟩:=hz;obtain⟨kd,e0,e⟩:=aa e;obtain⟨b,σk,rk,k8⟩:=G.key e0;obtain⟨kvs,ep,hl,dl,nd,h4,h5⟩:=G.dict;refine⟨.ref l,G.at',⟨l,rfl,.inr ⟨kvs,ep,.inl hl⟩⟩,.ref b,σk,fun c hc=>?_⟩
  have cl:c≠l:=fun z=>by subst z;rw[hl]at hc;exact nomatch hc
  have sc:=az (o:=.dD [] 0) hc;have G1:=G.same sc;have hlc:upd H c (.dD [] 0) l=some (.dD kvs ep):=sc l _ hl;have krc:KR (upd H c (.dD [] 0)) kd (.ref b):=(rk.ext (G.rel.ext sc)).key k8;cases hv:bV kvs kd with
  |some w=>
   obtain⟨d0,q0,_⟩:=dl.at hv;simp only[q0]at e;obtain⟨rfl,rfl⟩:=Prod.mk.inj (Option.some.inj e);exact⟨l,.ref b,.ref c,w,rfl,rfl,.inl ⟨.inr ⟨kvs,ep,kd,b,.inl hlc,rfl,k8,krc,hv.symm⟩,k σ _ (G.rel.ext sc) G1,.inr ⟨kvs,ep,hlc⟩⟩⟩
  |none=>
   simp only[dl.none hv]at e
   by_cases hn:g.length<lim
   ·simp only[if_pos hn]at e
    obtain⟨rfl,rfl⟩:=Prod.mk.inj (Option.some.inj e);refine⟨l,.ref b,.ref c,.ref c,rfl,rfl,.inr ⟨.inr ⟨kvs,ep,kd,b,.inl hlc,rfl,k8,krc,hv.symm⟩,rfl,.inr ⟨kvs,ep,kd,b,hlc,rfl,k8,krc,?_,fun ep'=>?_⟩⟩⟩
    ·rw[dl.length];exact Nat.lt_of_lt_of_le hn (aH (Nat.le_refl _))
    ·obtain⟨x5,G5⟩:=G1.put (d:=.dD [] []) (c:=c) hlc ⟨c,rfl,cl,G.rel.same.free hc,[],⟨0,ag⟩,rfl,Reps.nil⟩ (dl.fresh hc) (G.rel.fresh hc) hv ep'
     exact k σ _ ((G.rel.ext sc).trans x5) G5
   ·simp only[if_neg hn]at e;exact nomatch e
noncomputable def gC (ik:Nat) (F:GF):GF:=fun po δ g=>match po with|none=>ac (ji ik δ) fun k=>(match gv g k with|some _=>F (some k) δ g|none=>none)|some _=>none
theorem p0 {bC:List Stmt}{F:GF}(hu:X.A.units+64<cLine) (hN:X.N.Nodup) (ng:Nm X ig xg) (nk:Nm X ik xk) (lt:Lc X it xt) (hgt:ig≠it) (hsl:xj (.Name xk p3)) (hsw:swapsWith (.Subscript (.Name xg p2) (.Name xk p3) ap) (some (.Name xt p1)) pos.line X.env=pure false) (hb:lN X ig it bC F):
  lN X ig it (.Assign [.Name xt p1] (.Subscript (.Name xg p2) (.Name xk p3) ap) pos::bC) (gC ik F):=
 (aZ (cV hN lt.at' lt.loc (ff hu (aL ng.at' ng.vis ng.d1 ng.d2) (aL nk.at' nk.vis nk.d1 nk.d2) hsl) hsw lt.fnl) hb).imp fun Dn σ H hz=>by
  obtain⟨B,Hk,δ,l,g,po,δz,gz,G,e,k⟩:=hz;cases po with
  |some _=>exact nomatch e
  |none=>
   obtain⟨kd,e0,e⟩:=aa (show ac (ji ik δ) _=_ from e)
   obtain⟨b,σk,rk,k8⟩:=G.key e0;cases q:gv g kd with
   |none=>simp only[q]at e;exact nomatch e
   |some d0=>
    simp only[q]at e;obtain⟨kvs,ep,hl,dl,nd,h4,h5⟩:=G.dict;obtain⟨a,hv,_⟩:=dl.get q;refine⟨.ref l,G.at',.ref b,σk,l,.ref a,rfl,.inr ⟨kvs,ep,kd,b,.inl hl,rfl,k8,rk.key k8,hv.symm⟩,?_⟩
    exact⟨B,Hk,δ,l,g,some kd,δz,gz,G.point (by rw[<-G.len];exact(List.getElem?_eq_some_iff.mp G.hid.2).1) hgt ⟨kvs,ep,hl,hv⟩,e,fun σ' H' x G'=>k σ' H' x G'.drop⟩
end
section
variable{X:Cx}{ig it ik:Nat}{xg xk xt:Str}{p1 p2 p3 ap cp pos:Pos}{b c:Expr}{fb fc:DEnv->Option D}{m:Bool}
theorem GS.held {K:PySem.W.Frag}{B:Addr->Prop}{Hk H:Hp}{ig it l:Nat}{δ:DEnv}{σ:St}{g:List (D×D)}{k d:D}(G:GS K B Hk ig it l δ σ H g (some k)) (q:gv g k=some d):∃a,σ[it]?=some (some (.ref a))/\(∃kvs ep,H l=some (.dD kvs ep)/\bV kvs k=some (.ref a))/\ObR K B H d a:=by
 obtain⟨kvs,ep,hl,dl,nd,h4,h5⟩:=G.dict;obtain⟨a,e1,e2⟩:=h4 k rfl;obtain⟨a',hv,_,_,ob⟩:=dl.get q;rw[e2]at hv;cases Option.some.inj hv;exact⟨a,e1,⟨kvs,ep,hl,e2⟩,ob⟩
noncomputable def rF (fb fc:DEnv->Option D):GF:=fun po δ g=>match po with|some k=>ac (gv g k) fun x=>ac (fb δ) fun y=>ac (fc δ) fun v=>ac (cU x y v) fun x'=>some (δ,uj g k x')|none=>none
theorem vA (hu:X.A.units+64<cLine) (nt:Nm X it xt) (hb:DE X false b fb) (hv:DE X false c fc) (hs:swapsWith c (some (.Subscript (.Name xt p1) b p2)) pos.line X.env=pure false):
  DGS X ig it (.Assign [.Subscript (.Name xt p1) b p2] c pos) (rF fb fc):=
 (h8 hu (aL nt.at' nt.vis nt.d1 nt.d2) hb hv hs).imp fun Dn σ H hz=>by
  obtain⟨B,Hk,δ,l,g,po,δz,gz,G,e,k⟩:=hz;cases po with
  |none=>exact nomatch e
  |some kd=>
   obtain⟨x0,q0,e⟩:=aa (show ac (gv g kd) _=_ from e)
   obtain⟨y,qb,e⟩:=aa e;obtain⟨v,qc,e⟩:=aa e;obtain⟨x',qx,e⟩:=aa e;obtain⟨rfl,rfl⟩:=Prod.mk.inj (Option.some.inj e);refine⟨B,Hk,δ,v,G.rel,qc,fun z H1 s1 rz=>?_⟩
   have G1:=G.same s1;obtain⟨a,σt,ea,ob⟩:=G1.held q0;refine⟨.ref a,σt,B,Hk,δ,y,G1.rel,qb,fun u H2 s2 rk=>?_⟩
   have G2:=G1.same s2;obtain⟨a',σt',ea,ob⟩:=G2.held q0;rw[σt]at σt';cases σt';refine⟨a,rfl,iu qx ob rk (rz.ext (G1.rel.ext s2)) fun ho new=>?_⟩
   obtain⟨x1,G3⟩:=G2.wr ea new;exact k σ _ ((G.rel.ext (s1.trans s2)).trans x1) G3
noncomputable def gSd (fb fc:DEnv->Option D):GF:=fun po δ g=>match po with|some k=>ac (gv g k) fun x=>ac (fb δ) fun y=>ac (fc δ) fun v=>ac (cO (some x) (some y)) fun o=>(match o with|some _=>some (δ,g)|none=>ac (cU x y v) fun x'=>some (δ,uj g k x'))|none=>none
theorem zy (hu:X.A.units+64<cLine) (nt:Nm X it xt) (hb:DE X false b fb) (hc:DE X false c fc)
  (base:attributeBase (.Name xt p1) "setdefault" X.env (eval (.Name xt p1) X.env)=eval (.Name xt p1) X.env)
  (few:((backTo cp (starEach [b,c] X.env)).all (fun x=>!x.1)&&(backToKw cp (keywordEach [] X.env)).all (fun x=>x.1.isSome)&&decide (([b,c]).length+([]:List Keyword).length+(if([]:List Keyword).isEmpty then 0 else 1)<30))=true)
  (line:(ap.endLine==cp.line)=true) (stars:starEach [b,c] X.env=(false,eval b X.env)::starEach [c] X.env) (stars2:starEach [c] X.env=[(false,eval c X.env)]) (plain:(backTo cp (starEach [c] X.env)).any (·.1)=false)
  (hs:swapsWith (.Call (.Attribute (.Name xt p1) "setdefault" ap) [b,c] [] cp) none pos.line X.env=pure false):
  DGS X ig it (.Expr (.Call (.Attribute (.Name xt p1) "setdefault" ap) [b,c] [] cp) pos) (gSd fb fc):=
 (dz (qD PySem.F.slot_dict_setdefault PySem.F.type_dict_setdefault (jM hu) (aL nt.at' nt.vis nt.d1 nt.d2) (av hb (av hc aT stars2) stars) base few line stars plain) hs).imp fun Dn σ H hz=>by
  obtain⟨B,Hk,δ,l,g,po,δz,gz,G,e,k⟩:=hz;cases po with
  |none=>exact nomatch e
  |some kd=>
   obtain⟨x0,q0,e⟩:=aa (show ac (gv g kd) _=_ from e)
   obtain⟨y,qb,e⟩:=aa e;obtain⟨v,qc,e⟩:=aa e;obtain⟨og,hog,e⟩:=aa e;obtain⟨a,σt,ea,ob⟩:=G.held q0;refine⟨.ref a,σt,(ob.dictAt (v:=v) (y:=x0) hog).1,two (m:=false) (m':=false) G.rel qb qc fun u z H' s R' r1 r2=>?_⟩
   have G':=G.same s;obtain⟨a',σt',ea,ob'⟩:=G'.held q0;rw[σt]at σt';cases σt';have ow:=(ob'.dictAt (v:=v) (y:=x0) hog).2;obtain⟨rr,gg,gs,gz⟩:=ob'.get hog r1;cases og with
   |some dd=>
    obtain⟨rfl,rfl⟩:=Prod.mk.inj (Option.some.inj e);obtain⟨w,rfl,rw'⟩:=gz _ rfl;exact⟨a,u,z,w,rfl,rfl,.inl ⟨gg,k σ H' (G.rel.ext s) G',ow⟩⟩
   |none=>
    obtain⟨x',qx,e⟩:=aa (show ac (cU x0 y v) _=_ from e)
    obtain⟨rfl,rfl⟩:=Prod.mk.inj (Option.some.inj e);have hr:rr=none:=by cases rr with
     |none=>rfl
     |some _=>simp at gs
    subst hr;refine⟨a,u,z,z,rfl,rfl,.inr ⟨gg,rfl,iu qx ob' r1 r2 fun ho new=>?_⟩⟩
    obtain⟨x1,G3⟩:=G'.wr ea new;exact k σ _ ((G.rel.ext s).trans x1) G3
end
end L2
set_option tactic.hygienic false
namespace L2
open PySem PySem.Spec PyProof.Rows
variable[Lams]
noncomputable def vg (K:PySem.W.Frag) (B:Addr->Prop) (Hk H:Hp) (l:Addr) (g:List (D×D)):Prop:=∃kvs ep,H l=some (.dD kvs ep)/\DL K B Hk H l kvs g/\(kvs.map (·.2)).Nodup
noncomputable def spG (K:PySem.W.Frag) (f:D->List (D×D)->Option (List (D×D))):Sp:=fun vs H Q _=>∃B Hk l v d g g',vs=[.ref l,v]/\(∀a,B a->∃o:HOn,Hk a=some o.1)/\Same Hk H/\Hk l=none/\vg K B Hk H l g/\Rep K B H d v/\f d g=some g'/\
 ∀H',Ext B H H'->Same Hk H'->vg K B Hk H' l g'->Q .non H'
structure FnG (P:Program) (w:World) (K:PySem.W.Frag) (mg:Str->Option Value) (base:Heap) (k:Nat) (x:Str) (f:D->List (D×D)->Option (List (D×D))):Prop where
 ex:∃(p:Addr) (fd:FuncData) (ps:List Str),FnOk P w K mg base CX0 k p fd ps (spG K f)/\mg x=some (.ref p)/\PySem.W.keepIn K (.ref p)=true/\Binds K fd ps []
noncomputable def dn (n:Nat) (d:D):DEnv:=none::some (d,false)::List.replicate (n - 2) none
noncomputable def Am (n:Nat) (F:GF) (d:D) (g:List (D×D)):Option (List (D×D)):=ac (F none (dn n d) g) fun p=>some p.2
section
variable{P:Program}{w:World}{K:PySem.W.Frag}{mg:Str->Option Value}{base:Heap}
theorem c6 {n j:Nat}{d e:D}{b:Bool}(h:(dn n d)[j]?=some (some (e,b))):j=1/\e=d/\b=false:=by
 unfold dn at h;cases j with
 |zero=>exact nomatch h
 |succ j=>
  cases j with
  |zero=>cases h;exact⟨rfl,rfl,rfl⟩
  |succ j=>
   simp only[List.getElem?_cons_succ,List.getElem?_replicate]at h
   split at h<;>cases h
theorem xP {x qual:Str}{st:Stmt}{f:Addr}{fd:FuncData}{N ps:List Str}{k it:Nat}{G:GF}(F:Fun K x qual st f fd) (S:FnScope N ps (ai st)) (hb:Binds K fd ps []) (hm:mg x=some (.ref f)) (hp:ps.length=2) (hn:2<=it) (hn':it<N.length)
  (body:∀(cdv:Value) (A:Around) (outer:List Env) (s:Shared) (H:Hp) (E:XK),Room k (A.deeper (envOfC qual (ai st) s.heap.objs.size f cdv))->lN (kD CX0 P w K mg base N qual (ai st) f cdv A outer s H E).nox 0 it (aN st) G):
  FnG P w K mg base (k+1) x (Am N.length G):=by
 have key:FnOk P w K mg base CX0 (k+1) f fd ps (spG K (Am N.length G)):=by
  refine F.ok S (fun vs H Q E h=>?_) (fun cdv A outer s H vs Q E hr h=>?_)
  ·obtain⟨B,Hk,l,v,d,g,g',rfl,_⟩:=h
   exact hp.symm
  ·obtain⟨B,Hk,l,v,d,g,g',rfl,hB,hs,hl,⟨kvs,ep,d1,d2,d3⟩,r,e,kk⟩:=h
   refine⟨_,body cdv A outer s H E hr,?_⟩
   obtain⟨⟨δz,gz⟩,e1,e2⟩:=aa e;obtain rfl:=Option.some.inj e2;have es:eA N [.ref l,v]=some (.ref l)::some v::List.replicate (N.length - 2) none:=rfl;refine⟨B,Hk,dn N.length d,l,g,none,δz,gz,?_,e1,fun σ' H' x G'=>kk H' x G'.rel.same (by obtain⟨kvs,ep,h1,h2,h3,_⟩:=G'.dict;exact⟨kvs,ep,h1,h2,h3⟩)⟩
   refine⟨⟨hs,hB,?_,fun i e h=>?_,fun i e h=>?_,fun i j e f' a hij h=>?_⟩,by rw[es];rfl,⟨rfl,?_⟩,hl,kvs,ep,d1,d2,d3,fun k e=>(nomatch e),fun j e c h=>?_⟩
   ·rw[es];unfold dn;simp only[List.length_cons,List.length_replicate]
   ·obtain⟨rfl,rfl,_⟩:=c6 h
    exact⟨v,by rw[es];rfl,r⟩
   ·exact nomatch (c6 h).2.2
   ·exact nomatch (c6 h).2.2
   ·obtain⟨j,rfl⟩:∃j,it=j+2:=⟨it - 2,by lia⟩
    unfold dn;simp only[List.getElem?_cons_succ,List.getElem?_replicate]
    rw[if_pos (by lia)]
   ·exact nomatch (c6 h).2.2
 exact⟨f,fd,ps,key,hm,F.kp,hb⟩
end
noncomputable def iy (ir:Nat) (f:D->List (D×D)->Option (List (D×D))):GF:=fun po δ g=>match po with
 |none=>if cR δ=true then ac (rd false ir δ) fun d=>ac (f d g) fun g'=>some (δ,g') else none
 |some _=>none
section
variable{X:Cx}{ig it ir k:Nat}{x xa xr:Str}{f:D->List (D×D)->Option (List (D×D))}{p p1 p2 pos cp:Pos}
theorem sP (F:FnG X.prog X.w X.K X.mg X.base k x f) (hr:Room k X.A) (hg:Gl X x) (ng:Nm X ig xa) (nr:Nm X ir xr) (hdb:(x==("__debug__":Str))=false)
  (he:starEach [.Name xa p1,.Name xr p2] X.env=(false,eval (.Name xa p1) X.env)::starEach [.Name xr p2] X.env) (he2:starEach [.Name xr p2] X.env=[(false,eval (.Name xr p2) X.env)]) (hpl:(backTo cp (starEach [.Name xr p2] X.env)).any (·.1)=false)
  (hs:swapsWith (.Call (.Name x p) [.Name xa p1,.Name xr p2] [] cp) none pos.line X.env=pure false):
  DGS X ig it (.Expr (.Call (.Name x p) [.Name xa p1,.Name xr p2] [] cp) pos) (iy ir f):=by
 obtain⟨q,fd,ps,h1,h2,h3,h4⟩:=F.ex;refine(dz (kG (ds:=[]) (dvs:=[]) h1 hr hg h2 h3 h4 .nil vC (av (aL ng.at' ng.vis ng.d1 ng.d2) (av (aL nr.at' nr.vis nr.d1 nr.d2) aT he2) he) hdb he hpl) hs).imp fun Dn σ H hz=>?_
 obtain⟨B,Hk,δ,l,g,po,δz,gz,G,e,k⟩:=hz;cases po with
 |some _=>exact nomatch e
 |none=>
  by_cases no:cR δ=true
  ·simp only[iy,if_pos no]at e
   obtain⟨d,e1,e⟩:=aa e;obtain⟨g',e2,e⟩:=aa e;obtain⟨rfl,rfl⟩:=Prod.mk.inj (Option.some.inj e);obtain⟨v,σr,rv⟩:=G.rel.var ir d (xH e1);obtain⟨kvs,ep,d1,d2,d3,_⟩:=G.dict;refine⟨.ref l,G.at',v,σr,?_⟩
   refine⟨B,Hk,l,v,d,g,g',rfl,G.rel.bor,G.rel.same,G.new,⟨kvs,ep,d1,d2,d3⟩,rv,e2,fun H' x s' dp=>?_⟩
   have no':=cL no;obtain⟨kvs',ep',q1,q2,q3⟩:=dp;refine k σ H' x ⟨⟨s',G.rel.bor,G.rel.len,fun i e h=>?_,fun i e h=>(no' i e h).elim,G.rel.dis⟩,G.at',G.hid,G.new,kvs',ep',q1,q2,q3,fun k e=>(nomatch e),fun j e c h=>(no' j e h).elim⟩
   obtain⟨u,z1,z2⟩:=G.rel.var i e h;exact⟨u,z1,z2.ext x⟩
  ·simp only[iy,if_neg no]at e;exact nomatch e
end
theorem qv {X:Cx}{st:Stmt}{t:TS}(h:PS X st t):PS X st (fun Dn σ H=>t {Dn with nx:=fun σ' H1=>∀pins s,Inv X pins σ' H1 s->∃H2,Inv X pins σ' H2 s/\Dn.nx σ' H2} σ H):=by
 intro pins s σ H Dn I hq;refine thn (h pins s σ H _ I hq) fun f s' hz=>?_
 cases f with
 |next=>
  obtain⟨σ',H1,I1,k⟩:=hz;obtain⟨H2,I2,k2⟩:=k pins s' I1;exact⟨σ',H2,I2,k2⟩
 |brk=>exact hz
 |cont=>exact hz
 |ret v=>exact hz
noncomputable def gD (g:List (D×D)):D:=.dD (g.map (·.1)) (g.map (·.2))
theorem tf {X:Cx}{pins:List (Addr×Obj)}{σ:St}{H Hk:Hp}{s:Shared}{B:Addr->Prop}{l:Addr}{g:List (D×D)}(hB:∀a,B a->∃o:HOn,Hk a=some o.1) (hl:Hk l=none) (I:Inv X pins σ H s) (dp:vg X.K B Hk H l g):
  ∃H',Inv X pins σ H' s/\Ext B H H'/\(∀c o o',Hk c=some o'->H c=some o->H' c=some o)/\Rep X.K B H' (gD g) (.ref l):=by
 obtain⟨kvs,ep,d1,d2,d3⟩:=dp;obtain⟨H1,I1,x1,k1,l1,r1⟩:=zZ hB I d2.m d1;have ob:ObR X.K B H1 (gD g) l:=⟨kvs,⟨ep,l1⟩,d2.keys,r1⟩;obtain⟨o,I2⟩:=I1.frz l1 trivial;have nb:¬B l:=fun z=>by obtain⟨o',w⟩:=hB l z;rw[hl]at w;exact nomatch w
 exact⟨_,I2,x1.trans (bj l1 trivial nb),fun c o o' q1 q2=>by rw[aj (aG q1 hl)];exact k1 c o o' q1 q2,ob.frozen l1 nb fun _ z=>z⟩
noncomputable def qZ (ig:Nat) (F:GF) (gr:DEnv->Option Out) (δ:DEnv):Option Out:=
 if cR δ=true/\ig<δ.length then ac (F none (δ.set ig none) []) fun p=>if cR p.1=true then gr (p.1.set ig (some (gD p.2,false))) else none else none
section
variable{X:Cx}{ig:Nat}{xg:Str}{p1 p2 p3:Pos}{st:Stmt}{bC:List Stmt}{F:GF}{gr:DEnv->Option Out}
theorem sN (hN:X.N.Nodup) (lg:Lc X ig xg) (hsw1:swapsWith (.Dict [] [] p2) (some (.Name xg p1)) p3.line X.env=pure false) (h2:DGS X ig ig st F) (h3:DSs X bC gr):
  DSs X (.Assign [.Name xg p1] (.Dict [] [] p2) p3::st::bC) (qZ ig F gr):=
 (aZ (cV hN lg.at' lg.loc iM hsw1 lg.fnl) (aZ (qv h2) h3)).imp fun Dn σ H hz=>by
  obtain⟨B,Hk,δ,o,R,e,k⟩:=hz;unfold qZ at e
  by_cases c:cR δ=true/\ig<δ.length
  ·rw[if_pos c]at e
   obtain⟨⟨δz,gz⟩,e1,e⟩:=aa e;obtain⟨no,hlt⟩:=c
   by_cases no2:cR δz=true
   ·simp only[if_pos no2]at e
    intro p hp;have s1:=az (o:=.dD [] 0) hp;have hlt':ig<σ.length:=by rw[<-R.len];exact hlt
    have R1:=(R.to s1).unset (i:=ig) (v:=.ref p) hlt';have hid:(δ.set ig none)[ig]?=some none:=List.getElem?_set_self hlt
    have x1:=R.ext s1;refine⟨B,Hk,δ.set ig none,p,[],none,δz,gz,⟨R1,List.getElem?_set_self hlt',⟨hid,hid⟩,R.same.free hp,[],0,ag,.nil,List.nodup_nil,fun k e=>(nomatch e),fun j d c q=>(eC (cL no) j d q).elim⟩,e1,fun σ' H' x2 G' pins s I=>?_⟩
    obtain⟨kvs,ep,d1,d2,d3,_⟩:=G'.dict;obtain⟨H2,I2,x3,k3,r3⟩:=tf G'.rel.bor G'.new I ⟨kvs,ep,d1,d2,d3⟩;have no':=cL no2;refine⟨H2,I2,B,Hk,_,o,?_,e,?_⟩
    ·have R2:Rel X.K B Hk δz σ' H2:=⟨G'.rel.same.keep k3,G'.rel.bor,G'.rel.len,fun i d h=>by obtain⟨u,z1,z2⟩:=G'.rel.var i d h;exact⟨u,z1,z2.ext x3⟩,fun i d h=>(no' i d h).elim,G'.rel.dis⟩
     have R3:=R2.set (i:=ig) (by rw[<-R2.len];exact(List.getElem?_eq_some_iff.mp G'.hid.1).1) r3
     have es:σ'.set ig (some (.ref p))=σ':=by
      refine List.ext_getElem? fun j=>?_
      by_cases hj:ig=j
      ·subst hj;rw[List.getElem?_set_self (List.getElem?_eq_some_iff.mp G'.at').1];exact G'.at'.symm
      ·rw[List.getElem?_set_ne hj]
     rw[es]at R3;exact R3
    ·exact k.ext (x1.trans (x2.trans x3))
   ·simp only[if_neg no2]at e;exact nomatch e
  ·rw[if_neg c]at e;exact nomatch e
end
end L2
set_option tactic.hygienic false
namespace L2
open PySem PySem.Spec PyProof.Rows
variable[Lams]
theorem Rel.fz {K:PySem.W.Frag}{B:Addr->Prop}{Hk H:Hp}{δ:DEnv}{σ:St}{j:Nat}{d:D}{c:Addr}{u:HO}(R:Rel K B Hk δ σ H) (h:δ[j]?=some (some (d,true))) (hj:σ[j]?=some (some (.ref c))) (hu:H c=some u) (o:Obj):
  Ext B H (upd H c (.frz o u))/\Rel K B Hk (δ.set j (some (d,false))) σ (upd H c (.frz o u)):=by
 obtain⟨a,e1,hk,ob⟩:=R.own j d h;rw[hj]at e1;cases e1;obtain⟨u',hu',mu⟩:=ob.mut;rw[hu]at hu';cases hu';have nb:¬B c:=fun z=>by obtain⟨o,q⟩:=R.bor c z;rw[hk]at q;exact nomatch q
 have ex:Ext B H (upd H c (.frz o u)):=bj hu mu nb;have hl:j<δ.length:=(List.getElem?_eq_some_iff.mp h).1
 have was:∀i e,(δ.set j (some (d,false)))[i]?=some (some (e,true))->i≠j/\δ[i]?=some (some (e,true)):=fun i e q=>by
  by_cases hi:j=i
  ·subst hi;rw[List.getElem?_set_self hl]at q;exact nomatch q
  ·rw[List.getElem?_set_ne hi]at q;exact⟨Ne.symm hi,q⟩
 refine⟨ex,R.same.put hk,R.bor,by rw[List.length_set];exact R.len,fun i e q=>?_,fun i e q=>?_,fun i k e f q hik h1 h2 h3 h4=>?_⟩
 ·by_cases hi:j=i
  ·subst hi
   rw[List.getElem?_set_self hl]at q
   obtain⟨rfl,_⟩:=Prod.mk.inj (Option.some.inj (Option.some.inj q));exact⟨_,hj,ob.frozen hu nb fun _ z=>z⟩
  ·rw[List.getElem?_set_ne hi]at q
   obtain⟨v,q1,q2⟩:=R.var i e q;exact⟨v,q1,q2.ext ex⟩
 ·obtain⟨hi,q'⟩:=was i e q
  obtain⟨b,q1,q2,q3⟩:=R.own i e q';have hb:b≠c:=fun z=>by subst z;exact R.dis i j e d b hi q' h q1 hj
  exact⟨b,q1,q2,q3.ext ex fun o q _=>by rw[aj hb];exact q⟩
 ·exact R.dis i k e f q hik (was i e h1).2 (was k f h2).2 h3 h4
section
variable{K:PySem.W.Frag}{B:Addr->Prop}{Hk H H':Hp}{ig it l:Nat}{δ:DEnv}{σ:St}{g:List (D×D)}{po:Option D}{d:D}
theorem GS.beside (G:GS K B Hk ig it l δ σ H g po) {j:Nat}{d d':D}{fl:Bool}{c:Addr}{o:HO}(h:δ[j]?=some (some (d,true))) (hj:σ[j]?=some (some (.ref c))) (new:Ext B H (upd H c o)/\Rel K B Hk (δ.set j (some (d',fl))) σ (upd H c o)):
  GS K B Hk ig it l (δ.set j (some (d',fl))) σ (upd H c o) g po:=by
 obtain⟨kvs,ep,h1,h2,h3,h4,h5⟩:=G.dict;obtain⟨ex,R⟩:=new;have hl:j<δ.length:=(List.getElem?_eq_some_iff.mp h).1
 have ng:ig≠j:=fun z=>by have:=G.hid.1;rw[z,h]at this;exact nomatch this
 have nt:it≠j:=fun z=>by have:=G.hid.2;rw[z,h]at this;exact nomatch this
 obtain⟨cl,cn⟩:=h5 j d c h hj;refine⟨R,G.at',?_,G.new,kvs,ep,by rw[aj (Ne.symm cl)];exact h1,h2.to fun p hp a e e1 e2 _ ob=>ob.ext ex fun o' q _=>?_,h3,h4,fun i e b q1 q2=>?_⟩
 ·rw[List.getElem?_set_ne (Ne.symm ng),List.getElem?_set_ne (Ne.symm nt)];exact G.hid
 ·rw[aj (fun z=>cn (List.mem_map.mpr ⟨p,hp,by rw[e1,z]⟩))];exact q
 ·by_cases hi:j=i
  ·subst hi
   rw[hj]at q2;cases q2;exact⟨cl,cn⟩
  ·rw[List.getElem?_set_ne hi]at q1
   exact h5 i e b q1 q2
theorem GS.setOwn (G:GS K B Hk ig it l δ σ H g po) {i:Nat}{a:Addr}(hi:i<σ.length) (hg:ig≠i) (ht:it≠i) (s:Same H H') (hn:H a=none) (ob:ObR K B H' d a):GS K B Hk ig it l (δ.set i (some (d,true))) (σ.set i (some (.ref a))) H' g po:=by
 have G':=G.same s;obtain⟨kvs,ep,h1,h2,h3,h4,h5⟩:=G.dict;obtain⟨kvs',ep',h1',h2',h3',h4',h5'⟩:=G'.dict;have e1:=s l _ h1;rw[h1']at e1;cases e1;refine⟨G'.rel.setOwn hi (G.rel.same.free hn) ob fun j e _ q=>G.rel.fresh hn j e q,by rw[List.getElem?_set_ne (Ne.symm hg)];exact G.at',?_,G.new,kvs,ep,h1',h2',h3',fun k e=>?_,fun j e c q1 q2=>?_⟩
 ·rw[List.getElem?_set_ne (Ne.symm hg),List.getElem?_set_ne (Ne.symm ht)];exact G.hid
 ·rw[List.getElem?_set_ne (Ne.symm ht)];exact h4' k e
 ·by_cases hj:i=j
  ·subst hj
   rw[List.getElem?_set_self hi]at q2;cases q2
   exact⟨fun z=>(by subst z;rw[h1]at hn;exact nomatch hn),h2.fresh hn⟩
  ·rw[List.getElem?_set_ne hj]at q1 q2
   exact h5' j e c q1 q2
end
noncomputable def xu (x:Option Out) (g:List (D×D)):Option (DEnv×List (D×D)):=match x with|some (.next δ)=>some (δ,g)|_=>none
section
variable{X:Cx}{ig it i j:Nat}{x y:Str}{a e:Expr}{fa f:DEnv->Option D}{px py apos cpos pos:Pos}
noncomputable def xn (i:Nat) (f:DEnv->Option D):GF:=fun _ δ g=>xu (gN i (f δ) δ) g
theorem u7 (hN:X.N.Nodup) (lx:Lc X i x) (he:DF X e f) (hg:ig≠i) (ht:it≠i) (hs:swapsWith e (some (.Name x px)) pos.line X.env=pure false):DGS X ig it (.Assign [.Name x px] e pos) (xn i f):=
 (cV hN lx.at' lx.loc he hs lx.fnl).imp fun Dn σ H hz=>by
  obtain⟨B,Hk,δ,l,g,po,δz,gz,G,e,k⟩:=hz;unfold xn xu gN at e;cases q:f δ with
  |none=>rw[q]at e;exact nomatch e
  |some d=>
   rw[q]at e
   by_cases c:i<δ.length
   ·simp only[if_pos c]at e
    obtain⟨rfl,rfl⟩:=Prod.mk.inj (Option.some.inj e);exact⟨B,Hk,δ,d,G.rel,q,fun a H' s hn ob=>k _ H' (G.rel.ext s) (G.setOwn (by rw[<-G.len];exact c) hg ht s hn ob)⟩
   ·simp only[if_neg c]at e;exact nomatch e
noncomputable def w9 (i:Nat) (fa:DEnv->Option D):GF:=fun _ δ g=>xu (nP i (fa δ) δ) g
theorem wJ (ha:DE X false a fa) (nx:Nm X i x)
  (hbase:attributeBase (.Name x px) "append" X.env (eval (.Name x px) X.env)=eval (.Name x px) X.env)
  (hfew:((backTo cpos (starEach [a] X.env)).all (fun x=>!x.1)&&(backToKw cpos (keywordEach [] X.env)).all (fun x=>x.1.isSome)&&decide (([a]).length+([]:List Keyword).length+(if([]:List Keyword).isEmpty then 0 else 1)<30))=true)
  (hline:(apos.endLine==cpos.line)=true) (hs:starEach [a] X.env=(false,eval a X.env)::starEach [] X.env)
  (hsw:swapsWith (.Call (.Attribute (.Name x px) "append" apos) [a] [] cpos) none pos.line X.env=pure false):DGS X ig it (.Expr (.Call (.Attribute (.Name x px) "append" apos) [a] [] cpos) pos) (w9 i fa):=
 (dz (tZ PySem.F.plainAttrs_list PySem.F.slot_list_append PySem.F.type_list_append dS (aL nx.at' nx.vis nx.d1 nx.d2) (av ha aT hs) hbase hfew hline hs) hsw).imp fun Dn σ H hz=>by
  obtain⟨B,Hk,δ,l,g,po,δz,gz,G,e,k⟩:=hz;unfold w9 xu at e;cases q:nP i (fa δ) δ with
  |none=>rw[q]at e;exact nomatch e
  |some o=>
   rw[q]at e;obtain⟨ds,d,h1,e1,hl,rfl⟩:=jg q;obtain⟨rfl,rfl⟩:=Prod.mk.inj (Option.some.inj e);have R:=G.rel;obtain⟨c,h2,h3,xs,h4,h5⟩:=R.own i _ h1;refine⟨.ref c,h2,.inl ⟨rfl,xs,SqL.of h4⟩,rH R e1 fun v H' s R' r=>?_⟩
   have h4':=s c _ h4;have h5':Reps X.K B H' ds xs:=h5.ext (R.ext s);have new:=R'.lset (ds':=ds++[d]) (xs':=xs++[v]) h1 h2 h4' (h5'.append (Reps.cons r Reps.nil));exact⟨c,xs,v,rfl,rfl,h4',by rw[<-h5.length];exact Nat.lt_of_lt_of_le hl (aH (Nat.le_refl _)),k σ _ ((R.ext s).trans new.1) ((G.same s).beside h1 h2 new)⟩
noncomputable def oZ (i j:Nat):GF:=fun _ δ g=>match bD j δ with|some d=>if i<δ.length then some ((δ.set j (some (d,false))).set i (some (d,false)),g) else none|none=>none
theorem rW (hN:X.N.Nodup) (ly:Lc X i y) (nx:Nm X j x) (hg:ig≠i) (ht:it≠i) (hs:swapsWith (.Name x px) (some (.Name y py)) pos.line X.env=pure false):DGS X ig it (.Assign [.Name y py] (.Name x px) pos) (oZ i j):=by
 intro pins s σ H Dn I hz;obtain⟨B,Hk,δ,l,g,po,δz,gz,G,e,k⟩:=hz;unfold oZ at e;cases q:bD j δ with
 |none=>rw[q]at e;exact nomatch e
 |some d=>
  rw[q]at e
  by_cases c:i<δ.length
  ·simp only[if_pos c]at e
   obtain⟨rfl,rfl⟩:=Prod.mk.inj (Option.some.inj e);have h1:=bO q;obtain⟨a,h2,h3,ob⟩:=G.rel.own j _ h1;obtain⟨u,hu,mu⟩:=ob.mut;obtain⟨o,I1⟩:=I.frz hu mu;have new:=G.rel.fz h1 h2 hu o;have G1:=G.beside h1 h2 new;have hd:(δ.set j (some (d,false)))[j]?=some (some (d,false)):=List.getElem?_set_self (List.getElem?_eq_some_iff.mp h1).1
   obtain⟨v,q1,q2⟩:=G1.rel.var j d hd;rw[h2]at q1;cases q1;refine cV hN ly.at' ly.loc (aL nx.at' nx.vis nx.d1 nx.d2) hs ly.fnl pins s σ _ Dn I1 ⟨.ref a,h2,?_⟩
   exact k _ _ new.1 (G1.set (by rw[<-G.len];exact c) hg ht q2)
  ·simp only[if_neg c]at e;exact nomatch e
noncomputable def bQ (c:DEnv->Option Bool) (F:GF):Nat->GF
 |0=>fun _ _ _=>none
 |n+1=>fun po δ g=>match c δ with
  |none=>none
  |some false=>some (δ,g)
  |some true=>ac (F po δ g) fun p=>bQ c F n po p.1 p.2
theorem qY {c:Expr}{body:List Stmt}{ft:DEnv->Option Bool}{F:GF}(n:Nat) (hp:PassesOwn (model X.prog X.w) X.A X.env X.xe) (hc:DT X c ft) (hb:lN X ig it body F):DGS X ig it (.While c body [] pos) (bQ ft F n):=
 (m6 hp hc hb).imp fun Dn σ H hz=>by
  obtain⟨B,Hk,δ,l,g,po,δz,gz,G,e,k⟩:=hz;refine⟨fun j σ' H'=>∃δ' g',Ext B H H'/\GS X.K B Hk ig it l δ' σ' H' g' po/\bQ ft F j po δ' g'=some (δz,gz),⟨n,δ,g,Ext.refl,G,e⟩,?_⟩
  rintro j σ1 H1 hz
  obtain⟨δ1,g1,x1,G1,e1⟩:=hz;cases j with
  |zero=>exact nomatch e1
  |succ j=>
   unfold bQ at e1;cases q:ft δ1 with
   |none=>rw[q]at e1;exact nomatch e1
   |some t=>
    rw[q]at e1;refine⟨B,Hk,δ1,t,G1.rel,q,fun H2 s2=>?_⟩
    have x2:=x1.trans (G1.rel.ext s2);have G2:=G1.same s2;cases t with
    |false=>
     obtain⟨rfl,rfl⟩:=Prod.mk.inj (Option.some.inj e1);dsimp only;rw[if_neg Bool.false_ne_true];exact k σ1 H2 x2 G2
    |true=>
     dsimp only;rw[if_pos rfl];obtain⟨⟨δ3,g3⟩,q2,q3⟩:=aa (show ac (F po δ1 g1) _=_ from e1)
     exact⟨fun σ' H'=>∃δ' g',Ext B H H'/\GS X.K B Hk ig it l δ' σ' H' g' po/\bQ ft F j po δ' g'=some (δz,gz),fun σ' H' z=>⟨j,Nat.lt_succ_self j,z⟩,B,Hk,δ1,l,g1,po,δ3,g3,G2,q2,fun σ4 H4 x4 G4=>⟨δ3,g3,x2.trans x4,G4,q3⟩⟩
end
section
variable{X:Cx}{ig it ik iq:Nat}{xg xk xq:Str}{p1 p2 p3 p4 p5 p6 p7 p8 pos:Pos}{sts sts':List Stmt}{F F':GF}
noncomputable def xv (ik:Nat) (F F':GF):GF:=fun po δ g=>ac (ji ik δ) fun k=>match gv g k with|none=>F po δ g|some _=>F' po δ g
theorem wq (hu:X.A.units+64<cLine) (ng:Nm X ig xg) (nk:Nm X ik xk) (hm:behindInMarks .NotIn (.Name xg p2)=false) (ha:lN X ig it sts F) (hb:lN X ig it sts' F'):DGS X ig it (.If (.Compare (.Name xk p1) [.NotIn] [.Name xg p2] p3) sts sts' pos) (xv ik F F'):=
 (nY (cQ (qX hu) (aL nk.at' nk.vis nk.d1 nk.d2) (aL ng.at' ng.vis ng.d1 ng.d2) hm) ha hb).imp fun Dn σ H hz=>by
  obtain⟨B,Hk,δ,l,g,po,δz,gz,G,e,k⟩:=hz;obtain⟨kd,e0,e⟩:=aa e;obtain⟨b,σk,rk,k8⟩:=G.key e0;obtain⟨kvs,ep,hl,dl,nd,h4,h5⟩:=G.dict;refine⟨.ref b,σk,.ref l,G.at',l,bV kvs kd,rfl,.inr ⟨kvs,ep,kd,b,.inl hl,rfl,k8,rk.key k8,rfl⟩,_,rfl,?_⟩
  cases hv:bV kvs kd with
  |none=>
   simp only[dl.none hv]at e;exact⟨B,Hk,δ,l,g,po,δz,gz,G,e,k⟩
  |some w=>
   obtain⟨d0,q0,_⟩:=dl.at hv;simp only[q0]at e;exact⟨B,Hk,δ,l,g,po,δz,gz,G,e,k⟩
noncomputable def yj (ik iq:Nat):GF:=fun po δ g=>ac (ji ik δ) fun k=>ac (ji iq δ) fun q=>ac (gv g q) fun x=>match x,gv g k with
 |.lst es,none=>if es.length<lim/\g.length<lim then some (δ,g++[(k,.lst (es++[k]))]) else none
 |_,_=>none
theorem wA (hu:X.A.units+64<cLine) (ng:Nm X ig xg) (nk:Nm X ik xk) (nq:Nm X iq xq) (hsl:xj (.Name xq p4)) (hst:starEach [.Name xk p5] X.env=(false,eval (.Name xk p5) X.env)::starEach [] X.env)
  {sp:Pos}(hsw:swapsWith (.BinOp (.Subscript (.Name xg p3) (.Name xq p4) p6) .Add (.List [.Name xk p5] p7) p8) (some (.Subscript (.Name xg p1) (.Name xk p2) pos)) sp.line X.env=pure false):
  DGS X ig it (.Assign [.Subscript (.Name xg p1) (.Name xk p2) pos] (.BinOp (.Subscript (.Name xg p3) (.Name xq p4) p6) .Add (.List [.Name xk p5] p7) p8) sp) (yj ik iq):=
 (h8 hu (aL ng.at' ng.vis ng.d1 ng.d2) (aL nk.at' nk.vis nk.d1 nk.d2) (vm pi (ff hu (aL ng.at' ng.vis ng.d1 ng.d2) (aL nq.at' nq.vis nq.d1 nq.d2) hsl) (pT (av (aL nk.at' nk.vis nk.d1 nk.d2) aT hst))) hsw).imp fun Dn σ H hz=>by
  obtain⟨B,Hk,δ,l,g,po,δz,gz,G,e,k⟩:=hz;obtain⟨kd,e0,e⟩:=aa e;obtain⟨qd,e1,e⟩:=aa e;obtain⟨x0,e2,e⟩:=aa e;obtain⟨b,σk,rk,k8⟩:=G.key e0;obtain⟨c,σq,rq,q8⟩:=G.key e1;split at e
  ·by_cases hc:es.length<lim/\g.length<lim
   ·rw[if_pos hc]at e
    obtain⟨rfl,rfl⟩:=Prod.mk.inj (Option.some.inj e);obtain⟨kvs,ep,hl,dl,nd,h4,h5⟩:=G.dict;obtain⟨a,hv,al,an,xs,hx,rx⟩:=dl.get e2;refine⟨.ref l,G.at',.ref c,σq,l,.ref a,rfl,.inr ⟨kvs,ep,qd,c,.inl hl,rfl,q8,rq.key q8,hv.symm⟩,?_⟩
    refine⟨.ref b,σk,by have:=aH (Nat.le_refl lim);simp only[List.length_cons,List.length_nil];unfold lim at this;lia,fun m hm=>?_⟩
    have s1:=az (o:=.lst [.ref b]) hm;have ma:a≠m:=fun z=>by subst z;rw[hx]at hm;exact nomatch hm
    refine⟨a,m,xs,[.ref b],rfl,rfl,SqL.of (by rw[aj ma];exact hx),SqL.of ag,?_,fun n hn=>?_⟩
    ·rw[List.length_singleton,<-rx.length];exact Nat.le_trans (Nat.succ_le_of_lt hc.1) (aH (Nat.le_refl _))
    have s2:=s1.trans (az (o:=.lst (xs++[.ref b])) hn);have hn0:H n=none:=s1.free hn;have G2:=G.same s2;have nl:n≠l:=fun z=>by subst z;rw[hl]at hn0;exact nomatch hn0
    have hv0:bV kvs kd=none:=by
     cases z:bV kvs kd with
     |none=>rfl
     |some w=>obtain⟨d0,z0,_⟩:=dl.at z;rw[‹gv g kd=none›]at z0;exact nomatch z0
    refine⟨.ref l,G.at',.ref b,σk,l,rfl,.inr ⟨kvs,ep,kd,b,s2 l _ hl,rfl,k8,(rk.ext (G.rel.ext s2)).key k8,?_,fun ep'=>?_⟩⟩
    ·rw[dl.length];exact Nat.lt_of_lt_of_le hc.2 (aH (Nat.le_refl _))
    ·obtain⟨x5,G5⟩:=G2.put (d:=.lst (es++[kd])) (c:=n) (s2 l _ hl) ⟨n,rfl,nl,G.rel.same.free hn0,xs++[.ref b],ag,(rx.ext (G.rel.ext s2)).append (Reps.cons (rk.ext (G.rel.ext s2)) Reps.nil)⟩ (dl.fresh hn0) (G.rel.fresh hn0) hv0 ep'
     exact k σ _ ((G.rel.ext s2).trans x5) G5
   ·rw[if_neg hc]at e;exact nomatch e
  ·exact nomatch e
end
end L2
set_option tactic.hygienic false
namespace L2
open PySem PySem.Spec PyProof.Rows
variable[Lams]
noncomputable def zw (tk tv:TE):TE:=fun σ H Q=>∀p,H p=none->tk σ (upd H p (.dD [] 0)) fun y H1=>tv σ H1 fun v H2=>∃b k,y=.ref b/\bL 8 k=true/\KR H2 k (.ref b)/\H2 p=some (.dD [] 0)/\∀ep',Q (.ref p) (upd H2 p (.dD [(k,v)] ep'))
theorem tY {X:Cx}{key val:Expr}{tk tv:TE}{pos:Pos}(hu:X.A.units+64<cLine) (hk:PE X key tk) (hv:PE X val tv)
  (sh:pairTrees [some key] [val] X.env pos=[(eval key X.env,do let x <-eval val X.env;standAt pos;pure x)]:=by rfl):PE X (.Dict [some key] [val] pos) (zw tk tv):=by
 intro pins s σ H Q I h;refine wpAny_Dict_any rfl rfl (by simp) (by simp) ?_
 have I0:Inv X pins σ (upd H s.heap.objs.size (.dD [] 0)) {s with heap:=s.heap.push {cls:=.type "dict",data:=.dict #[]}}:=
  I.laid (a:=s.heap.objs.size) (o:=.dD [] 0) (t':=s.toks) (fun _ _ q=>Heap.get?_push_of_some _ q) (Nat.le_refl _) (iI I.big)
 rw[sh];refine evalPairs_cons (thn (hk pins _ σ _ _ I0 (h _ (I.hok.fresh (Nat.le_refl _)))) fun kv s1 hz=>?_)
 obtain⟨y,H1,I1,r1,q1⟩:=hz;refine wpAny_bind (thn (hv pins s1 σ H1 _ I1 q1) fun vv s2 hz=>?_)
 obtain⟨v,H2,I2,r2,b,k,rfl,k8,kr,hp,q⟩:=hz;obtain rfl:kv=Value.ref b:=r1;refine wpAny_bind (wpAny_standAt (wpAny_pure (evalPairs_nil ?_)))
 unfold storeAll;rw[List.forIn_cons];refine wpAny_bind (wpAny_bind (gP (by lia) I2 hp k8 kr (by rw[sizeLine_eq];decide) r2 fun ep' h' tk hs I'=>wpAny_pure ?_))
 dsimp only;rw[List.forIn_nil];exact wpAny_pure ⟨.ref s.heap.objs.size,_,I',rfl,q ep'⟩
noncomputable def spW (K:PySem.W.Frag) (f:List D->Option (List (D×D))):Sp:=fun vs H Q _=>∃B ds g,(∀a,B a->∃o:HOn,H a=some o.1)/\Reps K B H ds vs/\f ds=some g/\∀l H',Same H H'->H l=none->vg K B H H' l g->Q (.ref l) H'
structure FnW (P:Program) (w:World) (K:PySem.W.Frag) (mg:Str->Option Value) (base:Heap) (k:Nat) (x:Str) (f:List D->Option (List (D×D))):Prop where
 ex:∃(p:Addr) (fd:FuncData) (ps:List Str),FnOk P w K mg base CX0 k p fd ps (spW K f)/\mg x=some (.ref p)/\PySem.W.keepIn K (.ref p)=true/\Binds K fd ps []
noncomputable def tW (K:PySem.W.Frag) (f:DEnv->Option (List (D×D))):TS:=fun Dn σ H=>∃B Hk δ g,Rel K B Hk δ σ H/\f δ=some g/\∀l H',Same Hk H'->Hk l=none->vg K B Hk H' l g->Dn.rt (.ref l) H'
noncomputable def yn (n np:Nat) (f:DEnv->Option (List (D×D))) (ds:List D):Option (List (D×D)):=if ds.length=np then f (cj n ds) else none
section
variable{P:Program}{w:World}{K:PySem.W.Frag}{mg:Str->Option Value}{base:Heap}
theorem xC {x qual:Str}{st:Stmt}{f:Addr}{fd:FuncData}{N ps:List Str}{k:Nat}{g:DEnv->Option (List (D×D))}(F:Fun K x qual st f fd) (S:FnScope N ps (ai st)) (hb:Binds K fd ps []) (hm:mg x=some (.ref f)) (hn:ps.length<=N.length)
  (body:∀(cdv:Value) (A:Around) (outer:List Env) (s:Shared) (H:Hp) (E:XK),Room k (A.deeper (envOfC qual (ai st) s.heap.objs.size f cdv))->PSs (kD CX0 P w K mg base N qual (ai st) f cdv A outer s H E).nox (aN st) (tW K g)):
  FnW P w K mg base (k+1) x (yn N.length ps.length g):=by
 have key:FnOk P w K mg base CX0 (k+1) f fd ps (spW K (yn N.length ps.length g)):=by
  refine F.ok S (fun vs H Q E h=>?_) (fun cdv A outer s H vs Q E hr h=>?_)
  ·obtain⟨B,ds,g',_,hr,hf,_⟩:=h
   unfold yn at hf
   by_cases q:ds.length=ps.length
   ·rw[<-hr.length,q]
   ·rw[if_neg q]at hf;exact nomatch hf
  ·obtain⟨B,ds,g',hB,hrs,hf,kk⟩:=h
   refine⟨_,body cdv A outer s H E hr,?_⟩
   unfold yn at hf
   by_cases q:ds.length=ps.length
   ·rw[if_pos q]at hf
    exact⟨B,H,cj N.length ds,g',jt hB hrs (by lia),hf,kk⟩
   ·rw[if_neg q]at hf;exact nomatch hf
 exact⟨f,fd,ps,key,hm,F.kp,hb⟩
end
noncomputable def oH (ig ik:Nat) (F F':GF) (δ:DEnv):Option (List (D×D)):=if cR δ=true/\ig<δ.length then ac (ji ik δ) fun k=>ac (F none (δ.set ig none) [(k,.lst [k])]) fun p=>ac (F' none p.1 p.2) fun q=>some q.2 else none
section
variable{X:Cx}{ig ik:Nat}{xg xk:Str}{p1 p2 p3 p4 p5 p6 p7 p8:Pos}{st st':Stmt}{F F':GF}
theorem sd (hu:X.A.units+64<cLine) (hN:X.N.Nodup) (lg:Lc X ig xg) (ng:Nm X ig xg) (nk:Nm X ik xk) (hst:starEach [.Name xk p3] X.env=(false,eval (.Name xk p3) X.env)::starEach [] X.env)
  (sh:pairTrees [some (.Name xk p2)] [.List [.Name xk p3] p4] X.env p5=[(eval (.Name xk p2) X.env,do let x <-eval (.List [.Name xk p3] p4) X.env;standAt p5;pure x)])
  (hsw:swapsWith (.Dict [some (.Name xk p2)] [.List [.Name xk p3] p4] p5) (some (.Name xg p1)) p6.line X.env=pure false) (h2:DGS X ig ig st F) (h3:DGS X ig ig st' F'):
  PSs X (.Assign [.Name xg p1] (.Dict [some (.Name xk p2)] [.List [.Name xk p3] p4] p5) p6::st::st'::.Return (some (.Name xg p7)) p8::[]) (tW X.K (oH ig ik F F')):=
 (aZ (cV hN lg.at' lg.loc (tY hu (aL nk.at' nk.vis nk.d1 nk.d2) (pT (av (aL nk.at' nk.vis nk.d1 nk.d2) aT hst)) sh) hsw lg.fnl) (aZ h2 (aZ h3 (dv (fC (aL ng.at' ng.vis ng.d1 ng.d2)))))).imp fun Dn σ H hz=>by
  obtain⟨B,Hk,δ,g,R,e,k⟩:=hz;unfold oH at e
  by_cases c:cR δ=true/\ig<δ.length
  ·rw[if_pos c]at e
   obtain⟨kd,e0,e⟩:=aa e;obtain⟨⟨δ1,g1⟩,e1,e⟩:=aa e;obtain⟨⟨δ2,g2⟩,e2,e⟩:=aa e;obtain rfl:=Option.some.inj e;obtain⟨h1,k8,kt⟩:=ky e0;obtain⟨v,σk,rk⟩:=R.var ik kd h1;obtain⟨b,rfl⟩:=cy kt rk;have no:=cL c.1;intro p hp;have s1:=az (o:=.dD [] 0) hp;refine⟨.ref b,σk,.ref b,σk,by have:=aH (Nat.le_refl lim);simp only[List.length_cons,List.length_nil];unfold lim at this;lia,fun m hm=>?_⟩
   have s2:=s1.trans (az (o:=.lst [.ref b]) hm);have hm0:H m=none:=s1.free hm;have pm:p≠m:=fun z=>by subst z;rw[ag]at hm;exact nomatch hm
   have hp2:upd (upd H p (.dD [] 0)) m (.lst [.ref b]) p=some (.dD [] 0):=by rw[aj pm];exact ag
   have rk2:=rk.ext (R.ext s2);refine⟨b,kd,rfl,k8,rk2.key k8,hp2,fun ep'=>?_⟩
   have R2:=R.to s2;obtain⟨x3,R3⟩:=R2.updX (o:=.dD [(kd,.ref m)] ep') no (R.same.free hp) hp2 trivial;have hlt:ig<σ.length:=by rw[<-R.len];exact c.2
   have R4:=R3.unset (i:=ig) (v:=.ref p) hlt;have hid:(δ.set ig none)[ig]?=some none:=List.getElem?_set_self c.2
   refine⟨B,Hk,δ.set ig none,p,[(kd,.lst [kd])],none,δ1,g1,⟨R4,List.getElem?_set_self hlt,⟨hid,hid⟩,R.same.free hp,[(kd,.ref m)],ep',ag,.cons rfl ⟨m,rfl,Ne.symm pm,R.same.free hm0,[.ref b],by rw[aj (Ne.symm pm)];exact ag,Reps.cons (rk2.ext x3) Reps.nil⟩ .nil,by simp,fun k e=>(nomatch e),fun j d c q=>(eC no j d q).elim⟩,e1,fun σ5 H5 x5 G5=>?_⟩
   refine⟨B,Hk,δ1,p,g1,none,δ2,g2,G5,e2,fun σ6 H6 x6 G6=>?_⟩
   obtain⟨kvs,ep,d1,d2,d3,_⟩:=G6.dict;exact⟨.ref p,G6.at',k p H6 G6.rel.same G6.new ⟨kvs,ep,d1,d2,d3⟩⟩
  ·rw[if_neg c]at e;exact nomatch e
end
noncomputable def bx (il:Nat) (ft:DEnv->Option Bool) (g0:List (D×D)):List (D×D)->DEnv->Option (Option D×DEnv)
 |[],δ=>some (none,δ)
 |p::r,δ=>match ft (δ.set il (some (p.1,false)))with
  |some true=>(match gv g0 p.1 with|some (.lst es)=>if(bL 8 p.1&&nW p.1)=true then some (some (.lst es),δ) else none|_=>none)
  |some false=>bx il ft g0 r (δ.set il (some (p.1,false)))
  |none=>none
noncomputable def bR (ia iw il:Nat) (fw:DEnv->Option (List (D×D))) (ft:DEnv->Option Bool):List D->DEnv->Option Out
 |[],_=>some (.ret .non false)
 |d::ds,δ=>ac (fw (δ.set ia (some (d,false)))) fun g=>ac (bx il ft g g ((δ.set ia (some (d,false))).set iw none)) fun p=>match p.1 with
  |some x=>some (.ret x true)
  |none=>bR ia iw il fw ft ds p.2
noncomputable def pG (ia iw il:Nat) (fi:DEnv->Option (List D)) (fw:DEnv->Option (List (D×D))) (ft:DEnv->Option Bool) (δ:DEnv):Option Out:=
 if cR δ=true/\ia<δ.length/\iw<δ.length/\il<δ.length then ac (fi δ) fun ds=>bR ia iw il fw ft ds δ else none
end L2
set_option tactic.hygienic false
namespace L2
open PySem PySem.Spec PyProof.Rows
variable[Lams]
theorem DL.hk {K:PySem.W.Frag}{B:Addr->Prop}{Hk Hj H:Hp}{l:Addr}{kvs:List (D×V)}{g:List (D×D)}(h:DL K B Hj H l kvs g) (f:∀a,Hj a=Option.none->Hk a=Option.none):DL K B Hk H l kvs g:=by
 induction h with
 |nil=>exact .nil
 |cons e h t ih=>
  obtain⟨a,h1,h2,h3,h4⟩:=h;exact .cons e ⟨a,h1,h2,f a h3,h4⟩ ih
section
variable{X:Cx}{e:Expr}{es:List Expr}{fs:DEnv->Option (List D)}{pos p:Pos}{k:Nat}{x:Str}{f:List D->Option (List (D×D))}
theorem rP (F:FnW X.prog X.w X.K X.mg X.base k x f) (hr:Room k X.A) (hg:Gl X x) (ha:DA X false (e::es) fs) (hdb:(x==("__debug__":Str))=false) (he:starEach (e::es) X.env=(false,eval e X.env)::starEach es X.env) (hpl:(backTo pos (starEach es X.env)).any (·.1)=false):
  PE X (.Call (.Name x p) (e::es) [] pos) (fun σ H Q=>∃B Hk δ g,Rel X.K B Hk δ σ H/\ac (fs δ) f=some g/\∀l H',Same H H'->Hk l=none->vg X.K B Hk H' l g->Q (.ref l) H'):=by
 obtain⟨q,fd,ps,h1,h2,h3,h4⟩:=F.ex;refine(kG (ds:=[]) (dvs:=[]) h1 hr hg h2 h3 h4 .nil vC ha hdb he hpl).imp fun σ H Q hz=>?_
 obtain⟨B,Hk,δ,g,R,e,kk⟩:=hz;obtain⟨ds,e1,e2⟩:=aa e;refine⟨B,Hk,δ,ds,R,e1,fun vs H1 s1 rs=>?_⟩
 show spW X.K f (vs++[]) H1 Q E0;rw[List.append_nil];have R1:=R.to s1;refine⟨B,ds,g,R1.borH,rs,e2,fun l H' s2 hl dp=>kk l H' (s1.trans s2) (R1.same.free hl) ?_⟩
 obtain⟨kvs,ep,d1,d2,d3⟩:=dp;exact⟨kvs,ep,d1,d2.hk fun a h=>R1.same.free h,d3⟩
end
theorem lH {il:Nat}{ft:DEnv->Option Bool}{g0 r:List (D×D)}{p:D×D}{δ:DEnv}{z:Option D×DEnv}(q:ft (δ.set il (some (p.1,false)))=some true) (h:bx il ft g0 (p::r) δ=some z):∃es,gv g0 p.1=some (.lst es)/\bL 8 p.1=true/\nW p.1=true/\z.1=some (.lst es):=by
 unfold bx at h;rw[q]at h;simp only at h;split at h
 ·by_cases c:(bL 8 p.1&&nW p.1)=true
  ·rw[if_pos c]at h
   rw[<-Option.some.inj h];rw[Bool.and_eq_true]at c;exact⟨_,by assumption,c.1,c.2,rfl⟩
  ·rw[if_neg c]at h;exact nomatch h
 ·exact nomatch h
theorem eT {il:Nat}{ft:DEnv->Option Bool}{g0 r:List (D×D)}{p:D×D}{δ:DEnv}(q:ft (δ.set il (some (p.1,false)))=some false):bx il ft g0 (p::r) δ=bx il ft g0 r (δ.set il (some (p.1,false))):=by
 conv=>lhs;unfold bx
 rw[q]
theorem kU {il:Nat}{ft:DEnv->Option Bool}{g0 r:List (D×D)}{p:D×D}{δ:DEnv}(q:ft (δ.set il (some (p.1,false)))=none):bx il ft g0 (p::r) δ=none:=by
 unfold bx;rw[q]
section
variable{X:Cx}{ia iw il k:Nat}{x xa xw xl:Str}{iter e test rn:Expr}{es:List Expr}{fi fs:DEnv->Option (List D)}{ft:DEnv->Option Bool}{f:List D->Option (List (D×D))}{p1 p2 p3 p4 p5 p6 p7 p8 p9 pa pb pc pd pe cp:Pos}
theorem wQ {K:PySem.W.Frag}{B:Addr->Prop}{Hk H3:Hp}{δ2:DEnv}{σ2:St}{g:List (D×D)}{l:Addr}{z:Option D×DEnv}{Dn:Ends}(R2:Rel K B Hk δ2 σ2 H3) (no2:bc δ2) (hil:il<δ2.length) (hwl:iw≠il) (σw:σ2[iw]?=some (some (.ref l))) (dp:vg K B Hk H3 l g) (ez:bx il ft g g δ2=some z)
  (kn:z.1=none->∀σ' H',Same H3 H'->Rel K B Hk z.2 σ' H'->bc z.2->z.2.length=δ2.length->Dn.nx σ' H') (kr:∀x a H',z.1=some x->Same H3 H'->Hk a=none->ObR K B H' x a->Dn.rt (.ref a) H'):
  A3 (yc (zI iw)) (iQ il) (A0 (tMT K ft) (AZ (tGA (zI iw) (zI il))) tNext) Dn σ2 H3:=by
 obtain⟨kvs,ep,hl3,dl,nd⟩:=dp;refine⟨.ref l,σw,l,kvs,ep,rfl,.inl hl3,?_⟩
 have lk:=dl.length;refine⟨fun i n σ4 H4=>n=kvs.length - i/\i<=kvs.length/\Same H3 H4/\∃δ4,Rel K B Hk δ4 σ4 H4/\bc δ4/\δ4.length=δ2.length/\σ4[iw]?=some (some (.ref l))/\bx il ft g (g.drop i) δ4=some z,
  ⟨kvs.length,by simp,Nat.zero_le _,Same.refl _,δ2,R2,no2,rfl,σw,ez⟩,?_⟩
 rintro i n σ4 H4 hz
 obtain⟨rfl,hi,s4,δ4,R4,no4,len4,w4,e4⟩:=hz;have hl4:H4 l=some (.dD kvs ep):=s4 l _ hl3
 by_cases hlt:i<kvs.length
 ·refine .inr ⟨⟨.inl hl4,hlt⟩,fun σ' H'=>Same H3 H'/\∃δ4,Rel K B Hk δ4 σ' H'/\bc δ4/\δ4.length=δ2.length/\σ'[iw]?=some (some (.ref l))/\bx il ft g (g.drop (i+1)) δ4=some z,fun σ' H' z=>⟨_,by lia,rfl,hlt,z⟩,fun v H5 hy=>?_⟩
  obtain⟨rfl,p,hp,krp⟩:=hy;have hlg:i<g.length:=by rw[<-lk];exact hlt
  rw[List.drop_eq_getElem_cons hlg]at e4;have ep1:p.1=g[i].1:=by
   have:=dl.keys;have h1:(kvs.map (·.1))[i]?=some p.1:=by rw[List.getElem?_map,hp];rfl
   rw[this,List.getElem?_map,List.getElem?_eq_getElem hlg]at h1
   exact(Option.some.inj h1).symm
  rw[ep1]at krp;have hi4:il<σ4.length:=by rw[<-R4.len,len4];exact hil
  have R5:=R4.set (i:=il) hi4 (krp.rep (K:=K) (B:=B));have no5:bc (δ4.set il (some (g[i].1,false))):=fV no4;have w5:(σ4.set il (some v))[iw]?=some (some (.ref l)):=by rw[List.getElem?_set_ne (Ne.symm hwl)];exact w4
  cases q:ft (δ4.set il (some (g[i].1,false)))with
  |none=>rw[kU q]at e4;exact nomatch e4
  |some b=>
   refine⟨B,Hk,_,b,R5,q,fun H6 s6=>?_⟩
   cases b with
   |false=>
    rw[eT q]at e4;rw[if_neg Bool.false_ne_true];exact⟨s4.trans s6,_,R5.to s6,no5,by rw[List.length_set];exact len4,w5,e4⟩
   |true=>
    obtain⟨es,z1,z2,z3,z4⟩:=lH q e4;rw[if_pos rfl];have dl6:=dl.same (s4.trans s6) R2.borH;obtain⟨a,y1,y2,y3,y4⟩:=dl6.get z1;have kr6:=(krp.rep (K:=K) (B:=B)).ext (R4.ext s6);obtain⟨b,rfl⟩:=cy z3 kr6;exact⟨.ref l,w5,.ref b,List.getElem?_set_self hi4,l,.ref a,rfl,.inr ⟨kvs,ep,g[i].1,b,.inl (s6 l _ hl4),rfl,z2,kr6.key z2,y1.symm⟩,kr _ a H6 z4 (s4.trans s6) y3 y4⟩
 ·have hi':i=kvs.length:=by lia
  subst hi';rw[lk,List.drop_length]at e4;obtain rfl:=Option.some.inj e4;exact .inl ⟨⟨.inl hl4,Nat.le_refl _⟩,kn rfl σ4 H4 s4 R4 no4 len4⟩
theorem r0 (hp:PassesOwn (model X.prog X.w) X.A X.env X.xe) (hc:X.calm=true) (hu:X.A.units+64<cLine) (hN:X.N.Nodup) (la:Lc X ia xa) (lw:Lc X iw xw) (nw:Nm X iw xw) (ll:Lc X il xl) (nl:Nm X il xl) (hwl:iw≠il)
  (hi:DI X false (.Name xa p1) iter fi) (F:FnW X.prog X.w X.K X.mg X.base k x f) (hr:Room k X.A) (hg:Gl X x) (ha:DA X false (e::es) fs) (ht:DT X test ft) (hn:DE X false rn fun _=>some .non) (hdb:(x==("__debug__":Str))=false)
  (he:starEach (e::es) X.env=(false,eval e X.env)::starEach es X.env) (hpl:(backTo cp (starEach es X.env)).any (·.1)=false) (hsl:xj (.Name xl p7))
  (hsw:swapsWith (.Call (.Name x p3) (e::es) [] cp) (some (.Name xw p2)) p4.line X.env=pure false) (hs:∀x,foldedSetIterable iter X.env x=pure x) (hs2:∀x,foldedSetIterable (.Name xw p5) X.env x=pure x):
  DSs X (.For (.Name xa p1) iter (.Assign [.Name xw p2] (.Call (.Name x p3) (e::es) [] cp) p4::
   .For (.Name xl pa) (.Name xw p5) (.If test (.Return (some (.Subscript (.Name xw p6) (.Name xl p7) p8)) p9::[]) [] pb::[]) [] pc::[]) [] pd::.Return (some rn) pe::[]) (pG ia iw il fi (fun δ=>ac (fs δ) f) ft):=
 (aZ (mW hp hc hi (eG hN la.at' la.loc la.fnl) (aZ (cV hN lw.at' lw.loc (rP F hr hg ha hdb he hpl) hsw lw.fnl)
   (dv (mW hp hc (pf (aL nw.at' nw.vis nw.d1 nw.d2)) (eG hN ll.at' ll.loc ll.fnl) (dv (nY ht (dv (fC (ff hu (aL nw.at' nw.vis nw.d1 nw.d2) (aL nl.at' nl.vis nl.d1 nl.d2) hsl))) i7)) hs2))) hs) (dv (fC hn))).imp fun Dn σ H hz=>by
  obtain⟨B,Hk,δ,o,R,e,k⟩:=hz;unfold pG at e
  by_cases c:cR δ=true/\ia<δ.length/\iw<δ.length/\il<δ.length
  ·rw[if_pos c]at e
   obtain⟨no,c1,c2,c3⟩:=c;obtain⟨ds,e1,e2⟩:=aa e;refine⟨B,Hk,δ,ds,R,e1,fun J H1 s1 it=>?_⟩
   have it1:ItD X.K B H1 J ds:=it;refine⟨fun i n σ' H'=>n=ds.length - i/\i<=ds.length/\Ext B H1 H'/\∃δ',Rel X.K B Hk δ' σ' H'/\bc δ'/\δ'.length=δ.length/\bR ia iw il (fun δ=>ac (fs δ) f) ft (ds.drop i) δ'=some o,
    ⟨ds.length,by simp,Nat.zero_le _,Ext.refl,δ,R.to s1,cL no,rfl,e2⟩,?_⟩
   rintro i n σ' H' hz
   obtain⟨rfl,hi,x,δ',R',no',len',e'⟩:=hz;obtain⟨hst,hgo⟩:=it1 H' x
   by_cases hlt:i<ds.length
   ·obtain⟨go,yl⟩:=hgo i ds[i] (List.getElem?_eq_getElem hlt)
    refine .inr ⟨go,fun σ2 H2=>Ext B H1 H2/\∃δ',Rel X.K B Hk δ' σ2 H2/\bc δ'/\δ'.length=δ.length/\bR ia iw il (fun δ=>ac (fs δ) f) ft (ds.drop (i+1)) δ'=some o,fun σ2 H2 z=>⟨_,by lia,rfl,hlt,z⟩,fun v H2 hy=>?_⟩
    obtain⟨sy,rv⟩:=yl v H2 hy;rw[List.drop_eq_getElem_cons hlt]at e';obtain⟨g,q1,q2⟩:=aa e';obtain⟨z,q3,q4⟩:=aa q2;have R2:=(R'.to sy).set (i:=ia) (by rw[<-R'.len,len'];exact c1) rv
    have no2:bc (δ'.set ia (some (ds[i],false))):=fV no';have x2:=x.trans (R'.ext sy);refine⟨B,Hk,_,g,R2,q1,fun l H3 s3 hl dp=>?_⟩
    have R3:=(R2.to s3).unset (i:=iw) (v:=.ref l) (by rw[List.length_set,<-R'.len,len'];exact c2)
    have x3:=x2.trans (R2.ext s3);refine wQ R3 (eC no2) (by rw[List.length_set,List.length_set,len'];exact c3) hwl (List.getElem?_set_self (by rw[List.length_set,<-R'.len,len'];exact c2)) dp q3 (fun zn σ4 H4 s4 R4 no4 l4=>?_) fun y a H4 zs s4 hk ob=>?_
    ·rw[zn]at q4
     exact⟨x3.trans (R3.ext s4),z.2,R4,no4,by rw[l4,List.length_set,List.length_set,len'],q4⟩
    ·rw[zs]at q4
     obtain rfl:=Option.some.inj q4;refine k (.ref a) H4 ((R.ext s1).trans (x3.trans (R3.ext s4))) (R3.same.trans s4) ?_
     unfold jc;rw[if_pos rfl];exact .inl ⟨a,rfl,hk,ob⟩
   ·have hi':i=ds.length:=by lia
    subst hi';rw[List.drop_length]at e';obtain rfl:=Option.some.inj e';refine .inl ⟨hst,B,Hk,δ',.non,R',rfl,fun v H4 s4 r4=>?_⟩
    refine k v H4 ((R.ext s1).trans (x.trans (R'.ext s4))) (R'.same.trans s4) ?_
    unfold jc;rw[if_neg Bool.false_ne_true];exact r4
  ·rw[if_neg c]at e;exact nomatch e
end
noncomputable def vt (i:Nat) (y:Option (D×Bool)) (δ:DEnv):Option Out:=match y with
 |some (.lst ds,true)=>if i<δ.length then some (.next (δ.set i (some (.lst ds,true)))) else none
 |some (.non,false)=>if i<δ.length then some (.next (δ.set i (some (.non,false)))) else none
 |_=>none
section
variable{X:Cx}{i k:Nat}{y x:Str}{e:Expr}{es:List Expr}{fs:DEnv->Option (List D)}{f:List D->Option (D×Bool)}{p py pos cp:Pos}
theorem uD (hN:X.N.Nodup) (ly:Lc X i y) (F:FnM X.prog X.w X.K X.mg X.base k x f) (hr:Room k X.A) (hg:Gl X x) (ha:DA X false (e::es) fs) (hdb:(x==("__debug__":Str))=false) (he:starEach (e::es) X.env=(false,eval e X.env)::starEach es X.env) (hpl:(backTo cp (starEach es X.env)).any (·.1)=false)
  (hsw:swapsWith (.Call (.Name x p) (e::es) [] cp) (some (.Name y py)) pos.line X.env=pure false):DS X (.Assign [.Name y py] (.Call (.Name x p) (e::es) [] cp) pos) (fun δ=>vt i (ac (fs δ) f) δ):=
 (cV hN ly.at' ly.loc (ii F hr hg ha hdb he hpl) hsw ly.fnl).imp fun Dn σ H hz=>by
  obtain⟨B,Hk,δ,o,R,e,kk⟩:=hz;cases q:ac (fs δ) f with
  |none=>rw[q]at e;exact nomatch e
  |some r=>
   obtain⟨d,fr⟩:=r;obtain⟨ds,e1,e2⟩:=aa q;rw[q]at e;refine⟨B,Hk,δ,ds,d,fr,R,e1,e2,fun v H1 H' s1 s2 rr=>?_⟩
   have s:=s1.trans s2;unfold vt at e;split at e
   ·obtain⟨rfl,rfl⟩:=Prod.mk.inj (Option.some.inj ‹some (d,fr)=some (_,true)›)
    by_cases c:i<δ.length
    ·rw[if_pos c]at e
     obtain rfl:=Option.some.inj e;unfold jc at rr;rw[if_pos rfl]at rr
     rcases rr with⟨a,rfl,hn,ob⟩|z
     ·have hn0:H a=none:=s1.free hn
      exact kk _ H' (R.ext s) ((R.to s).setOwn (by rw[<-R.len];exact c) (R.same.free hn0) ob fun j e _ q=>R.fresh hn0 j e q)
     ·exact(show False from z).elim
    ·rw[if_neg c]at e;exact nomatch e
   ·obtain⟨rfl,rfl⟩:=Prod.mk.inj (Option.some.inj ‹some (d,fr)=some (_,false)›)
    by_cases c:i<δ.length
    ·rw[if_pos c]at e
     obtain rfl:=Option.some.inj e;unfold jc at rr;rw[if_neg Bool.false_ne_true]at rr;exact kk _ H' (R.ext s) ((R.to s).set (by rw[<-R.len];exact c) rr)
    ·rw[if_neg c]at e;exact nomatch e
   ·exact nomatch e
end
end L2
set_option tactic.hygienic false
namespace L2
open PySem PySem.Spec PyProof.Rows
variable[Lams]
section
variable{prog:Program}{w:World}{A:Around}{E:Value->Shared->Prop}{s:Shared}
theorem m5 {it d:Addr}{o:Obj}{es:Array DictEntry}{i ep:Nat}{ok ov:Value}{Q:Option Value->Shared->Prop}(hit:IsItemIter s.heap it d i es.size ep ok ov) (ho:s.heap.get? d=some o) (hdat:o.data=.dict es ep)
  (item:∀e,es[i]?=some e->∀E':Value->Shared->Prop,wpAny (model prog w) A.in1 (Builtin.Dict_items.pairFromOwner (.ref it) 6 e.key e.val) (fun v s'=>Q (some v) s') E' {s with heap:=s.heap.update it (Obj.mapFields (·.setIfInBounds 3 (rawInt ((i:Int)+1))))})
  (hh:A.handled=none) (stop:es[i]?=none->∀h',Heap.ExtBut it s.heap h'->Q none {s with heap:=h'}):wpAny (model prog w) A (pyNext (.ref it)) Q E s:=by
 have ty:s.TypeIs (.ref it) "dict_itemiterator":=⟨_,hit,rfl⟩;unfold pyNext;refine wpAny_bind (wpAny_attempt (wpAny_callSpecial?_slot (name:=Str.ofString "__next__") ty F.slot_dict_itemiterator_next (wpAny_call_entry F.slot_dict_itemiterator_next ty F.entry_dict_itemiterator_next ?_ (F.args_dict_itemiterator_next_1 _))))
 refine wpAny_bind (wpAny_pure (wpAny_bind (wpAny_bind (wpAny_bind (wpAny_typeNameOfWhole_itemiter ty (wpAny_pure (wpAny_bind (wpAny_fieldsOf hit rfl ?_))))))))
 rw[if_pos (show Builtin.Dict_items.ownsTuple "dict_itemiterator"=true by decide)]
 change wpAny _ _ (if(Value.ref d==Value.none)=true then _ else _) _ _ s
 rw[if_neg (by exact Bool.false_ne_true)]
 refine wpAny_bind (wpAny_pure (wpAny_bind (wpAny_dictEntries ho hdat ?_)))
 rw[if_neg (by simp)]
 refine wpAny_bind (wpAny_pure (wpAny_bind (wpAny_dictEpoch ho hdat ?_)))
 rw[if_neg (by simp)]
 refine wpAny_pure ?_
 dsimp only;rw[if_neg (Int.not_lt.mpr (Int.natCast_nonneg i)),Int.toNat_natCast];cases hx:es[i]? with
 |some e=>
  refine wpAny_bind (wpAny_bind (wpAny_typeNameOfWhole_itemiter ty (wpAny_pure ?_)))
  refine wpAny_bind (wpAny_isOneOf_itemiter ty ?_)
  change wpAny _ _ (setField (.ref it) 3 (rawInt ((i:Int)+1)) >>= _) _ _ s;refine wpAny_bind (wpAny_setField hit rfl (by simp) ?_)
  have ty1:Shared.TypeIs {s with heap:=s.heap.update it (Obj.mapFields (·.setIfInBounds 3 (rawInt ((i:Int)+1))))} (.ref it) "dict_itemiterator":=⟨_,Heap.get?_update_self _ hit (Obj.isFreed_of_fields (Obj.data_mapFields rfl _)),Obj.cls_mapFields ..⟩
  refine wpAny_bind (wpAny_holding (wpAny_bind (wpAny_isOneOf_itemiter ty1 (wpAny_bind (wpAny_isOneOf_itemiter ty1 ?_)))))
  change wpAny _ _ (Builtin.Dict_items.pairFromOwner (.ref it) 6 e.key e.val) _ _ _;exact thn (item e hx _) fun v s' q=>wpAny_pure ⟨_,rfl,wpAny_pure q⟩
 |none=>
  refine wpAny_bind (wpAny_bind (wpAny_typeNameOfWhole_itemiter ty (wpAny_pure ?_)))
  change wpAny _ _ (setField (.ref it) 2 .none >>= _) _ _ s;refine wpAny_bind (wpAny_setField hit rfl (by simp) ?_)
  change wpAny _ _ (newExc (.type "StopIteration") [] >>= _) _ _ _;simp only[newExc,newTuple,raiseNew];refine wpAny_bind (wpAny_bind (wpAny_newObj_type ?_ (by size_fits)))
  refine wpAny_bind (m:=firstArgMember _ _) (wpAny_of_eq (a:=Value.none) (by first|rfl|(simp only[firstArgMember];rfl)) (wpAny_newObj_type ?_ (by size_fits)))
  refine wpAny_bind (wpAny_handled ?_)
  rw[show A.in1.handled=none from hh]
  refine wpAny_bind (wpAny_pure (wpAny_throw ?_))
  refine wpAny_bind (wpAny_isInstance (T:="StopIteration") (b:=true) ⟨_,Heap.get?_push_size _ rfl,rfl⟩ isSubtype_stop ?_)
  exact wpAny_pure (stop hx _ (((Heap.SameBut.update ..).extBut.push _).push _))
theorem nB {it d:Addr}{i n ep:Nat}{ok ov k v:Value}{Q:Value->Shared->Prop}(hit:IsItemIter s.heap it d i n ep ok ov)
  (hQ:∀h',IsItemIterOut h' it d i n ep k v s.heap.objs.size->h'.get? s.heap.objs.size=some {cls:=.type "tuple",data:=.seq #[k,v]}->(∀b o,b≠it->s.heap.get? b=some o->h'.get? b=some o)->Q (.ref s.heap.objs.size) {s with heap:=h'}):
  wpAny (model prog w) A (Builtin.Dict_items.pairFromOwner (.ref it) 6 k v) Q E s:=by
 unfold Builtin.Dict_items.pairFromOwner;refine wpAny_bind (wpAny_newTuple ?_)
 have lt:=Heap.lt_size hit;have h0:IsItemIter (s.heap.push {cls:=.type "tuple",data:=.seq #[k,v]}) it d i n ep ok ov:=Heap.get?_push_of_some _ hit
 have t0:(s.heap.push {cls:=.type "tuple",data:=.seq #[k,v]}).get? s.heap.objs.size=some {cls:=.type "tuple",data:=.seq #[k,v]}:=Heap.get?_push_size _ rfl
 have k0:∀b o,s.heap.get? b=some o->(s.heap.push {cls:=.type "tuple",data:=.seq #[k,v]}).get? b=some o:=fun b o e=>Heap.get?_push_of_some _ e
 refine wpAny_bind ?_
 unfold Builtin.Dict_items.ownedTupleIsFree;refine wpAny_bind (wpAny_field (s:={s with heap:=s.heap.push {cls:=.type "tuple",data:=.seq #[k,v]}}) h0 rfl (x:=.none) rfl (wpAny_pure ?_))
 rw[if_pos rfl];refine wpAny_bind (wpAny_field (s:={s with heap:=s.heap.push {cls:=.type "tuple",data:=.seq #[k,v]}}) h0 rfl (x:=ok) rfl (wpAny_bind (wpAny_field (s:={s with heap:=s.heap.push {cls:=.type "tuple",data:=.seq #[k,v]}}) h0 rfl (x:=ov) rfl ?_)))
 refine wpAny_bind (wpAny_setField_rec (s:={s with heap:=s.heap.push {cls:=.type "tuple",data:=.seq #[k,v]}}) h0 (by simp) fun h1 g1 m1=>wpAny_bind (wpAny_setField_rec (s:={s with heap:=h1}) g1 (by simp) fun h2 g2 m2=>wpAny_bind (wpAny_setField_rec (s:={s with heap:=h2}) g2 (by simp) fun h3 g3 m3=>wpAny_bind (wpAny_setField_rec (s:={s with heap:=h3}) g3 (by simp) fun h4 g4 m4=>wpAny_bind (wpAny_letGo (wpAny_pure (hQ h4 g4 ?_ ?_)))))))
 ·exact m4.extBut _ _ (Nat.ne_of_gt lt) (m3.extBut _ _ (Nat.ne_of_gt lt) (m2.extBut _ _ (Nat.ne_of_gt lt) (m1.extBut _ _ (Nat.ne_of_gt lt) t0)))
 ·exact fun b o hb e=>m4.extBut b o hb (m3.extBut b o hb (m2.extBut b o hb (m1.extBut b o hb (k0 b o e))))
end
theorem DPairs.get2 {H:Hp}{kvs:List (D×V)}{xs:List (D×Addr×Value)}(h:DPairs H kvs xs) {i:Nat}{p:D×V}(e:kvs[i]?=some p):∃q,xs[i]?=some q/\KR H p.1 (.ref q.2.1)/\RelV p.2 q.2.2:=by
 induction h generalizing i with
 |nil=>simp at e
 |cons r t ih=>
  cases i with
  |zero=>simp at e;subst e;exact⟨_,rfl,r.2.2.1,r.2.2.2⟩
  |succ i=>
   obtain⟨q,h1,h2⟩:=ih (i:=i) (by simpa using e)
   exact⟨q,by simpa using h1,h2⟩
noncomputable def Iti (a:Addr) (kvs:List (D×V)) (ep:Nat):It:=
 ⟨fun i H=>Rd H a (.dD kvs ep)/\i<kvs.length,fun i H v H'=>∃T p k,H T=none/\v=.ref T/\kvs[i]?=some p/\KR H p.1 k/\H'=upd H T (.tup [k,p.2]),fun i H=>Rd H a (.dD kvs ep)/\kvs.length<=i⟩
theorem gw:entryFor table "dict_itemiterator.__iter__"=some Builtin.«dict_keyiterator.__iter__»:=entryFor_alias (id':="dict_keyiterator.__iter__") (by kernel_rfl) rfl (by decide +kernel) (by kernel_rfl)
theorem iC {prog:Program}{w:World}{A:Around}{E:Value->Shared->Prop}{s:Shared}{it d:Addr}{i n ep:Nat}{ok ov:Value}{Q:Value->Shared->Prop}(hit:IsItemIter s.heap it d i n ep ok ov) (h:Q (.ref it) s):wpAny (model prog w) A (pyIter (.ref it)) Q E s:=by
 have ty:s.TypeIs (.ref it) "dict_itemiterator":=⟨_,hit,rfl⟩;refine wpAny_pyIter_slot ty F.slot_dict_itemiterator_iter (wpAny_call_entry F.slot_dict_itemiterator_iter ty gw ?_ (F.args_dict_itemiterator_iter_1 _))
 change wpAny _ _ (ret (.ref it)) _ _ s;exact wpAny_pure ⟨_,rfl,"dict_itemiterator",_,ty,F.slot_dict_itemiterator_next.lookup,h⟩
theorem nQ {P:Program}{w:World}{K:PySem.W.Frag}{elts:List Expr}{x1:Nat}{pos:Pos}{a it:Addr}{kvs:List (D×V)}{ep:Nat}:
  Turn P w K (.Tuple elts x1 pos) (Iti a kvs ep) [it] it (fun i h=>∃ok ov,IsItemIter h it a i kvs.length ep ok ov) where
 mem:=by simp
 obj:=fun i h st b hb=>by
  obtain rfl:b=it:=by simpa using hb
  obtain⟨ok,ov,e⟩:=st;exact⟨_,e,fun v z=>by cases z⟩
 keep:=fun i h h' st k=>by
  obtain⟨ok,ov,e⟩:=st;exact⟨ok,ov,k it (by simp) _ e⟩
 item:=by
  intro X hP hw hK hc i pins s σ H E I hf st hg;subst hP hw hK;obtain⟨rd,hi⟩:=hg;obtain⟨z,y,xs,r,o,es,h1,h2,h3,h4,h5⟩:=(show ObjOk X.prog X.w H s.heap a (.dD kvs ep) from gB I.hok rd)
  have hsz:es.size=kvs.length:=by rw[size_of_entries h4,<-Paired.length r]
  have hp:kvs[i]?=some kvs[i]:=List.getElem?_eq_getElem hi
  obtain⟨q,hq,kr,rv⟩:=r.get2 hp;obtain⟨f0,f1,f2,f3,f4,f5⟩:=hf it (by simp)
  obtain⟨ok,ov,st⟩:=st;rw[<-hsz]at st;have lt:=Heap.lt_size st;refine m5 st h1 h3 (fun e he E'=>?_) (I.ok.hd hc) fun hn=>?_
  ·have ek:e.key=.ref q.2.1/\e.val=q.2.2:=by
    rw[entry_at h4 i,hq]at he;rw[<-Option.some.inj he];exact⟨rfl,rfl⟩
   have st1:IsItemIter (s.heap.update it (Obj.mapFields (·.setIfInBounds 3 (rawInt ((i:Int)+1))))) it a (i+1) es.size ep ok ov:=by
    have:=Heap.get?_update_self (Obj.mapFields (·.setIfInBounds 3 (rawInt ((i:Int)+1)))) st (Obj.isFreed_of_fields (Obj.data_mapFields rfl _))
    simpa[IsItemIter,Obj.mapFields,rawInt]using this
   have sb:Heap.SameBut it s.heap (s.heap.update it (Obj.mapFields (·.setIfInBounds 3 (rawInt ((i:Int)+1))))):=Heap.SameBut.update ..
   have sz:=sb.1;refine nB (s:={s with heap:=s.heap.update it (Obj.mapFields (·.setIfInBounds 3 (rawInt ((i:Int)+1))))}) st1 fun h' out tup k=>?_
   dsimp only at out tup k⊢;rw[sz]at out tup⊢;rw[ek.1,ek.2]at out tup;have hT:H s.heap.objs.size=none:=I.hok.fresh (Nat.le_refl _);have nT:it≠s.heap.objs.size:=Nat.ne_of_lt lt;have I1:Inv X pins σ (upd H s.heap.objs.size (.tup [.ref q.2.1,kvs[i].2])) {s with heap:=h',toks:=s.toks}:=I.turnLay (fp:=[it]) (fun b o hb e=>k b o (fun z=>hb (by simp[z])) (sb.extBut b o (fun z=>hb (by simp[z])) e)) hf (Nat.le_refl _)
    ⟨by show 2<=sizeLine;decide,[.ref q.2.1,q.2.2],.cons rfl (.cons rv .nil),⟨_,tup,rfl,_,rfl⟩⟩
   refine⟨_,rfl,wpAny_letOwnedTupleGo_items (s:={s with heap:=h'}) out fun g2 e2 m2=>?_⟩
   refine⟨.ref s.heap.objs.size,upd H s.heap.objs.size (.tup [.ref q.2.1,kvs[i].2]),I1.turned (t':=s.toks) (fun b o hb q=>ak m2 hb q) (by rw[aj nT];exact f0) f1 f3 f4 f5,rfl,⟨s.heap.objs.size,kvs[i],.ref q.2.1,hT,rfl,hp,kr,rfl⟩,?_,fun b hb=>?_⟩
   ·rw[hsz]at e2;exact⟨_,_,e2⟩
   ·obtain rfl:b=it:=by simpa using hb
    rw[aj nT];exact f0
  ·exfalso
   rw[Array.getElem?_eq_getElem (by lia)]at hn
   contradiction
 done:=by
  intro X hP hw hK hc i pins s σ H E I hf st hg;subst hP hw hK;obtain⟨rd,hi⟩:=hg;obtain⟨z,y,xs,r,o,es,h1,h2,h3,h4,h5⟩:=(show ObjOk X.prog X.w H s.heap a (.dD kvs ep) from gB I.hok rd)
  have hsz:es.size=kvs.length:=by rw[size_of_entries h4,<-Paired.length r]
  obtain⟨f0,f1,f2,f3,f4,f5⟩:=hf it (by simp)
  obtain⟨ok,ov,st⟩:=st;rw[<-hsz]at st;refine m5 st h1 h3 (fun e he E'=>?_) (I.ok.hd hc) fun hn h' eb=>⟨rfl,I.turned (t':=s.toks) (fun b o hb e=>eb b o hb e) f0 f1 f3 f4 f5⟩
  exfalso;rw[Array.getElem?_eq_none (by lia)]at he
  contradiction
 self:=fun _ _ _ _ _ st h=>by obtain⟨ok,ov,st⟩:=st;exact iC st h
theorem nN {prog:Program}{w:World}{A:Around}{E:Value->Shared->Prop}{s:Shared}{v d:Addr}{o:Obj}{es:Array DictEntry}{ep:Nat}{Q:Value->Shared->Prop}(hv:s.heap.IsItemsView v d) (ho:s.heap.get? d=some o) (hdat:o.data=.dict es ep)
  (hQ:Q (.ref s.heap.objs.size) {s with heap:=s.heap.push {cls:=.type "dict_itemiterator",data:=.fields #[.none,.bool false,.ref d,.int 0 0,.int es.size 0,.int ep 0,.none,.none]}}):wpAny (model prog w) A (pyIter (.ref v)) Q E s:=by
 obtain⟨ov,hov,hcv,hdv⟩:=id hv;refine wpAny_pyIter_slot hv.typeIs F.slot_dict_items_iter (wpAny_call_entry F.slot_dict_items_iter hv.typeIs F.entry_dict_items_iter ?_ (F.args_dict_items_iter_1 _))
 unfold Builtin.«dict_items.__iter__»;refine wpAny_bind (wpAny_pure (wpAny_bind ?_))
 unfold Builtin.Dict_items.dictOf;refine wpAny_bind (wpAny_field hov hdv (x:=.ref d) rfl (wpAny_pure (wpAny_bind ?_)))
 unfold Builtin.Dict_items.newIterator;refine wpAny_bind (wpAny_dictEntries ho hdat (wpAny_bind (wpAny_dictEpoch ho hdat ?_)))
 dsimp only;rw[if_pos (show Builtin.Dict_items.ownsTuple "dict_itemiterator"=true by decide)]
 refine wpAny_newObj_type (wpAny_pure ⟨_,rfl,"dict_itemiterator",_,⟨_,Heap.get?_push_size _ rfl,rfl⟩,F.slot_dict_itemiterator_next.lookup,?_⟩) (by simp only[sizeOk,Builtin.Dict_items.ownedTupleFields,List.size_toArray,List.length_append,List.length_cons,List.length_nil,sizeLine_eq];decide)
 simpa[rawInt,Builtin.Dict_items.ownedTupleFields]using hQ
end L2
set_option tactic.hygienic false
namespace L2
open PySem PySem.Spec PyProof.Rows
variable[Lams]
section
variable{X:Cx}{elts:List Expr}{x1:Nat}{tp apos cpos:Pos}{m:Bool}{a:Expr}{fa:DEnv->Option D}
noncomputable def yd (te:TE):TI:=fun σ H R=>te σ H fun x H1=>∃a kvs ep,x=.ref a/\Rd H1 a (.dD kvs ep)/\R (Iti a kvs ep) H1
theorem tX {te:TE}(h:PE X a te) (hbase:attributeBase a "items" X.env (eval a X.env)=eval a X.env) (hline:(apos.endLine==cpos.line)=true):PI X (.Tuple elts x1 tp) (.Call (.Attribute a "items" apos) [] [] cpos) (yd te):=by
 intro pins s σ H R I h0;refine wpAny_Call_method0_late hbase hline (thn (h pins s σ H _ I h0) fun v s1 hz=>?_)
 obtain⟨x,H1,I1,r1,d,kvs,ep,rfl,rd,q⟩:=hz;obtain rfl:v=Value.ref d:=r1;obtain⟨h1,h2⟩:=jR I1 (v:=.ref d) rfl ⟨d,rfl,.inr ⟨kvs,ep,rd⟩⟩;obtain⟨z,y,xs,r,o,es,e1,e2,e3,e4,e5⟩:=(show ObjOk X.prog X.w H1 s1.heap d (.dD kvs ep) from gB I1.hok rd)
 have hsz:es.size=kvs.length:=by rw[size_of_entries e4,<-Paired.length r]
 refine⟨"dict","dict.items",F.plainAttrs_dict,F.slot_dict_items,F.type_dict_items,h1,h2,Calls.callWith_builtin rfl (PySem.evalArgs_none (wpAny_call_entry F.slot_dict_items h1 F.entry_dict_items ?_ (F.args_dict_items_1 _)))⟩
 unfold Builtin.«dict.items»;refine wpAny_bind ?_
 unfold Builtin.Dict.noArgs;refine wpAny_bind (wpAny_notOrdered_dict h1 ?_)
 change wpAny _ _ (pure d) _ _ s1;refine wpAny_pure ?_
 change wpAny _ _ (Builtin.Dict.showsAll d >>= _) _ _ s1;unfold Builtin.Dict.showsAll;rw[if_neg (by rw[y];exact Bool.false_ne_true)]
 refine wpAny_bind (wpAny_pure (wpAny_bind (wpAny_newObj_type (wpAny_pure ⟨_,rfl,?_⟩))))
 refine nN (s:={s1 with heap:=s1.heap.push {cls:=.type "dict_items",data:=.fields #[.ref d]}}) (d:=d) (es:=es) ⟨_,Heap.get?_push_size _ rfl,rfl,rfl⟩ (Heap.get?_push_of_some _ e1) e3 ?_
 rw[hsz];refine⟨_,[_],_,_,H1,rfl,I1.kept (t':=s1.toks) fun b o e=>Heap.get?_push_of_some _ (Heap.get?_push_of_some _ e),nQ,⟨.none,.none,Heap.get?_push_size _ rfl⟩,fun b hb=>?_,q⟩
 have e:b=(s1.heap.push {cls:=.type "dict_items",data:=.fields #[.ref d]}).objs.size:=by simpa using hb
 have le:s1.heap.objs.size<=b:=by rw[e,Heap.size_push];exact Nat.le_succ _
 exact I1.fpOk le (I1.hok.fresh le)
noncomputable def cN (x:Option D):Option (List D):=match x with|some (.dD ks vs)=>some (List.zipWith (fun k v=>.tup [k,v]) ks vs)|_=>none
theorem lM {x:Option D}{ds:List D}(h:cN x=some ds):∃ks vs,x=some (.dD ks vs)/\ds=List.zipWith (fun k v=>.tup [k,v]) ks vs:=by
 unfold cN at h;split at h
 ·exact⟨_,_,rfl,(Option.some.inj h).symm⟩
 ·exact nomatch h
theorem rK (h:DE X m a fa) (hbase:attributeBase a "items" X.env (eval a X.env)=eval a X.env) (hline:(apos.endLine==cpos.line)=true):DI X m (.Tuple elts x1 tp) (.Call (.Attribute a "items" apos) [] [] cpos) (fun δ=>cN (fa δ)):=
 (tX h hbase hline).imp fun σ H Q hz=>by
  obtain⟨B,Hk,δ,ds,R,e,k⟩:=hz;obtain⟨ks,vs,q1,rfl⟩:=lM e;refine⟨B,Hk,δ,_,R,q1,fun v H' s r=>?_⟩
  simp only[Rep]at r;obtain⟨l,kvs,rfl,⟨ep,hq⟩,rfl,rs⟩:=r;have R':=R.to s;have rd:∀{H2:Hp},Ext (bF m B δ σ) H' H2->Rd H2 l (.dD kvs ep):=fun{H2} x=>by
   rcases hq with⟨b,hq⟩|⟨o,hq⟩
   ·exact .inl ((x.lent l b).trans hq)
   ·exact .inr ⟨o,x.frzs _ _ _ hq⟩
  have el:=rs.length;rw[List.length_map]at el;refine⟨l,kvs,ep,rfl,rd Ext.refl,k _ H' s fun H2 x=>?_⟩
  have rx:=rs.ext x;refine⟨⟨rd x,by rw[List.length_zipWith,List.length_map,el,Nat.min_self];exact Nat.le_refl _⟩,fun i d hd=>?_⟩
  rw[List.getElem?_zipWith_eq_some]at hd
  obtain⟨kd,vd,g1,g2,rfl⟩:=hd;rw[List.getElem?_map]at g1
  obtain⟨p,hp,ek⟩:=Option.map_eq_some_iff.mp g1;obtain⟨y,w1,z1⟩:=rx.get g2;rw[List.getElem?_map,hp]at w1
  obtain rfl:=Option.some.inj w1;refine⟨⟨rd x,(List.getElem?_eq_some_iff.mp hp).1⟩,fun z H3 hz=>?_⟩
  obtain⟨T,p',kv,hT,rfl,hp',kr,rfl⟩:=hz;rw[hp]at hp';obtain rfl:=Option.some.inj hp';have sm:=az (o:=.tup [kv,p.2]) hT;have bo:∀a,bF m B δ σ a->∃o:HOn,H2 a=some o.1:=fun a ha=>by
   obtain⟨o,ho⟩:=R'.bsH m a ha;exact⟨o,(x.lent a ha).trans ho⟩
  have ex:=sm.ext bo;refine⟨sm,?_⟩
  simp only[Rep];exact⟨T,[kv,p.2],rfl,ag,Reps.cons (by rw[<-ek];exact kr.rep.ext ex) (Reps.cons (z1.ext ex) Reps.nil)⟩
end
end L2
set_option tactic.hygienic false
namespace L2
open PySem PySem.Spec PyProof.Rows
variable[Lams]
section
variable{prog:Program}{w:World}{A:Around}{E:Value->Shared->Prop}{s:Shared}
theorem kB {R:Result->Shared->Prop}(hh:A.handled=none) {d:Addr}{o:Obj}{es:Array DictEntry}{ep:Nat}(hd:(d==sysModules)=false) (ho:s.heap.get? d=some o) (hc:o.ExactDict) (hdat:o.data=.dict es ep) (hn:es.size<=sizeLine)
  (hR:∀(h':Heap) (tk:Nat) (acc:Array Value) (c':Nat),(∀b o,s.heap.get? b=some o->h'.get? b=some o)->h'.get? s.heap.objs.size=some {cls:=.type "list",dict:=none,data:=.seq acc c',slots:=#[]}->ItemsOf (fun i v=>∃e,es[i]?=some e/\v=e.key) acc es.size->R (.ok (.ret (.ref s.heap.objs.size))) {s with heap:=h',toks:=tk}):
  codeAny (model prog w) A (.builtin "proto.collect" ⟨[.ref d],[]⟩) R s:=by
 refine codeAny_builtin F.entry_proto_collect ?_
 rw[Around.under_plainId F.plain_proto_collect _];change wpAny _ A.in1 (newList [] >>= fun l=>again (.builtin "list.__iadd__" ⟨[l,.ref d],[]⟩)) _ _ s
 refine wpAny_bind (wpAny_newObj_type ?_)
 refine wpAny_pure ⟨plainId_quiet F.plain_list_iadd _,codeAny_builtin F.entry_list_iadd ?_⟩
 rw[Around.under_plainId F.plain_list_iadd _];have g0:(s.heap.push {cls:=.type "list",data:=.seq ([]:List Value).toArray}).get? s.heap.objs.size=some {cls:=.type "list",data:=.seq #[]}:=Heap.get?_push_size _ rfl
 change wpAny _ A.in1 (Builtin.List.listExtendWith (.ref s.heap.objs.size) (.ref d) (.ref s.heap.objs.size)) _ _ _;exact lD (s:={s with heap:=s.heap.push {cls:=.type "list",data:=.seq ([]:List Value).toArray}}) hh hd (Heap.get?_push_of_some _ ho) hc hdat hn _ g0 fun h' tk acc c' hk hS hacc=>hR h' tk acc c' (fun b ob e=>hk b ob (Nat.ne_of_lt (Heap.lt_size e)) (Heap.get?_push_of_some _ e)) hS hacc
theorem kf {Q:List Value->Shared->Prop}(hh:A.handled=none) {d:Addr}{o:Obj}{es:Array DictEntry}{ep:Nat}(hd:(d==sysModules)=false) (ho:s.heap.get? d=some o) (hc:o.ExactDict) (hdat:o.data=.dict es ep) (hn:es.size<=sizeLine)
  (hQ:∀(h':Heap) (tk:Nat) (acc:Array Value),(∀b o,s.heap.get? b=some o->h'.get? b=some o)->s.heap.objs.size<=h'.objs.size->ItemsOf (fun i v=>∃e,es[i]?=some e/\v=e.key) acc es.size->Q acc.toList {s with heap:=h',toks:=tk}):wpAny (model prog w) A (collect (.ref d)) Q E s:=by
 unfold collect;refine wpAny_bind (wpAny_runValue (kB hh hd ho hc hdat hn fun h' tk acc c' kp hS hacc=>?_))
 exact wpAny_bind (wpAny_load hS (wpAny_pure (hQ h' tk acc kp (Nat.le_of_lt (Heap.lt_size hS)) hacc)))
end
theorem o9 {es:Array DictEntry}{f:D×Addr×Value->DictEntry}(hf:∀q,(f q).key=.ref q.2.1) {xs:List (D×Addr×Value)}(h4:es.toList=xs.map f) {acc:Array Value}(hacc:ItemsOf (fun i v=>∃e,es[i]?=some e/\v=e.key) acc es.size):Vals (xs.map fun q=>V.ref q.2.1) acc.toList:=by
 have hlen:acc.toList.length=xs.length:=by rw[Array.length_toList,hacc.1,<-Array.length_toList,h4,List.length_map]
 have key:∀(l:List (D×Addr×Value)) (m:List Value),m.length=l.length->(∀(i:Nat) q v,l[i]?=some q->m[i]?=some v->v=.ref q.2.1)->Vals (l.map fun q=>V.ref q.2.1) m:=by
  intro l
  induction l with
  |nil=>intro m hm _;cases m with
   |nil=>exact .nil
   |cons _ _=>simp at hm
  |cons q l ih=>intro m hm hp;cases m with
   |nil=>simp at hm
   |cons v m=>exact .cons (hp 0 q v rfl rfl) (ih m (by simpa using hm) fun i q' v' a1 a2=>hp (i+1) q' v' (by simpa using a1) (by simpa using a2))
 refine key xs acc.toList hlen fun i q v a1 a2=>?_
 obtain⟨e,he,rfl⟩:=hacc.2 i v (by simpa using a2)
 have:es.toList[i]?=some (f q):=by rw[h4,List.getElem?_map,a1];rfl
 rw[Array.getElem?_toList,he]at this
 rw[Option.some.inj this];exact hf q
section
variable{X:Cx}{m:Bool}{a:Expr}{fa:DEnv->Option D}{pos p:Pos}
theorem ko {c:KD}(hc:X.calm=true) (hu:X.A.units+64<cLine):fA X (.builtin "sorted") (fun xs H Q=>∃(B:Addr->Prop) (d:Addr) (kvs:List (D×V)) (ep:Nat),xs=[.ref d]/\Rd H d (.dD kvs ep)/\kvs.length<64/\gp (kvs.map (·.1))=true/\(kvs.map (·.1)).all (eW c)=true/\
  ∀l zs,H l=none->Reps X.K B H (cH (kvs.map (·.1))) zs->Q (.ref l) (upd H l (.lst zs))):=by
 intro pins s σ H xs us Q I rv h;obtain⟨B,d,kvs,ep,rfl,rd,h64,h1,h2,k⟩:=h;obtain⟨u,rfl,ru⟩:=rv.one;obtain rfl:u=Value.ref d:=ru;obtain⟨z,y,xs,r,o,es,e1,e2,e3,e4,e5⟩:=(show ObjOk X.prog X.w H s.heap d (.dD kvs ep) from gB I.hok rd)
 have hsz:es.size=kvs.length:=by rw[size_of_entries e4,<-Paired.length r]
 refine Calls.call_function_entry kind_sorted plain_sorted entry_sorted (args_sorted1 _) ?_
 unfold Builtin.«sorted»;refine wpAny_bind (m:=checkCount "sorted" 1 1 _) (wpAny_pure (wpAny_bind (kf (A:=X.A.in1) (I.ok.hd hc) y e1 e2 e3 (by rw[hsz];exact z) fun h' tk acc kp hz hacc=>?_)))
 exact fm (t1:=tk) hu I kp hz (KRs.rep (K:=X.K) (B:=B) r.keys) (o9 (fun _=>rfl) e4 hacc) (by rw[List.length_map];exact h64) h1 h2 k
noncomputable def fv (c:KD) (x:Option D):Option D:=match x with|some (.dD ks vs)=>if(decide (ks.length<64)&&gp ks&&ks.all (eW c))=true then some (.lst (cH ks)) else none|_=>none
theorem gH {c:KD}(hc:X.calm=true) (hu:X.A.units+64<cLine) (g:Gl X "sorted") (hm:X.mg "sorted"=none) (ha:DE X false a fa) (hs:starEach [a] X.env=[(false,eval a X.env)]):DF X (.Call (.Name "sorted" p) [a] [] pos) (fun δ=>fv c (fa δ)):=
 (dg (ko (c:=c) hc hu) g hm fK (av ha aT hs) (he:=hs)).imp fun σ H Q hz=>by
  obtain⟨B,Hk,δ,d,R,e,k⟩:=hz;unfold fv at e;split at e
  ·by_cases cc:(decide (ks.length<64)&&gp ks&&ks.all (eW c))=true
   ·rw[if_pos cc]at e;obtain rfl:=Option.some.inj e
    rw[Bool.and_eq_true,Bool.and_eq_true]at cc;obtain⟨⟨c1,c2⟩,c3⟩:=cc;refine rH R (by assumption) fun v H' s R' r=>?_
    simp only[Rep]at r;obtain⟨l,kvs,rfl,⟨ep,hq⟩,rfl,rs⟩:=r;refine⟨B,l,kvs,ep,rfl,?_,by have:=of_decide_eq_true c1;rw[List.length_map]at this;exact this,c2,c3,fun l' zs hl rz=>?_⟩
    ·rcases hq with⟨b,hq⟩|⟨o,hq⟩
     ·exact .inl hq
     ·exact .inr ⟨o,hq⟩
    ·have s2:=az (o:=.lst zs) hl
     exact k l' _ (s.trans s2) (s.free hl) ⟨_,ag,rz.same (m:=false) R' s2⟩
   ·rw[if_neg cc]at e;exact nomatch e
  ·exact nomatch e
end
theorem tV {prog:Program}{w:World}{A:Around}{t:Bool}(hh:A.handled=none) (c q:Addr) (ne:q≠c) (vs:Array Value):Draws prog w A c [c,q] vs.size (fun i v=>vs[i]?=some v) (fun i h=>ItAt t h c q i/\SqAt t h q vs) where
 live:=fun _ _ st=>by obtain⟨o,e,_⟩:=st.1.obj;exact⟨o,e⟩
 frame:=fun _ _ _ st hk=>⟨st.1.to fun o e=>hk c (by simp) o e,st.2.to fun o e=>hk q (by simp) o e⟩
 item:=fun i s Q E hi st hQ=>yv hh st.1 st.2 (fun v hv h' it' sb=>hQ v h' s.toks hv ⟨it',st.2.to fun o e=>sb.extBut q o ne e⟩ sb) fun hn=>by
  rw[Array.getElem?_eq_getElem hi]at hn;contradiction
 done:=fun s Q E st hE=>yv hh st.1 st.2 (fun v hv=>by rw[Array.getElem?_eq_none (Nat.le_refl _)]at hv;contradiction) fun _ h' e x y=>hE h' e x y
noncomputable def Bm (K:PySem.W.Frag) (p:Addr):It:=
 ⟨fun i H=>∃xs x,SqT K H p xs/\xs[i]?=some x,
  fun i H v H'=>∃T x,H T=none/\v=.ref T/\H'=upd H T (.tup [.int i,x])/\∀xs,SqT K H p xs->xs[i]?=some x,
  fun i H=>∃xs,SqT K H p xs/\xs.length<=i⟩
structure EnT (h:Heap) (e c p:Addr) (n:Nat):Prop where
 ee:∃old,IsEnum h e c n old
 cc:ItAt true h c p n
theorem nz {P:Program}{w:World}{K:PySem.W.Frag}{elts:List Expr}{x1} {pos:Pos}{e c p:Addr}(ne:e≠c) (np:p≠c) (nq:e≠p):
  Turn P w K (.Tuple elts x1 pos) (Bm K p) [e,c] e (fun n h=>EnT h e c p n) where
 mem:=by simp
 obj:=fun i h st b hb=>by
  obtain⟨⟨old,ee⟩,cc⟩:=st;simp only[List.mem_cons,List.not_mem_nil,or_false]at hb
  rcases hb with rfl|rfl
  ·exact⟨_,ee,fun v e=>by cases e⟩
  ·obtain⟨o,g,_,hd⟩:=cc.obj;exact⟨o,g,fun v e'=>by rw[hd]at e';cases e'⟩
 keep:=fun i h h' st k=>by
  obtain⟨⟨old,ee⟩,cc⟩:=st;exact⟨⟨old,k e (by simp) _ ee⟩,cc.to fun o g=>k c (by simp) o g⟩
 item:=by
  intro X hP hw hK hc i pins s σ H E I hf st hg;subst hP hw hK;obtain⟨xs,x,h1,hx⟩:=hg;obtain⟨is,ri,sp,_⟩:=I.tuple h1;obtain⟨ux,e1,r1⟩:=ri.get hx;obtain⟨⟨old,ee⟩,cc⟩:=st;have hlt:i<is.toArray.size:=by rw[List.size_toArray];exact(List.getElem?_eq_some_iff.mp e1).1
  have hsq:SqAt true s.heap p is.toArray:=sp;refine wpAny_pyNext_enum_itemD (tV (A:=X.A.in1) (t:=true) (I.ok.hd hc) c p np is.toArray) ee ⟨cc,hsq⟩ hlt ne (by simp[ne,nq]) fun ux' h' tk hu out st' new sz k=>⟨_,rfl,?_⟩
  obtain rfl:ux=ux':=by
   have:is[i]?=some ux':=by simpa using hu
   rw[e1]at this;exact Option.some.inj this
  have cc':=st'.1;have hT:H s.heap.objs.size=none:=I.hok.fresh (Nat.le_refl _);have nT:∀b∈[e,c],b≠s.heap.objs.size:=fun b hb q=>by
   simp only[List.mem_cons,List.not_mem_nil,or_false]at hb
   rcases hb with rfl|rfl
   ·rw[q]at ee;exact absurd (Heap.lt_size ee) (Nat.lt_irrefl _)
   ·obtain⟨o,g,_⟩:=cc.obj;rw[q]at g;exact absurd (Heap.lt_size g) (Nat.lt_irrefl _)
  have I1:Inv X pins σ (upd H s.heap.objs.size (.tup [.int i,x])) {s with heap:=h',toks:=tk+1}:=I.turnLay (fp:=[e,c]) (fun b o hb q=>k b o (fun z=>hb (by simp[z])) (fun z=>hb (by simp[z])) q) hf (Nat.le_refl _)
   ⟨by show 2<=sizeLine;decide,[.int i tk,ux],.cons ⟨_,rfl⟩ (.cons r1 .nil),⟨_,new,rfl,_,rfl⟩⟩
  refine wm (s:={s with heap:=h',toks:=tk+1}) out fun g2 e2 m2=>?_
  have hz:=hf e (by simp)
  refine⟨.ref s.heap.objs.size,upd H s.heap.objs.size (.tup [.int i,x]),I1.turned (t':=tk+1) (fun b o hb q=>ak m2 hb q) (by rw[aj (nT e (by simp))];exact hz.1) hz.2.1 hz.2.2.2.1 hz.2.2.2.2.1 hz.2.2.2.2.2,rfl,
   ⟨s.heap.objs.size,x,hT,rfl,rfl,fun xs' h=>by rw[I.tuple_inj h h1];exact hx⟩,⟨⟨_,e2⟩,cc'.to fun o g=>ak m2 (Ne.symm ne) g⟩,fun b hb=>by rw[aj (nT b hb)];exact(hf b hb).1⟩
 done:=by
  intro X hP hw hK hc i pins s σ H E I hf st hg;subst hP hw hK;obtain⟨xs,h1,hl⟩:=hg;obtain⟨is,ri,sp,_⟩:=I.tuple h1;have l1:=ri.length;obtain⟨⟨old,ee⟩,cc⟩:=st;have hsq:SqAt true s.heap p is.toArray:=sp;have ty:s.TypeIs (.ref e) "enumerate":=⟨_,ee,rfl⟩;unfold pyNext;refine wpAny_bind (wpAny_attempt (wpAny_callSpecial?_slot (name:=Str.ofString "__next__") ty F.slot_enumerate_next (wpAny_call_entry F.slot_enumerate_next ty F.entry_enumerate_next ?_ (F.args_enumerate_next_1 _))))
  change wpAny _ _ (field (.ref e) 2 >>= _) _ _ _;refine wpAny_bind (wpAny_field ee rfl (x:=.ref c) rfl (wpAny_bind (yv (t:=true) (A:=X.A.in1) (I.ok.hd hc) cc hsq (fun v hv=>?_) fun hn h' x eb hx=>?_)))
  ·have:is[i]?=some v:=by simpa using hv
   rw[List.getElem?_eq_none (by lia)]at this;contradiction
  ·obtain⟨o,ho,hcl⟩:=hx
   refine wpAny_bind (wpAny_isInstance (T:="StopIteration") (b:=true) ⟨o,ho,hcl⟩ isSubtype_stop ?_)
   exact wpAny_pure ⟨rfl,I.turns (t':=s.toks) (fp:=[e,c]) (fun b o hb q=>eb b o (fun z=>hb (by simp[z])) q) hf⟩
 self:=fun _ _ _ _ _ st h=>by obtain⟨⟨old,ee⟩,cc⟩:=st;exact wpAny_pyIter_enum ee h
noncomputable def enT (h:Heap) (p:Addr):Heap:=(h.push (itO true p)).push {cls:=.type "enumerate",data:=.fields #[.none,.bool false,.ref h.objs.size,rawInt 0,.none,.none]}
set_option tactic.hygienic true in
theorem o7 (p:Addr) (xs:Array Value):Meets (Builtin.«enumerate.__new__» ⟨[.type "enumerate",.ref p],[]⟩) (fun _ R s=>SqAt true s.heap p xs/\R (.ok (.ret (.ref (s.heap.push (itO true p)).objs.size))) {s with heap:=enT s.heap p}):=
 .of_wp fun prog w A R s h=>by
  obtain⟨hp,g,d,tk,os⟩:=s;obtain⟨h1,h⟩:=h;have hsub:=sub_enumerate;have k1:SqAt true (Shared.heap ⟨hp,g,d,tk,os⟩) p xs:=h1
  wp_walk using dY k1
  refine wpAny_stack_any fun st=>wpAny_pure ?_
  split
  ·rename_i c0 _ _ _ _ _
   cases (c0==Value.type "enumerate")<;>(wp_walk using dY k1;exact⟨_,rfl,h⟩)
  ·wp_walk using dY k1
   exact⟨_,rfl,h⟩
theorem nO {prog:Program}{w:World}{A:Around}{E:Value->Shared->Prop}{s:Shared}{p:Addr}{xs:Array Value}{Q:Value->Shared->Prop}(hp:SqAt true s.heap p xs)
  (h:∀h',IsEnum h' (s.heap.objs.size+1) s.heap.objs.size 0 .none->ItAt true h' s.heap.objs.size p 0->(∀b o,s.heap.get? b=some o->h'.get? b=some o)->Q (.ref (s.heap.objs.size+1)) {s with heap:=h'}):
  wpAny (model prog w) A (call (.type "enumerate") [.ref p]) Q E s:=by
 refine callType_new F.called_enumerate (by decide) (F.typeCall_enumerate_1 _) (F.newCall_enumerate_1 _) (fun obj=>F.args_object_init_2 obj _) F.entry_enumerate_new (o7 p xs) ⟨hp,?_⟩
 have s1:(s.heap.push (itO true p)).objs.size=s.heap.objs.size+1:=Heap.size_push ..;have e5:(enT s.heap p).get? (s.heap.push (itO true p)).objs.size=some {cls:=.type "enumerate",data:=.fields #[.none,.bool false,.ref s.heap.objs.size,rawInt 0,.none,.none]}:=Heap.get?_push_size _ rfl
 have c5:(enT s.heap p).get? s.heap.objs.size=some (itO true p):=Heap.get?_push_of_some _ (Heap.get?_push_size _ rfl)
 rw[s1]at e5;refine⟨⟨_,by rw[s1];exact e5,rfl⟩,?_⟩
 rw[s1];exact h _ e5 ⟨_,c5,rfl,rfl⟩ fun b o e=>Heap.get?_push_of_some _ (Heap.get?_push_of_some _ e)
section
variable{X:Cx}{elts:List Expr}{x1:Nat}{tp:Pos}{m:Bool}{a:Expr}{fa:DEnv->Option D}{p pos:Pos}
noncomputable def yJ (K:PySem.W.Frag) (ta:TA):TI:=fun σ H R=>ta σ H fun vs H1=>∃p,vs=[.ref p]/\(∃xs,SqT K H1 p xs)/\R (Bm K p) H1
theorem tR {ta:TA}(hg:Gl X "enumerate") (hm:X.mg "enumerate"=none) (ha:PA X [a] ta) (hs:starEach [a] X.env=[(false,eval a X.env)]):
  PI X (.Tuple elts x1 tp) (.Call (.Name "enumerate" p) [a] [] pos) (yJ X.K ta):=by
 intro pins s σ H R I h;refine Call_ (gR I hg hm boot_enumerate (PyProof.Rows.callWith_type1 (thn (ha pos pins s σ H _ I h) fun us s1 hz=>?_) hs rfl))
 obtain⟨vs,H1,I1,r1,l1,e,⟨xs,h1⟩,q⟩:=hz;subst e;obtain⟨u,rfl,ru⟩:=r1.one;obtain rfl:u=Value.ref l1:=ru;obtain⟨is,ri,sp,_⟩:=I1.tuple h1;have lt:l1<s1.heap.objs.size:=by obtain⟨o,e,_⟩:=sp;exact Heap.lt_size e
 refine nO (p:=l1) (xs:=is.toArray) sp fun h' ee cc k=>?_
 have I2:Inv X pins σ H1 {s1 with heap:=h'}:=I1.kept (t':=s1.toks) k
 refine wpAny_pyIter_enum (s:={s1 with heap:=h'}) ee ⟨s1.heap.objs.size+1,[s1.heap.objs.size+1,s1.heap.objs.size],_,_,H1,rfl,I2,nz (Nat.ne_of_gt (Nat.lt_succ_self _)) (Nat.ne_of_lt lt) (Nat.ne_of_gt (Nat.lt_succ_of_lt lt)),⟨⟨_,ee⟩,cc⟩,fun b hb=>?_,q⟩
 have hb':s1.heap.objs.size<=b:=by
  simp only[List.mem_cons,List.not_mem_nil,or_false]at hb
  rcases hb with rfl|rfl
  ·exact Nat.le_succ _
  ·exact Nat.le_refl _
 exact I1.fpOk hb' (I1.hok.fresh hb')
noncomputable def mN (x:Option D):Option (List D):=match x with|some (.tup ds)=>some (gx 0 ds)|_=>none
theorem s0 (g:Gl X "enumerate") (hm:X.mg "enumerate"=none) (h:DE X m a fa) (hs:starEach [a] X.env=[(false,eval a X.env)]):
  DI X m (.Tuple elts x1 tp) (.Call (.Name "enumerate" p) [a] [] pos) (fun δ=>mN (fa δ)):=
 (tR g hm (av h aT hs) hs).imp fun σ H Q hz=>by
  obtain⟨B,Hk,δ,ds,R,e,k⟩:=hz;unfold mN at e;split at e
  ·rename_i as q1
   obtain rfl:=Option.some.inj e;refine rH R q1 fun v H' s R' r1=>?_
   simp only[Rep]at r1;obtain⟨l1,xs,rfl,hq,rs⟩:=r1;refine⟨l1,rfl,⟨xs,SqT.of hq⟩,k _ H' s fun H2 x=>?_⟩
   have hx:=SqT.of (K:=X.K) (x.tups _ _ hq);have rx:=rs.ext x;refine⟨⟨xs,hx,by rw[fQ,rx.length];exact Nat.le_refl _⟩,fun i d hd=>?_⟩
   obtain⟨d1,g1,rfl⟩:=jJ _ _ _ _ hd;obtain⟨y1,w1,z1⟩:=rx.get g1;refine⟨⟨xs,y1,hx,w1⟩,fun v H3 hz=>?_⟩
   obtain⟨T,v1,hT,ev,e3,n1⟩:=hz;have:=n1 xs hx;rw[w1]at this;obtain rfl:=Option.some.inj this;have sm:Same H2 (upd H2 T (.tup [.int i,y1])):=az hT;have bo:∀a,bF m B δ σ a->∃o:HOn,H2 a=some o.1:=fun a ha=>by
    obtain⟨o,ho⟩:=R'.bsH m a ha;exact⟨o,(x.lent a ha).trans ho⟩
   have ex:=sm.ext bo;rw[e3,ev];refine⟨sm,?_⟩
   simp only[Rep];refine⟨T,[.int i,y1],rfl,ag,Reps.cons ?_ (Reps.cons (z1.ext ex) Reps.nil)⟩
   simp only[Rep,Nat.zero_add]
  ·contradiction
end
theorem vB {X:Cx}{mm:Bool}{a:Expr}{fa:DEnv->Option D}{op:BoolOp}{pos:Pos}(ha:DE X mm a fa):DE X mm (.BoolOp op [a] pos) fa:=yr ha rfl
end L2
namespace L2
open PySem
noncomputable def Txb (bl:List Str) (mg:Str->Option Value):Prop:=∀x∈bl,mg x=none
theorem Txb.get {bl:List Str}{mg:Str->Option Value}{x:Str}(T:Txb bl mg) (h:decide (x∈bl)=true):mg x=none:=T x (of_decide_eq_true h)
theorem us0 {P:List Value->Prop}(h:P []):∀us:List Value,us.length=0->P us
 |[],_=>h
theorem usS {n:Nat}{P:List Value->Prop}(h:∀a us,us.length=n->P (a::us)):∀us:List Value,us.length=n+1->P us
 |a::us,e=>h a us (Nat.succ.inj e)
noncomputable def Df (K:PySem.W.Frag) (mg:Str->Option Value) (x:Str) (st:Stmt):Prop:=∃f fd,Fun K x x st f fd/\mg x=some (.ref f)
section
variable[Lams] {P:Program}{w:World}{K:PySem.W.Frag}{mg:Str->Option Value}{base:Heap}{x:Str}{st:Stmt}{f:Addr}
theorem df_mk {h:Heap}{oc:Value}{od an:Option Addr}{sl:Array (Option Value)}{kV dc pm cd ct:Value}(X:K.In h) (G:h.Ns mainGlobals mg) (a:PySem.W.nsIn K mainGlobals x=some (some (.ref f)))
  (l:K.lookup f=some ⟨oc,od,.func (PySem.W.fnOf x x (cE st) (aN st) (ai st) .none kV dc pm an cd ct),sl⟩) (c:PySem.W.codeIn K cd x=true) (k:PySem.W.keepIn K (.ref f)=true):Df K mg x st:=
 ⟨f,_,uL l c k,PySem.W.mg_of X G a⟩
theorem mkF {fd:FuncData}{k:Nat}(n:Nat) (N:List Str) (g:DEnv->Option Out) (F:Fun K x x st f fd) (hm:mg x=some (.ref f)) (S:FnScope N (N.take n) (ai st))
  (hb:∀(kV doc pm:Value) (an:Option Addr) (cdv ct:Value) (us:List Value),us.length=(N.take n).length->bindArgs (PySem.W.fnOf x x (cE st) (aN st) (ai st) .none kV doc pm an cdv ct) ⟨us,[]⟩=pure ((N.take n).zip us))
  (body:∀X:Cx,X.prog=P->X.w=w->X.K=K->X.mg=mg->X.base=base->Has X N (ai st)->(∀x,X.fn x=true)->PassesOwn (model X.prog X.w) X.A X.env X.xe->Room k X.A->DSs X (aN st) g):
  FnOk P w K mg base CX0 (k+1) f fd (N.take n) (spM K (eU N.length (N.take n).length g))/\FnM P w K mg base (k+1) x (eU N.length (N.take n).length g):=
 mf (P:=P) (w:=w) (base:=base) (g:=g) F S (F.binds hb) hm (by rw[List.length_take];exact Nat.min_le_right ..) fun cdv A outer s H E hr=>body _ rfl rfl rfl rfl rfl (w8 S.nd) (fun _=>rfl) PassesOwn.never hr
theorem mk {k:Nat}(n:Nat) (N:List Str) (g:DEnv->Option Out) (D:Df K mg x st) (S:FnScope N (N.take n) (ai st))
  (hb:∀(kV doc pm:Value) (an:Option Addr) (cdv ct:Value) (us:List Value),us.length=(N.take n).length->bindArgs (PySem.W.fnOf x x (cE st) (aN st) (ai st) .none kV doc pm an cdv ct) ⟨us,[]⟩=pure ((N.take n).zip us))
  (body:∀X:Cx,X.prog=P->X.w=w->X.K=K->X.mg=mg->X.base=base->Has X N (ai st)->(∀x,X.fn x=true)->PassesOwn (model X.prog X.w) X.A X.env X.xe->Room k X.A->DSs X (aN st) g):FnM P w K mg base (k+1) x (eU N.length (N.take n).length g):=by
 obtain⟨f,fd,F,hm⟩:=D;exact(mkF n N g F hm S hb body).2
end
end L2
namespace K51
open PySem L2
variable[Lams]
local macro_rules| `(tactic|walk_at "z")=> `(tactic|first
 |fail_if_success refine(?_:(_:Prop))
 |rfl
 |assumption
 |(((with_reducible first|refine' @nv .. |refine' @aM .. |refine' @bw .. |refine' @cG .. |refine' @db .. |refine' @yw .. |refine' @oO .. |refine' @pr .. |refine' @vh .. |refine' @yE .. |refine' @mC .. |refine' @pV .. |refine' @zt .. |refine' @ie .. |refine' @yg .. |refine' @tL .. |refine' @eP .. |refine' @Ah .. |refine' @zm .. |refine' @zC .. |refine' @nH .. |refine' @mU .. |refine' @vE .. |refine' @gH .. |refine' @hZ .. |refine' @bK .. |refine' @tJ .. |refine' @q5 .. |refine' @jE .. |refine' @cx .. |refine' @md .. |refine' @iH .. |refine' @sA .. |refine' @pA .. |refine' @yu .. |refine' @xz .. |refine' @jm .. |refine' @r9 .. |refine' @mI .. |refine' @qr .. |refine' @oC .. |refine' @t7 .. |refine' @eD .. |refine' @sQ .. |refine' @we .. |refine' @vJ .. |refine' @sx .. |refine' @m8 .. |refine' @nJ .. |refine' @uD .. |refine' @kW .. |refine' @gM .. |refine' @wP .. |refine' @oE .. |refine' @sk .. |refine' @rS .. |refine' @aB .. |refine' @af .. |refine' @lG .. |refine' @bP .. |refine' @xD .. |refine' @s0 .. |refine' @kJ .. |refine' @yZ .. |refine' @rK .. |refine' @xS .. |refine' @b0 .. |refine' @r6 .. |refine' @vG .. |refine' @qS .. |refine' @oa .. |refine' @fX .. |refine' @pN .. |refine' @kI .. |refine' @qL .. |refine' @sj .. |refine' @pU .. |refine' @vB .. |refine' @iJ .. |refine' @wS .. |refine' @bS .. |refine' @bp .. |refine' @DF.share .. |refine' @jF .. |refine' @gK .. |refine' PW.pt ..)<;>walk_at "z");all_goals exact false)
 |(have h:=(by assumption:Has _ _ _);first|exact Has.nm h (by decide +kernel)|exact Has.nm (Has.comp h ..) (by decide +kernel)|exact Has.nm (Has.comp (Has.comp h ..) ..) (by decide +kernel))
 |(have h:=(by assumption:Has _ _ _);first|exact Has.lc h (by assumption) (by decide +kernel)|exact Has.lcl (Has.comp h ..) (by decide +kernel)|exact Has.lcl (Has.comp (Has.comp h ..) ..) (by decide +kernel))
 |(refine Gb.gl ?_;walk_at "z")
 |(have h:=(by assumption:Has _ _ _);first|exact Has.gb h (by decide +kernel)|exact Has.gb (Has.comp h ..) (by decide +kernel)|exact Has.gb (Has.comp (Has.comp h ..) ..) (by decide +kernel))
 |(have h:=(by assumption:Txb _ _);exact Txb.get h (by decide +kernel))
 |(have h:=(by assumption:Room _ _);exact Room.mono h (by decide))
 |(have h:=(by assumption:Has _ _ _);first|exact Has.calm h|exact Has.calm (Has.comp h ..)|exact Has.calm (Has.comp (Has.comp h ..) ..))
 |(have h:=(by assumption:Has _ _ _);first|exact Has.nd h|exact Has.nd (Has.comp h ..)|exact Has.nd (Has.comp (Has.comp h ..) ..))
 |(have h:=(by assumption:Has _ _ _);first|exact CompScope.of' h (by decide +kernel)|exact CompScope.of' (Has.comp h ..) (by decide +kernel))
 |exact cw _
 |exact ox _ _ (by decide)
 |exact xQ
 |exact AH
 |exact AW
 |exact AF
 |exact zf
 |exact wy
 |exact uu
 |exact wR
 |exact io
 |exact bN (bN fY)
 |exact bN fY
 |exact bN (bN (bN fY))
 |(have h:=(by assumption:Has _ _ _);exact da h (by decide +kernel))
 |decide +kernel
 |decide
 |(simp;done)
 |(intros;rfl)
 |(intro _;walk_at "z"))
local macro_rules| `(tactic|walk_at "sc")=> `(tactic|first
 |exact⟨rfl,rfl,rfl,by decide +kernel,rfl,by decide +kernel,by decide +kernel⟩)
local macro_rules| `(tactic|walk_at "bi")=> `(tactic|first
 |exact fun _ _ _ _ _ _=>usS fun _=>us0 rfl
 |exact fun _ _ _ _ _ _=>usS fun _=>usS fun _=>us0 rfl
 |exact fun _ _ _ _ _ _=>usS fun _=>usS fun _=>usS fun _=>us0 rfl
 |exact fun _ _ _ _ _ _=>usS fun _=>usS fun _=>usS fun _=>usS fun _=>us0 rfl
 |exact fun _ _ _ _ _ _=>usS fun _=>usS fun _=>usS fun _=>usS fun _=>usS fun _=>us0 rfl)
local macro_rules| `(tactic|walk_at "mk")=> `(tactic|first
 |(intro X e1 e2 e3 e4 e5 h f p r;subst e1 e2 e3 e4 e5;have u:=r.units;(conv in aN _=>whnf);walk_at "z"))
noncomputable def top (i:Nat):Stmt:=PySem.Challenge.pw_mustrows_k51_ranks_of_a_rule.main.body.getD i (.Pass ⟨0,0,0,0⟩)
noncomputable abbrev A5:Stmt:=top 1
noncomputable abbrev Bk:Stmt:=top 3
noncomputable abbrev xc:Stmt:=top 9
noncomputable abbrev wX:Stmt:=top 8
noncomputable abbrev Bl:Stmt:=top 10
noncomputable abbrev A2:Stmt:=top 7
noncomputable abbrev xm:Stmt:=top 6
noncomputable abbrev xi:Stmt:=top 5
noncomputable abbrev Bp:Stmt:=top 12
noncomputable abbrev Bo:Stmt:=top 13
noncomputable abbrev Bn:Stmt:=top 14
noncomputable abbrev A1:Stmt:=top 15
noncomputable abbrev Bj:Stmt:=top 16
noncomputable abbrev Br:Stmt:=top 17
noncomputable abbrev Bd:Stmt:=top 18
noncomputable abbrev Bh:Stmt:=top 19
noncomputable abbrev fE:Stmt:=top 20
noncomputable abbrev Txt:(Str->Option Value)->Prop:=Txb (["bool","dict","enumerate","int","isinstance","len","list","range","set","sorted","str","tuple","zip"]:List Str)
noncomputable abbrev BR:List Str:=["patterns","letters","table","terms","term"]
noncomputable abbrev mS (δ:DEnv):Option D:=ixO (rd false 4 δ) (some (.int 1))
noncomputable abbrev uo (δ:DEnv):Option Out:=nV 1 (aJ (ac (vW (rd false 3 δ)) (dG false [false,false,false,false,false] (ae 4) (fun δ=>eqO (ixO (rd false 4 δ) (some (.int 0))) (some (.str "any"))) mS δ))) δ
noncomputable abbrev uh (δ:DEnv):Option Out:=kX (cY (rd false 1 δ))
noncomputable abbrev AQ (δ:DEnv):Option Out:=ba (gN 1 (dH (some [])) δ) (fun δ=>ba (ac (en (rd false 0 δ)) fun ds=>aR (fun d δ=>ac ((bg (am (ae 2) (am (ae 3) (toNil)))) d δ) uo) ds δ) (fun δ=>uh (frzE 1 δ)))
noncomputable def f_q0:List D->Option (D×Bool):=eU 5 1 AQ
noncomputable abbrev Cn:List Str:=["rule","known","letter"]
noncomputable abbrev qE (δ:DEnv):Option D:=rd false 2 δ
noncomputable abbrev AR (δ:DEnv):Option Out:=ba (dE 1 (frO (ac (ad (ixO (rd false 0 δ) (some (.int 1))) (some [])) f_q0)) δ) (fun δ=>kX (aJ (ac (en (frO (ac (ad (ixO (rd false 0 δ) (some (.int 2))) (some [])) f_q0))) (dG false [false,true,false] (ae 2) (fun δ=>bZ (rd false 2 δ) (rd false 1 δ)) qE δ))))
noncomputable def f_q1:List D->Option (D×Bool):=eU 3 1 AR
noncomputable abbrev zU:List Str:=["arrows","first","ways","reached","further","place","target"]
noncomputable abbrev cz (δ:DEnv):Option D:=dH (ad (rd false 1 δ) (some []))
noncomputable abbrev aA (δ:DEnv):Option Bool:=nX (rd false 3 δ)
noncomputable abbrev bv (δ:DEnv):Option D:=dH (some [])
noncomputable abbrev bu (δ:DEnv):Option D:=rd false 6 δ
noncomputable abbrev bJ (δ:DEnv):Option (List D):=ij (gt (rd false 0 δ) (rd false 5 δ))
noncomputable abbrev cB (δ:DEnv):Option (List D):=en (rd false 3 δ)
noncomputable abbrev zG (δ:DEnv):Option (List (D×D)):=oH 2 1 (rJ 3 cz) (bQ aA (mz (xn 4 bv) (mz (kZ cB (ae 5) (kZ bJ (ae 6) (xv 6 (mz (yj 6 5) (w9 4 bu)) (gSkip)))) (oZ 3 4))) 1000) δ
noncomputable def f_q6:List D->Option (List (D×D)):=yn 7 2 zG
noncomputable abbrev Av:List Str:=["arrows","first","ways","last"]
noncomputable abbrev be (δ:DEnv):Option (List D):=ij (rd false 0 δ)
noncomputable abbrev ay (δ:DEnv):Option (List D):=ad (rd false 0 δ) (ad (rd false 1 δ) (some []))
noncomputable abbrev ah (δ:DEnv):Option Bool:=eqO (j9 (gt (rd false 0 δ) (rd false 3 δ)) (rd false 1 δ) (some (.int 0))) (some (.int 1))
noncomputable abbrev g_q5 (δ:DEnv):Option Out:=pG 1 2 3 be (fun δ=>ac (ay δ) f_q6) ah δ
noncomputable def f_q5:List D->Option (D×Bool):=eU 4 1 g_q5
noncomputable abbrev Bz:List Str:=["arrows","rank_of","rising","place","targets","target","growth"]
noncomputable abbrev mM (δ:DEnv):Option D:=dR (ad (rd false 3 δ) (ad (some (.int 0)) (some [])))
noncomputable abbrev jn (δ:DEnv):Option Out:=ifO (cI gLt (gt (rd true 1 δ) (rd false 5 δ)) (mO (gt (rd true 1 δ) (rd false 3 δ)) (rd false 6 δ))) (ba (jo 1 (rd false 5 δ) (mO (gt (rd true 1 δ) (rd false 3 δ)) (rd false 6 δ)) δ) (fun δ=>dE 2 (some (.bl true)) δ)) (nextO δ)
noncomputable abbrev oY (δ:DEnv):Option Out:=ac (cN (rd false 4 δ)) fun ds=>aR (fun d δ=>ac ((bg (am (ae 5) (am (ae 6) (toNil)))) d δ) jn) ds δ
noncomputable abbrev gf (δ:DEnv):Option Bool:=tyB (rd false 2 δ)
noncomputable abbrev eO (δ:DEnv):Option Out:=ba (dE 2 (some (.bl false)) δ) (fun δ=>ac (cN (rd false 0 δ)) fun ds=>aR (fun d δ=>ac ((bg (am (ae 3) (am (ae 4) (toNil)))) d δ) oY) ds δ)
noncomputable abbrev Be (δ:DEnv):Option Out:=ba (gN 1 (gZ (aJ (ac (ij (rd false 0 δ)) (dG false [false,false,false,false,false,false,false] (ae 3) (fun δ=>some true) mM δ)))) δ) (fun δ=>ba (dE 2 (some (.bl true)) δ) (fun δ=>ba (ck gf eO 1000 δ) (fun δ=>kX (bD 1 δ))))
noncomputable def f_q7:List D->Option (D×Bool):=eU 7 1 Be
noncomputable abbrev Cg:List Str:=["patterns","spots","table","terms","term","column"]
noncomputable abbrev o3 (δ:DEnv):Option D:=dR (ad (rd false 4 δ) (ad (dR (ad (rd false 2 δ) (ad (rd false 5 δ) (some [])))) (some [])))
noncomputable abbrev uv (δ:DEnv):Option Out:=nV 1 (aJ (ac (mN (rd false 3 δ)) (dG false [false,false,true,false,false,false] (bg (am (ae 5) (am (ae 4) (toNil)))) (fun δ=>some true) o3 δ))) δ
noncomputable abbrev Al (δ:DEnv):Option Out:=ba (gN 1 (dH (some [])) δ) (fun δ=>ba (ac (en (rd false 0 δ)) fun ds=>aR (fun d δ=>ac ((bg (am (ae 2) (am (ae 3) (toNil)))) d δ) uv) ds δ) (fun δ=>kX (bD 1 δ)))
noncomputable def f_q4:List D->Option (D×Bool):=eU 6 1 Al
noncomputable abbrev Ae:List Str:=["arrows","rule","body","head","term","place","new_terms","lasting","targets","other","target","letter"]
noncomputable abbrev b9 (δ:DEnv):Option D:=frO (ac (ad (ixO (rd false 1 δ) (some (.int 1))) (some [])) f_q4)
noncomputable abbrev b8 (δ:DEnv):Option D:=frO (ac (ad (ixO (rd false 1 δ) (some (.int 2))) (some [])) f_q4)
noncomputable abbrev cb (δ:DEnv):Option (List D):=en (ur (rd false 2 δ) (rd false 3 δ))
noncomputable abbrev uV (δ:DEnv):Option D:=dR (ad (some (.str "any")) (ad (rd false 11 δ) (some [])))
noncomputable abbrev cf (δ:DEnv):Option D:=aJ (ac (en (frO (ac (ad (rd false 1 δ) (some [])) f_q1))) (dG false [false,false,false,false,false,false,false,false,false,false,false,false] (ae 11) (fun δ=>some true) uV δ))
noncomputable abbrev pK (δ:DEnv):Option D:=dR (ad (some (.str "any")) (ad (rd false 11 δ) (some [])))
noncomputable abbrev ce (δ:DEnv):Option D:=aJ (ac (en (frO (ac (ad (ixO (rd false 1 δ) (some (.int 1))) (some [])) f_q0))) (dG false [false,true,false,false,false,false,false,false,false,false,false,false] (ae 11) (fun δ=>inO (rd false 11 δ) (frO (ac (ad (ixO (rd false 1 δ) (some (.int 2))) (some [])) f_q0))) pK δ))
noncomputable abbrev aE (δ:DEnv):Option D:=rd false 10 δ
noncomputable abbrev aC (δ:DEnv):Option D:=some (.int 1)
noncomputable abbrev aq (δ:DEnv):Option D:=rd false 10 δ
noncomputable abbrev au (δ:DEnv):Option D:=some (.int 0)
noncomputable abbrev aw (δ:DEnv):Option Bool:=eqO (rd false 9 δ) (rd false 4 δ)
noncomputable abbrev ax (δ:DEnv):Option Bool:=inO (rd false 9 δ) (rd false 6 δ)
noncomputable abbrev aU (δ:DEnv):Option (List D):=en (rd false 3 δ)
noncomputable abbrev aX (δ:DEnv):Option Bool:=inO (rd false 4 δ) (rd false 7 δ)
noncomputable abbrev cZ (δ:DEnv):Option (List D):=en (rd false 2 δ)
noncomputable abbrev g_q3:GF:=mz (rJ 2 b9) (mz (rJ 3 b8) (mz (kZ cb (i9 4 5) (zF 5)) (mz (rJ 6 cf) (mz (rJ 7 ce) (kZ cZ (i9 4 5) (gIf aX (gC 5 (kZ aU (i9 9 10) (gIf ax (rF aE aC) (gIf aw (gSd aq au) (gSkip))))) (gSkip)))))))
noncomputable def f_q3:D->List (D×D)->Option (List (D×D)):=Am 12 g_q3
noncomputable abbrev At:List Str:=["rules","arrows","rule","ring","rank_of","place"]
noncomputable abbrev cm (δ:DEnv):Option Bool:=eqO (ixO (rd false 2 δ) (some (.int 0))) (some (.str "must"))
noncomputable abbrev dP (δ:DEnv):Option (List D):=en (rd false 0 δ)
noncomputable abbrev mQ (δ:DEnv):Option D:=dR (ad (rd false 5 δ) (ad (gt (rd false 4 δ) (rd false 5 δ)) (some [])))
noncomputable abbrev lY (δ:DEnv):Option Out:=ba (vt 3 (ac (ad (rd false 1 δ) (some [])) f_q5) δ) (fun δ=>ba (ifO (dA (qB (rd true 3 δ))) (u0 (ad (vU (some (.str "ring"))) (ad (uK (bD 3 δ)) (some [])))) (nextO δ)) (fun δ=>ba (dE 4 (frO (ac (ad (rd false 1 δ) (some [])) f_q7)) δ) (fun δ=>u0 (ad (vU (some (.str "ranks"))) (ad (uK (aJ (ac (en (fv .ts (rd false 1 δ))) (dG false [false,false,false,false,true,false] (ae 5) (fun δ=>some true) mQ δ)))) (some []))))))
noncomputable abbrev g_q2 (δ:DEnv):Option Out:=qZ 1 (kZ dP (ae 2) (gIf cm (iy 2 f_q3) (gSkip))) lY δ
noncomputable def f_q2:List D->Option (D×Bool):=eU 6 1 g_q2
noncomputable abbrev Cd:List Str:=["_law_found"]
noncomputable abbrev Ac (δ:DEnv):Option Out:=eN (zM (gu "int" (rd false 0 δ)) (ofB (dA (tyB (gu "bool" (rd false 0 δ))))))
noncomputable def f_q8:List D->Option (D×Bool):=eU 1 1 Ac
noncomputable abbrev BG:List Str:=["_law_cell","_law_j","_law_number"]
noncomputable abbrev AU (δ:DEnv):Option Out:=ba (dE 2 (nI (mO (wZ (rd false 0 δ) (mO (wZ (some (.int 2)) (rd false 1 δ)) (some (.int 3)))) (rd false 1 δ)) (some (.int 2147483629))) δ) (fun δ=>eN (nI (wZ (mO (wZ (rd false 2 δ) (rd false 2 δ)) (some (.int 1))) (some (.int 48271))) (some (.int 2147483629))))
noncomputable def f_q9:List D->Option (D×Bool):=eU 3 2 AU
noncomputable abbrev B5:List Str:=["_law_cell","_law_far","_law_table","_law_letters","_law_terms","_law_k","_law_drawn"]
noncomputable abbrev jG (δ:DEnv):Option Out:=ba (dE 6 (shO (ac (ad (rd false 0 δ) (ad (mO (mO (rd false 1 δ) (some (.int 1))) (rd false 5 δ)) (some []))) f_q9)) δ) (fun δ=>ifO (eqO (nI (rd false 6 δ) (some (.int 7))) (some (.int 0))) (nP 4 (dR (ad (some (.str "name")) (ad (ixO (dH (ad (some (.str "a")) (ad (some (.str "b")) (some [])))) (nI (zH (rd false 6 δ) (some (.int 7))) (some (.int 2)))) (some [])))) δ) (nP 4 (dR (ad (some (.str "any")) (ad (xf (rd false 3 δ) (nI (zH (rd false 6 δ) (some (.int 7))) (yK (rd false 3 δ)))) (some [])))) δ))
noncomputable abbrev uJ (δ:DEnv):Option Out:=eN (dR (ad (rd false 2 δ) (ad (qN (rd false 4 δ)) (some []))))
noncomputable abbrev Aj (δ:DEnv):Option Out:=ba (gN 4 (dH (some [])) δ) (fun δ=>ba (ac (rG (mO (some (.int 1)) (nI (shO (ac (ad (rd false 0 δ) (ad (rd false 1 δ) (some []))) f_q9)) (some (.int 4))))) fun ds=>aR (fun d δ=>ac ((ae 5) d δ) jG) ds δ) (fun δ=>uJ (frzE 4 δ)))
noncomputable def f_qa:List D->Option (D×Bool):=eU 7 4 Aj
noncomputable abbrev BE:List Str:=["_law_pattern_here","_law_letter","_law_k"]
noncomputable abbrev oW (δ:DEnv):Option D:=dR (ad (ixO (rd false 0 δ) (some (.int 0))) (ad (rd false 2 δ) (some [])))
noncomputable abbrev Aw (δ:DEnv):Option Out:=kX (aJ (ac (rG (ja (ixO (rd false 0 δ) (some (.int 1))))) (dG false [true,true,false] (ae 2) (fun δ=>eqO (ixO (ixO (rd false 0 δ) (some (.int 1))) (rd false 2 δ)) (dR (ad (some (.str "any")) (ad (rd false 1 δ) (some []))))) oW δ)))
noncomputable def f_qb:List D->Option (D×Bool):=eU 3 2 Aw
noncomputable abbrev BC:List Str:=["_law_body","_law_head","_law_found","_law_known","_law_grown","_law_letter","_law_there","_law_start","_law_term","_law_k","_law_end"]
noncomputable abbrev lO (δ:DEnv):Option D:=ixO (rd false 8 δ) (some (.int 1))
noncomputable abbrev mL (δ:DEnv):Option D:=rd false 9 δ
noncomputable abbrev pH (δ:DEnv):Option D:=dR (ad (rd false 7 δ) (ad (rd false 10 δ) (ad (some (.int 0)) (some []))))
noncomputable abbrev pL (δ:DEnv):Option D:=dR (ad (rd false 7 δ) (ad (dR (ad (ixO (rd false 1 δ) (some (.int 0))) (ad (rd false 9 δ) (some [])))) (ad (some (.int 1)) (some []))))
noncomputable abbrev ms (δ:DEnv):Option Out:=ba (nV 2 (aJ (ac (en (rd false 6 δ)) (dG false [false,false,false,false,false,false,false,true,false,false,false] (ae 10) (fun δ=>some true) pH δ))) δ) (fun δ=>nV 2 (aJ (ac (en (rd false 4 δ)) (dG false [false,true,false,false,false,false,false,true,false,false,false] (ae 9) (fun δ=>some true) pL δ))) δ)
noncomputable abbrev gO (δ:DEnv):Option Out:=ba (dE 6 (frO (ac (ad (rd false 1 δ) (ad (rd false 5 δ) (some []))) f_qb)) δ) (fun δ=>ba (ifO (eqO (rd false 6 δ) (dH (some []))) (some (.cont δ)) (nextO δ)) (fun δ=>ac (en (frO (ac (ad (rd false 0 δ) (ad (rd false 5 δ) (some []))) f_qb))) fun ds=>aR (fun d δ=>ac ((ae 7) d δ) ms) ds δ))
noncomputable abbrev zE (δ:DEnv):Option Out:=ba (ac (en (rd false 3 δ)) fun ds=>aR (fun d δ=>ac ((ae 5) d δ) gO) ds δ) (fun δ=>kX (bD 2 δ))
noncomputable abbrev AX (δ:DEnv):Option Out:=ba (gN 2 (dH (some [])) δ) (fun δ=>ba (dE 3 (aJ (ac (vW (ixO (rd false 0 δ) (some (.int 1)))) (dG false [false,false,false,false,false,false,false,false,false,false,false] (ae 8) (fun δ=>eqO (ixO (rd false 8 δ) (some (.int 0))) (some (.str "any"))) lO δ))) δ) (fun δ=>ba (gN 4 (aJ (ac (rG (ja (ixO (rd false 1 δ) (some (.int 1))))) (dG false [false,true,false,true,false,false,false,false,false,false,false] (ae 9) (fun δ=>tq (eqO (ixO (ixO (ixO (rd false 1 δ) (some (.int 1))) (rd false 9 δ)) (some (.int 0))) (some (.str "any"))) (bZ (ixO (ixO (ixO (rd false 1 δ) (some (.int 1))) (rd false 9 δ)) (some (.int 1))) (rd false 3 δ))) mL δ))) δ) (fun δ=>zE (frzE 4 δ))))
noncomputable def f_qc:List D->Option (D×Bool):=eU 11 2 AX
noncomputable abbrev B0:List Str:=["_law_found"]
noncomputable abbrev zV (δ:DEnv):Option Out:=ba (ifO (orO (dA (tyB (gu "tuple" (rd false 0 δ)))) (neO (ja (rd false 0 δ)) (some (.int 2)))) (eN (some (.bl false))) (nextO δ)) (fun δ=>eN (zM (gu "str" (ixO (rd false 0 δ) (some (.int 0)))) (shO (ac (ad (ixO (rd false 0 δ) (some (.int 1))) (some [])) f_q8))))
noncomputable def f_qd:List D->Option (D×Bool):=eU 1 1 zV
noncomputable abbrev B8:List Str:=["_law_rows","_law_places_here","_law_arrows_here","_law_rank","_law_row","_law_place","_law_start","_law_end","_law_grows"]
noncomputable abbrev jp (δ:DEnv):Option Out:=ba (ifO (orO (dA (tyB (gu "tuple" (rd false 4 δ)))) (orO (neO (ja (rd false 4 δ)) (some (.int 2))) (orO (dA (tyB (shO (ac (ad (ixO (rd false 4 δ) (some (.int 0))) (some [])) f_qd)))) (neO (ixO (rd false 4 δ) (some (.int 0))) (rd false 5 δ))))) (eN (some (.bl false))) (nextO δ)) (fun δ=>ba (ifO (orO (dA (tyB (shO (ac (ad (ixO (rd false 4 δ) (some (.int 1))) (some [])) f_q8)))) (ltV (ixO (rd false 4 δ) (some (.int 1))) (some (.int 0)))) (eN (some (.bl false))) (nextO δ)) (fun δ=>jo 3 (rd false 5 δ) (ixO (rd false 4 δ) (some (.int 1))) δ))
noncomputable abbrev mJ (δ:DEnv):Option Out:=ifO (ltV (gt (rd true 3 δ) (rd false 7 δ)) (mO (gt (rd true 3 δ) (rd false 6 δ)) (rd false 8 δ))) (eN (some (.bl false))) (nextO δ)
noncomputable abbrev Au (δ:DEnv):Option Out:=ba (ifO (orO (dA (tyB (gu "list" (rd false 0 δ)))) (neO (ja (rd false 0 δ)) (ja (rd false 1 δ)))) (eN (some (.bl false))) (nextO δ)) (fun δ=>ba (gN 3 (some (.dD [] [])) δ) (fun δ=>ba (ac (Az false false (rd false 0 δ) (rd false 1 δ)) fun ds=>aR (fun d δ=>ac ((bg (am (ae 4) (am (ae 5) (toNil)))) d δ) jp) ds δ) (fun δ=>ba (ac (en (rd false 2 δ)) fun ds=>aR (fun d δ=>ac ((bg (am (ae 6) (am (ae 7) (am (ae 8) (toNil))))) d δ) mJ) ds δ) (fun δ=>eN (some (.bl true))))))
noncomputable def f_qe:List D->Option (D×Bool):=eU 9 3 Au
noncomputable abbrev Cj:List Str:=["_law_places_here","_law_arrows_here","_law_grown","_law_k","_law_start","_law_end"]
noncomputable abbrev mG (δ:DEnv):Option Out:=ba (ifO (dA (tyB (shO (ac (ad (ixO (rd false 0 δ) (rd false 3 δ)) (some [])) f_qd)))) (eN (some (.bl false))) (nextO δ)) (fun δ=>ba (dE 4 (ixO (rd false 0 δ) (rd false 3 δ)) δ) (fun δ=>ba (dE 5 (ixO (rd false 0 δ) (nI (mO (rd false 3 δ) (some (.int 1))) (ja (rd false 0 δ)))) δ) (fun δ=>ba (ifO (tq (bZ (dR (ad (rd false 4 δ) (ad (rd false 5 δ) (ad (some (.int 0)) (some []))))) (rd false 1 δ)) (bZ (dR (ad (rd false 4 δ) (ad (rd false 5 δ) (ad (some (.int 1)) (some []))))) (rd false 1 δ))) (eN (some (.bl false))) (nextO δ)) (fun δ=>dE 2 (orV (rd false 2 δ) (ofB (inO (dR (ad (rd false 4 δ) (ad (rd false 5 δ) (ad (some (.int 1)) (some []))))) (rd false 1 δ)))) δ))))
noncomputable abbrev zR (δ:DEnv):Option Out:=ba (ifO (orO (dA (tyB (gu "list" (rd false 0 δ)))) (eqO (rd false 0 δ) (dH (some [])))) (eN (some (.bl false))) (nextO δ)) (fun δ=>ba (dE 2 (some (.bl false)) δ) (fun δ=>ba (ac (rG (ja (rd false 0 δ))) fun ds=>aR (fun d δ=>ac ((ae 3) d δ) mG) ds δ) (fun δ=>eN (rd false 2 δ))))
noncomputable def f_qf:List D->Option (D×Bool):=eU 6 2 zR
noncomputable abbrev wt:List Str:=["_law_script","_law_cell","_law_body","_law_head","_law_places_here","_law_due","_law_place","_law_handed","_law_found","_law_k"]
noncomputable abbrev kN (δ:DEnv):Option D:=dR (ad (ixO (rd false 2 δ) (some (.int 0))) (ad (rd false 9 δ) (some [])))
noncomputable abbrev li (δ:DEnv):Option D:=dR (ad (ixO (rd false 3 δ) (some (.int 0))) (ad (rd false 9 δ) (some [])))
noncomputable abbrev fB (δ:DEnv):Option Out:=ifO (bZ (rd false 6 δ) (rd true 5 δ)) (nP 5 (rd false 6 δ) δ) (nextO δ)
noncomputable abbrev fJ (δ:DEnv):Option Out:=ba (dE 2 (shO (ac (ad (rd false 1 δ) (ad (some (.int 1)) (ad (some (.str "one")) (ad (some (.str "ABCD")) (some []))))) f_qa)) δ) (fun δ=>ba (dE 3 (shO (ac (ad (rd false 1 δ) (ad (some (.int 11)) (ad (ixO (dH (ad (some (.str "one")) (ad (some (.str "two")) (ad (some (.str "one")) (some []))))) (nI (shO (ac (ad (rd false 1 δ) (ad (some (.int 20)) (some []))) f_q9)) (some (.int 3)))) (ad (ixO (dH (ad (some (.str "ABCDEF")) (ad (some (.str "ADEF")) (some [])))) (nI (rd false 1 δ) (some (.int 2)))) (some []))))) f_qa)) δ) (fun δ=>ba (dE 4 (ur (aJ (ac (rG (ja (ixO (rd false 2 δ) (some (.int 1))))) (dG false [false,false,true,false,false,false,false,false,false,false] (ae 9) (fun δ=>some true) kN δ))) (aJ (ac (rG (ja (ixO (rd false 3 δ) (some (.int 1))))) (dG false [false,false,false,true,false,false,false,false,false,false] (ae 9) (fun δ=>some true) li δ)))) δ) (fun δ=>ba (gN 5 (dH (some [])) δ) (fun δ=>ba (ac (en (nS .ts (rd false 4 δ))) fun ds=>aR (fun d δ=>ac ((ae 6) d δ) fB) ds δ) (fun δ=>ba (dE 7 (dH (ad (dR (ad (some (.str "must")) (ad (dH (ad (rd false 2 δ) (some []))) (ad (dH (ad (rd false 3 δ) (some []))) (some []))))) (some []))) δ) (fun δ=>ba (dE 8 (tpO (ac (ad (rd false 7 δ) (some [])) f_q2)) δ) (fun δ=>ifO (orO (dA (tyB (gu "tuple" (rd false 8 δ)))) (orO (neO (ja (rd false 8 δ)) (some (.int 2))) (dA (tyB (gu "str" (ixO (rd false 8 δ) (some (.int 0)))))))) (dw ((fun δ=>eN (some (.bl false))) (δ.set 8 none))) (ifO (tq (eqO (ixO (rd false 8 δ) (some (.int 0))) (some (.str "ranks"))) (dA (tyB (shO (ac (ad (ixO (rd true 8 δ) (some (.int 1))) (ad (rd true 5 δ) (ad (frO (ac (ad (rd false 2 δ) (ad (rd false 3 δ) (some []))) f_qc)) (some [])))) f_qe))))) (dw ((fun δ=>eN (some (.bl false))) (δ.set 8 none))) (ifO (tq (neO (ixO (rd false 8 δ) (some (.int 0))) (some (.str "ranks"))) (orO (neO (ixO (rd false 8 δ) (some (.int 0))) (some (.str "ring"))) (dA (tyB (shO (ac (ad (ixO (rd false 8 δ) (some (.int 1))) (ad (frO (ac (ad (rd false 2 δ) (ad (rd false 3 δ) (some []))) f_qc)) (some []))) f_qf)))))) (dw ((fun δ=>eN (some (.bl false))) (δ.set 8 none))) (xh 8 ((fun δ=>some (.int 1)) (δ.set 8 none)) ((fun δ=>some .non) (δ.set 8 none)) δ (fun δ=>ifO (neO (rd false 7 δ) (dH (ad (dR (ad (some (.str "must")) (ad (dH (ad (rd false 2 δ) (some []))) (ad (dH (ad (rd false 3 δ) (some []))) (some []))))) (some [])))) (eN (some (.bl false))) (nextO δ))))))))))))
noncomputable abbrev g_law (δ:DEnv):Option Out:=ba (ac (en (ur (sJ (rd false 0 δ) (some none) (sE (some (.int 63)))) (dH (ad (some (.int 0)) (some []))))) fun ds=>aR (fun d δ=>ac ((ae 1) d δ) fJ) ds δ) (fun δ=>eN (some (.bl true)))
noncomputable def f_law:List D->Option (D×Bool):=eU 10 1 g_law
section
variable{P:Program}{w:World}{K:PySem.W.Frag}{mg:Str->Option Value}{base:Heap}
theorem Ce (T:Txt mg) (D:Df K mg "letters_of" A5):FnM P w K mg base 1 "letters_of" f_q0:=
 mk 1 BR AQ D (by walk_at "sc") (by walk_at "bi") (by walk_at "mk")
theorem Ck (T:Txt mg) (D:Df K mg "fresh" Bk) (_:FnM P w K mg base 1 "letters_of" f_q0):FnM P w K mg base 2 "fresh" f_q1:=
 mk 1 Cn AR D (by walk_at "sc") (by walk_at "bi") (by walk_at "mk")
theorem yi:FnScope zU (["arrows","first"]:List Str) (ai xc):=⟨rfl,rfl,rfl,by decide +kernel,rfl,by decide +kernel,by decide +kernel⟩
theorem Bx {X:Cx}(hX:Has X zU (ai xc)) (hf:∀x,X.fn x=true) (hp:PassesOwn (model X.prog X.w) X.A X.env X.xe) (hr:Room 0 X.A) (T:Txt X.mg):
  PSs X (aN xc) (tW X.K zG):=by
 have hu:=hr.units;have n0:Nm X 0 "arrows":=hX.nm (by decide +kernel)
 have n1:Nm X 1 "first":=hX.nm (by decide +kernel)
 have n2:Nm X 2 "ways":=hX.nm (by decide +kernel)
 have l2:Lc X 2 "ways":=hX.lc hf (by decide +kernel)
 have n3:Nm X 3 "reached":=hX.nm (by decide +kernel)
 have l3:Lc X 3 "reached":=hX.lc hf (by decide +kernel)
 have n4:Nm X 4 "further":=hX.nm (by decide +kernel)
 have l4:Lc X 4 "further":=hX.lc hf (by decide +kernel)
 have n5:Nm X 5 "place":=hX.nm (by decide +kernel)
 have l5:Lc X 5 "place":=hX.lc hf (by decide +kernel)
 have n6:Nm X 6 "target":=hX.nm (by decide +kernel)
 have l6:Lc X 6 "target":=hX.lc hf (by decide +kernel)
 exact sd hu hX.nd l2 n2 n1 (by rfl) (by rfl) (by rfl) (f8 (f:=cz) (qH hX.nd l3 (cx (af (nv false n1) (aB))) (by rfl)) (by decide) (by decide)) (qY (ft:=aA) 1000 hp (t7 (nv false n3)) (b6 (u7 (f:=bv) hX.nd l4 (cx (aB)) (by decide) (by decide) (by rfl)) (b6 (eJ (fi:=cB) hp hX.calm (bP (nv false n3)) (kT hX.nd l5 (by decide) (by decide)) (bn (eJ (fi:=bJ) hp hX.calm (lG (mC hu (nv false n0) (nv false n5))) (kT hX.nd l6 (by decide) (by decide)) (bn (wq hu n2 n6 (by rfl) (b6 (wA hu n2 n6 n5 (by intro _ _;rfl) (by rfl) (by rfl)) (bn (wJ (fa:=bu) (nv false n6) n4 (by rfl) (by rfl) (by rfl) (by rfl) (by rfl)))) (iV))) (by intro _;rfl))) (by intro _;rfl)) (bn (rW hX.nd l3 n4 (by decide) (by decide) (by rfl))))))
theorem Ch (T:Txt mg) (D:Df K mg "ways_from" xc):FnW P w K mg base 1 "ways_from" f_q6:=by
 obtain⟨f,fd,F,hm⟩:=D;have hb:=F.binds (ps:=["arrows","first"]) (by walk_at "bi")
 have h:=xC (P:=P) (w:=w) (base:=base) (k:=0) (g:=zG) F yi hb hm (by decide) fun cdv A outer s H E hr=>by
  exact @Bx _ ((kD CX0 P w K mg base zU "ways_from" (ai xc) f cdv A outer s H E).nox) (w8 yi.nd) (fun _=>rfl) PassesOwn.never hr T
 exact h
theorem zg:FnScope Av (["arrows"]:List Str) (ai wX):=⟨rfl,rfl,rfl,by decide +kernel,rfl,by decide +kernel,by decide +kernel⟩
theorem B4 {X:Cx}(hX:Has X Av (ai wX)) (hf:∀x,X.fn x=true) (hp:PassesOwn (model X.prog X.w) X.A X.env X.xe) (hr:Room 1 X.A) (T:Txt X.mg) (F_q6:FnW X.prog X.w X.K X.mg X.base 1 "ways_from" f_q6):
  DSs X (aN wX) g_q5:=by
 have hu:=hr.units;have n0:Nm X 0 "arrows":=hX.nm (by decide +kernel)
 have n1:Nm X 1 "first":=hX.nm (by decide +kernel)
 have l1:Lc X 1 "first":=hX.lc hf (by decide +kernel)
 have n2:Nm X 2 "ways":=hX.nm (by decide +kernel)
 have l2:Lc X 2 "ways":=hX.lc hf (by decide +kernel)
 have n3:Nm X 3 "last":=hX.nm (by decide +kernel)
 have l3:Lc X 3 "last":=hX.lc hf (by decide +kernel)
 have gg_q6:Gb X "ways_from":=hX.gb (by decide +kernel)
 refine' @r0 _ _ _ _ _ _ _ _ _ _ _ _ _ _ _ be ay ah _ _ _ _ _ _ _ _ _ _ _ _ _ _ _ _ hp hX.calm hu hX.nd l1 l2 n2 l3 n3 (by decide) (@lG _ _ _ _ false _ (@nv _ _ _ _ _ false n0)) F_q6 (hr.mono (by decide)) gg_q6.gl ?z1 ?z2 (@mU _ _ false _ _) gg_q6.d1 (by rfl) (by rfl) (by intro _ _;rfl) (by rfl) (by intro _;rfl) (by intro _;rfl)
 case z1=>
  exact @af _ _ false _ _ _ _ (@nv _ _ _ _ _ false n0) (@af _ _ false _ _ _ _ (@nv _ _ _ _ _ false n1) (@aB _ _ _) (by rfl)) (by rfl)
 case z2=>
  refine' @qr _ _ false false _ _ _ _ _ hu ?z3 (@aM _ _ false _ _ _)
  case z3=>
   exact @oO _ _ _ _ false _ _ _ _ _ _ hu (@mC _ _ _ _ _ _ false false _ hu (@nv _ _ _ _ _ false n0) (@nv _ _ _ _ _ false n3) (by intro _ _;rfl)) (@nv _ _ _ _ _ false n1) (@aM _ _ false _ _ _) (by rfl) (by rfl) (by rfl) (by rfl) (by rfl) (by rfl)
theorem BM (T:Txt mg) (D:Df K mg "growing_ring" wX) (F_q6:FnW P w K mg base 1 "ways_from" f_q6):FnM P w K mg base 2 "growing_ring" f_q5:=by
 obtain⟨f,fd,F,hm⟩:=D;have hb:=F.binds (ps:=["arrows"]) (by walk_at "bi")
 have h:=mf (P:=P) (w:=w) (base:=base) (k:=1) (g:=g_q5) F zg hb hm (by decide) fun cdv A outer s H E hr=>by
  exact @B4 _ ((kD CX0 P w K mg base Av "growing_ring" (ai wX) f cdv A outer s H E).nox) (w8 zg.nd) (fun _=>rfl) PassesOwn.never hr T F_q6
 exact h.2
theorem Cm (T:Txt mg) (D:Df K mg "least_ranks" Bl):FnM P w K mg base 1 "least_ranks" f_q7:=
 mk 1 Bz Be D (by walk_at "sc") (by walk_at "bi") (by walk_at "mk")
theorem Cl (T:Txt mg) (D:Df K mg "spots_of" A2):FnM P w K mg base 1 "spots_of" f_q4:=
 mk 1 Cg Al D (by walk_at "sc") (by walk_at "bi") (by walk_at "mk")
theorem yN:FnScope Ae (["arrows","rule"]:List Str) (ai xm):=⟨rfl,rfl,rfl,by decide +kernel,rfl,by decide +kernel,by decide +kernel⟩
theorem BQ {X:Cx}(hX:Has X Ae (ai xm)) (hf:∀x,X.fn x=true) (hp:PassesOwn (model X.prog X.w) X.A X.env X.xe) (hr:Room 2 X.A) (T:Txt X.mg) (F_q0:FnM X.prog X.w X.K X.mg X.base 1 "letters_of" f_q0) (F_q1:FnM X.prog X.w X.K X.mg X.base 2 "fresh" f_q1) (F_q4:FnM X.prog X.w X.K X.mg X.base 1 "spots_of" f_q4):
  lN X 0 8 (aN xm) g_q3:=by
 have hu:=hr.units;have n0:Nm X 0 "arrows":=hX.nm (by decide +kernel)
 have n1:Nm X 1 "rule":=hX.nm (by decide +kernel)
 have n2:Nm X 2 "body":=hX.nm (by decide +kernel)
 have l2:Lc X 2 "body":=hX.lc hf (by decide +kernel)
 have n3:Nm X 3 "head":=hX.nm (by decide +kernel)
 have l3:Lc X 3 "head":=hX.lc hf (by decide +kernel)
 have n4:Nm X 4 "term":=hX.nm (by decide +kernel)
 have l4:Lc X 4 "term":=hX.lc hf (by decide +kernel)
 have n5:Nm X 5 "place":=hX.nm (by decide +kernel)
 have l5:Lc X 5 "place":=hX.lc hf (by decide +kernel)
 have n6:Nm X 6 "new_terms":=hX.nm (by decide +kernel)
 have l6:Lc X 6 "new_terms":=hX.lc hf (by decide +kernel)
 have n7:Nm X 7 "lasting":=hX.nm (by decide +kernel)
 have l7:Lc X 7 "lasting":=hX.lc hf (by decide +kernel)
 have n8:Nm X 8 "targets":=hX.nm (by decide +kernel)
 have l8:Lc X 8 "targets":=hX.lc hf (by decide +kernel)
 have n9:Nm X 9 "other":=hX.nm (by decide +kernel)
 have l9:Lc X 9 "other":=hX.lc hf (by decide +kernel)
 have n10:Nm X 10 "target":=hX.nm (by decide +kernel)
 have l10:Lc X 10 "target":=hX.lc hf (by decide +kernel)
 have gg_q1:Gb X "fresh":=hX.gb (by decide +kernel)
 have gg_q0:Gb X "letters_of":=hX.gb (by decide +kernel)
 have gg_q4:Gb X "spots_of":=hX.gb (by decide +kernel)
 refine' @b6 _ _ _ _ _ _ _ _ (@f8 _ _ _ _ _ _ b9 (qH hX.nd l2 (bK F_q4 (hr.mono (by decide)) gg_q4 (af (cG (nv false n1) (aM (m:=false))) (aB))) (by rfl)) (by decide) (by decide)) ?z4
 case z4=>
  refine' @b6 _ _ _ _ _ _ _ _ (@f8 _ _ _ _ _ _ b8 (qH hX.nd l3 (bK F_q4 (hr.mono (by decide)) gg_q4 (af (cG (nv false n1) (aM (m:=false))) (aB))) (by rfl)) (by decide) (by decide)) ?z5
  case z5=>
   refine' @b6 _ _ _ _ _ _ _ _ ?z6 ?z7
   case z6=>
    refine' @eJ _ _ _ _ _ _ _ _ _ cb _ hp hX.calm ?z8 (oD hX.nd hX.calm l4 l5 (by decide) (by decide) (by decide) (by decide) (by rfl) (by rfl) (by rfl) (by rfl)) (@bn _ _ _ _ _ _ (@vI _ _ _ _ _ _ _ _ _ _ _ _ _ hu n0 n5 (by rfl) (by rfl) (by rfl) (by rfl) (by rfl) (by rfl) (by rfl))) (by intro _;rfl)
    case z8=>
     refine' @bP _ _ false _ _ _ ?z9
     case z9=>
      exact @DF.share _ _ false _ _ (@md _ _ _ _ _ _ _ (@nv _ _ _ _ _ false n2) (@nv _ _ _ _ _ false n3))
   case z7=>
    refine' @b6 _ _ _ _ _ _ _ _ (@f8 _ _ _ _ _ _ cf (pR hX.nd hX.calm (cw 11) (bP (DF.share (m:=false) (bK F_q1 (hr.mono (by decide)) gg_q1 (af (nv false n1) (aB))))) (CompScope.of' hX (by decide +kernel)) (fun cl C s₂ H₂ ex pn=>b0 (hX.comp _ cl C s₂ H₂ ex pn).nd ((hX.comp _ cl C s₂ H₂ ex pn).lcl (i:=11) (by decide +kernel))) (fun cl C s₂ H₂ ex pn=>fX) (fun cl C s₂ H₂ ex pn=>eP (af (bw (m:=false)) (af (nv false ((hX.comp _ cl C s₂ H₂ ex pn).nm (i:=11) (by decide +kernel))) (aB)))) l6.at' (fT hX (by decide +kernel)) (da hX (by decide +kernel)) (by intro _;rfl)) (by decide) (by decide)) ?z10
    case z10=>
     refine' @b6 _ _ _ _ _ _ _ _ (@f8 _ _ _ _ _ _ ce (pR hX.nd hX.calm (cw 11) (bP (DF.share (m:=false) (bK F_q0 (hr.mono (by decide)) gg_q0 (af (cG (nv false n1) (aM (m:=false))) (aB))))) (CompScope.of' hX (by decide +kernel)) (fun cl C s₂ H₂ ex pn=>b0 (hX.comp _ cl C s₂ H₂ ex pn).nd ((hX.comp _ cl C s₂ H₂ ex pn).lcl (i:=11) (by decide +kernel))) (fun cl C s₂ H₂ ex pn=>pN (r9 hu (nv false ((hX.comp _ cl C s₂ H₂ ex pn).nm (i:=11) (by decide +kernel))) (DF.share (m:=false) (bK F_q0 (hr.mono (by decide)) ((hX.comp _ cl C s₂ H₂ ex pn).gb (x:="letters_of") (by decide +kernel)) (af (cG (nv false ((hX.comp _ cl C s₂ H₂ ex pn).nm (i:=1) (by decide +kernel))) (aM (m:=false))) (aB)))))) (fun cl C s₂ H₂ ex pn=>eP (af (bw (m:=false)) (af (nv false ((hX.comp _ cl C s₂ H₂ ex pn).nm (i:=11) (by decide +kernel))) (aB)))) l7.at' (fT hX (by decide +kernel)) (da hX (by decide +kernel)) (by intro _;rfl)) (by decide) (by decide)) ?z11
     case z11=>
      refine' @bn _ _ _ _ _ _ ?z12
      case z12=>
       refine' @eJ _ _ _ _ _ _ _ _ _ cZ _ hp hX.calm (@bP _ _ false _ _ _ (@nv _ _ _ _ _ false n2)) (oD hX.nd hX.calm l4 l5 (by decide) (by decide) (by decide) (by decide) (by rfl) (by rfl) (by rfl) (by rfl)) ?z13 (by intro _;rfl)
       case z13=>
        refine' @bn _ _ _ _ _ _ ?z14
        case z14=>
         refine' @mD _ _ _ _ _ _ _ _ _ aX _ (@r9 _ _ false false _ _ _ _ _ hu (@nv _ _ _ _ _ false n4) (@nv _ _ _ _ _ false n7) (by rfl)) ?z15 (@iV _ _ _ _)
         case z15=>
          refine' @p0 _ _ _ _ _ _ _ _ _ _ _ _ _ _ _ hu hX.nd n0 n5 l8 (by decide) (by intro _ _;rfl) (by rfl) ?z16
          case z16=>
           refine' @bn _ _ _ _ _ _ ?z17
           case z17=>
            refine' @eJ _ _ _ _ _ _ _ _ _ aU _ hp hX.calm (@bP _ _ false _ _ _ (@nv _ _ _ _ _ false n3)) (oD hX.nd hX.calm l9 l10 (by decide) (by decide) (by decide) (by decide) (by rfl) (by rfl) (by rfl) (by rfl)) ?z18 (by intro _;rfl)
            case z18=>
             refine' @bn _ _ _ _ _ _ ?z19
             case z19=>
              refine' @mD _ _ _ _ _ _ _ _ _ ax _ (@r9 _ _ false false _ _ _ _ _ hu (@nv _ _ _ _ _ false n9) (@nv _ _ _ _ _ false n6) (by rfl)) ?z20 ?z21
              case z20=>
               exact @bn _ _ _ _ _ _ (@vA _ _ _ _ _ _ _ _ _ _ aE aC hu n8 (@nv _ _ _ _ _ false n10) (@aM _ _ false _ _ _) (by rfl))
              case z21=>
               refine' @bn _ _ _ _ _ _ ?z22
               case z22=>
                refine' @mD _ _ _ _ _ _ _ _ _ aw _ (@qr _ _ false false _ _ _ _ _ hu (@nv _ _ _ _ _ false n9) (@nv _ _ _ _ _ false n4)) ?z23 (@iV _ _ _ _)
                case z23=>
                 exact @bn _ _ _ _ _ _ (@zy _ _ _ _ _ _ _ _ _ _ _ aq au hu n8 (@nv _ _ _ _ _ false n10) (@aM _ _ false _ _ _) (by rfl) (by rfl) (by rfl) (by rfl) (by rfl) (by rfl) (by rfl))
theorem By (T:Txt mg) (D:Df K mg "add_arrows" xm) (F_q0:FnM P w K mg base 1 "letters_of" f_q0) (F_q1:FnM P w K mg base 2 "fresh" f_q1) (F_q4:FnM P w K mg base 1 "spots_of" f_q4):FnG P w K mg base 3 "add_arrows" f_q3:=by
 obtain⟨f,fd,F,hm⟩:=D;have hb:=F.binds (ps:=["arrows","rule"]) (by walk_at "bi")
 have h:=xP (P:=P) (w:=w) (base:=base) (k:=2) (G:=g_q3) (it:=8) F yN hb hm rfl (by decide) (by decide) fun cdv A outer s H E hr=>by
  exact @BQ _ ((kD CX0 P w K mg base Ae "add_arrows" (ai xm) f cdv A outer s H E).nox) (w8 yN.nd) (fun _=>rfl) PassesOwn.never hr T F_q0 F_q1 F_q4
 exact h
theorem yU:FnScope At (["rules"]:List Str) (ai xi):=⟨rfl,rfl,rfl,by decide +kernel,rfl,by decide +kernel,by decide +kernel⟩
theorem BF {X:Cx}(hX:Has X At (ai xi)) (hf:∀x,X.fn x=true) (hp:PassesOwn (model X.prog X.w) X.A X.env X.xe) (hr:Room 3 X.A) (T:Txt X.mg) (F_q5:FnM X.prog X.w X.K X.mg X.base 2 "growing_ring" f_q5) (F_q7:FnM X.prog X.w X.K X.mg X.base 1 "least_ranks" f_q7) (F_q3:FnG X.prog X.w X.K X.mg X.base 3 "add_arrows" f_q3):
  DSs X (aN xi) g_q2:=by
 have hu:=hr.units;have n0:Nm X 0 "rules":=hX.nm (by decide +kernel)
 have n1:Nm X 1 "arrows":=hX.nm (by decide +kernel)
 have l1:Lc X 1 "arrows":=hX.lc hf (by decide +kernel)
 have n2:Nm X 2 "rule":=hX.nm (by decide +kernel)
 have l2:Lc X 2 "rule":=hX.lc hf (by decide +kernel)
 have n3:Nm X 3 "ring":=hX.nm (by decide +kernel)
 have l3:Lc X 3 "ring":=hX.lc hf (by decide +kernel)
 have l4:Lc X 4 "rank_of":=hX.lc hf (by decide +kernel)
 have gg_q3:Gb X "add_arrows":=hX.gb (by decide +kernel)
 have gg_q5:Gb X "growing_ring":=hX.gb (by decide +kernel)
 have gg_q7:Gb X "least_ranks":=hX.gb (by decide +kernel)
 have gg_sorted:Gb X "sorted":=hX.gb (by decide +kernel)
 refine' @sN _ _ _ _ _ _ _ _ _ _ lY hX.nd l1 (by rfl) ?z24 ?_
 case z24=>
  refine' @eJ _ _ _ _ _ _ _ _ _ dP _ hp hX.calm (@bP _ _ false _ _ _ (@nv _ _ _ _ _ false n0)) (kT hX.nd l2 (by decide) (by decide)) ?z25 (by intro _;rfl)
  case z25=>
   refine' @bn _ _ _ _ _ _ ?z26
   case z26=>
    refine' @mD _ _ _ _ _ _ _ _ _ cm _ ?z27 (@bn _ _ _ _ _ _ (@sP _ _ _ _ _ _ _ _ _ _ _ _ _ _ _ F_q3 (hr.mono (by decide)) gg_q3.gl n1 n2 gg_q3.d1 (by rfl) (by rfl) (by rfl) (by rfl))) (@iV _ _ _ _)
    case z27=>
     exact @qr _ _ false false _ _ _ _ _ hu (@cG _ _ false false _ _ _ _ _ (@nv _ _ _ _ _ false n2) (@aM _ _ false _ _ _) (by exact fun _ _=>rfl)) (@bw _ _ false _ _ _)
 refine' @bp _ _ _ _ _ _ ?z28 ?_
 case z28=>
  exact @uD _ _ _ _ _ _ _ _ _ _ _ _ _ _ hX.nd l3 F_q5 (hr.mono (by decide)) gg_q5.gl (@af _ _ false _ _ _ _ (@nv _ _ _ _ _ false n1) (@aB _ _ _) (by rfl)) gg_q5.d1 (by rfl) (by rfl) (by rfl)
 refine @bp _ _ _ _ _ _ (@sk _ _ _ _ _ _ _ _ _ (@pA _ _ _ _ _ _ _ _ (@nv _ _ _ _ _ true n3) (by rfl)) ?_ ?_) ?_
 ·refine' @bS _ _ _ _ ?z29
  case z29=>
   refine' @kW _ _ _ _ _ _ _ ?z30
   case z30=>
    exact @rh _ _ _ _ _ _ (@bw _ _ false _ _ _) (@vY _ _ _ _ _ _ _ n3 (@qT _ _) (by rfl)) (by rfl)
 ·exact @iJ _ _
 refine' @bp _ _ _ _ _ _ ?z31 ?_
 case z31=>
  refine' @eD _ _ _ _ _ _ _ _ hX.nd l4 ?z32 (by rfl)
  case z32=>
   refine' @DF.share _ _ false _ _ ?z33
   case z33=>
    exact @bK _ _ _ _ _ _ _ _ _ _ F_q7 (hr.mono (by decide)) gg_q7 (@af _ _ false _ _ _ _ (@nv _ _ _ _ _ false n1) (@aB _ _ _) (by rfl)) (by rfl) (by rfl)
 refine' @bS _ _ _ _ ?z34
 case z34=>
  refine' @kW _ _ _ _ _ _ _ ?z35
  case z35=>
   refine' @rh _ _ _ _ _ _ (@bw _ _ false _ _ _) ?z36 (by rfl)
   case z36=>
    refine' @v5 _ _ _ _ _ _ ?z37 (@qT _ _) (by rfl)
    case z37=>
     refine' @iH _ _ _ _ _ _ _ _ _ _ _ _ _ hX.calm (cw 5) ?z38 (CompScope.of' hX (by decide +kernel)) (fun cl C s₂ H₂ ex pn=>@b0 _ _ _ _ _ (hX.comp _ cl C s₂ H₂ ex pn).nd ((hX.comp _ cl C s₂ H₂ ex pn).lcl (i:=5) (by decide +kernel))) (fun cl C s₂ H₂ ex pn=>@fX _ _) ?z39 (by intro _;rfl)
     case z38=>
      refine' @bP _ _ false _ _ _ ?z40
      case z40=>
       exact @DF.share _ _ false _ _ (@gH _ _ _ _ _ _ .ts hX.calm hu gg_sorted.gl (Txb.get (x:="sorted") T (by decide +kernel)) (@nv _ _ _ _ _ false n1) (by rfl))
     case z39=>
      intro cl C s₂ H₂ ex pn;refine' @eP _ _ false _ _ _ _ ?z41
      case z41=>
       refine' @af _ _ false _ _ _ _ (@nv _ _ _ _ _ false ((hX.comp _ cl C s₂ H₂ ex pn).nm (i:=5) (by decide +kernel))) ?z42 (by rfl)
       case z42=>
        exact @af _ _ false _ _ _ _ (@mC _ _ _ _ _ _ false false _ hu (@nv _ _ _ _ _ false ((hX.comp _ cl C s₂ H₂ ex pn).nm (i:=4) (by decide +kernel))) (@nv _ _ _ _ _ false ((hX.comp _ cl C s₂ H₂ ex pn).nm (i:=5) (by decide +kernel))) (by intro _ _;rfl)) (@aB _ _ _) (by rfl)
theorem Bu (T:Txt mg) (D:Df K mg "ranks" xi) (F_q5:FnM P w K mg base 2 "growing_ring" f_q5) (F_q7:FnM P w K mg base 1 "least_ranks" f_q7) (F_q3:FnG P w K mg base 3 "add_arrows" f_q3):FnM P w K mg base 4 "ranks" f_q2:=by
 obtain⟨f,fd,F,hm⟩:=D;have hb:=F.binds (ps:=["rules"]) (by walk_at "bi")
 have h:=mf (P:=P) (w:=w) (base:=base) (k:=3) (g:=g_q2) F yU hb hm (by decide) fun cdv A outer s H E hr=>by
  exact @BF _ ((kD CX0 P w K mg base At "ranks" (ai xi) f cdv A outer s H E).nox) (w8 yU.nd) (fun _=>rfl) PassesOwn.never hr T F_q5 F_q7 F_q3
 exact h.2
theorem BV (T:Txt mg) (D:Df K mg "_law_whole" Bp):FnM P w K mg base 1 "_law_whole" f_q8:=
 mk 1 Cd Ac D (by walk_at "sc") (by walk_at "bi") (by walk_at "mk")
theorem Cf (T:Txt mg) (D:Df K mg "_law_mix" Bo):FnM P w K mg base 1 "_law_mix" f_q9:=
 mk 2 BG AU D (by walk_at "sc") (by walk_at "bi") (by walk_at "mk")
theorem BP (T:Txt mg) (D:Df K mg "_law_pattern" Bn) (_:FnM P w K mg base 1 "_law_mix" f_q9):FnM P w K mg base 2 "_law_pattern" f_qa:=
 mk 4 B5 Aj D (by walk_at "sc") (by walk_at "bi") (by walk_at "mk")
theorem B2 (T:Txt mg) (D:Df K mg "_law_places" A1):FnM P w K mg base 1 "_law_places" f_qb:=
 mk 2 BE Aw D (by walk_at "sc") (by walk_at "bi") (by walk_at "mk")
theorem Cb (T:Txt mg) (D:Df K mg "_law_arrows" Bj) (_:FnM P w K mg base 1 "_law_places" f_qb):FnM P w K mg base 2 "_law_arrows" f_qc:=
 mk 2 BC AX D (by walk_at "sc") (by walk_at "bi") (by walk_at "mk")
theorem BK (T:Txt mg) (D:Df K mg "_law_is_place" Br) (_:FnM P w K mg base 1 "_law_whole" f_q8):FnM P w K mg base 2 "_law_is_place" f_qd:=
 mk 1 B0 zV D (by walk_at "sc") (by walk_at "bi") (by walk_at "mk")
theorem BA (T:Txt mg) (D:Df K mg "_law_ranked" Bd) (_:FnM P w K mg base 1 "_law_whole" f_q8) (_:FnM P w K mg base 2 "_law_is_place" f_qd):FnM P w K mg base 3 "_law_ranked" f_qe:=
 mk 3 B8 Au D (by walk_at "sc") (by walk_at "bi") (by walk_at "mk")
theorem BU (T:Txt mg) (D:Df K mg "_law_ring" Bh) (_:FnM P w K mg base 2 "_law_is_place" f_qd):FnM P w K mg base 3 "_law_ring" f_qf:=
 mk 2 Cj zR D (by walk_at "sc") (by walk_at "bi") (by walk_at "mk")
theorem ut:FnScope wt (["_law_script"]:List Str) (ai fE):=⟨rfl,rfl,rfl,by decide +kernel,rfl,by decide +kernel,by decide +kernel⟩
theorem Ab {X:Cx}(hX:Has X wt (ai fE)) (hf:∀x,X.fn x=true) (hp:PassesOwn (model X.prog X.w) X.A X.env X.xe) (hr:Room 4 X.A) (T:Txt X.mg) (F_q2:FnM X.prog X.w X.K X.mg X.base 4 "ranks" f_q2) (F_q9:FnM X.prog X.w X.K X.mg X.base 1 "_law_mix" f_q9) (F_qa:FnM X.prog X.w X.K X.mg X.base 2 "_law_pattern" f_qa) (F_qc:FnM X.prog X.w X.K X.mg X.base 2 "_law_arrows" f_qc) (F_qe:FnM X.prog X.w X.K X.mg X.base 3 "_law_ranked" f_qe) (F_qf:FnM X.prog X.w X.K X.mg X.base 3 "_law_ring" f_qf):
  DSs X (aN fE) g_law:=by
 have hu:=hr.units;have n0:Nm X 0 "_law_script":=hX.nm (by decide +kernel)
 have n1:Nm X 1 "_law_cell":=hX.nm (by decide +kernel)
 have l1:Lc X 1 "_law_cell":=hX.lc hf (by decide +kernel)
 have n2:Nm X 2 "_law_body":=hX.nm (by decide +kernel)
 have l2:Lc X 2 "_law_body":=hX.lc hf (by decide +kernel)
 have n3:Nm X 3 "_law_head":=hX.nm (by decide +kernel)
 have l3:Lc X 3 "_law_head":=hX.lc hf (by decide +kernel)
 have n4:Nm X 4 "_law_places_here":=hX.nm (by decide +kernel)
 have l4:Lc X 4 "_law_places_here":=hX.lc hf (by decide +kernel)
 have n5:Nm X 5 "_law_due":=hX.nm (by decide +kernel)
 have l5:Lc X 5 "_law_due":=hX.lc hf (by decide +kernel)
 have n6:Nm X 6 "_law_place":=hX.nm (by decide +kernel)
 have l6:Lc X 6 "_law_place":=hX.lc hf (by decide +kernel)
 have n7:Nm X 7 "_law_handed":=hX.nm (by decide +kernel)
 have l7:Lc X 7 "_law_handed":=hX.lc hf (by decide +kernel)
 have n8:Nm X 8 "_law_found":=hX.nm (by decide +kernel)
 have l8:Lc X 8 "_law_found":=hX.lc hf (by decide +kernel)
 have gg_qc:Gb X "_law_arrows":=hX.gb (by decide +kernel)
 have gg_q9:Gb X "_law_mix":=hX.gb (by decide +kernel)
 have gg_qa:Gb X "_law_pattern":=hX.gb (by decide +kernel)
 have gg_qe:Gb X "_law_ranked":=hX.gb (by decide +kernel)
 have gg_qf:Gb X "_law_ring":=hX.gb (by decide +kernel)
 have gg_isinstance:Gb X "isinstance":=hX.gb (by decide +kernel)
 have gg_len:Gb X "len":=hX.gb (by decide +kernel)
 have gg_range:Gb X "range":=hX.gb (by decide +kernel)
 have gg_q2:Gb X "ranks":=hX.gb (by decide +kernel)
 have gg_sorted:Gb X "sorted":=hX.gb (by decide +kernel)
 have gg_str:Gb X "str":=hX.gb (by decide +kernel)
 have gg_tuple:Gb X "tuple":=hX.gb (by decide +kernel)
 refine' @bp _ _ _ _ _ _ (@oE _ _ _ _ _ _ _ fJ _ hp hX.calm ?z43 (@b0 _ _ _ _ _ hX.nd l1) ?_ (by intro _;rfl)) ?_
 case z43=>
  refine' @bP _ _ false _ _ _ ?z44
  case z44=>
   refine' @DF.share _ _ false _ _ ?z45
   case z45=>
    refine' @md _ _ _ _ _ _ _ ?z46 ?z47
    case z46=>
     refine' @DF.share _ _ false _ _ ?z48
     case z48=>
      exact @q5 _ _ _ _ _ _ _ _ _ _ (@nv _ _ _ _ _ false n0) (@oa _ _) (@qS _ _ false _ _ (@aM _ _ false _ _ _))
    case z47=>
     refine' @DF.share _ _ false _ _ ?z49
     case z49=>
      exact @cx _ _ _ _ _ (@af _ _ false _ _ _ _ (@aM _ _ false _ _ _) (@aB _ _ _) (by rfl))
 ·refine' @bp _ _ _ _ _ _ ?z50 ?_
  case z50=>
   refine' @eD _ _ _ _ _ _ _ _ hX.nd l2 ?z51 (by rfl)
   case z51=>
    refine' @db _ _ false _ _ _ _ _ _ _ _ F_qa (hr.mono (by decide)) gg_qa ?z52 (by rfl) (by rfl)
    case z52=>
     refine' @af _ _ false _ _ _ _ (@nv _ _ _ _ _ false n1) ?z53 (by rfl)
     case z53=>
      refine' @af _ _ false _ _ _ _ (@aM _ _ false _ _ _) ?z54 (by rfl)
      case z54=>
       exact @af _ _ false _ _ _ _ (@bw _ _ false _ _ _) (@af _ _ false _ _ _ _ (@bw _ _ false _ _ _) (@aB _ _ _) (by rfl)) (by rfl)
  refine' @bp _ _ _ _ _ _ ?z55 ?_
  case z55=>
   refine' @eD _ _ _ _ _ _ _ _ hX.nd l3 ?z56 (by rfl)
   case z56=>
    refine' @db _ _ false _ _ _ _ _ _ _ _ F_qa (hr.mono (by decide)) gg_qa ?z57 (by rfl) (by rfl)
    case z57=>
     refine' @af _ _ false _ _ _ _ (@nv _ _ _ _ _ false n1) ?z58 (by rfl)
     case z58=>
      refine' @af _ _ false _ _ _ _ (@aM _ _ false _ _ _) ?z59 (by rfl)
      case z59=>
       refine' @af _ _ false _ _ _ _ ?z60 ?z61 (by rfl)
       case z60=>
        refine' @cG _ _ false false _ _ _ _ _ ?z62 ?z63 (by exact fun _ _=>rfl)
        case z62=>
         refine' @DF.share _ _ false _ _ ?z64
         case z64=>
          refine' @cx _ _ _ _ _ ?z65
          case z65=>
           refine' @af _ _ false _ _ _ _ (@bw _ _ false _ _ _) ?z66 (by rfl)
           case z66=>
            exact @af _ _ false _ _ _ _ (@bw _ _ false _ _ _) (@af _ _ false _ _ _ _ (@bw _ _ false _ _ _) (@aB _ _ _) (by rfl)) (by rfl)
        case z63=>
         refine' @pr _ _ false false _ _ _ _ _ false ?z67 (@aM _ _ false _ _ _)
         case z67=>
          refine' @db _ _ false _ _ _ _ _ _ _ _ F_q9 (hr.mono (by decide)) gg_q9 ?z68 (by rfl) (by rfl)
          case z68=>
           exact @af _ _ false _ _ _ _ (@nv _ _ _ _ _ false n1) (@af _ _ false _ _ _ _ (@aM _ _ false _ _ _) (@aB _ _ _) (by rfl)) (by rfl)
       case z61=>
        refine' @af _ _ false _ _ _ _ ?z69 (@aB _ _ _) (by rfl)
        case z69=>
         refine' @cG _ _ false false _ _ _ _ _ ?z70 (@pr _ _ false false _ _ _ _ _ false (@nv _ _ _ _ _ false n1) (@aM _ _ false _ _ _)) (by exact fun _ _=>rfl)
         case z70=>
          refine' @DF.share _ _ false _ _ ?z71
          case z71=>
           refine' @cx _ _ _ _ _ ?z72
           case z72=>
            exact @af _ _ false _ _ _ _ (@bw _ _ false _ _ _) (@af _ _ false _ _ _ _ (@bw _ _ false _ _ _) (@aB _ _ _) (by rfl)) (by rfl)
  refine' @bp _ _ _ _ _ _ ?z73 ?_
  case z73=>
   refine' @eD _ _ _ _ _ _ _ _ hX.nd l4 ?z74 (by rfl)
   case z74=>
    refine' @DF.share _ _ false _ _ ?z75
    case z75=>
     refine' @md _ _ _ _ _ _ _ ?z76 ?z77
     case z76=>
      refine' @DF.share _ _ false _ _ ?z78
      case z78=>
       refine' @iH _ _ _ _ _ _ _ _ _ _ _ _ _ hX.calm (cw 9) ?z79 (CompScope.of' hX (by decide +kernel)) (fun cl C s₂ H₂ ex pn=>@b0 _ _ _ _ _ (hX.comp _ cl C s₂ H₂ ex pn).nd ((hX.comp _ cl C s₂ H₂ ex pn).lcl (i:=9) (by decide +kernel))) (fun cl C s₂ H₂ ex pn=>@fX _ _) ?z80 (by intro _;rfl)
       case z79=>
        refine' @kJ _ _ false false _ _ _ _ _ gg_range.gl (Txb.get (x:="range") T (by decide +kernel)) ?z81 (by rfl)
        case z81=>
         exact @ie _ _ false false _ _ _ _ gg_len (Txb.get (x:="len") T (by decide +kernel)) (@cG _ _ false false _ _ _ _ _ (@nv _ _ _ _ _ false n2) (@aM _ _ false _ _ _) (by exact fun _ _=>rfl)) (by rfl)
       case z80=>
        intro cl C s₂ H₂ ex pn;refine' @eP _ _ false _ _ _ _ ?z82
        case z82=>
         exact @af _ _ false _ _ _ _ (@cG _ _ false false _ _ _ _ _ (@nv _ _ _ _ _ false ((hX.comp _ cl C s₂ H₂ ex pn).nm (i:=2) (by decide +kernel))) (@aM _ _ false _ _ _) (by exact fun _ _=>rfl)) (@af _ _ false _ _ _ _ (@nv _ _ _ _ _ false ((hX.comp _ cl C s₂ H₂ ex pn).nm (i:=9) (by decide +kernel))) (@aB _ _ _) (by rfl)) (by rfl)
     case z77=>
      refine' @DF.share _ _ false _ _ ?z83
      case z83=>
       refine' @iH _ _ _ _ _ _ _ _ _ _ _ _ _ hX.calm (cw 9) ?z84 (CompScope.of' hX (by decide +kernel)) (fun cl C s₂ H₂ ex pn=>@b0 _ _ _ _ _ (hX.comp _ cl C s₂ H₂ ex pn).nd ((hX.comp _ cl C s₂ H₂ ex pn).lcl (i:=9) (by decide +kernel))) (fun cl C s₂ H₂ ex pn=>@fX _ _) ?z85 (by intro _;rfl)
       case z84=>
        refine' @kJ _ _ false false _ _ _ _ _ gg_range.gl (Txb.get (x:="range") T (by decide +kernel)) ?z86 (by rfl)
        case z86=>
         exact @ie _ _ false false _ _ _ _ gg_len (Txb.get (x:="len") T (by decide +kernel)) (@cG _ _ false false _ _ _ _ _ (@nv _ _ _ _ _ false n3) (@aM _ _ false _ _ _) (by exact fun _ _=>rfl)) (by rfl)
       case z85=>
        intro cl C s₂ H₂ ex pn;refine' @eP _ _ false _ _ _ _ ?z87
        case z87=>
         exact @af _ _ false _ _ _ _ (@cG _ _ false false _ _ _ _ _ (@nv _ _ _ _ _ false ((hX.comp _ cl C s₂ H₂ ex pn).nm (i:=3) (by decide +kernel))) (@aM _ _ false _ _ _) (by exact fun _ _=>rfl)) (@af _ _ false _ _ _ _ (@nv _ _ _ _ _ false ((hX.comp _ cl C s₂ H₂ ex pn).nm (i:=9) (by decide +kernel))) (@aB _ _ _) (by rfl)) (by rfl)
  refine' @bp _ _ _ _ _ _ ?z88 ?_
  case z88=>
   exact @m8 _ _ _ _ _ _ _ _ hX.nd l5 (@cx _ _ _ _ _ (@aB _ _ _)) (by rfl)
  refine' @bp _ _ _ _ _ _ (@oE _ _ _ _ _ _ _ fB _ hp hX.calm ?z89 (@b0 _ _ _ _ _ hX.nd l6) ?_ (by intro _;rfl)) ?_
  case z89=>
   refine' @bP _ _ false _ _ _ ?z90
   case z90=>
    exact @DF.share _ _ false _ _ (@jE _ _ _ _ _ _ .ts hu gg_sorted.gl (Txb.get (x:="sorted") T (by decide +kernel)) (@nv _ _ _ _ _ false n4) (by rfl))
  ·refine @bS _ _ _ _ (@sk _ _ _ _ _ _ _ _ _ (@mI _ _ _ _ _ _ _ _ _ hu (@nv _ _ _ _ _ false n6) (@nv _ _ _ _ _ true n5) (by rfl)) ?_ ?_)
   ·refine @bS _ _ _ _ (@gM _ _ _ _ _ _ _ _ _ _ n5 (@nv _ _ _ _ _ false n6) (by rfl) (by rfl) (by rfl) (by rfl) (by rfl))
   ·exact @iJ _ _
  refine' @bp _ _ _ _ _ _ ?z91 ?_
  case z91=>
   refine' @eD _ _ _ _ _ _ _ _ hX.nd l7 ?z92 (by rfl)
   case z92=>
    refine' @DF.share _ _ false _ _ ?z93
    case z93=>
     refine' @cx _ _ _ _ _ ?z94
     case z94=>
      refine' @af _ _ false _ _ _ _ ?z95 (@aB _ _ _) (by rfl)
      case z95=>
       refine' @eP _ _ false _ _ _ _ ?z96
       case z96=>
        refine' @af _ _ false _ _ _ _ (@bw _ _ false _ _ _) ?z97 (by rfl)
        case z97=>
         refine' @af _ _ false _ _ _ _ ?z98 ?z99 (by rfl)
         case z98=>
          refine' @DF.share _ _ false _ _ ?z100
          case z100=>
           exact @cx _ _ _ _ _ (@af _ _ false _ _ _ _ (@nv _ _ _ _ _ false n2) (@aB _ _ _) (by rfl))
         case z99=>
          refine' @af _ _ false _ _ _ _ ?z101 (@aB _ _ _) (by rfl)
          case z101=>
           refine' @DF.share _ _ false _ _ ?z102
           case z102=>
            exact @cx _ _ _ _ _ (@af _ _ false _ _ _ _ (@nv _ _ _ _ _ false n3) (@aB _ _ _) (by rfl))
  refine @vw _ _ _ _ _ _ _ _ _ _ _ _ _ _ _ _ hX.nd l8 F_q2 (hr.mono (by decide)) gg_q2 (@af _ _ false _ _ _ _ (@nv _ _ _ _ _ false n7) (@aB _ _ _) (by rfl)) ?_ (by rfl) (by rfl) (by rfl)
  refine @wU _ _ _ _ _ (fun δ=>eN (some (.bl false))) _ _ _ _ (PW.pt (sj (jm (jF (pV (mm:=false) (cs:="tuple") (by simp) gg_isinstance.gl (Txb.get (x:="isinstance") T (by decide +kernel)) gg_tuple.gl (Txb.get (x:="tuple") T (by decide +kernel)) io (nv false n8)))) (sj (oC hu (ie (mm:=false) gg_len (Txb.get (x:="len") T (by decide +kernel)) (nv false n8)) (aM (m:=false))) (qL (jm (jF (pV (mm:=false) (cs:="str") (by simp) gg_isinstance.gl (Txb.get (x:="isinstance") T (by decide +kernel)) gg_str.gl (Txb.get (x:="str") T (by decide +kernel)) uu (cG (nv false n8) (aM (m:=false)))))))))) ?_ ?_
  ·refine @bS _ _ _ _ (@gK _ _ _ _ _ (@nH _ _ false _ _ _))
  refine @wU _ _ _ _ _ (fun δ=>eN (some (.bl false))) _ _ _ _ (PW.pt (pU (qr hu (cG (nv false n8) (aM (m:=false))) (bw (m:=false))) (kI (jm (jF (db F_qe (hr.mono (by decide)) gg_qe (af (cG (nv true n8) (aM (m:=false))) (af (nv true n5) (af (DF.share (m:=true) (bK F_qc (hr.mono (by decide)) gg_qc (af (nv false n2) (af (nv false n3) (aB))))) (aB)))))))))) ?_ ?_
  ·refine @bS _ _ _ _ (@gK _ _ _ _ _ (@nH _ _ false _ _ _))
  refine @wU _ _ _ _ _ (fun δ=>eN (some (.bl false))) _ _ _ _ (PW.pt (pU (oC hu (cG (nv false n8) (aM (m:=false))) (bw (m:=false))) (kI (PW.pt (sj (oC hu (cG (nv false n8) (aM (m:=false))) (bw (m:=false))) (qL (jm (jF (db F_qf (hr.mono (by decide)) gg_qf (af (cG (nv false n8) (aM (m:=false))) (af (DF.share (m:=false) (bK F_qc (hr.mono (by decide)) gg_qc (af (nv false n2) (af (nv false n3) (aB))))) (aB)))))))))))) ?_ ?_
  ·refine @bS _ _ _ _ (@gK _ _ _ _ _ (@nH _ _ false _ _ _))
  refine @qG _ _ _ _ _ _ _ _ _ _ _ _ _ (fun δ=>some .non) (fun δ=>some (.int 1)) n8 (@aM _ _ false _ _ _) (@mU _ _ false _ _) ?_ (by exact fun _ _=>rfl) (by rfl) (by rfl) (by rfl) (by rfl) (by rfl)
  refine' @bS _ _ _ _ (@sk _ _ _ _ _ _ _ _ _ ?z103 ?_ ?_)
  case z103=>
   refine' @oC _ _ false false _ _ _ _ _ hu (@nv _ _ _ _ _ false n7) ?z104
   case z104=>
    refine' @DF.share _ _ false _ _ ?z105
    case z105=>
     refine' @cx _ _ _ _ _ ?z106
     case z106=>
      refine' @af _ _ false _ _ _ _ ?z107 (@aB _ _ _) (by rfl)
      case z107=>
       refine' @eP _ _ false _ _ _ _ ?z108
       case z108=>
        refine' @af _ _ false _ _ _ _ (@bw _ _ false _ _ _) ?z109 (by rfl)
        case z109=>
         refine' @af _ _ false _ _ _ _ ?z110 ?z111 (by rfl)
         case z110=>
          refine' @DF.share _ _ false _ _ ?z112
          case z112=>
           exact @cx _ _ _ _ _ (@af _ _ false _ _ _ _ (@nv _ _ _ _ _ false n2) (@aB _ _ _) (by rfl))
         case z111=>
          refine' @af _ _ false _ _ _ _ ?z113 (@aB _ _ _) (by rfl)
          case z113=>
           refine' @DF.share _ _ false _ _ ?z114
           case z114=>
            exact @cx _ _ _ _ _ (@af _ _ false _ _ _ _ (@nv _ _ _ _ _ false n3) (@aB _ _ _) (by rfl))
  ·refine @bS _ _ _ _ (@gK _ _ _ _ _ (@nH _ _ false _ _ _))
  ·exact @iJ _ _
 refine @bS _ _ _ _ (@gK _ _ _ _ _ (@nH _ _ false _ _ _))
theorem zW {f:Addr}{fd:FuncData}(F:Fun K "law" "law" fE f fd) (hm:mg "law"=some (.ref f)) (T:Txt mg) (F_q2:FnM P w K mg base 4 "ranks" f_q2) (F_q9:FnM P w K mg base 1 "_law_mix" f_q9) (F_qa:FnM P w K mg base 2 "_law_pattern" f_qa) (F_qc:FnM P w K mg base 2 "_law_arrows" f_qc) (F_qe:FnM P w K mg base 3 "_law_ranked" f_qe) (F_qf:FnM P w K mg base 3 "_law_ring" f_qf):FnOk P w K mg base CX0 5 f fd ["_law_script"] (spM K f_law):=by
 have hb:=F.binds (ps:=["_law_script"]) (by walk_at "bi")
 have h:=mf (P:=P) (w:=w) (base:=base) (k:=4) (g:=g_law) F ut hb hm (by decide) fun cdv A outer s H E hr=>by
  exact @Ab _ ((kD CX0 P w K mg base wt "law" (ai fE) f cdv A outer s H E).nox) (w8 ut.nd) (fun _=>rfl) PassesOwn.never hr T F_q2 F_q9 F_qa F_qc F_qe F_qf
 exact h.1
end
theorem all_mk {l:PySem.W.OpenLaw}{w:World}{K:PySem.W.Frag}{h:Heap}{mg:Str->Option Value}{fa f:Addr}(X:K.In h) (G:h.Ns mainGlobals mg) (hfa:mg "law"=some (.ref fa)) {od an:Option Addr}{sl:Array (Option Value)}{oc kV dc pm cd ct:Value}
  (a:PySem.W.nsIn K mainGlobals "law"=some (some (.ref f))) (l0:K.lookup f=some ⟨oc,od,.func (PySem.W.fnOf "law" "law" (cE fE) (aN fE) (ai fE) .none kV dc pm an cd ct),sl⟩) (c0:PySem.W.codeIn K cd "law"=true) (k0:PySem.W.keepIn K (.ref f)=true) (T:Txt mg)
  (D_letters_of:Df K mg "letters_of" A5) (D_fresh:Df K mg "fresh" Bk) (D_ways_from:Df K mg "ways_from" xc) (D_growing_ring:Df K mg "growing_ring" wX) (D_least_ranks:Df K mg "least_ranks" Bl) (D_spots_of:Df K mg "spots_of" A2) (D_add_arrows:Df K mg "add_arrows" xm) (D_ranks:Df K mg "ranks" xi) (D__law_whole:Df K mg "_law_whole" Bp) (D__law_mix:Df K mg "_law_mix" Bo) (D__law_pattern:Df K mg "_law_pattern" Bn) (D__law_places:Df K mg "_law_places" A1) (D__law_arrows:Df K mg "_law_arrows" Bj) (D__law_is_place:Df K mg "_law_is_place" Br) (D__law_ranked:Df K mg "_law_ranked" Bd) (D__law_ring:Df K mg "_law_ring" Bh):
  ∃fd:FuncData,(∀(s:Shared) (v:Value),BindsTo s fd ⟨[v],[]⟩ [("_law_script",v)])/\∀base:Heap,K.In base->base.Ns mainGlobals mg->FnOk l.prog w K mg base CX0 5 fa fd ["_law_script"] (spM K f_law):=by
 cases hfa.symm.trans (PySem.W.mg_of X G a);refine⟨PySem.W.fnOf "law" "law" (cE fE) (aN fE) (ai fE) .none kV dc pm an cd ct,fun s v=>.of_eq rfl,fun base KB _=>?_⟩
 have M_letters_of:=@Ce _ l.prog w K mg base T D_letters_of;have M_fresh:=@Ck _ l.prog w K mg base T D_fresh M_letters_of;have M_ways_from:=@Ch _ l.prog w K mg base T D_ways_from;have M_growing_ring:=@BM _ l.prog w K mg base T D_growing_ring M_ways_from;have M_least_ranks:=@Cm _ l.prog w K mg base T D_least_ranks;have M_spots_of:=@Cl _ l.prog w K mg base T D_spots_of;have M_add_arrows:=@By _ l.prog w K mg base T D_add_arrows M_letters_of M_fresh M_spots_of;have M_ranks:=@Bu _ l.prog w K mg base T D_ranks M_growing_ring M_least_ranks M_add_arrows;have M__law_whole:=@BV _ l.prog w K mg base T D__law_whole;have M__law_mix:=@Cf _ l.prog w K mg base T D__law_mix;have M__law_pattern:=@BP _ l.prog w K mg base T D__law_pattern M__law_mix;have M__law_places:=@B2 _ l.prog w K mg base T D__law_places;have M__law_arrows:=@Cb _ l.prog w K mg base T D__law_arrows M__law_places;have M__law_is_place:=@BK _ l.prog w K mg base T D__law_is_place M__law_whole;have M__law_ranked:=@BA _ l.prog w K mg base T D__law_ranked M__law_whole M__law_is_place;have M__law_ring:=@BU _ l.prog w K mg base T D__law_ring M__law_is_place;exact zW (uL l0 c0 k0) hfa T M_ranks M__law_mix M__law_pattern M__law_arrows M__law_ranked M__law_ring
end K51
set_option tactic.hygienic false
namespace K51
open PySem L2
variable[Lams]
inductive Te where
 |any (m:Str)
 |nm (w:Str)
deriving DecidableEq
noncomputable def teD:Te->D
 |.any m=>.tup [.str "any",.str m]
 |.nm w=>.tup [.str "name",.str w]
noncomputable abbrev Pat:=Str×List Te
noncomputable def aK (p:Pat):D:=.tup [.str p.1,.tup (p.2.map teD)]
noncomputable abbrev Pl:=Str×Nat
noncomputable def plD (p:Pl):D:=.tup [.str p.1,.int p.2]
theorem na:(("name":Str)="any")=False:=by simp;decide +kernel
theorem an:(("any":Str)="name")=False:=by simp;decide +kernel
theorem at0 (a b:D):atI [a,b] 0=some a:=rfl
theorem at1 (a b:D):atI [a,b] 1=some b:=rfl
theorem bU {p q:Pl}(h:plD p=plD q):p=q:=by
 obtain⟨a,i⟩:=p;obtain⟨b,j⟩:=q;simp only[plD,D.tup.injEq,List.cons.injEq,D.str.injEq,D.int.injEq,and_true]at h;obtain⟨rfl,h⟩:=h;rw[Int.ofNat.inj h]
theorem qU {a b:Te}(h:teD a=teD b):a=b:=by
 cases a<;>cases b<;>simp[teD,na,an]at h<;>rw[h]
theorem eB {p:Pl}{ks:List Pl}:plD p∈ks.map plD↔p∈ks:=
 ⟨fun h=>by obtain⟨q,hq,e⟩:=List.mem_map.mp h;rw[<-bU e];exact hq,fun h=>List.mem_map.mpr ⟨p,h,rfl⟩⟩
theorem g6 (p:Pl):(bL 8 (plD p)&&nW (plD p))=true:=rfl
theorem zh (p:Pl):okD 16 (plD p)=true:=rfl
theorem wN (t:Te):okD 16 (teD t)=true:=by cases t<;>rfl
noncomputable def fD (ks:List Pl) (φ:Pl->D):D:=.dD (ks.map plD) (ks.map φ)
noncomputable def fU (φ:Pl->D) (p:Pl) (d:D):Pl->D:=fun q=>if q=p then d else φ q
theorem ui (φ:Pl->D) (p:Pl):∀ks:List Pl,cX (plD p) (ks.map plD) (ks.map φ)=if p∈ks then some (φ p) else none
 |[]=>rfl
 |k::ks=>by
  rw[List.map_cons,List.map_cons,cX,ui φ p ks]
  by_cases h:k=p
  ·subst h;simp
  ·rw[if_neg (fun z=>h (bU z))]
   simp only[List.mem_cons,fun z=>h (Eq.symm z),false_or]
   by_cases c:p∈ks
   ·rw[if_pos c,if_pos (Or.inr c)]
   ·rw[if_neg c,if_neg (fun z=>z.elim (fun e=>h e.symm) c)]
theorem zi (ks:List Pl) (φ:Pl->D) (p:Pl):cO (some (fD ks φ)) (some (plD p))=some (if p∈ks then some (φ p) else none):=by
 unfold fD cO;simp only[g6,if_true,ui]
theorem lr {ks:List Pl}(φ:Pl->D) {p:Pl}(h:p∈ks):gt (some (fD ks φ)) (some (plD p))=some (φ p):=by
 unfold gt;rw[zi,if_pos h]
theorem xJ {ks:List Pl}(φ:Pl->D) {p:Pl}(d:D) (h:p∉ks):ks.map (fU φ p d)=ks.map φ:=
 List.map_congr_left fun q hq=>if_neg fun z:q=p=>h (z▸hq)
theorem uQ (φ:Pl->D) (p:Pl) (d:D):∀ks:List Pl,m9 (plD p) d (ks.map plD) (ks.map φ)=ks.map (fU φ p d)
 |[]=>rfl
 |k::ks=>by
  rw[List.map_cons,List.map_cons,m9,uQ φ p d ks,List.map_cons]
  by_cases h:k=p
  ·subst h;simp[fU]
  ·rw[if_neg (fun z=>h (bU z))];simp[fU,h]
theorem xG {ks:List Pl}(φ:Pl->D) {p:Pl}(d:D) (h:p∈ks) (hl:ks.length<lim):cU (fD ks φ) (plD p) d=some (fD ks (fU φ p d)):=by
 unfold fD cU;dsimp only;rw[if_pos (by rw[g6,List.length_map,decide_eq_true hl];rfl)]
 unfold ip rV;rw[if_pos (eB.mpr h),if_pos (eB.mpr h),uQ]
theorem xE {ks:List Pl}(φ:Pl->D) {p:Pl}(d:D) (h:p∉ks) (hl:ks.length<lim):cU (fD ks φ) (plD p) d=some (fD (ks++[p]) (fU φ p d)):=by
 unfold fD cU;dsimp only;rw[if_pos (by rw[g6,List.length_map,decide_eq_true hl];rfl)]
 unfold ip rV;rw[if_neg (fun z=>h (eB.mp z)),if_neg (fun z=>h (eB.mp z)),List.map_append,List.map_append,xJ φ d h]
 simp[fU]
noncomputable def gF (ks:List Pl) (φ:Pl->D):List (D×D):=ks.map fun p=>(plD p,φ p)
theorem Ci (ks:List Pl) (φ:Pl->D):gD (gF ks φ)=fD ks φ:=by
 unfold gD gF fD;rw[List.map_map,List.map_map];rfl
theorem tK (φ:Pl->D) (p:Pl):∀ks:List Pl,gv (gF ks φ) (plD p)=if p∈ks then some (φ p) else none
 |[]=>rfl
 |k::ks=>by
  unfold gF;rw[List.map_cons,gv];have ih:=tK φ p ks;unfold gF at ih;rw[ih]
  by_cases h:k=p
  ·subst h;simp
  ·rw[if_neg (fun z=>h (bU z))]
   by_cases c:p∈ks
   ·rw[if_pos c,if_pos (List.mem_cons_of_mem _ c)]
   ·rw[if_neg c,if_neg (fun z=>(List.mem_cons.mp z).elim (fun e=>h e.symm) c)]
theorem pE (φ:Pl->D) (p:Pl) (d:D):∀{ks:List Pl},ks.Nodup->uj (gF ks φ) (plD p) d=gF ks (fU φ p d)
 |[],_=>rfl
 |k::ks,nd=>by
  unfold gF;rw[List.map_cons,uj,List.map_cons];obtain⟨n1,n2⟩:=List.nodup_cons.mp nd
  by_cases h:k=p
  ·subst h
   rw[if_pos rfl];simp only[fU,if_true];congr 1;exact List.map_congr_left fun q hq=>by rw[if_neg fun z:q=k=>n1 (z▸hq)]
  ·rw[if_neg (fun z=>h (bU z))]
   have ih:=pE φ p d n2;unfold gF at ih;rw[ih];simp[fU,h]
theorem uW {ks:List Pl}(φ:Pl->D) {p:Pl}(d:D) (h:p∉ks):gF ks φ++[(plD p,d)]=gF (ks++[p]) (fU φ p d):=by
 unfold gF;rw[List.map_append];congr 1
 ·exact List.map_congr_left fun q hq=>by rw[fU,if_neg fun z:q=p=>h (z▸hq)]
 ·simp[fU]
theorem uk (ks:List Pl) (φ:Pl->D):(gF ks φ).length=ks.length:=List.length_map ..
noncomputable def tsD (l:List (Pl×Int)):D:=.dD (l.map fun q=>plD q.1) (l.map fun q=>.int q.2)
noncomputable def tg (l:List (Pl×Int)) (q:Pl):Option Int:=(l.find? fun x=>decide (x.1=q)).map (·.2)
theorem ua (q:Pl):∀l:List (Pl×Int),cX (plD q) (l.map fun q=>plD q.1) (l.map fun q=>.int q.2)=(tg l q).map D.int
 |[]=>rfl
 |x::l=>by
  rw[List.map_cons,List.map_cons,cX,ua q l];unfold tg
  by_cases h:x.1=q
  ·rw[if_pos (by rw[h]),List.find?_cons_of_pos (by simpa using h)];rfl
  ·rw[if_neg (fun z=>h (bU z)),List.find?_cons_of_neg (by simpa using h)]
theorem ug (l:List (Pl×Int)) (q:Pl):cO (some (tsD l)) (some (plD q))=some ((tg l q).map D.int):=by
 unfold tsD cO;simp only[g6,if_true,ua]
theorem yf {l:List (Pl×Int)}{q:Pl}(g:Int) (h:q∉l.map (·.1)) (hl:l.length<lim):cU (tsD l) (plD q) (.int g)=some (tsD (l++[(q,g)])):=by
 unfold tsD cU;have hm:plD q∉l.map fun q=>plD q.1:=fun z=>by
  obtain⟨x,hx,e⟩:=List.mem_map.mp z;exact h (List.mem_map.mpr ⟨x,hx,bU e⟩)
 dsimp only;rw[if_pos (by rw[g6,List.length_map,decide_eq_true hl];rfl)]
 unfold ip rV;rw[if_neg hm,if_neg hm];simp
theorem vZ {l:List (Pl×Int)}{q:Pl}(h:q∉l.map (·.1)):tg l q=none:=by
 unfold tg;rw[Option.map_eq_none_iff,List.find?_eq_none]
 intro x hx e;exact h (List.mem_map.mpr ⟨x,hx,of_decide_eq_true e⟩)
end K51
set_option tactic.hygienic false
namespace K51
open PySem L2
variable[Lams]
noncomputable def ans:List Te->List Str
 |[]=>[]
 |.any m::r=>m::ans r
 |.nm _::r=>ans r
theorem eM:∀ts:List Te,(ans ts).length<=ts.length
 |[]=>Nat.le_refl _
 |.any m::ts=>Nat.succ_le_succ (eM ts)
 |.nm w::ts=>Nat.le_succ_of_le (eM ts)
theorem iB {l:Str}:∀{ts:List Te},l∈ans ts↔.any l∈ts
 |[]=>by simp[ans]
 |.any m::ts=>by rw[ans,List.mem_cons,List.mem_cons,iB];simp
 |.nm w::ts=>by rw[ans,List.mem_cons,iB];simp
theorem sG (ts:List Te):cA (bb (ae 4) (fun δ=>eqO (ixO (rd false 4 δ) (some (.int 0))) (some (.str "any"))) mS [none,none,none,none,none]) (ts.map teD)=some ((ans ts).map D.str):=by
 induction ts with
 |nil=>rfl
 |cons c ts ih=>
  rw[List.map_cons];unfold cA;rw[ih];cases c with
  |any n=>simp[bb,teD,mS,at0,at1,cg,ans]
  |nm w=>simp[bb,teD,mS,at0,at1,cg,na,ans]
theorem bH {p:Pat}(h4:p.2.length<=4):f_q0 [.lst [aK p]]=some (.lst (sU (ans p.2)),true):=by
 have hb:=eM p.2;rw[bf (f:=f_q0) (δ:=[some (.lst [aK p],false),none,none,none,none]) rfl rfl rfl];simp[AQ,aR,aK,uo];rw[b7 (by simp;lia)]
 simp[bd];have:=sG p.2;rw[this];simp[uq];rw[if_pos (by lia)]
 simp[uh];rw[jN (by lia)]
 simp
theorem iU (ss:List Str):∃us:List Str,sU ss=us.map D.str/\us.Nodup/\(∀x,x∈us↔x∈ss)/\us.length<=ss.length:=by
 have hp:=c9 (uS ss);exact⟨eY (uS ss),rfl,hp.nodup_iff.mpr (e8 ss),fun x=>hp.mem_iff.trans (jY x ss),hp.length_eq▸uF ss⟩
theorem iF (l:Str) (ss:List Str):inO (some (.str l)) (some (.lst (ss.map D.str)))=some (decide (l∈ss)):=by
 unfold inO;simp only[aS];rw[if_pos]
 ·congr 1
  apply decide_eq_decide.mpr;simp
 ·rw[Bool.and_eq_true,List.all_eq_true]
  refine⟨rfl,fun x hx=>?_⟩
  obtain⟨c,_,rfl⟩:=List.mem_map.mp hx;rfl
theorem br {α:Type}{f h:α->D}{p:α->Bool}{F:D->Option (Option D)}:∀{xs:List α},(∀x∈xs,F (f x)=some (if p x=true then some (h x) else none))->cA F (xs.map f)=some ((xs.filter p).map h)
 |[],_=>rfl
 |x::xs,hx=>by
  rw[List.map_cons];unfold cA;rw[br fun y hy=>hx y (List.mem_cons_of_mem _ hy),hx x (List.mem_cons_self ..),List.filter_cons]
  by_cases c:p x=true
  ·rw[if_pos c,if_pos c];rfl
  ·rw[if_neg c,if_neg c]
noncomputable def ruD (b h:Pat):D:=.tup [.str "must",.lst [aK b],.lst [aK h]]
theorem ru1 (b h:Pat):ixO (some (ruD b h)) (some (.int 1))=some (.lst [aK b]):=rfl
theorem ru2 (b h:Pat):ixO (some (ruD b h)) (some (.int 2))=some (.lst [aK h]):=rfl
theorem sT {b h:Pat}(hb:b.2.length<=4) (hh:h.2.length<=4):∃us:List Str,(∀x,x∈us↔x∈ans h.2/\x∉ans b.2)/\us.length<=4/\f_q1 [ruD b h]=some (.lst (us.map D.str),true):=by
 obtain⟨vs,ev,_,mv,lv⟩:=iU (ans h.2);obtain⟨ws,ew,_,mw,lw⟩:=iU (ans b.2);have l1:=eM h.2;refine⟨vs.filter fun x=>!decide (x∈ws),fun x=>?_,Nat.le_trans (List.length_filter_le ..) (by lia),?_⟩
 ·rw[List.mem_filter,mv];simp[mw]
 ·rw[bf (f:=f_q1) (δ:=[some (ruD b h,false),none,none]) rfl rfl rfl]
  simp only[AR,rd_0,ru1,consO_s,bindO_s,bH hb,frO_s];rw[setO_s _ _ _ (by simp)]
  simp only[seqO_n,List.set_cons_succ,List.set_cons_zero,rd_0,ru2,consO_s,bindO_s,bH hh,frO_s,lstL_s,ev,ew];rw[b7 (by simp;lia),br (f:=D.str) (h:=D.str) (p:=fun x=>!decide (x∈ws)) fun x _=>?_]
  ·simp
  ·have:inO (some (.str x)) (some (.lst (ws.map D.str)))=some (decide (x∈ws)):=iF x ws
   by_cases c:x∈ws
   ·simp[bb,bd,qE,bZ,this,c]
   ·simp[bb,bd,qE,bZ,this,c]
noncomputable abbrev Sp:=Te×Pl
noncomputable def spD (s:Sp):D:=.tup [teD s.1,plD s.2]
noncomputable def ao (t:Str):Nat->List Te->List Sp
 |_,[]=>[]
 |k,x::ts=>(x,(t,k))::ao t (k+1) ts
theorem bq (t:Str):∀(k:Nat) (ts:List Te),(ao t k ts).length=ts.length
 |_,[]=>rfl
 |k,x::ts=>congrArg (· +1) (bq t (k+1) ts)
theorem gI (t:Str) (a0 a1 a3 a4 a5:Option (D×Bool)):∀(ts:List Te) (k:Nat),cA (bb (bg (am (ae 5) (am (ae 4) (toNil)))) (fun δ=>some true) o3 [a0,a1,some (.str t,false),a3,a4,a5]) (gx k (ts.map teD))=some ((ao t k ts).map spD)
 |[],k=>rfl
 |x::ts,k=>by
  rw[List.map_cons,gx];unfold cA;rw[gI t a0 a1 a3 a4 a5 ts (k+1)];simp[bb,o3,ao,spD,plD]
theorem my {p:Pat}(h4:p.2.length<=4):f_q4 [.lst [aK p]]=some (.lst ((ao p.1 0 p.2).map spD),true):=by
 rw[bf (f:=f_q4) (δ:=[some (.lst [aK p],false),none,none,none,none,none]) rfl rfl rfl];simp[Al,aR,aK,uv,mN];rw[b7 (by rw[fQ];simp;lia)]
 simp[bd];have:=gI p.1 none none none none none p.2 0;rw[this];simp[uq];rw[if_pos (by rw[bq];lia)]
 simp
end K51
set_option tactic.hygienic false
namespace K51
open PySem L2
variable[Lams]
theorem uB (t:Te) (ls:List Str):inO (some (teD t)) (some (.lst (ls.map fun l=>teD (.any l))))=some (decide (∃l∈ls,t=.any l)):=by
 unfold inO;simp only[aS];rw[if_pos]
 ·congr 1
  apply decide_eq_decide.mpr;rw[List.mem_map];exact⟨fun⟨l,h1,h2⟩=>⟨l,h1,(qU h2).symm⟩,fun⟨l,h1,h2⟩=>⟨l,h1,by rw[h2]⟩⟩
 ·rw[Bool.and_eq_true,List.all_eq_true]
  refine⟨wN t,fun x hx=>?_⟩
  obtain⟨c,_,rfl⟩:=List.mem_map.mp hx;rfl
theorem uz (a b:Te):eqO (some (teD a)) (some (teD b))=some (decide (a=b)):=by
 rw[oX _ _ (by unfold ok2;rw[wN,wN];rfl)]
 congr 1;exact decide_eq_decide.mpr ⟨qU,fun h=>by rw[h]⟩
theorem fj {ik:Nat}{δ:DEnv}{p:Pl}(h:rd false ik δ=some (plD p)):ji ik δ=some (plD p):=by
 unfold ji;rw[h];simp only[g6,if_true]
noncomputable def aY (ks:List Pl):List Pl->List Pl
 |[]=>ks
 |p::r=>aY (if p∈ks then ks else ks++[p]) r
theorem bE (x:Pl):∀(ps ks:List Pl),x∈aY ks ps↔x∈ks\/x∈ps
 |[],ks=>by simp[aY]
 |p::ps,ks=>by
  rw[aY,bE x ps,List.mem_cons]
  by_cases c:p∈ks
  ·rw[if_pos c]
   exact⟨fun h=>h.elim .inl fun h=>.inr (.inr h),fun h=>h.elim .inl fun h=>h.elim (fun e=>.inl (e▸c)) .inr⟩
  ·rw[if_neg c,List.mem_append,List.mem_singleton,or_assoc]
theorem bz:∀(ps:List Pl) {ks:List Pl},ks.Nodup->(aY ks ps).Nodup
 |[],ks,h=>h
 |p::ps,ks,h=>by
  rw[aY];refine bz ps ?_
  by_cases c:p∈ks
  ·rw[if_pos c];exact h
  ·rw[if_neg c]
   exact List.nodup_append.mpr ⟨h,by simp,fun a ha b hb e=>c (by rw[List.mem_singleton]at hb;rw[<-hb,<-e];exact ha)⟩
theorem fO:∀(ps ks:List Pl),(aY ks ps).length<=ks.length+ps.length
 |[],ks=>Nat.le_refl _
 |p::ps,ks=>by
  rw[aY];have:=fO ps (if p∈ks then ks else ks++[p])
  by_cases c:p∈ks
  ·rw[if_pos c]at this⊢;rw[List.length_cons];lia
  ·rw[if_neg c]at this⊢;rw[List.length_append,List.length_singleton]at this;rw[List.length_cons];lia
noncomputable def E0:Pl->D:=fun _=>tsD []
theorem AT (p:Pl):fU E0 p (tsD [])=E0:=by funext q;unfold fU E0;split<;>rfl
theorem mB (a0 a1 a2 a3 a6 a7 a8 a9 a10 a11:Option (D×Bool)):∀(sps:List Sp) (ks:List Pl) (a4 a5:Option (D×Bool)),ks.length+sps.length<=100->∃x4 x5,
  cS (i9 4 5) (zF 5) none (sps.map spD) [a0,a1,a2,a3,a4,a5,a6,a7,a8,a9,a10,a11] (gF ks E0)=some ([a0,a1,a2,a3,x4,x5,a6,a7,a8,a9,a10,a11],gF (aY ks (sps.map (·.2))) E0)
 |[],ks,a4,a5,_=>⟨a4,a5,rfl⟩
 |s::sps,ks,a4,a5,hl=>by
  rw[List.length_cons]at hl;have hk:(if s.2∈ks then ks else ks++[s.2]).length<=ks.length+1:=by split<;>simp
  obtain⟨x4,x5,e⟩:=mB a0 a1 a2 a3 a6 a7 a8 a9 a10 a11 sps (if s.2∈ks then ks else ks++[s.2]) (some (teD s.1,false)) (some (plD s.2,false)) (by lia)
  refine⟨x4,x5,?_⟩
  rw[List.map_cons,List.map_cons,aY,<-e,cS];have e1:i9 4 5 (spD s) [a0,a1,a2,a3,a4,a5,a6,a7,a8,a9,a10,a11]=some [a0,a1,a2,a3,some (teD s.1,false),some (plD s.2,false),a6,a7,a8,a9,a10,a11]:=by
   unfold i9 spD;simp
  have e2:ji 5 [a0,a1,a2,a3,some (teD s.1,false),some (plD s.2,false),a6,a7,a8,a9,a10,a11]=some (plD s.2):=fj rfl;rw[e1,bindO_s];unfold zF;rw[e2,bindO_s,tK]
  by_cases c:s.2∈ks
  ·simp only[if_pos c,bindO_s]
  ·simp only[if_neg c]
   rw[if_pos (by rw[uk,lim_eq];lia),bindO_s]
   dsimp only;rw[show(D.dD [] [])=tsD [] from rfl,uW E0 (tsD []) c,AT]
noncomputable def edg (us:List Str) (te:Te) (s:Sp):Option (Pl×Int):=if ∃l∈us,s.1=.any l then some (s.2,1) else if s.1=te then some (s.2,0) else none
theorem xZ (φ:Pl->D) (p:Pl) (x y:D):fU (fU φ p x) p y=fU φ p y:=by funext q;unfold fU;split<;>rfl
theorem km {ks:List Pl}(nd:ks.Nodup) {p:Pl}(hp:p∈ks) (us:List Str) (te:Te) (a0 a1 a2 a3 a5 a7 a8 a11:Option (D×Bool)):∀(hs:List Sp) (φ:Pl->D) (l:List (Pl×Int)) (a9 a10:Option (D×Bool)),φ p=tsD l->(hs.map (·.2)).Nodup->(∀s∈hs,s.2∉l.map (·.1))->l.length+hs.length<=100->∃x9 x10,
  cS (i9 9 10) (gIf ax (rF aE aC) (gIf aw (gSd aq au) (gSkip))) (some (plD p)) (hs.map spD) [a0,a1,a2,a3,some (teD te,false),a5,some (.lst (us.map fun l=>teD (.any l)),false),a7,a8,a9,a10,a11] (gF ks φ)=
   some ([a0,a1,a2,a3,some (teD te,false),a5,some (.lst (us.map fun l=>teD (.any l)),false),a7,a8,x9,x10,a11],gF ks (fU φ p (tsD (l++hs.filterMap (edg us te)))))
 |[],φ,l,a9,a10,hφ,_,_,_=>⟨a9,a10,by
  have:fU φ p (tsD (l++[]))=φ:=by
   funext q;unfold fU
   by_cases c:q=p
   ·rw[if_pos c,List.append_nil,<-hφ,c]
   ·rw[if_neg c]
  rw[List.filterMap_nil,this];rfl⟩
 |s::hs,φ,l,a9,a10,hφ,hn,hd,hl=>by
  rw[List.length_cons]at hl;rw[List.map_cons,List.nodup_cons]at hn;have hs0:=hd s (List.mem_cons_self ..);have next:∀(φ':Pl->D) (l':List (Pl×Int)),φ' p=tsD l'->(l'=l\/∃g,l'=l++[(s.2,g)])->∃x9 x10,
    cS (i9 9 10) (gIf ax (rF aE aC) (gIf aw (gSd aq au) (gSkip))) (some (plD p)) (hs.map spD) [a0,a1,a2,a3,some (teD te,false),a5,some (.lst (us.map fun l=>teD (.any l)),false),a7,a8,some (teD s.1,false),some (plD s.2,false),a11] (gF ks φ')=
   some ([a0,a1,a2,a3,some (teD te,false),a5,some (.lst (us.map fun l=>teD (.any l)),false),a7,a8,x9,x10,a11],gF ks (fU φ' p (tsD (l'++hs.filterMap (edg us te))))):=fun φ' l' h1 h2=>by
   refine km nd hp us te a0 a1 a2 a3 a5 a7 a8 a11 hs φ' l' _ _ h1 hn.2 (fun s' hs' hm=>?_) ?_
   ·rcases h2 with rfl|⟨g,rfl⟩
    ·exact hd s' (List.mem_cons_of_mem _ hs') hm
    ·rw[List.map_append,List.mem_append,List.map_singleton,List.mem_singleton]at hm
     rcases hm with hm|hm
     ·exact hd s' (List.mem_cons_of_mem _ hs') hm
     ·exact hn.1 (List.mem_map.mpr ⟨s',hs',hm⟩)
   ·rcases h2 with rfl|⟨g,rfl⟩
    ·lia
    ·rw[List.length_append,List.length_singleton];lia
  have e1:i9 9 10 (spD s) [a0,a1,a2,a3,some (teD te,false),a5,some (.lst (us.map fun l=>teD (.any l)),false),a7,a8,a9,a10,a11]=some [a0,a1,a2,a3,some (teD te,false),a5,some (.lst (us.map fun l=>teD (.any l)),false),a7,a8,some (teD s.1,false),some (plD s.2,false),a11]:=by
   unfold i9 spD;simp
  have e2:ax [a0,a1,a2,a3,some (teD te,false),a5,some (.lst (us.map fun l=>teD (.any l)),false),a7,a8,some (teD s.1,false),some (plD s.2,false),a11]=some (decide (∃l∈us,s.1=.any l)):=uB s.1 us
  have e3:aw [a0,a1,a2,a3,some (teD te,false),a5,some (.lst (us.map fun l=>teD (.any l)),false),a7,a8,some (teD s.1,false),some (plD s.2,false),a11]=some (decide (s.1=te)):=uz s.1 te
  have e4:gv (gF ks φ) (plD p)=some (tsD l):=by rw[tK,if_pos hp,hφ]
  have e5:∀g:Int,cU (tsD l) (plD s.2) (.int g)=some (tsD (l++[(s.2,g)])):=fun g=>yf g hs0 (by rw[lim_eq];lia)
  have e6:∀g:Int,fU φ p (tsD (l++[(s.2,g)])) p=tsD (l++[(s.2,g)]):=fun g=>by unfold fU;rw[if_pos rfl]
  rw[List.map_cons,cS,e1,bindO_s]
  by_cases c:∃l∈us,s.1=.any l
  ·obtain⟨x9,x10,e⟩:=next (fU φ p (tsD (l++[(s.2,1)]))) (l++[(s.2,1)]) (e6 1) (.inr ⟨1,rfl⟩)
   refine⟨x9,x10,?_⟩
   have ef:(s::hs).filterMap (edg us te)=(s.2,1)::hs.filterMap (edg us te):=by rw[List.filterMap_cons];unfold edg;simp only[if_pos c]
   have eb:gIf ax (rF aE aC) (gIf aw (gSd aq au) (gSkip)) (some (plD p)) [a0,a1,a2,a3,some (teD te,false),a5,some (.lst (us.map fun l=>teD (.any l)),false),a7,a8,some (teD s.1,false),some (plD s.2,false),a11] (gF ks φ)=some ([a0,a1,a2,a3,some (teD te,false),a5,some (.lst (us.map fun l=>teD (.any l)),false),a7,a8,some (teD s.1,false),some (plD s.2,false),a11],gF ks (fU φ p (tsD (l++[(s.2,1)])))):=by
    unfold gIf;rw[e2,decide_eq_true c];dsimp only[rF];rw[e4,bindO_s];show ac (cU (tsD l) (plD s.2) (.int 1)) _=_;rw[e5,bindO_s,pE _ _ _ nd]
   rw[eb,bindO_s];dsimp only;rw[e,xZ,ef,List.append_assoc];rfl
  ·by_cases c2:s.1=te
   ·obtain⟨x9,x10,e⟩:=next (fU φ p (tsD (l++[(s.2,0)]))) (l++[(s.2,0)]) (e6 0) (.inr ⟨0,rfl⟩)
    refine⟨x9,x10,?_⟩
    have ef:(s::hs).filterMap (edg us te)=(s.2,0)::hs.filterMap (edg us te):=by rw[List.filterMap_cons];unfold edg;simp only[if_neg c,if_pos c2]
    have eb:gIf ax (rF aE aC) (gIf aw (gSd aq au) (gSkip)) (some (plD p)) [a0,a1,a2,a3,some (teD te,false),a5,some (.lst (us.map fun l=>teD (.any l)),false),a7,a8,some (teD s.1,false),some (plD s.2,false),a11] (gF ks φ)=some ([a0,a1,a2,a3,some (teD te,false),a5,some (.lst (us.map fun l=>teD (.any l)),false),a7,a8,some (teD s.1,false),some (plD s.2,false),a11],gF ks (fU φ p (tsD (l++[(s.2,0)])))):=by
     unfold gIf;rw[e2,decide_eq_false c];dsimp only;rw[e3,decide_eq_true c2];dsimp only[gSd];rw[e4,bindO_s];rw[show aq [a0,a1,a2,a3,some (teD te,false),a5,some (.lst (us.map fun l=>teD (.any l)),false),a7,a8,some (teD s.1,false),some (plD s.2,false),a11]=some (plD s.2) from rfl,bindO_s,show au [a0,a1,a2,a3,some (teD te,false),a5,some (.lst (us.map fun l=>teD (.any l)),false),a7,a8,some (teD s.1,false),some (plD s.2,false),a11]=some (.int 0) from rfl,bindO_s,ug,vZ hs0,Option.map_none,bindO_s]
     show ac (cU (tsD l) (plD s.2) (.int 0)) _=_;rw[e5,bindO_s,pE _ _ _ nd]
    rw[eb,bindO_s];dsimp only;rw[e,xZ,ef,List.append_assoc];rfl
   ·obtain⟨x9,x10,e⟩:=next φ l hφ (.inl rfl)
    refine⟨x9,x10,?_⟩
    have ef:(s::hs).filterMap (edg us te)=hs.filterMap (edg us te):=by rw[List.filterMap_cons];unfold edg;simp only[if_neg c,if_neg c2]
    have eb:gIf ax (rF aE aC) (gIf aw (gSd aq au) (gSkip)) (some (plD p)) [a0,a1,a2,a3,some (teD te,false),a5,some (.lst (us.map fun l=>teD (.any l)),false),a7,a8,some (teD s.1,false),some (plD s.2,false),a11] (gF ks φ)=some ([a0,a1,a2,a3,some (teD te,false),a5,some (.lst (us.map fun l=>teD (.any l)),false),a7,a8,some (teD s.1,false),some (plD s.2,false),a11],gF ks φ):=by
     unfold gIf;rw[e2,decide_eq_false c];dsimp only;rw[e3,decide_eq_false c2];rfl
    rw[eb,bindO_s];dsimp only;rw[e,ef]
end K51
set_option tactic.hygienic false
namespace K51
open PySem L2
variable[Lams]
theorem xO {c:DEnv->Option Bool}{F G:GF}{po:Option D}{δ:DEnv}{g:List (D×D)}(h:c δ=some true):gIf c F G po δ g=F po δ g:=by unfold gIf;rw[h]
theorem Aq {c:DEnv->Option Bool}{F G:GF}{po:Option D}{δ:DEnv}{g:List (D×D)}(h:c δ=some false):gIf c F G po δ g=G po δ g:=by unfold gIf;rw[h]
theorem eX {F G:GF}{po:Option D}{δ δ':DEnv}{g g':List (D×D)}(h:F po δ g=some (δ',g')):mz F G po δ g=G po δ' g':=by unfold mz;rw[h];rfl
theorem jK {i:Nat}{f:DEnv->Option D}{po:Option D}{δ:DEnv}{g:List (D×D)}{d:D}(h:f δ=some d) (hl:i<δ.length):rJ i f po δ g=some (δ.set i (some (d,false)),g):=by unfold rJ;rw[h];exact if_pos hl
theorem gQ {fi:DEnv->Option (List D)}{τ:D->DEnv->Option DEnv}{F:GF}{po:Option D}{δ:DEnv}{g:List (D×D)}{ds:List D}(h:fi δ=some ds):kZ fi τ F po δ g=cS τ F po ds δ g:=by unfold kZ;rw[h];rfl
theorem tQ {ik:Nat}{F:GF}{δ:DEnv}{g:List (D×D)}{k x:D}(h:ji ik δ=some k) (h2:gv g k=some x):gC ik F none δ g=F (some k) δ g:=by unfold gC;dsimp only;rw[h,bindO_s,h2]
noncomputable def e9 (us ls:List Str) (hs:List Sp):List Sp->Pl->List (Pl×Int)
 |[],_=>[]
 |s::r,p=>if s.2=p then(if ∃l∈ls,s.1=.any l then hs.filterMap (edg us s.1) else[]) else e9 us ls hs r p
theorem mt {ks:List Pl}(nd:ks.Nodup) {hs:List Sp}(hn:(hs.map (·.2)).Nodup) (hl:hs.length<=50) (us ls:List Str) (a0 a1 a2 a11:Option (D×Bool)):∀(bs:List Sp) (φ:Pl->D) (a4 a5 a8 a9 a10:Option (D×Bool)),(bs.map (·.2)).Nodup->(∀s∈bs,s.2∈ks/\φ s.2=tsD [])->∃x4 x5 x8 x9 x10 φ',
  cS (i9 4 5) (gIf aX (gC 5 (kZ aU (i9 9 10) (gIf ax (rF aE aC) (gIf aw (gSd aq au) (gSkip))))) (gSkip)) none (bs.map spD) [a0,a1,a2,some (.lst (hs.map spD),false),a4,a5,some (.lst (us.map fun l=>teD (.any l)),false),some (.lst (ls.map fun l=>teD (.any l)),false),a8,a9,a10,a11] (gF ks φ)=
   some ([a0,a1,a2,some (.lst (hs.map spD),false),x4,x5,some (.lst (us.map fun l=>teD (.any l)),false),some (.lst (ls.map fun l=>teD (.any l)),false),x8,x9,x10,a11],gF ks φ')/\∀p,φ' p=if p∈bs.map (·.2) then tsD (e9 us ls hs bs p) else φ p
 |[],φ,a4,a5,a8,a9,a10,_,_=>⟨a4,a5,a8,a9,a10,φ,rfl,fun p=>by simp⟩
 |s::bs,φ,a4,a5,a8,a9,a10,hb,hk=>by
  rw[List.map_cons,List.nodup_cons]at hb;obtain⟨k1,k2⟩:=hk s (List.mem_cons_self ..);have step:∃x9 x10 φ1,gIf aX (gC 5 (kZ aU (i9 9 10) (gIf ax (rF aE aC) (gIf aw (gSd aq au) (gSkip))))) (gSkip) none [a0,a1,a2,some (.lst (hs.map spD),false),some (teD s.1,false),some (plD s.2,false),some (.lst (us.map fun l=>teD (.any l)),false),some (.lst (ls.map fun l=>teD (.any l)),false),a8,a9,a10,a11] (gF ks φ)=
    some ([a0,a1,a2,some (.lst (hs.map spD),false),some (teD s.1,false),some (plD s.2,false),some (.lst (us.map fun l=>teD (.any l)),false),some (.lst (ls.map fun l=>teD (.any l)),false),a8,x9,x10,a11],gF ks φ1)/\φ1 s.2=tsD (if ∃l∈ls,s.1=.any l then hs.filterMap (edg us s.1) else[])/\∀p,p≠s.2->φ1 p=φ p:=by
   have e2:aX [a0,a1,a2,some (.lst (hs.map spD),false),some (teD s.1,false),some (plD s.2,false),some (.lst (us.map fun l=>teD (.any l)),false),some (.lst (ls.map fun l=>teD (.any l)),false),a8,a9,a10,a11]=some (decide (∃l∈ls,s.1=.any l)):=uB s.1 ls
   by_cases c:∃l∈ls,s.1=.any l
   ·rw[xO (by rw[e2,decide_eq_true c]),if_pos c]
    have e3:ji 5 [a0,a1,a2,some (.lst (hs.map spD),false),some (teD s.1,false),some (plD s.2,false),some (.lst (us.map fun l=>teD (.any l)),false),some (.lst (ls.map fun l=>teD (.any l)),false),a8,a9,a10,a11]=some (plD s.2):=fj rfl
    have e4:aU [a0,a1,a2,some (.lst (hs.map spD),false),some (teD s.1,false),some (plD s.2,false),some (.lst (us.map fun l=>teD (.any l)),false),some (.lst (ls.map fun l=>teD (.any l)),false),a8,a9,a10,a11]=some (hs.map spD):=rfl
    obtain⟨x9,x10,e⟩:=km nd k1 us s.1 a0 a1 a2 (some (.lst (hs.map spD),false)) (some (plD s.2,false)) (some (.lst (ls.map fun l=>teD (.any l)),false)) a8 a11 hs φ [] a9 a10 k2 hn (fun _ _ z=>nomatch z) (by simp;lia)
    refine⟨x9,x10,fU φ s.2 (tsD ([]++hs.filterMap (edg us s.1))),?_,?_,fun p hp=>?_⟩
    ·rw[tQ e3 (by rw[tK,if_pos k1]),gQ e4]
     exact e
    ·unfold fU;rw[if_pos rfl,List.nil_append]
    ·unfold fU;rw[if_neg hp]
   ·rw[Aq (by rw[e2,decide_eq_false c]),if_neg c]
    exact⟨a9,a10,φ,rfl,k2,fun _ _=>rfl⟩
  obtain⟨y9,y10,φ1,es,f1,f2⟩:=step;obtain⟨x4,x5,x8,x9,x10,φ',e,hφ⟩:=mt nd hn hl us ls a0 a1 a2 a11 bs φ1 (some (teD s.1,false)) (some (plD s.2,false)) a8 y9 y10 hb.2 (fun t ht=>by
   obtain⟨t1,t2⟩:=hk t (List.mem_cons_of_mem _ ht);exact⟨t1,by rw[f2 _ fun z=>hb.1 (List.mem_map.mpr ⟨t,ht,z⟩)];exact t2⟩)
  refine⟨x4,x5,x8,x9,x10,φ',?_,fun p=>?_⟩
  ·have e1:i9 4 5 (spD s) [a0,a1,a2,some (.lst (hs.map spD),false),a4,a5,some (.lst (us.map fun l=>teD (.any l)),false),some (.lst (ls.map fun l=>teD (.any l)),false),a8,a9,a10,a11]=some [a0,a1,a2,some (.lst (hs.map spD),false),some (teD s.1,false),some (plD s.2,false),some (.lst (us.map fun l=>teD (.any l)),false),some (.lst (ls.map fun l=>teD (.any l)),false),a8,a9,a10,a11]:=by
    unfold i9 spD;simp
   rw[List.map_cons,cS,e1,bindO_s,es,bindO_s];exact e
  ·rw[hφ,List.map_cons,e9]
   by_cases c:p∈bs.map (·.2)
   ·rw[if_pos c,if_pos (List.mem_cons_of_mem _ c),if_neg (fun z:s.2=p=>hb.1 (z▸c))]
   ·rw[if_neg c]
    by_cases c2:p=s.2
    ·subst c2
     rw[if_pos (List.mem_cons_self ..),if_pos rfl,f1]
    ·rw[if_neg (fun z=>(List.mem_cons.mp z).elim c2 c),f2 p c2]
theorem ju (us ls:List Str) (hs:List Sp) (p:Pl):∀{bs:List Sp},p∉bs.map (·.2)->e9 us ls hs bs p=[]
 |[],_=>rfl
 |s::bs,h=>by
  rw[List.map_cons,List.mem_cons,not_or]at h;rw[e9,if_neg (fun z=>h.1 z.symm),ju us ls hs p h.2]
theorem e7 (t:Str):∀(k:Nat) (ts:List Te),(ao t k ts).map (·.2)=(List.range' k ts.length).map fun i=>(t,i)
 |_,[]=>rfl
 |k,x::ts=>by rw[ao,List.map_cons,e7 t (k+1) ts];rfl
theorem bT (t:Str) (k:Nat) (ts:List Te):((ao t k ts).map (·.2)).Nodup:=by
 rw[e7];exact List.pairwise_map.mpr ((List.nodup_range' (s:=k) (n:=ts.length)).imp fun h z=>h (Prod.mk.inj z).2)
theorem yY {b h:Pat}(hb:b.2.length<=4) (hh:h.2.length<=4):∃us ls:List Str,(∀x,x∈us↔x∈ans h.2/\x∉ans b.2)/\(∀x,x∈ls↔x∈ans b.2/\x∈ans h.2)/\
  f_q3 (ruD b h) []=some (gF (aY [] ((ao b.1 0 b.2++ao h.1 0 h.2).map (·.2))) fun p=>tsD (e9 us ls (ao h.1 0 h.2) (ao b.1 0 b.2) p)):=by
 obtain⟨us,mu,lu,eu⟩:=sT hb hh;obtain⟨vs,ev,_,mv,lv⟩:=iU (ans h.2);obtain⟨ws,ew,_,mw,lw⟩:=iU (ans b.2);have l1:=eM b.2;have sb:=bq b.1 0 b.2;have sh:=bq h.1 0 h.2;refine⟨us,ws.filter fun x=>decide (x∈vs),mu,fun x=>by rw[List.mem_filter,mw];simp[mv],?_⟩
 have g1:b9 (dn 12 (ruD b h))=some (.lst ((ao b.1 0 b.2).map spD)):=by
  show frO (ac (ad (ixO (some (ruD b h)) (some (.int 1))) (some [])) f_q4)=_;rw[ru1,consO_s,bindO_s,my hb,frO_s]
 have g2:b8 [none,some (ruD b h,false),some (.lst ((ao b.1 0 b.2).map spD),false),none,none,none,none,none,none,none,none,none]=some (.lst ((ao h.1 0 h.2).map spD)):=by
  show frO (ac (ad (ixO (some (ruD b h)) (some (.int 2))) (some [])) f_q4)=_;rw[ru2,consO_s,bindO_s,my hh,frO_s]
 have g3:cb [none,some (ruD b h,false),some (.lst ((ao b.1 0 b.2).map spD),false),some (.lst ((ao h.1 0 h.2).map spD),false),none,none,none,none,none,none,none,none]=some ((ao b.1 0 b.2++ao h.1 0 h.2).map spD):=by
  show en (ur (some (.lst ((ao b.1 0 b.2).map spD))) (some (.lst ((ao h.1 0 h.2).map spD))))=_;rw[catO_s _ _ (by simp;lia),lstL_s,List.map_append]
 obtain⟨x4,x5,e1⟩:=mB none (some (ruD b h,false)) (some (.lst ((ao b.1 0 b.2).map spD),false)) (some (.lst ((ao h.1 0 h.2).map spD),false)) none none none none none none (ao b.1 0 b.2++ao h.1 0 h.2) [] none none (by simp;lia)
 generalize hks:aY [] ((ao b.1 0 b.2++ao h.1 0 h.2).map (·.2))=ks at*
 have nd:ks.Nodup:=by rw[<-hks];exact bz _ List.nodup_nil
 have g5:cf [none,some (ruD b h,false),some (.lst ((ao b.1 0 b.2).map spD),false),some (.lst ((ao h.1 0 h.2).map spD),false),x4,x5,none,none,none,none,none,none]=some (.lst (us.map fun l=>teD (.any l))):=by
  show aJ (ac (en (frO (ac (ad (some (ruD b h)) (some [])) f_q1))) _)=_;rw[consO_s,bindO_s,eu,frO_s,lstL_s,bindO_s,b7 (by simp;lia),br (f:=D.str) (h:=fun l=>teD (.any l)) (p:=fun _=>true) fun x _=>?_]
  ·rw[List.filter_eq_self.mpr fun _ _=>rfl];rfl
  ·simp[bb,bd,uV,teD]
 have g7:ce [none,some (ruD b h,false),some (.lst ((ao b.1 0 b.2).map spD),false),some (.lst ((ao h.1 0 h.2).map spD),false),x4,x5,some (.lst (us.map fun l=>teD (.any l)),false),none,none,none,none,none]=some (.lst ((ws.filter fun x=>decide (x∈vs)).map fun l=>teD (.any l))):=by
  show aJ (ac (en (frO (ac (ad (ixO (some (ruD b h)) (some (.int 1))) (some [])) f_q0))) _)=_;rw[ru1,consO_s,bindO_s,bH hb,frO_s,lstL_s,bindO_s,ew,b7 (by simp;lia),br (f:=D.str) (h:=fun l=>teD (.any l)) (p:=fun x=>decide (x∈vs)) fun x _=>?_]
  ·simp
  ·have q:inO (some (.str x)) (frO (ac (ad (ixO (some (ruD b h)) (some (.int 2))) (some [])) f_q0))=some (decide (x∈vs)):=by
    rw[ru2,consO_s,bindO_s,bH hh,frO_s,ev,iF]
   by_cases c:x∈vs
   ·simp[bb,bd,pK,teD,q,c]
   ·simp[bb,bd,pK,teD,q,c]
 obtain⟨y4,y5,y8,y9,y10,φ',e2,hφ⟩:=mt nd (bT h.1 0 h.2) (by lia) us (ws.filter fun x=>decide (x∈vs)) none (some (ruD b h,false)) (some (.lst ((ao b.1 0 b.2).map spD),false)) none (ao b.1 0 b.2) E0 x4 x5 none none none (bT b.1 0 b.2) (fun s hs=>⟨by rw[<-hks,bE];exact .inr (List.mem_map.mpr ⟨s,List.mem_append_left _ hs,rfl⟩),rfl⟩)
 have ef:φ'=fun p=>tsD (e9 us (ws.filter fun x=>decide (x∈vs)) (ao h.1 0 h.2) (ao b.1 0 b.2) p):=by
  funext p
  rw[hφ]
  by_cases c:p∈(ao b.1 0 b.2).map (·.2)
  ·rw[if_pos c]
  ·rw[if_neg c,ju _ _ _ _ c];rfl
 rw[<-ef];show ac (g_q3 none (dn 12 (ruD b h)) []) _=_;have run:g_q3 none (dn 12 (ruD b h)) []=some ([none,some (ruD b h,false),some (.lst ((ao b.1 0 b.2).map spD),false),some (.lst ((ao h.1 0 h.2).map spD),false),y4,y5,some (.lst (us.map fun l=>teD (.any l)),false),some (.lst ((ws.filter fun x=>decide (x∈vs)).map fun l=>teD (.any l)),false),y8,y9,y10,none],gF ks φ'):=by
  refine(eX (jK g1 (by simp[dn]))).trans ?_
  refine(eX (jK g2 (by simp))).trans ?_
  refine(eX ((gQ g3).trans e1)).trans ?_
  refine(eX (jK g5 (by simp))).trans ?_
  refine(eX (jK g7 (by simp))).trans ?_
  exact(gQ rfl).trans e2
 rw[run];rfl
end K51
set_option tactic.hygienic false
namespace K51
open PySem L2
variable[Lams]
inductive Way (α:Pl->List (Pl×Int)) (f:Pl):Pl->List Pl->Prop
 |one:Way α f f [f]
 |snoc {p q:Pl}{l:List Pl}{g:Int}(w:Way α f p l) (e:(q,g)∈α p):Way α f q (l++[q])
theorem dQ:∀{l m:List Pl},l.Nodup->(∀x∈l,x∈m)->l.length<=m.length
 |[],m,_,_=>Nat.zero_le _
 |a::l,m,nd,h=>by
  obtain⟨n1,n2⟩:=List.nodup_cons.mp nd;have ha:=h a (List.mem_cons_self ..);have:=dQ (m:=m.erase a) n2 fun x hx=>(List.mem_erase_of_ne fun z:x=a=>n1 (by rw[<-z];exact hx)).mpr (h x (List.mem_cons_of_mem _ hx))
  rw[List.length_erase_of_mem ha]at this;have:=List.length_pos_of_mem ha;rw[List.length_cons];lia
noncomputable def pD (l:List Pl):D:=.lst (l.map plD)
structure J (α:Pl->List (Pl×Int)) (ks:List Pl) (f:Pl) (ws:List Pl) (π:Pl->List Pl):Prop where
 nd:ws.Nodup
 sub:∀p∈ws,p∈ks
 way:∀p∈ws,Way α f p (π p)
 len:∀p∈ws,(π p).length<=ws.length
 fst:f∈ws
noncomputable def aD (ks:List Pl) (α:Pl->List (Pl×Int)):D:=fD ks fun p=>tsD (α p)
section
variable{α:Pl->List (Pl×Int)}{ks:List Pl}{f:Pl}
noncomputable abbrev F1:GF:=xv 6 (mz (yj 6 5) (w9 4 bu)) (gSkip)
theorem oI (hk:ks.length<=100) {p:Pl}{A fi re:Option (D×Bool)}:∀(ts:List Pl) (ws:List Pl) (π:Pl->List Pl) (fu:List Pl) (a6:Option (D×Bool)),J α ks f ws π->p∈ws->(∀q∈ts,q∈ks/\∃g,(q,g)∈α p)->fu.length<=ws.length->∃nw π' x6,
  cS (ae 6) F1 none (ts.map plD) [A,fi,none,re,some (pD fu,true),some (plD p,false),a6] (gF ws fun q=>pD (π q))=some ([A,fi,none,re,some (pD (fu++nw),true),some (plD p,false),x6],gF (ws++nw) fun q=>pD (π' q))/\J α ks f (ws++nw) π'/\∀q∈ts,q∈ws++nw
 |[],ws,π,fu,a6,j,_,_,_=>⟨[],π,a6,by rw[List.append_nil,List.append_nil];rfl,by rw[List.append_nil];exact j,fun _ z=>nomatch z⟩
 |t::ts,ws,π,fu,a6,j,hp,ht,hf=>by
  obtain⟨t1,g,t2⟩:=ht t (List.mem_cons_self ..);have wl:=dQ j.nd j.sub;have e0:ae 6 (plD t) [A,fi,none,re,some (pD fu,true),some (plD p,false),a6]=some [A,fi,none,re,some (pD fu,true),some (plD p,false),some (plD t,false)]:=by
   rw[toName_s _ _ _ (by simp)];rfl
  have k6:ji 6 [A,fi,none,re,some (pD fu,true),some (plD p,false),some (plD t,false)]=some (plD t):=fj rfl;have k5:ji 5 [A,fi,none,re,some (pD fu,true),some (plD p,false),some (plD t,false)]=some (plD p):=fj rfl;rw[List.map_cons,cS,e0,bindO_s]
  by_cases c:t∈ws
  ·obtain⟨nw,π',x6,e,j',h⟩:=oI hk ts ws π fu (some (plD t,false)) j hp (fun q hq=>ht q (List.mem_cons_of_mem _ hq)) hf
   refine⟨nw,π',x6,?_,j',fun q hq=>?_⟩
   ·have eb:F1 none [A,fi,none,re,some (pD fu,true),some (plD p,false),some (plD t,false)] (gF ws fun q=>pD (π q))=some ([A,fi,none,re,some (pD fu,true),some (plD p,false),some (plD t,false)],gF ws fun q=>pD (π q)):=by
     unfold F1 xv;rw[k6,bindO_s,tK,if_pos c];rfl
    rw[eb,bindO_s];exact e
   ·rcases List.mem_cons.mp hq with rfl|hq
    ·exact List.mem_append_left _ c
    ·exact h q hq
  ·have j1:J α ks f (ws++[t]) (fun q=>if q=t then π p++[t] else π q):=by
    refine⟨List.nodup_append.mpr ⟨j.nd,by simp,fun a ha b hb e=>c (by rw[List.mem_singleton]at hb;rw[<-hb,<-e];exact ha)⟩,fun q hq=>?_,fun q hq=>?_,fun q hq=>?_,List.mem_append_left _ j.fst⟩
    ·rcases List.mem_append.mp hq with hq|hq
     ·exact j.sub q hq
     ·rw[List.mem_singleton.mp hq];exact t1
    ·by_cases cq:q=t
     ·subst cq;rw[if_pos rfl];exact .snoc (j.way p hp) t2
     ·rw[if_neg cq]
      exact j.way q ((List.mem_append.mp hq).elim id fun z=>(cq (List.mem_singleton.mp z)).elim)
    ·rw[List.length_append,List.length_singleton]
     by_cases cq:q=t
     ·rw[if_pos cq,List.length_append,List.length_singleton];exact Nat.succ_le_succ (j.len p hp)
     ·rw[if_neg cq]
      exact Nat.le_succ_of_le (j.len q ((List.mem_append.mp hq).elim id fun z=>(cq (List.mem_singleton.mp z)).elim))
   obtain⟨nw,π',x6,e,j',h⟩:=oI hk ts (ws++[t]) _ (fu++[t]) (some (plD t,false)) j1 (List.mem_append_left _ hp) (fun q hq=>ht q (List.mem_cons_of_mem _ hq)) (by rw[List.length_append,List.length_append];lia)
   have ea:ws++t::nw=ws++[t]++nw:=by rw[List.append_assoc];rfl
   refine⟨t::nw,π',x6,?_,by rw[ea];exact j',fun q hq=>?_⟩
   ·have lp:=j.len p hp
    have ec:yj 6 5 none [A,fi,none,re,some (pD fu,true),some (plD p,false),some (plD t,false)] (gF ws fun q=>pD (π q))=some ([A,fi,none,re,some (pD fu,true),some (plD p,false),some (plD t,false)],gF (ws++[t]) fun q=>pD (if q=t then π p++[t] else π q)):=by
     unfold yj;rw[k6,bindO_s,k5,bindO_s,tK,if_pos hp,bindO_s,tK,if_neg c];unfold pD;dsimp only;rw[if_pos ⟨by rw[List.length_map,lim_eq];lia,by rw[uk,lim_eq];lia⟩]
     rw[show(π p).map plD++[plD t]=(π p++[t]).map plD by rw[List.map_append];rfl,uW _ _ c]
     congr 3
     funext q
     unfold fU;split<;>rfl
    have ep:w9 4 bu none [A,fi,none,re,some (pD fu,true),some (plD p,false),some (plD t,false)] (gF (ws++[t]) fun q=>pD (if q=t then π p++[t] else π q))=some ([A,fi,none,re,some (pD (fu++[t]),true),some (plD p,false),some (plD t,false)],gF (ws++[t]) fun q=>pD (if q=t then π p++[t] else π q)):=by
     unfold w9 xu;rw[show bu [A,fi,none,re,some (pD fu,true),some (plD p,false),some (plD t,false)]=some (plD t) from rfl,lV (ds:=fu.map plD) (plD t) rfl (by rw[List.length_map,lim_eq];lia)]
     dsimp only[pD];rw[List.map_append];rfl
    have eb:F1 none [A,fi,none,re,some (pD fu,true),some (plD p,false),some (plD t,false)] (gF ws fun q=>pD (π q))=some ([A,fi,none,re,some (pD (fu++[t]),true),some (plD p,false),some (plD t,false)],gF (ws++[t]) fun q=>pD (if q=t then π p++[t] else π q)):=by
     unfold F1 xv;rw[k6,bindO_s,tK,if_neg c];exact(eX ec).trans ep
    rw[eb,bindO_s];dsimp only;rw[e,ea,List.append_assoc fu];rfl
   ·rw[ea]
    rcases List.mem_cons.mp hq with rfl|hq
    ·exact List.mem_append_left _ (List.mem_append_right _ (List.mem_singleton.mpr rfl))
    ·exact h q hq
noncomputable abbrev F2:GF:=kZ bJ (ae 6) F1
theorem ph (hk:ks.length<=100) (cl:∀p∈ks,∀x∈α p,x.1∈ks) {fi re:Option (D×Bool)}:∀(rs ws:List Pl) (π:Pl->List Pl) (fu:List Pl) (a5 a6:Option (D×Bool)),J α ks f ws π->(∀p∈rs,p∈ws)->fu.length<=ws.length->∃nw π' x5 x6,
  cS (ae 5) F2 none (rs.map plD) [some (aD ks α,false),fi,none,re,some (pD fu,true),a5,a6] (gF ws fun q=>pD (π q))=some ([some (aD ks α,false),fi,none,re,some (pD (fu++nw),true),x5,x6],gF (ws++nw) fun q=>pD (π' q))/\J α ks f (ws++nw) π'/\∀p∈rs,∀x∈α p,x.1∈ws++nw
 |[],ws,π,fu,a5,a6,j,_,_=>⟨[],π,a5,a6,by rw[List.append_nil,List.append_nil];rfl,by rw[List.append_nil];exact j,fun _ z=>nomatch z⟩
 |p::rs,ws,π,fu,a5,a6,j,hr,hf=>by
  have hp:=hr p (List.mem_cons_self ..);obtain⟨n1,π1,y6,e1,j1,h1⟩:=oI (f:=f) hk (A:=some (aD ks α,false)) (fi:=fi) (re:=re) (p:=p) ((α p).map (·.1)) ws π fu a6 j hp (fun q hq=>by
   obtain⟨x,hx,rfl⟩:=List.mem_map.mp hq;exact⟨cl p (j.sub p hp) x hx,x.2,hx⟩) hf
  obtain⟨n2,π2,x5,x6,e2,j2,h2⟩:=ph hk cl (fi:=fi) (re:=re) rs (ws++n1) π1 (fu++n1) (some (plD p,false)) y6 j1 (fun q hq=>List.mem_append_left _ (hr q (List.mem_cons_of_mem _ hq))) (by rw[List.length_append,List.length_append];lia)
  have e0:ae 5 (plD p) [some (aD ks α,false),fi,none,re,some (pD fu,true),a5,a6]=some [some (aD ks α,false),fi,none,re,some (pD fu,true),some (plD p,false),a6]:=by
   rw[toName_s _ _ _ (by simp)];rfl
  have e5:bJ [some (aD ks α,false),fi,none,re,some (pD fu,true),some (plD p,false),a6]=some (((α p).map (·.1)).map plD):=by
   show ij (gt (some (aD ks α)) (some (plD p)))=_;unfold aD;rw[lr _ (j.sub p hp)];show some _=some _;rw[List.map_map];rfl
  refine⟨n1++n2,π2,x5,x6,?_,by rw[<-List.append_assoc];exact j2,fun q hq x hx=>?_⟩
  ·rw[List.map_cons,cS,e0,bindO_s,show F2 none [some (aD ks α,false),fi,none,re,some (pD fu,true),some (plD p,false),a6] (gF ws fun q=>pD (π q))=_ from(gQ e5).trans e1,bindO_s]
   dsimp only;rw[e2,List.append_assoc,List.append_assoc]
  ·rw[<-List.append_assoc]
   rcases List.mem_cons.mp hq with rfl|hq
   ·exact List.mem_append_left _ (h1 x.1 (List.mem_map.mpr ⟨x,hx,rfl⟩))
   ·exact h2 q hq x hx
noncomputable abbrev F3:GF:=mz (xn 4 bv) (mz (kZ cB (ae 5) F2) (oZ 3 4))
theorem lW (hk:ks.length<=100) (cl:∀p∈ks,∀x∈α p,x.1∈ks) {fi a4 a5 a6:Option (D×Bool)}{rs ws:List Pl}{π:Pl->List Pl}(j:J α ks f ws π) (hr:∀p∈rs,p∈ws):∃nw π' x4 x5 x6,
  F3 none [some (aD ks α,false),fi,none,some (pD rs,false),a4,a5,a6] (gF ws fun q=>pD (π q))=some ([some (aD ks α,false),fi,none,some (pD nw,false),x4,x5,x6],gF (ws++nw) fun q=>pD (π' q))/\J α ks f (ws++nw) π'/\∀p∈rs,∀x∈α p,x.1∈ws++nw:=by
 obtain⟨nw,π',x5,x6,e,j',h⟩:=ph (f:=f) hk cl (fi:=fi) (re:=some (pD rs,false)) rs ws π [] a5 a6 j hr (Nat.zero_le _);refine⟨nw,π',some (pD nw,false),x5,x6,?_,j',h⟩
 have e1:xn 4 bv none [some (aD ks α,false),fi,none,some (pD rs,false),a4,a5,a6] (gF ws fun q=>pD (π q))=some ([some (aD ks α,false),fi,none,some (pD rs,false),some (pD [],true),a5,a6],gF ws fun q=>pD (π q)):=by
  unfold xn;rw[show bv [some (aD ks α,false),fi,none,some (pD rs,false),a4,a5,a6]=some (pD []) from rfl,setF_s _ _ _ (by simp)]
  rfl
 refine(eX e1).trans ((eX ((gQ (ds:=rs.map plD) rfl).trans e)).trans ?_)
 unfold oZ;rw[show bD 4 [some (aD ks α,false),fi,none,some (pD rs,false),some (pD ([]++nw),true),x5,x6]=some (pD nw) from rfl]
 dsimp only;rw[if_pos (by simp)]
 rfl
theorem pF (hk:ks.length<=100) (cl:∀p∈ks,∀x∈α p,x.1∈ks) {fi:Option (D×Bool)}:∀(m n:Nat) (rs ws:List Pl) (π:Pl->List Pl) (a4 a5 a6:Option (D×Bool)),ks.length - ws.length<=m->m+2<=n->J α ks f ws π->(∀p∈rs,p∈ws)->(∀p∈ws,p∉rs->∀x∈α p,x.1∈ws)->∃ws' π' δ',
  bQ aA F3 n none [some (aD ks α,false),fi,none,some (pD rs,false),a4,a5,a6] (gF ws fun q=>pD (π q))=some (δ',gF ws' fun q=>pD (π' q))/\J α ks f ws' π'/\∀p∈ws',∀x∈α p,x.1∈ws':=by
 intro m
 induction m with
 |zero=>
  intro n rs ws π a4 a5 a6 hm hn j hr hc;obtain⟨n,rfl⟩:∃k,n=k+2:=⟨n - 2,by lia⟩
  have stop:∀(k:Nat) (ws:List Pl) (π:Pl->List Pl) (a4 a5 a6:Option (D×Bool)),J α ks f ws π->(∀p∈ws,∀x∈α p,x.1∈ws)->∃ws' π' δ',bQ aA F3 (k+1) none [some (aD ks α,false),fi,none,some (pD [],false),a4,a5,a6] (gF ws fun q=>pD (π q))=some (δ',gF ws' fun q=>pD (π' q))/\J α ks f ws' π'/\∀p∈ws',∀x∈α p,x.1∈ws':=fun k ws π a4 a5 a6 j h=>⟨ws,π,_,rfl,j,h⟩
  cases rs with
  |nil=>exact stop _ ws π a4 a5 a6 j fun p hp=>hc p hp (fun z=>nomatch z)
  |cons r rs=>
   obtain⟨nw,π',x4,x5,x6,e,j',h⟩:=lW (f:=f) hk cl (fi:=fi) (a4:=a4) (a5:=a5) (a6:=a6) j hr;have wl:=dQ j'.nd j'.sub;rw[List.length_append]at wl;obtain rfl:nw=[]:=List.eq_nil_of_length_eq_zero (by lia)
   obtain⟨ws',π'',δ',e2,j2,h2⟩:=stop n _ π' x4 x5 x6 j' fun p hp x hx=>by
    by_cases c:p∈r::rs
    ·exact h p c x hx
    ·exact List.mem_append_left _ (hc p ((List.mem_append.mp hp).elim id fun z=>nomatch z) c x hx)
   refine⟨ws',π'',δ',?_,j2,h2⟩
   rw[show bQ aA F3 (n+2) none [some (aD ks α,false),fi,none,some (pD (r::rs),false),a4,a5,a6] (gF ws fun q=>pD (π q))=ac (F3 none [some (aD ks α,false),fi,none,some (pD (r::rs),false),a4,a5,a6] (gF ws fun q=>pD (π q))) fun p=>bQ aA F3 (n+1) none p.1 p.2 from rfl,e,bindO_s]
   exact e2
 |succ m ih=>
  intro n rs ws π a4 a5 a6 hm hn j hr hc;obtain⟨n,rfl⟩:∃k,n=k+1:=⟨n - 1,by lia⟩
  cases rs with
  |nil=>exact⟨ws,π,_,rfl,j,fun p hp=>hc p hp (fun z=>nomatch z)⟩
  |cons r rs=>
   obtain⟨nw,π',x4,x5,x6,e,j',h⟩:=lW (f:=f) hk cl (fi:=fi) (a4:=a4) (a5:=a5) (a6:=a6) j hr;have clo:∀p∈ws++nw,p∉nw->∀x∈α p,x.1∈ws++nw:=fun p hp hn x hx=>by
    by_cases c:p∈r::rs
    ·exact h p c x hx
    ·exact List.mem_append_left _ (hc p ((List.mem_append.mp hp).elim id fun z=>(hn z).elim) c x hx)
   have go:∃ws' π'' δ',bQ aA F3 n none [some (aD ks α,false),fi,none,some (pD nw,false),x4,x5,x6] (gF (ws++nw) fun q=>pD (π' q))=some (δ',gF ws' fun q=>pD (π'' q))/\J α ks f ws' π''/\∀p∈ws',∀x∈α p,x.1∈ws':=by
    cases nw with
    |nil=>
     obtain⟨n,rfl⟩:∃k,n=k+1:=⟨n - 1,by lia⟩
     exact⟨_,π',_,rfl,j',fun p hp=>clo p hp (fun z=>nomatch z)⟩
    |cons a nw=>exact ih n _ _ π' x4 x5 x6 (by rw[List.length_append,List.length_cons];lia) (by lia) j' (fun p hp=>List.mem_append_right _ hp) clo
   obtain⟨ws',π'',δ',e2,j2,h2⟩:=go;refine⟨ws',π'',δ',?_,j2,h2⟩
   rw[show bQ aA F3 (n+1) none [some (aD ks α,false),fi,none,some (pD (r::rs),false),a4,a5,a6] (gF ws fun q=>pD (π q))=ac (F3 none [some (aD ks α,false),fi,none,some (pD (r::rs),false),a4,a5,a6] (gF ws fun q=>pD (π q))) fun p=>bQ aA F3 n none p.1 p.2 from rfl,e,bindO_s]
   exact e2
theorem v6 (hk:ks.length<=100) (cl:∀p∈ks,∀x∈α p,x.1∈ks) (hf:f∈ks):∃ws π,f_q6 [aD ks α,plD f]=some (gF ws fun q=>pD (π q))/\J α ks f ws π/\∀p∈ws,∀x∈α p,x.1∈ws:=by
 have j0:J α ks f [f] fun _=>[f]:=⟨by simp,fun p hp=>by rw[List.mem_singleton.mp hp];exact hf,fun p hp=>by rw[List.mem_singleton.mp hp];exact .one,fun _ _=>Nat.le_refl _,List.mem_singleton.mpr rfl⟩
 obtain⟨ws,π,δ',e,j,h⟩:=pF (f:=f) hk cl (fi:=some (plD f,false)) ks.length 1000 [f] [f] (fun _=>[f]) none none none (Nat.sub_le _ _) (by lia) j0 (fun p hp=>hp) (fun p hp hn=>(hn hp).elim)
 refine⟨ws,π,?_,j,h⟩
 show(if[aD ks α,plD f].length=2 then zG (cj 7 [aD ks α,plD f]) else none)=_
 rw[if_pos (by rfl)]
 show oH 2 1 (rJ 3 cz) (bQ aA F3 1000) [some (aD ks α,false),some (plD f,false),none,none,none,none,none]=_;unfold oH;rw[if_pos ⟨rfl,by simp⟩,fj (p:=f) rfl,bindO_s,jK (d:=pD [f]) rfl (by simp),bindO_s]
 rw[show bQ aA F3 1000 none (([some (aD ks α,false),some (plD f,false),none,none,none,none,none]:DEnv).set 2 none |>.set 3 (some (pD [f],false))) [(plD f,.lst [plD f])]=_ from e,bindO_s]
end
end K51
set_option tactic.hygienic false
namespace K51
open PySem L2
variable[Lams]
section
variable{α:Pl->List (Pl×Int)}{ks:List Pl}
theorem Way.mem {f p:Pl}{l ws:List Pl}(w:Way α f p l) (hf:f∈ws) (cl:∀p∈ws,∀x∈α p,x.1∈ws):p∈ws:=by
 induction w with
 |one=>exact hf
 |snoc w e ih=>exact cl _ ih _ e
theorem vp {p f:Pl}(hp:p∈ks):ah [some (aD ks α,false),some (plD f,false),none,some (plD p,false)]=some (decide (tg (α p) f=some 1)):=by
 show eqO (j9 (gt (some (aD ks α)) (some (plD p))) (some (plD f)) (some (.int 0))) (some (.int 1))=_;unfold aD;rw[lr _ hp];unfold j9;rw[ug];cases q:tg (α p) f with
 |none=>simp
 |some g=>simp
theorem gT {f:Pl}{ws:List Pl}{π:Pl->List Pl}(sub:∀p∈ws,p∈ks):∀(r:List Pl) (a3:Option (D×Bool)),(∀p∈r,p∈ws)->
  (∃p∈r,tg (α p) f=some 1/\∃δ',bx 3 ah (gF ws fun q=>pD (π q)) (gF r fun q=>pD (π q)) [some (aD ks α,false),some (plD f,false),none,a3]=some (some (pD (π p)),δ'))\/
  ((∀p∈r,tg (α p) f≠some 1)/\∃x3,bx 3 ah (gF ws fun q=>pD (π q)) (gF r fun q=>pD (π q)) [some (aD ks α,false),some (plD f,false),none,a3]=some (none,[some (aD ks α,false),some (plD f,false),none,x3]))
 |[],a3,_=>.inr ⟨fun _ z=>(nomatch z),a3,rfl⟩
 |p::r,a3,h=>by
  have hp:=h p (List.mem_cons_self ..);have e1:=vp (α:=α) (f:=f) (sub p hp)
  by_cases c:tg (α p) f=some 1
  ·refine .inl ⟨p,List.mem_cons_self ..,c,[some (aD ks α,false),some (plD f,false),none,a3],?_⟩
   show bx 3 ah _ ((plD p,pD (π p))::gF r fun q=>pD (π q)) _=_
   unfold bx;rw[show([some (aD ks α,false),some (plD f,false),none,a3]:DEnv).set 3 (some (plD p,false))=[some (aD ks α,false),some (plD f,false),none,some (plD p,false)] from rfl,e1,decide_eq_true c]
   dsimp only;rw[tK,if_pos hp];rfl
  ·have e2:bx 3 ah (gF ws fun q=>pD (π q)) (gF (p::r) fun q=>pD (π q)) [some (aD ks α,false),some (plD f,false),none,a3]=bx 3 ah (gF ws fun q=>pD (π q)) (gF r fun q=>pD (π q)) [some (aD ks α,false),some (plD f,false),none,some (plD p,false)]:=
    eT (p:=(plD p,pD (π p))) (by
     show ah [some (aD ks α,false),some (plD f,false),none,some (plD p,false)]=_;rw[e1,decide_eq_false c])
   rcases gT sub r (some (plD p,false)) fun q hq=>h q (List.mem_cons_of_mem _ hq)with⟨q,hq,t,δ',e⟩|⟨t,x3,e⟩
   ·exact .inl ⟨q,List.mem_cons_of_mem _ hq,t,δ',e2.trans e⟩
   ·refine .inr ⟨fun q hq=>?_,x3,e2.trans e⟩
    rcases List.mem_cons.mp hq with rfl|hq
    ·exact c
    ·exact t q hq
theorem fW (hk:ks.length<=100) (cl:∀p∈ks,∀x∈α p,x.1∈ks):∀(fs:List Pl) (a1 a3:Option (D×Bool)),(∀p∈fs,p∈ks)->
  (∃l f p,bR 1 2 3 (fun δ=>ac (ay δ) f_q6) ah (fs.map plD) [some (aD ks α,false),a1,none,a3]=some (.ret (pD l) true)/\f∈ks/\p∈ks/\Way α f p l/\l.length<=100/\tg (α p) f=some 1)\/
  (bR 1 2 3 (fun δ=>ac (ay δ) f_q6) ah (fs.map plD) [some (aD ks α,false),a1,none,a3]=some (.ret .non false)/\∀f∈fs,∀p l,Way α f p l->tg (α p) f≠some 1)
 |[],a1,a3,_=>.inr ⟨rfl,fun _ z=>(nomatch z)⟩
 |f::fs,a1,a3,h=>by
  have hf:=h f (List.mem_cons_self ..);obtain⟨ws,π,e,j,hc⟩:=v6 hk cl hf;have e0:ac (ay (([some (aD ks α,false),a1,none,a3]:DEnv).set 1 (some (plD f,false)))) f_q6=some (gF ws fun q=>pD (π q)):=e
  have es:((([some (aD ks α,false),a1,none,a3]:DEnv).set 1 (some (plD f,false))).set 2 none)=[some (aD ks α,false),some (plD f,false),none,a3]:=rfl
  rcases gT (α:=α) (f:=f) (π:=π) j.sub ws a3 fun p hp=>hp with⟨p,hp,t,δ',e1⟩|⟨t,x3,e1⟩
  ·refine .inl ⟨π p,f,p,?_,hf,j.sub p hp,j.way p hp,Nat.le_trans (j.len p hp) (Nat.le_trans (dQ j.nd j.sub) hk),t⟩
   rw[List.map_cons,bR,e0,bindO_s,es,e1];rfl
  ·have e2:bR 1 2 3 (fun δ=>ac (ay δ) f_q6) ah ((f::fs).map plD) [some (aD ks α,false),a1,none,a3]=bR 1 2 3 (fun δ=>ac (ay δ) f_q6) ah (fs.map plD) [some (aD ks α,false),some (plD f,false),none,x3]:=by
    rw[List.map_cons,bR,e0,bindO_s,es,e1];rfl
   rcases fW hk cl fs (some (plD f,false)) x3 fun q hq=>h q (List.mem_cons_of_mem _ hq)with⟨l,f',p,e3,r⟩|⟨e3,r⟩
   ·exact .inl ⟨l,f',p,e2.trans e3,r⟩
   ·refine .inr ⟨e2.trans e3,fun f' hf' p l w=>?_⟩
    rcases List.mem_cons.mp hf' with rfl|hf'
    ·exact t p (w.mem j.fst hc)
    ·exact r f' hf' p l w
theorem vf (hk:ks.length<=100) (cl:∀p∈ks,∀x∈α p,x.1∈ks):
  (∃l f p,f_q5 [aD ks α]=some (pD l,true)/\f∈ks/\p∈ks/\Way α f p l/\l.length<=100/\tg (α p) f=some 1)\/
  (f_q5 [aD ks α]=some (.non,false)/\∀f∈ks,∀p l,Way α f p l->tg (α p) f≠some 1):=by
 have key:∀o,bR 1 2 3 (fun δ=>ac (ay δ) f_q6) ah (ks.map plD) [some (aD ks α,false),none,none,none]=some o->f_q5 [aD ks α]=gA (some o):=fun o h=>by
  rw[bf (f:=f_q5) (δ:=[some (aD ks α,false),none,none,none]) rfl rfl rfl];show gA (pG 1 2 3 be (fun δ=>ac (ay δ) f_q6) ah [some (aD ks α,false),none,none,none])=_
  unfold pG;rw[if_pos ⟨rfl,by simp,by simp,by simp⟩,show be [some (aD ks α,false),none,none,none]=some (ks.map plD) from rfl,bindO_s,h]
 rcases fW hk cl ks none none fun p hp=>hp with⟨l,f,p,e,r⟩|⟨e,r⟩
 ·exact .inl ⟨l,f,p,key _ e,r⟩
 ·exact .inr ⟨key _ e,r⟩
end
end K51
set_option tactic.hygienic false
namespace K51
open PySem L2
variable[Lams]
noncomputable def rD (ks:List Pl) (r:Pl->Int):D:=fD ks fun p=>.int (r p)
noncomputable def rU (r:Pl->Int) (q:Pl) (v:Int):Pl->Int:=fun p=>if p=q then v else r p
theorem yW {ks:List Pl}(r:Pl->Int) {q:Pl}(v:Int) (h:q∈ks) (hl:ks.length<=100):cU (rD ks r) (plD q) (.int v)=some (rD ks (rU r q v)):=by
 unfold rD;rw[xG _ _ h (by rw[lim_eq];lia)]
 congr 2
 funext p
 unfold fU rU;split<;>rfl
noncomputable def sm (ks:List Pl) (r:Pl->Int):Int:=(ks.map r).sum
theorem yS (r:Pl->Int) (q:Pl) (v:Int):∀{ks:List Pl},ks.Nodup->q∈ks->sm ks (rU r q v)=sm ks r+(v - r q)
 |k::ks,nd,h=>by
  obtain⟨n1,n2⟩:=List.nodup_cons.mp nd;unfold sm;rw[List.map_cons,List.map_cons,List.sum_cons,List.sum_cons]
  by_cases c:k=q
  ·subst c
   have:ks.map (rU r k v)=ks.map r:=List.map_congr_left fun p hp=>by unfold rU;rw[if_neg fun z:p=k=>n1 (z▸hp)]
   rw[this];unfold rU;rw[if_pos rfl];lia
  ·have ih:=yS r q v n2 ((List.mem_cons.mp h).elim (fun z=>(c z.symm).elim) id)
   unfold sm at ih;rw[ih];unfold rU;rw[if_neg c];lia
theorem zB {r s:Pl->Int}:∀{ks:List Pl},(∀p∈ks,r p<=s p)->sm ks r<=sm ks s
 |[],_=>Int.le_refl _
 |k::ks,h=>by
  have h1:=h k (List.mem_cons_self ..);have ih:=zB fun p hp=>h p (List.mem_cons_of_mem _ hp)
  unfold sm at ih⊢;rw[List.map_cons,List.map_cons,List.sum_cons,List.sum_cons];lia
theorem mP:∀(ps:List Pl) (ks:List Pl),(ks++ps).Nodup->j3 (ks.map plD) (ks.map fun _=>.int 0) (ps.map fun p=>(plD p,.int 0))=((ks++ps).map plD,(ks++ps).map fun _=>.int 0)
 |[],ks,_=>by rw[List.append_nil];rfl
 |p::ps,ks,nd=>by
  have hn:p∉ks:=fun z=>(List.nodup_append.mp nd).2.2 p z p (List.mem_cons_self ..) rfl
  have e:ks++p::ps=(ks++[p])++ps:=by rw[List.append_assoc];rfl
  rw[List.map_cons,j3,e,<-mP ps (ks++[p]) (by rw[<-e];exact nd)]
  have hm:plD p∉ks.map plD:=fun z=>hn (eB.mp z)
  unfold ip rV;rw[if_neg hm,if_neg hm,List.map_append,List.map_append];rfl
theorem mr:∀ks:List Pl,eE (ks.map fun p=>.tup [plD p,.int 0])=some (ks.map fun p=>(plD p,.int 0))
 |[]=>rfl
 |p::ks=>by
  rw[List.map_cons,eE,mr ks];rfl
theorem uY {ks:List Pl}(nd:ks.Nodup) (hl:ks.length<=100):gZ (some (.lst (ks.map fun p=>.tup [plD p,.int 0])))=some (rD ks fun _=>0):=by
 unfold gZ;dsimp only;rw[mr];dsimp only;have:=mP ks [] nd;rw[List.map_nil,List.map_nil,List.nil_append]at this;rw[if_pos (by rw[List.length_map,lim_eq];lia),this];rfl
section
variable{α:Pl->List (Pl×Int)}{ks:List Pl}{R:Pl->Int}
structure Ps (ks:List Pl) (R:Pl->Int) (ok:(Pl->Int)->Prop) (r:Pl->Int) (b:Bool) (r':Pl->Int) (b':Bool):Prop where
 lo:∀p∈ks,0<=r' p
 hi:∀p∈ks,r' p<=R p
 up:sm ks r<=sm ks r'
 st:b'=true->b=true\/sm ks r<sm ks r'
 no:b'=false->b=false/\r'=r/\ok r
theorem Ps.trans {ok ok':(Pl->Int)->Prop}{r r' r'':Pl->Int}{b b' b'':Bool}(h:Ps ks R ok r b r' b') (h':Ps ks R ok' r' b' r'' b''):Ps ks R (fun r=>ok r/\ok' r) r b r'' b'':=by
 have u1:=h.up;have u2:=h'.up;refine⟨h'.lo,h'.hi,Int.le_trans u1 u2,fun e=>?_,fun e=>?_⟩
 ·rcases h'.st e with e'|e'
  ·rcases h.st e' with e2|e2
   ·exact .inl e2
   ·exact .inr (by lia)
  ·exact .inr (by lia)
 ·obtain⟨q1,q2,q3⟩:=h'.no e
  obtain⟨p1,p2,p3⟩:=h.no q1;subst q2 p2;exact⟨p1,rfl,p3,q3⟩
theorem oP (nd:ks.Nodup) (hl:ks.length<=100) {p:Pl}(hp:p∈ks) {x:Pl×Int}(hx:x.1∈ks) (x0:0<=x.2) (hR:R p+x.2<=R x.1) {r:Pl->Int}{b:Bool}(lo:∀p∈ks,0<=r p) (hi:∀p∈ks,r p<=R p) {A a4:Option (D×Bool)}:∃r' b',
  jn [A,some (rD ks r,true),some (.bl b,false),some (plD p,false),a4,some (plD x.1,false),some (.int x.2,false)]=some (.next [A,some (rD ks r',true),some (.bl b',false),some (plD p,false),a4,some (plD x.1,false),some (.int x.2,false)])/\Ps ks R (fun r=>r p+x.2<=r x.1) r b r' b':=by
 have e1:gt (some (rD ks r)) (some (plD x.1))=some (.int (r x.1)):=lr _ hx;have e2:gt (some (rD ks r)) (some (plD p))=some (.int (r p)):=lr _ hp;show ∃r' b',ifO (cI gLt (gt (some (rD ks r)) (some (plD x.1))) (mO (gt (some (rD ks r)) (some (plD p))) (some (.int x.2)))) (ba (jo 1 (some (plD x.1)) (mO (gt (some (rD ks r)) (some (plD p))) (some (.int x.2))) [A,some (rD ks r,true),some (.bl b,false),some (plD p,false),a4,some (plD x.1,false),some (.int x.2,false)]) (fun δ=>dE 2 (some (.bl true)) δ)) (nextO [A,some (rD ks r,true),some (.bl b,false),some (plD p,false),a4,some (plD x.1,false),some (.int x.2,false)])=_/\_
 rw[e1,e2,addI_s,cI_s]
 by_cases c:r x.1<r p+x.2
 ·refine⟨rU r x.1 (r p+x.2),true,?_,?_⟩
  ·rw[show gLt (r x.1) (r p+x.2)=true from decide_eq_true c,ifO_t]
   unfold jo;rw[show bD 1 [A,some (rD ks r,true),some (.bl b,false),some (plD p,false),a4,some (plD x.1,false),some (.int x.2,false)]=some (rD ks r) from rfl]
   dsimp only;rw[yW r _ hx hl];dsimp only;rw[seqO_n,setO_s _ _ _ (by simp)];rfl
  ·have hp1:=lo p hp
   have hp2:=hi p hp;have hs:=yS r x.1 (r p+x.2) nd hx;refine⟨fun q hq=>?_,fun q hq=>?_,by lia,fun _=>.inr (by lia),fun z=>nomatch z⟩
   ·unfold rU;split
    ·lia
    ·exact lo q hq
   ·unfold rU
    by_cases cq:q=x.1
    ·rw[if_pos cq,cq];lia
    ·rw[if_neg cq];exact hi q hq
 ·refine⟨r,b,?_,lo,hi,Int.le_refl _,fun e=>.inl e,fun e=>⟨e,rfl,Int.not_lt.mp c⟩⟩
  rw[show gLt (r x.1) (r p+x.2)=false from decide_eq_false c,ifO_f];rfl
theorem oA (nd:ks.Nodup) (hl:ks.length<=100) {p:Pl}(hp:p∈ks) {A a4:Option (D×Bool)}:∀(xs:List (Pl×Int)) (r:Pl->Int) (b:Bool) (a5 a6:Option (D×Bool)),(∀x∈xs,x.1∈ks/\0<=x.2/\R p+x.2<=R x.1)->(∀p∈ks,0<=r p)->(∀p∈ks,r p<=R p)->∃r' b' x5 x6,
  aR (fun d δ=>ac ((bg (am (ae 5) (am (ae 6) (toNil)))) d δ) jn) (xs.map fun x=>.tup [plD x.1,.int x.2]) [A,some (rD ks r,true),some (.bl b,false),some (plD p,false),a4,a5,a6]=some (.next [A,some (rD ks r',true),some (.bl b',false),some (plD p,false),a4,x5,x6])/\Ps ks R (fun r=>∀x∈xs,r p+x.2<=r x.1) r b r' b'
 |[],r,b,a5,a6,_,lo,hi=>⟨r,b,a5,a6,rfl,lo,hi,Int.le_refl _,fun e=>.inl e,fun e=>⟨e,rfl,fun _ z=>nomatch z⟩⟩
 |x::xs,r,b,a5,a6,hx,lo,hi=>by
  obtain⟨h1,h2,h3⟩:=hx x (List.mem_cons_self ..);obtain⟨r1,b1,e1,P1⟩:=oP nd hl hp h1 h2 h3 (b:=b) lo hi (A:=A) (a4:=a4);obtain⟨r2,b2,x5,x6,e2,P2⟩:=oA nd hl hp (A:=A) (a4:=a4) xs r1 b1 (some (plD x.1,false)) (some (.int x.2,false)) (fun y hy=>hx y (List.mem_cons_of_mem _ hy)) P1.lo P1.hi
  refine⟨r2,b2,x5,x6,?_,?_⟩
  ·rw[List.map_cons]
   conv=>lhs;unfold aR
   have et:ac ((bg (am (ae 5) (am (ae 6) (toNil)))) (.tup [plD x.1,.int x.2]) [A,some (rD ks r,true),some (.bl b,false),some (plD p,false),a4,a5,a6]) jn=jn [A,some (rD ks r,true),some (.bl b,false),some (plD p,false),a4,some (plD x.1,false),some (.int x.2,false)]:=by simp
   rw[et,e1];exact e2
  ·have:=P1.trans P2
   exact⟨this.lo,this.hi,this.up,this.st,fun e=>by
    obtain⟨q1,q2,q3,q4⟩:=this.no e;exact⟨q1,q2,fun y hy=>(List.mem_cons.mp hy).elim (fun z=>z▸q3) (q4 y)⟩⟩
theorem v3 (l:List (Pl×Int)):cN (some (tsD l))=some (l.map fun x=>.tup [plD x.1,.int x.2]):=by
 unfold cN tsD;dsimp only;congr 1
 induction l with
 |nil=>rfl
 |cons x l ih=>rw[List.map_cons,List.map_cons,List.zipWith_cons_cons,ih];rfl
theorem wE (φ:Pl->D) (ks:List Pl):cN (some (fD ks φ))=some (ks.map fun p=>.tup [plD p,φ p]):=by
 unfold cN fD;dsimp only;congr 1
 induction ks with
 |nil=>rfl
 |cons x l ih=>rw[List.map_cons,List.map_cons,List.zipWith_cons_cons,ih];rfl
theorem lX (nd:ks.Nodup) (hl:ks.length<=100) {A:Option (D×Bool)}(hα:∀p∈ks,∀x∈α p,x.1∈ks/\0<=x.2/\R p+x.2<=R x.1):∀(ps:List Pl) (r:Pl->Int) (b:Bool) (a3 a4 a5 a6:Option (D×Bool)),(∀p∈ps,p∈ks)->(∀p∈ks,0<=r p)->(∀p∈ks,r p<=R p)->∃r' b' x3 x4 x5 x6,
  aR (fun d δ=>ac ((bg (am (ae 3) (am (ae 4) (toNil)))) d δ) oY) (ps.map fun p=>.tup [plD p,tsD (α p)]) [A,some (rD ks r,true),some (.bl b,false),a3,a4,a5,a6]=some (.next [A,some (rD ks r',true),some (.bl b',false),x3,x4,x5,x6])/\Ps ks R (fun r=>∀p∈ps,∀x∈α p,r p+x.2<=r x.1) r b r' b'
 |[],r,b,a3,a4,a5,a6,_,lo,hi=>⟨r,b,a3,a4,a5,a6,rfl,lo,hi,Int.le_refl _,fun e=>.inl e,fun e=>⟨e,rfl,fun _ z=>nomatch z⟩⟩
 |p::ps,r,b,a3,a4,a5,a6,h,lo,hi=>by
  have hp:=h p (List.mem_cons_self ..);obtain⟨r1,b1,y5,y6,e1,P1⟩:=oA nd hl hp (A:=A) (a4:=some (tsD (α p),false)) (α p) r b a5 a6 (hα p hp) lo hi;obtain⟨r2,b2,x3,x4,x5,x6,e2,P2⟩:=lX nd hl (A:=A) hα ps r1 b1 (some (plD p,false)) (some (tsD (α p),false)) y5 y6 (fun q hq=>h q (List.mem_cons_of_mem _ hq)) P1.lo P1.hi
  refine⟨r2,b2,x3,x4,x5,x6,?_,?_⟩
  ·rw[List.map_cons]
   conv=>lhs;unfold aR
   have et:ac ((bg (am (ae 3) (am (ae 4) (toNil)))) (.tup [plD p,tsD (α p)]) [A,some (rD ks r,true),some (.bl b,false),a3,a4,a5,a6]) oY=some (.next [A,some (rD ks r1,true),some (.bl b1,false),some (plD p,false),some (tsD (α p),false),y5,y6]):=by
    simp;show ac (cN (some (tsD (α p)))) _=_;rw[v3,bindO_s];exact e1
   rw[et];exact e2
  ·have:=P1.trans P2
   exact⟨this.lo,this.hi,this.up,this.st,fun e=>by
    obtain⟨q1,q2,q3,q4⟩:=this.no e;exact⟨q1,q2,fun y hy=>(List.mem_cons.mp hy).elim (fun z=>z▸q3) (q4 y)⟩⟩
theorem nh (nd:ks.Nodup) (hl:ks.length<=100) (hα:∀p∈ks,∀x∈α p,x.1∈ks/\0<=x.2/\R p+x.2<=R x.1):∀(m n:Nat) (r:Pl->Int) (a3 a4 a5 a6:Option (D×Bool)),sm ks R - sm ks r<=m->m+2<=n->(∀p∈ks,0<=r p)->(∀p∈ks,r p<=R p)->∃r' x2 x3 x4 x5 x6,
  ck gf eO n [some (aD ks α,false),some (rD ks r,true),some (.bl true,false),a3,a4,a5,a6]=some (.next [some (aD ks α,false),some (rD ks r',true),x2,x3,x4,x5,x6])/\(∀p∈ks,0<=r' p)/\∀p∈ks,∀x∈α p,r' p+x.2<=r' x.1:=by
 intro m;have turn:∀(r:Pl->Int) (a3 a4 a5 a6:Option (D×Bool)),(∀p∈ks,0<=r p)->(∀p∈ks,r p<=R p)->∃r' b' x3 x4 x5 x6,eO [some (aD ks α,false),some (rD ks r,true),some (.bl true,false),a3,a4,a5,a6]=some (.next [some (aD ks α,false),some (rD ks r',true),some (.bl b',false),x3,x4,x5,x6])/\Ps ks R (fun r=>∀p∈ks,∀x∈α p,r p+x.2<=r x.1) r false r' b':=fun r a3 a4 a5 a6 lo hi=>by
  obtain⟨r',b',x3,x4,x5,x6,e,P⟩:=lX nd hl (A:=some (aD ks α,false)) hα ks r false a3 a4 a5 a6 (fun p hp=>hp) lo hi
  refine⟨r',b',x3,x4,x5,x6,?_,P⟩
  show ba (dE 2 (some (.bl false)) [some (aD ks α,false),some (rD ks r,true),some (.bl true,false),a3,a4,a5,a6]) _=_;rw[setO_s _ _ _ (by simp),seqO_n]
  show ac (cN (some (aD ks α))) _=_;unfold aD;rw[wE,bindO_s];exact e
 have fin:∀(k:Nat) (r':Pl->Int) (x3 x4 x5 x6:Option (D×Bool)),ck gf eO (k+1) [some (aD ks α,false),some (rD ks r',true),some (.bl false,false),x3,x4,x5,x6]=some (.next [some (aD ks α,false),some (rD ks r',true),some (.bl false,false),x3,x4,x5,x6]):=fun _ _ _ _ _ _=>rfl
 have one:∀(n:Nat) (r r':Pl->Int) (b':Bool) (a3 a4 a5 a6 x3 x4 x5 x6:Option (D×Bool)),eO [some (aD ks α,false),some (rD ks r,true),some (.bl true,false),a3,a4,a5,a6]=some (.next [some (aD ks α,false),some (rD ks r',true),some (.bl b',false),x3,x4,x5,x6])->ck gf eO (n+1) [some (aD ks α,false),some (rD ks r,true),some (.bl true,false),a3,a4,a5,a6]=ck gf eO n [some (aD ks α,false),some (rD ks r',true),some (.bl b',false),x3,x4,x5,x6]:=fun n r r' b' a3 a4 a5 a6 x3 x4 x5 x6 e=>by
  conv=>lhs;unfold ck
  rw[show gf [some (aD ks α,false),some (rD ks r,true),some (.bl true,false),a3,a4,a5,a6]=some true from rfl]
  dsimp only;rw[e]
 induction m with
 |zero=>
  intro n r a3 a4 a5 a6 hm hn lo hi;obtain⟨n,rfl⟩:∃k,n=k+2:=⟨n - 2,by lia⟩
  obtain⟨r',b',x3,x4,x5,x6,e,P⟩:=turn r a3 a4 a5 a6 lo hi;have h1:=zB P.hi;cases b' with
  |true=>exact((P.st rfl).elim (fun z=>nomatch z) fun z=>by lia)
  |false=>
   obtain⟨_,rfl,ok⟩:=P.no rfl;exact⟨r',_,x3,x4,x5,x6,(one _ _ _ _ _ _ _ _ _ _ _ _ e).trans (fin n r' x3 x4 x5 x6),lo,ok⟩
 |succ m ih=>
  intro n r a3 a4 a5 a6 hm hn lo hi;obtain⟨n,rfl⟩:∃k,n=k+2:=⟨n - 2,by lia⟩
  obtain⟨r',b',x3,x4,x5,x6,e,P⟩:=turn r a3 a4 a5 a6 lo hi;cases b' with
  |true=>
   have h2:sm ks r<sm ks r':=(P.st rfl).elim (fun z=>nomatch z) id
   obtain⟨r2,y2,y3,y4,y5,y6,e2,q⟩:=ih (n+1) r' x3 x4 x5 x6 (by lia) (by lia) P.lo P.hi
   exact⟨r2,y2,y3,y4,y5,y6,(one _ _ _ _ _ _ _ _ _ _ _ _ e).trans e2,q⟩
  |false=>
   obtain⟨_,rfl,ok⟩:=P.no rfl;exact⟨r',_,x3,x4,x5,x6,(one _ _ _ _ _ _ _ _ _ _ _ _ e).trans (fin n r' x3 x4 x5 x6),lo,ok⟩
theorem tm (nd:ks.Nodup) (hl:ks.length<=100) (hα:∀p∈ks,∀x∈α p,x.1∈ks/\0<=x.2/\R p+x.2<=R x.1) (hR:∀p∈ks,0<=R p) (hM:sm ks R<=990):∃r,f_q7 [aD ks α]=some (rD ks r,true)/\(∀p∈ks,0<=r p)/\∀p∈ks,∀x∈α p,r p+x.2<=r x.1:=by
 have h0:sm ks (fun _=>0)=0:=by
  unfold sm;clear nd hl hα hR hM
  induction ks with
  |nil=>rfl
  |cons k ks ih=>rw[List.map_cons,List.sum_cons,ih];rfl
 obtain⟨r,x2,x3,x4,x5,x6,e,lo,ok⟩:=nh nd hl hα 990 1000 (fun _=>0) none none none none (by rw[h0];lia) (by lia) (fun _ _=>Int.le_refl _) hR
 refine⟨r,?_,lo,ok⟩
 rw[bf (f:=f_q7) (δ:=[some (aD ks α,false),none,none,none,none,none,none]) rfl rfl rfl];have ec:aJ (ac (ij (some (aD ks α))) (dG false [false,false,false,false,false,false,false] (ae 3) (fun δ=>some true) mM [some (aD ks α,false),none,none,none,none,none,none]))=some (.lst (ks.map fun p=>.tup [plD p,.int 0])):=by
  rw[show ij (some (aD ks α))=some (ks.map plD) from rfl,bindO_s,b7 (by rw[List.length_map,lim_eq];lia),br (f:=plD) (h:=fun p=>.tup [plD p,.int 0]) (p:=fun _=>true) fun p _=>?_]
  ·rw[List.filter_eq_self.mpr fun _ _=>rfl];rfl
  ·simp[bb,bd,mM]
 show gA (ba (gN 1 (gZ (aJ (ac (ij (some (aD ks α))) (dG false [false,false,false,false,false,false,false] (ae 3) (fun δ=>some true) mM [some (aD ks α,false),none,none,none,none,none,none])))) [some (aD ks α,false),none,none,none,none,none,none]) _)=_
 rw[ec,uY nd hl,setF_s _ _ _ (by simp),seqO_n]
 show gA (ba (dE 2 (some (.bl true)) [some (aD ks α,false),some (rD ks fun _=>0,true),none,none,none,none,none]) _)=_
 rw[setO_s _ _ _ (by simp),seqO_n]
 show gA (ba (ck gf eO 1000 [some (aD ks α,false),some (rD ks fun _=>0,true),some (.bl true,false),none,none,none,none]) _)=_
 rw[e,seqO_n];rfl
end
end K51
set_option tactic.hygienic false
namespace K51
open PySem L2
variable[Lams]
theorem wC {l:List (Pl×Int)}(nd:(l.map (·.1)).Nodup) {x:Pl×Int}(h:x∈l):tg l x.1=some x.2:=by
 unfold tg
 induction l with
 |nil=>exact nomatch h
 |cons y l ih=>
  rw[List.map_cons,List.nodup_cons]at nd
  rcases List.mem_cons.mp h with rfl|h
  ·rw[List.find?_cons_of_pos (by simp)];rfl
  ·rw[List.find?_cons_of_neg (by
    simp only[decide_eq_true_eq];exact fun z=>nd.1 (List.mem_map.mpr ⟨x,h,z.symm⟩))]
   exact ih nd.2 h
theorem yT {l:List (Pl×Int)}{q:Pl}{g:Int}(h:tg l q=some g):(q,g)∈l:=by
 unfold tg at h;obtain⟨x,h1,h2⟩:=Option.map_eq_some_iff.mp h;have e:=List.find?_some h1
 simp only[decide_eq_true_eq]at e;have:=List.mem_of_find?_eq_some h1
 rw[<-e,<-h2];exact this
theorem mi {A:Type}{p q:A->Bool}:∀{l:List A},(∀a∈l,p a=true->q a=true)->(∃a∈l,q a=true/\p a=false)->l.countP p<l.countP q
 |[],_,h=>by obtain⟨a,z,_⟩:=h;exact nomatch z
 |b::l,hm,h=>by
  have mono:=List.countP_mono_left (l:=l) (p:=p) (q:=q) fun a ha=>hm a (List.mem_cons_of_mem _ ha)
  rw[List.countP_cons,List.countP_cons];obtain⟨a,ha,h1,h2⟩:=h
  rcases List.mem_cons.mp ha with rfl|ha
  ·rw[if_pos h1,if_neg (by rw[h2];exact Bool.false_ne_true)];lia
  ·have ih:=mi (fun a ha=>hm a (List.mem_cons_of_mem _ ha)) ⟨a,ha,h1,h2⟩
   by_cases c:p b=true
   ·rw[if_pos c,if_pos (hm b (List.mem_cons_self ..) c)];lia
   ·rw[if_neg c];lia
section
variable{α:Pl->List (Pl×Int)}{ks:List Pl}
open Classical in
noncomputable def pot (α:Pl->List (Pl×Int)) (ge:List (Pl×Pl)) (q:Pl):Int:=(ge.countP fun e=>decide (∃l,Way α e.2 q l):Nat)
theorem xX {ge:List (Pl×Pl)}(hg:∀p∈ks,∀x∈α p,x.2=1->(p,x.1)∈ge) (nk:∀p,((α p).map (·.1)).Nodup) (cl:∀p∈ks,∀x∈α p,x.1∈ks) (no:∀f∈ks,∀p l,Way α f p l->tg (α p) f≠some 1) {p:Pl}(hp:p∈ks) {x:Pl×Int}(hx:x∈α p) (h01:x.2=0\/x.2=1):pot α ge p+x.2<=pot α ge x.1:=by
 have mono:∀e∈ge,(∃l,Way α e.2 p l)->∃l,Way α e.2 x.1 l:=fun e _ h=>by
  obtain⟨l,w⟩:=h;exact⟨_,.snoc (g:=x.2) w hx⟩
 unfold pot
 rcases h01 with h|h
 ·have:=List.countP_mono_left (l:=ge) (p:=fun e=>@decide (∃l,Way α e.2 p l) (Classical.propDecidable _)) (q:=fun e=>@decide (∃l,Way α e.2 x.1 l) (Classical.propDecidable _)) fun e he z=>by
   simp only[decide_eq_true_eq]at z⊢;exact mono e he z
  rw[h];lia
 ·have:=mi (l:=ge) (p:=fun e=>@decide (∃l,Way α e.2 p l) (Classical.propDecidable _)) (q:=fun e=>@decide (∃l,Way α e.2 x.1 l) (Classical.propDecidable _)) (fun e he z=>by
   simp only[decide_eq_true_eq]at z⊢;exact mono e he z) ⟨(p,x.1),hg p hp x hx h,by simp only[decide_eq_true_eq];exact⟨_,.one⟩,by
    simp only[decide_eq_false_iff_not]
    rintro⟨l,w⟩
    exact no x.1 (cl p hp x hx) p l w (by rw[wC (nk p) hx,h])⟩
  rw[h];lia
theorem mH {R:Pl->Int}{c:Int}:∀{ks:List Pl},(∀p∈ks,R p<=c)->sm ks R<=ks.length*c
 |[],_=>by simp[sm]
 |k::ks,h=>by
  have h1:=h k (List.mem_cons_self ..);have ih:=mH fun p hp=>h p (List.mem_cons_of_mem _ hp)
  unfold sm at ih⊢;rw[List.map_cons,List.sum_cons,List.length_cons];have:((ks.length+1:Nat):Int)*c=ks.length*c+c:=by rw[Int.natCast_add,Int.add_mul];simp
  lia
end
section
variable{us ls:List Str}{hs bs:List Sp}
theorem eI {p:Pl}:∀{bs:List Sp},e9 us ls hs bs p=[]\/∃te,(te,p)∈bs/\(∃l∈ls,te=.any l)/\e9 us ls hs bs p=hs.filterMap (edg us te)
 |[]=>.inl rfl
 |s::bs=>by
  rw[e9]
  by_cases c:s.2=p
  ·rw[if_pos c]
   by_cases c2:∃l∈ls,s.1=.any l
   ·rw[if_pos c2];exact .inr ⟨s.1,by rw[<-c];exact List.mem_cons_self ..,c2,rfl⟩
   ·rw[if_neg c2];exact .inl rfl
  ·rw[if_neg c]
   rcases eI (p:=p) (bs:=bs)with h|⟨te,h1,h2,h3⟩
   ·exact .inl h
   ·exact .inr ⟨te,List.mem_cons_of_mem _ h1,h2,h3⟩
theorem qR {p:Pl}{te:Te}(hl:∃l∈ls,te=.any l):∀{bs:List Sp},(bs.map (·.2)).Nodup->(te,p)∈bs->e9 us ls hs bs p=hs.filterMap (edg us te)
 |s::bs,nd,h=>by
  rw[List.map_cons,List.nodup_cons]at nd;rw[e9]
  rcases List.mem_cons.mp h with rfl|h
  ·rw[if_pos rfl,if_pos hl]
  ·rw[if_neg fun z:s.2=p=>nd.1 (List.mem_map.mpr ⟨_,h,z.symm⟩)]
   exact qR hl nd.2 h
theorem iX {te:Te}{s:Sp}{x:Pl×Int}(h:edg us te s=some x):x.1=s.2/\((x.2=1/\∃l∈us,s.1=.any l)\/(x.2=0/\s.1=te)):=by
 unfold edg at h
 by_cases c:∃l∈us,s.1=.any l
 ·rw[if_pos c]at h;rw[<-Option.some.inj h];exact⟨rfl,.inl ⟨rfl,c⟩⟩
 ·rw[if_neg c]at h
  by_cases c2:s.1=te
  ·rw[if_pos c2]at h;rw[<-Option.some.inj h];exact⟨rfl,.inr ⟨rfl,c2⟩⟩
  ·rw[if_neg c2]at h;exact nomatch h
theorem iZ (te:Te):∀{hs:List Sp},(hs.map (·.2)).Nodup->((hs.filterMap (edg us te)).map (·.1)).Nodup/\∀q∈(hs.filterMap (edg us te)).map (·.1),q∈hs.map (·.2)
 |[],_=>⟨List.nodup_nil,fun _ z=>nomatch z⟩
 |s::hs,nd=>by
  rw[List.map_cons,List.nodup_cons]at nd;obtain⟨h1,h2⟩:=iZ te nd.2;rw[List.filterMap_cons];cases q:edg us te s with
  |none=>exact⟨h1,fun x hx=>List.mem_cons_of_mem _ (h2 x hx)⟩
  |some x=>
   have ex:=(iX q).1;dsimp only;rw[List.map_cons,ex];refine⟨List.nodup_cons.mpr ⟨fun z=>nd.1 (h2 _ z),h1⟩,fun y hy=>?_⟩
   rcases List.mem_cons.mp hy with rfl|hy
   ·exact List.mem_cons_self ..
   ·exact List.mem_cons_of_mem _ (h2 y hy)
theorem ny (hn:(hs.map (·.2)).Nodup) (p:Pl):((e9 us ls hs bs p).map (·.1)).Nodup:=by
 rcases eI (us:=us) (ls:=ls) (hs:=hs) (bs:=bs) (p:=p)with h|⟨te,_,_,h⟩
 ·rw[h];exact List.nodup_nil
 ·rw[h];exact(iZ te hn).1
theorem o4 (hn:(hs.map (·.2)).Nodup) {p:Pl}{x:Pl×Int}(hx:x∈e9 us ls hs bs p):x.1∈hs.map (·.2)/\(x.2=0\/x.2=1):=by
 rcases eI (us:=us) (ls:=ls) (hs:=hs) (bs:=bs) (p:=p)with h|⟨te,_,_,h⟩
 ·rw[h]at hx;exact nomatch hx
 ·rw[h]at hx
  refine⟨(iZ te hn).2 _ (List.mem_map.mpr ⟨x,hx,rfl⟩),?_⟩
  obtain⟨s,_,e⟩:=List.mem_filterMap.mp hx
  rcases(iX e).2 with z|z
  ·exact .inr z.1
  ·exact .inl z.1
theorem t4 (p:Pl):(e9 us ls hs bs p).length<=hs.length:=by
 rcases eI (us:=us) (ls:=ls) (hs:=hs) (bs:=bs) (p:=p)with h|⟨te,_,_,h⟩
 ·rw[h];exact Nat.zero_le _
 ·rw[h];exact List.length_filterMap_le ..
end
theorem AJ (p q:Pl):(ltD 15 (plD p) (plD q)).isSome=true:=by
 obtain⟨a,i⟩:=p;obtain⟨b,j⟩:=q;show(dB (ltD 14) [.str a,.int i] [.str b,.int j]).isSome=true;unfold dB;split
 ·unfold dB
  split
  ·rfl
  ·rfl
 ·rfl
theorem kq (ks:List Pl):gp (ks.map plD)=true:=by
 unfold gp;rw[List.all_eq_true];intro x hx;obtain⟨r,_,rfl⟩:=List.mem_map.mp hx;rw[Bool.and_eq_true];refine⟨rfl,?_⟩
 rw[List.all_eq_true];intro y hy;obtain⟨q,_,rfl⟩:=List.mem_map.mp hy;exact AJ r q
theorem xL (ks:List Pl):(ks.map plD).all (eW .ts)=true:=by
 rw[List.all_eq_true];intro x hx;obtain⟨r,_,rfl⟩:=List.mem_map.mp hx;rfl
theorem sV {A:Type}{F:A->D}{l:List D}{P:A->Prop}(h:∀x∈l,∃a,P a/\x=F a):∃as:List A,l=as.map F/\∀a∈as,P a:=by
 induction l with
 |nil=>exact⟨[],rfl,by simp⟩
 |cons x l ih=>
  obtain⟨a,pa,e⟩:=h x (List.mem_cons_self ..);obtain⟨as,e2,pas⟩:=ih fun y hy=>h y (List.mem_cons_of_mem _ hy)
  refine⟨a::as,by rw[e,e2];rfl,fun b hb=>?_⟩
  rcases List.mem_cons.mp hb with rfl|hb
  ·exact pa
  ·exact pas b hb
theorem o6 (ks:List Pl):∃ss:List Pl,cH (ks.map plD)=ss.map plD/\ss.Perm ks:=by
 obtain⟨ss,e,_⟩:=sV (F:=plD) (l:=cH (ks.map plD)) (P:=fun _=>True) fun x hx=>by
  obtain⟨p,_,e⟩:=List.mem_map.mp ((cr _).mem_iff.mp hx);exact⟨p,trivial,e.symm⟩
 refine⟨ss,e,?_⟩
 have hp:=cr (ks.map plD);rw[e]at hp;have back:∀{l m:List Pl},(l.map plD).Perm (m.map plD)->l.Perm m:=fun{l m} h=>by
  rw[List.perm_iff_count]at h⊢;intro a;have:=h (plD a);rw[List.count_eq_countP,List.count_eq_countP,List.countP_map,List.countP_map]at this;rw[List.count_eq_countP,List.count_eq_countP];have ef:((fun x=>x==plD a) ∘ plD)=fun x=>x==a:=by
   funext x
   show(plD x==plD a)=(x==a);rw[Bool.eq_iff_iff,beq_iff_eq,beq_iff_eq];exact⟨bU,fun z=>by rw[z]⟩
  rw[ef]at this;exact this
 exact back hp
end K51
set_option tactic.hygienic false
namespace K51
open PySem L2
variable[Lams]
theorem iK {A B:Type}{f:A->List B}{c:Nat}:∀{l:List A},(∀a∈l,(f a).length<=c)->(l.flatMap f).length<=l.length*c
 |[],_=>Nat.zero_le _
 |a::l,h=>by
  have ih:=iK fun b hb=>h b (List.mem_cons_of_mem _ hb)
  have h1:=h a (List.mem_cons_self ..);rw[List.flatMap_cons,List.length_append,List.length_cons,Nat.add_mul,Nat.one_mul]
  lia
theorem zQ (ds:List D):qB (some (.lst ds))=some false:=by simp[qB]
theorem As:qB (some .non)=some true:=by simp[qB]
theorem zx (b h:Pat):eqO (ixO (some (ruD b h)) (some (.int 0))) (some (.str "must"))=some true:=by
 show eqO (some (.str "must")) (some (.str "must"))=_;rw[cg];simp
noncomputable def fH (b h:Pat):List Pl:=(ao b.1 0 b.2++ao h.1 0 h.2).map (·.2)
theorem so {b h:Pat}(hb:b.2.length<=4) (hh:h.2.length<=4):∃us ls:List Str,(∀x,x∈us↔x∈ans h.2/\x∉ans b.2)/\(∀x,x∈ls↔x∈ans b.2/\x∈ans h.2)/\
  ((∃(l:List Pl) (f p:Pl),f_q2 [.lst [ruD b h]]=some (.tup [.str "ring",pD l],true)/\Way (e9 us ls (ao h.1 0 h.2) (ao b.1 0 b.2)) f p l/\l.length<=100/\tg (e9 us ls (ao h.1 0 h.2) (ao b.1 0 b.2) p) f=some 1)\/
  (∃(r:Pl->Int) (ss:List Pl),f_q2 [.lst [ruD b h]]=some (.tup [.str "ranks",.lst (ss.map fun p=>.tup [plD p,.int (r p)])],true)/\cH ((aY [] (fH b h)).map plD)=ss.map plD/\ss.Perm (aY [] (fH b h))/\(∀p∈ss,0<=r p)/\∀p,∀x∈e9 us ls (ao h.1 0 h.2) (ao b.1 0 b.2) p,r p+x.2<=r x.1)):=by
 obtain⟨us,ls,mu,ml,ea⟩:=yY hb hh;refine⟨us,ls,mu,ml,?_⟩
 have sb:=bq b.1 0 b.2;have sh:=bq h.1 0 h.2;have hn:=bT h.1 0 h.2;have nk:∀p,((e9 us ls (ao h.1 0 h.2) (ao b.1 0 b.2) p).map (·.1)).Nodup:=ny hn
 have to:=fun p x hx=>o4 (us:=us) (ls:=ls) (bs:=ao b.1 0 b.2) hn (p:=p) (x:=x) hx
 have out:∀p x,x∈e9 us ls (ao h.1 0 h.2) (ao b.1 0 b.2) p->p∈aY [] (fH b h):=fun p x hx=>by
  rcases eI (us:=us) (ls:=ls) (hs:=ao h.1 0 h.2) (bs:=ao b.1 0 b.2) (p:=p)with z|⟨te,z,_⟩
  ·rw[z]at hx;exact nomatch hx
  ·rw[bE];exact .inr (List.mem_map.mpr ⟨_,List.mem_append_left _ z,rfl⟩)
 have al:=fun p=>t4 (us:=us) (ls:=ls) (hs:=ao h.1 0 h.2) (bs:=ao b.1 0 b.2) p
 have cl:∀p x,x∈e9 us ls (ao h.1 0 h.2) (ao b.1 0 b.2) p->x.1∈aY [] (fH b h):=fun p x hx=>by
  obtain⟨s,hs,e⟩:=List.mem_map.mp (to p x hx).1;rw[bE];exact .inr (List.mem_map.mpr ⟨s,List.mem_append_right _ hs,e⟩)
 have nd:(aY [] (fH b h)).Nodup:=bz _ List.nodup_nil;have kl:(aY [] (fH b h)).length<=8:=by
  have:=fO (fH b h) [];unfold fH at this⊢;rw[List.length_map,List.length_append,List.length_nil]at this;lia
 have ea':f_q3 (ruD b h) []=some (gF (aY [] (fH b h)) fun p=>tsD (e9 us ls (ao h.1 0 h.2) (ao b.1 0 b.2) p)):=ea
 clear ea;generalize e9 us ls (ao h.1 0 h.2) (ao b.1 0 b.2)=α at*;generalize aY [] (fH b h)=ks at*;have top:f_q2 [.lst [ruD b h]]=gA (lY [some (.lst [ruD b h],false),some (aD ks α,false),some (ruD b h,false),none,none,none]):=by
  rw[bf (f:=f_q2) (δ:=[some (.lst [ruD b h],false),none,none,none,none,none]) rfl rfl rfl];congr 1;show qZ 1 (kZ dP (ae 2) (gIf cm (iy 2 f_q3) (gSkip))) lY [some (.lst [ruD b h],false),none,none,none,none,none]=_;have run:kZ dP (ae 2) (gIf cm (iy 2 f_q3) (gSkip)) none [some (.lst [ruD b h],false),none,none,none,none,none] []=some ([some (.lst [ruD b h],false),none,some (ruD b h,false),none,none,none],gF ks fun p=>tsD (α p)):=by
   have e1:gIf cm (iy 2 f_q3) (gSkip) none [some (.lst [ruD b h],false),none,some (ruD b h,false),none,none,none] []=some ([some (.lst [ruD b h],false),none,some (ruD b h,false),none,none,none],gF ks fun p=>tsD (α p)):=by
    rw[xO (zx b h)];unfold iy;dsimp only;rw[if_pos (by rfl),show rd false 2 [some (.lst [ruD b h],false),none,some (ruD b h,false),none,none,none]=some (ruD b h) from rfl,bindO_s,ea',bindO_s]
   rw[gQ (ds:=[ruD b h]) rfl,cS,toName_s _ _ _ (by simp),bindO_s]
   rw[show gIf cm (iy 2 f_q3) (gSkip) none (([some (.lst [ruD b h],false),none,none,none,none,none]:DEnv).set 2 (some (ruD b h,false))) []=_ from e1,bindO_s];rfl
  unfold qZ;rw[if_pos ⟨rfl,by simp⟩,show([some (.lst [ruD b h],false),none,none,none,none,none]:DEnv).set 1 none=[some (.lst [ruD b h],false),none,none,none,none,none] from rfl,run,bindO_s]
  dsimp only;rw[if_pos (by rfl),Ci];rfl
 rcases vf (α:=α) (ks:=ks) (by lia) (fun p _ x hx=>cl p x hx)with⟨l,f,p,e,hf,hp,w,ll,g⟩|⟨e,no⟩
 ·refine .inl ⟨l,f,p,?_,w,ll,g⟩
  rw[top];show gA (ba (vt 3 (ac (ad (some (aD ks α)) (some [])) f_q5) [some (.lst [ruD b h],false),some (aD ks α,false),some (ruD b h,false),none,none,none]) _)=_;rw[consO_s,bindO_s,e];unfold vt pD;dsimp only;rw[if_pos (by simp),seqO_n]
  show gA (ba (ifO (dA (qB (some (.lst (l.map plD))))) (u0 (ad (vU (some (.str "ring"))) (ad (uK (some (.lst (l.map plD)))) (some [])))) _) _)=_;rw[zQ];rfl
 ·-- ranks
  have hge:(ks.flatMap fun p=>((α p).filter fun x=>decide (x.2=1)).map fun x=>(p,x.1)).length<=32:=by
   refine Nat.le_trans (iK (c:=4) fun p _=>?_) (by lia)
   rw[List.length_map];exact Nat.le_trans (List.length_filter_le ..) (Nat.le_trans (al p) (by rw[sh];exact hh))
  have hmem:∀p∈ks,∀x∈α p,x.2=1->(p,x.1)∈ks.flatMap fun p=>((α p).filter fun x=>decide (x.2=1)).map fun x=>(p,x.1):=fun p hp x hx h1=>
   List.mem_flatMap.mpr ⟨p,hp,List.mem_map.mpr ⟨x,List.mem_filter.mpr ⟨hx,decide_eq_true h1⟩,rfl⟩⟩
  generalize (ks.flatMap fun p=>((α p).filter fun x=>decide (x.2=1)).map fun x=>(p,x.1))=ge at hge hmem
  have hpot:∀q,0<=pot α ge q/\pot α ge q<=32:=fun q=>by
   unfold pot;have:=List.countP_le_length (l:=ge) (p:=fun e=>@decide (∃l,Way α e.2 q l) (Classical.propDecidable _))
   exact⟨Int.natCast_nonneg _,by lia⟩
  have hM:sm ks (pot α ge)<=990:=by
   have:=mH (ks:=ks) (R:=pot α ge) (c:=32) fun p _=>(hpot p).2
   have k8:(ks.length:Int)<=8:=by lia
   lia
  obtain⟨r,er,lo,ok⟩:=tm (α:=α) (ks:=ks) (R:=pot α ge) nd (by lia) (fun p hp x hx=>⟨cl p x hx,by rcases(to p x hx).2 with z|z<;>lia,xX hmem nk (fun p hp x hx=>cl p x hx) no hp hx (to p x hx).2⟩) (fun p _=>(hpot p).1) hM
  obtain⟨ss,es,perm⟩:=o6 ks;refine .inr ⟨r,ss,?_,es,perm,fun p hp=>lo p (perm.mem_iff.mp hp),fun p x hx=>ok p (out p x hx) x hx⟩
  rw[top];show gA (ba (vt 3 (ac (ad (some (aD ks α)) (some [])) f_q5) [some (.lst [ruD b h],false),some (aD ks α,false),some (ruD b h,false),none,none,none]) _)=_;rw[consO_s,bindO_s,e];unfold vt;dsimp only;rw[if_pos (by simp),seqO_n]
  show gA (ba (ifO (dA (qB (some .non))) _ (nextO [some (.lst [ruD b h],false),some (aD ks α,false),some (ruD b h,false),some (.non,false),none,none])) _)=_;rw[As,show dA (some true)=some false from rfl,ifO_f,nextO_s,seqO_n]
  show gA (ba (dE 4 (frO (ac (ad (some (aD ks α)) (some [])) f_q7)) [some (.lst [ruD b h],false),some (aD ks α,false),some (ruD b h,false),some (.non,false),none,none]) _)=_;rw[consO_s,bindO_s,er,show frO (some (rD ks r,true))=some (rD ks r) from rfl,setO_s _ _ _ (by simp),seqO_n]
  have esd:fv .ts (some (aD ks α))=some (.lst (ss.map plD)):=by
   unfold fv aD fD;dsimp only;rw[if_pos (by rw[kq,xL,List.length_map,decide_eq_true (by lia)];rfl),es]
  have ec:aJ (ac (en (fv .ts (some (aD ks α)))) (dG false [false,false,false,false,true,false] (ae 5) (fun δ=>some true) mQ [some (.lst [ruD b h],false),some (aD ks α,false),some (ruD b h,false),some (.non,false),some (rD ks r,false),none]))=some (.lst (ss.map fun p=>.tup [plD p,.int (r p)])):=by
   rw[esd,lstL_s,bindO_s,b7 (by rw[List.length_map,perm.length_eq,lim_eq];lia),br (f:=plD) (h:=fun p=>.tup [plD p,.int (r p)]) (p:=fun _=>true) fun p hp=>?_]
   ·rw[List.filter_eq_self.mpr fun _ _=>rfl];rfl
   ·have:gt (some (rD ks r)) (some (plD p))=some (.int (r p)):=lr _ (perm.mem_iff.mp hp)
    simp[bb,bd,mQ,this]
  show gA (u0 (ad (vU (some (.str "ranks"))) (ad (uK (aJ (ac (en (fv .ts (some (aD ks α)))) (dG false [false,false,false,false,true,false] (ae 5) (fun δ=>some true) mQ [some (.lst [ruD b h],false),some (aD ks α,false),some (ruD b h,false),some (.non,false),some (rD ks r,false),none])))) (some []))))=_
  rw[ec];rfl
end K51
set_option tactic.hygienic false
namespace K51
open PySem L2
variable[Lams]
noncomputable def uU (c j:Int):Int:=((c*(2*j+3)+j)%2147483629*((c*(2*j+3)+j)%2147483629)+1)*48271%2147483629
theorem kY (c j:Int):0<=uU c j:=by unfold uU;exact Int.emod_nonneg _ (by decide)
theorem qa (c j:Int) (h0: -1000<=j) (h1:j<=1000):f_q9 [.int c,.int j]=some (.int (uU c j),false):=by
 rw[bf (f:=f_q9) (δ:=[some (.int c,false),some (.int j,false),none]) rfl rfl rfl];have e1:(0:Int)<=(c*(2*j+3)+j)%2147483629:=by lia
 have e2:(c*(2*j+3)+j)%2147483629<2147483629:=by lia
 simp[AU,mulI_s c (2*j+3) (by lia),mulI_s ((c*(2*j+3)+j)%2147483629) ((c*(2*j+3)+j)%2147483629) (by lia),uU]
theorem hJ (c far:Int) (t L:Str) (f0:0<=far) (f1:far<=100) (l0:0<L.length) (l1:L.length<=100):∃ts:List Te,ts.length<=4/\f_qa [.int c,.int far,.str t,.str L]=some (aK (t,ts),false):=by
 have m0:=kY c far;have hlim:lim=1000000:=rfl;obtain⟨δ',el,ts,htl,x5,x6,rfl⟩:=fM (body:=fun d δ=>ac ((ae 5) d δ) jG) (fun pre δ=>∃ts:List Te,ts.length=pre.length/\∃x5 x6,
   δ=[some (.int c,false),some (.int far,false),some (.str t,false),some (.str L,false),some (.lst (ts.map teD),true),x5,x6]) (jb 0 (1+uU c far%4).toNat) []
  [some (.int c,false),some (.int far,false),some (.str t,false),some (.str L,false),some (.lst [],true),none,none] ⟨[],rfl,none,none,rfl⟩
  fun p d q δ hpq hz=>by
   obtain⟨ts,hts,x5,x6,e⟩:=hz;have hd:d∈jb 0 (1+uU c far%4).toNat:=by
    rw[List.nil_append]at hpq;rw[<-hpq];simp
   have hp:p.length<4:=by
    have:=congrArg List.length hpq;rw[List.nil_append,bW]at this;simp at this;lia
   obtain⟨i,hi,rfl⟩:=tO hd;subst e;have m1:=kY c (far+1+(0+(i:Int)));generalize hD:uU c (far+1+(0+(i:Int)))=dr at m1;have em:f_q9 [.int c,.int (far+1+(0+(i:Int)))]=some (.int dr,false):=by rw[qa _ _ (by lia) (by lia),hD]
   have step:∃te:Te,jG [some (.int c,false),some (.int far,false),some (.str t,false),some (.str L,false),some (.lst (ts.map teD),true),some (.int (0+(i:Int)),false),x6]=some (.next [some (.int c,false),some (.int far,false),some (.str t,false),some (.str L,false),some (.lst ((ts++[te]).map teD),true),some (.int (0+(i:Int)),false),some (.int dr,false)]):=by
    by_cases c7:dr%7=0
    ·obtain⟨v,hv,_,ev⟩:=mX (xs:=[D.str "a",.str "b"]) (i:=dr / 7%2) (by lia) (by simp;lia)
     obtain⟨w,rfl⟩:∃w:Str,v=.str w:=by simp at hv;rcases hv with rfl|rfl<;>exact⟨_,rfl⟩
     refine⟨.nm w,?_⟩
     simp only[jG,rd_0,rd_1,addI_s,consO_s,bindO_s,em,shO_s];rw[setO_s _ _ _ (by simp),seqO_n]
     simp only[List.set_cons_succ,List.set_cons_zero,rd_0,rd_1];rw[modI_s _ _ (by decide),eqO_int,decide_eq_true c7,ifO_t]
     rw[lstO_s _ (by simp),divI_s _ _ (by decide),modI_s _ _ (by decide),ixO_l,ev,consO_s,consO_s,tupO_s _ (by simp)]
     rw[lV (ds:=ts.map teD) _ (by rfl) (by rw[List.length_map];lia)]
     simp[teD]
    ·obtain⟨x,hx,ex⟩:=vn L (dr / 7%L.length) (by lia) (Int.emod_nonneg _ (by lia)) (Int.emod_lt_of_pos _ (by lia))
     refine⟨.any x,?_⟩
     simp only[jG,rd_0,rd_1,addI_s,consO_s,bindO_s,em,shO_s];rw[setO_s _ _ _ (by simp),seqO_n]
     simp only[List.set_cons_succ,List.set_cons_zero,rd_0,rd_1];rw[modI_s _ _ (by decide),eqO_int,decide_eq_false c7,ifO_f]
     rw[show yK (some (.str L))=some (.int L.length) by unfold yK;simp only[if_pos (show L.length<=lim by lia)]]
     rw[divI_s _ _ (by decide),modI_s _ _ (by lia),ex,consO_s,consO_s,tupO_s _ (by simp)]
     rw[lV (ds:=ts.map teD) _ (by rfl) (by rw[List.length_map];lia)]
     simp[teD]
   obtain⟨te,es⟩:=step;refine⟨_,.inl ?_,ts++[te],by simp[hts],some (.int (0+(i:Int)),false),some (.int dr,false),rfl⟩
   rw[toName_s _ _ _ (by simp),bindO_s]
   exact es
 rw[List.nil_append,bW]at htl;refine⟨ts,by lia,?_⟩
 rw[bf (f:=f_qa) (δ:=[some (.int c,false),some (.int far,false),some (.str t,false),some (.str L,false),none,none,none]) rfl rfl rfl];simp only[Aj];rw[lstO_s _ (by simp),setF_s _ _ _ (by simp),seqO_n]
 simp only[List.set_cons_succ,List.set_cons_zero,rd_0,rd_1,consO_s,bindO_s,qa c far (by lia) (by lia),shO_s]
 rw[modI_s _ _ (by decide),addI_s,gG _ (by lia),bindO_s,el,seqO_n]
 simp[uJ,aK]
noncomputable def pls (p:Pat) (l:Str):List Pl:=((ao p.1 0 p.2).filter fun s=>decide (s.1=.any l)).map (·.2)
theorem uG (ts:List Te) {i:Nat}(h:i<ts.length):atI (ts.map teD) (i:Int)=some (teD ts[i]):=
 pj (Int.natCast_nonneg _) (by rw[Int.toNat_natCast,List.getElem?_map,List.getElem?_eq_getElem h];rfl)
theorem dM (t:Str):∀(ts:List Te) (k:Nat),ao t k ts=(List.range ts.length).map fun i=>(ts.getD i (.nm t),(t,k+i))
 |[],k=>rfl
 |x::ts,k=>by
  rw[ao,dM t ts (k+1),List.length_cons,List.range_succ_eq_map,List.map_cons,List.map_map];congr 1;refine List.map_congr_left fun i _=>?_
  simp only[Function.comp,List.getD_cons_succ];rw[show k+1+i=k+(i+1) by lia]
theorem jq (p:Pat) (l:Str) (h4:p.2.length<=4):f_qb [aK p,.str l]=some (.lst ((pls p l).map plD),true):=by
 rw[bf (f:=f_qb) (δ:=[some (aK p,false),some (.str l,false),none]) rfl rfl rfl];have e1:ixO (some (aK p)) (some (.int 1))=some (.tup (p.2.map teD)):=rfl;have e0:ixO (some (aK p)) (some (.int 0))=some (.str p.1):=rfl;simp only[Aw,rd_0,e1,lenL_t,List.length_map];rw[gG _ (by lia),bindO_s,Int.toNat_natCast,b7 (by rw[bW,lim_eq];lia)]
 unfold jb;rw[br (f:=fun(i:Nat)=>D.int (0+(i:Int))) (h:=fun i=>plD (p.1,i)) (p:=fun i=>decide (p.2.getD i (.nm p.1)=.any l)) fun i hi=>?_]
 ·rw[lstLim_s,retF_s,outF_r]
  unfold pls;rw[dM,List.filter_map,List.map_map,List.map_map];congr 4
  funext i
  simp[Function.comp]
 ·have hi':=List.mem_range.mp hi
  have eg:=uG p.2 hi';have ed:p.2.getD i (.nm p.1)=p.2[i]:=by rw[List.getD_eq_getElem?_getD,List.getElem?_eq_getElem hi'];rfl
  have eq:eqO (some (teD p.2[i])) (some (.tup [.str "any",.str l]))=some (decide (p.2[i]=.any l)):=uz p.2[i] (.any l);rw[ed];generalize p.2[i]=x at eg eq
  by_cases c:x=.any l
  ·rw[decide_eq_true c]at eq
   rw[if_pos (decide_eq_true c)];simp[bb,bd,oW,e1,e0,eg,eq,plD]
  ·rw[decide_eq_false c]at eq
   rw[if_neg (by simp[c])]
   simp[bb,bd,oW,e1,e0,eg,eq,plD]
end K51
set_option tactic.hygienic false
namespace K51
open PySem L2
variable[Lams]
noncomputable abbrev Tr:=Pl×Pl×Int
noncomputable def trD (x:Tr):D:=.tup [plD x.1,plD x.2.1,.int x.2.2]
noncomputable def isG (b h:Pat) (i:Nat):Bool:=match h.2.getD i (.nm h.1)with
 |.any l=>decide (l∉ans b.2)
 |.nm _=>false
noncomputable def gr (b h:Pat):List Nat:=(List.range h.2.length).filter (isG b h)
noncomputable def nD (G:List Nat):D:=.lst (G.map fun(k:Nat)=>.int (k:Int))
theorem g8 {body:D->DEnv->Option Out}{d:D}{ds:List D}{δ δ':DEnv}(h:body d δ=some (.next δ')\/body d δ=some (.cont δ')):aR body (d::ds) δ=aR body ds δ':=by
 rw[aR];rcases h with h|h<;>rw[h]
noncomputable def es1 (t:Str) (Q:List Pl) (G:List Nat) (s:Pl):List Tr:=Q.map (fun q=>(s,q,0))++G.map fun k=>(s,(t,k),1)
noncomputable def esL (b h:Pat) (l:Str):List Tr:=if pls h l=[] then[] else(pls b l).flatMap (es1 h.1 (pls h l) (gr b h))
noncomputable def Es (b h:Pat):List Tr:=(ans b.2).flatMap (esL b h)
theorem rp {t:Str}{Q:List Pl}{G:List Nat}{s:Pl}(hQ:Q.length<=4) (hG:G.length<=4):(es1 t Q G s).length<=8:=by
 unfold es1;rw[List.length_append,List.length_map,List.length_map];lia
theorem iP (p:Pat) (l:Str):(pls p l).length<=p.2.length:=by
 unfold pls;rw[List.length_map];exact Nat.le_trans (List.length_filter_le ..) (Nat.le_of_eq (bq ..))
theorem t6 (b h:Pat):(gr b h).length<=h.2.length:=by
 unfold gr;exact Nat.le_trans (List.length_filter_le ..) (by rw[List.length_range];exact Nat.le_refl _)
theorem v9 {b h:Pat}(hb:b.2.length<=4) (hh:h.2.length<=4) (l:Str):(esL b h l).length<=32:=by
 unfold esL;split
 ·exact Nat.zero_le _
 ·have:=iK (l:=pls b l) (f:=es1 h.1 (pls h l) (gr b h)) (c:=8) fun s _=>rp (Nat.le_trans (iP ..) hh) (Nat.le_trans (t6 ..) hh)
  have:=iP b l
  lia
theorem uI {b h:Pat}{K L:Option (D×Bool)}{Q:List Pl}{G:List Nat}(hQ:Q.length<=4) (hG:G.length<=4):∀(ss:List Pl) (E:List Tr) (x7:Option (D×Bool)),E.length+ss.length*8<=1000->∃y7,
  aR (fun d δ=>ac ((ae 7) d δ) ms) (ss.map plD) [some (aK b,false),some (aK h,false),some (.lst (E.map trD),true),K,some (nD G,false),L,some (.lst (Q.map plD),false),x7,none,none,none]=
  some (.next [some (aK b,false),some (aK h,false),some (.lst ((E++ss.flatMap (es1 h.1 Q G)).map trD),true),K,some (nD G,false),L,some (.lst (Q.map plD),false),y7,none,none,none])
 |[],E,x7,_=>⟨x7,by rw[List.map_nil,List.flatMap_nil,List.append_nil];rfl⟩
 |s::ss,E,x7,hl=>by
  rw[List.length_cons]at hl;obtain⟨y7,e⟩:=uI (b:=b) (h:=h) (K:=K) (L:=L) hQ hG ss (E++es1 h.1 Q G s) (some (plD s,false)) (by rw[List.length_append];have:=rp (t:=h.1) (s:=s) hQ hG;lia)
  refine⟨y7,?_⟩
  have c1:cA (bb (ae 10) (fun δ=>some true) pH [none,none,none,none,none,none,none,some (plD s,false),none,none,none]) (Q.map plD)=some ((Q.map fun q=>(s,q,(0:Int))).map trD):=by
   rw[br (f:=plD) (h:=fun q=>trD (s,q,0)) (p:=fun _=>true) fun q _=>?_]
   ·rw[List.filter_eq_self.mpr fun _ _=>rfl,List.map_map];rfl
   ·simp[bb,pH,trD]
  have c2:cA (bb (ae 9) (fun δ=>some true) pL [none,some (aK h,false),none,none,none,none,none,some (plD s,false),none,none,none]) (G.map fun(k:Nat)=>.int (k:Int))=some ((G.map fun k=>(s,(h.1,k),(1:Int))).map trD):=by
   rw[br (f:=fun(k:Nat)=>D.int (k:Int)) (h:=fun k=>trD (s,(h.1,k),1)) (p:=fun _=>true) fun k _=>?_]
   ·rw[List.filter_eq_self.mpr fun _ _=>rfl,List.map_map];rfl
   ·simp[bb,pL,trD,plD,aK,at0]
  have hlim:lim=1000000:=rfl;have m1:∀F,bd false [false,false,false,false,false,false,false,true,false,false,false] [some (aK b,false),some (aK h,false),some (.lst F,true),K,some (nD G,false),L,some (.lst (Q.map plD),false),some (plD s,false),none,none,none]=[none,none,none,none,none,none,none,some (plD s,false),none,none,none]:=fun _=>rfl
  have m2:∀F,bd false [false,true,false,false,false,false,false,true,false,false,false] [some (aK b,false),some (aK h,false),some (.lst F,true),K,some (nD G,false),L,some (.lst (Q.map plD),false),some (plD s,false),none,none,none]=[none,some (aK h,false),none,none,none,none,none,some (plD s,false),none,none,none]:=fun _=>rfl
  have step:ms [some (aK b,false),some (aK h,false),some (.lst (E.map trD),true),K,some (nD G,false),L,some (.lst (Q.map plD),false),some (plD s,false),none,none,none]=
    some (.next [some (aK b,false),some (aK h,false),some (.lst ((E++es1 h.1 Q G s).map trD),true),K,some (nD G,false),L,some (.lst (Q.map plD),false),some (plD s,false),none,none,none]):=by
   simp only[ms,rd_0,rd_1,lstL_s,bindO_s];rw[b7 (by rw[List.length_map];lia)]
   rw[m1,c1,lstLim_s,uH (ds:=E.map trD) (by rfl) (by rw[List.length_map,List.length_map,List.length_map];lia),seqO_n]
   simp only[List.set_cons_succ,List.set_cons_zero,rd_0,rd_1,nD,lstL_s,bindO_s];rw[b7 (by rw[List.length_map];lia)]
   rw[show bd false [false,true,false,false,false,false,false,true,false,false,false] [some (aK b,false),some (aK h,false),some (.lst (E.map trD++(Q.map fun q=>(s,q,(0:Int))).map trD),true),K,some (.lst (G.map fun(k:Nat)=>.int (k:Int)),false),L,some (.lst (Q.map plD),false),some (plD s,false),none,none,none]=_ from m2 _,c2,lstLim_s,uH (ds:=E.map trD++(Q.map fun q=>(s,q,(0:Int))).map trD) (by rfl) (by simp only[List.length_map,List.length_append];lia)]
   simp only[List.set_cons_succ,List.set_cons_zero];rw[es1,List.map_append,List.map_append,List.append_assoc]
  rw[List.map_cons,g8 (.inl (by rw[toName_s _ _ _ (by simp),bindO_s];exact step))]
  rw[e,List.flatMap_cons,List.append_assoc]
theorem qF {b h:Pat}(hb:b.2.length<=4) (hh:h.2.length<=4) {K:Option (D×Bool)}:∀(ls:List Str) (E:List Tr) (x5 x6 x7:Option (D×Bool)),E.length+ls.length*32<=900->∃y5 y6 y7,
  aR (fun d δ=>ac ((ae 5) d δ) gO) (ls.map D.str) [some (aK b,false),some (aK h,false),some (.lst (E.map trD),true),K,some (nD (gr b h),false),x5,x6,x7,none,none,none]=
  some (.next [some (aK b,false),some (aK h,false),some (.lst ((E++ls.flatMap (esL b h)).map trD),true),K,some (nD (gr b h),false),y5,y6,y7,none,none,none])
 |[],E,x5,x6,x7,_=>⟨x5,x6,x7,by rw[List.map_nil,List.flatMap_nil,List.append_nil];rfl⟩
 |l::ls,E,x5,x6,x7,hl=>by
  rw[List.length_cons]at hl;have step:∃z6 z7,gO [some (aK b,false),some (aK h,false),some (.lst (E.map trD),true),K,some (nD (gr b h),false),some (.str l,false),x6,x7,none,none,none]=
    some (.next [some (aK b,false),some (aK h,false),some (.lst ((E++esL b h l).map trD),true),K,some (nD (gr b h),false),some (.str l,false),z6,z7,none,none,none])\/
    gO [some (aK b,false),some (aK h,false),some (.lst (E.map trD),true),K,some (nD (gr b h),false),some (.str l,false),x6,x7,none,none,none]=
    some (.cont [some (aK b,false),some (aK h,false),some (.lst ((E++esL b h l).map trD),true),K,some (nD (gr b h),false),some (.str l,false),z6,z7,none,none,none]):=by
   have okq:ok2 (.lst ((pls h l).map plD)) (.lst [])=true:=by
    show(((pls h l).map plD).all (okD 15)&&okD 16 (.lst []))=true;rw[show okD 16 (.lst [])=true from rfl,Bool.and_true,List.all_eq_true]
    intro x hx;obtain⟨q,_,rfl⟩:=List.mem_map.mp hx;rfl
   simp only[gO,rd_0,rd_1,consO_s,bindO_s,jq h l hh,frO_s];rw[setO_s _ _ _ (by simp),seqO_n]
   simp only[List.set_cons_succ,List.set_cons_zero,rd_0,rd_1];rw[lstO_s _ (by simp),oX _ _ okq]
   by_cases c:pls h l=[]
   ·refine⟨some (.lst ((pls h l).map plD),false),x7,.inr ?_⟩
    rw[decide_eq_true (by rw[c];rfl),ifO_t]
    unfold esL;rw[if_pos c,List.append_nil];rfl
   ·rw[decide_eq_false (by intro z;injection z with z;exact c (List.map_eq_nil_iff.mp z)),ifO_f,nextO_s,seqO_n]
    have pl:=iP b l;obtain⟨y7,e⟩:=uI (b:=b) (h:=h) (K:=K) (L:=some (.str l,false)) (Q:=pls h l) (G:=gr b h) (Nat.le_trans (iP ..) hh) (Nat.le_trans (t6 ..) hh) (pls b l) E x7 (by lia)
    refine⟨some (.lst ((pls h l).map plD),false),y7,.inl ?_⟩
    simp only[rd_0,rd_1,consO_s,bindO_s,jq b l hb,frO_s,lstL_s];rw[e];unfold esL;rw[if_neg c]
  obtain⟨z6,z7,st⟩:=step;obtain⟨y5,y6,y7,e⟩:=qF hb hh (K:=K) ls (E++esL b h l) (some (.str l,false)) z6 z7 (by rw[List.length_append];have:=v9 hb hh l;lia)
  refine⟨y5,y6,y7,?_⟩
  rw[List.append_assoc,<-List.flatMap_cons]at e;rw[List.map_cons,g8 (by rw[toName_s _ _ _ (by simp),bindO_s];exact st),e]
end K51
set_option tactic.hygienic false
namespace K51
open PySem L2
variable[Lams]
theorem pw (ts:List Te):cA (bb (ae 8) (fun δ=>eqO (ixO (rd false 8 δ) (some (.int 0))) (some (.str "any"))) lO [none,none,none,none,none,none,none,none,none,none,none]) (ts.map teD)=some ((ans ts).map D.str):=by
 induction ts with
 |nil=>rfl
 |cons c ts ih=>
  rw[List.map_cons];unfold cA;rw[ih];cases c with
  |any n=>simp[bb,teD,lO,at0,at1,cg,ans]
  |nm w=>simp[bb,teD,lO,at0,at1,cg,na,ans]
theorem j6 {b h:Pat}(hb:b.2.length<=4) (hh:h.2.length<=4):f_qc [aK b,aK h]=some (.lst ((Es b h).map trD),true):=by
 have hlim:lim=1000000:=rfl;have al:=eM b.2;rw[bf (f:=f_qc) (δ:=[some (aK b,false),some (aK h,false),none,none,none,none,none,none,none,none,none]) rfl rfl rfl];have e1:ixO (some (aK b)) (some (.int 1))=some (.tup (b.2.map teD)):=rfl;have e2:ixO (some (aK h)) (some (.int 1))=some (.tup (h.2.map teD)):=rfl;simp only[AX];rw[lstO_s _ (by simp),setF_s _ _ _ (by simp),seqO_n]
 simp only[List.set_cons_succ,List.set_cons_zero,rd_0,rd_1,e1,tupL_s,bindO_s];rw[b7 (by rw[List.length_map];lia)]
 rw[show bd false [false,false,false,false,false,false,false,false,false,false,false] [some (aK b,false),some (aK h,false),some (.lst [],true),none,none,none,none,none,none,none,none]=[none,none,none,none,none,none,none,none,none,none,none] from rfl,pw,lstLim_s,setO_s _ _ _ (by simp),seqO_n]
 simp only[List.set_cons_succ,List.set_cons_zero,rd_0,rd_1,e2,lenL_t,List.length_map];rw[gG _ (by lia),bindO_s,Int.toNat_natCast,b7 (by rw[bW];lia)]
 rw[show bd false [false,true,false,true,false,false,false,false,false,false,false] [some (aK b,false),some (aK h,false),some (.lst [],true),some (.lst ((ans b.2).map D.str),false),none,none,none,none,none,none,none]=[none,some (aK h,false),none,some (.lst ((ans b.2).map D.str),false),none,none,none,none,none,none,none] from rfl]
 unfold jb;rw[br (f:=fun(i:Nat)=>D.int (0+(i:Int))) (h:=fun i=>D.int (i:Int)) (p:=isG b h) fun i hi=>?_]
 ·rw[lstLim_s,setF_s _ _ _ (by simp),seqO_n]
  obtain⟨y5,y6,y7,e⟩:=qF hb hh (K:=some (.lst ((ans b.2).map D.str),false)) (ans b.2) [] none none none (by rw[List.length_nil];lia)
  show gA (ba (aR (fun d δ=>ac ((ae 5) d δ) gO) ((ans b.2).map D.str) [some (aK b,false),some (aK h,false),some (.lst (List.map trD []),true),some (.lst ((ans b.2).map D.str),false),some (nD (gr b h),false),none,none,none,none,none,none]) (fun δ=>kX (bD 2 δ)))=_
  rw[e,seqO_n];rfl
 ·have hi':=List.mem_range.mp hi
  have eg:=uG h.2 hi';have ed:h.2.getD i (.nm h.1)=h.2[i]:=by rw[List.getD_eq_getElem?_getD,List.getElem?_eq_getElem hi'];rfl
  unfold isG;rw[ed];generalize h.2[i]=x at eg;cases x with
  |any m=>
   by_cases c:m∈ans b.2
   ·simp[bb,mL,e2,eg,teD,at0,at1,cg,iF,bZ,c]
   ·simp[bb,mL,e2,eg,teD,at0,at1,cg,iF,bZ,c]
  |nm w=>simp[bb,mL,e2,eg,teD,at0,at1,cg,na]
theorem dI {l:Str}{t:Str}:∀{ts:List Te}{k:Nat},l∈ans ts↔∃q,(Te.any l,q)∈ao t k ts
 |[],k=>by simp[ans,ao]
 |x::ts,k=>by
  rw[iB,List.mem_cons,<-iB,dI (ts:=ts) (k:=k+1),ao];constructor
  ·rintro(rfl|⟨q,hq⟩)
   ·exact⟨_,List.mem_cons_self ..⟩
   ·exact⟨q,List.mem_cons_of_mem _ hq⟩
  ·rintro⟨q,hq⟩
   rcases List.mem_cons.mp hq with e|hq
   ·exact .inl (congrArg Prod.fst e)
   ·exact .inr ⟨q,hq⟩
theorem dF {p:Pat}{l:Str}{q:Pl}:q∈pls p l↔(Te.any l,q)∈ao p.1 0 p.2:=by
 unfold pls;rw[List.mem_map];constructor
 ·rintro⟨⟨te,q'⟩,hs,rfl⟩
  obtain⟨h1,h2⟩:=List.mem_filter.mp hs;have:=of_decide_eq_true h2;dsimp only at this⊢;rw[<-this];exact h1
 ·intro hq
  exact⟨_,List.mem_filter.mpr ⟨hq,decide_eq_true rfl⟩,rfl⟩
theorem ul {b h:Pat}{k:Nat}:k∈gr b h↔∃m,m∉ans b.2/\(Te.any m,(h.1,k))∈ao h.1 0 h.2:=by
 unfold gr;rw[List.mem_filter,List.mem_range,dM];unfold isG;constructor
 ·rintro⟨h1,h2⟩
  cases e:h.2.getD k (.nm h.1)with
  |any m=>
   rw[e]at h2;exact⟨m,of_decide_eq_true h2,List.mem_map.mpr ⟨k,List.mem_range.mpr h1,by rw[e,Nat.zero_add]⟩⟩
  |nm w=>rw[e]at h2;exact absurd h2 Bool.false_ne_true
 ·rintro⟨m,hm,hs⟩
  obtain⟨i,hi,e⟩:=List.mem_map.mp hs;have e1:=congrArg Prod.fst e;have e2:=congrArg (fun x=>x.2.2) e
  dsimp only at e1 e2;rw[Nat.zero_add]at e2;subst e2;refine⟨List.mem_range.mp hi,?_⟩
  rw[e1];exact decide_eq_true hm
theorem uN {b h:Pat}{p q:Pl}{g:Int}:(p,q,g)∈Es b h↔∃l∈ans b.2,(Te.any l,p)∈ao b.1 0 b.2/\l∈ans h.2/\((g=0/\(Te.any l,q)∈ao h.1 0 h.2)\/(g=1/\∃m,m∉ans b.2/\(Te.any m,q)∈ao h.1 0 h.2)):=by
 unfold Es esL es1;constructor
 ·intro hx
  obtain⟨l,hl,hx⟩:=List.mem_flatMap.mp hx
  by_cases c:pls h l=[]
  ·rw[if_pos c]at hx;exact nomatch hx
  ·rw[if_neg c]at hx
   obtain⟨s,hs,hx⟩:=List.mem_flatMap.mp hx;obtain⟨r,hr⟩:=List.exists_mem_of_ne_nil _ c;have lh:l∈ans h.2:=dI.mpr ⟨r,dF.mp hr⟩
   rcases List.mem_append.mp hx with hx|hx
   ·obtain⟨q',hq,e⟩:=List.mem_map.mp hx
    cases e;exact⟨l,hl,dF.mp hs,lh,.inl ⟨rfl,dF.mp hq⟩⟩
   ·obtain⟨k,hk,e⟩:=List.mem_map.mp hx
    cases e;exact⟨l,hl,dF.mp hs,lh,.inr ⟨rfl,ul.mp hk⟩⟩
 ·rintro⟨l,hl,hp,lh,hg⟩
  refine List.mem_flatMap.mpr ⟨l,hl,?_⟩
  obtain⟨r,hr⟩:=(dI (t:=h.1) (k:=0)).mp lh;have c:pls h l≠[]:=List.ne_nil_of_mem (dF.mpr hr);rw[if_neg c];refine List.mem_flatMap.mpr ⟨p,dF.mpr hp,List.mem_append.mpr ?_⟩
  rcases hg with⟨rfl,hq⟩|⟨rfl,m,hm,hq⟩
  ·exact .inl (List.mem_map.mpr ⟨q,dF.mpr hq,rfl⟩)
  ·have hq1:q.1=h.1:=by
    rw[dM]at hq;obtain⟨i,_,e⟩:=List.mem_map.mp hq;exact(congrArg (fun x=>x.2.1) e).symm
   have hq2:(h.1,q.2)=q:=by rw[<-hq1]
   refine .inr (List.mem_map.mpr ⟨q.2,ul.mpr ⟨m,hm,?_⟩,?_⟩)
   ·rw[hq2];exact hq
   ·rw[hq2]
section
variable{b h:Pat}{us ls:List Str}(mu:∀x,x∈us↔x∈ans h.2/\x∉ans b.2) (ml:∀x,x∈ls↔x∈ans b.2/\x∈ans h.2)
include mu ml
theorem mV {p q:Pl}{g:Int}:(q,g)∈e9 us ls (ao h.1 0 h.2) (ao b.1 0 b.2) p↔(p,q,g)∈Es b h:=by
 rw[uN];constructor
 ·intro hx
  rcases eI (us:=us) (ls:=ls) (hs:=ao h.1 0 h.2) (bs:=ao b.1 0 b.2) (p:=p)with z|⟨te,hp,⟨l,hl,rfl⟩,z⟩
  ·rw[z]at hx;exact nomatch hx
  ·rw[z]at hx
   obtain⟨s,hs,e⟩:=List.mem_filterMap.mp hx;obtain⟨e1,e2⟩:=iX e;dsimp only at e1 e2;obtain⟨lb,lh⟩:=(ml l).mp hl;refine⟨l,lb,hp,lh,?_⟩
   rcases e2 with⟨rfl,m,hm,es⟩|⟨rfl,es⟩
   ·exact .inr ⟨rfl,m,((mu m).mp hm).2,by rw[e1,<-es];exact hs⟩
   ·exact .inl ⟨rfl,by rw[e1,<-es];exact hs⟩
 ·rintro⟨l,lb,hp,lh,hg⟩
  rw[qR ⟨l,(ml l).mpr ⟨lb,lh⟩,rfl⟩ (bT ..) hp,List.mem_filterMap]
  rcases hg with⟨rfl,hq⟩|⟨rfl,m,hm,hq⟩
  ·refine⟨_,hq,?_⟩
   unfold edg;rw[if_neg,if_pos rfl]
   rintro⟨m,hm,e⟩
   injection e with e
   exact((mu m).mp hm).2 (e▸lb)
  ·refine⟨_,hq,?_⟩
   unfold edg;rw[if_pos ⟨m,(mu m).mpr ⟨dI.mpr ⟨_,hq⟩,hm⟩,rfl⟩]
end
end K51
set_option tactic.hygienic false
namespace K51
open PySem L2
variable[Lams]
theorem tT (ds:List D):gu "tuple" (some (.tup ds))=some (.bl true):=by simp[gu,tyD,sZ]
theorem zu (ds:List D):gu "list" (some (.lst ds))=some (.bl true):=by simp[gu,tyD,sZ]
theorem wj (s:Str):gu "str" (some (.str s))=some (.bl true):=by simp[gu,tyD,sZ]
theorem zX (n:Int):gu "int" (some (.int n))=some (.bl true):=by simp[gu,tyD,sZ]
theorem yH (n:Int):gu "bool" (some (.int n))=some (.bl false):=by simp[gu,tyD,sZ]
theorem ue (y:Option D):zM (some (.bl true)) y=y:=rfl
theorem gk (a b:Int):neO (some (.int a)) (some (.int b))=some (!decide (a=b)):=by unfold neO;rw[eqO_int];rfl
theorem im (n:Int):f_q8 [.int n]=some (.bl true,false):=by
 rw[bf (f:=f_q8) (δ:=[some (.int n,false)]) rfl rfl rfl];simp[Ac,zX,yH,ue]
theorem fP (p:Pl):f_qd [plD p]=some (.bl true,false):=by
 rw[bf (f:=f_qd) (δ:=[some (plD p,false)]) rfl rfl rfl];simp[zV,plD,tT,wj,ue,gk,at0,at1,im]
theorem yX (p q:Pl):eqO (some (plD p)) (some (plD q))=some (decide (p=q)):=by
 rw[uC (zh p) (zh q)];exact congrArg some (decide_eq_decide.mpr ⟨bU,congrArg plD⟩)
theorem ye (p:Pl):neO (some (plD p)) (some (plD p))=some false:=by
 unfold neO;rw[yX,decide_eq_true rfl];rfl
theorem mx (F:Pl->D):∀ss:List Pl,dZ (ss.map F) (ss.map plD)=ss.map fun p=>.tup [F p,plD p]
 |[]=>rfl
 |p::ss=>by rw[List.map_cons,List.map_cons,List.map_cons,dZ,mx F ss]
theorem jI (r:Pl->Int) {A B C:Option (D×Bool)}:∀(ss ks:List Pl) (x4 x5:Option (D×Bool)),(ks++ss).Nodup->ks.length+ss.length<=100->(∀p∈ss,0<=r p)->∃y4 y5,
  aR (fun d δ=>ac ((bg (am (ae 4) (am (ae 5) (toNil)))) d δ) jp) (ss.map fun p=>.tup [.tup [plD p,.int (r p)],plD p]) [A,B,C,some (rD ks r,true),x4,x5,none,none,none]=
  some (.next [A,B,C,some (rD (ks++ss) r,true),y4,y5,none,none,none])
 |[],ks,x4,x5,_,_,_=>⟨x4,x5,by rw[List.append_nil];rfl⟩
 |p::ss,ks,x4,x5,nd,hl,lo=>by
  rw[List.length_cons]at hl;have hlim:lim=1000000:=rfl;obtain⟨y4,y5,e⟩:=jI r (A:=A) (B:=B) (C:=C) ss (ks++[p]) (some (.tup [plD p,.int (r p)],false)) (some (plD p,false)) (by rw[List.append_assoc];exact nd) (by rw[List.length_append,List.length_singleton];lia) (fun q hq=>lo q (List.mem_cons_of_mem _ hq))
  have hp:p∉ks:=fun hk=>(List.nodup_append.mp nd).2.2 p hk p (List.mem_cons_self ..) rfl
  have dp:cU (rD ks r) (plD p) (.int (r p))=some (rD (ks++[p]) r):=by
   have:=xE (ks:=ks) (fun p=>.int (r p)) (.int (r p)) hp (by lia)
   unfold rD;rw[this];congr 2
   funext q
   unfold fU;split
   ·rename_i z;rw[z]
   ·rfl
  have h0:=lo p (List.mem_cons_self ..);have lt0:ltV (some (.int (r p))) (some (.int 0))=some false:=by
   show some (decide (r p<0))=_;rw[decide_eq_false (by lia)]
  refine⟨y4,y5,?_⟩
  rw[List.map_cons,g8 (δ':=[A,B,C,some (rD (ks++[p]) r,true),some (.tup [plD p,.int (r p)],false),some (plD p,false),none,none,none]) (.inl ?_),e,List.append_assoc]
  ·rfl
  ·rw[toTup_s,toCons_s,toName_s _ _ _ (by simp),bindO_s,toCons_s,toName_s _ _ _ (by simp),bindO_s]
   show jp [A,B,C,some (rD ks r,true),some (.tup [plD p,.int (r p)],false),some (plD p,false),none,none,none]=_;simp only[jp,rd_0,rd_1,tT,tyB_s,notO_s,Bool.not_true,orO_f,lenL_t,List.length_cons,List.length_nil,gk,ixO_t,at0,at1,consO_s,bindO_s,fP,im,shO_s,ye];rw[show(some !decide (((0+1+1:Nat):Int)=2))=some false from rfl,orO_f,ifO_f,nextO_s,seqO_n]
   simp only[rd_0,rd_1,ixO_t,at1,consO_s,bindO_s,im,shO_s,tyB_s,notO_s,Bool.not_true,orO_f,lt0,ifO_f,nextO_s,seqO_n];show jo 3 (some (plD p)) (some (.int (r p))) [A,B,C,some (rD ks r,true),some (.tup [plD p,.int (r p)],false),some (plD p,false),none,none,none]=_;unfold jo;rw[show bD 3 [A,B,C,some (rD ks r,true),some (.tup [plD p,.int (r p)],false),some (plD p,false),none,none,none]=some (rD ks r) from rfl]
   dsimp only;rw[dp];rfl
theorem fS (r:Pl->Int) {ss:List Pl}{A B C x4 x5:Option (D×Bool)}:∀(E:List Tr) (x6 x7 x8:Option (D×Bool)),(∀x∈E,x.1∈ss/\x.2.1∈ss/\r x.1+x.2.2<=r x.2.1)->∃y6 y7 y8,
  aR (fun d δ=>ac ((bg (am (ae 6) (am (ae 7) (am (ae 8) (toNil))))) d δ) mJ) (E.map trD) [A,B,C,some (rD ss r,true),x4,x5,x6,x7,x8]=
  some (.next [A,B,C,some (rD ss r,true),x4,x5,y6,y7,y8])
 |[],x6,x7,x8,_=>⟨x6,x7,x8,rfl⟩
 |x::E,x6,x7,x8,h=>by
  obtain⟨y6,y7,y8,e⟩:=fS r (A:=A) (B:=B) (C:=C) (x4:=x4) (x5:=x5) E (some (plD x.1,false)) (some (plD x.2.1,false)) (some (.int x.2.2,false)) (fun y hy=>h y (List.mem_cons_of_mem _ hy))
  obtain⟨h1,h2,h3⟩:=h x (List.mem_cons_self ..);have d1:gt (some (rD ss r)) (some (plD x.1))=some (.int (r x.1)):=lr _ h1;have d2:gt (some (rD ss r)) (some (plD x.2.1))=some (.int (r x.2.1)):=lr _ h2;have lt:ltV (some (.int (r x.2.1))) (some (.int (r x.1+x.2.2)))=some false:=by
   show some (decide (r x.2.1<r x.1+x.2.2))=_;rw[decide_eq_false (by lia)]
  refine⟨y6,y7,y8,?_⟩
  rw[List.map_cons,g8 (δ':=[A,B,C,some (rD ss r,true),x4,x5,some (plD x.1,false),some (plD x.2.1,false),some (.int x.2.2,false)]) (.inl ?_),e]
  rw[trD,toTup_s,toCons_s,toName_s _ _ _ (by simp),bindO_s,toCons_s,toName_s _ _ _ (by simp),bindO_s,toCons_s,toName_s _ _ _ (by simp),bindO_s]
  show mJ [A,B,C,some (rD ss r,true),x4,x5,some (plD x.1,false),some (plD x.2.1,false),some (.int x.2.2,false)]=_;simp only[mJ,rd_0,rd_0o,rd_1,d1,d2,addI_s,lt,ifO_f,nextO_s]
theorem oh (r:Pl->Int) {ss:List Pl}{E:List Tr}(nd:ss.Nodup) (hl:ss.length<=100) (lo:∀p∈ss,0<=r p) (h:∀x∈E,x.1∈ss/\x.2.1∈ss/\r x.1+x.2.2<=r x.2.1):
  f_qe [.lst (ss.map fun p=>.tup [plD p,.int (r p)]),.lst (ss.map plD),.lst (E.map trD)]=some (.bl true,false):=by
 rw[bf (f:=f_qe) (δ:=[some (.lst (ss.map fun p=>.tup [plD p,.int (r p)]),false),some (.lst (ss.map plD),false),some (.lst (E.map trD),false),none,none,none,none,none,none]) rfl rfl rfl]
 obtain⟨y4,y5,e⟩:=jI r (A:=some (.lst (ss.map fun p=>.tup [plD p,.int (r p)]),false)) (B:=some (.lst (ss.map plD),false)) (C:=some (.lst (E.map trD),false)) ss [] none none (by rw[List.nil_append];exact nd) (by rw[List.length_nil];lia) lo
 obtain⟨y6,y7,y8,e'⟩:=fS r (ss:=ss) (A:=some (.lst (ss.map fun p=>.tup [plD p,.int (r p)]),false)) (B:=some (.lst (ss.map plD),false)) (C:=some (.lst (E.map trD),false)) (x4:=y4) (x5:=y5) E none none none h
 have z:Az false false (some (.lst (ss.map fun p=>.tup [plD p,.int (r p)]))) (some (.lst (ss.map plD)))=some (ss.map fun p=>.tup [.tup [plD p,.int (r p)],plD p]):=by
  show some (dZ _ _)=_;rw[mx]
 simp only[Au,rd_0,rd_1,zu,tyB_s,notO_s,Bool.not_true,orO_f,lenL_l,List.length_map,gk];rw[show(some !decide True)=some false from rfl,ifO_f,nextO_s,seqO_n,setF_s _ _ _ (by simp),seqO_n]
 simp only[List.set_cons_succ,List.set_cons_zero,rd_0,rd_1,z,bindO_s];rw[show aR (fun d δ=>ac ((bg (am (ae 4) (am (ae 5) (toNil)))) d δ) jp) (ss.map fun p=>.tup [.tup [plD p,.int (r p)],plD p]) [some (.lst (ss.map fun p=>.tup [plD p,.int (r p)]),false),some (.lst (ss.map plD),false),some (.lst (E.map trD),false),some (.dD [] [],true),none,none,none,none,none]=_ from e,seqO_n]
 simp only[rd_0,rd_1,lstL_s,bindO_s];rw[List.nil_append,e',seqO_n];rfl
end K51
set_option tactic.hygienic false
namespace K51
open PySem L2
variable[Lams]
theorem Way.steps {α:Pl->List (Pl×Int)}{f p:Pl}{l:List Pl}(w:Way α f p l):0<l.length/\l[0]?=some f/\l[l.length - 1]?=some p/\∀(k:Nat) (a c:Pl),l[k]?=some a->l[k+1]?=some c->∃g,(c,g)∈α a:=by
 induction w with
 |one=>exact⟨Nat.zero_lt_one,rfl,rfl,fun k a c _ h=>by rw[List.getElem?_cons_succ]at h;exact nomatch h⟩
 | @snoc p q l g w e ih=>
  obtain⟨h1,h2,h3,h4⟩:=ih;rw[List.length_append,List.length_singleton];refine⟨by lia,?_,?_,fun k a c ha hc=>?_⟩
  ·rw[List.getElem?_append_left h1];exact h2
  ·rw[Nat.add_sub_cancel,List.getElem?_append_right (Nat.le_refl _),Nat.sub_self];rfl
  ·by_cases hk:k+1<l.length
   ·rw[List.getElem?_append_left (by lia)]at ha
    rw[List.getElem?_append_left hk]at hc
    exact h4 k a c ha hc
   ·by_cases hk2:k+1=l.length
    ·rw[List.getElem?_append_left (by lia),show k=l.length - 1 by lia,h3]at ha
     rw[hk2,List.getElem?_append_right (Nat.le_refl _),Nat.sub_self]at hc
     cases ha;cases hc;exact⟨g,e⟩
    ·have:=(List.getElem?_eq_some_iff.mp hc).1
     rw[List.length_append,List.length_singleton]at this
     lia
theorem wv {x y:Tr}(h:trD x=trD y):x=y:=by
 obtain⟨a,b,c⟩:=x;obtain⟨a',b',c'⟩:=y;unfold trD at h;injection h with h
 injection h with h1 h
 injection h with h2 h
 injection h with h3 h
 injection h3 with h3
 have e1:a=a':=bU h1;have e2:b=b':=bU h2;have e3:c=c':=h3;rw[e1,e2,e3]
theorem ze (x:Tr) (E:List Tr):inO (some (trD x)) (some (.lst (E.map trD)))=some (decide (x∈E)):=by
 unfold inO;simp only[aS];rw[if_pos]
 ·congr 1
  apply decide_eq_decide.mpr;constructor
  ·intro h
   obtain⟨y,hy,e⟩:=List.mem_map.mp h;rw[<-wv e];exact hy
  ·intro h;exact List.mem_map.mpr ⟨x,h,rfl⟩
 ·rw[Bool.and_eq_true,List.all_eq_true]
  refine⟨rfl,fun x hx=>?_⟩
  obtain⟨c,_,rfl⟩:=List.mem_map.mp hx;rfl
theorem Ay (a c:Bool):orV (some (.bl a)) (some (.bl c))=some (.bl (a||c)):=by cases a<;>rfl
theorem kP {l:List Pl}{E:List Tr}(l0:0<l.length) (l1:l.length<=100) (st:∀(k:Nat) (a c:Pl),k<l.length->l[k]?=some a->l[(k+1)%l.length]?=some c->(a,c,0)∈E\/(a,c,1)∈E)
  (la:∀a c,l[l.length - 1]?=some a->l[0]?=some c->(a,c,1)∈E):f_qf [pD l,.lst (E.map trD)]=some (.bl true,false):=by
 rw[bf (f:=f_qf) (δ:=[some (pD l,false),some (.lst (E.map trD),false),none,none,none,none]) rfl rfl rfl];obtain⟨δ',el,y,x3,x4,x5,hy,rfl⟩:=fM (body:=fun d δ=>ac ((ae 3) d δ) mG) (fun pre δ=>∃y x3 x4 x5,(pre.length=l.length->y=true)/\
   δ=[some (pD l,false),some (.lst (E.map trD),false),some (.bl y,false),x3,x4,x5]) (jb 0 l.length) []
  [some (pD l,false),some (.lst (E.map trD),false),some (.bl false,false),none,none,none] ⟨false,none,none,none,fun h=>by rw[List.length_nil]at h;lia,rfl⟩
  fun p d q δ hpq hz=>by
   obtain⟨y,x3,x4,x5,_,rfl⟩:=hz;have hk:p.length<l.length:=by
    have:=congrArg List.length hpq;rw[List.nil_append,bW,List.length_append,List.length_cons]at this
    lia
   have hd:d=.int (p.length:Int):=by
    have h1:(p++d::q)[p.length]?=some d:=by rw[List.getElem?_append_right (Nat.le_refl _),Nat.sub_self];rfl
    rw[hpq,List.nil_append]at h1;unfold jb at h1;rw[List.getElem?_map,List.getElem?_range hk]at h1
    have h2:=Option.some.inj h1;rw[<-h2];show D.int (0+_)=_;rw[Int.zero_add]
   subst hd;have hk2:(p.length+1)%l.length<l.length:=Nat.mod_lt _ l0;have ga:=List.getElem?_eq_getElem hk
   have gc:=List.getElem?_eq_getElem hk2
   have s1:=st p.length _ _ hk ga gc;have s2:p.length+1=l.length->(l[p.length],l[(p.length+1)%l.length],1)∈E:=fun h=>la _ _ (by rw[<-ga];congr 1;lia) (by rw[<-gc];congr 1;rw[h,Nat.mod_self])
   have ia:atI (l.map plD) (p.length:Int)=some (plD l[p.length]):=pj (Int.natCast_nonneg _) (by rw[Int.toNat_natCast,List.getElem?_map,ga];rfl)
   have ic:atI (l.map plD) (((p.length:Int)+1)%(l.length:Int))=some (plD l[(p.length+1)%l.length]):=by
    rw[show((p.length:Int)+1)%(l.length:Int)=(((p.length+1)%l.length:Nat):Int) from rfl]
    exact pj (Int.natCast_nonneg _) (by rw[Int.toNat_natCast,List.getElem?_map,gc];rfl)
   generalize l[p.length]=a at*;generalize l[(p.length+1)%l.length]=c at*;refine⟨[some (pD l,false),some (.lst (E.map trD),false),some (.bl (y||decide ((a,c,1)∈E)),false),some (.int (p.length:Int),false),some (plD a,false),some (plD c,false)],.inl ?_,y||decide ((a,c,1)∈E),some (.int (p.length:Int),false),some (plD a,false),some (plD c,false),fun h=>?_,rfl⟩
   ·rw[toName_s _ _ _ (by simp),bindO_s]
    show mG [some (pD l,false),some (.lst (E.map trD),false),some (.bl y,false),some (.int (p.length:Int),false),x4,x5]=_;have t0:dR (ad (some (plD a)) (ad (some (plD c)) (ad (some (.int 0)) (some []))))=some (trD (a,c,0)):=by rw[consO_s,consO_s,consO_s,tupO_s _ (by simp)];rfl
    have t1:dR (ad (some (plD a)) (ad (some (plD c)) (ad (some (.int 1)) (some []))))=some (trD (a,c,1)):=by rw[consO_s,consO_s,consO_s,tupO_s _ (by simp)];rfl
    simp only[mG,pD,rd_0,rd_1,ixO_l,ia,consO_s (plD a) [],bindO_s,fP,shO_s,tyB_s,notO_s,Bool.not_true,ifO_f,nextO_s,seqO_n];rw[setO_s _ _ _ (by simp),seqO_n]
    simp only[List.set_cons_succ,List.set_cons_zero,rd_0,rd_1,ixO_l,addI_s,lenL_l,List.length_map];rw[modI_s _ _ (by lia),ixO_l,ic,setO_s _ _ _ (by simp),seqO_n]
    simp only[List.set_cons_succ,List.set_cons_zero,rd_0,rd_1,t0,t1,bZ,ze,notO_s];rw[show tq (some !decide ((a,c,(0:Int))∈E)) (some !decide ((a,c,(1:Int))∈E))=some false by
     rcases s1 with h|h
     ·rw[decide_eq_true h];rfl
     ·rw[decide_eq_true h];cases decide ((a,c,(0:Int))∈E)<;>rfl]
    rw[ifO_f,seqO_n];simp only[rd_0,rd_1,t1,ze,ofB_s,Ay];rw[setO_s _ _ _ (by simp)]
    rfl
   ·rw[List.length_append,List.length_singleton]at h
    rw[decide_eq_true (s2 h),Bool.or_true]
 rw[List.nil_append,bW]at hy;rw[hy rfl]at el;have ne:eqO (some (pD l)) (dH (some []))=some false:=by
  rw[lstO_s _ (by simp),pD,oX,decide_eq_false]
  ·intro z;injection z with z
   have:=List.map_eq_nil_iff.mp z;rw[this]at l0;exact absurd l0 (Nat.lt_irrefl 0)
  ·show((l.map plD).all (okD 15)&&okD 16 (.lst []))=true
   rw[show okD 16 (.lst [])=true from rfl,Bool.and_true,List.all_eq_true]
   intro x hx;obtain⟨q,_,rfl⟩:=List.mem_map.mp hx;rfl
 simp only[zR,rd_0,rd_1,ne];rw[show gu "list" (some (pD l))=some (.bl true) from zu _,tyB_s,notO_s,Bool.not_true,orO_f,ifO_f,nextO_s,seqO_n,setO_s _ _ _ (by simp),seqO_n]
 simp only[List.set_cons_succ,List.set_cons_zero,rd_0,rd_1];rw[show ja (some (pD l))=some (.int l.length) by rw[pD,lenL_l,List.length_map],gG _ (by lia),bindO_s,Int.toNat_natCast,el,seqO_n]
 rfl
end K51
set_option tactic.hygienic false
namespace K51
open PySem L2
variable[Lams]
theorem AO (p:Pl) (ks:List Pl):inO (some (plD p)) (some (.lst (ks.map plD)))=some (decide (p∈ks)):=by
 unfold inO;simp only[aS];rw[if_pos]
 ·congr 1
  exact decide_eq_decide.mpr eB
 ·rw[Bool.and_eq_true,List.all_eq_true]
  refine⟨rfl,fun x hx=>?_⟩
  obtain⟨c,_,rfl⟩:=List.mem_map.mp hx;rfl
theorem lQ {A a1 a2 a3 a4 a7 a8 a9:Option (D×Bool)}:∀(ps ks:List Pl) (x6:Option (D×Bool)),ks.length+ps.length<=100->∃y6,
  aR (fun d δ=>ac ((ae 6) d δ) fB) (ps.map plD) [A,a1,a2,a3,a4,some (.lst (ks.map plD),true),x6,a7,a8,a9]=some (.next [A,a1,a2,a3,a4,some (.lst ((aY ks ps).map plD),true),y6,a7,a8,a9])
 |[],ks,x6,_=>⟨x6,rfl⟩
 |p::ps,ks,x6,hl=>by
  rw[List.length_cons]at hl;have hlim:lim=1000000:=rfl;obtain⟨y6,e⟩:=lQ (A:=A) (a1:=a1) (a2:=a2) (a3:=a3) (a4:=a4) (a7:=a7) (a8:=a8) (a9:=a9) ps (if p∈ks then ks else ks++[p]) (some (plD p,false)) (by split<;>(try rw[List.length_append,List.length_singleton])<;>lia)
  refine⟨y6,?_⟩
  rw[aY,List.map_cons,g8 (δ':=[A,a1,a2,a3,a4,some (.lst ((if p∈ks then ks else ks++[p]).map plD),true),some (plD p,false),a7,a8,a9]) (.inl ?_),e]
  rw[toName_s _ _ _ (by simp),bindO_s]
  simp only[List.set_cons_succ,List.set_cons_zero,fB,rd_0,rd_0o,rd_1,bZ,AO,notO_s]
  by_cases c:p∈ks
  ·rw[decide_eq_true c,if_pos c,Bool.not_true,ifO_f];rfl
  ·rw[decide_eq_false c,if_neg c,Bool.not_false,ifO_t,lV (ds:=ks.map plD) _ (by rfl) (by rw[List.length_map];lia),List.map_append];rfl
theorem f9:∀(ps ks:List Pl),∃r,List.Sublist r ps/\aY ks ps=ks++r
 |[],ks=>⟨[],List.Sublist.slnil,(List.append_nil _).symm⟩
 |p::ps,ks=>by
  rw[aY]
  by_cases c:p∈ks
  ·rw[if_pos c]
   obtain⟨r,h,e⟩:=f9 ps ks;exact⟨r,h.cons _,e⟩
  ·rw[if_neg c]
   obtain⟨r,h,e⟩:=f9 ps (ks++[p]);exact⟨p::r,h.cons₂ _,by rw[e,List.append_assoc];rfl⟩
theorem nC:∀{l m:List Pl},l.Nodup->m.Nodup->(∀x,x∈l↔x∈m)->l.Perm m:=fun{l m} h1 h2 h=>by
 rw[List.perm_iff_count];intro a;rw[h1.count,h2.count]
 by_cases c:a∈l
 ·rw[if_pos c,if_pos ((h a).mp c)]
 ·rw[if_neg c,if_neg fun z=>c ((h a).mpr z)]
theorem yI {ps ss ss2:List Pl}(e1:cH ((aY [] ps).map plD)=ss.map plD) (hp:ss.Perm (aY [] ps)) (e2:cH (ps.map plD)=ss2.map plD) (hp2:ss2.Perm ps):(aY [] ss2).map plD=ss.map plD:=by
 obtain⟨r,hr,er⟩:=f9 ss2 [];rw[List.nil_append]at er;have s2:=cP (kq ps);have s1:=cP (kq (aY [] ps));rw[e2]at s2;rw[e1]at s1;refine eo (kq (aY [] ss2)) _ _ (fun y hy=>hy) ?_ ?_ s1
 ·refine List.Perm.map _ (List.Perm.trans (nC (bz _ List.nodup_nil) (bz _ List.nodup_nil) fun x=>?_) hp.symm)
  rw[bE,bE,hp2.mem_iff]
 ·rw[er]
  exact s2.sublist (hr.map _)
theorem oR (b h:Pat):fH b h=(List.range b.2.length).map (fun i=>(b.1,i))++(List.range h.2.length).map fun i=>(h.1,i):=by
 unfold fH;rw[List.map_append,e7,e7,List.range_eq_range',List.range_eq_range']
theorem uM (p:Pat) (n:Nat):okD (n+4) (aK p)=true:=by
 show(List.all [.str p.1,.tup (p.2.map teD)] (okD (n+3)))=true;have:okD (n+3) (.tup (p.2.map teD))=true:=by
  show(p.2.map teD).all (okD (n+2))=true;rw[List.all_eq_true];intro x hx;obtain⟨t,_,rfl⟩:=List.mem_map.mp hx;cases t<;>rfl
 rw[List.all_cons,List.all_cons,this];rfl
theorem yR (b h:Pat):okD 16 (.lst [ruD b h])=true:=by
 show(List.all [ruD b h] (okD 15))=true;have h1:okD 14 (.lst [aK b])=true:=by
  show List.all [aK b] (okD 13)=true;rw[List.all_cons,uM b 9];rfl
 have h2:okD 14 (.lst [aK h])=true:=by
  show List.all [aK h] (okD 13)=true;rw[List.all_cons,uM h 9];rfl
 have:okD 15 (ruD b h)=true:=by
  show(List.all [.str "must",.lst [aK b],.lst [aK h]] (okD 14))=true;rw[List.all_cons,List.all_cons,List.all_cons,h1,h2];rfl
 rw[List.all_cons,this];rfl
theorem lF (b h:Pat):dH (ad (dR (ad (some (.str "must")) (ad (dH (ad (some (aK b)) (some []))) (ad (dH (ad (some (aK h)) (some []))) (some []))))) (some []))=some (.lst [ruD b h]):=by
 rw[consO_s,lstO_s _ (by simp),consO_s,lstO_s _ (by simp),consO_s,consO_s,consO_s,tupO_s _ (by simp),consO_s,lstO_s _ (by simp)];rfl
theorem rr:(("ring":Str)="ranks")=False:=by simp;decide +kernel
theorem pZ (p:Pat) (e:DEnv->Option D) {δ:DEnv}(h:∀i:Nat,bb (ae 9) (fun _=>some true) e δ (.int (0+(i:Int)))=some (some (plD (p.1,i)))):cA (bb (ae 9) (fun _=>some true) e δ) (jb 0 p.2.length)=some (((List.range p.2.length).map fun i=>(p.1,i)).map plD):=by
 unfold jb;rw[br (f:=fun(i:Nat)=>D.int (0+(i:Int))) (h:=fun i=>plD (p.1,i)) (p:=fun _=>true) fun i _=>?_]
 ·rw[List.filter_eq_self.mpr fun _ _=>rfl,List.map_map];rfl
 ·rw[if_pos rfl];exact h i
theorem rZ {b h:Pat}(hb:b.2.length<=4) (hh:h.2.length<=4) {ss2:List Pl}(e2:cH ((fH b h).map plD)=ss2.map plD) (hp2:ss2.Perm (fH b h)):
  (∃l:List Pl,l.length<=100/\f_q2 [.lst [ruD b h]]=some (.tup [.str "ring",pD l],true)/\f_qf [pD l,.lst ((Es b h).map trD)]=some (.bl true,false))\/
  (∃rs:List D,rs.length<=100/\f_q2 [.lst [ruD b h]]=some (.tup [.str "ranks",.lst rs],true)/\f_qe [.lst rs,.lst ((aY [] ss2).map plD),.lst ((Es b h).map trD)]=some (.bl true,false)):=by
 obtain⟨us,ls,mu,ml,h0⟩:=so hb hh
 rcases h0 with h1|h1
 ·obtain⟨l,f,p,e,w,hl,g⟩:=h1
  refine .inl ⟨l,hl,e,?_⟩
  obtain⟨l0,lf,lp,st⟩:=w.steps;have m1:(p,f,1)∈Es b h:=(mV mu ml).mp (yT g);refine kP l0 hl (fun k a c hk ha hc=>?_) fun a c ha hc=>?_
  ·by_cases c1:k+1<l.length
   ·rw[Nat.mod_eq_of_lt c1]at hc
    obtain⟨g,hg⟩:=st k a c ha hc
    rcases(o4 (bT ..) hg).2 with z|z
    ·exact .inl ((mV mu ml).mp (z▸hg))
    ·exact .inr ((mV mu ml).mp (z▸hg))
   ·rw[show k+1=l.length by lia,Nat.mod_self,lf]at hc
    rw[show k=l.length - 1 by lia,lp]at ha
    cases ha;cases hc;exact .inr m1
  ·rw[lp]at ha
   rw[lf]at hc;cases ha;cases hc;exact m1
 ·obtain⟨r,ss,e,es,hp,lo,ar⟩:=h1
  have nd:ss.Nodup:=hp.nodup_iff.mpr (bz _ List.nodup_nil);have len:ss.length<=100:=by
   rw[hp.length_eq];have:=fO (fH b h) [];have s1:=bq b.1 0 b.2;have s2:=bq h.1 0 h.2;unfold fH at this⊢;rw[List.length_map,List.length_append,List.length_nil]at this;lia
  refine .inr ⟨_,by rw[List.length_map];exact len,e,?_⟩
  rw[yI es hp e2 hp2];refine oh r nd len lo fun x hx=>?_
  obtain⟨p,q,g⟩:=x;have hx':=(mV mu ml).mpr hx;obtain⟨l,_,h1,_,h2⟩:=uN.mp hx;have hq:∃te,(te,q)∈ao h.1 0 h.2:=by
   rcases h2 with⟨_,h2⟩|⟨_,m,_,h2⟩
   ·exact⟨_,h2⟩
   ·exact⟨_,h2⟩
  obtain⟨te,hq⟩:=hq;refine⟨?_,?_,ar p (q,g) hx'⟩
  ·rw[hp.mem_iff,bE]
   exact .inr (List.mem_map.mpr ⟨_,List.mem_append_left _ h1,rfl⟩)
  ·rw[hp.mem_iff,bE]
   exact .inr (List.mem_map.mpr ⟨_,List.mem_append_right _ hq,rfl⟩)
end K51
set_option tactic.hygienic false
namespace K51
open PySem L2
variable[Lams]
theorem pI (s:Str):eqO (some (.str s)) (some (.str s))=some true:=by rw[cg,decide_eq_true rfl]
theorem oQ (s:Str):neO (some (.str s)) (some (.str s))=some false:=by unfold neO;rw[pI];rfl
theorem xK:eqO (some (.str "ring")) (some (.str "ranks"))=some false:=by rw[cg,decide_eq_false (by rw[rr];exact id)]
theorem Ak:neO (some (.str "ring")) (some (.str "ranks"))=some true:=by unfold neO;rw[xK];rfl
theorem yO (c:Int):∃t:Str,ixO (dH (ad (some (.str "one")) (ad (some (.str "two")) (ad (some (.str "one")) (some []))))) (nI (shO (ac (ad (some (.int c)) (ad (some (.int 20)) (some []))) f_q9)) (some (.int 3)))=some (.str t):=by
 have m0:=kY c 20;rw[consO_s,consO_s,consO_s,lstO_s _ (by simp),consO_s,consO_s,bindO_s,qa _ _ (by decide) (by decide),shO_s,modI_s _ _ (by decide),ixO_l]
 obtain⟨v,hv,_,ev⟩:=mX (xs:=[D.str "one",.str "two",.str "one"]) (i:=uU c 20%3) (by lia) (by simp;lia)
 obtain⟨w,rfl⟩:∃w:Str,v=.str w:=by simp at hv;rcases hv with rfl|rfl|rfl<;>exact⟨_,rfl⟩
 exact⟨w,ev⟩
theorem yC (c:Int):∃L:Str,0<L.length/\L.length<=100/\ixO (dH (ad (some (.str "ABCDEF")) (ad (some (.str "ADEF")) (some [])))) (nI (some (.int c)) (some (.int 2)))=some (.str L):=by
 rw[consO_s,consO_s,lstO_s _ (by simp),modI_s _ _ (by decide),ixO_l]
 obtain⟨v,hv,_,ev⟩:=mX (xs:=[D.str "ABCDEF",.str "ADEF"]) (i:=c%2) (by lia) (by simp;lia)
 obtain⟨w,h1,h2,rfl⟩:∃w:Str,0<w.length/\w.length<=100/\v=.str w:=by
  simp at hv
  rcases hv with rfl|rfl
  ·exact⟨_,by decide +kernel,by decide +kernel,rfl⟩
  ·exact⟨_,by decide +kernel,by decide +kernel,rfl⟩
 exact⟨w,h1,h2,ev⟩
theorem vF (A:Option (D×Bool)) (c:Int) (x2 x3 x4 x5 x6 x7 x8 x9:Option (D×Bool)):∃y2 y3 y4 y5 y6 y7,
  fJ [A,some (.int c,false),x2,x3,x4,x5,x6,x7,x8,x9]=some (.next [A,some (.int c,false),y2,y3,y4,y5,y6,y7,none,x9]):=by
 have hlim:lim=1000000:=rfl;obtain⟨bt,hb,eb⟩:=hJ c 1 "one" "ABCD" (by decide) (by decide) (by decide +kernel) (by decide +kernel)
 obtain⟨t,et⟩:=yO c;obtain⟨L,l0,l1,eL⟩:=yC c;obtain⟨ht,hh,eh⟩:=hJ c 11 t L (by decide) (by decide) l0 l1
 generalize hB:(("one",bt):Pat)=b at eb;generalize hH:((t,ht):Pat)=h at eh;have hb':b.2.length<=4:=by rw[<-hB];exact hb
 have hh':h.2.length<=4:=by rw[<-hH];exact hh
 clear hB hH hb hh;obtain⟨ss2,e2,hp2⟩:=o6 (fH b h);have pl:(fH b h).length<=8:=by
  rw[oR,List.length_append,List.length_map,List.length_map,List.length_range,List.length_range];lia
 have es:nS .ts (some (.lst ((fH b h).map plD)))=some (.lst (ss2.map plD)):=by
  rw[sg (by rw[List.length_map];lia) (kq _) (xL _),e2]
 have c1:=pZ b kN (δ:=[none,none,some (aK b,false),none,none,none,none,none,none,none]) fun i=>by
  have:ixO (some (aK b)) (some (.int 0))=some (.str b.1):=rfl;simp[bb,kN,this,plD]
 have c2:=pZ h li (δ:=[none,none,none,some (aK h,false),none,none,none,none,none,none]) fun i=>by
  have:ixO (some (aK h)) (some (.int 0))=some (.str h.1):=rfl;simp[bb,li,this,plD]
 have i1:ixO (some (aK b)) (some (.int 1))=some (.tup (b.2.map teD)):=rfl;have i2:ixO (some (aK h)) (some (.int 1))=some (.tup (h.2.map teD)):=rfl;obtain⟨y6,ed⟩:=lQ (A:=A) (a1:=some (.int c,false)) (a2:=some (aK b,false)) (a3:=some (aK h,false)) (a4:=some (.lst ((fH b h).map plD),false)) (a7:=x7) (a8:=x8) (a9:=x9) ss2 [] x6 (by rw[hp2.length_eq,List.length_nil];lia)
 simp only[fJ,rd_0,rd_1,et,eL];simp only[consO_s (.str "ABCD") [],consO_s (.str "one") [.str "ABCD"],consO_s (.int 1) [.str "one",.str "ABCD"],consO_s (.int c) [.int 1,.str "one",.str "ABCD"],bindO_s,eb,shO_s];rw[setO_s _ _ _ (by simp),seqO_n]
 simp only[List.set_cons_succ,List.set_cons_zero,rd_0,rd_1,et,eL];simp only[consO_s (.str L) [],consO_s (.str t) [.str L],consO_s (.int 11) [.str t,.str L],consO_s (.int c) [.int 11,.str t,.str L],bindO_s,eh,shO_s];rw[setO_s _ _ _ (by simp),seqO_n]
 simp only[List.set_cons_succ,List.set_cons_zero,rd_0,rd_1,i1,i2,lenL_t,List.length_map];rw[gG _ (by lia),gG _ (by lia),bindO_s,bindO_s,Int.toNat_natCast,Int.toNat_natCast,b7 (by rw[bW];lia),b7 (by rw[bW];lia)]
 rw[show bd false [false,false,true,false,false,false,false,false,false,false] [A,some (.int c,false),some (aK b,false),some (aK h,false),x4,x5,x6,x7,x8,x9]=[none,none,some (aK b,false),none,none,none,none,none,none,none] from rfl,c1,
  show bd false [false,false,false,true,false,false,false,false,false,false] [A,some (.int c,false),some (aK b,false),some (aK h,false),x4,x5,x6,x7,x8,x9]=[none,none,none,some (aK h,false),none,none,none,none,none,none] from rfl,c2]
 rw[lstLim_s,lstLim_s,catO_s _ _ (by simp only[List.length_map,List.length_range];lia),<-List.map_append,<-oR,setO_s _ _ _ (by simp),seqO_n,lstO_s [] (by simp),setF_s _ _ _ (by simp),seqO_n]
 simp only[List.set_cons_succ,List.set_cons_zero,rd_0,rd_1,es,lstL_s,bindO_s];rw[show aR (fun d δ=>ac ((ae 6) d δ) fB) (ss2.map plD) [A,some (.int c,false),some (aK b,false),some (aK h,false),some (.lst ((fH b h).map plD),false),some (.lst [],true),x6,x7,x8,x9]=_ from ed,seqO_n]
 simp only[rd_0,rd_1,lF];rw[setO_s _ _ _ (by simp),seqO_n]
 simp only[List.set_cons_succ,List.set_cons_zero,rd_0,rd_1,consO_s (.lst [ruD b h]) [],bindO_s];have neH:neO (some (.lst [ruD b h])) (some (.lst [ruD b h]))=some false:=by
  unfold neO;rw[uC (yR b h) (yR b h),decide_eq_true rfl];rfl
 rcases rZ hb' hh' e2 hp2 with⟨l,ll,er,ek⟩|⟨rs,ll,er,ek⟩
 ·refine⟨some (aK b,false),some (aK h,false),some (.lst ((fH b h).map plD),false),some (.lst ((aY [] ss2).map plD),true),y6,some (.lst [ruD b h],false),?_⟩
  rw[er,show tpO (some (.tup [.str "ring",pD l],true))=some (.tup [.str "ring",pD l]) from rfl,setO_s _ _ _ (by simp),seqO_n]
  simp only[List.set_cons_succ,List.set_cons_zero,rd_0,rd_0o,rd_1,tT,tyB_s,notO_s,Bool.not_true,orO_f,lenL_t,List.length_cons,List.length_nil,gk,ixO_t,at0,at1,wj,xK,Ak,oQ,andO_f,andO_t,consO_s (aK h) [],consO_s (aK b) [aK h],bindO_s,j6 hb' hh',frO_s,consO_s (.lst ((Es b h).map trD)) [],consO_s (pD l) [.lst ((Es b h).map trD)],ek,shO_s];rw[show orO (some !decide (((0+1+1:Nat):Int)=2)) (some false)=some false from rfl,ifO_f,ifO_f,ifO_f]
  rw[t9 (ds:=[.str "ring",pD l]) (es:=l.map plD) (by rfl) (by rfl) (by rw[List.length_map];lia)]
  simp only[List.set_cons_succ,List.set_cons_zero,rd_0,rd_1,lF,neH,ifO_f,nextO_s]
 ·refine⟨some (aK b,false),some (aK h,false),some (.lst ((fH b h).map plD),false),some (.lst ((aY [] ss2).map plD),true),y6,some (.lst [ruD b h],false),?_⟩
  rw[er,show tpO (some (.tup [.str "ranks",.lst rs],true))=some (.tup [.str "ranks",.lst rs]) from rfl,setO_s _ _ _ (by simp),seqO_n]
  simp only[List.set_cons_succ,List.set_cons_zero,rd_0,rd_0o,rd_1,tT,tyB_s,notO_s,Bool.not_true,orO_f,lenL_t,List.length_cons,List.length_nil,gk,ixO_t,at0,at1,wj,pI,oQ,andO_f,andO_t,consO_s (aK h) [],consO_s (aK b) [aK h],bindO_s,j6 hb' hh',frO_s,consO_s (.lst ((Es b h).map trD)) [],consO_s (.lst ((aY [] ss2).map plD)) [.lst ((Es b h).map trD)],consO_s (.lst rs) [.lst ((aY [] ss2).map plD),.lst ((Es b h).map trD)],ek,shO_s];rw[show orO (some !decide (((0+1+1:Nat):Int)=2)) (some false)=some false from rfl,ifO_f,ifO_f,ifO_f]
  rw[t9 (ds:=[.str "ranks",.lst rs]) (es:=rs) (by rfl) (by rfl) (by lia)]
  simp only[List.set_cons_succ,List.set_cons_zero,rd_0,rd_1,lF,neH,ifO_f,nextO_s]
theorem me (A:Option (D×Bool)):∀(ns:List Int) (x1 x2 x3 x4 x5 x6 x7 x8 x9:Option (D×Bool)),∃δ',aR (fun d δ=>ac ((ae 1) d δ) fJ) (ns.map D.int) [A,x1,x2,x3,x4,x5,x6,x7,x8,x9]=some (.next δ')
 |[],x1,x2,x3,x4,x5,x6,x7,x8,x9=>⟨_,rfl⟩
 |n::ns,x1,x2,x3,x4,x5,x6,x7,x8,x9=>by
  obtain⟨y2,y3,y4,y5,y6,y7,e⟩:=vF A n x2 x3 x4 x5 x6 x7 x8 x9;obtain⟨δ',e'⟩:=me A ns (some (.int n,false)) y2 y3 y4 y5 y6 y7 none x9;refine⟨δ',?_⟩
  rw[List.map_cons,g8 (.inl (by rw[toName_s _ _ _ (by simp),bindO_s];exact e)),e']
theorem sW (ns:List Int) (l u:Option Int):∃cs:List Int,wY (ns.map D.int) l u=cs.map D.int/\cs.length<=ns.length:=by
 unfold wY;refine⟨_,by rw[<-List.map_drop,<-List.map_take],?_⟩
 simp;lia
theorem pure (ns:List Int) (h:ns.length<=63):f_law [.lst (ns.map D.int)]=some (.bl true,false):=by
 have hlim:lim=1000000:=rfl;rw[bf (f:=f_law) (δ:=[some (.lst (ns.map D.int),false),none,none,none,none,none,none,none,none,none]) rfl rfl rfl];simp only[g_law,rd_0];obtain⟨cs,ec,cl⟩:=sW ns none (some 63);obtain⟨δ',e⟩:=me (some (.lst (ns.map D.int),false)) (cs++[0]) none none none none none none none none none;rw[partI_s,cutLO_s,ec,consO_s,lstO_s _ (by simp),catO_s _ _ (by rw[List.length_map,List.length_singleton];lia),show cs.map D.int++[D.int 0]=(cs++[0]).map D.int by rw[List.map_append];rfl]
 rw[lstL_s,bindO_s,e,seqO_n];rfl
end K51
set_option maxRecDepth 100000 in
set_option maxHeartbeats 0 in
theorem PySem.Challenge.cw_mustrows_k51_ranks_of_a_rule_holds : PySem.Challenge.rw_mustrows_k51_ranks_of_a_rule.Holds := by
 w_on;o_law;k_head;(case hw=>w_witness2)
 k_fill
 letI:L2.Lams:=⟨[]⟩
 refine L2.walk_ofK (l:=PySem.Challenge.rw_mustrows_k51_ranks_of_a_rule) (n:=63) (k:=5) (x:="_law_script") (CX:=L2.CX0) (sp:=fun K=>L2.spM K K51.f_law) rfl (by decide) rfl ⟨rfl,by decide,by decide⟩ (fun w h Y=>⟨PySem.W.kIn_of Y,fun q hq=>absurd hq List.not_mem_nil⟩) ?F ?S ?C ?L ?U
 case L=>exact fun w q hq=>absurd hq List.not_mem_nil
 case U=>exact fun q hq r hr _=>absurd hq List.not_mem_nil
 case F=>
  intro w mg fa h KX G hmg;have Q:∃fd:FuncData,(∀(s:Shared) (v:Value),BindsTo s fd ⟨[v],[]⟩ [("_law_script",v)])/\∀base:Heap,(L2.KOf KX).In base->base.Ns mainGlobals mg->L2.FnOk PySem.Challenge.rw_mustrows_k51_ranks_of_a_rule.prog w (L2.KOf KX) mg base L2.CX0 5 fa fd ["_law_script"] (L2.spM (L2.KOf KX) K51.f_law):=by
   dsimp only[L2.KOf];refine' K51.all_mk KX G hmg ?za ?zl ?zc ?zk ?zT ?_ ?_ ?_ ?_ ?_ ?_ ?_ ?_ ?_ ?_ ?_ ?_ ?_ ?_ ?_ ?_
   (case za=>k_is)
   (case zl=>k_is)
   (case zc=>k_is)
   (case zk=>k_is)
   (case zT=>intro x hx;refine PySem.W.mg_none_of KX G ?_;simp only[List.mem_cons,List.not_mem_nil,or_false]at hx;rcases hx with rfl|rfl|rfl|rfl|rfl|rfl|rfl|rfl|rfl|rfl|rfl|rfl|rfl<;>k_is)
   all_goals exact L2.df_mk KX G (by k_is) (by k_is) (by k_is) (by k_is)
  exact Q
 case S=>exact fun K H a ns hl hO hS=>L2.spM_law hS (K51.pure ns hl)
 case C=>exact fun _ _ _ _ h=>h
