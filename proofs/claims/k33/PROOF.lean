import PyProof.Rows.All
import PyProof.ZipIter
import Wide.All
import OpenK.AllK
import Wide.FinOn
import Lean
import PyProof.EqAt
import PyProof.EqKinds
import PyProof.TupleCall
import PyProof.DictRoadsH
import KE.KLam
import KE.KNestM
import PyProof.NeKinds
import KE.KSortKey
import PyProof.Conv_int_bool
import PyProof.EnumStmt
import PyProof.DictIter
import PyProof.DictWalks
import PyProof.ConsumeWalk
import PyProof.ListStr
import KE.KIntText
import KE.KDictOf
import KE.IntTextLaws
import PyProof.Rows.SortStr
import PyProof.StrLawsTight
import PyProof.StrLawsOcc
import PySem.Challenge.RW_mustrows_k33_keeps
set_option Elab.async false
set_option linter.all false
set_option genSizeOf false
set_option tactic.hygienic false
set_option maxRecDepth 100000
set_option maxHeartbeats 4000000
local macro_rules | `(tactic| obtain $p:rcasesPatMed := $e:term) => do
  let n := (p.raw.reprint.getD "").foldl (fun n c => if c == ',' then n + 1 else n) 0
  let q := Lean.mkIdent `hzz
  if n < 2 then `(tactic| rcases $e:term with $p:rcasesPatMed) else `(tactic| (refine Classical.byContradiction fun $q => ?_; rcases $e:term with $p:rcasesPatMed; refine $q ?_; clear $q))
abbrev Za:=@PySem.wpAny_bind
abbrev Zb:=@Option.some.inj
abbrev Zc:=@PySem.Heap.get?_push_of_some
abbrev Zd:=@PySem.wpAny_pure
abbrev Ze:=@List.mem_cons_of_mem
abbrev Zf:=@List.map_cons
abbrev Zg:=@List.mem_cons_self
abbrev Zh:=@List.size_toArray
abbrev Zi:=@PySem.Heap.lt_size
abbrev Zj:=@PySem.Heap.get?_push_size
abbrev Zk:=@Nat.le_refl
abbrev Zl:=@List.getElem?_set_ne
abbrev Zm:=@if_pos
abbrev Zn:=@List.length_map
abbrev Zo:=@if_neg
abbrev Zr:=@Nat.lt_of_lt_of_le
abbrev Zs:=@List.getElem?_set_self
abbrev Zt:=@List.mem_append_right
abbrev Zu:=@Bool.and_eq_true
abbrev Zv:=@decide_eq_false
abbrev Zw:=@decide_eq_true
abbrev Zx:=@Bool.false_eq_true
abbrev Zy:=@Nat.ne_of_lt
abbrev Zz:=@Ne.symm
abbrev ZA:=@List.mem_cons
abbrev ZB:=@List.not_mem_nil
abbrev ZC:=@PySem.Heap.get?_update_other
abbrev ZD:=@PySem.Heap.get?_update_self
abbrev ZE:=@Bool.false_ne_true
abbrev ZF:=@of_decide_eq_true
abbrev ZG:=@Option.some.injEq
abbrev ZH:=@List.all_eq_true
abbrev ZI:=@PySem.Heap.SameBut.update
abbrev ZJ:=@List.length_set
abbrev ZK:=@Nat.zero_le
abbrev ZL:=@PySem.wpAny_newObj_type
abbrev ZM:=@Nat.le_trans
abbrev ZN:=@PySem.wpAny_holding
abbrev ZO:=@List.length_append
abbrev ZP:=@PySem.wpAny_call_entry
abbrev ZQ:=@List.mem_of_getElem?
abbrev ZR:=@Nat.lt_irrefl
abbrev ZT:=@PySem.Obj.data_mapFields
abbrev ZU:=@decide_eq_true_iff
abbrev ZV:=@List.drop_eq_getElem_cons
abbrev ZW:=@PySem.wpAny_callSpecial?_slot
abbrev ZX:=@List.map_nil
abbrev ZY:=@if_false
abbrev ZZ:=@PySem.mem_of_lookup
abbrev Z0:=@List.getElem?_eq_none
abbrev Z1:=@PySem.Heap.size_push
abbrev Z2:=@List.mem_append_left
abbrev Z3:=@PySem.Around.under_plainId
abbrev Z4:=@List.map_append
abbrev Z5:=@or_false
abbrev Z6:=@if_true
abbrev Z7:=@PySem.sizeLine_eq
abbrev Z8:=@PySem.wpAny_mono
abbrev Z9:=@PySem.W.kia_one
abbrev Ya:=@Bool.eq_iff_iff
abbrev Yb:=@PyProof.Rows.callWith_type1
abbrev Yc:=@Nat.ne_of_gt
abbrev Yd:=@List.map_congr_left
abbrev Ye:=@PySem.Paired.length
abbrev Yf:=@PySem.wpAny_seqItems
abbrev Yg:=@List.nodup_nil
abbrev Yh:=@Array.getElem?_eq_getElem
abbrev Yi:=@PySem.codeAny_builtin
abbrev Yj:=@PySem.wpAny_rule
abbrev Yk:=@List.getElem?_eq_getElem
abbrev Yl:=@Bool.not_true
abbrev Ym:=@decide_eq_false_iff_not
abbrev Yn:=@PySem.wpAny_setField
abbrev Yo:=@List.Perm.refl
abbrev Yp:=@Bool.not_eq_true'
abbrev Yq:=@PySem.wpAny_field
abbrev Yr:=@decide_true
abbrev Ys:=@PySem.wpAny_updateSeq
abbrev Yt:=@List.append_nil
abbrev Yu:=@List.idxOf_lt_length_of_mem
abbrev Yv:=@PySem.wpAny_isInstance
abbrev Yw:=@List.getElem_mem
abbrev Yx:=@PySem.wpAny_setField_rec
abbrev Yy:=@Nat.lt_of_le_of_lt
abbrev Yz:=@PySem.Obj.isFreed_of_fields
abbrev YA:=@PySem.wpAny_specialOf
abbrev YB:=@List.nodup_cons
abbrev YC:=@List.cons.injEq
abbrev YD:=@List.length_range
abbrev YE:=@decide_false
abbrev YF:=@PySem.plainId_quiet
abbrev YG:=@PySem.F.plain_extend_loop
abbrev YH:=@beq_self_eq_true
abbrev YI:=@Nat.lt_succ_self
abbrev YJ:=@PySem.wpAny_Call_Name_kw
abbrev YK:=@Nat.le_succ
abbrev YL:=@PySem.wpAny_passesOwn
abbrev YM:=@PyProof.Rows.get?_update_seq
abbrev YN:=@PySem.builtinLookup_eq_fast
abbrev YO:=@PySem.wpAny_attempt
abbrev YQ:=@PyProof.Rows.listUpdate_at
abbrev YR:=@PySem.wpAny_setState_of
abbrev YS:=@decide_eq_true_eq
abbrev YT:=@List.getElem?_map
abbrev YU:=@List.getD_eq_getElem?_getD
abbrev YV:=@congrArg
abbrev YW:=@PySem.wpAny_askSetting
abbrev YX:=@List.length_take
abbrev YY:=@PySem.Heap.size_update
abbrev YZ:=@PySem.wpAny_setEntries_of
abbrev Y0:=@PySem.wpAny_typeOf
namespace L2
open PySem PySem.Spec PyProof.Rows
noncomputable abbrev Key:=Sum Int Str
theorem nS {α:Type}{a:α}{P:Prop}(h:none=some a):P:=by cases h
theorem nB {P:Prop}(h:false=true):P:=by cases h
theorem ifS {α:Type}{c:Prop}[Decidable c] {x:Option α}{d:α}(h:(if c then x else none)=some d):c/\x=some d:=by
 by_cases q:c
 ·rw[Zm q]at h;exact⟨q,h⟩
 ·rw[Zo q]at h;contradiction
theorem ifB {α:Type}{c:Prop}[Decidable c] {v d:α}(h:(if c then some v else none)=some d):c/\d=v:=⟨(ifS h).1,(Zb (ifS h).2).symm⟩
inductive D where
 |non|bl (b:Bool)|int (i:Int)|str (x:Str)|tup (ds:List D)|lst (ds:List D)|dK (ks:List Key) (vs:List D)
 |dD (ks vs:List D)
noncomputable instance:DecidableEq D:=fun _ _=>Classical.propDecidable _
noncomputable def bf:Nat->D->Bool
 |_,.int _=>true
 |_,.str _=>true
 |n+1,.tup ds=>ds.all (bf n)
 |_,_=>false
mutual
noncomputable def dN (w:World):D->Int
 |.int i=>hashInt i
 |.str x=>hashStr w x
 |.tup ds=>reduceHash (Builtin.Tuple.tupleHashOf (jL w ds))
 |_=>0
noncomputable def jL (w:World):List D->List Int
 |[]=>[]
 |d::ds=>dN w d::jL w ds
end
theorem fK (w:World):∀ds:List D,jL w ds=ds.map (dN w)
 |[]=>by simp[jL]
 |d::ds=>by simp[jL,fK w ds]
theorem cS {n:Nat}{ds:List D}(h:bf n (.tup ds)=true):∃k,n=k+1/\ds.all (bf k)=true:=by
 cases n with
 |zero=>simp[bf]at h
 |succ n=>exact⟨n,rfl,by simpa[bf]using h⟩
mutual
noncomputable def dH:D->Nat
 |.int _=>1
 |.str _=>1
 |.tup ds=>bL ds+1
 |_=>0
noncomputable def bL:List D->Nat
 |[]=>0
 |d::ds=>dH d+bL ds
end
theorem eL (d:D):∀ds:List D,bL (ds++[d])=bL ds+dH d
 |[]=>by simp[bL]
 |x::ds=>by rw[List.cons_append];simp only[bL];rw[eL d ds];lia
mutual
noncomputable def RH (h:Heap):D->Value->Prop
 |.int i,v=>∃t,v=.int i t
 |.str x,v=>∃t,v=.str x t
 |.tup ds,v=>∃a its,v=.ref a/\IsTup h a its.toArray/\RHs h ds its
 |_,_=>False
noncomputable def RHs (h:Heap):List D->List Value->Prop
 |[],vs=>vs=[]
 |d::ds,vs=>∃v r,vs=v::r/\RH h d v/\RHs h ds r
end
theorem RHs.length {h:Heap}:∀{ds:List D}{vs:List Value},RHs h ds vs->ds.length=vs.length
 |[],vs,r=>by simp only[RHs]at r;subst r;rfl
 |d::ds,vs,r=>by
  simp only[RHs]at r;obtain⟨v,q,rfl,_,r2⟩:=r;simp[RHs.length r2]
theorem RHs.get {h:Heap}:∀{ds:List D}{vs:List Value}{i:Nat}{d:D},RHs h ds vs->ds[i]?=some d->∃v,vs[i]?=some v/\RH h d v
 |[],vs,i,d,_,e=>by simp at e
 |x::ds,vs,0,d,r,e=>by
  simp only[RHs]at r;obtain⟨v,q,rfl,r1,_⟩:=r;simp at e;subst e;exact⟨v,rfl,r1⟩
 |x::ds,vs,i+1,d,r,e=>by
  simp only[RHs]at r;obtain⟨v,q,rfl,_,r2⟩:=r;obtain⟨u,h1,h2⟩:=RHs.get (i:=i) (d:=d) r2 (by simpa using e)
  exact⟨u,by simpa using h1,h2⟩
mutual
theorem RH.inj {h:Heap}:∀{d e:D}{v:Value},RH h d v->RH h e v->d=e
 |.int i,e,v,r,q=>by
  simp only[RH]at r;obtain⟨t,rfl⟩:=r;cases e<;>simp only[RH]at q<;>first
   |(obtain⟨t',z⟩:=q;cases z;rfl)
   |(obtain⟨t',z⟩:=q;cases z;done)
   |(obtain⟨a,its,z,_⟩:=q;cases z)
   |cases q
 |.str i,e,v,r,q=>by
  simp only[RH]at r;obtain⟨t,rfl⟩:=r;cases e<;>simp only[RH]at q<;>first
   |(obtain⟨t',z⟩:=q;cases z;rfl)
   |(obtain⟨t',z⟩:=q;cases z;done)
   |(obtain⟨a,its,z,_⟩:=q;cases z)
   |cases q
 |.tup ds,e,v,r,q=>by
  simp only[RH]at r;obtain⟨a,its,rfl,⟨o,g,_,n,hd⟩,rs⟩:=r;cases e with
  |tup es=>
   simp only[RH]at q;obtain⟨b,jts,z,⟨o',g',_,n',hd'⟩,qs⟩:=q;cases z;rw[g]at g';obtain rfl:=Zb g';rw[hd]at hd';have:its.toArray=jts.toArray:=by injection hd'
   have e2:its=jts:=by simpa using this
   subst e2;rw[RHs.inj rs qs]
  |int _=>simp only[RH]at q;obtain⟨t',z⟩:=q;contradiction
  |str _=>simp only[RH]at q;obtain⟨t',z⟩:=q;contradiction
  |_=>simp only[RH]at q
 |.non,e,v,r,q=>by simp only[RH]at r
 |.bl _,e,v,r,q=>by simp only[RH]at r
 |.lst _,e,v,r,q=>by simp only[RH]at r
 |.dK _ _,e,v,r,q=>by simp only[RH]at r
 |.dD _ _,e,v,r,q=>by simp only[RH]at r
theorem RHs.inj {h:Heap}:∀{ds es:List D}{vs:List Value},RHs h ds vs->RHs h es vs->ds=es
 |[],es,vs,r,q=>by
  simp only[RHs]at r;subst r;cases es with
  |nil=>rfl
  |cons e es=>simp only[RHs]at q;obtain⟨v,z,e,_⟩:=q;contradiction
 |d::ds,es,vs,r,q=>by
  simp only[RHs]at r;obtain⟨v,z,rfl,r1,r2⟩:=r;cases es with
  |nil=>simp only[RHs]at q;contradiction
  |cons e es=>
   simp only[RHs]at q;obtain⟨v',z',e',q1,q2⟩:=q;cases e';rw[RH.inj r1 q1,RHs.inj r2 q2]
end
mutual
theorem RH.to {h h':Heap}(k:∀a o,h.get? a=some o->o.cls=.type "tuple"->(∃its n,o.data=.seq its n)->h'.get? a=some o):∀{d:D}{v:Value},RH h d v->RH h' d v
 |.int i,v,r=>by simp only[RH]at r⊢;exact r
 |.str i,v,r=>by simp only[RH]at r⊢;exact r
 |.tup ds,v,r=>by
  simp only[RH]at r⊢;obtain⟨a,its,e,⟨o,g,hc,n,hd⟩,rs⟩:=r;exact⟨a,its,e,⟨o,k a o g hc ⟨_,_,hd⟩,hc,n,hd⟩,RHs.to k rs⟩
 |.non,v,r=>by simp only[RH]at r
 |.bl _,v,r=>by simp only[RH]at r
 |.lst _,v,r=>by simp only[RH]at r
 |.dK _ _,v,r=>by simp only[RH]at r
 |.dD _ _,v,r=>by simp only[RH]at r
theorem RHs.to {h h':Heap}(k:∀a o,h.get? a=some o->o.cls=.type "tuple"->(∃its n,o.data=.seq its n)->h'.get? a=some o):∀{ds:List D}{vs:List Value},RHs h ds vs->RHs h' ds vs
 |[],vs,r=>by simp only[RHs]at r⊢;exact r
 |d::ds,vs,r=>by
  simp only[RHs]at r⊢;obtain⟨v,z,e,r1,r2⟩:=r;exact⟨v,z,e,RH.to k r1,RHs.to k r2⟩
end
theorem yQ {P:Program}{w:World}:∀(n:Nat) (d:D) (u:Value) (A:Around) (s:Shared) (Q:Int->Shared->Prop) (E:Value->Shared->Prop),bf n d=true->A.units+2*n+2<cLine->RH s.heap d u->
  Q (dN w d) {s with toks:=s.toks+dH d}->wpAny (model P w) A (pyHash u) Q E s:=by
 intro n
 induction n using Nat.strongRecOn with
 |ind n ih=>
 intro d u A s Q E hd hA rd hQ;cases d with
 |int i=>
  simp only[RH]at rd;obtain⟨t,rfl⟩:=rd;simp only[dN,dH]at hQ;exact wpAny_pyHash_int hQ
 |str i=>
  simp only[RH]at rd;obtain⟨t,rfl⟩:=rd;simp only[dN,dH]at hQ;exact wpAny_pyHash_str hQ
 |tup ds=>
  simp only[RH]at rd;obtain⟨a,its,rfl,⟨o,ho,hc,m,hdat⟩,hr⟩:=rd;obtain⟨k,rfl,hd'⟩:=cS hd;have hT:s.TypeIs (.ref a) "tuple":=⟨o,ho,hc⟩;unfold pyHash;unfold pyHashByItsType;refine Za (wpAny_cRoomFor_or (.inr (by lia)) (Za (YA hT F.slot_tuple_hash.lookup ?_)))
  show wpAny _ _ (if(some (Value.builtin "tuple.__hash__")==some Value.none)=true then _ else _) Q E _
  rw[Zo (by rw[beq_builtin_none];exact ZE)]
  refine Za (YA hT F.slot_tuple_hash.lookup ?_)
  show wpAny _ _ (callSpecialIfBoundUnlessNone? (.ref a) "__hash__" _ >>= _) Q E _;refine Za (wpAny_callSpecialIfBoundUnlessNone?_slot hT F.slot_tuple_hash (ZP F.slot_tuple_hash hT F.entry_tuple_hash ?_ (F.args_tuple_hash_1 _)))
  show wpAny _ _ (Builtin.Tuple.tupleItemsOf (.ref a) >>= _) _ _ _;refine Za (wpAny_tupleItemsOf ho hdat (Za ?_))
  rw[<-Array.forIn_toList];refine wpAny_forIn_list _
   (fun rest (b:Array Int) s'=>∃done left,ds=done++left/\RHs s.heap left rest/\b.toList=done.map (dN w)/\s'={s with toks:=s.toks+bL done})
   _ ?_ ?_ _ _ ⟨[],ds,rfl,by simpa using hr,rfl,rfl⟩
  ·rintro v rest b s' hz9
   obtain⟨done,left,rfl,hl,hb,rfl⟩:=hz9;cases left with
   |nil=>simp only[RHs]at hl;contradiction
   |cons d' left'=>
    simp only[RHs]at hl;obtain⟨v',r',e',r1,r2⟩:=hl;cases e';have hd1:bf k d'=true:=by
     rw[List.all_append,Zu,List.all_cons,Zu]at hd';exact hd'.2.1
    refine Za (ih k (by lia) d' v _ _ _ _ hd1 ?_ r1 ?_)
    ·show A.units+1+2*k+2<cLine;lia
    ·have et:({s with toks:=s.toks+bL done+dH d'}:Shared)={s with toks:=s.toks+bL (done++[d'])}:=by rw[eL,Nat.add_assoc]
     first
      |exact Zd ⟨done++[d'],left',by simp,r2,by simp[hb],et⟩
      |exact Za (Zd (Zd ⟨done++[d'],left',by simp,r2,by simp[hb],et⟩))
  ·rintro b s' hz9
   obtain⟨done,left,rfl,hl,hb,rfl⟩:=hz9;have hleft:left=[]:=by
    have:=hl.length;cases left with
    |nil=>rfl
    |cons _ _=>simp at this
   subst hleft;rw[Yt]at hQ;simp only[dN,fK,dH]at hQ;show wpAny _ _ (retInt (Builtin.Tuple.tupleHashOf b.toList)) _ _ _;rw[hb];refine wpAny_ret_mkInt ?_
   show wpAny _ _ (if(decide (-(2:Int) ^ 63<=Builtin.Tuple.tupleHashOf (done.map (dN w)))&&decide (Builtin.Tuple.tupleHashOf (done.map (dN w))<2 ^ 63))=true then _ else _) Q E _
   unfold reduceHash at hQ
   by_cases hr:(decide (-(2:Int) ^ 63<=Builtin.Tuple.tupleHashOf (done.map (dN w)))&&decide (Builtin.Tuple.tupleHashOf (done.map (dN w))<2 ^ 63))=true
   ·rw[Zm hr]
    rw[Zm hr]at hQ;exact Zd hQ
   ·rw[Zo hr]
    rw[Zo hr]at hQ;exact Za (Yj (Zd hQ))
 |_=>simp[bf]at hd
theorem xn {P:Program}{w:World}:∀(n:Nat) (d:D) (u:Value) (A:Around) (s:Shared) (Q:Bool->Shared->Prop) (E:Value->Shared->Prop),bf n d=true->RH s.heap d u->Q true s->wpAny (model P w) A (eqIsQuiet n u) Q E s:=by
 intro n
 induction n using Nat.strongRecOn with
 |ind n ih=>
 intro d u A s Q E hd rd hQ;cases d with
 |int i=>simp only[RH]at rd;obtain⟨t,rfl⟩:=rd;unfold eqIsQuiet;exact Zd hQ
 |str i=>simp only[RH]at rd;obtain⟨t,rfl⟩:=rd;unfold eqIsQuiet;exact Zd hQ
 |tup ds=>
  simp only[RH]at rd;obtain⟨a,its,rfl,⟨o,ho,hc,m,hdat⟩,hr⟩:=rd;obtain⟨k,rfl,hd'⟩:=cS hd;have hT:s.TypeIs (.ref a) "tuple":=⟨o,ho,hc⟩;unfold eqIsQuiet;refine Za (YA hT F.slot_tuple_eq.lookup ?_)
  dsimp only;refine Za (Yv hT isSubtype_tuple_tuple ?_)
  simp only[Yl,Zx,ZY];refine Za (Yf ho hdat (Za ?_))
  simp only[Option.getD_some];rw[<-Array.forIn_toList];refine wpAny_forIn_list _ (fun rest b s'=>b.1=none/\s'=s/\∃left,left.all (bf k)=true/\RHs s.heap left rest) _ ?_ ?_ _ _ ⟨rfl,rfl,ds,hd',by simpa using hr⟩
  ·rintro v rest b s' hz9
   obtain⟨hb,rfl,left,hall,hl⟩:=hz9;cases left with
   |nil=>simp only[RHs]at hl;contradiction
   |cons d' left'=>
    simp only[RHs]at hl;obtain⟨v',r',e',r1,r2⟩:=hl;cases e';rw[List.all_cons,Zu]at hall;refine Za (ih k (by lia) d' v _ _ _ _ hall.1 r1 ?_)
    simp only[Yl,Zx,ZY];exact Zd ⟨rfl,rfl,left',hall.2,r2⟩
  ·rintro⟨b1,b2⟩ s' hz9
   obtain⟨hb,rfl,_⟩:=hz9;simp only at hb;subst hb;exact Zd hQ
 |_=>simp[bf]at hd
theorem yY:∀(ds es:List D),ds.length=es.length->((List.range ds.length).all fun j=>decide (ds[j]?=es[j]?))=decide (ds=es):=by
 intro ds es hl;rw[Ya,ZH,ZU];constructor
 ·intro h
  refine List.ext_getElem? fun j=>?_
  by_cases hj:j<ds.length
  ·exact ZF (h j (List.mem_range.mpr hj))
  ·rw[Z0 (by lia),Z0 (by lia)]
 ·rintro rfl j _
  exact Zw rfl
theorem wn (ds es:List D):(((List.range (min ds.length es.length)).all fun j=>decide (ds[j]?=es[j]?))&&ds.length==es.length)=decide (ds=es):=by
 by_cases hl:ds.length=es.length
 ·rw[hl,Nat.min_self,YH,Bool.and_true,<-hl,yY ds es hl]
 ·rw[show(ds.length==es.length)=false by simpa using hl,Bool.and_false,Zv fun z=>hl (by rw[z])]
open SeqAt in
theorem DQ {s:Shared}:∀(n:Nat) (d e:D) (u w:Value) (A:Around),bf n d=true->bf n e=true->A.units+n+1<cLine->RH s.heap d u->RH s.heap e w->EqAt A s u w (decide (d=e)):=by
 intro n
 induction n using Nat.strongRecOn with
 |ind n ih=>
 intro d e u w A hd he hA rd re;have hu:A.units<cLine:=by lia
 cases d with
 |int i=>
  simp only[RH]at rd;obtain⟨t',rfl⟩:=rd;cases e with
  |int j=>
   simp only[RH]at re;obtain⟨t,rfl⟩:=re;rw[show decide (D.int i=D.int j)=(i==j) by rw[Ya,ZU,beq_iff_eq,D.int.injEq]]
   exact EqAt.int_int i t' j t
  |str j=>simp only[RH]at re;obtain⟨t,rfl⟩:=re;rw[Zv (by intro z;contradiction)];exact EqAt.int_str i t' j t
  |tup es=>simp only[RH]at re;obtain⟨b,its,rfl,ht,_⟩:=re;rw[Zv (by intro z;contradiction)];exact EqAt.int_tuple i t' ht hu
  |_=>simp[bf]at he
 |str i=>
  simp only[RH]at rd;obtain⟨t',rfl⟩:=rd;cases e with
  |int j=>simp only[RH]at re;obtain⟨t,rfl⟩:=re;rw[Zv (by intro z;contradiction)];exact EqAt.str_int i t' j t
  |str j=>
   simp only[RH]at re;obtain⟨t,rfl⟩:=re;rw[show decide (D.str i=D.str j)=(i==j) by rw[Ya,ZU,beq_iff_eq,D.str.injEq]]
   exact EqAt.str_str i t' j t
  |tup es=>simp only[RH]at re;obtain⟨b,its,rfl,ht,_⟩:=re;rw[Zv (by intro z;contradiction)];exact EqAt.str_tuple i t' ht hu
  |_=>simp[bf]at he
 |tup ds=>
  have rd0:=rd;simp only[RH]at rd;obtain⟨a,its,rfl,hta,hr⟩:=rd;obtain⟨k,rfl,hd'⟩:=cS hd;cases e with
  |int j=>simp only[RH]at re;obtain⟨t,rfl⟩:=re;rw[Zv (by intro z;contradiction)];exact EqAt.tuple_int j t hta hu
  |str j=>simp only[RH]at re;obtain⟨t,rfl⟩:=re;rw[Zv (by intro z;contradiction)];exact EqAt.tuple_str j t hta hu
  |tup es=>
   have re0:=re;simp only[RH]at re;obtain⟨b,its2,rfl,htb,hr2⟩:=re;obtain⟨k',e',he'⟩:=cS he;cases e';have l1:=hr.length;have l2:=hr2.length
   by_cases hab:a=b
   ·subst hab
    rw[Zw (RH.inj rd0 re0)];exact EqAt.same _
   ·have el:∀j (h1:j<its.toArray.size) (h2:j<its2.toArray.size),EqAt A.in1 s its.toArray[j] its2.toArray[j] (decide (ds[j]?=es[j]?)):=fun j h1 h2=>by
     simp only[Zh]at h1 h2;obtain⟨d',hd1⟩:∃d',ds[j]?=some d':=⟨ds[j]'(by lia),by simp⟩
     obtain⟨e',he1⟩:∃e',es[j]?=some e':=⟨es[j]'(by lia),by simp⟩
     obtain⟨u',hu1,ru'⟩:=hr.get hd1;obtain⟨w',hw1,rw'⟩:=hr2.get he1;have q:=ih k (YI k) d' e' u' w' A.in1 ((ZH.mp hd') d' (ZQ hd1)) ((ZH.mp he') e' (ZQ he1)) (by show A.units+1+k+1<cLine;lia) ru' rw'
     have g1:its.toArray[j]=u':=by simpa using(List.getElem?_eq_some_iff.mp hu1).2
     have g2:its2.toArray[j]=w':=by simpa using(List.getElem?_eq_some_iff.mp hw1).2
     rw[g1,g2,hd1,he1,show decide (some d'=some e')=decide (d'=e') by simp]
     exact q
    have key:((List.range (min its.toArray.size its2.toArray.size)).all (fun j=>decide (ds[j]?=es[j]?))&&its.toArray.size==its2.toArray.size)=decide (D.tup ds=D.tup es):=by
     rw[Zh,Zh,<-l1,<-l2,wn];simp only[D.tup.injEq]
    have rc:=RcAt.tuples hta htb hu el;rw[key]at rc;exact EqAt.of_refs hab rc
  |_=>simp[bf]at he
 |_=>simp[bf]at hd
noncomputable def aU (P:Program) (w:World):HeapKind P w D where
 is h d a:=bf 8 d=true/\RH h d (.ref a)
 hash:=dN w
 draws:=dH
 room A:=A.units+30<cLine
 inj hx hy:=RH.inj hx.2 hy.2
 keeps:=fun{h h' k a d o es ep} hk ho hd hs=>⟨hk.1,hk.2.to fun b u g _ ⟨its,n,q⟩=>((hs.2 b (fun e=>by subst e;rw[ho]at g;obtain rfl:=Zb g;rw[hd]at q;contradiction)).trans g)⟩
 pyHash:=fun{A E s k a Q} hr hk h=>yQ 8 k _ A s Q E hk.1 (by lia) hk.2 h
 eqBool:=fun{A E s x y a b Q} hr hx hy h=>DQ 8 x y _ _ A hx.1 hy.1 (by lia) hx.2 hy.2 P w E Q h
 quiet:=fun{A E s k a Q} hk h=>xn 8 k _ A s Q E hk.1 hk.2 h
noncomputable def nL:Key->Value->Bool
 |.inl k,v=>Value.isInt k v
 |.inr x,v=>Value.isStrOf x v
noncomputable def DN (w:World):Key->Int
 |.inl k=>hashInt k
 |.inr x=>hashStr w x
theorem aJ:∀{k:Key}{v:Value},nL k v=true->(∃i t,k=Sum.inl i/\v=Value.int i t)\/(∃x t,k=Sum.inr x/\v=Value.str x t)
 |.inl i,v,h=>by
  obtain⟨t,e⟩:=Value.isInt_shape (k:=i) (v:=v) h;exact .inl ⟨i,t,rfl,e⟩
 |.inr x,v,h=>by
  obtain⟨t,e⟩:=Value.isStrOf_shape (x:=x) (v:=v) h;exact .inr ⟨x,t,rfl,e⟩
theorem oN (i:Int) (t:Tok):nL (.inl i) (.int i t)=true:=by simp[nL,Value.isInt]
theorem pA (x:Str) (t:Tok):nL (.inr x) (.str x t)=true:=by simp[nL,Value.isStrOf]
theorem zm (a b:Int):decide ((Sum.inl a:Key)=Sum.inl b)=(a==b):=by
 by_cases e:a=b
 ·subst e;simp
 ·have h:¬(Sum.inl a:Key)=Sum.inl b:=fun q=>e (Sum.inl.inj q)
  rw[Zv h];exact(beq_eq_false_iff_ne.mpr e).symm
theorem zJ (a b:Str):decide ((Sum.inr a:Key)=Sum.inr b)=decide (a=b):=by
 by_cases e:a=b
 ·subst e;simp
 ·have h:¬(Sum.inr a:Key)=Sum.inr b:=fun q=>e (Sum.inr.inj q)
  rw[Zv h,Zv e]
theorem yJ (a:Int) (b:Str):decide ((Sum.inl a:Key)=Sum.inr b)=false:=Zv (fun q=>nomatch q)
theorem zg (a:Str) (b:Int):decide ((Sum.inr a:Key)=Sum.inl b)=false:=Zv (fun q=>nomatch q)
noncomputable def bK (prog:Program) (w:World):PySem.KeyKind prog w Key where
 is:=nL
 hash:=DN w
 inj:=fun v a b ha hb=>by
  rcases aJ ha with⟨i,t,rfl,rfl⟩|⟨x,t,rfl,rfl⟩
  ·rcases aJ hb with⟨j,u,rfl,e⟩|⟨y,u,rfl,e⟩
   ·injection e with e1 _;rw[e1]
   ·exact nomatch e
  ·rcases aJ hb with⟨j,u,rfl,e⟩|⟨y,u,rfl,e⟩
   ·exact nomatch e
   ·injection e with e1 _;rw[e1]
 byValue:=fun k v h=>by
  rcases aJ h with⟨i,t,rfl,rfl⟩|⟨x,t,rfl,rfl⟩<;>rfl
 pyHash:=fun hv h=>by
  rcases aJ hv with⟨i,t,rfl,rfl⟩|⟨x,t,rfl,rfl⟩
  ·exact wpAny_pyHash_int h
  ·exact wpAny_pyHash_str h
 eqBool:=fun hu hv h=>by
  rcases aJ hu with⟨i,t,rfl,rfl⟩|⟨x,t,rfl,rfl⟩
  ·rcases aJ hv with⟨j,u,rfl,rfl⟩|⟨y,u,rfl,rfl⟩
   ·rw[zm]at h;exact wpAny_eqBool_int h
   ·rw[yJ]at h;exact SeqAt.EqAt.int_str i t y u _ _ _ _ h
  ·rcases aJ hv with⟨j,u,rfl,rfl⟩|⟨y,u,rfl,rfl⟩
   ·rw[zg]at h;exact SeqAt.EqAt.str_int x t j u _ _ _ _ h
   ·rw[zJ]at h;exact wpAny_eqBool_str h
 «strs»:=fun k x t v h=>by
  rcases aJ h with⟨i,u,rfl,e⟩|⟨y,u,rfl,e⟩
  ·exact nomatch e
  ·injection e with e1 _
   subst e1;cases v<;>rfl
theorem kW (prog:Program) (w:World) (i:Int) (t:Tok):(bK prog w).is (.inl i) (.int i t)=true:=oN i t
theorem ln (prog:Program) (w:World) (x:Str) (t:Tok):(bK prog w).is (.inr x) (.str x t)=true:=pA x t
inductive V where
 |non|bl (b:Bool)|int (i:Int)|str (x:Str)|byt (b:Array UInt8)|flt (b:UInt64)|ref (a:Addr)|ty (n:String)
 deriving DecidableEq
noncomputable def RelV:V->Value->Prop
 |.non,u=>u=Value.none
 |.bl b,u=>u=Value.bool b
 |.int i,u=>∃t,u=Value.int i t
 |.str x,u=>∃t,u=Value.str x t
 |.byt b,u=>∃t,u=Value.bytes b t
 |.flt b,u=>∃t,u=Value.float b t
 |.ref a,u=>u=Value.ref a
 |.ty n,u=>u=Value.type n
noncomputable abbrev Vals:List V->List Value->Prop:=Paired RelV
theorem Vals.length {xs:List V}{us:List Value}(r:Vals xs us):xs.length=us.length:=Ye r
theorem Vals.get {xs:List V}{us:List Value}{i:Nat}{x:V}(h:Vals xs us) (e:xs[i]?=some x):∃u,us[i]?=some u/\RelV x u:=by
 induction h generalizing i with
 |nil=>simp at e
 |cons r t ih=>
  cases i with
  |zero=>simp at e;subst e;exact⟨_,rfl,r⟩
  |succ i=>
   obtain⟨u,h1,h2⟩:=ih (i:=i) (by simpa using e)
   exact⟨u,by simpa using h1,h2⟩
theorem Vals.append {xs ys:List V}{us ws:List Value}(h:Vals xs us) (s:Vals ys ws):Vals (xs++ys) (us++ws):=by
 induction h with
 |nil=>exact s
 |cons r t ih=>exact .cons r ih
theorem Vals.take {xs:List V}{us:List Value}(n:Nat) (h:Vals xs us):Vals (xs.take n) (us.take n):=by
 induction h generalizing n with
 |nil=>cases n<;>exact .nil
 |cons r t ih=>
  cases n with
  |zero=>exact .nil
  |succ n=>exact .cons r (ih n)
theorem Vals.drop {xs:List V}{us:List Value}(n:Nat) (h:Vals xs us):Vals (xs.drop n) (us.drop n):=by
 induction h generalizing n with
 |nil=>cases n<;>exact .nil
 |cons r t ih=>
  cases n with
  |zero=>exact .cons r t
  |succ n=>exact ih n
noncomputable def RelO:Option V->Option Value->Prop
 |some v,some u=>RelV v u
 |none,none=>True
 |_,_=>False
noncomputable def KV {κ:Type}:List (κ×V)->List (κ×Value)->Prop:=Paired fun(p:κ×V) (q:κ×Value)=>p.1=q.1/\RelV p.2 q.2
noncomputable def kV:Key->V
 |.inl i=>.int i
 |.inr x=>.str x
inductive HO where
 |lst (xs:List V)
 |tup (xs:List V)
 |dK (kvs:List (Key×V))|dD (kvs:List (D×V)) (ep:Nat)
 |own (x:Addr)
 |rng (lo hi:Int)
 |frz (o:Obj) (u:HO)
 |tbl (lq:Str) (ps:Array Value)
 |ext (φ:Heap->Prop)
noncomputable abbrev Hp:=Addr->Option HO
noncomputable def upd (H:Hp) (a:Addr) (o:HO):Hp:=fun b=>if b=a then some o else H b
theorem af {H:Hp}{a:Addr}{o:HO}:upd H a o a=some o:=by unfold upd;rw[Zm rfl]
theorem ai {H:Hp}{a b:Addr}{o:HO}(h:b≠a):upd H a o b=H b:=by unfold upd;rw[Zo h]
theorem qR {H:Hp}{a:Addr}{o u:HO}:upd (upd H a o) a u=upd H a u:=by
 funext b;unfold upd;split<;>rfl
theorem k7 {H:Hp}{a b:Addr}{o u:HO}(h:H a=some o) (h':H b=some u) (d:o≠u):a≠b:=by
 intro e;subst e;rw[h]at h';exact d (Zb h')
theorem av {H:Hp}{a b:Addr}{o:HO}(h:H a=some o) (h':H b=none):a≠b:=by
 intro e;subst e;rw[h]at h';contradiction
mutual
noncomputable def KR (H:Hp):D->V->Prop
 |.int i,v=>v=.int i
 |.str x,v=>v=.str x
 |.tup ds,v=>∃a xs,v=.ref a/\H a=some (.tup xs)/\KRs H ds xs
 |_,_=>False
noncomputable def KRs (H:Hp):List D->List V->Prop
 |[],xs=>xs=[]
 |d::ds,xs=>∃x r,xs=x::r/\KR H d x/\KRs H ds r
end
mutual
theorem KR.to {H H':Hp}(t:∀a xs,H a=some (.tup xs)->H' a=some (.tup xs)):∀{d:D}{v:V},KR H d v->KR H' d v
 |.int i,v,r=>by simp only[KR]at r⊢;exact r
 |.str i,v,r=>by simp only[KR]at r⊢;exact r
 |.tup ds,v,r=>by
  simp only[KR]at r⊢;obtain⟨a,xs,e,g,rs⟩:=r;exact⟨a,xs,e,t a xs g,KRs.to t rs⟩
 |.non,v,r=>by simp only[KR]at r
 |.bl _,v,r=>by simp only[KR]at r
 |.lst _,v,r=>by simp only[KR]at r
 |.dK _ _,v,r=>by simp only[KR]at r
 |.dD _ _,v,r=>by simp only[KR]at r
theorem KRs.to {H H':Hp}(t:∀a xs,H a=some (.tup xs)->H' a=some (.tup xs)):∀{ds:List D}{xs:List V},KRs H ds xs->KRs H' ds xs
 |[],xs,r=>by simp only[KRs]at r⊢;exact r
 |d::ds,xs,r=>by
  simp only[KRs]at r⊢;obtain⟨x,q,e,r1,r2⟩:=r;exact⟨x,q,e,KR.to t r1,KRs.to t r2⟩
end
noncomputable def DPairs (H:Hp):List (D×V)->List (D×Addr×Value)->Prop:=Paired fun p q=>p.1=q.1/\bf 8 p.1=true/\KR H p.1 (.ref q.2.1)/\RelV p.2 q.2.2
section
variable(P:Program) (w:World)
noncomputable def ObjOk (H:Hp) (h:Heap) (a:Addr):HO->Prop
 |.lst xs=>xs.length<=sizeLine/\∃(its:List Value) (n:Nat),Vals xs its/\h.get? a=some {cls:=.type "list",data:=.seq its.toArray n}
 |.tup xs=>xs.length<=sizeLine/\∃its:List Value,Vals xs its/\IsTup h a its.toArray
 |.dK kvs=>kvs.length<=sizeLine/\(a==sysModules)=false/\∃vs,KV kvs vs/\h.DictOf (bK P w) a vs
 |.dD kvs ep=>kvs.length<=sizeLine/\(a==sysModules)=false/\∃xs,DPairs H kvs xs/\
   ∃o es,h.get? a=some o/\o.ExactDict/\o.data=.dict es ep/\es.toList=xs.map (entryOfKey (aU P w))/\(xs.map (·.1)).Nodup
 |.own _=>∃o,h.get? a=some o
 |.rng lo hi=>∃t u v,h.get? a=some {cls:=.type "range",data:=.fields #[.int lo t,.int hi u,.int 1 v]}
 |.frz o u=>h.get? a=some o/\ObjOk H h a u
 |.tbl lq ps=>h.get? a=some {cls:=.none,data:=.fields ps}/\TriplesOk ps.toList/\∀pos cv,codeAmong pos ps.toList=some cv->
   ∃c' oc vs t,cv=.ref c'/\H c'=some (.own a)/\h.get? c'=some oc/\oc.data=.fields vs/\vs[1]?=some (.str lq t)
 |.ext φ=>φ h/\(∃o,h.get? a=some o)/\∀h1 h2:Heap,φ h1->(∀o,h1.get? a=some o->h2.get? a=some o)->φ h2
noncomputable def HOk (H:Hp) (h:Heap):Prop:=∀a o,H a=some o->ObjOk P w H h a o
end
section
variable{P:Program}{w:World}{H H':Hp}{h h':Heap}{a:Addr}{o:HO}
theorem ObjOk.lt (x:ObjOk P w H h a o):a<h.objs.size:=by
 cases o with
 |lst xs=>obtain⟨_,_,_,_,e⟩:=x;exact Zi e
 |tup xs=>obtain⟨_,_,_,p⟩:=x;exact p.lt
 |dK kvs=>obtain⟨_,_,_,_,o,_,_,e,_⟩:=x;exact Zi e
 |dD kvs ep=>obtain⟨_,_,_,_,o,_,e,_⟩:=x;exact Zi e
 |own y=>obtain⟨_,e⟩:=x;exact Zi e
 |rng lo hi=>obtain⟨_,_,_,e⟩:=x;exact Zi e
 |frz ob u=>obtain⟨e,_⟩:=x;exact Zi e
 |tbl lq ps=>exact Zi x.1
 |ext φ=>obtain⟨_,⟨_,e⟩,_⟩:=x;exact Zi e
theorem Paired.mapP {α β:Type}{F G:α->β->Prop}{l₁:List α}{l₂:List β}(h:Paired F l₁ l₂) (f:∀a b,F a b->G a b):Paired G l₁ l₂:=by
 induction h with
 |nil=>exact .nil
 |cons r t ih=>exact .cons (f _ _ r) ih
theorem ObjOk.stay (x:ObjOk P w H h a o) (k:∀b u,(b=a\/H b=some (.own a))->h.get? b=some u->h'.get? b=some u)
  (ho:∀b,H b=some (.own a)->H' b=some (.own a)) (ht:∀b xs,H b=some (.tup xs)->H' b=some (.tup xs)):ObjOk P w H' h' a o:=by
 induction o with
 |lst xs=>obtain⟨z,its,n,r,e⟩:=x;exact⟨z,its,n,r,k _ _ (.inl rfl) e⟩
 |tup xs=>obtain⟨z,its,r,ob,e,c⟩:=x;exact⟨z,its,r,ob,k _ _ (.inl rfl) e,c⟩
 |dK kvs=>obtain⟨z,y,vs,r,ob,es,ep,e,c⟩:=x;exact⟨z,y,vs,r,ob,es,ep,k _ _ (.inl rfl) e,c⟩
 |dD kvs ep=>
  obtain⟨z,y,xs,r,ob,es,e,c⟩:=x;exact⟨z,y,xs,Paired.mapP r fun p q z=>⟨z.1,z.2.1,KR.to ht z.2.2.1,z.2.2.2⟩,ob,es,k _ _ (.inl rfl) e,c⟩
 |own y=>obtain⟨ob,e⟩:=x;exact⟨ob,k _ _ (.inl rfl) e⟩
 |rng lo hi=>obtain⟨t,u,v,e⟩:=x;exact⟨t,u,v,k _ _ (.inl rfl) e⟩
 |frz ob u ih=>obtain⟨e,q⟩:=x;exact⟨k _ _ (.inl rfl) e,ih q⟩
 |tbl lq ps=>
  obtain⟨e,tr,r⟩:=x;refine⟨k _ _ (.inl rfl) e,tr,fun pos cv q=>?_⟩
  obtain⟨c',oc,vs,t,e1,e2,e3,e4⟩:=r pos cv q;exact⟨c',oc,vs,t,e1,ho _ e2,k _ _ (.inr e2) e3,e4⟩
 |ext φ=>obtain⟨p,⟨o,e⟩,st⟩:=x;exact⟨st _ _ p fun o q=>k _ _ (.inl rfl) q,⟨o,k _ _ (.inl rfl) e⟩,st⟩
theorem HOk.lt (x:HOk P w H h) (e:H a=some o):a<h.objs.size:=(x a o e).lt
theorem HOk.fresh (x:HOk P w H h) (e:h.objs.size<=a):H a=none:=by
 cases q:H a with
 |none=>rfl
 |some u=>exact absurd (Zr (x.lt q) e) (ZR _)
theorem HOk.kept (x:HOk P w H h) (k:∀b u,h.get? b=some u->h'.get? b=some u):HOk P w H h':=fun a o e=>
 (x a o e).stay (fun b u y q=>k b u q) (fun y q=>q) fun y y q=>q
theorem HOk.laid (x:HOk P w H h) (k:∀b u,h.get? b=some u->h'.get? b=some u) (hp:h.objs.size<=a) (new:ObjOk P w (upd H a o) h' a o):HOk P w (upd H a o) h':=fun b u e=>by
 have hn:=x.fresh hp
 by_cases hb:b=a
 ·subst hb;rw[af]at e;obtain rfl:=Zb e;exact new
 ·rw[ai hb]at e
  exact(x b u e).stay (fun c v y q=>k c v q) (fun c q=>by rw[ai (av q hn)];exact q) fun c xs q=>by rw[ai (av q hn)];exact q
end
noncomputable def Rd (H:Hp) (a:Addr) (u:HO):Prop:=H a=some u\/∃o,H a=some (.frz o u)
theorem Rd.ok {P:Program}{w:World}{H:Hp}{h:Heap}{a:Addr}{u:HO}(r:Rd H a u) (x:HOk P w H h):ObjOk P w H h a u:=by
 rcases r with r|⟨o,r⟩
 ·exact x a u r
 ·obtain⟨_,q⟩:=x a _ r
  exact q
noncomputable def Mut:Option HO->Prop
 |some (.lst _)=>True
 |some (.dK _)=>True
 |some (.dD _ _)=>True
 |some (.ext _)=>True
 |_=>False
section
variable{P:Program}{w:World}{H:Hp}{h h':Heap}{x e:Addr}{o':HO}
theorem HOk.write (ok:HOk P w H h) (mu:Mut (H x)) (he:e=x\/H e=some (.own x)) (k:∀b u,b≠e->h.get? b=some u->h'.get? b=some u) (heo:∃u,h'.get? e=some u)
  (new:ObjOk P w (upd H x o') h' x o'):HOk P w (upd H x o') h':=fun b u q=>by
 have nown:∀c y,H c=some (.own y)->c≠x:=fun c y r z=>by subst z;rw[r]at mu;exact mu
 have ntup:∀c xs,H c=some (.tup xs)->c≠x:=fun c xs r z=>by subst z;rw[r]at mu;exact mu
 by_cases hb:b=x
 ·subst hb;rw[af]at q;obtain rfl:=Zb q;exact new
 ·rw[ai hb]at q
  by_cases hbe:b=e
  ·have q':H b=some (.own x):=by
    rcases he with z|z
    ·exact absurd (hbe.trans z) hb
    ·rw[hbe];exact z
   rw[q]at q';obtain rfl:=Zb q';obtain⟨v,hv⟩:=heo;exact⟨v,by rw[hbe];exact hv⟩
  ·refine(ok b u q).stay (fun c v hc r=>k c v ?_ r) (fun c r=>by rw[ai (nown c b r)];exact r) fun c xs r=>by rw[ai (ntup c xs r)];exact r
   rcases hc with rfl|hc
   ·exact hbe
   ·rintro rfl
    rcases he with z|z
    ·exact nown c b hc z
    ·rw[hc]at z;cases z;exact hb rfl
end
structure Un (fs ex:List Addr) (H H':Hp) (h h':Heap):Prop where
 keep:∀b o,h.get? b=some o->H b=none->b∉fs->b∉ex->h'.get? b=some o
 slot:∀b o,h.get? b=some o->H b=none->b∈fs->b∉ex->∃sl,h'.get? b=some {o with slots:=sl}
 free:∀b o,h.get? b=some o->H b=none->b∉ex->H' b=none
 there:∀b o,h.get? b=some o->b∉ex->∃o',h'.get? b=some o'
 tups:∀b xs,H b=some (.tup xs)->H' b=some (.tup xs)
 frzs:∀b o u,H b=some (.frz o u)->H' b=some (.frz o u)
 tbls:∀b lq ps,H b=some (.tbl lq ps)->∃more,H' b=some (.tbl lq (ps++more))
section
variable{fs fs' ex ex':List Addr}{H H1 H2:Hp}{h h1 h2 h':Heap}{a x e:Addr}{o:HO}
theorem Un.any (u:Un fs ex H H1 h h1) {b:Addr}{ob:Obj}(q:h.get? b=some ob) (n:H b=none) (hx:b∉ex):∃sl,h1.get? b=some {ob with slots:=sl}:=by
 by_cases hb:b∈fs
 ·exact u.slot b ob q n hb hx
 ·exact⟨ob.slots,u.keep b ob q n hb hx⟩
theorem Un.kept (k:∀b u,h.get? b=some u->h'.get? b=some u):Un fs ex H H h h':=
 ⟨fun b ob q y y y=>k b ob q,fun b ob q y y y=>⟨ob.slots,k b ob q⟩,fun y y y n y=>n,fun b ob q y=>⟨ob,k b ob q⟩,fun y y q=>q,fun y y y q=>q,fun y lq ps q=>⟨#[],by rw[q];simp⟩⟩
theorem Un.refl:Un fs ex H H h h:=Un.kept fun y y q=>q
theorem Un.laid (k:∀b u,h.get? b=some u->h'.get? b=some u) (hp:h.objs.size<=a) (hn:H a=none):Un fs ex H (upd H a o) h h' where
 keep:=fun b u q y y y=>k b u q
 slot:=fun b u q y y y=>⟨u.slots,k b u q⟩
 free:=fun b u q n y=>by rw[ai (Zy (Zr (Zi q) hp))];exact n
 there:=fun b u q y=>⟨u,k b u q⟩
 tups:=fun b xs q=>by rw[ai (av q hn)];exact q
 frzs:=fun b u xs q=>by rw[ai (av q hn)];exact q
 tbls:=fun b lq ps q=>⟨#[],by rw[ai (av q hn),q];simp⟩
theorem Un.write (mu:Mut (H x)) (he:e=x\/H e=some (.own x)) (k:∀b u,b≠e->h.get? b=some u->h'.get? b=some u) (heo:∃u,h'.get? e=some u):Un fs ex H (upd H x o) h h':=by
 have hx:∀b,H b=none->b≠x:=fun b n z=>by subst z;rw[n]at mu;exact mu
 have hb:∀b,H b=none->b≠e:=fun b n z=>by
  subst z
  rcases he with r|r
  ·exact hx b n r
  ·rw[n]at r;contradiction
 have hm:∀b u,H b=some u->¬Mut (some u)->b≠x:=fun b u q nm z=>by subst z;rw[q]at mu;exact nm mu
 refine⟨fun b u q n y y=>k b u (hb b n) q,fun b u q n y y=>⟨u.slots,k b u (hb b n) q⟩,fun b u q n y=>by rw[ai (hx b n)];exact n,fun b u q y=>?_,
  fun b xs q=>by rw[ai (hm b _ q fun z=>z)];exact q,fun b u xs q=>by rw[ai (hm b _ q fun z=>z)];exact q,fun b lq ps q=>⟨#[],by rw[ai (hm b _ q fun z=>z),q];simp⟩⟩
 by_cases hbe:b=e
 ·subst hbe;exact heo
 ·exact⟨u,k b u hbe q⟩
end
noncomputable def trk (h:Heap) (H:Hp):List Addr:=(List.range h.objs.size).filter fun a=>(H a).isSome
noncomputable def uH (h:Heap) (H:Hp):Heap:=PySem.W.hideAll h (trk h H)
theorem oR (h:Heap) (H:Hp):(uH h H).objs.size=h.objs.size:=PySem.W.hideAll_size _ _
theorem tm {h:Heap}{H:Hp}{b:Addr}{o:Obj}(e:h.get? b=some o) (n:H b=none):(uH h H).get? b=some o:=
 PySem.W.hideAll_get _ e fun hm=>by
  have q:(H b).isSome=true:=(List.mem_filter.mp hm).2;rw[n]at q;simp at q
theorem xH {h:Heap}{H:Hp}{b:Addr}{o:Obj}(e:(uH h H).get? b=some o):h.get? b=some o/\H b=none:=by
 have e':h.get? b=some o:=PySem.W.of_hideAll (trk h H) e;refine⟨e',?_⟩
 cases q:H b with
 |none=>rfl
 |some x=>
  have hm:b∈trk h H:=List.mem_filter.mpr ⟨List.mem_range.mpr (Zi e'),by simp[q]⟩
  have z:(uH h H).get? b=none:=PySem.W.hideAll_none (trk h H) hm;rw[z]at e;contradiction
noncomputable def xw (g h:Heap) (L:Addr):List (Addr×Obj):=(List.range h.objs.size).filterMap fun a=>if a=L\/(g.get? a).isSome=true then none else(h.get? a).map fun o=>(a,o)
noncomputable def rest (g h:Heap) (L d:Addr):List (Addr×Obj):=(xw g h L).filter fun p=>decide (p.1≠d)
structure Mod (K:PySem.W.Frag) (mg:Str->Option Value) (base:Heap):Prop where
 kin:K.In base
 glob:base.Ns mainGlobals mg
 blt:∃mb,base.Ns builtinsNs mb/\∀x:Str,x≠"__name__"->mb x=bootBuiltins x
 nolimit:base.NoLimit
 bmain:∃bm ob,mg "__builtins__"=some (.ref bm)/\bm≠builtinsNs/\base.get? bm=some ob/\ob.cls=.type "module"/\ob.dict=some builtinsNs/\ob.data=.plain
structure Cx where
 prog:Program
 w:World
 K:PySem.W.Frag
 mg:Str->Option Value
 base:Heap
 A:Around
 N:List Str
 s₀:Shared
 H₀:Hp
 env:Env
 outer:List Env
 stack:List Env
 ex:List Addr
 fn:Str->Bool
 calm:Bool
 pn:List (Addr×Obj)
 xe:Value->Shared->Prop
noncomputable def frs (l:List Env):List Addr:=l.filterMap (·.frame)
noncomputable abbrev Cx.fs (X:Cx):List Addr:=frs X.outer
noncomputable def Vis (sc:Scope) (x:Str):Prop:=sc.names.lookup x=some .local\/sc.names.lookup x=some .cell\/sc.names.lookup x=some .free
noncomputable def Loc (sc:Scope) (x:Str):Prop:=sc.names.lookup x=some .local\/sc.names.lookup x=some .cell
noncomputable def Dy (env:Env) (h:Heap) (m:Str->Option Value) (x:Str) (u:Value):Prop:=
 (env.kindOf x=some .local/\m x=some u)\/((env.kindOf x=some .cell\/env.kindOf x=some .free)/\∃c,env.cells.lookup x=some c/\h.IsCell c (some u))
noncomputable def Lams.tb:List (Addr×Str):=[(43,"search_order.<locals>.<lambda>")]
noncomputable def TabH (H:Hp):Prop:=∀q∈Lams.tb,∃ps,H q.1=some (.tbl q.2 ps)
theorem TabH.to {H H':Hp}(h:TabH H) (tb:∀b lq ps,H b=some (.tbl lq ps)->∃more,H' b=some (.tbl lq (ps++more))):TabH H':=fun q hq=>by
 obtain⟨ps,e⟩:=h q hq;obtain⟨m,e'⟩:=tb _ _ _ e;exact⟨_,e'⟩
structure Cx.Ok (X:Cx):Prop where
 mod:Mod X.K X.mg X.base
 kind:X.env.scope.kind=.function
 glob:X.env.globals=mainGlobals
 blt:X.env.builtins=builtinsNs
 above:X.s₀.heap.objs.size<=X.env.locals
 inj:∀x y c,X.env.cells.lookup x=some c->X.env.cells.lookup y=some c->x=y
 has:∀x,(X.env.kindOf x=some .cell\/X.env.kindOf x=some .free)->∃c,X.env.cells.lookup x=some c
 cab:∀x c,X.fn x=true->X.env.cells.lookup x=some c->X.s₀.heap.objs.size<=c
 hd:X.calm=true->X.A.handled=none
 frames:X.A.frames=some X.stack
 stk:X.stack=X.outer\/(X.stack=X.env::X.outer/\X.env.frame=some X.env.locals)
 exf:∀b∈X.ex,b≠X.env.locals/\∀x c,X.env.cells.lookup x=some c->c≠b
 bs:∀b o,X.base.get? b=some o->X.s₀.heap.get? b=some o/\X.H₀ b=none
 bsz:X.base.objs.size<=X.s₀.heap.objs.size
 noex:∀b o,X.base.get? b=some o->b∉X.ex
 exfs:∀b∈X.ex,b∉X.fs
 funs:X.s₀.heap.FunFrames X.base X.outer
 frf:∀b∈X.fs,X.H₀ b=none
 tabs:TabH X.H₀
structure Inv (X:Cx) (pins:List (Addr×Obj)) (σ:List (Option V)) (H:Hp) (s:Shared):Prop where
 ok:X.Ok
 os:s.os=X.s₀.os
 bare:AllBare s.gens
 base:Un X.fs X.ex X.H₀ H X.s₀.heap s.heap
 loc:∃m,s.heap.Ns X.env.locals m/\∀(i:Nat) (x:Str) (v:V),X.N[i]?=some x->σ[i]?=some (some v)->Vis X.env.scope x->∃u,RelV v u/\Dy X.env s.heap m x u
 cell:∀x c,X.env.cells.lookup x=some c->∃v,s.heap.IsCell c v
 free:H X.env.locals=none
 freeC:∀x c,X.env.cells.lookup x=some c->H c=none
 pin:∀p∈X.pn++pins,s.heap.get? p.1=some p.2/\H p.1=none/\p.1≠X.env.locals/\p.1∉X.fs/\∀v,p.2.data≠.cell v
 hok:HOk X.prog X.w H s.heap
 len:σ.length=X.N.length
section
variable{X:Cx}{pins:List (Addr×Obj)}{σ:List (Option V)}{H H':Hp}{s:Shared}{h':Heap}
theorem Cx.Ok.nofr (ok:X.Ok) {b:Addr}{o:Obj}(e:X.base.get? b=some o):b∉X.fs:=fun hb=>by
 have:=(ok.funs.mem hb).1;rw[e]at this;contradiction
theorem Inv.bs (I:Inv X pins σ H s):∀b o,X.base.get? b=some o->s.heap.get? b=some o/\H b=none:=fun b o e=>
 ⟨I.base.keep b o (I.ok.bs b o e).1 (I.ok.bs b o e).2 (I.ok.nofr e) (I.ok.noex b o e),I.base.free b o (I.ok.bs b o e).1 (I.ok.bs b o e).2 (I.ok.noex b o e)⟩
theorem Inv.bk (I:Inv X pins σ H s):∀b o,X.base.get? b=some o->s.heap.get? b=some o:=fun b o e=>(I.bs b o e).1
theorem Inv.mod (I:Inv X pins σ H s):Mod X.K X.mg X.base:=I.ok.mod
theorem Inv.kIn (I:Inv X pins σ H s):X.K.In s.heap:=I.ok.mod.kin.keeps I.bk
theorem Inv.lt (I:Inv X pins σ H s):X.env.locals<s.heap.objs.size:=by obtain⟨_,hn,_⟩:=I.loc;exact hn.lt
theorem Inv.sz (I:Inv X pins σ H s):X.s₀.heap.objs.size<=s.heap.objs.size:=ZM I.ok.above (Nat.le_of_lt I.lt)
theorem Inv.nofs (I:Inv X pins σ H s) {a:Addr}(h:s.heap.objs.size<=a):a∉X.fs:=fun hb=>by
 obtain⟨_,o,ho,_⟩:=I.ok.funs.mem hb;exact absurd (Zr (Zi ho) (ZM I.sz h)) (ZR _)
theorem Inv.cne (I:Inv X pins σ H s):∀x c,X.env.cells.lookup x=some c->c≠X.env.locals:=fun x c e z=>by
 obtain⟨v,o,ho,hd⟩:=I.cell x c e;obtain⟨m,⟨o',es,ep,ho',hd',_⟩,_⟩:=I.loc;rw[z,ho']at ho;obtain rfl:=Zb ho;rw[hd']at hd;contradiction
theorem Inv.funs (I:Inv X pins σ H s):s.heap.FunFrames X.base X.outer:=by
 have all:∀(l:List Env),(∀b∈frs l,b∈X.fs)->X.s₀.heap.FunFrames X.base l->s.heap.FunFrames X.base l:=by
  intro l
  induction l with
  |nil=>intro _ _;trivial
  |cons env r ih=>
   intro hs hl;obtain⟨hk,⟨L,o,hf,hn,ho,hd⟩,hr⟩:=hl;have hL:L∈X.fs:=hs L (by unfold frs;rw[List.filterMap_cons,hf];exact Zg)
   obtain⟨sl,e⟩:=I.base.slot L o ho (I.ok.frf L hL) hL fun z=>I.ok.exfs L z hL
   exact⟨hk,⟨L,_,hf,hn,e,hd⟩,ih (fun b hb=>hs b (by unfold frs;rw[List.filterMap_cons,hf];exact Ze _ hb)) hr⟩
 exact all X.outer (fun y hb=>hb) I.ok.funs
theorem Inv.stack (I:Inv X pins σ H s):s.heap.FunFrames X.base X.stack:=by
 rcases I.ok.stk with e|⟨e,hf⟩
 ·rw[e];exact I.funs
 ·rw[e]
  obtain⟨m,hn,_⟩:=I.loc;refine .cons (by rw[I.ok.kind];decide) hf hn ?_ I.funs
  exact Heap.get?_none_of_le (ZM I.ok.bsz I.ok.above)
theorem Inv.stkSub (I:Inv X pins σ H s):∀b∈frs X.stack,b∈X.env.locals::X.fs:=fun b hb=>by
 rcases I.ok.stk with e|⟨e,hf⟩
 ·rw[e]at hb;exact Ze _ hb
 ·rw[e]at hb
  unfold frs at hb;rw[List.filterMap_cons,hf]at hb;exact hb
theorem Inv.stkFree (I:Inv X pins σ H s):∀b∈frs X.stack,H b=none:=fun b hb=>by
 rcases ZA.mp (I.stkSub b hb)with e|hb
 ·rw[e];exact I.free
 ·obtain⟨_,o,ho,_⟩:=I.ok.funs.mem hb
  exact I.base.free b o ho (I.ok.frf b hb) fun z=>I.ok.exfs b z hb
theorem Inv.step {g':Array GenState}{t':Nat}{d':Drawn}{ch:List Addr}(I:Inv X pins σ H s)
  (hch:∀b∈ch,(b∈X.ex\/X.s₀.heap.objs.size<=b)/\b≠X.env.locals/\(∀x c,X.env.cells.lookup x=some c->c≠b)/\∀p∈X.pn++pins,p.1≠b)
  (keep:∀b o,b≠X.env.locals->b∉X.fs->b∉ch->s.heap.get? b=some o->H b=none->h'.get? b=some o)
  (slot:∀b o,b≠X.env.locals->b∈X.fs->b∉ch->s.heap.get? b=some o->H b=none->∃sl,h'.get? b=some {o with slots:=sl}) (free:∀b o,b∉ch->s.heap.get? b=some o->H b=none->H' b=none)
  (there:∀b o,b∉ch->s.heap.get? b=some o->∃o',h'.get? b=some o')
  (tups:∀b xs,H b=some (.tup xs)->H' b=some (.tup xs)) (frzs:∀b o u,H b=some (.frz o u)->H' b=some (.frz o u)) (tbls:∀b lq ps,H b=some (.tbl lq ps)->∃more,H' b=some (.tbl lq (ps++more)))
  (ns:∀m,s.heap.Ns X.env.locals m->h'.Ns X.env.locals m) (hok:HOk X.prog X.w H' h') (hg:AllBare g'):
  Inv X pins σ H' {s with heap:=h',gens:=g',drawn:=d',toks:=t'}:=by
 have neL:∀b o,X.s₀.heap.get? b=some o->b≠X.env.locals:=fun b o e=>Zy (Zr (Zi e) I.ok.above)
 have neC:∀b o,X.s₀.heap.get? b=some o->b∉X.ex->b∉ch:=fun b o e hx hb=>by
  rcases(hch b hb).1 with z|z
  ·exact hx z
  ·exact absurd (Zr (Zi e) z) (ZR _)
 have cellK:∀x c,X.env.cells.lookup x=some c->∀v,s.heap.IsCell c v->h'.IsCell c v:=fun x c e v hz=>by
  obtain⟨o,ho,hd⟩:=hz;have nch:c∉ch:=fun z=>(hch c z).2.2.1 x c e rfl
  by_cases hc:c∈X.fs
  ·obtain⟨sl,q⟩:=slot c o (I.cne x c e) hc nch ho (I.freeC x c e)
   exact⟨_,q,hd⟩
  ·exact⟨o,keep c o (I.cne x c e) hc nch ho (I.freeC x c e),hd⟩
 refine⟨I.ok,I.os,hg,⟨fun b o e n hb hx=>?_,fun b o e n hb hx=>?_,fun b o e n hx=>?_,fun b o e hx=>?_,fun b xs e=>tups b xs (I.base.tups b xs e),fun b o xs e=>frzs b o xs (I.base.frzs b o xs e),fun b lq ps e=>?_⟩,?_,fun x c e=>?_,?_,fun x c e=>?_,fun p hp=>?_,hok,I.len⟩
 ·exact keep b o (neL b o e) hb (neC b o e hx) (I.base.keep b o e n hb hx) (I.base.free b o e n hx)
 ·obtain⟨sl,e1⟩:=I.base.slot b o e n hb hx
  obtain⟨sl',e2⟩:=slot b _ (neL b o e) hb (neC b o e hx) e1 (I.base.free b o e n hx);exact⟨sl',e2⟩
 ·obtain⟨o',e1⟩:=I.base.there b o e hx
  exact free b o' (neC b o e hx) e1 (I.base.free b o e n hx)
 ·obtain⟨o',e1⟩:=I.base.there b o e hx
  exact there b o' (neC b o e hx) e1
 ·obtain⟨m1,e1⟩:=I.base.tbls b lq ps e
  obtain⟨m2,e2⟩:=tbls b lq _ e1;exact⟨m1++m2,by rw[e2,Array.append_assoc]⟩
 ·obtain⟨m,hn,hl⟩:=I.loc
  refine⟨m,ns m hn,fun i x v e1 e2 e3=>?_⟩
  obtain⟨u,r,l⟩:=hl i x v e1 e2 e3;refine⟨u,r,?_⟩
  rcases l with l|⟨k,c,e,z⟩
  ·exact .inl l
  ·exact .inr ⟨k,c,e,cellK x c e _ z⟩
 ·obtain⟨v,z⟩:=I.cell x c e
  exact⟨v,cellK x c e v z⟩
 ·obtain⟨m,⟨o,_,_,ho,_⟩,_⟩:=I.loc
  exact free _ o (fun z=>(hch _ z).2.1 rfl) ho I.free
 ·obtain⟨v,o,ho,hd⟩:=I.cell x c e
  exact free c o (fun z=>(hch c z).2.2.1 x c e rfl) ho (I.freeC x c e)
 ·obtain⟨e,n,ne,nf,d⟩:=I.pin p hp
  have nch:p.1∉ch:=fun z=>(hch p.1 z).2.2.2 p hp rfl
  exact⟨keep p.1 p.2 ne nf nch e n,free p.1 p.2 nch e n,ne,nf,d⟩
theorem Inv.un {t':Nat}(I:Inv X pins σ H s) (u:Un X.fs [] H H' s.heap h') (hok:HOk X.prog X.w H' h'):Inv X pins σ H' {s with heap:=h',toks:=t'}:=by
 obtain⟨m,⟨o,es,ep,ho,r⟩,_⟩:=id I.loc;obtain⟨sl,hL⟩:=u.any ho I.free (by simp)
 exact I.step (g':=s.gens) (d':=s.drawn) (ch:=[]) (fun y z=>nomatch z) (fun b o y hb y e n=>u.keep b o e n hb (by simp)) (fun b o y hb y e n=>u.slot b o e n hb (by simp)) (fun b o y e n=>u.free b o e n (by simp)) (fun b o y e=>u.there b o e (by simp)) u.tups u.frzs u.tbls (fun m' hm=>by
  obtain⟨o',es',ep',ho',r'⟩:=hm;rw[ho]at ho';obtain rfl:=Zb ho';exact⟨_,es',ep',hL,r'⟩) hok I.bare
theorem Inv.call {g':Array GenState}{t':Nat}{d':Drawn}{ch:List Addr}(I:Inv X pins σ H s) (u:Un (frs X.stack) ch H H' s.heap h') (hok:HOk X.prog X.w H' h') (hg:AllBare g')
  (hch:∀b∈ch,(b∈X.ex\/X.s₀.heap.objs.size<=b)/\b≠X.env.locals/\(∀x c,X.env.cells.lookup x=some c->c≠b)/\∀p∈X.pn++pins,p.1≠b):
  Inv X pins σ H' {s with heap:=h',gens:=g',drawn:=d',toks:=t'}:=by
 obtain⟨m,⟨o,es,ep,ho,r⟩,_⟩:=id I.loc;obtain⟨sl,hL⟩:=u.any ho I.free fun z=>(hch _ z).2.1 rfl
 exact I.step (ch:=ch) hch (fun b o hL hb hc e n=>u.keep b o e n (fun z=>(ZA.mp (I.stkSub b z)).elim hL hb) hc) (fun b o y y hc e n=>u.any e n hc) (fun b o hc e n=>u.free b o e n hc) (fun b o hc e=>u.there b o e hc) u.tups u.frzs u.tbls (fun m' hm=>by
  obtain⟨o',es',ep',ho',r'⟩:=hm;rw[ho]at ho';obtain rfl:=Zb ho';exact⟨_,es',ep',hL,r'⟩) hok hg
theorem Inv.turned {t':Nat}{it:Addr}(I:Inv X pins σ H s) (k:∀b o,b≠it->s.heap.get? b=some o->h'.get? b=some o) (hn:H it=none) (hL:it≠X.env.locals)
  (h1:it∈X.ex\/X.s₀.heap.objs.size<=it) (h2:∀x c,X.env.cells.lookup x=some c->c≠it) (h3:∀p∈X.pn++pins,p.1≠it):Inv X pins σ H {s with heap:=h',toks:=t'}:=by
 have nit:∀b u,H b=some u->b≠it:=fun b u e z=>by rw[z,hn]at e;contradiction
 refine I.step (g':=s.gens) (d':=s.drawn) (ch:=[it]) (fun b hb=>?_) (fun b o y y hc e y=>k b o (fun z=>hc (by simp[z])) e) (fun b o y y hc e y=>⟨o.slots,k b o (fun z=>hc (by simp[z])) e⟩) (fun y y y y n=>n)
  (fun b o hc e=>⟨o,k b o (fun z=>hc (by simp[z])) e⟩) (fun y y e=>e) (fun y y y e=>e) (fun b lq ps e=>⟨#[],by rw[e];simp⟩) (fun m hm=>?_) (fun b u e=>?_) I.bare
 ·have e:b=it:=by simpa using hb
  subst e;exact⟨h1,hL,h2,h3⟩
 ·obtain⟨o,es,ep,ho,r⟩:=hm
  exact⟨o,es,ep,k _ o (Zz hL) ho,r⟩
 ·refine(I.hok b u e).stay (fun c v hc q=>k c v ?_ q) (fun y q=>q) fun y y q=>q
  rcases hc with z|z
  ·rw[z];exact nit b u e
  ·exact nit c _ z
theorem Inv.tok (I:Inv X pins σ H s) (t:Nat):Inv X pins σ H {s with toks:=t}:=I.un (h':=s.heap) (t':=t) Un.refl I.hok
theorem Inv.kept {t':Nat}(I:Inv X pins σ H s) (k:∀b u,s.heap.get? b=some u->h'.get? b=some u):Inv X pins σ H {s with heap:=h',toks:=t'}:=I.un (Un.kept k) (I.hok.kept k)
theorem Inv.laid {a:Addr}{o:HO}{t':Nat}(I:Inv X pins σ H s) (k:∀b u,s.heap.get? b=some u->h'.get? b=some u) (hp:s.heap.objs.size<=a) (new:ObjOk X.prog X.w (upd H a o) h' a o):
  Inv X pins σ (upd H a o) {s with heap:=h',toks:=t'}:=I.un (Un.laid k hp (I.hok.fresh hp)) (I.hok.laid k hp new)
theorem Inv.write {x e:Addr}{o:HO}{t':Nat}(I:Inv X pins σ H s) (mu:Mut (H x)) (he:e=x\/H e=some (.own x)) (k:∀b u,b≠e->s.heap.get? b=some u->h'.get? b=some u) (heo:∃u,h'.get? e=some u)
  (new:ObjOk X.prog X.w (upd H x o) h' x o):Inv X pins σ (upd H x o) {s with heap:=h',toks:=t'}:=I.un (Un.write mu he k heo) (I.hok.write mu he k heo new)
theorem Inv.pins_of {pins':List (Addr×Obj)}(I:Inv X pins σ H s) (h:∀p∈pins',s.heap.get? p.1=some p.2/\H p.1=none/\p.1≠X.env.locals/\p.1∉X.fs/\∀v,p.2.data≠.cell v):Inv X pins' σ H s:=
 ⟨I.ok,I.os,I.bare,I.base,I.loc,I.cell,I.free,I.freeC,fun p hp=>(List.mem_append.mp hp).elim (fun z=>I.pin p (Z2 _ z)) (h p),I.hok,I.len⟩
theorem lH {N:List Str}(hN:N.Nodup) {i j:Nat}{x:Str}(a:N[i]?=some x) (b:N[j]?=some x):i=j:=by
 obtain⟨h1,e1⟩:=List.getElem?_eq_some_iff.mp a
 obtain⟨h2,e2⟩:=List.getElem?_eq_some_iff.mp b
 exact(List.getElem_inj hN).mp (e1.trans e2.symm)
theorem ja {M:Model}{A:Around}{E:Value->Shared->Prop}{i:Nat}{x:Str}{v:V}{u:Value}{Q:Unit->Shared->Prop}(I:Inv X pins σ H s) (hN:X.N.Nodup) (hi:X.N[i]?=some x) (hx:Loc X.env.scope x) (r:RelV v u)
  (h:∀s',Inv X pins (σ.set i (some v)) H s'->(∃a,Heap.SameBut a s.heap s'.heap/\(a=X.env.locals\/X.env.cells.lookup x=some a))->Q () s') (hf:X.fn x=true\/X.env.scope.names.lookup x=some .local:=by first|exact .inl rfl|exact .inr rfl|assumption):wpAny M A (storeName X.env x u) Q E s:=by
 obtain⟨m,hn,hl⟩:=id I.loc;have hcls:(X.env.scope.kind==.class||(X.env.scope.kind==.module&&X.env.locals != X.env.globals))=false:=by rw[I.ok.kind];rfl
 have hiσ:i<σ.length:=by rw[I.len];exact(List.getElem?_eq_some_iff.mp hi).1
 have cne:=I.cne;have tracked:∀{a:Addr}{h':Heap},(∃o,s.heap.get? a=some o/\H a=none)->Heap.SameBut a s.heap h'->HOk X.prog X.w H h':=fun{a h'} ha hs b ob e=>by
  obtain⟨_,_,hfree⟩:=ha;refine(I.hok b ob e).stay (fun c w' hc q=>(hs.2 c ?_).trans q) (fun g q=>q) fun g g q=>q
  rintro rfl
  rcases hc with rfl|hc
  ·rw[hfree]at e;contradiction
  ·rw[hfree]at hc;contradiction
 rcases hx with hk|hk
 ·refine wpAny_storeName_local hk hn (fun h' hn' hs=>?_) hcls
  obtain⟨oL,_,_,hoL,_⟩:=id hn;refine h _ ⟨I.ok,I.os,I.bare,⟨fun b o e n hb hx=>?_,fun b o e n hb hx=>?_,I.base.free,fun b o e hx=>?_,I.base.tups,I.base.frzs,I.base.tbls⟩,⟨_,hn',fun j y v' e1 e2 e3=>?_⟩,fun y c e=>?_,I.free,I.freeC,fun p hp=>?_,tracked ⟨oL,hoL,I.free⟩ hs,by simpa using I.len⟩ ⟨_,hs,.inl rfl⟩
  ·exact(hs.2 b (Zy (Zr (Zi e) I.ok.above))).trans (I.base.keep b o e n hb hx)
  ·obtain⟨sl,e1⟩:=I.base.slot b o e n hb hx
   exact⟨sl,(hs.2 b (Zy (Zr (Zi e) I.ok.above))).trans e1⟩
  ·obtain⟨o',e1⟩:=I.base.there b o e hx
   exact⟨o',(hs.2 b (Zy (Zr (Zi e) I.ok.above))).trans e1⟩
  ·by_cases hj:j=i
   ·subst hj
    rw[hi]at e1;obtain rfl:=Zb e1;rw[Zs hiσ]at e2
    cases e2;exact⟨u,r,.inl ⟨hk,by simp⟩⟩
   ·rw[Zl (Zz hj)]at e2
    obtain⟨u',r',q⟩:=hl j y v' e1 e2 e3;refine⟨u',r',?_⟩
    rcases q with⟨k,e⟩|⟨k,c,e,z⟩
    ·refine .inl ⟨k,?_⟩
     have:y≠x:=fun e=>hj (lH hN e1 (e▸hi))
     simp[this,e]
    ·exact .inr ⟨k,c,e,z.sameBut hs (cne y c e)⟩
  ·obtain⟨w',z⟩:=I.cell y c e
   exact⟨w',z.sameBut hs (cne y c e)⟩
  ·obtain⟨e,n,ne,nf,d⟩:=I.pin p hp
   exact⟨(hs.2 p.1 ne).trans e,n,ne,nf,d⟩
 ·have hfn:X.fn x=true:=by
   rcases hf with z|z
   ·exact z
   ·rw[z]at hk;contradiction
  obtain⟨c,hc⟩:=I.ok.has x (.inl hk);obtain⟨w',z⟩:=I.cell x c hc;refine wpAny_storeName_cell I.ok.kind hk hc z (fun h' hc' hs=>?_)
  obtain⟨oc,hoc,hocd⟩:=id z;refine h {s with heap:=h'} ⟨I.ok,I.os,I.bare,⟨fun b o e n hb hx=>?_,fun b o e n hb hx=>?_,I.base.free,fun b o e hx=>?_,I.base.tups,I.base.frzs,I.base.tbls⟩,⟨m,hn.sameBut hs (Zz (cne x c hc)),fun j y v' e1 e2 e3=>?_⟩,fun y c' e=>?_,I.free,I.freeC,fun p hp=>?_,tracked ⟨oc,hoc,I.freeC x c hc⟩ hs,by simpa using I.len⟩ ⟨c,hs,.inr hc⟩
  ·exact(hs.2 b (Zy (Zr (Zi e) (I.ok.cab x c hfn hc)))).trans (I.base.keep b o e n hb hx)
  ·obtain⟨sl,e1⟩:=I.base.slot b o e n hb hx
   exact⟨sl,(hs.2 b (Zy (Zr (Zi e) (I.ok.cab x c hfn hc)))).trans e1⟩
  ·obtain⟨o',e1⟩:=I.base.there b o e hx
   exact⟨o',(hs.2 b (Zy (Zr (Zi e) (I.ok.cab x c hfn hc)))).trans e1⟩
  ·by_cases hj:j=i
   ·subst hj
    rw[hi]at e1;obtain rfl:=Zb e1;rw[Zs hiσ]at e2
    cases e2;exact⟨u,r,.inr ⟨.inl hk,c,hc,hc'⟩⟩
   ·rw[Zl (Zz hj)]at e2
    obtain⟨u',r',q⟩:=hl j y v' e1 e2 e3;refine⟨u',r',?_⟩
    rcases q with q|⟨k,c',e,z'⟩
    ·exact .inl q
    ·refine .inr ⟨k,c',e,z'.sameBut hs ?_⟩
     rintro rfl
     exact hj (lH hN e1 (I.ok.inj _ _ _ e hc▸hi))
  ·by_cases hcc:c'=c
   ·subst hcc;exact⟨_,hc'⟩
   ·obtain⟨w2,z2⟩:=I.cell y c' e
    exact⟨w2,z2.sameBut hs hcc⟩
  ·obtain⟨e,n,ne,nf,d⟩:=I.pin p hp
   refine⟨(hs.2 p.1 ?_).trans e,n,ne,nf,d⟩
   intro q;rw[q,hoc]at e;have q':oc=p.2:=Zb e;exact d w' (by rw[<-q'];exact hocd)
theorem mO {M:Model}{A:Around}{E:Value->Shared->Prop}{i:Nat}{x:Str}{v:V}{u:Value}{Q:Unit->Shared->Prop}(I:Inv X pins σ H s) (hN:X.N.Nodup) (hi:X.N[i]?=some x) (hx:Loc X.env.scope x) (r:RelV v u)
  (h:∀s',Inv X pins (σ.set i (some v)) H s'->Q () s') (hf:X.fn x=true\/X.env.scope.names.lookup x=some .local:=by first|exact .inl rfl|exact .inr rfl|assumption):wpAny M A (storeName X.env x u) Q E s:=
 ja I hN hi hx r (fun s' I' y=>h s' I') hf
theorem Inv.call' {s':Shared}{ch:List Addr}(I:Inv X pins σ H s) (ho:s'.os=s.os) (u:Un (frs X.stack) ch H H' s.heap s'.heap) (hok:HOk X.prog X.w H' s'.heap) (hg:AllBare s'.gens)
  (hch:∀b∈ch,(b∈X.ex\/X.s₀.heap.objs.size<=b)/\b≠X.env.locals/\(∀x c,X.env.cells.lookup x=some c->c≠b)/\∀p∈X.pn++pins,p.1≠b):Inv X pins σ H' s':=by
 obtain⟨h',g',d',t',o'⟩:=s';have e:o'=s.os:=ho;subst e;exact I.call (g':=g') (t':=t') (d':=d') u hok hg hch
end
noncomputable abbrev XK:=Value->Option Addr->Hp->Prop
noncomputable abbrev St:=List (Option V)
noncomputable abbrev VK:=V->Hp->Prop
noncomputable abbrev TE:=St->Hp->VK->Prop
noncomputable abbrev TT:=St->Hp->(Bool->Hp->Prop)->Prop
noncomputable abbrev TA:=St->Hp->(List V->Hp->Prop)->Prop
structure Ends where
 nx:St->Hp->Prop
 rt:VK
 bk:St->Hp->Prop:=fun _ _=>False
 ct:St->Hp->Prop:=fun _ _=>False
noncomputable abbrev TS:=Ends->St->Hp->Prop
inductive EP (X:Cx) (pins:List (Addr×Obj)) (σ:St) (Q:VK) (u:Value) (s':Shared) :Prop
 |mk (v:V) (H':Hp) (a_:Inv X pins σ H' s') (b_:RelV v u) (c_:Q v H'):EP X pins σ Q u s'
inductive TP (X:Cx) (pins:List (Addr×Obj)) (σ:St) (Q:Bool->Hp->Prop) (b:Bool) (s':Shared) :Prop
 |mk (H':Hp) (a_:Inv X pins σ H' s') (b_:Q b H'):TP X pins σ Q b s'
inductive AP (X:Cx) (pins:List (Addr×Obj)) (σ:St) (Q:List V->Hp->Prop) (us:List Value) (s':Shared) :Prop
 |mk (vs:List V) (H':Hp) (a_:Inv X pins σ H' s') (b_:Vals vs us) (c_:Q vs H'):AP X pins σ Q us s'
noncomputable def SP (X:Cx) (pins:List (Addr×Obj)) (D:Ends) (f:Flow) (s':Shared):Prop:=
 match f with
 |.next=>∃σ' H',Inv X pins σ' H' s'/\D.nx σ' H'
 |.brk=>∃σ' H',Inv X pins σ' H' s'/\D.bk σ' H'
 |.cont=>∃σ' H',Inv X pins σ' H' s'/\D.ct σ' H'
 |.ret u=>∃v σ' H',Inv X pins σ' H' s'/\RelV v u/\D.rt v H'
noncomputable def PE (X:Cx) (e:Expr) (t:TE):Prop:=
 ∀(pins:List (Addr×Obj)) (s:Shared) (σ:St) (H:Hp) (Q:VK),Inv X pins σ H s->t σ H Q->wpAny (model X.prog X.w) X.A (eval e X.env) (EP X pins σ Q) X.xe s
noncomputable def PT (X:Cx) (e:Expr) (t:TT):Prop:=
 ∀(pins:List (Addr×Obj)) (s:Shared) (σ:St) (H:Hp) (Q:Bool->Hp->Prop),Inv X pins σ H s->t σ H Q->wpAny (model X.prog X.w) X.A (isTrue e X.env (eval e X.env)) (TP X pins σ Q) X.xe s
noncomputable def PW (X:Cx) (e:Expr) (t:TT):Prop:=
 ∀(whole:Sem Value) (pins:List (Addr×Obj)) (s:Shared) (σ:St) (H:Hp) (Q:Bool->Hp->Prop),Inv X pins σ H s->t σ H Q->wpAny (model X.prog X.w) X.A (isTrue e X.env whole) (TP X pins σ Q) X.xe s
theorem PW.pt {X:Cx}{e:Expr}{t:TT}(h:PW X e t):PT X e t:=h _
noncomputable def PA (X:Cx) (es:List Expr) (t:TA):Prop:=
 ∀(pos:Pos) (pins:List (Addr×Obj)) (s:Shared) (σ:St) (H:Hp) (Q:List V->Hp->Prop),Inv X pins σ H s->t σ H Q->wpAny (model X.prog X.w) X.A (spliced (backTo pos (starEach es X.env))) (AP X pins σ Q) X.xe s
noncomputable def PS (X:Cx) (st:Stmt) (t:TS):Prop:=
 ∀(pins:List (Addr×Obj)) (s:Shared) (σ:St) (H:Hp) (D:Ends),Inv X pins σ H s->t D σ H->wpAny (model X.prog X.w) X.A (exec st X.env) (SP X pins D) X.xe s
noncomputable def PSs (X:Cx) (st:List Stmt) (t:TS):Prop:=
 ∀(pins:List (Addr×Obj)) (s:Shared) (σ:St) (H:Hp) (D:Ends),Inv X pins σ H s->t D σ H->wpAny (model X.prog X.w) X.A (execs st X.env) (SP X pins D) X.xe s
theorem thn {α:Type}{t:Sem α}{Q Q':α->Shared->Prop}{M:Model}{A:Around}{E:Value->Shared->Prop}{s:Shared}(h:wpAny M A t Q E s) (hQ:∀a s,Q a s->Q' a s):wpAny M A t Q' E s:=Z8 h hQ fun y y x=>x
section
variable{X:Cx}
noncomputable def sd (i:Nat):TE:=fun σ H Q=>∃v,σ[i]?=some (some v)/\Q v H
noncomputable def tC (v:V):TE:=fun y H Q=>Q v H
theorem be {i:Nat}{x:Str}{pos:Pos}(hN:X.N[i]?=some x) (hv:Vis X.env.scope x) (hd:(x==("__debug__":Str))=false:=by decide) (hcd:(x==("__classdict__":Str))=false:=by decide):PE X (.Name x pos) (sd i):=by
 intro pins s σ H Q I h;obtain⟨v,e,h⟩:=h;obtain⟨m,hn,hl⟩:=I.loc;obtain⟨u,r,l⟩:=hl i x v hN e hv;have fin:EP X pins σ Q u s:=⟨v,H,I,r,h⟩
 rcases l with⟨hk,hm⟩|⟨hk,c,hc,hcell⟩
 ·exact wpAny_Name (wpAny_loadName_local I.ok.kind hk hn hm fin) hd
 ·rcases hk with hk|hk
  ·exact wpAny_Name (wpAny_loadName_cell I.ok.kind hk hc hcell fin) hd
  ·exact wpAny_Name (wpAny_loadName_free I.ok.kind hk hc hcell fin hcd) hd
theorem pv {i j pos}:PE X (.Constant (.int i) j pos) (tC (.int i)):=fun y y y H y I h=>wpAny_Constant_int ⟨.int i,H,I.tok _,⟨_,rfl⟩,h⟩
theorem zA {b j pos}:PE X (.Constant (.bool b) j pos) (tC (.bl b)):=fun y y y H y I h=>Constant_bool ⟨.bl b,H,I,rfl,h⟩
theorem yH {j pos}:PE X (.Constant .none j pos) (tC .non):=fun y y y H y I h=>Constant_none ⟨.non,H,I,rfl,h⟩
theorem yr {x j pos}:PE X (.Constant (.str x) j pos) (tC (.str x)):=fun y y y H y I h=>Calls.Constant_str ⟨.str x,H,I.tok _,⟨_,rfl⟩,h⟩
noncomputable def Gl (X:Cx) (x:Str):Prop:=X.env.kindOf x=some .globalImplicit
theorem w9 {E:Value->Shared->Prop}{pins:List (Addr×Obj)}{s:Shared}{σ:St}{H:Hp}{x:Str}{u:Value}{pos:Pos}{Q:Value->Shared->Prop}(I:Inv X pins σ H s) (hg:Gl X x) (hm:X.mg x=some u) (h:Q u s)
  (hd:(x==("__debug__":Str))=false:=by decide):wpAny (model X.prog X.w) X.A (eval (.Name x pos) X.env) Q E s:=
 Calls.Name_function_global I.ok.kind hg (Calls.loadGlobal_global (by rw[I.ok.glob];exact I.mod.glob.keeps I.bk) hm h) hd
theorem c9 {E:Value->Shared->Prop}{pins:List (Addr×Obj)}{s:Shared}{σ:St}{H:Hp}{x:Str}{u:Value}{pos:Pos}{Q:Value->Shared->Prop}(I:Inv X pins σ H s) (hg:Gl X x) (hm:X.mg x=none) (hv:bootBuiltins x=some u) (h:Q u s)
  (hn:x≠"__name__":=by decide) (hd:(x==("__debug__":Str))=false:=by decide):wpAny (model X.prog X.w) X.A (eval (.Name x pos) X.env) Q E s:=by
 obtain⟨mb,h1,h2⟩:=I.mod.blt;exact Calls.Name_function_global I.ok.kind hg (Calls.loadGlobal_builtin (by rw[I.ok.glob];exact I.mod.glob.keeps I.bk) hm (by rw[I.ok.blt];exact h1.keeps I.bk) ((h2 x hn).trans hv) h) hd
theorem wC {x:Str}{v:V}{u:Value}{pos:Pos}(hg:Gl X x) (hm:X.mg x=none) (hv:bootBuiltins x=some u) (r:RelV v u) (hn:x≠"__name__":=by decide) (hd:(x==("__debug__":Str))=false:=by decide):PE X (.Name x pos) (tC v):=
 fun y y y H y I h=>c9 I hg hm hv ⟨v,H,I,r,h⟩ hn hd
variable{a b:Expr}{ta tb:TE}{pos:Pos}
noncomputable def tB (t:TE):TT:=fun σ H Q=>t σ H fun x H1=>∃c,x=.bl c/\Q c H1
theorem zW {e:Expr}{t:TE}(h:PE X e t) (he:∀whole,isTrue e X.env whole=(do let v <-whole;standAt e.pos;holding [v] (truthy v)):=by intro _;rfl):PT X e (tB t):=by
 intro pins s σ H Q I hw;refine isTrue_plain (thn (h pins s σ H _ I hw) fun v s1 hz9=>?_) (he _)
 obtain⟨x,H1,I1,r1,q1⟩:=hz9;obtain⟨d,rfl,q⟩:=q1;cases r1;exact wpAny_truthy_bool ⟨H1,I1,q⟩
variable{tA tB':TT}{rest:List Expr}
noncomputable def Db (t u:TT):TT:=fun σ H Q=>t σ H fun c H1=>if c=true then u σ H1 Q else Q false H1
noncomputable def tOr (t u:TT):TT:=fun σ H Q=>t σ H fun c H1=>if c=true then Q true H1 else u σ H1 Q
noncomputable def Eg (t:TT):TT:=fun σ H Q=>t σ H fun c H1=>Q (!c) H1
theorem v6 (ha:PT X a tA):PW X (.BoolOp .And [a] pos) tA:=by
 intro wh pins s σ H Q I h;refine isTrue_and (thn (ha pins s σ H Q I h) fun c s1 e=>?_)
 cases c with
 |true=>exact isTrue_and_nil e
 |false=>exact e
theorem zB (ha:PT X a tA):PW X (.BoolOp .Or [a] pos) tA:=by
 intro wh pins s σ H Q I h;refine isTrue_or (thn (ha pins s σ H Q I h) fun c s1 e=>?_)
 cases c with
 |false=>exact isTrue_or_nil e
 |true=>exact e
theorem yI (ha:PT X a tA) (hb:PW X (.BoolOp .And (b::rest) pos) tB'):PW X (.BoolOp .And (a::b::rest) pos) (Db tA tB'):=by
 intro wh pins s σ H Q I h;refine isTrue_and (thn (ha pins s σ H _ I h) fun c s1 hz=>?_)
 obtain⟨H1,I1,q1⟩:=hz;cases c with
 |true=>exact hb wh pins s1 σ H1 Q I1 q1
 |false=>exact⟨H1,I1,q1⟩
theorem B2 (ha:PT X a tA) (hb:PW X (.BoolOp .Or (b::rest) pos) tB'):PW X (.BoolOp .Or (a::b::rest) pos) (tOr tA tB'):=by
 intro wh pins s σ H Q I h;refine isTrue_or (thn (ha pins s σ H _ I h) fun c s1 hz=>?_)
 obtain⟨H1,I1,q1⟩:=hz;cases c with
 |true=>exact⟨H1,I1,q1⟩
 |false=>exact hb wh pins s1 σ H1 Q I1 q1
theorem yS (ha:PT X a tA):PT X (.UnaryOp .Not a pos) (Eg tA):=by
 intro pins s σ H Q I h;exact isTrue_not (thn (ha pins s σ H (fun c H1=>Q (!c) H1) I h) fun c s1 ⟨H1,I1,q1⟩=>⟨H1,I1,q1⟩)
noncomputable def tIf (t:TT) (ta tb:TE):TE:=fun σ H Q=>t σ H fun c H1=>if c=true then ta σ H1 Q else tb σ H1 Q
theorem mq {c:Expr}(hc:PT X c tA) (ha:PE X a ta) (hb:PE X b tb):PE X (.IfExp c a b pos) (tIf tA ta tb):=by
 intro pins s σ H Q I h;refine wpAny_IfExp (thn (hc pins s σ H _ I h) fun d s1 hz=>?_)
 obtain⟨H1,I1,q1⟩:=hz;cases d with
 |true=>exact ha pins s1 σ H1 Q I1 q1
 |false=>exact hb pins s1 σ H1 Q I1 q1
end
noncomputable def SqL (K:PySem.W.Frag) (H:Hp) (a:Addr) (xs:List V):Prop:=
 Rd H a (.lst xs)\/
  ∃(o:Obj) (its:Array Value) (n:Nat),K.lookup a=some o/\o.cls=.type "list"/\o.dict=none/\o.data=.seq its n/\its.size<=sizeLine/\Vals xs its.toList
noncomputable def SqT (K:PySem.W.Frag) (H:Hp) (a:Addr) (xs:List V):Prop:=
 Rd H a (.tup xs)\/
  ∃(o:Obj) (its:Array Value) (n:Nat),K.lookup a=some o/\o.cls=.type "tuple"/\o.data=.seq its n/\its.size<=sizeLine/\Vals xs its.toList
noncomputable def Eb:Value->Option V
 |.none=>some .non
 |.bool b=>some (.bl b)
 |.int i _=>some (.int i)
 |.str x _=>some (.str x)
 |.bytes b _=>some (.byt b)
 |.float b _=>some (.flt b)
 |.ref a=>some (.ref a)
 |.type n=>some (.ty n)
 |_=>none
theorem RelV.abs {x:V}{u:Value}(r:RelV x u):Eb u=some x:=by
 cases x with
 |non=>cases r;rfl
 |bl _=>cases r;rfl
 |int _=>obtain⟨t,rfl⟩:=r;rfl
 |str _=>obtain⟨t,rfl⟩:=r;rfl
 |byt _=>obtain⟨t,rfl⟩:=r;rfl
 |flt _=>obtain⟨t,rfl⟩:=r;rfl
 |ref _=>cases r;rfl
 |ty _=>cases r;rfl
theorem RelV.inj {x y:V}{u:Value}(r:RelV x u) (q:RelV y u):x=y:=Zb (r.abs.symm.trans q.abs)
theorem Vals.inj {xs ys:List V}{us:List Value}(h:Vals xs us) (h':Vals ys us):xs=ys:=by
 induction h generalizing ys with
 |nil=>cases h';rfl
 |cons r t ih=>
  cases h' with
  |cons r' t'=>rw[r.inj r',ih t']
section
variable{X:Cx}{pins:List (Addr×Obj)}{σ:St}{H:Hp}{s:Shared}{a:Addr}{xs ys:List V}
theorem SqL.of {K:PySem.W.Frag}(h:H a=some (.lst xs)):SqL K H a xs:=.inl (.inl h)
theorem SqT.of {K:PySem.W.Frag}(h:H a=some (.tup xs)):SqT K H a xs:=.inl (.inl h)
theorem Inv.list (I:Inv X pins σ H s) (h:SqL X.K H a xs):∃its:List Value,Vals xs its/\PlainL s.heap a its.toArray/\xs.length<=sizeLine:=by
 rcases h with h|⟨o,its,n,hk,hc,hd,hs,hz,r⟩
 ·obtain⟨z,its,n,r,e⟩:=h.ok I.hok
  exact⟨its,r,⟨_,n,e,rfl,rfl,rfl⟩,z⟩
 ·refine⟨its.toList,r,⟨o,n,I.kIn a o hk,hc,hd,by simpa using hs⟩,?_⟩
  have e:=r.length;simp only[Array.length_toList]at e
  lia
theorem Inv.tuple (I:Inv X pins σ H s) (h:SqT X.K H a xs):∃its:List Value,Vals xs its/\IsTup s.heap a its.toArray/\xs.length<=sizeLine:=by
 rcases h with h|⟨o,its,n,hk,hc,hs,hz,r⟩
 ·obtain⟨z,its,r,p⟩:=h.ok I.hok
  exact⟨its,r,p,z⟩
 ·refine⟨its.toList,r,⟨o,I.kIn a o hk,hc,n,by simpa using hs⟩,?_⟩
  have e:=r.length;simp only[Array.length_toList]at e
  lia
theorem Inv.list_inj (I:Inv X pins σ H s) (h:SqL X.K H a xs) (h':SqL X.K H a ys):xs=ys:=by
 obtain⟨its,r,⟨o,n,e,_,_,d⟩,_⟩:=I.list h;obtain⟨its',r',⟨o',n',e',_,_,d'⟩,_⟩:=I.list h';rw[e]at e';obtain rfl:=Zb e';rw[d]at d';injection d' with d1 _
 have:its=its':=by simpa using YV Array.toList d1
 subst this;exact r.inj r'
theorem Inv.tuple_inj (I:Inv X pins σ H s) (h:SqT X.K H a xs) (h':SqT X.K H a ys):xs=ys:=by
 obtain⟨its,r,⟨o,e,_,n,d⟩,_⟩:=I.tuple h;obtain⟨its',r',⟨o',e',_,n',d'⟩,_⟩:=I.tuple h';rw[e]at e';obtain rfl:=Zb e';rw[d]at d';injection d' with d1 _
 have:its=its':=by simpa using YV Array.toList d1
 subst this;exact r.inj r'
end
noncomputable abbrev Cx.wish (X:Cx) (E:Value->Shared->Prop):Cx:={X with xe:=E}
noncomputable abbrev Cx.nox (X:Cx):Cx:=X.wish fun y y=>False
theorem Cx.Ok.wish {X:Cx}(ok:X.Ok) (E:Value->Shared->Prop):(X.wish E).Ok:=
 ⟨ok.mod,ok.kind,ok.glob,ok.blt,ok.above,ok.inj,ok.has,ok.cab,ok.hd,ok.frames,ok.stk,ok.exf,ok.bs,ok.bsz,ok.noex,ok.exfs,ok.funs,ok.frf,ok.tabs⟩
theorem Cx.Ok.unwish {X:Cx}{E:Value->Shared->Prop}(ok:(X.wish E).Ok):X.Ok:=
 ⟨ok.mod,ok.kind,ok.glob,ok.blt,ok.above,ok.inj,ok.has,ok.cab,ok.hd,ok.frames,ok.stk,ok.exf,ok.bs,ok.bsz,ok.noex,ok.exfs,ok.funs,ok.frf,ok.tabs⟩
section
variable{X:Cx}{pins:List (Addr×Obj)}{σ:St}{H:Hp}{s:Shared}{E:Value->Shared->Prop}
theorem Inv.wish (I:Inv X pins σ H s) (E:Value->Shared->Prop):Inv (X.wish E) pins σ H s:=⟨I.ok.wish E,I.os,I.bare,I.base,I.loc,I.cell,I.free,I.freeC,I.pin,I.hok,I.len⟩
theorem Inv.unwish (I:Inv (X.wish E) pins σ H s):Inv X pins σ H s:=⟨I.ok.unwish,I.os,I.bare,I.base,I.loc,I.cell,I.free,I.freeC,I.pin,I.hok,I.len⟩
theorem SP.unwish {D:Ends}{f:Flow}{s':Shared}(h:SP (X.wish E) pins D f s'):SP X pins D f s':=by
 cases f with
 |next=>obtain⟨σ',H',I,q⟩:=h;exact⟨σ',H',I.unwish,q⟩
 |brk=>obtain⟨σ',H',I,q⟩:=h;exact⟨σ',H',I.unwish,q⟩
 |cont=>obtain⟨σ',H',I,q⟩:=h;exact⟨σ',H',I.unwish,q⟩
 |ret u=>obtain⟨v,σ',H',I,r,q⟩:=h;exact⟨v,σ',H',I.unwish,r,q⟩
theorem PE.nox {e:Expr}{t:TE}(h:PE X.nox e t):PE X e t:=fun pins s σ H Q I hw=>
 Z8 (h pins s σ H Q (I.wish _) hw) (fun y y hz=>by obtain⟨v,H',I',r,q⟩:=hz;exact⟨v,H',I'.unwish,r,q⟩) fun y y z=>False.elim z
theorem PSs.nox {st:List Stmt}{t:TS}(h:PSs X.nox st t):PSs X st t:=fun pins s σ H D I hw=>
 Z8 (h pins s σ H D (I.wish _) hw) (fun y y q=>q.unwish) fun y y z=>False.elim z
end
section
variable{X:Cx}{st:Stmt}{rest:List Stmt}{t u:TS}{e:Expr}{te:TE}{pos:Pos}
noncomputable def tNext:TS:=fun D σ H=>D.nx σ H
noncomputable def Bx (t u:TS):TS:=fun D σ H=>t {D with nx:=u D} σ H
theorem xG:PSs X [] tNext:=fun y y σ H y I h=>wpAny_execs_nil ⟨σ,H,I,h⟩
theorem bu (h1:PS X st t) (h2:PSs X rest u):PSs X (st::rest) (Bx t u):=by
 intro pins s σ H D I h;refine wpAny_execs_cons (thn (h1 pins s σ H {D with nx:=u D} I h) fun f s1 q=>?_)
 cases f with
 |next=>
  obtain⟨σ',H',I',q⟩:=q;exact h2 pins s1 σ' H' D I' q
 |ret v=>exact q
 |brk=>exact q
 |cont=>exact q
theorem lC (h1:PS X st t):PSs X [st] t:=by
 intro pins s σ H D I h;refine wpAny_execs_cons (thn (h1 pins s σ H D I h) fun f s1 q=>?_)
 cases f with
 |next=>exact wpAny_execs_nil q
 |ret v=>exact q
 |brk=>exact q
 |cont=>exact q
noncomputable def tCont:TS:=fun D σ H=>D.ct σ H
theorem kR:PS X (.Continue pos) tCont:=fun y y σ H y I h=>wpAny_Continue ⟨σ,H,I,h⟩
theorem Inv.quiet {pins:List (Addr×Obj)}{σ:St}{H:Hp}{s:Shared}(I:Inv X pins σ H s):interactive X.env=false:=by simp[interactive,I.ok.kind]
noncomputable def yN (te:TE):TS:=fun D σ H=>te σ H fun y H1=>D.nx σ H1
theorem lF (he:PE X e te) (hs:swapsWith e none pos.line X.env=pure false:=by rfl):PS X (.Expr e pos) (yN te):=by
 intro pins s σ H D I h;exact wpAny_Expr_any (thn (he pins s σ H _ I h) fun v s1 hz=>by obtain⟨x,H1,I1,r1,q1⟩:=hz;exact⟨σ,H1,I1,q1⟩) I.quiet hs
noncomputable def C0 (te:TE):TS:=fun D σ H=>te σ H D.rt
theorem mB (he:PE X e te):PS X (.Return (some e) pos) (C0 te):=by
 intro pins s σ H D I h;exact wpAny_Return_some (thn (he pins s σ H _ I h) fun v s1 hz=>by obtain⟨x,H1,I1,r1,q1⟩:=hz;exact⟨x,σ,H1,I1,r1,q1⟩)
noncomputable def Ef (c:TT) (t u:TS):TS:=fun D σ H=>c σ H fun b H1=>if b=true then t D σ H1 else u D σ H1
theorem yV {c:Expr}{a b:List Stmt}{tc:TT}(hc:PT X c tc) (ha:PSs X a t) (hb:PSs X b u):PS X (.If c a b pos) (Ef tc t u):=by
 intro pins s σ H D I h;refine wpAny_If (thn (hc pins s σ H _ I h) fun d s1 hz=>?_)
 obtain⟨H1,I1,q1⟩:=hz;cases d with
 |true=>exact ha pins s1 σ H1 D I1 q1
 |false=>exact hb pins s1 σ H1 D I1 q1
end
noncomputable abbrev TG:=V->St->Hp->(St->Hp->Prop)->Prop
noncomputable abbrev TGs:=List V->St->Hp->(St->Hp->Prop)->Prop
noncomputable def PG (X:Cx) (target:Expr) (t:TG):Prop:=
 ∀(pins:List (Addr×Obj)) (s:Shared) (σ:St) (H:Hp) (v:V) (u:Value) (Q:St->Hp->Prop),Inv X pins σ H s->RelV v u->t v σ H Q->
  wpAny (model X.prog X.w) X.A (assign target X.env u) (fun y s'=>∃σ' H',Inv X pins σ' H' s'/\Q σ' H') X.xe s
noncomputable def PGs (X:Cx) (ts:List Expr) (t:TGs):Prop:=
 ∀(pins:List (Addr×Obj)) (s:Shared) (σ:St) (H:Hp) (vs:List V) (us:List Value) (Q:St->Hp->Prop),Inv X pins σ H s->Vals vs us->t vs σ H Q->
  wpAny (model X.prog X.w) X.A (assignInOrder ((assignEach ts X.env).map (·.2)) us) (fun y s'=>∃σ' H',Inv X pins σ' H' s'/\Q σ' H') X.xe s
section
variable{X:Cx}{pos:Pos}
noncomputable def fG (i:Nat):TG:=fun v σ H Q=>Q (σ.set i (some v)) H
theorem lD {i:Nat}{x:Str}(hN:X.N.Nodup) (hi:X.N[i]?=some x) (hx:Loc X.env.scope x) (hf:X.fn x=true\/X.env.scope.names.lookup x=some .local:=by first|exact .inl rfl|exact .inr rfl|assumption):PG X (.Name x pos) (fG i):=by
 intro pins s σ H v u Q I r h;exact wpAny_assign_Name (mO I hN hi hx r (fun s' I'=>⟨_,H,I',h⟩) hf)
noncomputable def gNil:TGs:=fun vs σ H Q=>vs=[]/\Q σ H
noncomputable def A1 (t:TG) (u:TGs):TGs:=fun vs σ H Q=>∃v r,vs=v::r/\t v σ H fun σ' H'=>u r σ' H' Q
theorem wN:PGs X [] gNil:=by
 intro pins s σ H vs us Q I r h;obtain⟨e,h⟩:=h;subst e;cases r;exact assignInOrder_nil ⟨σ,H,I,h⟩
theorem sV {e:Expr}{es:List Expr}{t:TG}{u:TGs}(h1:PG X e t) (h2:PGs X es u)
  (hs:(assignEach (e::es) X.env).map (·.2)=assign e X.env::(assignEach es X.env).map (·.2):=by rfl):PGs X (e::es) (A1 t u):=by
 intro pins s σ H vs us Q I r h;obtain⟨v,vr,e1,h⟩:=h;subst e1;cases r with
 |cons r rr=>
  rw[hs];refine assignInOrder_cons (thn (h1 pins s σ H _ _ _ I r h) fun y s1 hz=>?_)
  obtain⟨σ1,H1,I1,q1⟩:=hz;exact h2 pins s1 σ1 H1 _ _ Q I1 rr q1
noncomputable def D5 (K:PySem.W.Frag) (n:Nat) (t:TGs):TG:=fun v σ H Q=>∃a xs,v=.ref a/\SqT K H a xs/\xs.length=n/\t xs σ H Q
theorem yB {es:List Expr}{k:Nat}{t:TGs}{n:Nat}(hc:X.calm=true) (h:PGs X es t)
  (hn:(assignEach es X.env).length=n:=by rfl) (hst:(assignEach es X.env).findIdx? (·.1)=none:=by rfl):PG X (.Tuple es k pos) (D5 X.K n t):=by
 intro pins s σ H v u Q I r hw;obtain⟨a,xs,e1,hq,hl,hw⟩:=hw;subst e1;cases r;obtain⟨its,rv,ht,hz⟩:=I.tuple hq;refine assign_Tuple_tuple (I.ok.hd hc) ht (by simp[hn,<-hl,rv.length]) hst fun h' hx=>?_
 have I1:Inv X pins σ H {s with heap:=h'}:=I.kept (t':=s.toks) fun b o e=>hx b o (Zy (Zi e)) e
 exact h pins _ σ H xs _ Q I1 (by simpa using rv) hw
noncomputable def xi (te:TE) (g:TG):TS:=fun D σ H=>te σ H fun x H1=>g x σ H1 D.nx
theorem yz {tg e:Expr}{te:TE}{g:TG}(he:PE X e te) (hg:PG X tg g) (hs:swapsWithSole [tg] e pos.line X.env=pure false:=by rfl) (hw:swappedStores [tg] e X.env=pure none:=by rfl)
  (h1:(assignEach [tg] X.env).map (·.2)=[assign tg X.env]:=by rfl):PS X (.Assign [tg] e pos) (xi te g):=by
 intro pins s σ H D I h;refine wpAny_Assign_stores (thn (he pins s σ H _ I h) fun v s1 hz9=>?_) hs hw
 obtain⟨x,H1,I1,r1,q1⟩:=hz9;rw[h1];exact thn (hg pins s1 σ H1 x v _ I1 r1 q1) fun y s2 q=>q
theorem gm {i:Nat}{x:Str}{e:Expr}{te:TE}{pos':Pos}(hN:X.N.Nodup) (hi:X.N[i]?=some x) (hx:Loc X.env.scope x) (he:PE X e te) (hs:swapsWith e (some (.Name x pos')) pos.line X.env=pure false:=by rfl) (hf:X.fn x=true\/X.env.scope.names.lookup x=some .local:=by first|exact .inl rfl|exact .inr rfl|assumption):
  PS X (.Assign [.Name x pos'] e pos) (xi te (fG i)):=by
 intro pins s σ H D I h;refine wpAny_Assign_Name (thn (he pins s σ H _ I h) fun v s1 hz9=>?_) hs
 obtain⟨y,H1,I1,r1,q1⟩:=hz9;exact mO I1 hN hi hx r1 (fun s2 I2=>⟨_,H1,I2,q1⟩) hf
end
section
variable{X:Cx}{pos:Pos}
noncomputable def Am (c:TT) (tb:TS):TS:=fun D σ H=>∃W:Nat->St->Hp->Prop,(∃m,W m σ H)/\∀m σ H,W m σ H->
 c σ H fun b H1=>if b=true then ∃N:St->Hp->Prop,(∀σ' H',N σ' H'->∃m',m'<m/\W m' σ' H')/\tb {D with nx:=N,ct:=N,bk:=D.nx} σ H1 else D.nx σ H1
theorem tf {c:Expr}{body:List Stmt}{tc:TT}{tb:TS}(hp:PassesOwn (model X.prog X.w) X.A X.env X.xe) (hc:PT X c tc) (hb:PSs X body tb):PS X (.While c body [] pos) (Am tc tb):=by
 intro pins s σ H D I h;obtain⟨W,⟨m0,w0⟩,turn⟩:=h;refine wpAny_While (codeAny_whileLoop (fun n s'=>∃σ' H',Inv X pins σ' H' s'/\W n σ' H') ?_ m0 ⟨σ,H,I,w0⟩)
 rintro n s1 hz9
 obtain⟨σ1,H1,I1,w1⟩:=hz9;refine YL hp (thn (hc pins s1 σ1 H1 _ I1 (turn n σ1 H1 w1)) fun b s2 hz=>?_)
 obtain⟨H2,I2,q2⟩:=hz;cases b with
 |true=>
  obtain⟨N,hN,q2⟩:=q2;rw[Zm rfl];refine YL hp (thn (hb pins s2 σ1 H2 _ I2 q2) fun f s3 q3=>?_)
  cases f with
  |next=>
   obtain⟨σ3,H3,I3,n3⟩:=q3;obtain⟨m',hm,w3⟩:=hN σ3 H3 n3;exact⟨m',hm,σ3,H3,I3,w3⟩
  |cont=>
   obtain⟨σ3,H3,I3,n3⟩:=q3;obtain⟨m',hm,w3⟩:=hN σ3 H3 n3;exact⟨m',hm,σ3,H3,I3,w3⟩
  |brk=>exact q3
  |ret v=>exact q3
 |false=>
  rw[Zo ZE];exact wpAny_execs_nil ⟨σ1,H2,I2,q2⟩
end
structure It where
 go:Nat->Hp->Prop
 yld:Nat->Hp->V->Hp->Prop
 stop:Nat->Hp->Prop
noncomputable def dT (X:Cx) (pins:List (Addr×Obj)) (H:Hp) (b:Addr):Prop:=
 H b=none/\b≠X.env.locals/\b∉X.fs/\(b∈X.ex\/X.s₀.heap.objs.size<=b)/\(∀x c,X.env.cells.lookup x=some c->c≠b)/\∀p∈X.pn++pins,p.1≠b
theorem Inv.fpOk {X:Cx}{pins:List (Addr×Obj)}{σ:St}{H H':Hp}{s:Shared}{b:Addr}(I:Inv X pins σ H s) (hb:s.heap.objs.size<=b) (hn:H' b=none):dT X pins H' b:=by
 refine⟨hn,Yc (Zr I.lt hb),I.nofs hb,.inr (ZM I.sz hb),fun x c e z=>?_,fun p hp z=>?_⟩
 ·obtain⟨v,q⟩:=I.cell x c e
  exact absurd (Zr q.lt (by rw[z];exact hb)) (ZR _)
 ·exact absurd (Zr (Zi (I.pin p hp).1) (by rw[z];exact hb)) (ZR _)
structure Turn (P:Program) (w:World) (K:PySem.W.Frag) (tg:Expr) (J:It) (fp:List Addr) (it:Addr) (tn:Nat->Heap->Prop):Prop where
 mem:it∈fp
 obj:∀i h,tn i h->∀b∈fp,∃o,h.get? b=some o/\∀v,o.data≠.cell v
 keep:∀i h h',tn i h->(∀b∈fp,∀o,h.get? b=some o->h'.get? b=some o)->tn i h'
 item:∀(X:Cx),X.prog=P->X.w=w->X.K=K->X.calm=true->∀(i:Nat) (pins:List (Addr×Obj)) (s:Shared) (σ:St) (H:Hp) (E:Value->Shared->Prop),Inv X pins σ H s->(∀b∈fp,dT X pins H b)->tn i s.heap->J.go i H->
  wpAny (model P w) X.A (pyNext (.ref it)) (fun r s1=>∃u,r=some u/\
   wpAny (model P w) X.A (letOwnedTupleGo tg (.ref it) u) (fun _ s2=>∃x H',Inv X pins σ H' s2/\RelV x u/\J.yld i H x H'/\tn (i+1) s2.heap/\∀b∈fp,H' b=none) E s1) E s
 done:∀(X:Cx),X.prog=P->X.w=w->X.K=K->X.calm=true->∀(i:Nat) (pins:List (Addr×Obj)) (s:Shared) (σ:St) (H:Hp) (E:Value->Shared->Prop),Inv X pins σ H s->(∀b∈fp,dT X pins H b)->tn i s.heap->J.stop i H->
  wpAny (model P w) X.A (pyNext (.ref it)) (fun r s1=>r=none/\Inv X pins σ H s1) E s
 self:∀(A:Around) (i:Nat) (s:Shared) (Q:Value->Shared->Prop) (E:Value->Shared->Prop),tn i s.heap->Q (.ref it) s->wpAny (model P w) A (pyIter (.ref it)) Q E s
noncomputable abbrev TI:=St->Hp->(It->Hp->Prop)->Prop
noncomputable def PIE (X:Cx) (pins:List (Addr×Obj)) (σ:St) (tg:Expr) (R:It->Hp->Prop) (itv:Value) (s2:Shared):Prop:=
 ∃(it:Addr) (fp:List Addr) (tn:Nat->Heap->Prop) (J:It) (H':Hp),itv=.ref it/\Inv X pins σ H' s2/\Turn X.prog X.w X.K tg J fp it tn/\tn 0 s2.heap/\(∀b∈fp,dT X pins H' b)/\R J H'
noncomputable def PI (X:Cx) (tg iter:Expr) (wi:TI):Prop:=
 ∀(pins:List (Addr×Obj)) (s:Shared) (σ:St) (H:Hp) (R:It->Hp->Prop),Inv X pins σ H s->wi σ H R->
  wpAny (model X.prog X.w) X.A (eval iter X.env) (fun v s1=>wpAny (model X.prog X.w) X.A (pyIter v) (PIE X pins σ tg R) X.xe s1) X.xe s
theorem sB {M:Model}{A:Around}{E:Value->Shared->Prop}{s:Shared}{tg:Expr}{it:Addr}{u:Value}{o:Obj}{n:String}{vs:Array Value}{Q:Unit->Shared->Prop}(ho:s.heap.get? it=some o) (hc:o.cls=.type n) (hd:o.data=.fields vs)
  (hn:["enumerate","zip","dict_itemiterator","dict_reverseitemiterator","odict_iterator","itertools.zip_longest","itertools.pairwise"].contains n=false) (hQ:Q () s):wpAny M A (letOwnedTupleGo tg (.ref it) u) Q E s:=by
 unfold letOwnedTupleGo;cases tg<;>first
  |exact Zd hQ
  |(cases u<;>first
    |exact Zd hQ
    |(refine Za (wpAny_load ho ?_)
      rw[hc,hd];show wpAny M A (if(["enumerate","zip","dict_itemiterator","dict_reverseitemiterator","odict_iterator","itertools.zip_longest","itertools.pairwise"].contains n&&vs[0]?==some (rawInt _))=true then _ else _) Q E s
      rw[Zo (by intro h;rw[hn,Bool.false_and]at h;contradiction)]
      exact Zd hQ))
noncomputable def Itl (K:PySem.W.Frag) (a:Addr):It:=
 ⟨fun i H=>∃xs x,SqL K H a xs/\xs[i]?=some x,fun i H x H'=>H'=H/\∀xs,SqL K H a xs->xs[i]?=some x,fun i H=>∃xs,SqL K H a xs/\xs.length<=i⟩
noncomputable def Itt (K:PySem.W.Frag) (a:Addr):It:=
 ⟨fun i H=>∃xs x,SqT K H a xs/\xs[i]?=some x,fun i H x H'=>H'=H/\∀xs,SqT K H a xs->xs[i]?=some x,fun i H=>∃xs,SqT K H a xs/\xs.length<=i⟩
noncomputable def Itr (lo:Int) (n:Nat):It:=⟨fun i y=>i<n,fun i H x H'=>H'=H/\x=.int (lo+i),fun i y=>n<=i⟩
theorem qQ {P:Program}{w:World}{K:PySem.W.Frag}{tg:Expr}(a it:Addr):Turn P w K tg (Itl K a) [it] it (fun i h=>h.IsListIter it a i) where
 mem:=by simp
 obj:=fun i h st b hb=>by
  have e:b=it:=by simpa using hb
  subst e;obtain⟨o,e,c,d⟩:=st;exact⟨o,e,fun v z=>by rw[d]at z;cases z⟩
 keep:=fun i h h' st k=>st.at fun o e=>k it (by simp) o e
 item:=by
  intro X hP hw hK hc i pins s σ H E I hf st hg;subst hP hw hK;obtain⟨xs,x,hq,hx⟩:=hg;obtain⟨its,rv,p,hz⟩:=I.list hq;obtain⟨u,hu,ru⟩:=rv.get hx;obtain⟨f0,f1,f2,f3,f4,f5⟩:=hf it (by simp)
  refine wpAny_pyNext_list_item st p.isList (x:=u) (by simpa using hu) fun h' st' sb=>?_
  have I1:Inv X pins σ H {s with heap:=h'}:=I.turned (t':=s.toks) (fun b o hb e=>(sb.2 b hb).trans e) f0 f1 f3 f4 f5
  obtain⟨o,e,c,d⟩:=id st';exact⟨u,rfl,sB (s:={s with heap:=h'}) e c d (by decide) ⟨x,H,I1,ru,⟨rfl,fun ys hy=>by rw[I.list_inj hy hq];exact hx⟩,st',fun b hb=>(hf b hb).1⟩⟩
 done:=by
  intro X hP hw hK hc i pins s σ H E I hf st hg;subst hP hw hK;obtain⟨xs,hq,hx⟩:=hg;obtain⟨its,rv,p,hz⟩:=I.list hq;obtain⟨f0,f1,f2,f3,f4,f5⟩:=hf it (by simp)
  have hl:=rv.length;exact wpAny_pyNext_list_end (I.ok.hd hc) st p.isList (by simp;lia) fun h' eb=>⟨rfl,I.turned (t':=s.toks) (fun b o hb e=>eb b o hb e) f0 f1 f3 f4 f5⟩
 self:=fun y y y y y st h=>wpAny_pyIter_listiter st h
theorem nJ {P:Program}{w:World}{K:PySem.W.Frag}{tg:Expr}(a it:Addr):Turn P w K tg (Itt K a) [it] it (fun i h=>h.IsTupleIter it a i) where
 mem:=by simp
 obj:=fun i h st b hb=>by
  have e:b=it:=by simpa using hb
  subst e;obtain⟨o,e,c,d⟩:=st;exact⟨o,e,fun v z=>by rw[d]at z;cases z⟩
 keep:=fun i h h' st k=>st.at fun o e=>k it (by simp) o e
 item:=by
  intro X hP hw hK hc i pins s σ H E I hf st hg;subst hP hw hK;obtain⟨xs,x,hq,hx⟩:=hg;obtain⟨its,rv,p,hz⟩:=I.tuple hq;obtain⟨u,hu,ru⟩:=rv.get hx;obtain⟨f0,f1,f2,f3,f4,f5⟩:=hf it (by simp)
  refine wpAny_pyNext_tuple_item st (show s.heap.IsTuple a its.toArray from p) (x:=u) (by simpa using hu) fun h' st' sb=>?_
  have I1:Inv X pins σ H {s with heap:=h'}:=I.turned (t':=s.toks) (fun b o hb e=>(sb.2 b hb).trans e) f0 f1 f3 f4 f5
  obtain⟨o,e,c,d⟩:=id st';exact⟨u,rfl,sB (s:={s with heap:=h'}) e c d (by decide) ⟨x,H,I1,ru,⟨rfl,fun ys hy=>by rw[I.tuple_inj hy hq];exact hx⟩,st',fun b hb=>(hf b hb).1⟩⟩
 done:=by
  intro X hP hw hK hc i pins s σ H E I hf st hg;subst hP hw hK;obtain⟨xs,hq,hx⟩:=hg;obtain⟨its,rv,p,hz⟩:=I.tuple hq;obtain⟨f0,f1,f2,f3,f4,f5⟩:=hf it (by simp)
  have hl:=rv.length;exact wpAny_pyNext_tuple_end (I.ok.hd hc) st (show s.heap.IsTuple a its.toArray from p) (by simp;lia) fun h' eb=>⟨rfl,I.turned (t':=s.toks) (fun b o hb e=>eb b o hb e) f0 f1 f3 f4 f5⟩
 self:=fun y y y y y st h=>wpAny_pyIter_tupleiter st h
theorem m5 {P:Program}{w:World}{K:PySem.W.Frag}{tg:Expr}(it:Addr) (lo:Int) (n:Nat):Turn P w K tg (Itr lo n) [it] it (fun i h=>IsRangeIter h it (lo+(i:Nat)*1) ((n:Int) - (i:Nat)) 1) where
 mem:=by simp
 obj:=fun i h st b hb=>by
  have e:b=it:=by simpa using hb
  subst e;exact⟨_,st,fun v z=>by
   have z':Data.fields _=Data.cell v:=z;cases z'⟩
 keep:=fun i h h' st k=>k it (by simp) _ st
 item:=by
  intro X hP hw hK hc i pins s σ H E I hf st hg;subst hP hw hK;obtain⟨f0,f1,f2,f3,f4,f5⟩:=hf it (by simp)
  have W:=Walks.range (prog:=X.prog) (w:=X.w) (I.ok.hd hc) it lo 1 n;refine W.item i s _ _ hg st fun v h' tk hv st' kk=>?_
  obtain⟨t,rfl⟩:=hv;have I1:Inv X pins σ H {s with heap:=h',toks:=tk}:=I.turned (fun b o hb e=>kk b o (by simpa using hb) e) f0 f1 f3 f4 f5
  refine⟨_,rfl,sB (s:={s with heap:=h',toks:=tk}) (n:="range_iterator") st' rfl rfl (by decide) ⟨.int (lo+i),H,I1,⟨t,?_⟩,⟨rfl,rfl⟩,st',fun b hb=>(hf b hb).1⟩⟩
  rw[Int.mul_one]
 done:=by
  intro X hP hw hK hc i pins s σ H E I hf st hg;subst hP hw hK;obtain⟨f0,f1,f2,f3,f4,f5⟩:=hf it (by simp)
  exact wpAny_pyNext_range_end (I.ok.hd hc) st (by have:n<=i:=hg;lia) fun h' eb=>⟨rfl,I.turned (t':=s.toks) (fun b o hb e=>eb b o hb e) f0 f1 f3 f4 f5⟩
 self:=fun y y y y y st h=>wpAny_pyIter_rangeiter st h
section
variable{X:Cx}{tg:Expr}
noncomputable def zi (K:PySem.W.Frag) (tl:TE):TI:=fun σ H R=>tl σ H fun x H1=>∃a,x=.ref a/\(∃xs,SqL K H1 a xs)/\R (Itl K a) H1
noncomputable def Em (K:PySem.W.Frag) (tl:TE):TI:=fun σ H R=>tl σ H fun x H1=>∃a,x=.ref a/\(∃xs,SqT K H1 a xs)/\R (Itt K a) H1
theorem rh {l:Expr}{tl:TE}(hl:PE X l tl):PI X tg l (zi X.K tl):=by
 intro pins s σ H R I h;refine thn (hl pins s σ H _ I h) fun v s1 hz=>?_
 obtain⟨x,H1,I1,r1,q1⟩:=hz;obtain⟨a,e,⟨xs,hq⟩,q⟩:=q1;subst e;cases r1;obtain⟨its,rv,p,hz⟩:=I1.list hq;refine wpAny_pyIter_list p.isList ?_
 refine⟨s1.heap.objs.size,[s1.heap.objs.size],_,_,H1,rfl,I1.kept (t':=s1.toks) fun b o e=>Zc _ e,qQ a _,⟨_,Zj _ rfl,rfl,rfl⟩,fun b hb=>?_,q⟩
 have e:b=s1.heap.objs.size:=by simpa using hb
 subst e;exact I1.fpOk (Zk _) (I1.hok.fresh (Zk _))
theorem zS {l:Expr}{tl:TE}(hl:PE X l tl):PI X tg l (Em X.K tl):=by
 intro pins s σ H R I h;refine thn (hl pins s σ H _ I h) fun v s1 hz=>?_
 obtain⟨x,H1,I1,r1,q1⟩:=hz;obtain⟨a,e,⟨xs,hq⟩,q⟩:=q1;subst e;cases r1;obtain⟨its,rv,p,hz⟩:=I1.tuple hq;refine wpAny_pyIter_tuple (show s1.heap.IsTuple a its.toArray from p) ?_
 refine⟨s1.heap.objs.size,[s1.heap.objs.size],_,_,H1,rfl,I1.kept (t':=s1.toks) fun b o e=>Zc _ e,nJ a _,⟨_,Zj _ rfl,rfl,rfl⟩,fun b hb=>?_,q⟩
 have e:b=s1.heap.objs.size:=by simpa using hb
 subst e;exact I1.fpOk (Zk _) (I1.hok.fresh (Zk _))
theorem tV {pins:List (Addr×Obj)}{σ:St}{H:Hp}{s:Shared}{R:It->Hp->Prop}{E:Value->Shared->Prop}{lo hi:Int}{t u v:Tok}{tk:Nat}(I:Inv X pins σ H s) (h1: -(2 ^ 62)<=lo) (h2:lo<2 ^ 62) (h3: -(2 ^ 62)<=hi) (h4:hi<2 ^ 62)
  (q:R (Itr lo (hi - lo).toNat) H):wpAny (model X.prog X.w) X.A (pyIter (.ref s.heap.objs.size)) (PIE X pins σ tg R) E {s with heap:=s.heap.push {cls:=.type "range",data:=.fields #[.int lo t,.int hi u,.int 1 v]},toks:=tk}:=by
 refine wpAny_pyIter_range (IsRange.new ..) (small_one h1 h2 h3 h4) ?_
 have I1:Inv X pins σ H {s with heap:=s.heap.push {cls:=.type "range",data:=.fields #[.int lo t,.int hi u,.int 1 v]},toks:=tk}:=I.kept fun b o e=>Zc _ e
 refine⟨(s.heap.push {cls:=.type "range",data:=.fields #[.int lo t,.int hi u,.int 1 v]}).objs.size,[(s.heap.push {cls:=.type "range",data:=.fields #[.int lo t,.int hi u,.int 1 v]}).objs.size],_,_,H,rfl,
  I1.kept (t':=tk) fun b o e=>Zc _ e,m5 _ lo (hi - lo).toNat,?_,fun b hb=>?_,q⟩
 ·have e1:lo+((0:Nat):Int)*1=lo:=by simp
  have e2:(((hi - lo).toNat:Nat):Int) - ((0:Nat):Int)=Builtin.Range.rangeSize lo hi 1:=by rw[rangeSize_one];split<;>lia
  show IsRangeIter _ _ (lo+((0:Nat):Int)*1) ((((hi - lo).toNat:Nat):Int) - ((0:Nat):Int)) 1;rw[e1,e2];exact Zj _ rfl
 ·have e:b=(s.heap.push {cls:=.type "range",data:=.fields #[.int lo t,.int hi u,.int 1 v]}).objs.size:=by simpa using hb
  subst e;exact I1.fpOk (Zk _) (I1.hok.fresh (Zk _))
noncomputable def BE (ta:TA):TI:=fun σ H R=>ta σ H fun vs H1=>∃j:Int,vs=[.int j]/\ -(2 ^ 62)<=j/\j<2 ^ 62/\R (Itr 0 j.toNat) H1
theorem ph {a:Expr}{ta:TA}{p pos:Pos}(hg:Gl X "range") (hm:X.mg "range"=none) (ha:PA X [a] ta) (hs:starEach [a] X.env=[(false,eval a X.env)]:=by rfl):PI X tg (.Call (.Name "range" p) [a] [] pos) (BE ta):=by
 intro pins s σ H R I h;refine Call_ (c9 I hg hm boot_range (Yb (thn (ha pos pins s σ H _ I h) fun us s1 hz9=>?_) hs rfl))
 obtain⟨vs,H1,I1,r1,q1⟩:=hz9;obtain⟨j,e,q1,q2,q⟩:=q1;subst e;cases r1 with
 |cons r rr=>
  cases rr;obtain⟨t,rfl⟩:=r;exact call_range_1 (tV I1 (by lia) (by lia) q1 q2 (by simpa using q))
noncomputable def C6 (wi:TI) (g:TG) (tb:TS):TS:=fun D σ H=>wi σ H fun J H1=>∃W:Nat->Nat->St->Hp->Prop,(∃m,W 0 m σ H1)/\∀i m σ H,W i m σ H->
 (J.stop i H/\D.nx σ H)\/(J.go i H/\∃N:St->Hp->Prop,(∀σ' H',N σ' H'->∃m',m'<m/\W (i+1) m' σ' H')/\∀x H',J.yld i H x H'->g x σ H' fun σ2 H2=>tb {D with nx:=N,ct:=N,bk:=D.nx} σ2 H2)
noncomputable def jK (fp:List Addr) (h:Heap):List (Addr×Obj):=fp.filterMap fun b=>(h.get? b).map fun o=>(b,o)
theorem cx {fp:List Addr}{h:Heap}{b:Addr}{o:Obj}(hb:b∈fp) (e:h.get? b=some o):(b,o)∈jK fp h:=List.mem_filterMap.mpr ⟨b,hb,by rw[e];rfl⟩
theorem rV {fp:List Addr}{h:Heap}{p:Addr×Obj}(hp:p∈jK fp h):p.1∈fp/\h.get? p.1=some p.2:=by
 obtain⟨b,hb,e⟩:=List.mem_filterMap.mp hp;cases q:h.get? b with
 |none=>rw[q]at e;contradiction
 |some o=>
  rw[q]at e;have e':(b,o)=p:=Zb e;subst e';exact⟨hb,q⟩
theorem Inv.pinned {pins:List (Addr×Obj)}{σ:St}{H:Hp}{s:Shared}{fp:List Addr}(I:Inv X pins σ H s) (hf:∀b∈fp,dT X pins H b) (ho:∀b∈fp,∃o,s.heap.get? b=some o/\∀v,o.data≠.cell v):Inv X (pins++jK fp s.heap) σ H s:=
 I.pins_of fun p hp=>(List.mem_append.mp hp).elim (fun z=>I.pin p (Zt _ z)) fun z=>by
  obtain⟨hb,e⟩:=rV z;obtain⟨f0,f1,f2,_⟩:=hf p.1 hb;obtain⟨o,e',d⟩:=ho p.1 hb;rw[e]at e';obtain rfl:=Zb e';exact⟨e,f0,f1,f2,d⟩
theorem Inv.unpinned {pins pl:List (Addr×Obj)}{σ:St}{H:Hp}{s:Shared}(I:Inv X (pins++pl) σ H s):Inv X pins σ H s:=I.pins_of fun p hp=>I.pin p (Zt _ (Z2 _ hp))
theorem vg {iter:Expr}{body:List Stmt}{wi:TI}{g:TG}{tb:TS}{pos:Pos}(hp:PassesOwn (model X.prog X.w) X.A X.env X.xe) (hc:X.calm=true) (hi:PI X tg iter wi) (hg:PG X tg g) (hb:PSs X body tb)
  (hs:∀x,foldedSetIterable iter X.env x=pure x:=by intro _;rfl):PS X (.For tg iter body [] pos) (C6 wi g tb):=by
 intro pins s σ H D I h;refine wpAny_For (thn (hi pins s σ H _ I h) fun v s1 h1=>thn h1 fun itv s2 h2=>?_) hs
 obtain⟨it,fp,tn,J,H2,e,I2,T,st2,f2,W,⟨m0,w0⟩,turn⟩:=h2;subst e;have stat:∀{H':Hp},(∀b∈fp,H' b=none)->∀b∈fp,dT X pins H' b:=fun hn b hb=>⟨hn b hb,(f2 b hb).2⟩
 refine codeAny_forLoop_any (fun n s'=>∃i σ' H',Inv X pins σ' H' s'/\tn i s'.heap/\(∀b∈fp,H' b=none)/\W i n σ' H') ?_ m0 ⟨0,σ,H2,I2,st2,fun b hb=>(f2 b hb).1,w0⟩
 rintro n s3 hz9
 obtain⟨i,σ3,H3,I3,st3,fr3,w3⟩:=hz9
 rcases turn i n σ3 H3 w3 with⟨stop,qn⟩|⟨go,N,hN,step⟩
 ·refine YL hp (thn (T.done X rfl rfl rfl hc i pins s3 σ3 H3 X.xe I3 (stat fr3) st3 stop) fun r s4 hz=>?_)
  obtain⟨hr,I4⟩:=hz;subst hr;exact wpAny_execs_nil ⟨σ3,H3,I4,qn⟩
 ·refine YL hp (thn (T.item X rfl rfl rfl hc i pins s3 σ3 H3 X.xe I3 (stat fr3) st3 go) fun r s4 hz=>?_)
  obtain⟨u,hr,h4⟩:=hz;subst hr;refine YL hp (thn h4 fun y s5 hz=>?_)
  obtain⟨x,H5,I5,r5,y5,st5,fr5⟩:=hz;have I5':=I5.pinned (stat fr5) (T.obj _ _ st5);refine YL hp (thn (hg _ s5 σ3 H5 x u _ I5' r5 (step x H5 y5)) fun y s6 hz=>?_)
  obtain⟨σ6,H6,I6,q6⟩:=hz;refine YL hp (thn (hb _ s6 σ6 H6 _ I6 q6) fun f s7 q7=>?_)
  have again:∀{σ7:St}{H7:Hp},Inv X (pins++jK fp s5.heap) σ7 H7 s7->N σ7 H7->∃m,m<n/\∃i σ' H',Inv X pins σ' H' s7/\tn i s7.heap/\(∀b∈fp,H' b=none)/\W i m σ' H':=fun{σ7 H7} I7 n7=>by
   obtain⟨m',hm,w7⟩:=hN σ7 H7 n7;refine⟨m',hm,i+1,σ7,H7,I7.unpinned,T.keep _ _ _ st5 fun b hb o e=>(I7.pin (b,o) (Zt _ (Zt _ (cx hb e)))).1,fun b hb=>?_,w7⟩
   obtain⟨o,e,d⟩:=T.obj _ _ st5 b hb;exact(I7.pin (b,o) (Zt _ (Zt _ (cx hb e)))).2.1
  cases f with
  |next=>obtain⟨σ7,H7,I7,n7⟩:=q7;exact again I7 n7
  |cont=>obtain⟨σ7,H7,I7,n7⟩:=q7;exact again I7 n7
  |brk=>obtain⟨σ7,H7,I7,q7⟩:=q7;exact⟨σ7,H7,I7.unpinned,q7⟩
  |ret v=>obtain⟨x7,σ7,H7,I7,r7,q7⟩:=q7;exact⟨x7,σ7,H7,I7.unpinned,r7,q7⟩
end
noncomputable abbrev R2:=V->V->Hp->VK->Prop
noncomputable def OpR (X:Cx) (f:Value->Value->Sem Value) (r:R2):Prop:=
 ∀(pins:List (Addr×Obj)) (s:Shared) (σ:St) (H:Hp) (x y:V) (v u:Value) (Q:VK),Inv X pins σ H s->RelV x v->RelV y u->r x y H Q->
  wpAny (model X.prog X.w) X.A (f v u) (EP X pins σ Q) X.xe s
noncomputable def cO (X:Cx) (f:Value) (r:List V->Hp->VK->Prop):Prop:=
 ∀(pins:List (Addr×Obj)) (s:Shared) (σ:St) (H:Hp) (xs:List V) (us:List Value) (Q:VK),Inv X pins σ H s->Vals xs us->r xs H Q->
  wpAny (model X.prog X.w) X.A (call f us) (EP X pins σ Q) X.xe s
noncomputable def DY (X:Cx) (r:V->Hp->(Bool->Hp->Prop)->Prop):Prop:=
 ∀(pins:List (Addr×Obj)) (s:Shared) (σ:St) (H:Hp) (x:V) (v:Value) (Q:Bool->Hp->Prop),Inv X pins σ H s->RelV x v->r x H Q->
  wpAny (model X.prog X.w) X.A (truthy v) (TP X pins σ Q) X.xe s
noncomputable def tOp (r:R2) (ta tb:TE):TE:=fun σ H Q=>ta σ H fun x H1=>tb σ H1 fun y H2=>r x y H2 Q
noncomputable def rI (C:Int->Int->Prop) (g:Int->Int->V):R2:=fun x y H Q=>∃i j,x=.int i/\y=.int j/\C i j/\Q (g i j) H
noncomputable def rI0 (g:Int->Int->V):R2:=fun x y H Q=>∃i j,x=.int i/\y=.int j/\Q (g i j) H
section
variable{X:Cx}{a b c:Expr}{ta tb tc:TE}{pos:Pos}
theorem A6 (ha:PE X a ta) (hb:PE X b tb) {pins:List (Addr×Obj)}{s:Shared}{σ:St}{H:Hp}{R:V->V->Hp->Prop}(I:Inv X pins σ H s)
  (h:ta σ H fun x H1=>tb σ H1 fun y H2=>R x y H2) {Q:Value->Shared->Prop}{f:Value->Value->Sem Value}
  (hf:∀v u s2 x y H2,Inv X pins σ H2 s2->RelV x v->RelV y u->R x y H2->wpAny (model X.prog X.w) X.A (f v u) Q X.xe s2):
  wpAny (model X.prog X.w) X.A (eval a X.env) (fun v s₁=>wpAny (model X.prog X.w) X.A (eval b X.env) (fun u s₂=>wpAny (model X.prog X.w) X.A (f v u) Q X.xe s₂) X.xe s₁) X.xe s:=by
 refine thn (ha pins s σ H _ I h) fun v s1 hz=>?_
 obtain⟨x,H1,I1,r1,q1⟩:=hz;refine thn (hb pins s1 σ H1 _ I1 q1) fun u s2 hz=>?_
 obtain⟨y,H2,I2,r2,q2⟩:=hz;exact hf v u s2 x y H2 I2 r1 r2 q2
theorem tX {op:Operator}{r:R2}(ho:OpR X (binaryOp op) r) (ha:PE X a ta) (hb:PE X b tb):PE X (.BinOp a op b pos) (tOp r ta tb):=by
 intro pins s σ H Q I h;exact wpAny_BinOp (A6 ha hb I h fun v u s2 x y H2 I2 rx ry q=>ho pins s2 σ H2 x y v u Q I2 rx ry q)
theorem opI {f:Value->Value->Sem Value}{C:Int->Int->Prop}{g:Int->Int->Int}
  (rule:∀(i j:Int) (t u:Tok) (s:Shared) (Q:Value->Shared->Prop) (E:Value->Shared->Prop),C i j->Q (.int (g i j) s.toks) {s with toks:=s.toks+1}->wpAny (model X.prog X.w) X.A (f (.int i t) (.int j u)) Q E s):
  OpR X f (rI C fun i j=>.int (g i j)):=by
 intro pins s σ H x y v u Q I rx ry h;obtain⟨i,j,rfl,rfl,hc,q⟩:=h;obtain⟨t,rfl⟩:=rx;obtain⟨t',rfl⟩:=ry;exact rule i j t t' s _ _ hc ⟨.int (g i j),H,I.tok _,⟨_,rfl⟩,q⟩
theorem Dm {f:Value->Value->Sem Value}{g:Int->Int->Int}
  (rule:∀(i j:Int) (t u:Tok) (s:Shared) (Q:Value->Shared->Prop) (E:Value->Shared->Prop),Q (.int (g i j) s.toks) {s with toks:=s.toks+1}->wpAny (model X.prog X.w) X.A (f (.int i t) (.int j u)) Q E s):
  OpR X f (rI0 fun i j=>.int (g i j)):=by
 intro pins s σ H x y v u Q I rx ry h;obtain⟨i,j,rfl,rfl,q⟩:=h;obtain⟨t,rfl⟩:=rx;obtain⟨t',rfl⟩:=ry;exact rule i j t t' s _ _ ⟨.int (g i j),H,I.tok _,⟨_,rfl⟩,q⟩
theorem AQ {f:Value->Value->Sem Value}{g:Int->Int->Bool}
  (rule:∀(i j:Int) (t u:Tok) (s:Shared) (Q:Value->Shared->Prop) (E:Value->Shared->Prop),Q (.bool (g i j)) s->wpAny (model X.prog X.w) X.A (f (.int i t) (.int j u)) Q E s):
  OpR X f (rI0 fun i j=>.bl (g i j)):=by
 intro pins s σ H x y v u Q I rx ry h;obtain⟨i,j,rfl,rfl,q⟩:=h;obtain⟨t,rfl⟩:=rx;obtain⟨t',rfl⟩:=ry;exact rule i j t t' s _ _ ⟨.bl (g i j),H,I,rfl,q⟩
noncomputable def Ew (i j:Int):Prop:=0<j/\j<1073741824
noncomputable def CMul (i j:Int):Prop:=(-(2 ^ 64)<i/\i<2 ^ 64)\/(-(2 ^ 64)<j/\j<2 ^ 64)
theorem CMul.ok {i j:Int}(h:CMul i j):IntMulOk i j:=by
 rcases h with⟨h1,h2⟩|⟨h1,h2⟩
 ·exact .of_left (intBits_le_64 h1 h2)
 ·exact .of_right (intBits_le_64 h1 h2)
theorem zG:OpR X (binaryOp .Add) (rI0 fun i j=>.int (i+j)):=Dm fun y y y y y y y q=>add_int q
theorem yZ:OpR X (binaryOp .Mult) (rI CMul fun i j=>.int (i*j)):=opI fun y y y y y y y hc q=>mul_int q hc.ok
theorem w8:OpR X (binaryOp .FloorDiv) (rI Ew fun i j=>.int (i / j)):=opI fun i j y y y y y hc q=>by
 have h1:(0:Int)<j:=hc.1;have h2:j<1073741824:=hc.2;exact floordiv_int (by lia) (by rw[Int.fdiv_eq_ediv_of_nonneg i (by lia)];exact q) (.inl (PyProof.noPylong_small (by lia)))
theorem zw:OpR X (binaryOp .Mod) (rI (fun y j=>0<j) fun i j=>.int (i%j)):=opI fun i j y y y y y hc q=>by
 have h1:(0:Int)<j:=hc;exact mod_int' (by lia) (by rw[Int.fmod_eq_emod_of_nonneg i (by lia)];exact q)
end
section
variable{X:Cx}{a b c:Expr}{ta tb tc:TE}{pos:Pos}
theorem vW {pins:List (Addr×Obj)}{σ:St}{H:Hp}{s:Shared}{Q:VK}{k k':Bool}(I:Inv X pins σ H s) (q:Q (.bl k) H) (e:k=k'):EP X pins σ Q (.bool k') s:=by
 subst e;exact⟨.bl k,H,I,rfl,q⟩
theorem BU:OpR X (compareOp .Lt) (rI0 fun i j=>.bl (decide (i<j))):=AQ fun y y y y y y y q=>lt_int q
theorem A9:OpR X (compareOp .LtE) (rI0 fun i j=>.bl (decide (i<=j))):=AQ fun y y y y y y y q=>le_int q
theorem Bs:OpR X (compareOp .Gt) (rI0 fun i j=>.bl (decide (j<i))):=AQ fun y y y y y y y q=>gt_int q
theorem A8:OpR X (compareOp .GtE) (rI0 fun i j=>.bl (decide (j<=i))):=AQ fun y y y y y y y q=>ge_int q
theorem Aq:OpR X (compareOp .Is) (fun x y H Q=>y=.non/\Q (.bl (decide (x=.non))) H):=by
 intro pins s σ H x y v u Q I rx ry h;obtain⟨rfl,q⟩:=h;cases ry;refine is_none_gen (vW I q ?_)
 cases x<;>first
  |(cases rx;rfl)
  |(obtain⟨t,rfl⟩:=rx;rfl)
theorem wB:OpR X (compareOp .IsNot) (fun x y H Q=>y=.non/\Q (.bl (!decide (x=.non))) H):=by
 intro pins s σ H x y v u Q I rx ry h;obtain⟨rfl,q⟩:=h;cases ry;refine isnot_none_gen (vW I q ?_)
 cases x<;>first
  |(cases rx;rfl)
  |(obtain⟨t,rfl⟩:=rx;rfl)
theorem i6 (b:Expr) {op:CmpOp}(h:op≠.In:=by decide) (h2:op≠.NotIn:=by decide):behindInMarks op b=false:=by
 have e1:(op==CmpOp.In)=false:=by cases op<;>first|rfl|exact absurd rfl h
 have e2:(op==CmpOp.NotIn)=false:=by cases op<;>first|rfl|exact absurd rfl h2
 cases b<;>simp[behindInMarks,e1,e2]
theorem k9 {op:CmpOp}{r:R2}(ho:OpR X (compareOp op) r) (ha:PE X a ta) (hb:PE X b tb) (hm:behindInMarks op b=false):PE X (.Compare a [op] [b] pos) (tOp r ta tb):=by
 intro pins s σ H Q I h;exact wpAny_Compare1 (A6 ha hb I h fun v u s2 x y H2 I2 rx ry q=>ho pins s2 σ H2 x y v u Q I2 rx ry q) hm
noncomputable def BR (t:TE):TT:=fun σ H Q=>t σ H fun x H'=>∃k,x=.bl k/\Q k H'
theorem bq {op:CmpOp}{r:R2}(ho:OpR X (compareOp op) r) (ha:PE X a ta) (hb:PE X b tb) (hm:behindInMarks op b=false):PT X (.Compare a [op] [b] pos) (BR (tOp r ta tb)):=by
 intro pins s σ H Q I h;refine wpAny_isTrue_Compare1 (thn (ha pins s σ H _ I h) fun v s1 hz=>?_) hm
 obtain⟨x,H1,I1,r1,q1⟩:=hz;refine thn (hb pins s1 σ H1 _ I1 q1) fun u s2 hz=>?_
 obtain⟨y,H2,I2,r2,q2⟩:=hz;refine thn (ho pins s2 σ H2 x y v u _ I2 r1 r2 q2) fun c s3 hz=>?_
 obtain⟨z,H3,I3,r3,k,e,q3⟩:=hz;subst e;cases r3;exact wpAny_truthy_bool ⟨H3,I3,q3⟩
noncomputable def Cf (K:PySem.W.Frag) (x:V) (H:Hp) (k:Bool):Prop:=
 match x with
 |.non=>k=false
 |.bl b=>k=b
 |.int i=>k=(i != 0)
 |.str y=>y.length<=sizeLine/\k=((y.length:Int) != 0)
 |.byt y=>y.size<=sizeLine/\k=((y.size:Int) != 0)
 |.ref p=>(∃xs,SqL K H p xs/\k=!xs.isEmpty)\/(∃xs,SqT K H p xs/\k=!xs.isEmpty)\/∃kvs,H p=some (.dK kvs)/\k=!kvs.isEmpty
 |_=>False
theorem ny {κ:Type}{kvs:List (κ×V)}{vs:List (κ×Value)}(r:KV kvs vs):(!vs.isEmpty)=!kvs.isEmpty:=by
 cases r<;>rfl
theorem fZ {xs:List V}{its:List Value}(r:Vals xs its):(!its.toArray.isEmpty)=!xs.isEmpty:=by
 cases r<;>simp
theorem i7:(sizeLine:Nat)<2 ^ 63:=by rw[Z7];decide
theorem Aj:DY X (fun x H Q=>∃k,Cf X.K x H k/\Q k H):=by
 intro pins s σ H x v Q I rx h;obtain⟨k,e,q⟩:=h;have hl:=i7;have hs:sizeLine=16777216:=Z7;cases x with
 |non=>
  cases rx;have e':k=false:=e;subst e';exact truthy_none ⟨H,I,q⟩
 |bl b=>
  cases rx;have e':k=b:=e;subst e';exact wpAny_truthy_bool ⟨H,I,q⟩
 |int i=>
  obtain⟨t,rfl⟩:=rx;have e':k=(i != 0):=e;subst e';exact PySem.P.truthy_int ⟨H,I,q⟩
 |str y=>
  obtain⟨t,rfl⟩:=rx;obtain⟨hy,e'⟩:y.length<=sizeLine/\k=((y.length:Int) != 0):=e;subst e';exact PySem.P.truthy_str (by lia) ⟨H,I.tok _,q⟩
 |byt y=>
  obtain⟨t,rfl⟩:=rx;obtain⟨hy,e'⟩:y.size<=sizeLine/\k=((y.size:Int) != 0):=e;subst e';exact PySem.W.truthy_bytes (by lia) ⟨H,I.tok _,q⟩
 |ref p=>
  cases rx;have e':(∃xs,SqL X.K H p xs/\k=!xs.isEmpty)\/(∃xs,SqT X.K H p xs/\k=!xs.isEmpty)\/∃kvs,H p=some (.dK kvs)/\k=!kvs.isEmpty:=e
  rcases e' with⟨xs,hx,e'⟩|⟨xs,hx,e'⟩|⟨kvs,hx,e'⟩
  ·subst e'
   obtain⟨its,r,pl,hz⟩:=I.list hx;have hlen:=r.length;exact wpAny_truthy_list pl.isList (by simp only[Zh];lia) ⟨H,I.tok _,by rw[fZ r];exact q⟩
  ·subst e'
   obtain⟨its,r,pl,hz⟩:=I.tuple hx;have hlen:=r.length;exact truthy_tuple pl (by simp only[Zh];lia) ⟨H,I.tok _,by rw[fZ r];exact q⟩
  ·subst e'
   obtain⟨hz,hS,vs,r,m⟩:kvs.length<=sizeLine/\(p==sysModules)=false/\∃vs,KV kvs vs/\s.heap.DictOf (bK X.prog X.w) p vs:=I.hok p _ hx;have hlen:kvs.length=vs.length:=Ye r;exact wpAny_truthy_dict hS m (by lia) ⟨H,I.tok _,by rw[ny r];exact q⟩
 |_=>exact(show False from e).elim
theorem lO (ha:PE X a ta) (he:∀whole,isTrue a X.env whole=(do let v <-whole;standAt a.pos;holding [v] (truthy v))):
  PT X a (fun σ H Q=>ta σ H fun x H'=>∃k,Cf X.K x H' k/\Q k H'):=by
 intro pins s σ H Q I h;exact isTrue_plain (thn (ha pins s σ H _ I h) fun v s1 hz=>by obtain⟨x,H1,I1,r1,q1⟩:=hz;exact Aj pins s1 σ H1 x v Q I1 r1 q1) (he _)
theorem nz:OpR X (binaryOp .Add) (fun x y H Q=>∃i j,x=.str i/\y=.str j/\i.length+j.length<=sizeLine/\Q (.str (i++j)) H):=by
 intro pins s σ H x y v u Q I rx ry h;obtain⟨i,j,rfl,rfl,hz,q⟩:=h;obtain⟨t,rfl⟩:=rx;obtain⟨t',rfl⟩:=ry;exact add_str (fun t' tk=>⟨.str (i++j),H,I.tok _,⟨_,rfl⟩,q⟩) hz
theorem dP {x:V}{us:List Value}(r:Vals [x] us):∃u,us=[u]/\RelV x u:=by
 cases r with
 |cons r1 r2=>cases r2;exact⟨_,rfl,r1⟩
theorem BZ {x y:V}{us:List Value}(r:Vals [x,y] us):∃u w',us=[u,w']/\RelV x u/\RelV y w':=by
 cases r with
 |cons r1 r2=>
  cases r2 with
  |cons r3 r4=>cases r4;exact⟨_,_,rfl,r1,r3⟩
end
section
variable{prog:Program}{w:World}{A:Around}{E:Value->Shared->Prop}{s:Shared}{K:PySem.W.Frag}{x dx C f:Addr}{mA:Str->Option Value}{name:Str}{v:Value}
end
theorem RelO.some_of {v:V}{o:Option Value}(r:RelO (some v) o):∃u,o=some u/\RelV v u:=by
 cases o with
 |none=>exact(show False from r).elim
 |some u=>exact⟨u,rfl,r⟩
theorem RelO.none_of {o:Option Value}(r:RelO none o):o=none:=by
 cases o with
 |none=>rfl
 |some u=>exact(show False from r).elim
section
variable{P:Program}{w:World}{H H':Hp}{h h':Heap}{a C dx:Addr}{fs fs':List (Str×V)}
end
section
variable{X:Cx}{pins:List (Addr×Obj)}{σ:St}{H:Hp}{s:Shared}{a C dx:Addr}{fs:List (Str×V)}{f:Str}{v:V}{A:Around}{E:Value->Shared->Prop}
end
section
variable{X:Cx}{o e value:Expr}{f:Str}{pos pos' tpos:Pos}{ta tv:TE}
end
section
variable{X:Cx}{pins:List (Addr×Obj)}{σ:St}{H:Hp}{s:Shared}{A:Around}{E:Value->Shared->Prop}{Q:Value->Shared->Prop}{c:Value}{b:Bool}
inductive TyOf (K:PySem.W.Frag) (H:Hp):V->Value->Prop where
 |non:TyOf K H .non (.type "NoneType")
 |bl (x:Bool):TyOf K H (.bl x) (.type "bool")
 |int (i:Int):TyOf K H (.int i) (.type "int")
 |str (x:Str):TyOf K H (.str x) (.type "str")
 |flt (x:UInt64):TyOf K H (.flt x) (.type "float")
 |lst {a:Addr}{xs:List V}(e:H a=some (.lst xs)):TyOf K H (.ref a) (.type "list")
 |frz {a:Addr}{o:Obj}{xs:List V}(e:H a=some (.frz o (.lst xs))):TyOf K H (.ref a) (.type "list")
 |tup {a:Addr}{xs:List V}(e:H a=some (.tup xs)):TyOf K H (.ref a) (.type "tuple")
 |dK {a:Addr}{kvs:List (Key×V)}(e:H a=some (.dK kvs)):TyOf K H (.ref a) (.type "dict")
theorem cX {x:V}{u t:Value}(I:Inv X pins σ H s) (rx:RelV x u) (ty:TyOf X.K H x t) (e:PySem.W.kitOne X.K t c=some b) (h:∀tk,Q (.bool b) {s with toks:=tk}):
  wpAny (model X.prog X.w) A (call (.builtin "isinstance") [u,c]) Q E s:=by
 cases ty with
 |non=>cases (show u=Value.none from rx);exact Z9 PySem.W.kitx_none I.kIn True.intro e (fun z=>nomatch z) h
 |bl y=>cases (show u=Value.bool y from rx);exact Z9 PySem.W.kitx_bool I.kIn True.intro e (fun z=>nomatch z) h
 |int i=>obtain⟨t,q⟩:=(show ∃t,u=Value.int i t from rx);cases q;exact Z9 PySem.W.kitx_int I.kIn True.intro e (fun z=>nomatch z) h
 |str y=>obtain⟨t,q⟩:=(show ∃t,u=Value.str y t from rx);cases q;exact Z9 PySem.W.kitx_str I.kIn True.intro e (fun z=>nomatch z) h
 |flt y=>obtain⟨t,q⟩:=(show ∃t,u=Value.float y t from rx);cases q;exact Z9 PySem.W.kitx_float I.kIn True.intro e (fun z=>nomatch z) h
 | @lst a xs ea=>
  cases (show u=Value.ref a from rx)
  obtain⟨_,_,n,_,h1⟩:=(show ObjOk X.prog X.w H s.heap a (.lst xs) from I.hok a _ ea)
  exact Z9 PySem.W.kitx_list I.kIn ⟨_,h1,rfl⟩ e (fun z=>nomatch z) h
 | @frz a ob xs ea=>
  cases (show u=Value.ref a from rx)
  obtain⟨_,_,_,n,_,h1⟩:=(show ObjOk X.prog X.w H s.heap a (.frz ob (.lst xs)) from I.hok a _ ea)
  exact Z9 PySem.W.kitx_list I.kIn ⟨_,h1,rfl⟩ e (fun z=>nomatch z) h
 | @tup a xs ea=>
  cases (show u=Value.ref a from rx)
  obtain⟨_,_,_,p⟩:=(show ObjOk X.prog X.w H s.heap a (.tup xs) from I.hok a _ ea)
  obtain⟨o,h1,h2,_⟩:=p;exact Z9 PySem.W.kitx_tuple I.kIn ⟨o,h1,h2⟩ e (fun z=>nomatch z) h
 | @dK a kvs ea=>
  cases (show u=Value.ref a from rx)
  obtain⟨_,_,vs,_,p⟩:=(show ObjOk X.prog X.w H s.heap a (.dK kvs) from I.hok a _ ea)
  obtain⟨o,es,ep,h1,h2,_⟩:=p;exact Z9 PySem.W.kitx_dict I.kIn ⟨o,h1,h2.1⟩ e (fun z=>nomatch z) h
end
structure Room (k:Nat) (A:Around):Prop where
 hd:A.handled=none
 dp:A.depth+3*k+5<recursionLimit
 un:A.units+16*k+200<cLine
theorem Room.mono {j k:Nat}{A:Around}(r:Room k A) (h:j<=k):Room j A:=⟨r.hd,by have:=r.dp;lia,by have:=r.un;lia⟩
theorem Room.deeper {k:Nat}{A:Around}(r:Room (k+1) A) (env:Env):Room k (A.deeper env):=
 ⟨r.hd,by have:=r.dp;show A.depth+1+3*k+5<_;lia,by have:=r.un;show A.units+3+16*k+200<_;lia⟩
theorem Room.in1 {k:Nat}{A:Around}(r:Room (k+1) A):Room k A.in1:=
 ⟨r.hd,by have:=r.dp;show A.depth+3*k+5<_;lia,by have:=r.un;show A.units+1+16*k+200<_;lia⟩
theorem Room.depth {k:Nat}{A:Around}(r:Room k A):A.depth<recursionLimit:=by have:=r.dp;lia
theorem Room.units {k:Nat}{A:Around}(r:Room k A):A.units+64<cLine:=by have:=r.un;lia
noncomputable def tNil:TA:=fun y H Q=>Q [] H
noncomputable def nH (ta:TE) (tr:TA):TA:=fun σ H Q=>ta σ H fun x H1=>tr σ H1 fun xs H2=>Q (x::xs) H2
section
variable{X:Cx}{e:Expr}{es:List Expr}{te:TE}{t:TA}{pos:Pos}
theorem aH:PA X [] tNil:=fun y y y y H Q I h=>Calls.spliced_nil ⟨[],H,I,.nil,h⟩
theorem ar (ha:PE X e te) (hr:PA X es t) (hs:starEach (e::es) X.env=(false,eval e X.env)::starEach es X.env:=by rfl):PA X (e::es) (nH te t):=by
 intro pos pins s σ H Q I h;rw[hs];show wpAny _ _ (spliced ((false,eval e X.env)::backTo pos (starEach es X.env))) _ _ s;refine Calls.spliced_cons (thn (ha pins s σ H _ I h) fun u s1 hz=>?_)
 obtain⟨x,H1,I1,r1,q1⟩:=hz;exact thn (hr pos pins s1 σ H1 _ I1 q1) fun us s2 hz=>by obtain⟨xs,H2,I2,r2,q2⟩:=hz;exact⟨x::xs,H2,I2,.cons r1 r2,q2⟩
noncomputable def Dr (t:TA):TE:=fun σ H Q=>t σ H fun xs H1=>xs.length<=sizeLine/\∀p,H1 p=none->Q (.ref p) (upd H1 p (.tup xs))
noncomputable def Do (t:TA):TE:=fun σ H Q=>t σ H fun xs H1=>xs.length<=sizeLine/\∀p,H1 p=none->Q (.ref p) (upd H1 p (.lst xs))
theorem AG {x1} (h:PA X es t):PE X (.Tuple es x1 pos) (Dr t):=by
 intro pins s σ H Q I hq;refine wpAny_Tuple_spliced (thn (h pos pins s σ H _ I hq) fun us s1 hz=>?_)
 obtain⟨xs,H1,I1,r,z,q⟩:=hz;refine⟨by rw[<-r.length];exact z,?_⟩
 have hf:H1 s1.heap.objs.size=none:=I1.hok.fresh (Zk _);refine⟨.ref s1.heap.objs.size,upd H1 s1.heap.objs.size (.tup xs),I1.laid (t':=s1.toks) (fun b u e=>Zc _ e) (Zk _) ?_,rfl,q _ hf⟩
 exact⟨z,us,r,⟨_,Zj _ rfl,rfl,_,rfl⟩⟩
theorem zK (h:PA X es t):PE X (.List es pos) (Do t):=by
 intro pins s σ H Q I hq;refine wpAny_List_spliced (thn (h pos pins s σ H _ I hq) fun us s1 hz=>?_)
 obtain⟨xs,H1,I1,r,z,q⟩:=hz;refine⟨by rw[<-r.length];exact z,?_⟩
 have hf:H1 s1.heap.objs.size=none:=I1.hok.fresh (Zk _);refine⟨.ref s1.heap.objs.size,upd H1 s1.heap.objs.size (.lst xs),I1.laid (t':=s1.toks) (fun b u e=>Zc _ e) (Zk _) ?_,rfl,q _ hf⟩
 exact⟨z,us,0,r,Zj _ rfl⟩
end
noncomputable abbrev Sp:=List V->Hp->VK->XK->Prop
noncomputable abbrev CXT:=List Env->Hp->Shared->XK->Value->Shared->Prop
structure Env0 (P:Program) (w:World) (K:PySem.W.Frag) (mg:Str->Option Value) (base:Heap) (A:Around) (outer:List Env) (s:Shared) (H:Hp):Prop where
 frames:A.frames=some outer
 mod:Mod K mg base
 bs:∀b o,base.get? b=some o->s.heap.get? b=some o/\H b=none
 bsz:base.objs.size<=s.heap.objs.size
 funs:s.heap.FunFrames base outer
 frf:∀b∈frs outer,H b=none
 hok:HOk P w H s.heap
 bare:AllBare s.gens
 tabs:TabH H
noncomputable def CE (outer:List Env) (P:Program) (w:World) (H:Hp) (s:Shared) (Q:VK) (u:Value) (s':Shared):Prop:=
 ∃v H',s'.os=s.os/\AllBare s'.gens/\Un (frs outer) [] H H' s.heap s'.heap/\HOk P w H' s'.heap/\RelV v u/\Q v H'
noncomputable def CR (CX:CXT) (outer:List Env) (P:Program) (w:World) (H:Hp) (s:Shared) (Q:VK) (E:XK) (r:Result) (s':Shared):Prop:=
 match r with
 |.ok (.ret u)=>CE outer P w H s Q u s'
 |.ok _=>False
 |.error e=>CX outer H s E e s'
structure FnOk (P:Program) (w:World) (K:PySem.W.Frag) (mg:Str->Option Value) (base:Heap) (CX:CXT) (k:Nat) (f:Addr) (fd:FuncData) (ps:List Str) (sp:Sp):Prop where
 len:∀vs H Q E,sp vs H Q E->vs.length=ps.length
 run:∀(A:Around) (outer:List Env) (s:Shared) (H:Hp) (args:Args) (us:List Value) (vs:List V) (Q:VK) (E:XK),Room k A->Env0 P w K mg base A outer s H->BindsTo s fd args (ps.zip us)->Vals vs us->sp vs H Q E->
  codeAny (model P w) A (.call (.ref f) args) (CR CX outer P w H s Q E) s
theorem Env0.in1 {P:Program}{w:World}{K:PySem.W.Frag}{mg:Str->Option Value}{base:Heap}{A:Around}{outer:List Env}{s:Shared}{H:Hp}(e:Env0 P w K mg base A outer s H):
  Env0 P w K mg base A.in1 outer s H:=⟨e.frames,e.mod,e.bs,e.bsz,e.funs,e.frf,e.hok,e.bare,e.tabs⟩
section
variable{X:Cx}{pins:List (Addr×Obj)}{σ:St}{H:Hp}{s s':Shared}
theorem Inv.env0 (I:Inv X pins σ H s):Env0 X.prog X.w X.K X.mg X.base X.A X.stack s H:=
 ⟨I.ok.frames,I.ok.mod,I.bs,ZM I.ok.bsz I.sz,I.stack,I.stkFree,I.hok,I.bare,I.ok.tabs.to I.base.tbls⟩
theorem Inv.after {Q:VK}{u:Value}(I:Inv X pins σ H s) (h:CE X.stack X.prog X.w H s Q u s'):EP X pins σ Q u s':=by
 obtain⟨v,H',os,bare,un,hok,r,q⟩:=h;obtain⟨hh,g,d,t,os'⟩:=s';obtain rfl:os'=s.os:=os;exact⟨v,H',I.call (h':=hh) (g':=g) (d':=d) (t':=t) (ch:=[]) un hok bare (fun b z=>absurd z (by simp)),r,q⟩
end
noncomputable def BT (sp:Sp) (dvs:List V) (E:XK) (t:TA):TE:=fun σ H Q=>t σ H fun vs H1=>sp (vs++dvs) H1 Q E
noncomputable def Binds (K:PySem.W.Frag) (fd:FuncData) (ps:List Str) (ds:List Value):Prop:=
 ∀(s:Shared) (us:List Value),K.In s.heap->(us++ds).length=ps.length->BindsTo s fd ⟨us,[]⟩ (ps.zip (us++ds))
theorem Binds.all {K:PySem.W.Frag}{fd:FuncData}{ps:List Str}(h:∀us:List Value,us.length=ps.length->bindArgs fd ⟨us,[]⟩=pure (ps.zip us)):Binds K fd ps []:=fun s us y hl=>by
 rw[Yt]at hl⊢;exact .of_eq (h us hl)
noncomputable def rT (CX:CXT) (X:Cx) (E:XK):Prop:=∀(pins:List (Addr×Obj)) (σ:St) (H:Hp) (s:Shared) (e:Value) (s':Shared),Inv X pins σ H s->CX X.stack H s E e s'->X.xe e s'
section
variable{X:Cx}{CX:CXT}{k:Nat}{f C:Addr}{fd:FuncData}{ps:List Str}{sp:Sp}{dvs:List V}{ds:List Value}{E:XK}{x m:Str}{p pos apos:Pos}{e o:Expr}{es:List Expr}{ta:TE}{t:TA}
theorem yu {pins:List (Addr×Obj)}{σ:St}{H:Hp}{s:Shared}{Q:VK}{us:List Value}{vs:List V}(F:FnOk X.prog X.w X.K X.mg X.base CX k f fd ps sp) (hr:Room k X.A) (hb:Binds X.K fd ps ds) (hd:Vals dvs ds) (hx:rT CX X E)
  (I:Inv X pins σ H s) (r:Vals vs us) (h:sp (vs++dvs) H Q E):wpAny (model X.prog X.w) X.A (call (.ref f) us) (EP X pins σ Q) X.xe s:=by
 have r2:Vals (vs++dvs) (us++ds):=r.append hd;have hl:(us++ds).length=ps.length:=by rw[<-r2.length];exact F.len _ _ _ _ h
 refine wpAny_call (codeAny_mono (F.run X.A X.stack s H ⟨us,[]⟩ (us++ds) (vs++dvs) Q E hr I.env0 (hb s us I.kIn hl) r2 h) fun r s' hq=>?_)
 cases r with
 |error e=>exact hx pins σ H s e s' I hq
 |ok fl=>
  cases fl with
  |ret u=>exact I.after hq
  |next=>exact False.elim hq
  |brk=>exact False.elim hq
  |cont=>exact False.elim hq
theorem xz (F:FnOk X.prog X.w X.K X.mg X.base CX k f fd ps sp) (hr:Room k X.A) (hg:Gl X x) (hm:X.mg x=some (.ref f)) (hk:PySem.W.keepIn X.K (.ref f)=true) (hb:Binds X.K fd ps ds) (hd:Vals dvs ds) (hx:rT CX X E)
  (ha:PA X (e::es) t) (hdb:(x==("__debug__":Str))=false:=by decide) (he:starEach (e::es) X.env=(false,eval e X.env)::starEach es X.env:=by rfl) (hpl:(backTo pos (starEach es X.env)).any (·.1)=false:=by rfl):
  PE X (.Call (.Name x p) (e::es) [] pos) (BT sp dvs E t):=by
 intro pins s σ H Q I h;refine YJ (w9 I hg hm ?_ hdb)
 refine PySem.W.callWith_K (h₀:=X.base) I.ok.mod.kin hk (thn (ha pos pins s σ H _ I h) fun us s1 hz=>?_) he hpl
 obtain⟨vs,H1,I1,r,q⟩:=hz;exact⟨I1.kIn,yu F hr hb hd hx I1 r q⟩
end
section
variable{X:Cx}{CX:CXT}{k:Nat}{f C:Addr}{fd:FuncData}{ps ks:List Str}{sp:Sp}{E:XK}{x m:Str}{p pos apos kpos:Pos}{e o:Expr}{es:List Expr}{kws:List Keyword}{te ta:TE}{t tk:TA}{nm:Option Str}
variable{g:List Value->List Value->List Value}{gV:List V->List V->List V}
end
structure FnScope (N P:List Str) (sc:Scope):Prop where
 kind:sc.kind=.function
 co:sc.isCoroutine=false
 gen:sc.isGenerator=false
 nd:N.Nodup
 pre:N.take P.length=P
 par:∀x∈P,sc.names.lookup x=some .local\/sc.names.lookup x=some .cell
 nofree:∀y∈sc.names,y.2≠.free
theorem jr {kindOf:Str->Option NameKind}{x:Str}:∀{binds:List (Str×Value)}{m:Str->Option Value},(∀v,(x,v)∉binds)->bindL kindOf binds m x=m x
 |[],_,_=>rfl
 |(n,v)::r,m,h=>by
  unfold bindL;rw[jr fun w hw=>h w (Ze _ hw)]
  split
  ·have:x≠n:=by rintro rfl;exact h v Zg
   simp[this]
  ·rfl
theorem iS {kindOf:Str->Option NameKind}{x:Str}:∀{binds:List (Str×Value)}{m:Str->Option Value},(∀v,(x,v)∉binds)->bindC kindOf binds m x=m x
 |[],_,_=>rfl
 |(n,v)::r,m,h=>by
  unfold bindC;rw[iS fun w hw=>h w (Ze _ hw)]
  split
  ·rfl
  ·have:x≠n:=by rintro rfl;exact h v Zg
   simp[this]
theorem jM {kindOf:Str->Option NameKind}{x:Str}{v:Value}:∀{P:List Str}{vs:List Value}{i:Nat}{m:Str->Option Value},P.Nodup->P[i]?=some x->vs[i]?=some v->kindOf x=some .local->
  bindL kindOf (P.zip vs) m x=some v
 |[],_,_,_,_,h,_,_=>by simp at h
 |_::_,[],_,_,_,_,h,_=>by simp at h
 |p::P,w::vs,0,m,nd,h1,h2,hk=>by
  simp at h1 h2;subst h1;subst h2;show bindL kindOf ((p,w)::P.zip vs) m p=_;unfold bindL;rw[jr fun v hv=>(YB.mp nd).1 (List.of_mem_zip hv).1,Zm hk]
  simp
 |p::P,w::vs,i+1,m,nd,h1,h2,hk=>by
  show bindL kindOf ((p,w)::P.zip vs) m x=_;unfold bindL;exact jM (i:=i) (YB.mp nd).2 (by simpa using h1) (by simpa using h2) hk
theorem jc {kindOf:Str->Option NameKind}{x:Str}{v:Value}:∀{P:List Str}{vs:List Value}{i:Nat}{m:Str->Option Value},P.Nodup->P[i]?=some x->vs[i]?=some v->kindOf x≠some .local->
  bindC kindOf (P.zip vs) m x=some v
 |[],_,_,_,_,h,_,_=>by simp at h
 |_::_,[],_,_,_,_,h,_=>by simp at h
 |p::P,w::vs,0,m,nd,h1,h2,hk=>by
  simp at h1 h2;subst h1;subst h2;show bindC kindOf ((p,w)::P.zip vs) m p=_;unfold bindC;rw[iS fun v hv=>(YB.mp nd).1 (List.of_mem_zip hv).1,Zo hk]
  simp
 |p::P,w::vs,i+1,m,nd,h1,h2,hk=>by
  show bindC kindOf ((p,w)::P.zip vs) m x=_;unfold bindC;exact jc (i:=i) (YB.mp nd).2 (by simpa using h1) (by simpa using h2) hk
noncomputable def b0 (N:List Str) (vs:List V):St:=vs.map some++List.replicate (N.length - vs.length) none
noncomputable def kD (CX:CXT) (P:Program) (w:World) (K:PySem.W.Frag) (mg:Str->Option Value) (base:Heap) (N:List Str) (qual:Str) (scope:Scope) (f:Addr) (cd:Value) (A:Around) (outer:List Env) (s:Shared) (H:Hp) (E:XK):Cx where
 prog:=P
 w:=w
 K:=K
 mg:=mg
 base:=base
 A:=A.deeper (envOfC qual scope s.heap.objs.size f cd)
 N:=N
 s₀:=s
 H₀:=H
 env:=envOfC qual scope s.heap.objs.size f cd
 outer:=outer
 stack:=envOfC qual scope s.heap.objs.size f cd::outer
 ex:=[]
 calm:=true
 fn:=fun y=>true
 pn:=[]
 xe:=fun e s'=>wpAny (model P w) (A.deeper (envOfC qual scope s.heap.objs.size f cd)) (leaving (envOfC qual scope s.heap.objs.size f cd) e) (fun y s''=>CX outer H s E e s'') (fun e' s''=>CX outer H s E e' s'') s'
theorem mM {sc:Scope}{n:Nat}{x:Str}(h:sc.names.lookup x=some .cell):∃c,(cellsFrom n sc.names []).lookup x=some c:=by
 have q:=PySem.W.cellsFrom_some sc.names n [] (.inl h);exact Option.isSome_iff_exists.mp q
theorem jW {CX:CXT}{P:Program}{w:World}{K:PySem.W.Frag}{mg:Str->Option Value}{base:Heap}{N ps:List Str}{qual:Str}{scope:Scope}{f:Addr}{cd:Value}{A:Around}{outer:List Env}{s s1:Shared}{H:Hp}{E:XK}{us:List Value}{vs:List V}
  (S:FnScope N ps scope) (hd:A.handled=none) (e0:Env0 P w K mg base A outer s H) (hl:vs.length=ps.length) (r:Vals vs us)
  (x:InCallC s s.heap.objs.size (bindL (envOfC qual scope s.heap.objs.size f cd).kindOf (ps.zip us) fun o=>none) (cellsFrom (s.heap.objs.size+1) scope.names []) (bindC (envOfC qual scope s.heap.objs.size f cd).kindOf (ps.zip us) fun o=>none) s1):
  Inv (kD CX P w K mg base N qual scope f cd A outer s H E) [] (b0 N vs) H s1:=by
 have hpl:ps.length<=N.length:=by have:=YV List.length S.pre;rw[YX]at this;lia
 obtain⟨h1,tk,rfl,hk⟩:=x.done;have noA:∀b:Addr,b∉(kD CX P w K mg base N qual scope f cd A outer s H E).ex:=fun b z=>absurd (show b∈([]:List Addr) from z) (by simp)
 refine⟨⟨e0.mod,S.kind,rfl,rfl,Zk _,fun y z c h1 h2=>?_,fun y hy=>?_,fun y c o h=>?_,fun o=>hd,Around.frames_deeper e0.frames,.inr ⟨rfl,rfl⟩,fun b z=>absurd z (noA b),e0.bs,e0.bsz,fun b o o=>noA b,fun b z=>absurd z (noA b),e0.funs,e0.frf,e0.tabs⟩,
  rfl,e0.bare,Un.kept hk,⟨_,x.toInCall.ns,fun i y v h1 h2 h3=>?_⟩,fun y c h=>⟨_,x.cell y c h⟩,e0.hok.fresh (Zk _),fun y c h=>?_,fun p hp=>absurd (show p∈([]:List (Addr×Obj)) from hp) (by simp),e0.hok.kept hk,?_⟩
 ·exact name_of_addr x.apart (ZZ h1) (ZZ h2)
 ·have hy:scope.names.lookup y=some .cell\/scope.names.lookup y=some .free:=hy
  rcases hy with hy|hy
  ·exact mM hy
  ·exact absurd rfl (S.nofree _ (ZZ hy))
 ·exact Nat.le_of_lt (x.above y c (ZZ h))
 ·have hi:i<vs.length:=by
   unfold b0 at h2
   by_cases hi:i<vs.length
   ·exact hi
   ·rw[List.getElem?_append_right (by simpa using hi)]at h2
    rw[List.getElem?_replicate]at h2
    split at h2<;>cases h2
  have ha:vs[i]?=some v:=by
   unfold b0 at h2;rw[List.getElem?_append_left (by simpa using hi),YT]at h2
   cases e:vs[i]? with
   |none=>rw[e]at h2;contradiction
   |some a=>rw[e]at h2;cases h2;rfl
  obtain⟨u,hu,rv⟩:=r.get ha;have hp:ps[i]?=some y:=by
   rw[<-S.pre,List.getElem?_take_of_lt (by lia)];exact h1
  have ndP:ps.Nodup:=by rw[<-S.pre];exact S.nd.sublist (List.take_sublist _ _)
  refine⟨u,rv,?_⟩
  rcases S.par y (ZQ hp)with k|k
  ·exact .inl ⟨k,jM ndP hp hu k⟩
  ·obtain⟨c,e⟩:=mM (n:=s.heap.objs.size+1) k
   refine .inr ⟨.inl k,c,e,?_⟩
   have q:=x.cell y c e;rw[jc ndP hp hu (by show scope.names.lookup y≠_;rw[k];decide)]at q
   exact q
 ·exact e0.hok.fresh (Nat.le_of_lt (x.above y c (ZZ h)))
 ·unfold b0
  show _=N.length;rw[ZO,Zn,List.length_replicate]
  lia
theorem zh {CX:CXT}{P:Program}{w:World}{K:PySem.W.Frag}{mg:Str->Option Value}{base:Heap}{k:Nat}{f:Addr}{name qual:Str}{params:Arguments}{body:List Stmt}{scope:Scope}{dV kV doc pm cdv ct oc:Value}{an od:Option Addr}
  {osl:Array (Option Value)}{N ps:List Str}{sp:Sp}(lk:K.lookup f=some ⟨oc,od,.func (PySem.W.fnOf name qual params body scope dV kV doc pm an cdv ct),osl⟩) (hcd:PySem.W.codeIn K cdv qual=true) (S:FnScope N ps scope)
  (len:∀vs H Q E,sp vs H Q E->vs.length=ps.length)
  (hbody:∀(A:Around) (outer:List Env) (s:Shared) (H:Hp) (vs:List V) (Q:VK) (E:XK),Room k (A.deeper (envOfC qual scope s.heap.objs.size f cdv))->sp vs H Q E->
   ∃t,PSs (kD CX P w K mg base N qual scope f cdv A outer s H E) body t/\t {nx:=fun z H'=>Q .non H',rt:=Q} (b0 N vs) H):
  FnOk P w K mg base CX (k+1) f (PySem.W.fnOf name qual params body scope dV kV doc pm an cdv ct) ps sp:=by
 refine⟨len,fun A outer s H args us vs Q E hr e0 hb r hsp=>?_⟩
 have hl:=len _ _ _ _ hsp;have KX:K.In s.heap:=e0.mod.kin.keeps fun b o e=>(e0.bs b o e).1
 have lim:s.heap.NoLimit:=e0.mod.nolimit.keeps fun b o e=>(e0.bs b o e).1
 have hkind:∀y∈ps.zip us,scope.names.lookup y.1=some .local\/(scope.names.lookup y.1=some .cell/\((cellsFrom (s.heap.objs.size+1) scope.names []).lookup y.1).isSome=true):=fun y hy=>by
  obtain⟨n,v⟩:=y
  rcases S.par n (List.of_mem_zip hy).1 with q|q
  ·exact .inl q
  ·exact .inr ⟨q,PySem.W.cellsFrom_some _ _ _ (.inl q)⟩
 refine codeAny_call_function hr.depth (KX _ _ lk) rfl S.co S.gen rfl (PySem.W.codeRec_of KX hcd) (hb _ _ _ _ ?_)
 refine wpAny_newFunctionEnv_cells S.kind hkind fun env he s1 x=>?_
 subst he;refine⟨lim.keeps x.toInCall.keep,codeAny_func ?_⟩
 obtain⟨t,ht,hq⟩:=hbody A outer s H vs Q E (hr.deeper _) hsp;have I:Inv (kD CX P w K mg base N qual scope f cdv A outer s H E) [] (b0 N vs) H s1:=jW S hr.hd e0 hl r x;refine Z8 (ht [] s1 (b0 N vs) H _ I hq) (fun fl s' hs=>?_) fun e s' hs=>hs
 have fin:∀{σ':St}{H':Hp}{v:V}{u:Value},Inv (kD CX P w K mg base N qual scope f cdv A outer s H E) [] σ' H' s'->RelV v u->Q v H'->CE outer P w H s Q u s':=
  fun{σ' H' v u} J rv q=>⟨v,H',J.os,J.bare,J.base,J.hok,rv,q⟩
 cases fl with
 |ret u=>
  obtain⟨v,σ',H',J,rv,q⟩:=hs;exact fin J rv q
 |next=>
  obtain⟨σ',H',J,q⟩:=hs;exact fin (v:=V.non) (u:=Value.none) J rfl q
 |brk=>
  obtain⟨_,_,_,q⟩:=hs;exact False.elim q
 |cont=>
  obtain⟨_,_,_,q⟩:=hs;exact False.elim q
section
variable{X:Cx}{x:Str}{p pos:Pos}{e:Expr}{es:List Expr}{t:TA}{id T:String}{r:List V->Hp->VK->Prop}
noncomputable def tCB (r:List V->Hp->VK->Prop) (t:TA):TE:=fun σ H Q=>t σ H fun vs H1=>r vs H1 Q
theorem bM (hc:cO X (.builtin id) r) (hg:Gl X x) (hm:X.mg x=none) (hv:bootBuiltins x=some (.builtin id)) (ha:PA X (e::es) t) (hn:x≠"__name__":=by decide) (hdb:(x==("__debug__":Str))=false:=by decide)
  (he:starEach (e::es) X.env=(false,eval e X.env)::starEach es X.env:=by rfl) (hpl:(backTo pos (starEach es X.env)).any (·.1)=false:=by rfl):PE X (.Call (.Name x p) (e::es) [] pos) (tCB r t):=by
 intro pins s σ H Q I h;refine YJ (c9 I hg hm hv ?_ hn hdb)
 exact PyProof.Rows.callWith_builtin1 (thn (ha pos pins s σ H _ I h) fun us s1 hz=>by obtain⟨vs,H1,I1,r1,q1⟩:=hz;exact hc pins s1 σ H1 vs us Q I1 r1 q1) he hpl
theorem bH (hc:cO X (.type T) r) (hg:Gl X x) (hm:X.mg x=none) (hv:bootBuiltins x=some (.type T)) (ha:PA X (e::es) t) (hn:x≠"__name__":=by decide) (hdb:(x==("__debug__":Str))=false:=by decide)
  (he:starEach (e::es) X.env=(false,eval e X.env)::starEach es X.env:=by rfl) (hpl:(backTo pos (starEach es X.env)).any (·.1)=false:=by rfl):PE X (.Call (.Name x p) (e::es) [] pos) (tCB r t):=by
 intro pins s σ H Q I h;refine YJ (c9 I hg hm hv ?_ hn hdb)
 exact Yb (thn (ha pos pins s σ H _ I h) fun us s1 hz=>by obtain⟨vs,H1,I1,r1,q1⟩:=hz;exact hc pins s1 σ H1 vs us Q I1 r1 q1) he hpl
end
section
variable{κ:Type}[DecidableEq κ]
noncomputable def dh (kvs:List (κ×V)) (k:κ):Option V:=(kvs.find? fun kv=>decide (kv.1=k)).map (·.2)
noncomputable def cL (kvs:List (κ×V)) (k:κ) (v:V):List (κ×V):=
 if(kvs.any fun kv=>decide (kv.1=k))=true then kvs.map (fun kv=>if kv.1=k then(kv.1,v) else kv) else kvs++[(k,v)]
theorem bQ {p:κ×V}{r:List (κ×V)}{k:κ}(e:p.1=k):dh (p::r) k=some p.2:=by simp[dh,List.find?_cons,e]
theorem bO {p:κ×V}{r:List (κ×V)}{k:κ}(e:¬p.1=k):dh (p::r) k=dh r k:=by simp[dh,List.find?_cons,e]
theorem dU (k:κ):∀kvs:List (κ×V),(kvs.any fun kv=>decide (kv.1=k))=(dh kvs k).isSome
 |[]=>rfl
 |p::r=>by
  rw[List.any_cons]
  by_cases e:p.1=k
  ·simp only[bQ e,Zw e,Bool.true_or,Option.isSome_some]
  ·rw[bO e,Zv e,Bool.false_or];exact dU k r
theorem a9 (kvs:List (κ×V)) (k:κ) (v:V):(cL kvs k v).length<=kvs.length+1:=by
 unfold cL;split
 ·rw[Zn];lia
 ·rw[ZO,List.length_cons,List.length_nil];lia
theorem io {kvs:List (κ×V)}{k:κ}(v:V) (h:dh kvs k=none):cL kvs k v=kvs++[(k,v)]:=by
 unfold cL;rw[dU,h];exact Zo (by decide)
theorem RelO.isSome_eq {o:Option V}{u:Option Value}(r:RelO o u):o.isSome=u.isSome:=by
 cases o with
 |none=>cases u with
  |none=>rfl
  |some _=>exact(show False from r).elim
 |some _=>cases u with
  |none=>exact(show False from r).elim
  |some _=>rfl
theorem RelO.getD {o:Option V}{u:Option Value}{d:V}{d':Value}(r:RelO o u) (rd:RelV d d'):RelV (o.getD d) (u.getD d'):=by
 cases o with
 |none=>cases u with
  |none=>exact rd
  |some _=>exact(show False from r).elim
 |some _=>cases u with
  |none=>exact(show False from r).elim
  |some _=>exact r
theorem KV.val {kvs:List (κ×V)}{vs:List (κ×Value)}(r:KV kvs vs) (k:κ):RelO (dh kvs k) (valueAt vs k):=by
 unfold KV at r
 induction r with
 |nil=>exact True.intro
 | @cons p q ps qs h t ih=>
  obtain⟨h1,h2⟩:=h
  by_cases e:p.1=k
  ·have e':q.1=k:=h1.symm.trans e
   have b:valueAt (q::qs) k=some q.2:=by simp[valueAt,List.find?_cons,e']
   rw[bQ e,b];exact h2
  ·have e':¬q.1=k:=fun z=>e (h1.trans z)
   have b:valueAt (q::qs) k=valueAt qs k:=by simp[valueAt,List.find?_cons,e']
   rw[bO e,b];exact ih
theorem KV.any {kvs:List (κ×V)}{vs:List (κ×Value)}(r:KV kvs vs) (k:κ):(kvs.any fun kv=>decide (kv.1=k))=vs.any fun kv=>decide (kv.1=k):=by
 unfold KV at r
 induction r with
 |nil=>rfl
 |cons h t ih=>rw[List.any_cons,List.any_cons,ih,h.1]
theorem KV.repl {kvs:List (κ×V)}{vs:List (κ×Value)}(r:KV kvs vs) (k:κ) {y:V}{u:Value}(ry:RelV y u):
  KV (kvs.map fun kv=>if kv.1=k then(kv.1,y) else kv) (vs.map fun kv=>if kv.1=k then(kv.1,u) else kv):=by
 unfold KV at r⊢
 induction r with
 |nil=>exact .nil
 | @cons p q ps qs h t ih=>
  rw[Zf,Zf];refine .cons ?_ ih
  obtain⟨h1,h2⟩:=h
  by_cases e:p.1=k
  ·rw[Zm e,Zm (h1.symm.trans e)];exact⟨h1,ry⟩
  ·rw[Zo e,Zo (fun z=>e (h1.trans z))];exact⟨h1,h2⟩
theorem KV.put {kvs:List (κ×V)}{vs:List (κ×Value)}(r:KV kvs vs) (k:κ) {y:V}{u:Value}(ry:RelV y u):KV (cL kvs k y) (stored vs k u):=by
 unfold cL stored;rw[r.any k]
 by_cases e:(vs.any fun kv=>decide (kv.1=k))=true
 ·rw[Zm e,Zm e];exact r.repl k ry
 ·rw[Zo e,Zo e];exact Paired.snoc r ⟨rfl,ry⟩
theorem KV.length {kvs:List (κ×V)}{vs:List (κ×Value)}(r:KV kvs vs):kvs.length=vs.length:=Ye r
end
theorem kJ {P:Program}{w:World}{k:Key}{u:Value}(r:RelV (kV k) u):(bK P w).is k u=true:=by
 cases k with
 |inl i=>obtain⟨t,e⟩:=(show ∃t,u=Value.int i t from r);subst e;exact kW P w i t
 |inr x=>obtain⟨t,e⟩:=(show ∃t,u=Value.str x t from r);subst e;exact ln P w x t
section
variable{P:Program}{w:World}{H:Hp}{h:Heap}{a:Addr}
theorem mX {u:HO}(ok:HOk P w H h) (e:Rd H a u):ObjOk P w H h a u:=e.ok ok
theorem jv {kvs:List (Key×V)}(ok:HOk P w H h) (e:Rd H a (.dK kvs)):kvs.length<=sizeLine/\(a==sysModules)=false/\∃vs,KV kvs vs/\h.DictOf (bK P w) a vs:=
 show ObjOk P w H h a (.dK kvs) from mX ok e
theorem yy {kvs:List (Key×V)}(ok:HOk P w H h) (e:H a=some (.dK kvs)):kvs.length<=sizeLine/\(a==sysModules)=false/\∃vs,KV kvs vs/\h.DictOf (bK P w) a vs:=jv ok (.inl e)
end
noncomputable def yj (H:Hp) (a:Addr) (y:V) (r:Option V):Prop:=
 ∃kvs k,Rd H a (.dK kvs)/\y=kV k/\r=dh kvs k
noncomputable def Cy (H:Hp) (a:Addr) (y v:V) (H':Hp):Prop:=
 ∃kvs k,H a=some (.dK kvs)/\y=kV k/\kvs.length<sizeLine/\H'=upd H a (.dK (cL kvs k v))
section
variable{X:Cx}{pins:List (Addr×Obj)}{σ:St}{H:Hp}{s:Shared}{a:Addr}{y v:V}{u r:Value}{o:Option V}{A:Around}{E:Value->Shared->Prop}
theorem Inv.big (I:Inv X pins σ H s):sysModules<s.heap.objs.size:=by
 have h:mainGlobals<s.heap.objs.size:=(I.mod.glob.keeps I.bk).lt;exact Nat.lt_trans (by decide) h
theorem oJ {Q:Value->Shared->Prop}(hu:A.units+1<cLine) (I:Inv X pins σ H s) (g:yj H a y (some v)) (ry:RelV y u) (h:∀w' s',Inv X pins σ H s'->RelV v w'->Q w' s'):
  wpAny (model X.prog X.w) A (getItem (.ref a) u) Q E s:=by
 obtain⟨kvs,k,e,ey,l⟩:=g;subst ey;obtain⟨z,hd,vs,rel,dd⟩:=jv I.hok e;obtain⟨w',hw,rw'⟩:=RelO.some_of (v:=v) (o:=valueAt vs k) (by rw[l];exact rel.val k)
 exact wpAny_getItem_of (kJ ry) dd.mapOf hw (h w' _ (I.tok _) rw')
theorem Er {Q:Value->Shared->Prop}(hu:A.units+1<cLine) (I:Inv X pins σ H s) (g:yj H a y o) (ry:RelV y u) (h:∀s',Inv X pins σ H s'->Q (.bool o.isSome) s'):
  wpAny (model X.prog X.w) A (compareOp .In u (.ref a)) Q E s:=by
 obtain⟨kvs,k,e,ey,l⟩:=g;subst ey;obtain⟨z,hd,vs,rel,dd⟩:=jv I.hok e;refine wpAny_in_of (kJ ry) hd dd.mapOf ?_
 rw[<-(rel.val k).isSome_eq,<-l];exact h _ (I.tok _)
theorem wY {Q:Value->Shared->Prop}(hu:A.units+1<cLine) (I:Inv X pins σ H s) (g:yj H a y o) (ry:RelV y u) (h:∀s',Inv X pins σ H s'->Q (.bool (!o.isSome)) s'):
  wpAny (model X.prog X.w) A (compareOp .NotIn u (.ref a)) Q E s:=by
 obtain⟨kvs,k,e,ey,l⟩:=g;subst ey;obtain⟨z,hd,vs,rel,dd⟩:=jv I.hok e;refine wpAny_notIn_of (kJ ry) hd dd.mapOf ?_
 rw[<-(rel.val k).isSome_eq,<-l];exact h _ (I.tok _)
theorem eY {h':Heap}{t':Nat}{ob:HO}(I:Inv X pins σ H s) (mu:Mut (H a)) (hs:Heap.SameBut a s.heap h') (he:∃q,h'.get? a=some q) (new:ObjOk X.prog X.w (upd H a ob) h' a ob):
  Inv X pins σ (upd H a ob) {s with heap:=h',toks:=t'}:=
 I.write (x:=a) (e:=a) mu (.inl rfl) (fun b q hb z=>(hs.2 b hb).trans z) he new
theorem v3 {P:Program}{w:World}{H':Hp}{h':Heap}{kvs:List (Key×V)}{vs:List (Key×Value)}(z:kvs.length<=sizeLine) (hd:(a==sysModules)=false) (rel:KV kvs vs) (dd:h'.DictOf (bK P w) a vs):
  ObjOk P w H' h' a (.dK kvs):=⟨z,hd,vs,rel,dd⟩
theorem oO {H':Hp}{Q:Unit->Shared->Prop}(hu:A.units+1<cLine) (I:Inv X pins σ H s) (g:Cy H a y v H') (ry:RelV y u) (rv:RelV v r) (h:∀s',Inv X pins σ H' s'->Q () s'):
  wpAny (model X.prog X.w) A (setItem (.ref a) u r) Q E s:=by
 obtain⟨kvs,k,e,ey,l,eH⟩:=g;subst ey eH;obtain⟨z,hd,vs,rel,dd⟩:=yy I.hok e;have hz:vs.length<=sizeLine:=by rw[<-rel.length];exact z
 have hl:(cL kvs k v).length<=sizeLine:=by have:=a9 kvs k v;lia
 refine wpAny_setItem_pairs (hsz:=hz) (kJ ry) dd fun h' dd' hs=>h _ ?_
 have he:∃q,h'.get? a=some q:=by obtain⟨q,_,_,hq,_⟩:=dd';exact⟨q,hq⟩
 exact eY I (by rw[e];exact True.intro) hs he (v3 hl hd (rel.put k rv) dd')
end
section
variable{X:Cx}{pins:List (Addr×Obj)}{σ:St}{H:Hp}{s:Shared}{a:Addr}{kvs:List (Key×V)}{k:Key}{u:Value}{A:Around}{E:Value->Shared->Prop}
end
noncomputable def B5 (i:Expr):Prop:=∀ov iv,subscripted i false ov iv=operate [ov,iv] (getItem ov iv)
theorem wR {prog:Program}{w:World}{A:Around}{E:Value->Shared->Prop}{s:Shared}{env:Env}{value slice:Expr}{pos:Pos}{T id:String}{Q:Value->Shared->Prop}
  (hl:typeLookup (.type T) "__getitem__"=pure (some (.builtin id))) (hs:B5 slice)
  (h:wpAny (model prog w) A (eval value env) (fun o s₁=>wpAny (model prog w) A (eval slice env) (fun i s₂=>s₂.TypeIs o T/\wpAny (model prog w) A (getItem o i) Q E s₂) E s₁) E s):
  wpAny (model prog w) A (eval (.Subscript value slice pos) env) Q E s:=by
 refine Subscript_ (Z8 h (fun o s₁ h₁=>Z8 h₁ (fun i s₂ h₂=>?_) fun y y x=>x) fun y y x=>x)
 obtain⟨hT,h₂⟩:=h₂;unfold subscriptTail;refine Za ?_
 rw[getitemInPython_of_ne hT.not_modules];refine Za (YA hT hl ?_)
 have fin:wpAny (model prog w) A (subscripted slice false o i) (fun r s₃=>wpAny (model prog w) A (letTemporaryGo value o r >>= fun y=>pure r) Q E s₃) E s₂:=by
  rw[hs o i];exact wpAny_operating (Z8 h₂ (fun r s₃ h₃=>Za (wpAny_letTemporaryGo (Zd h₃))) fun y y x=>x)
 first
  |exact Zd (Za fin)
  |exact Za (Zd (Za fin))
  |exact Za fin
theorem kj {X:Cx}{pins:List (Addr×Obj)}{σ:St}{H:Hp}{s:Shared}{a:Addr}{y:V}{o:Option V}(I:Inv X pins σ H s) (g:yj H a y o):s.TypeIs (.ref a) "dict":=by
 obtain⟨kvs,k,e,_,_⟩:=g;obtain⟨_,_,vs,_,dd⟩:=jv I.hok e;exact dd.typeIs
section
variable{X:Cx}{o i e value:Expr}{pos pos' tpos:Pos}{td ty tv:TE}
end
theorem tu {P:Program}{w:World}{H:Hp}(h:Heap) (hb:sysModules<h.objs.size):ObjOk P w H (h.push {cls:=.type "dict",data:=.dict #[]}) h.objs.size (.dK []):=
 ⟨ZK _,beq_eq_false_iff_ne.mpr (Zz (Zy hb)),[],.nil,Heap.DictOf.new h⟩
noncomputable def tDNewK:TE:=fun y H Q=>∀p,H p=none->Q (.ref p) (upd H p (.dK []))
section
variable{X:Cx}{pos:Pos}
theorem uA:PE X (.Dict [] [] pos) tDNewK:=fun pins s σ H Q I h=>
 wpAny_Dict_empty ⟨.ref s.heap.objs.size,_,I.laid (a:=s.heap.objs.size) (o:=.dK []) (t':=s.toks) (fun y y q=>Zc _ q) (Zk _) (tu s.heap I.big),rfl,h _ (I.hok.fresh (Zk _))⟩
end
section
variable{X:Cx}{pins:List (Addr×Obj)}{σ:St}{H:Hp}{s:Shared}{a:Addr}{y d:V}{u r:Value}{o:Option V}{A:Around}{E:Value->Shared->Prop}
theorem zn {Q:Value->Shared->Prop}(hu:A.units+1<cLine) (I:Inv X pins σ H s) (g:yj H a y o) (ry:RelV y u) (rd:RelV d r) (h:∀w' s',Inv X pins σ H s'->RelV (o.getD d) w'->Q w' s'):
  wpAny (model X.prog X.w) A (call (.builtin "dict.get") [.ref a,u,r]) Q E s:=by
 obtain⟨kvs,k,e,ey,l⟩:=g;subst ey;obtain⟨z,hd,vs,rel,dd⟩:=jv I.hok e;refine call_meetsIn PySem.F.slot_dict_get dd.typeIs PySem.F.entry_dict_get (PySem.F.args_dict_get_3 _ _ _) (meets_dict_get_default (bK X.prog X.w) a (kJ ry) hd r) ⟨_,dd.mapOf,h _ _ (I.tok _) ?_⟩
 rw[l];exact(rel.val k).getD rd
end
section
variable{X:Cx}{o e f:Expr}{apos cpos:Pos}{td ty tx:TE}
end
section
variable{X:Cx}{pins:List (Addr×Obj)}{σ:St}{H:Hp}{s:Shared}{a:Addr}{kvs:List (Key×V)}{A:Around}{E:Value->Shared->Prop}
end
section
variable{X:Cx}{pins:List (Addr×Obj)}{σ:St}{H:Hp}{s:Shared}{a:Addr}{y:V}{u:Value}{A:Around}{E:Value->Shared->Prop}
end
end L2
namespace HT
open PySem PyProof.Rows
theorem rcLt_int (A:Around) (s:Shared) (a:Int) (t:Tok) (c:Int) (u:Tok) (prog:Program) (w:World) (E:Value->Shared->Prop) (Q:Value->Shared->Prop) (h:Q (.bool (decide (a<c))) s):
  wpAny (model prog w) A (richCompare .Lt (.int a t) (.int c u)) Q E s:=
 (PyProof.Rows.lt_int h:wpAny (model prog w) A (compareOp .Lt (.int a t) (.int c u)) Q E s)
section
open PySem.SeqAt
open PySem.AutoSeq1 (wpAny_loadPart')
open PySem.MeetsSeq PySem.MeetsSeq2 PySem.MeetsSeq3
end
section
variable{prog:Program}{w:World}{A:Around}{E:Value->Shared->Prop}{s:Shared}
noncomputable def sIx (n d:Nat):Option Int->Nat
 |none=>d
 |some v=>if v<0 then(v+(n:Int)).toNat else min v.toNat n
theorem sIx_none (n d:Nat):sIx n d none=d:=rfl
theorem sIx_nat (n d k:Nat):sIx n d (some (k:Int))=min k n:=by
 show(if(k:Int)<0 then((k:Int)+(n:Int)).toNat else min (k:Int).toNat n)=min k n
 rw[Zo (by lia),Int.toNat_natCast]
theorem zF (n d:Nat) (hd:d<=n) (o:Option Int):sIx n d o<=n:=by
 cases o with
 |none=>exact hd
 |some v=>
  show(if v<0 then(v+(n:Int)).toNat else min v.toNat n)<=n
  by_cases hv:v<0
  ·rw[Zm hv];lia
  ·rw[Zo hv];exact Nat.min_le_right _ _
theorem lT (k n:Nat):((min k n:Nat):Int)=min (k:Int) (n:Int):=by
 rcases Nat.le_total k n with h|h
 ·rw[Nat.min_eq_left h,Int.min_eq_left (Int.ofNat_le.mpr h)]
 ·rw[Nat.min_eq_right h,Int.min_eq_right (Int.ofNat_le.mpr h)]
theorem oZ (v:Int) (n d:Nat):(if v<0 then max (v+(n:Int)) 0 else min v (n:Int))=((sIx n d (some v):Nat):Int):=by
 show(if v<0 then max (v+(n:Int)) 0 else min v (n:Int))=(((if v<0 then(v+(n:Int)).toNat else min v.toNat n):Nat):Int)
 by_cases hv:v<0
 ·rw[Zm hv,Zm hv];exact(Int.ofNat_toNat _).symm
 ·rw[Zo hv,Zo hv,lT,Int.toNat_of_nonneg (Int.not_lt.mp hv)]
theorem clip2 (v:Int) (n d:Nat):max 0 (min (if v<0 then v+(n:Int) else v) (n:Int))=((sIx n d (some v):Nat):Int):=by
 show _=(((if v<0 then(v+(n:Int)).toNat else min v.toNat n):Nat):Int)
 by_cases hv:v<0
 ·rw[Zm hv,Zm hv,Int.min_eq_left (by lia),Int.ofNat_toNat,Int.max_comm]
 ·rw[Zo hv,Zo hv,lT,Int.toNat_of_nonneg (Int.not_lt.mp hv)]
  exact Int.max_eq_right (Int.le_min.mpr ⟨Int.not_lt.mp hv,Int.natCast_nonneg n⟩)
theorem nA (lo hi:Option Int) (n:Nat):Builtin.Slice.sliceAdjust lo hi 1 (n:Int)=(((sIx n 0 lo:Nat):Int),((sIx n n hi:Nat):Int)):=by
 have h1:¬((1:Int)<0):=by lia
 unfold Builtin.Slice.sliceAdjust;simp only[h1,ZY];refine Prod.ext ?_ ?_
 ·cases lo with
  |none=>rfl
  |some v=>exact oZ v n 0
 ·cases hi with
  |none=>rfl
  |some v=>exact oZ v n n
theorem nh (i j:Nat):Builtin.Slice.slicePlaces (i:Int) (j:Int) 1=j - i:=by
 unfold Builtin.Slice.slicePlaces;have h1:(1:Int)>0:=by lia
 simp only[h1,Z6,Int.ediv_one];split<;>lia
theorem fI {v:Value}{o:Option Int}{Q:Option Int->Shared->Prop}(p:IsPart v o) (h:Q o s):wpAny (model prog w) A (Builtin.Slice.slicePartIndex v) Q E s:=by
 cases p with
 |none=>exact slicePart_none h
 |int i t=>exact slicePart_int h
theorem dL {sl:Addr}{vl vu:Value}{lo hi:Option Int}{n:Nat}{Q:Int×Int×Nat->Shared->Prop}(hs:s.heap.IsSliceOf sl vl vu .none) (pl:IsPart vl lo) (pu:IsPart vu hi)
  (h:Q (((sIx n 0 lo:Nat):Int),1,sIx n n hi - sIx n 0 lo) s):wpAny (model prog w) A (Builtin.Slice.sliceApplied (.ref sl) (pure (n:Int))) Q E s:=by
 obtain⟨os,hos,hcs,hds⟩:=id hs;unfold Builtin.Slice.sliceApplied Builtin.Slice.sliceFields;refine Za (Za (Yq hos hds (x:=vl) rfl (Za (Yq hos hds (x:=vu) rfl (Za (Yq hos hds (x:=.none) rfl (Zd ?_)))))))
 refine Za (slicePart_none ?_)
 show wpAny _ _ (if((1:Int)==0)=true then _ else _) _ _ s
 rw[Zo (by decide)]
 refine Za (fI pl (Za (fI pu (Za (Zd ?_)))))
 show wpAny _ _ (match Builtin.Slice.sliceAdjust lo hi 1 (n:Int)with|(lo,hi)=>pure (lo,(1:Int),Builtin.Slice.slicePlaces lo hi 1)) _ _ s
 rw[nA lo hi n];show wpAny _ _ (pure (((sIx n 0 lo:Nat):Int),(1:Int),Builtin.Slice.slicePlaces ((sIx n 0 lo:Nat):Int) ((sIx n n hi:Nat):Int) 1)) _ _ s;rw[nh];exact Zd h
theorem sE (xs:Array Value) (i k:Nat):((List.range k).filterMap fun(m:Nat)=>xs[((i:Int)+(m:Int)*1).toNat]?).toArray=((xs.toList.drop i).take k).toArray:=by
 have e:(fun(m:Nat)=>xs[((i:Int)+(m:Int)*1).toNat]?)=fun m=>xs[i+m]?:=by
  funext m
  have:((i:Int)+(m:Int)*1).toNat=i+m:=by lia
  rw[this]
 rw[e];have:=pick_run xs i k;rw[List.filterMap_map]at this;have e2:((fun x=>xs[x]?) ∘ fun x=>i+x)=fun m=>xs[i+m]?:=rfl
 rw[e2]at this;rw[this]
theorem getItem_tuple_cut {t sl:Addr}{items:Array Value}{vl vu:Value}{lo hi:Option Int}{Q:Value->Shared->Prop}(ht:IsTup s.heap t items) (hs:s.heap.IsSliceOf sl vl vu .none) (pl:IsPart vl lo) (pu:IsPart vu hi)
  (hw:¬(sIx items.size 0 lo=0/\sIx items.size items.size hi=items.size))
  (h:Q (.ref s.heap.objs.size) {s with heap:=s.heap.push {cls:=.type "tuple",data:=.seq ((items.toList.drop (sIx items.size 0 lo)).take (sIx items.size items.size hi - sIx items.size 0 lo)).toArray}})
  (hsz:items.size<=sizeLine):wpAny (model prog w) A (getItem (.ref t) (.ref sl)) Q E s:=by
 have htake:sizeOk (.seq ((items.toList.drop (sIx items.size 0 lo)).take (sIx items.size items.size hi - sIx items.size 0 lo)).toArray):=by
  show((items.toList.drop (sIx items.size 0 lo)).take (sIx items.size items.size hi - sIx items.size 0 lo)).toArray.size<=sizeLine;rw[Zh,YX,List.length_drop,Array.length_toList];exact ZM (Nat.min_le_right _ _) (ZM (Nat.sub_le _ _) hsz)
 have hj:sIx items.size items.size hi<=items.size:=zF _ _ (Zk _) hi;obtain⟨os,hos,hcs,hds⟩:=id hs;have hTs:s.TypeIs (.ref sl) "slice":=⟨os,hos,hcs⟩;unfold getItem
 try with_reducible refine ZN ?_
 first|refine Za (Zd ?_)|skip
 refine Za (wpAny_sequenceKey ht.typeIs (by decide) ?_)
 refine Za (ZW (name:=Str.ofString "__getitem__") ht.typeIs PyProof.Rows.slot_tuple_getitem
  (ZP PyProof.Rows.slot_tuple_getitem ht.typeIs entry_tuple_getitem ?_ (args_tuple_getitem _ _)))
 show wpAny _ _ (Builtin.Tuple.tupleItemsOf (.ref t) >>= _) _ _ s;refine Za (tupleItemsOf_ ht ?_)
 refine Za (Y0 hTs ?_)
 rw[Zm (by decide)]
 refine Za (dL hs pl pu ?_)
 have hno:¬((((sIx items.size 0 lo:Nat):Int)==0&&(1:Int)==1&&(sIx items.size items.size hi - sIx items.size 0 lo)==items.size)=true):=by
  intro q;rw[Zu,Zu]at q;have q1:((sIx items.size 0 lo:Nat):Int)=0:=eq_of_beq q.1.1;have q2:sIx items.size items.size hi - sIx items.size 0 lo=items.size:=eq_of_beq q.2;have q3:=Int.ofNat.inj q1;rw[q3,Nat.sub_zero]at q2;exact hw ⟨q3,q2⟩
 show wpAny _ _ (if(((sIx items.size 0 lo:Nat):Int)==0&&(1:Int)==1&&(sIx items.size items.size hi - sIx items.size 0 lo)==items.size)=true then _ else _) _ _ s
 rw[Zo hno,sE]
 first
  |exact Za (m:=Builtin.Tuple.tupleExact _) (ZL (Zd ⟨_,rfl,Zd h⟩) htake)
  |exact Za (m:=Builtin.Tuple.tupleExact _) (ZL (Za (Zd (Zd ⟨_,rfl,Zd h⟩))) htake)
  |exact Za (Za (m:=Builtin.Tuple.tupleExact _) (ZL (Zd (Zd ⟨_,rfl,Zd h⟩)) htake))
  |exact Za (Za (m:=Builtin.Tuple.tupleExact _) (ZL (Zd ⟨_,rfl,Zd h⟩) htake))
end
end HT
namespace L2
open PySem PySem.Spec PyProof.Rows
noncomputable abbrev TO:=St->Hp->(Option Int->Hp->Prop)->Prop
noncomputable def PO (X:Cx) (e:Option Expr) (t:TO):Prop:=
 ∀(pins:List (Addr×Obj)) (s:Shared) (σ:St) (H:Hp) (Q:Option Int->Hp->Prop),Inv X pins σ H s->t σ H Q->
  wpAny (model X.prog X.w) X.A (evalPart e X.env) (fun u s'=>∃o H',Inv X pins σ H' s'/\IsPart u o/\Q o H') X.xe s
noncomputable def tNoPart:TO:=fun y H Q=>Q none H
noncomputable def BL (t:TE):TO:=fun σ H Q=>t σ H fun x H1=>∃i,x=.int i/\Q (some i) H1
theorem ou {ns:List Int}:∀{us:List Value},Vals (ns.map V.int) us->IntsAre us ns:=by
 induction ns with
 |nil=>intro us r;rw[ZX]at r;cases r;exact .nil
 |cons n ns ih=>
  intro us r;rw[Zf]at r;cases r with
  |cons r1 r2=>
   obtain⟨t,e⟩:=r1;subst e;exact .cons n t (ih r2)
section
variable{X:Cx}{e:Expr}{te:TE}{lo hi:Option Expr}{tl th:TO}{pos p2:Pos}
theorem xa:PO X none tNoPart:=by
 intro pins s σ H Q I h;rw[evalPart_none];exact Zd ⟨none,H,I,.none,h⟩
theorem wq (h:PE X e te):PO X (some e) (BL te):=by
 intro pins s σ H Q I hw;rw[evalPart_some];refine thn (h pins s σ H _ I hw) fun u s1 hz=>?_
 obtain⟨x,H1,I1,r1,q1⟩:=hz;obtain⟨i,rfl,q⟩:=q1;obtain⟨t,rfl⟩:=r1;exact⟨some i,H1,I1,.int i t,q⟩
noncomputable def SlR (X:Cx) (r:V->Option Int->Option Int->Hp->VK->Prop):Prop:=
 ∀(pins:List (Addr×Obj)) (s:Shared) (σ:St) (H:Hp) (x:V) (v vl vu:Value) (lo hi:Option Int) (sl:Addr) (Q:VK),Inv X pins σ H s->RelV x v->s.heap.IsSliceOf sl vl vu .none->IsPart vl lo->IsPart vu hi->r x lo hi H Q->
  ∃T id,typeLookup (.type T) "__getitem__"=pure (some (.builtin id))/\s.TypeIs v T/\wpAny (model X.prog X.w) X.A (getItem v (.ref sl)) (EP X pins σ Q) X.xe s
noncomputable def tSl (r:V->Option Int->Option Int->Hp->VK->Prop) (te:TE) (tl th:TO):TE:=fun σ H Q=>te σ H fun x H1=>tl σ H1 fun l H2=>th σ H2 fun u H3=>r x l u H3 Q
theorem gO {r:V->Option Int->Option Int->Hp->VK->Prop}(hr:SlR X r) (he:PE X e te) (hl:PO X lo tl) (hu:PO X hi th):PE X (.Subscript e (.Slice lo hi none p2) pos) (tSl r te tl th):=by
 intro pins s σ H Q I h;refine Subscript_ (thn (he pins s σ H _ I h) fun v s1 hz=>?_)
 obtain⟨x,H1,I1,r1,q1⟩:=hz;refine wpAny_Slice (thn (hl pins s1 σ H1 _ I1 q1) fun vl s2 hz=>?_)
 obtain⟨l,H2,I2,pl,q2⟩:=hz;refine thn (hu pins s2 σ H2 _ I2 q2) fun vu s3 hz=>?_
 obtain⟨u,H3,I3,pu,q3⟩:=hz;rw[evalPart_none];refine Zd ?_
 have I4:Inv X pins σ H3 {s3 with heap:=s3.heap.push {cls:=.type "slice",data:=.fields #[vl,vu,.none]}}:=I3.kept (t':=s3.toks) fun b ob q=>Zc _ q
 obtain⟨T,id,hT,ht,hg⟩:=hr pins {s3 with heap:=s3.heap.push {cls:=.type "slice",data:=.fields #[vl,vu,.none]}} σ H3 x v vl vu l u s3.heap.objs.size Q I4 r1 (Heap.IsSliceOf.new ..) pl pu q3
 show wpAny (model X.prog X.w) X.A (subscriptTail e (.Slice lo hi none p2) v (.ref s3.heap.objs.size)) (EP X pins σ Q) X.xe {s3 with heap:=s3.heap.push {cls:=.type "slice",data:=.fields #[vl,vu,.none]}}
 exact tail_any (ops:=[.ref s3.heap.objs.size,v]) ht hT hg (by with_unfolding_all rfl)
noncomputable def sg (xs:List V) (lo hi:Option Int):List V:=(xs.drop (HT.sIx xs.length 0 lo)).take (HT.sIx xs.length xs.length hi - HT.sIx xs.length 0 lo)
theorem dX (xs:List V) (lo hi:Option Int):(sg xs lo hi).length<=xs.length:=by
 unfold sg;rw[YX,List.length_drop];exact ZM (Nat.min_le_right _ _) (Nat.sub_le _ _)
noncomputable def DP (K:PySem.W.Frag):V->Option Int->Option Int->Hp->VK->Prop:=fun x lo hi H Q=>∃a xs,x=.ref a/\SqT K H a xs/\
 ¬(HT.sIx xs.length 0 lo=0/\HT.sIx xs.length xs.length hi=xs.length)/\∀p,H p=none->Q (.ref p) (upd H p (.tup (sg xs lo hi)))
theorem yF:SlR X (DP X.K):=by
 intro pins s σ H x v vl vu lo hi sl Q I rx hs pl pu h;obtain⟨a,xs,rfl,hx,hw,q⟩:=h;cases rx;obtain⟨its,r,ht,hz⟩:=I.tuple hx;have hlen:its.toArray.size=xs.length:=by rw[Zh];exact r.length.symm
 refine⟨"tuple",_,PyProof.Rows.slot_tuple_getitem.lookup,ht.typeIs,?_⟩
 refine HT.getItem_tuple_cut ht hs pl pu (by rw[hlen];exact hw) ?_ (by rw[hlen];exact hz)
 rw[hlen];refine⟨.ref s.heap.objs.size,_,I.laid (t':=s.toks) (o:=.tup (sg xs lo hi)) (fun b ob q=>Zc _ q) (Zk _) ?_,rfl,q _ (I.hok.fresh (Zk _))⟩
 exact⟨ZM (dX xs lo hi) hz,_,(r.drop (HT.sIx xs.length 0 lo)).take (HT.sIx xs.length xs.length hi - HT.sIx xs.length 0 lo),IsTup.new _ _⟩
end
noncomputable def ixN (n:Nat) (i:Int):Option Nat:=if 0<=i then(if i<n then some i.toNat else none) else if -(n:Int)<=i then some (i+n).toNat else none
noncomputable def atI {α:Type}(xs:List α) (i:Int):Option α:=(ixN xs.length i).bind fun j=>xs[j]?
theorem wZ {n:Nat}{i:Int}{j:Nat}(h:ixN n i=some j):seqIndex? i n=some j/\j<n/\ -(n:Int)<=i/\i<n:=by
 unfold ixN at h
 by_cases h0:0<=i
 ·rw[Zm h0]at h
  by_cases h1:i<n
  ·rw[Zm h1]at h
   have e:i.toNat=j:=Zb h;exact⟨by rw[seqIndex_of h0 h1,e],by lia,by lia,h1⟩
  ·rw[Zo h1]at h;contradiction
 ·rw[Zo h0]at h
  by_cases h1: -(n:Int)<=i
  ·rw[Zm h1]at h
   have e:(i+n).toNat=j:=Zb h;exact⟨by rw[seqIndex_neg (by lia) h1,e],by lia,h1,by lia⟩
  ·rw[Zo h1]at h;contradiction
theorem j8 {α:Type}{xs:List α}{i:Int}{v:α}(h:atI xs i=some v):∃j,seqIndex? i xs.length=some j/\xs[j]?=some v/\j<xs.length/\ -(xs.length:Int)<=i/\i<xs.length:=by
 unfold atI at h;cases e:ixN xs.length i with
 |none=>rw[e]at h;contradiction
 |some j=>
  rw[e]at h;obtain⟨h1,h2,h3,h4⟩:=wZ e;exact⟨j,h1,h,h2,h3,h4⟩
theorem qN {α:Type}{xs:List α}{j:Nat}{v:α}(h:xs[j]?=some v):atI xs (j:Int)=some v:=by
 have hj:j<xs.length:=(List.getElem?_eq_some_iff.mp h).1
 have e:ixN xs.length (j:Int)=some j:=by
  unfold ixN;rw[Zm (by lia),Zm (by lia)];simp
 unfold atI;rw[e];exact h
noncomputable def fu (b:Expr):Prop:=∀o i,subscripted b false o i=operate [o,i] (getItem o i)
noncomputable def IxR (X:Cx) (r:R2):Prop:=
 ∀(value slice:Expr) (pins:List (Addr×Obj)) (s:Shared) (σ:St) (H:Hp) (x y:V) (v u:Value) (Q:VK),Inv X pins σ H s->RelV x v->RelV y u->r x y H Q->
  subscripted slice false v u=operate [v,u] (getItem v u)->wpAny (model X.prog X.w) X.A (subscriptTail value slice v u) (EP X pins σ Q) X.xe s
noncomputable def MtR (X:Cx) (id:String) (r:V->List V->Hp->VK->Prop):Prop:=
 ∀(pins:List (Addr×Obj)) (s:Shared) (σ:St) (H:Hp) (x:V) (xs:List V) (v:Value) (us:List Value) (Q:VK),Inv X pins σ H s->RelV x v->Vals xs us->r x xs H Q->
  wpAny (model X.prog X.w) X.A (call (.builtin id) (v::us)) (EP X pins σ Q) X.xe s
section
variable{X:Cx}{a b:Expr}{ta tb:TE}{pos:Pos}
theorem IxR.or {r r':R2}(h:IxR X r) (h':IxR X r'):IxR X (fun x y H Q=>r x y H Q\/r' x y H Q):=by
 intro value slice pins s σ H x y v u Q I rx ry q hs
 rcases q with q|q
 ·exact h value slice pins s σ H x y v u Q I rx ry q hs
 ·exact h' value slice pins s σ H x y v u Q I rx ry q hs
theorem sY {r:R2}(hr:IxR X r) (ha:PE X a ta) (hb:PE X b tb) (hs:fu b):PE X (.Subscript a b pos) (tOp r ta tb):=by
 intro pins s σ H Q I h;exact Subscript_ (A6 ha hb I h fun v u s2 x y H2 I2 rx ry q=>hr a b pins s2 σ H2 x y v u Q I2 rx ry q (hs _ _))
noncomputable def CV (K:PySem.W.Frag):R2:=fun x y H Q=>∃p xs i v,x=.ref p/\y=.int i/\SqL K H p xs/\atI xs i=some v/\Q v H
noncomputable def Cd (K:PySem.W.Frag):R2:=fun x y H Q=>∃p xs i v,x=.ref p/\y=.int i/\SqT K H p xs/\atI xs i=some v/\Q v H
noncomputable def rIxS:R2:=fun x y H Q=>∃z i c,x=.str z/\y=.int i/\z.length<=sizeLine/\atI z.cps.toList i=some c/\Q (.str ⟨#[c]⟩) H
theorem kM:IxR X (CV X.K):=by
 intro value slice pins s σ H x y v u Q I rx ry h hs;obtain⟨p,xs,i,z,rfl,rfl,hq,he,q⟩:=h;cases rx;obtain⟨t,rfl⟩:=ry;obtain⟨its,r,pl,hz⟩:=I.list hq;obtain⟨j,h1,h2,h3,h4,h5⟩:=j8 he;obtain⟨w,ew,rw'⟩:=r.get h2;have hl:=r.length;have hn:=i7;have fin:EP X pins σ Q w s:=⟨z,H,I,rw',q⟩
 by_cases h0:0<=i
 ·have hj:i.toNat=j:=by
   rw[seqIndex_of h0 h5]at h1;exact Zb h1
  exact item_listR pl.isList h0 (by lia) (by rw[hj];simpa using ew) fin hs
 ·have hj:(i+(its.toArray.size:Int)).toNat=j:=by
   rw[seqIndex_neg (by lia) h4]at h1
   rw[Zh,<-hl];exact Zb h1
  exact subscriptTail_builtinR (x:=w) pl.isList.typeIs slot_list_getitem.lookup
   (wpAny_getItem_list_neg (Q:=fun r s'=>r=w/\EP X pins σ Q r s') pl.isList (by lia) (by rw[Zh]<;>lia) (by lia) (by rw[hj];simpa using ew) ⟨rfl,fin⟩) hs
theorem yX:IxR X (Cd X.K):=by
 intro value slice pins s σ H x y v u Q I rx ry h hs;obtain⟨p,xs,i,z,rfl,rfl,hq,he,q⟩:=h;cases rx;obtain⟨t,rfl⟩:=ry;obtain⟨its,r,pl,hz⟩:=I.tuple hq;obtain⟨j,h1,h2,h3,h4,h5⟩:=j8 he;obtain⟨w,ew,rw'⟩:=r.get h2;have hl:=r.length;have hn:=i7;have fin:EP X pins σ Q w s:=⟨z,H,I,rw',q⟩;exact subscriptTail_builtinR (x:=w) pl.typeIs slot_tuple_getitem.lookup
  (getItem_tuple (j:=j) (Q:=fun r s'=>r=w/\EP X pins σ Q r s') pl (by lia) (by lia) (by rw[Zh,<-hl];exact h1) (by simpa using ew) ⟨rfl,fin⟩) hs
theorem vn:IxR X rIxS:=by
 intro value slice pins s σ H x y v u Q I rx ry h hs;obtain⟨z,i,c,rfl,rfl,hz,he,q⟩:=h;obtain⟨t,rfl⟩:=rx;obtain⟨t',rfl⟩:=ry;obtain⟨j,h1,h2,h3,h4,h5⟩:=j8 he;have hl:z.cps.toList.length=z.length:=by simp[Str.length]
 rw[hl]at h1 h4 h5;have hn:=i7;exact tail_any (typeIs_str s z t) slot_str_getitem.lookup (getItem_str (c:=c) (by
  have e1:decide (i< -(2 ^ 63:Int))=false:=Zv (by lia)
  have e2:decide (i>=2 ^ 63)=false:=Zv (by lia)
  rw[e1,e2,Bool.or_false]) (by rw[h1];simpa using h2) ⟨.str ⟨#[c]⟩,H,I.tok _,⟨_,rfl⟩,q⟩) hs
noncomputable def rIx (K:PySem.W.Frag):R2:=fun x y H Q=>CV K x y H Q\/Cd K x y H Q\/rIxS x y H Q
theorem zH:IxR X (rIx X.K):=kM.or (yX.or vn)
theorem iP (lo hi:Option Int) (n:Nat):(sliceBounds lo hi none n).1=((HT.sIx n 0 lo:Nat):Int)/\(sliceBounds lo hi none n).2.1=((HT.sIx n n hi:Nat):Int)/\(sliceBounds lo hi none n).2.2=1:=by
 refine⟨?_,?_,rfl⟩
 ·cases lo with
  |none=>simp[sliceBounds,HT.sIx]
  |some i=>
   simp only[sliceBounds,Option.getD_none,show(1:Int)>0 by decide,Z6]
   exact HT.clip2 i n 0
 ·cases hi with
  |none=>simp[sliceBounds,HT.sIx]
  |some i=>
   simp only[sliceBounds,Option.getD_none,show(1:Int)>0 by decide,Z6]
   exact HT.clip2 i n n
theorem ix (its:List Value) (lo hi:Option Int):slicePick its.toArray lo hi none=((its.drop (HT.sIx its.length 0 lo)).take (HT.sIx its.length its.length hi - HT.sIx its.length 0 lo)).toArray:=by
 obtain⟨h1,h2,h3⟩:=iP lo hi its.toArray.size;unfold slicePick;rw[h1,h2,h3];simp only[sliceRange_one,pick_run,Zh]<;>rfl
noncomputable def El (K:PySem.W.Frag):V->Option Int->Option Int->Hp->VK->Prop:=fun x lo hi H Q=>∃a xs,x=.ref a/\SqL K H a xs/\∀p,H p=none->Q (.ref p) (upd H p (.lst (sg xs lo hi)))
theorem xu:SlR X (El X.K):=by
 intro pins s σ H x v vl vu lo hi sl Q I rx hs pl pu h;obtain⟨a,xs,rfl,hx,q⟩:=h;cases rx;obtain⟨its,r,ht,hz⟩:=I.list hx;have hlen:=r.length;refine⟨"list",_,slot_list_getitem.lookup,ht.isList.typeIs,?_⟩
 refine wpAny_getItem_list_slice ht.isList hs pl pu .none (by simp) ?_ (by rw[Zh]<;>lia)
 rw[ix,<-hlen];refine⟨.ref s.heap.objs.size,_,I.laid (t':=s.toks) (o:=.lst (sg xs lo hi)) (fun b ob q=>Zc _ q) (Zk _) ?_,rfl,q _ (I.hok.fresh (Zk _))⟩
 exact⟨ZM (dX xs lo hi) hz,_,0,(r.drop (HT.sIx xs.length 0 lo)).take (HT.sIx xs.length xs.length hi - HT.sIx xs.length 0 lo),Zj _ rfl⟩
theorem jD:cO X (.builtin "len") (fun xs H Q=>∃p ys,xs=[.ref p]/\(SqL X.K H p ys\/SqT X.K H p ys)/\Q (.int ys.length) H):=by
 intro pins s σ H xs us Q I r h;obtain⟨p,ys,rfl,hq,q⟩:=h;obtain⟨u,rfl,rx⟩:=dP r;cases rx;have hn:=i7
 rcases hq with hq|hq
 ·obtain⟨its,r',pl,hz⟩:=I.list hq
  have hlen:=r'.length;exact Calls.call_len_list pl.isList (by simp only[Zh]<;>lia) ⟨.int ys.length,H,I.tok _,⟨s.toks+1,by rw[Zh,hlen]⟩,q⟩
 ·obtain⟨its,r',pl,hz⟩:=I.tuple hq
  have hlen:=r'.length;exact len_tuple pl (by simp only[Zh]<;>lia) ⟨.int ys.length,H,I.tok _,⟨s.toks+1,by rw[Zh,hlen]⟩,q⟩
theorem jk:cO X (.type "list") (fun xs H Q=>∃p ys,xs=[.ref p]/\(SqL X.K H p ys\/SqT X.K H p ys)/\∀l,H l=none->Q (.ref l) (upd H l (.lst ys))):=by
 intro pins s σ H xs us Q I r h;obtain⟨p,ys,rfl,hq,q⟩:=h;obtain⟨u,rfl,rx⟩:=dP r;cases rx;have fin:∀(its:List Value),Vals ys its->ys.length<=sizeLine->∀(h':Heap) (c':Nat),(∀b o',s.heap.get? b=some o'->h'.get? b=some o')->
   h'.get? s.heap.objs.size=some {cls:=.type "list",dict:=none,data:=.seq its.toArray c',slots:=#[]}->EP X pins σ Q (.ref s.heap.objs.size) {s with heap:=h'}:=fun its r' hz h' c' kp e=>
  ⟨.ref s.heap.objs.size,_,I.laid (t':=s.toks) kp (Zk _) (show ObjOk X.prog X.w _ h' _ (.lst ys) from⟨hz,its,c',r',e⟩),rfl,q _ (I.hok.fresh (Zk _))⟩
 rcases hq with hq|hq
 ·obtain⟨its,r',pl,hz⟩:=I.list hq
  have hlen:=r'.length;obtain⟨o,ho,hc,n,hd⟩:=pl.isList;exact call_list_seq p (.inl rfl) ho hc hd (fun h' c' kp e=>fin its r' hz h' c' kp e) (by simp only[Zh]<;>lia)
 ·obtain⟨its,r',pl,hz⟩:=I.tuple hq
  have hlen:=r'.length;obtain⟨o,ho,hc,n,hd⟩:=pl;exact call_list_seq p (.inr rfl) ho hc hd (fun h' c' kp e=>fin its r' hz h' c' kp e) (by simp only[Zh]<;>lia)
theorem gW:cO X (.type "tuple") (fun xs H Q=>∃p ys,xs=[.ref p]/\((SqL X.K H p ys/\∀l,H l=none->Q (.ref l) (upd H l (.tup ys)))\/(SqT X.K H p ys/\Q (.ref p) H))):=by
 intro pins s σ H xs us Q I r h;obtain⟨p,ys,rfl,h⟩:=h;obtain⟨u,rfl,rx⟩:=dP r;cases rx
 rcases h with⟨hq,q⟩|⟨hq,q⟩
 ·obtain⟨its,r',pl,hz⟩:=I.list hq
  have hlen:=r'.length;refine call_tuple_list pl.isList (fun h' kp=>?_) (by simp only[Zh]<;>lia)
  have I1:Inv X pins σ H {s with heap:=h'}:=I.kept (t':=s.toks) kp
  have I2:Inv X pins σ (upd H h'.objs.size (.tup ys)) {s with heap:=h'.push {cls:=.type "tuple",data:=.seq its.toArray}}:=
   I1.laid (t':=s.toks) (fun b o e=>Zc _ e) (Zk _) (show ObjOk X.prog X.w _ _ _ (.tup ys) from⟨hz,its,r',IsTup.new _ _⟩)
  exact⟨.ref h'.objs.size,_,I2,rfl,q _ (I1.hok.fresh (Zk _))⟩
 ·obtain⟨its,r',pl,hz⟩:=I.tuple hq
  exact call_tuple_same pl ⟨.ref p,H,I,rfl,q⟩
noncomputable def tyV (K:PySem.W.Frag) (T:String) (x:V) (H:Hp):Prop:=match x with
 |.str _=>T="str"
 |.int _=>T="int"
 |.ref p=>(T="list"/\∃xs,SqL K H p xs)\/(T="tuple"/\∃o,K.lookup p=some o/\o.cls=.type "tuple"/\o.dict=none)\/
   (T="dict"/\∃kvs,H p=some (.dK kvs))
 |_=>False
theorem Ay {pins:List (Addr×Obj)}{σ:St}{H:Hp}{s:Shared}{T:String}{x:V}{v:Value}(I:Inv X pins σ H s) (r:RelV x v) (ty:tyV X.K T x H):
  s.TypeIs v T/\∀a,v=.ref a->∃ob,s.heap.get? a=some ob/\ob.dict=none:=by
 cases x with
 |str z=>
  obtain⟨t,rfl⟩:=r;cases (show T="str" from ty)
  exact⟨typeIs_str s z t,fun y e=>nomatch e⟩
 |int i=>
  obtain⟨t,rfl⟩:=r;cases (show T="int" from ty)
  exact⟨typeIs_int s i t,fun y e=>nomatch e⟩
 |ref p=>
  cases r
  rcases ty with⟨rfl,xs,hq⟩|⟨rfl,o,hk,hc,hd⟩|⟨rfl,kvs,hk⟩
  ·obtain⟨its,_,pl,_⟩:=I.list hq
   refine⟨pl.isList.typeIs,fun a e=>?_⟩
   cases e;obtain⟨o,n,e,c,hd,_⟩:=pl;exact⟨o,e,hd⟩
  ·refine⟨⟨o,I.kIn p o hk,hc⟩,fun a e=>?_⟩
   cases e;exact⟨o,I.kIn _ o hk,hd⟩
  ·obtain⟨_,_,_,_,o,_,_,e,ex,_⟩:=I.hok p _ hk
   refine⟨⟨o,e,ex.1⟩,fun a e2=>?_⟩
   cases e2;exact⟨o,e,ex.2.1⟩
 |_=>exact False.elim ty
noncomputable def tBM (K:PySem.W.Frag) (T:String) (r:V->List V->Hp->VK->Prop) (to:TE) (t:TA):TE:=fun σ H Q=>to σ H fun x H1=>tyV K T x H1/\t σ H1 fun xs H2=>r x xs H2 Q
variable{o e:Expr}{es:List Expr}{to:TE}{t:TA}{name:Str}{apos cpos:Pos}{T id:String}{r:V->List V->Hp->VK->Prop}
theorem nR (pa:PlainAttrs T) (slot:Slot T name id) (hty:typeOf (.builtin id)=pure (.type "method_descriptor")) (hm:MtR X id r) (ho:PE X o to) (ha:PA X (e::es) t)
  (hbase:attributeBase o name X.env (eval o X.env)=eval o X.env:=by rfl)
  (hfew:((backTo cpos (starEach (e::es) X.env)).all (fun x=>!x.1)&&(backToKw cpos (keywordEach [] X.env)).all (fun x=>x.1.isSome)
   &&decide ((e::es).length+([]:List Keyword).length+(if([]:List Keyword).isEmpty then 0 else 1)<30))=true:=by rfl)
  (hline:(apos.endLine==cpos.line)=true:=by rfl) (hs:starEach (e::es) X.env=(false,eval e X.env)::starEach es X.env:=by rfl) (hplain:(backTo cpos (starEach es X.env)).any (·.1)=false:=by rfl):
  PE X (.Call (.Attribute o name apos) (e::es) [] cpos) (tBM X.K T r to t):=by
 intro pins s σ H Q I h;refine wpAny_Call_method_late hbase hfew hline rfl (thn (ho pins s σ H _ I h) fun v s1 hz=>?_)
 obtain⟨x,H1,I1,r1,ty,q1⟩:=hz;obtain⟨h1,h2⟩:=Ay I1 r1 ty;refine⟨T,id,pa,slot,hty,h1,h2,?_⟩
 have hA:=ha cpos pins s1 σ H1 _ I1 q1;rw[hs]at hA⊢;refine Calls.callWith_builtin (by show(false||(backTo cpos (starEach es X.env)).any (·.1))=false;rw[hplain]<;>rfl) (Calls.evalArgs_plain ?_)
 exact thn hA fun us s2 hz=>by obtain⟨vs,H2,I2,r2,q2⟩:=hz;exact hm pins s2 σ H2 x vs v us Q I2 r1 r2 q2
end
noncomputable def MtM (X:Cx) (id:String) (r:V->List V->Hp->VK->Prop):Prop:=
 ∀(pins:List (Addr×Obj)) (s:Shared) (σ:St) (H:Hp) (x:V) (xs:List V) (v:Value) (us:List Value) (Q:VK),Inv X pins σ H s->RelV x v->Vals xs us->r x xs H Q->
  wpAny (model X.prog X.w) X.A (call (.builtin id) (v::us)) (EP X pins σ Q) X.xe s
theorem Vals.one {x:V}{us:List Value}(h:Vals [x] us):∃u,us=[u]/\RelV x u:=dP h
theorem Vals.two {x y:V}{us:List Value}(h:Vals [x,y] us):∃u v,us=[u,v]/\RelV x u/\RelV y v:=by
 cases h with
 |cons r t=>
  obtain⟨u,rfl,q⟩:=dP t;exact⟨_,u,rfl,r,q⟩
section
variable{X:Cx}{pins:List (Addr×Obj)}{σ:St}{H:Hp}{s:Shared}{l b:Addr}{xs ys zs:List V}
theorem Inv.lset {its its':List Value}{n:Nat}{f:Array Value->Array Value}{t':Nat}(I:Inv X pins σ H s) (hH:H l=some (.lst xs))
  (e:s.heap.get? l=some {cls:=.type "list",data:=.seq its.toArray n}) (hf:f its.toArray=its'.toArray) (hv:Vals ys its') (hz:ys.length<=sizeLine):
  Inv X pins σ (upd H l (.lst ys)) {s with heap:=s.heap.update l (Obj.mapSeq f),toks:=t'}:=by
 have q:=PySem.IsL.update e f;rw[hf]at q;refine I.write (x:=l) (e:=l) (by rw[hH];exact trivial) (.inl rfl) (fun b' u hb hu=>(ZC s.heap (Obj.mapSeq f) (Zz hb)).trans hu) ⟨_,q⟩ ?_
 exact⟨hz,its',_,hv,q⟩
theorem Inv.lnew {its:List Value}{t':Nat}(I:Inv X pins σ H s) (hv:Vals ys its) (hz:ys.length<=sizeLine):
  Inv X pins σ (upd H s.heap.objs.size (.lst ys)) {s with heap:=s.heap.push {cls:=.type "list",data:=.seq its.toArray},toks:=t'}:=
 I.laid (fun y y q=>Zc _ q) (Zk _) ⟨hz,its,0,hv,Zj _ rfl⟩
theorem Inv.fresh (I:Inv X pins σ H s):H s.heap.objs.size=none:=I.hok.fresh (Zk _)
theorem Inv.lstM (I:Inv X pins σ H s) (hH:H l=some (.lst xs)):xs.length<=sizeLine/\∃(its:List Value) (n:Nat),Vals xs its/\xs.length=its.length/\s.heap.get? l=some {cls:=.type "list",data:=.seq its.toArray n}:=by
 obtain⟨z,its,n,r,e⟩:=I.hok l _ hH;exact⟨z,its,n,r,r.length,e⟩
theorem um {n:Nat}(h:n<=sizeLine):Builtin.List.listTooLong n=false:=by
 unfold Builtin.List.listTooLong;exact Zv (by lia)
end
section
variable{X:Cx}
noncomputable def rAppend:V->List V->Hp->VK->Prop:=fun x vs H Q=>∃l xs y,x=.ref l/\vs=[y]/\H l=some (.lst xs)/\xs.length<sizeLine/\Q .non (upd H l (.lst (xs++[y])))
theorem jT:MtM X "list.append" rAppend:=by
 intro pins s σ H x vs v us Q I rx rv h;obtain⟨l,xs,y,rfl,rfl,hH,hz,q⟩:=h;cases rx;obtain⟨u,rfl,ru⟩:=rv.one;obtain⟨z,its,n,r,hl,e⟩:=I.lstM hH;refine call_meets F.slot_list_append ⟨_,e,rfl⟩ F.entry_list_append (F.args_list_append_2 _ _) (PySem.list_append l its.toArray n u (by rw[Zh];lia)) ⟨e,?_⟩
 refine⟨.non,_,I.lset (its':=its++[u]) hH e (by simp) (r.append (.cons ru .nil)) ?_,rfl,q⟩
 rw[ZO,List.length_singleton]
 lia
noncomputable def rExtend:V->List V->Hp->VK->Prop:=fun x vs H Q=>∃l b xs zs,x=.ref l/\vs=[.ref b]/\H l=some (.lst xs)/\H b=some (.lst zs)/\xs.length+zs.length<=sizeLine/\Q .non (upd H l (.lst (xs++zs)))
theorem pQ:MtM X "list.extend" rExtend:=by
 intro pins s σ H x vs v us Q I rx rv h;obtain⟨l,b,xs,zs,rfl,rfl,hH,hB,hz,q⟩:=h;cases rx;obtain⟨u,rfl,ru⟩:=rv.one;cases ru;obtain⟨z,its,n,r,hl,e⟩:=I.lstM hH;obtain⟨z2,its2,n2,r2,hl2,e2⟩:=I.lstM hB;have hsz:its.toArray.size+its2.toArray.size<=sizeLine:=by rw[Zh,Zh];lia
 have hlong:¬(!its.toArray.isEmpty&&Builtin.List.listTooLong (its.toArray.size+its2.toArray.size))=true:=by
  rw[um hsz,Bool.and_false];exact ZE
 refine call_meets F.slot_list_extend ⟨_,e,rfl⟩ F.entry_list_extend (F.args_list_extend_2 _ _)
  (AutoSeq1.list_extend_list_list_0 l its.toArray n b its2.toArray n2 hlong (by rw[Zh];lia) (by lia)) ⟨e,e2,?_⟩
 refine⟨.non,_,I.lset (its':=its++its2) hH e (by simp) (r.append r2) ?_,rfl,q⟩
 rw[ZO]
 lia
end
section
variable{prog:Program}{w:World}{A:Around}{E:Value->Shared->Prop}{s:Shared}
set_option maxRecDepth 100000 in
end
section
variable{X:Cx}
end
end L2
namespace Att
open PySem PySem.W PySem.Calls PyProof.Rows
theorem fq {P:Params}{h:Heap}:∀(ns:List Int) (vs:List Value),WellAll P h vs (ns.map WData.int)->IntsAre vs ns:=by
 intro ns
 induction ns with
 |nil=>
  intro vs w;rw[ZX]at w;cases w;exact .nil
 |cons n ns ih=>
  intro vs w;rw[Zf]at w;cases w with
  |cons a b=>
   cases a;exact .cons _ _ (ih _ b)
theorem rG {l:OpenLaw}{n:Nat}(hn:l.most=some n) {P:Params}{h:Heap}{args:List WData}{vals:List Value}
  (hpre:l.row.toRowW.claim.pre args=true) (hwl:WellAll P h vals args):
  ∃a vs ns,vals=[Value.ref a]/\args=[WData.list (ns.map WData.int)]/\h.get? a=some {cls:=.type "list",data:=.seq vs.toArray}/\IntsAre vs ns/\ns.length<=n:=by
 have hsh:WShape.hasAll [] args [.list .int]=true:=(pre_splitW hpre).1;have hc:l.pre.holds [] {args:=args}=true:=(pre_splitW hpre).2;obtain⟨d,r,rfl,h1,h2⟩:=hasAllW_cons hsh;obtain rfl:=hasAllW_nil h2;obtain⟨xs,rfl,h3⟩:=hasW_list h1;obtain⟨ns,rfl⟩:=items_int h3;have hlen:ns.length<=n:=by
  unfold OpenLaw.pre at hc;have h4:(WTm.not (.lt (.lit (.int (n:Int))) (.len (.arg 0)))).holds [] {args:=[.list (ns.map .int)]}=true:=by
   have h4:=(holds_andW hc).1;rw[hn]at h4;exact h4
  have h5:=condW_of h4 (w_not (w_lt w_lit (w_len_list (w_arg rfl))));rw[Zn]at h5;refine Nat.le_of_not_lt fun q=>?_
  have q':(n:Int)<((ns.length:Nat):Int):=by lia
  first
   |(rw[Zw q']at h5;exact absurd h5 (by decide))
   |(simp at h5;lia)
 cases hwl with
 |cons w1 w2=>
  cases w2;cases w1 with
  |list ho hall=>exact⟨_,_,ns,rfl,rfl,ho,fq ns _ hall,hlen⟩
theorem oF (l:OpenLaw) (args:List WData):l.row.toRowW.claim.post args (.bool true) args=true:=
 postW_of (r:=l.row.toRowW) (X:=(true==true))
  (show WShape.has [] (.bool true) .bool=true by first|rfl|decide|simp[WShape.has,WShape.arms,WShape.armsAll])
  (show(WTm.eq .res (.lit (.bool true))).value [] {args:=args,res:=some (.bool true),after:=args}=some (.bool (true==true)) from w_eq_bool (w_res rfl) w_lit) rfl
theorem attach_call {l:OpenLaw}{n:Nat}{q:Program}{loose:List Str}{XP:(Str->Option Value)->Heap->Prop}{YP:World->Heap->Prop}{d:DefRec}
  (hn:l.most=some n) (hdf:d.params.defaults=[])
  (call:∀(w:World) (s₀ s₁:Shared) (mg mb:Str->Option Value) (fa:Addr) (o:Obj) (pm cd doc:Value) (a:Addr) (vs:List Value) (ns:List Int),
   Ground q loose [] XP w s₀ mg mb s₁.heap->YP w s₁.heap->
   s₁.heap.get? fa=some o->o.data=.func (docDef d.name d.params d.body d.scope pm cd doc)->s₁.heap.CodeRec cd d.name->mg d.name=some (.ref fa)->
   s₁.heap.get? a=some {cls:=.type "list",data:=.seq vs.toArray}->IntsAre vs ns->ns.length<=n->s₁.gens=#[]->
   codeAny (model l.prog w) callerA (.call (.ref fa) ⟨[.ref a],[]⟩) (fun r s'=>r=.ok (.ret (.bool true))/\OldK s₁.heap s'.heap/\s'.os=s₁.os/\AllBare s'.gens) s₁):
  WalkO q loose XP YP l.row.toRowW d [] (fun f vs=>PySem.call f vs):=by
 intro w s₀ s₁ mg mb G Y fa o pm cd doc dV kV ho hd hcd hD hmg hg args vals as hpre hlay hrd hwl hlo;obtain rfl:dV=.none:=Dflts.none hD hdf;obtain rfl:kV=.none:=Dflts.noKw hD;obtain⟨a,vs,ns,rfl,rfl,hobj,hints,hlen⟩:=rG hn hpre hwl;refine enter_call (codeAny_mono (call w s₀ s₁ mg mb fa o pm cd doc a vs ns G Y ho (fd_plain hd) hcd hmg hobj hints hlen hg) fun r s' hq=>?_)
 obtain⟨rfl,h2,h3,h4⟩:=hq;exact⟨.inl ⟨.bool true,.bool true,[],rfl,fun y=>rfl,.bool true,oF l _,fun y=>⟨List.Pairwise.nil,fun y hm=>(nomatch hm)⟩⟩,h2,h3,h4⟩
section
variable{prog:Program}{w:World}{A:Around}{E:Value->Shared->Prop}{s:Shared}{K:Frag}
end
end Att
namespace L2
open PySem PySem.Spec PyProof.Rows
theorem pW {vs:List Value}{ns:List Int}(h:IntsAre vs ns):Vals (ns.map V.int) vs:=by
 induction h with
 |nil=>exact .nil
 |cons n t h ih=>exact .cons ⟨t,rfl⟩ ih
noncomputable def AU (H:Hp):Prop:=∀b,H b=none\/(∃o xs,H b=some (.frz o (.lst xs)))\/∃lq,H b=some (.tbl lq #[])
noncomputable def dm:Hp:=fun b=>match Lams.tb.find? (fun q=>q.1==b)with
 |some q=>some (.tbl q.2 #[])
 |none=>none
set_option tactic.hygienic true in
theorem bj {b:Addr}{u:HO}(h:dm b=some u):∃q∈Lams.tb,b=q.1/\u=.tbl q.2 #[]:=by
 unfold dm at h;split at h
 ·rename_i q e
  obtain rfl:=Zb h;have h1:=List.find?_some e
  exact⟨q,List.mem_of_find?_eq_some e,(beq_iff_eq.mp h1).symm,rfl⟩
 ·contradiction
theorem im (hTu:∀q∈Lams.tb,∀r∈Lams.tb,q.1=r.1->q=r) {q:Addr×Str}(hq:q∈Lams.tb):dm q.1=some (.tbl q.2 #[]):=by
 unfold dm;cases e:Lams.tb.find? (fun r=>r.1==q.1)with
 |none=>exact absurd (List.find?_eq_none.mp e q hq) (by simp)
 |some r=>
  have h1:=beq_iff_eq.mp (List.find?_some (p:=fun r:Addr×Str=>r.1==q.1) e)
  rw[hTu r (List.mem_of_find?_eq_some e) q hq h1]
theorem su {P:Program}{w:World}{K:PySem.W.Frag}{mg mb:Str->Option Value}{CX:CXT}{k:Nat}{fa a:Addr}{fd:FuncData}{x:Str}{sp:Sp}{s₁:Shared}{vs:List Value}{ns:List Int}
  (KX:K.In s₁.heap) (hns:s₁.heap.Ns mainGlobals mg) (hb:s₁.heap.Ns builtinsNs mb) (hbb:∀x:Str,x≠"__name__"->mb x=bootBuiltins x) (hlim:s₁.heap.NoLimit) (hg:s₁.gens=#[])
  (ha:s₁.heap.get? a=some {cls:=.type "list",data:=.seq vs.toArray}) (hi:IntsAre vs ns) (hl:ns.length<=sizeLine) (hr:Room k callerA)
  (F:∀base:Heap,K.In base->base.Ns mainGlobals mg->FnOk P w K mg base CX k fa fd [x] sp) (hbind:∀(s:Shared) (u:Value),BindsTo s fd ⟨[u],[]⟩ [(x,u)])
  (hsp:∀H:Hp,AU H->SqL K H a (ns.map V.int)->sp [.ref a] H (fun v c=>v=.bl true) fun c c c=>False)
  (hCX:∀H e s',CX [] H s₁ (fun c c c=>False) e s'->False)
  (hbm:∃bm ob,mg "__builtins__"=some (.ref bm)/\bm≠builtinsNs/\s₁.heap.get? bm=some ob/\ob.cls=.type "module"/\ob.dict=some builtinsNs/\ob.data=.plain)
  (hT:∀q∈Lams.tb,s₁.heap.get? q.1=some {cls:=.none,data:=.fields #[]}/\K.lookup q.1=none/\isCodeTable s₁.heap q.1) (hTu:∀q∈Lams.tb,∀r∈Lams.tb,q.1=r.1->q=r):
  codeAny (model P w) callerA (.call (.ref fa) ⟨[.ref a],[]⟩) (fun r s'=>r=.ok (.ret (.bool true))/\OldK s₁.heap s'.heap/\s'.os=s₁.os/\AllBare s'.gens) s₁:=by
 have rv:=pW hi;have lenV:=hi.length;have core:∀H:Hp,AU H->SqL K H a (ns.map V.int)->HOk P w H s₁.heap->(∀b,H b≠none->(b=a/\K.lookup a=none)\/∃q∈Lams.tb,b=q.1)->TabH H->
   codeAny (model P w) callerA (.call (.ref fa) ⟨[.ref a],[]⟩) (fun r s'=>r=.ok (.ret (.bool true))/\OldK s₁.heap s'.heap/\s'.os=s₁.os/\AllBare s'.gens) s₁:=by
  intro H hO hS hok hA hTb;have base_of:∀{b:Addr}{o:Obj},s₁.heap.get? b=some o->H b=none->(uH s₁.heap H).get? b=some o:=fun e n=>tm e n
  have untr:∀{b:Addr}{o:Obj},s₁.heap.get? b=some o->o≠{cls:=.type "list",data:=.seq vs.toArray}->o≠{cls:=.none,data:=.fields #[]}->H b=none:=fun{b o} e n1 n2=>by
   cases q:H b with
   |none=>rfl
   |some u=>
    rcases hA b (by rw[q];simp)with⟨z,_⟩|⟨r,hr,z⟩
    ·subst z;rw[ha]at e;exact absurd (Zb e).symm n1
    ·subst z;rw[(hT r hr).1]at e;exact absurd (Zb e).symm n2
  have noA:∀{b:Addr}{o:Obj}{es:Array DictEntry}{ep:Nat},s₁.heap.get? b=some o->o.data=.dict es ep->H b=none:=fun{b o es ep} e d=>
   untr e (fun z=>by subst z;contradiction) fun z=>by subst z;contradiction
  have nsK:∀{b:Addr}{m:Str->Option Value},s₁.heap.Ns b m->(uH s₁.heap H).Ns b m:=fun{b m} ⟨o,es,ep,e,d,r⟩=>⟨o,es,ep,base_of e (noA e d),d,r⟩
  have hKb:K.In (uH s₁.heap H):=fun b o e=>base_of (KX b o e) (by
   cases q:H b with
   |none=>rfl
   |some u=>
    rcases hA b (by rw[q];simp)with⟨z,z2⟩|⟨r,hr,z⟩
    ·subst z;rw[z2]at e;contradiction
    ·subst z;rw[(hT r hr).2.1]at e;contradiction)
  have hM:Mod K mg (uH s₁.heap H):=⟨hKb,nsK hns,⟨mb,nsK hb,hbb⟩,let ⟨mc,h1,h2⟩:=hlim;⟨mc,nsK h1,h2⟩,by
   obtain⟨bm,ob,b1,b2,b3,b4,b5⟩:=hbm;exact⟨bm,ob,b1,b2,base_of b3 (untr b3 (fun z=>by subst z;cases b5.2) fun z=>by subst z;cases b5.2),b4,b5⟩⟩
  have e0:Env0 P w K mg (uH s₁.heap H) callerA [] s₁ H:=⟨rfl,hM,fun b o e=>xH e,Nat.le_of_eq (oR _ _),trivial,fun b hb=>absurd (show b∈([]:List Addr) from hb) (by simp),hok,.of_eq hg,hTb⟩
  refine codeAny_mono ((F _ hKb (nsK hns)).run callerA [] s₁ H ⟨[.ref a],[]⟩ [.ref a] [.ref a] _ _ hr e0 (hbind s₁ (.ref a)) (.cons rfl .nil) (hsp H hO hS)) fun r s' h=>?_
  cases r with
  |error e=>exact(hCX H e s' h).elim
  |ok fl=>
   cases fl with
   |next=>exact False.elim h
   |brk=>exact False.elim h
   |cont=>exact False.elim h
   |ret u=>
    obtain⟨v,H',os,bare,un,hok',r',q⟩:=h;have q':v=.bl true:=q;subst q';obtain rfl:u=Value.bool true:=r';refine⟨rfl,⟨fun b o e=>?_,fun b o e=>un.there b o e (by simp)⟩,os,bare⟩
    cases q:H b with
    |none=>exact .inl (un.keep b o e q (by intro z;exact absurd (show b∈([]:List Addr) from z) (by simp)) (by simp))
    |some u=>
     rcases hO b with z|⟨ob,xs,z⟩|⟨lq,z⟩
     ·rw[q]at z;contradiction
     ·have z2:=un.frzs b ob _ z
      obtain⟨e1,_⟩:=hok b _ z;obtain⟨e2,_⟩:=hok' b _ z2;rw[e]at e1;obtain rfl:=Zb e1;exact .inl e2
     ·obtain⟨more,z2⟩:=un.tbls b lq _ z
      obtain⟨e1,_⟩:=hok b _ z;obtain⟨e2,_⟩:=hok' b _ z2;rw[e]at e1;obtain rfl:=Zb e1
      rcases hA b (by rw[q];simp)with⟨y,_⟩|⟨r,hr,y⟩
      ·subst y;rw[ha]at e;cases e
      ·subst y
       exact .inr (.inl ⟨(hT r hr).2.2,rfl,#[],more,rfl,e2⟩)
 have tna:dm a=none:=by
  cases q:dm a with
  |none=>rfl
  |some u=>
   obtain⟨r,hr,e,_⟩:=bj q;have:=(hT r hr).1;rw[<-e,ha]at this;cases this
 have tok:∀(H:Hp) b u,dm b=some u->ObjOk P w H s₁.heap b u:=fun H b u z=>by
  obtain⟨r,hr,e,rfl⟩:=bj z;subst e;exact⟨(hT r hr).1,trivial,fun pos cv e=>by cases e⟩
 cases hk:K.lookup a with
 |some o=>
  have e:=KX a o hk;rw[ha]at e;obtain rfl:=Zb e;refine core dm (fun b=>?_) (.inr ⟨_,vs.toArray,_,hk,rfl,rfl,rfl,by rw[Zh,lenV];exact hl,by simpa using rv⟩) (fun b u z=>tok _ b u z) (fun b z=>?_) fun q hq=>⟨_,im hTu hq⟩
  ·cases q:dm b with
   |none=>exact .inl rfl
   |some u=>obtain⟨r,hr,e,rfl⟩:=bj q;exact .inr (.inr ⟨_,rfl⟩)
  ·cases q:dm b with
   |none=>exact absurd q z
   |some u=>obtain⟨r,hr,e,_⟩:=bj q;exact .inr ⟨r,hr,e⟩
 |none=>
  refine core (fun b=>if b=a then some (.frz {cls:=.type "list",data:=.seq vs.toArray} (.lst (ns.map V.int))) else dm b) (fun b=>?_) (.inl (.inr ⟨{cls:=.type "list",data:=.seq vs.toArray},Zm rfl⟩)) (fun b u z=>?_) (fun b z=>?_) fun q hq=>⟨#[],?_⟩
  ·by_cases hb:b=a
   ·exact .inr (.inl ⟨_,_,Zm hb⟩)
   ·cases q:dm b with
    |none=>exact .inl ((Zo hb).trans q)
    |some u=>obtain⟨r,hr,e,rfl⟩:=bj q;exact .inr (.inr ⟨_,(Zo hb).trans q⟩)
  ·by_cases hb:b=a
   ·have z':=(Zm hb).symm.trans z
    obtain rfl:=Zb z';subst hb;exact⟨ha,by rw[Zn];exact hl,vs,_,rv,ha⟩
   ·exact tok _ b u ((Zo hb).symm.trans z)
  ·by_cases hb:b=a
   ·exact .inl ⟨hb,hk⟩
   ·cases q:dm b with
    |none=>exact absurd ((Zo hb).trans q) z
    |some u=>obtain⟨r,hr,e,_⟩:=bj q;exact .inr ⟨r,hr,e⟩
  ·have hne:q.1≠a:=fun z=>by rw[<-z,im hTu hq]at tna;contradiction
   exact(Zo hne).trans (im hTu hq)
noncomputable abbrev KOf {K:PySem.W.Frag}{h:Heap}(_:K.In h):PySem.W.Frag:=K
theorem v8 {l:PySem.W.OpenLaw}{n k:Nat}{q:Program}{loose:List Str}{XP:(Str->Option Value)->Heap->Prop}{YP:World->Heap->Prop}{d:DefRec}{K:Params->PySem.W.Frag}{CX:World->CXT}{sp:World->Sp}{x:Str}
  (hn:l.most=some n) (hn2:n<=sizeLine) (hdf:d.params.defaults=[]) (hr:Room k callerA)
  (hY:∀(w:World) (h:Heap),YP w h->(K w.params).In h/\∀q∈Lams.tb,h.get? q.1=some {cls:=.none,data:=.fields #[]})
  (F:∀(w:World) (mg:Str->Option Value) (fa:Addr) (h:Heap),(K w.params).In h->h.Ns mainGlobals mg->mg d.name=some (.ref fa)->
   ∃fd:FuncData,(∀(s:Shared) (u:Value),BindsTo s fd ⟨[u],[]⟩ [(x,u)])/\
    ∀base:Heap,(K w.params).In base->base.Ns mainGlobals mg->FnOk l.prog w (K w.params) mg base (CX w) k fa fd [x] (sp w))
  (hsp:∀(w:World) (H:Hp) (a:Addr) (ns:List Int),ns.length<=n->AU H->SqL (K w.params) H a (ns.map V.int)->sp w [.ref a] H (fun v y=>v=.bl true) fun y y y=>False)
  (hCX:∀(w:World) (H:Hp) (s:Shared) (e:Value) (s':Shared),CX w [] H s (fun y y y=>False) e s'->False) (hLam:∀(w:World),∀q∈Lams.tb,(K w.params).lookup q.1=none/\∃c,PySem.W.codeHdIn (K w.params) c q.1=true) (hTu:∀q∈Lams.tb,∀r∈Lams.tb,q.1=r.1->q=r):
  PySem.W.WalkO q loose XP YP l.row.toRowW d [] (fun f vs=>PySem.call f vs):=by
 refine Att.attach_call hn hdf fun w s₀ s₁ mg mb fa o pm cd doc a vs ns G Y ho hd hcd hmg hobj hints hlen hg=>?_
 have KX:=(hY w _ Y).1;obtain⟨fd,hb,hF⟩:=F w mg fa _ KX G.T.g hmg;exact su KX G.T.g G.T.b G.T.builtins G.T.nolimit hg hobj hints (ZM hlen hn2) hr hF hb (fun H hO hS=>hsp w H a ns hlen hO hS) (fun H e s'=>hCX w H s₁ e s') G.T.bmain (fun q hq=>⟨(hY w _ Y).2 q hq,(hLam w q hq).1,by
  obtain⟨c,hc⟩:=(hLam w q hq).2;obtain⟨o,vs,_,_,_,_,_,_,_,e1,e2,e3,e4,_⟩:=PySem.W.codeHd_of_K KX hc;exact⟨c,o,vs,e1,e2,e3,e4⟩⟩) hTu
theorem walk_ofK {l:PySem.W.OpenLaw}{n k:Nat}{q:Program}{loose:List Str}{XP:(Str->Option Value)->Heap->Prop}{YP:World->Heap->Prop}{d:DefRec}{K:Params->PySem.W.Frag}{CX:CXT}{sp:PySem.W.Frag->Sp}{x:Str}
  (hn:l.most=some n) (hn2:n<=sizeLine) (hdf:d.params.defaults=[]) (hr:Room k callerA)
  (hY:∀(w:World) (h:Heap),YP w h->(K w.params).In h/\∀q∈Lams.tb,h.get? q.1=some {cls:=.none,data:=.fields #[]})
  (F:∀(w:World) (mg:Str->Option Value) (fa:Addr) (h:Heap),(K w.params).In h->h.Ns mainGlobals mg->mg d.name=some (.ref fa)->
   ∃fd:FuncData,(∀(s:Shared) (u:Value),BindsTo s fd ⟨[u],[]⟩ [(x,u)])/\
    ∀base:Heap,(K w.params).In base->base.Ns mainGlobals mg->FnOk l.prog w (K w.params) mg base CX k fa fd [x] (sp (K w.params)))
  (hsp:∀(K:PySem.W.Frag) (H:Hp) (a:Addr) (ns:List Int),ns.length<=n->AU H->SqL K H a (ns.map V.int)->sp K [.ref a] H (fun v y=>v=.bl true) fun y y y=>False)
  (hCX:∀(H:Hp) (s:Shared) (e:Value) (s':Shared),CX [] H s (fun y y y=>False) e s'->False) (hLam:∀(w:World),∀q∈Lams.tb,(K w.params).lookup q.1=none/\∃c,PySem.W.codeHdIn (K w.params) c q.1=true) (hTu:∀q∈Lams.tb,∀r∈Lams.tb,q.1=r.1->q=r):
  PySem.W.WalkO q loose XP YP l.row.toRowW d [] (fun f vs=>PySem.call f vs):=
 v8 (K:=K) (CX:=fun y=>CX) (sp:=fun w=>sp (K w.params)) hn hn2 hdf hr hY F (fun w H a ns h1 h2 h3=>hsp (K w.params) H a ns h1 h2 h3) (fun y H s e s'=>hCX H s e s') hLam hTu
noncomputable def bA (s:Stmt):Arguments:=match s with
 |.FunctionDef _ a _ _ _ _ _ _ _ _=>a
 |_=>{posonlyargs:=[],args:=[],vararg:=none,kwonlyargs:=[],kw_defaults:=[],kwarg:=none,defaults:=[]}
noncomputable def aM (s:Stmt):List Stmt:=match s with
 |.FunctionDef _ _ b _ _ _ _ _ _ _=>b
 |_=>[]
noncomputable def aq (s:Stmt):Scope:=match s with
 |.FunctionDef _ _ _ _ _ _ sc _ _ _=>sc
 |_=>{kind:=.function,names:=[],isGenerator:=false,isCoroutine:=false}
noncomputable abbrev CX0:CXT:=fun y y y y y y=>False
noncomputable abbrev E0:XK:=fun y y y=>False
theorem Bn {X:Cx}:rT CX0 X E0:=fun y y y y y y y h=>h.elim
structure Fun (K:PySem.W.Frag) (x qual:Str) (st:Stmt) (f:Addr) (fd:FuncData):Prop where
 ex:∃(oc:Value) (od:Option Addr) (kV doc pm:Value) (an:Option Addr) (cdv ct:Value) (osl:Array (Option Value)),
  fd=PySem.W.fnOf x qual (bA st) (aM st) (aq st) .none kV doc pm an cdv ct/\K.lookup f=some ⟨oc,od,.func fd,osl⟩/\PySem.W.codeIn K cdv qual=true
 kp:PySem.W.keepIn K (.ref f)=true
section
variable{P:Program}{w:World}{K:PySem.W.Frag}{mg:Str->Option Value}{base:Heap}
theorem Fun.ok {x qual:Str}{st:Stmt}{f:Addr}{fd:FuncData}{N ps:List Str}{k:Nat}{sp:Sp}(F:Fun K x qual st f fd) (S:FnScope N ps (aq st)) (len:∀vs H Q E,sp vs H Q E->vs.length=ps.length)
  (hbody:∀(cdv:Value) (A:Around) (outer:List Env) (s:Shared) (H:Hp) (vs:List V) (Q:VK) (E:XK),Room k (A.deeper (envOfC qual (aq st) s.heap.objs.size f cdv))->sp vs H Q E->
   ∃t,PSs (kD CX0 P w K mg base N qual (aq st) f cdv A outer s H E).nox (aM st) t/\t {nx:=fun y H'=>Q .non H',rt:=Q} (b0 N vs) H):FnOk P w K mg base CX0 (k+1) f fd ps sp:=by
 obtain⟨oc,od,kV,doc,pm,an,cdv,ct,osl,rfl,lk,hcd⟩:=F.ex;refine zh lk hcd S len fun A outer s H vs Q E hr hsp=>?_
 obtain⟨t,h,q⟩:=hbody cdv A outer s H vs Q E hr hsp;exact⟨t,h.nox,q⟩
theorem Fun.binds {x qual:Str}{st:Stmt}{f:Addr}{fd:FuncData}{ps:List Str}(F:Fun K x qual st f fd)
  (h:∀(kV doc pm:Value) (an:Option Addr) (cdv ct:Value) (us:List Value),us.length=ps.length->bindArgs (PySem.W.fnOf x qual (bA st) (aM st) (aq st) .none kV doc pm an cdv ct) ⟨us,[]⟩=pure (ps.zip us)):Binds K fd ps []:=by
 obtain⟨oc,od,kV,doc,pm,an,cdv,ct,osl,rfl,lk,hcd⟩:=F.ex;exact .all (h kV doc pm an cdv ct)
theorem rf {x qual:Str}{st:Stmt}{f:Addr}{oc:Value}{od an:Option Addr}{osl:Array (Option Value)}{kV doc pm cdv ct:Value}(l:K.lookup f=some ⟨oc,od,.func (PySem.W.fnOf x qual (bA st) (aM st) (aq st) .none kV doc pm an cdv ct),osl⟩)
  (c:PySem.W.codeIn K cdv qual=true) (k:PySem.W.keepIn K (.ref f)=true):Fun K x qual st f (PySem.W.fnOf x qual (bA st) (aM st) (aq st) .none kV doc pm an cdv ct):=⟨⟨oc,od,kV,doc,pm,an,cdv,ct,osl,rfl,l,c⟩,k⟩
end
section
variable{X:Cx}
end
theorem vq {A B:Prop}(h:B):if false=true then A else B:=by
 rw[Zo ZE];exact h
theorem vF {A B:Prop}(h:A):if true=true then A else B:=by
 rw[Zm rfl];exact h
noncomputable def HO.nt:HO->Bool
 |.tbl _ _=>false
 |_=>true
noncomputable abbrev HOn:={o:HO // o.nt=true}
theorem HOn.ok (o:HOn):HO.nt o.1=true:=o.2
structure Same (H H':Hp):Prop where
 get:∀b o,o.nt=true->H b=some o->H' b=some o
 tbl:∀b lq ps,H b=some (.tbl lq ps)->∃more,H' b=some (.tbl lq (ps++more))
theorem Same.app {H H':Hp}(s:Same H H') (b:Addr) (o:HO) (h:H b=some o) (n:o.nt=true:=by first|rfl|assumption|exact HOn.ok _):H' b=some o:=s.get b o n h
noncomputable instance Same.fn {H H':Hp}:CoeFun (Same H H') (fun y=>∀(b:Addr) (o:HO) (h:H b=some o) (n:o.nt=true:=by first|rfl|assumption|exact HOn.ok _),H' b=some o):=⟨@Same.app H H'⟩
theorem Same.refl (H:Hp):Same H H:=⟨fun y y y h=>h,fun b lq ps h=>⟨#[],by rw[Array.append_empty];exact h⟩⟩
theorem Same.trans {H H1 H2:Hp}(a:Same H H1) (b:Same H1 H2):Same H H2:=⟨fun c o n h=>b.get c o n (a.get c o n h),fun c lq ps h=>by
 obtain⟨m1,e1⟩:=a.tbl c lq ps h;obtain⟨m2,e2⟩:=b.tbl c lq _ e1;exact⟨m1++m2,by rw[e2,Array.append_assoc]⟩⟩
theorem Same.there {H H':Hp}(e:Same H H') {l:Addr}{o:HO}(q:H l=some o):∃o',H' l=some o':=by
 cases n:o.nt with
 |true=>exact⟨o,e.get l o n q⟩
 |false=>
  cases o with
  |tbl lq ps=>obtain⟨m,q'⟩:=e.tbl l lq ps q;exact⟨_,q'⟩
  |_=>contradiction
theorem Same.free {H H':Hp}(e:Same H H') {l:Addr}(h:H' l=Option.none):H l=Option.none:=by
 cases q:H l with
 |none=>rfl
 |some o=>
  obtain⟨o',q'⟩:=e.there q;rw[q']at h
  contradiction
theorem Same.keep {Hk H H':Hp}(e:Same Hk H) (k:∀c o o',Hk c=some o'->H c=some o->H' c=some o):Same Hk H':=
 ⟨fun c o n q=>k c o o q (e.get c o n q),fun c lq ps q=>by
  obtain⟨m,q'⟩:=e.tbl c lq ps q;exact⟨m,k c _ _ q q'⟩⟩
theorem Same.put {Hk H:Hp}{b:Addr}{o:HO}(e:Same Hk H) (h:Hk b=none):Same Hk (upd H b o):=
 e.keep fun c o' o2 q1 q2=>by rw[ai (av q1 h)];exact q2
theorem Same.seq {K:PySem.W.Frag}{H H':Hp}{a:Addr}{xs:List V}(e:Same H H') (h:SqL K H a xs):SqL K H' a xs:=by
 rcases h with(h|⟨o,h⟩)|h
 ·exact .inl (.inl (e _ _ h))
 ·exact .inl (.inr ⟨o,e _ _ h⟩)
 ·exact .inr h
section
variable{κ:Type}[DecidableEq κ]
theorem sA {kvs:List (κ×V)}{k:κ}(h:dh kvs k=none):¬k∈kvs.map (·.1):=by
 intro m;obtain⟨p,hp,e⟩:=List.mem_map.mp m;have q:(kvs.any fun kv=>decide (kv.1=k))=true:=List.any_eq_true.mpr ⟨p,hp,Zw e⟩
 rw[dU,h]at q;exact absurd q (by simp)
end
noncomputable abbrev az (X:Cx) (scope:Scope) (cl:List (Str×Addr)) (C:Addr) (s₂:Shared) (H₂:Hp) (ex:List Addr) (pn:List (Addr×Obj)):Cx:=
 {X with s₀:=s₂,H₀:=H₂,env:=compEnvC scope cl C X.env,outer:=X.stack,stack:=X.stack,ex:=ex,fn:=fun y=>false,pn:=pn,xe:=fun y y=>False}
noncomputable def oC (bs:List Bool) (σ:St):St:=List.zipWith (fun(b:Bool) o=>if b=true then o else none) bs σ
theorem cN {bs:List Bool}{σ:St}(h:bs.length=σ.length):(oC bs σ).length=σ.length:=by
 unfold oC;rw[List.length_zipWith,h,Nat.min_self]
theorem tR {bs:List Bool}{σ:St}{i:Nat}{v:V}(h:(oC bs σ)[i]?=some (some v)):bs[i]?=some true/\σ[i]?=some (some v):=by
 unfold oC at h;rw[List.getElem?_zipWith]at h
 cases e1:bs[i]? with
 |none=>rw[e1]at h;simp at h
 |some b=>
  cases e2:σ[i]? with
  |none=>rw[e1,e2]at h;simp at h
  |some o=>
   rw[e1,e2]at h;simp only[ZG]at h;cases b with
   |false=>simp at h
   |true=>simp at h;exact⟨rfl,by rw[h]⟩
noncomputable def PTs (X:Cx) (ifs:List Expr) (t:TT):Prop:=
 ∀(pins:List (Addr×Obj)) (s:Shared) (σ:St) (H:Hp) (Q:Bool->Hp->Prop),Inv X pins σ H s->t σ H Q->
  wpAny (model X.prog X.w) X.A (forIn ifs true fun c r=>if r=true then do let ok <-isTrue c X.env (eval c X.env);pure (ForInStep.yield ok) else pure (ForInStep.yield r)) (TP X pins σ Q) X.xe s
noncomputable def tTrue:TT:=fun y H Q=>Q true H
theorem xL {X:Cx}:PTs X [] tTrue:=fun pins s σ H Q I h=>wpAny_tests_nil ⟨H,I,h⟩
theorem wK {X:Cx}{c:Expr}{t:TT}(h:PT X c t):PTs X [c] t:=fun pins s σ H Q I hq=>wpAny_tests_one (h pins s σ H Q I hq)
noncomputable def cg (env:Env):List (Str×NameKind)->List (Str×Addr)->List (Str×Addr)
 |[],acc=>acc
 |(n,k)::r,acc=>if(k==NameKind.free)=true then cg env r ((n,(env.cells.lookup n).getD 0)::acc) else cg env r acc
theorem ip (env:Env):∀(names:List (Str×NameKind)) (acc:List (Str×Addr)),(∀y∈names,y.2=.free->∃c,env.cells.lookup y.1=some c)->
  (forIn names acc (fun(x:Str×NameKind) (cs:List (Str×Addr))=>(match x with
   |(name,kind)=>if(kind==.free)=true then(do let c <-cellOf env name;pure (ForInStep.yield ((name,c)::cs))) else pure (ForInStep.yield cs):Sem (ForInStep (List (Str×Addr))))))=pure (cg env names acc)
 |[],acc,_=>rfl
 |(n,k)::r,acc,h=>by
  by_cases hk:k=.free
  ·subst hk
   obtain⟨c,e⟩:=h (n,.free) Zg rfl;have ih:=ip env r ((n,c)::acc) fun y hy=>h y (Ze _ hy)
   have ec:cellOf env n=pure c:=by unfold cellOf;rw[e]
   rw[List.forIn_cons];simp only[YH,Z6,ec,pure_bind];rw[ih];simp only[cg,YH,Z6,e,Option.getD_some]
  ·have hb:(k==NameKind.free)=false:=by simpa using hk
   have ih:=ip env r acc fun y hy=>h y (Ze _ hy)
   rw[List.forIn_cons];simp only[hb,Zx,ZY,pure_bind];rw[ih]
   conv=>rhs;rw[cg.eq_def]
   simp only[hb,Zx,ZY]
theorem cy (env:Env):∀(names:List (Str×NameKind)) (acc:List (Str×Addr)),(∀y∈names,y.2=.free->∃c,env.cells.lookup y.1=some c)->
  (∀x c,acc.lookup x=some c->env.cells.lookup x=some c)->∀x c,(cg env names acc).lookup x=some c->env.cells.lookup x=some c
 |[],acc,_,ha=>ha
 |(n,k)::r,acc,h,ha=>by
  have hr:∀y∈r,y.2=.free->∃c,env.cells.lookup y.1=some c:=fun y hy=>h y (Ze _ hy)
  unfold cg
  by_cases hk:(k==NameKind.free)=true
  ·rw[Zm hk]
   obtain⟨c,e⟩:=h (n,k) Zg (eq_of_beq hk);refine cy env r _ hr fun x d hx=>?_
   rw[List.lookup_cons]at hx;cases q:x==n with
   |true=>
    rw[q,e]at hx;rw[eq_of_beq q,e]
    simpa using hx
   |false=>rw[q]at hx;exact ha x d hx
  ·rw[Zo hk];exact cy env r acc hr ha
theorem dg (env:Env) (x:Str):∀(names:List (Str×NameKind)) (acc:List (Str×Addr)),((x,NameKind.free)∈names\/∃c,acc.lookup x=some c)->∃c,(cg env names acc).lookup x=some c
 |[],acc,h=>by
  rcases h with h|h
  ·contradiction
  ·exact h
 |(n,k)::r,acc,h=>by
  unfold cg
  by_cases hk:(k==NameKind.free)=true
  ·rw[Zm hk]
   refine dg env x r _ ?_
   by_cases q:(x==n)=true
   ·exact .inr ⟨_,by rw[List.lookup_cons,q]⟩
   ·rcases h with h|⟨c,h⟩
    ·rcases ZA.mp h with h|h
     ·cases h;simp at q
     ·exact .inl h
    ·exact .inr ⟨c,by rw[List.lookup_cons];simp[q,h]⟩
  ·rw[Zo hk]
   refine dg env x r _ ?_
   rcases h with h|h
   ·rcases ZA.mp h with h|h
    ·cases h;simp at hk
    ·exact .inl h
   ·exact .inr h
theorem df {scope:Scope}{env:Env}(h:∀y∈scope.names,y.2=.free->∃c,env.cells.lookup y.1=some c):closureFor scope env=pure (cg env scope.names []):=by
 have e:=ip env scope.names [] h;have q:closureFor scope env=((forIn scope.names [] (fun(x:Str×NameKind) (cs:List (Str×Addr))=>(match x with
   |(name,kind)=>if(kind==.free)=true then(do let c <-cellOf env name;pure (ForInStep.yield ((name,c)::cs))) else pure (ForInStep.yield cs):Sem (ForInStep (List (Str×Addr)))))) >>= fun cs=>pure cs):=rfl
 rw[q,e,pure_bind]
theorem bb {env:Env}:∀{names:List (Str×NameKind)}{x:Str}{k:NameKind},
  (names.map fun(n,k)=>if(k==NameKind.free&&env.scope.kind==.function&&env.kindOf n==some .cell) then(n,NameKind.cell) else(n,k)).lookup x=some k->
  names.lookup x=some k\/(names.lookup x=some .free/\k=.cell)
 |[],_,_,h=>by simp at h
 |(n,k')::r,x,k,h=>by
  have ih:=@bb env r x k;have h':List.lookup x ((if(k'==NameKind.free&&env.scope.kind==.function&&env.kindOf n==some .cell)=true then(n,NameKind.cell) else(n,k'))::(r.map fun(n,k)=>if(k==NameKind.free&&env.scope.kind==.function&&env.kindOf n==some .cell) then(n,NameKind.cell) else(n,k)))=some k:=h
  by_cases hc:(k'==NameKind.free&&env.scope.kind==.function&&env.kindOf n==some .cell)=true
  ·rw[Zm hc]at h'
   rw[List.lookup_cons]at h'⊢;cases hx:x==n with
   |true=>
    rw[hx]at h';simp at h';have:k'=.free:=by
     have:=hc;simp only[Zu]at this;exact eq_of_beq this.1.1
    exact .inr ⟨by rw[this],h'.symm⟩
   |false=>rw[hx]at h';exact ih h'
  ·rw[Zo hc]at h'
   rw[List.lookup_cons]at h'⊢;cases hx:x==n with
   |true=>rw[hx]at h';exact .inl h'
   |false=>rw[hx]at h';exact ih h'
noncomputable def sS (wi:TI) (bs:List Bool) (g:TG) (tt:TT) (te:TE):TE:=fun σ H Q=>wi σ H fun J H1=>∀acc,H1 acc=none->
 ∃W:Nat->Nat->List V->St->Hp->Prop,(∃m,W 0 m [] (oC bs σ) (upd H1 acc (.lst [])))/\∀i m ys σ H,W i m ys σ H->H acc=some (.lst ys)/\
  ((J.stop i H/\Q (.ref acc) H)\/(J.go i H/\∀x H',J.yld i H x H'->g x σ H' fun σ2 H2=>tt σ2 H2 fun ok H3=>if ok=true
   then te σ2 H3 fun v H4=>H4 acc=some (.lst ys)/\ys.length<sizeLine/\∃m',m'<m/\W (i+1) m' (ys++[v]) σ2 (upd H4 acc (.lst (ys++[v])))
   else ∃m',m'<m/\W (i+1) m' ys σ2 H3))
section
variable{X:Cx}{pins:List (Addr×Obj)}{σ:St}{H:Hp}{s:Shared}{scope:Scope}{bs:List Bool}{fp:List Addr}
structure CompScope (X:Cx) (scope:Scope) (bs:List Bool):Prop where
 kind:scope.kind=.function
 cell:∀y∈scope.names,y.2≠.cell
 loc:∀y∈scope.names,y.2=.local->scope.names.lookup y.1=some .local
 fre:∀y∈scope.names,y.2=.free->scope.names.lookup y.1=some .free/\(X.env.kindOf y.1=some .cell\/X.env.kindOf y.1=some .free)
 len:bs.length=X.N.length
 vis:∀(i:Nat) (x:Str),X.N[i]?=some x->bs[i]?=some true->scope.names.lookup x=some .free
theorem CompScope.has (S:CompScope X scope bs) (I:Inv X pins σ H s):∀y∈scope.names,y.2=.free->∃c,X.env.cells.lookup y.1=some c:=fun y hy e=>I.ok.has y.1 (S.fre y hy e).2
theorem sZ {h':Heap}{m:Str->Option Value}(S:CompScope X scope bs) (I:Inv X pins σ H s) (hf:∀b∈fp,dT X pins H b) (ho:∀b∈fp,∃o,s.heap.get? b=some o)
  (hns:h'.Ns s.heap.objs.size m) (hk:∀b o,s.heap.get? b=some o->h'.get? b=some o) {t':Nat}:
  Inv (az X scope (cg X.env scope.names []) s.heap.objs.size s H fp (X.pn++pins)) [] (oC bs σ) H {s with heap:=h',toks:=t'}:=by
 have hh:=S.has I;have cons:=cy X.env scope.names [] hh (fun x c e=>by simp at e)
 refine⟨⟨I.ok.mod,S.kind,I.ok.glob,I.ok.blt,Zk _,fun x y c h1 h2=>I.ok.inj x y c (cons x c h1) (cons y c h2),fun x hx=>?_,(fun x c h=>nomatch h),I.ok.hd,I.ok.frames,.inl rfl,fun b hb=>⟨?_,fun x c e=>(hf b hb).2.2.2.2.1 x c (cons x c e)⟩,
  I.bs,ZM I.ok.bsz I.sz,fun b o e hb=>?_,fun b hb z=>?_,I.stack,I.stkFree,I.ok.tabs.to I.base.tbls⟩,
  rfl,I.bare,Un.kept hk,⟨m,hns,fun i x v e1 e2 e3=>?_⟩,fun x c e=>?_,I.hok.fresh (Zk _),fun x c e=>I.freeC x c (cons x c e),fun p hp=>?_,I.hok.kept hk,?_⟩
 ·have hx':(relabel scope X.env).names.lookup x=some .cell\/(relabel scope X.env).names.lookup x=some .free:=hx
  have key:(x,NameKind.free)∈scope.names:=by
   rcases hx' with q|q
   ·rcases bb q with q|⟨q,_⟩
    ·exact absurd rfl (S.cell _ (ZZ q))
    ·exact ZZ q
   ·rcases bb q with q|⟨_,q⟩
    ·exact ZZ q
    ·contradiction
  exact dg X.env x scope.names [] (.inl key)
 ·obtain⟨o,e⟩:=ho b hb
  exact Zy (Zi e)
 ·rcases(hf b hb).2.2.2.1 with z|z
  ·exact I.ok.noex b o e z
  ·exact absurd (Zr (Zi (I.ok.bs b o e).1) z) (ZR _)
 ·rcases ZA.mp (I.stkSub b z)with q|q
  ·exact(hf b hb).2.1 q
  ·exact(hf b hb).2.2.1 q
 ·obtain⟨hb,hs⟩:=tR e2
  have hfr:=S.vis i x e1 hb;obtain⟨_,hkd⟩:=S.fre _ (ZZ hfr) rfl;obtain⟨m0,hn0,hl⟩:=I.loc;have hvis:Vis X.env.scope x:=hkd.elim (fun z=>.inr (.inl z)) fun z=>.inr (.inr z)
  obtain⟨u,ru,lk⟩:=hl i x v e1 hs hvis;refine⟨u,ru,.inr ⟨?_,?_⟩⟩
  ·rcases e3 with q|q|q
   ·rcases bb (show(relabel scope X.env).names.lookup x=some .local from q)with q|⟨_,q⟩
    ·rw[hfr]at q;contradiction
    ·contradiction
   ·exact .inl q
   ·exact .inr q
  ·rcases lk with⟨kl,_⟩|⟨_,c,ec,ic⟩
   ·rcases hkd with z|z
    ·rw[kl]at z;contradiction
    ·rw[kl]at z;contradiction
   ·obtain⟨c',e'⟩:=dg X.env x scope.names [] (.inl (ZZ hfr))
    have e'':=cons x c' e';rw[ec]at e'';obtain rfl:=Zb e'';obtain⟨o,q1,q2⟩:=ic;exact⟨c,e',o,hk c o q1,q2⟩
 ·obtain⟨v,o,q1,q2⟩:=I.cell x c (cons x c e)
  exact⟨v,o,hk c o q1,q2⟩
 ·have hp':p∈X.pn++pins:=by
   have q:p∈(X.pn++pins)++([]:List (Addr×Obj)):=hp;rwa[Yt]at q
  obtain⟨e,n,ne,nf,d⟩:=I.pin p hp';refine⟨hk _ _ e,n,Zy (Zi e),fun z=>?_,d⟩
  rcases ZA.mp (I.stkSub p.1 z)with q|q
  ·exact ne q
  ·exact nf q
 ·rw[cN (by rw[S.len,I.len])]
  exact I.len
theorem tT {cl:List (Str×Addr)}{pins':List (Addr×Obj)}{σ':St}{H':Hp}{s':Shared}{C:Addr}(I:Inv X pins σ H s) (hf:∀b∈fp,dT X pins H b)
  (J:Inv (az X scope cl C s H fp (X.pn++pins)) pins' σ' H' s'):Inv X pins σ H' s':=by
 refine I.call' (ch:=fp) J.os J.base J.hok J.bare fun b hb=>?_
 obtain⟨f0,f1,f2,f3,f4,f5⟩:=hf b hb;exact⟨f3,f1,f4,f5⟩
end
section
variable{prog:Program}{w:World}{A:Around}{E:Value->Shared->Prop}{R:Result->Shared->Prop}{s:Shared}
theorem kC {elt target iter:Expr}{ifs:List Expr}{scope:Scope}{pos:Pos}{it acc:Value}{env:Env}(I:Nat->Shared->Prop)
  (turn:∀n s,I n s->wpAny (model prog w) A (pyNext it) (fun r s₁=>match r with
   |none=>R (.ok .next) s₁
   |some v=>wpAny (model prog w) A (letOwnedTupleGo target it v) (fun y s₁=>wpAny (model prog w) A (assign target env v) (fun y s₂=>
     wpAny (model prog w) A (forIn ifs true fun c r=>if r=true then do let ok <-isTrue c env (eval c env);pure (ForInStep.yield ok) else pure (ForInStep.yield r)) (fun ok s₃=>
      if ok=true then wpAny (model prog w) A (eval elt env) (fun x s₄=>
       wpAny (model prog w) A (call (.builtin "list.append") [acc,x]) (fun y s₅=>∃m,m<n/\I m s₅) (fun y y=>False) s₄) (fun y y=>False) s₃
      else ∃m,m<n/\I m s₃) (fun y y=>False) s₂) (fun y y=>False) s₁) (fun y y=>False) s₁) (fun y y=>False) s)
  (n:Nat) (h:I n s):
  codeAny (model prog w) A (.compLoop (.ListComp elt [⟨target,iter,ifs,0⟩] scope pos) 0 it acc env) R s:=by
 refine codeAny_loop rfl I (fun n s hI=>?_) n h
 show wpAny _ A ((compTurn (.ListComp elt [⟨target,iter,ifs,0⟩] scope pos) 0 it acc env).onRaise (fun x=>do noteFrame x env;theTreesLotGoes x)) _ _ s
 refine wpAny_noted ?_
 rw[compTurn_list];refine Za (wpAny_standAt (Za (Z8 (turn n s hI) (fun r s₁ h₁=>?_) fun y y h'=>h'.elim)))
 cases r with
 |none=>exact Zd h₁
 |some v=>
  refine Za (Z8 h₁ (fun y s₁' h₁'=>?_) fun y y h'=>h'.elim)
  refine Za (Z8 h₁' (fun y s₂ h₂=>Za (Z8 h₂ (fun ok s₃ h₃=>?_) fun y y h'=>h'.elim)) fun y y h'=>h'.elim)
  cases ok with
  |false=>exact Zd ⟨rfl,h₃⟩
  |true=>
   exact Za (Za (Z8 h₃ (fun x s₄ h₄=>Za (Z8 h₄ (fun y s₅ h₅=>Zd (Zd ⟨rfl,h₅⟩)) fun y y h'=>h'.elim)) fun y y h'=>h'.elim))
end
section
variable{X:Cx}{elt tg iter:Expr}{ifs:List Expr}{scope:Scope}{pos:Pos}{wi:TI}{g:TG}{tt:TT}{te:TE}{bs:List Bool}
theorem fO {pins:List (Addr×Obj)}{σ:St}{H:Hp}{s:Shared}{it:Addr}{fp:List Addr}{tn:Nat->Heap->Prop}{J:It}{Q:VK}{E:Value->Shared->Prop}{RR:Value->Addr->Result->Shared->Prop}
  (hc:X.calm=true) (S:CompScope X scope bs)
  (hg:∀cl C s₂ H₂ ex pn,PG (az X scope cl C s₂ H₂ ex pn) tg g) (ht:∀cl C s₂ H₂ ex pn,PTs (az X scope cl C s₂ H₂ ex pn) ifs tt) (he:∀cl C s₂ H₂ ex pn,PE (az X scope cl C s₂ H₂ ex pn) elt te)
  (I:Inv X pins σ H s) (T:Turn X.prog X.w X.K tg J fp it tn) (st:tn 0 s.heap) (hf:∀b∈fp,dT X pins H b)
  (hq:∀acc,H acc=none->
   ∃W:Nat->Nat->List V->St->Hp->Prop,(∃m,W 0 m [] (oC bs σ) (upd H acc (.lst [])))/\∀i m ys σ H,W i m ys σ H->H acc=some (.lst ys)/\
    ((J.stop i H/\Q (.ref acc) H)\/(J.go i H/\∀x H',J.yld i H x H'->g x σ H' fun σ2 H2=>tt σ2 H2 fun ok H3=>if ok=true
     then te σ2 H3 fun v H4=>H4 acc=some (.lst ys)/\ys.length<sizeLine/\∃m',m'<m/\W (i+1) m' (ys++[v]) σ2 (upd H4 acc (.lst (ys++[v])))
     else ∃m',m'<m/\W (i+1) m' ys σ2 H3)))
  (hRR:∀D C s' H' m',Inv X pins σ H' s'->Q (.ref D) H'->s'.heap.Ns C m'->H' C=none->C≠X.env.locals->C∉X.fs->X.s₀.heap.objs.size<=C->(∀x c,X.env.cells.lookup x=some c->c≠C)->(∀p∈X.pn++pins,p.1≠C)->
   RR (.ref D) C (.ok .next) s'):
  wpAny (model X.prog X.w) X.A (newList []) (fun acc s₃=>wpAny (model X.prog X.w) X.A (newFunctionEnv scope X.env.globals (cg X.env scope.names []) [] X.env.qual none .none (some X.env)) (fun cenv s₄=>
   codeAny (model X.prog X.w) X.A (.compStart (.ListComp elt [⟨tg,iter,ifs,0⟩] scope pos) 0 (.ref it) acc {cenv with scope:=relabel scope X.env}) (RR acc cenv.locals) s₄) E s₃) E s:=by
 refine ZL ?_
 have hfr:H s.heap.objs.size=none:=I.fresh;have I3:Inv X pins σ (upd H s.heap.objs.size (.lst [])) {s with heap:=s.heap.push {cls:=.type "list",dict:=none,data:=.seq ([]:List Value).toArray}}:=I.lnew (its:=[]) (t':=s.toks) .nil (ZK _)
 have stp:tn 0 (s.heap.push {cls:=.type "list",dict:=none,data:=.seq ([]:List Value).toArray}):=T.keep _ _ _ st fun b j o e=>Zc _ e
 have hlt:∀b∈fp,b<s.heap.objs.size:=fun b hb=>by
  obtain⟨o,e,_⟩:=T.obj _ _ st b hb;exact Zi e
 have f3:∀b∈fp,dT X pins (upd H s.heap.objs.size (.lst [])) b:=fun b hb=>⟨by rw[ai (Zy (hlt b hb))];exact(hf b hb).1,(hf b hb).2⟩
 obtain⟨W,⟨m0,w0⟩,turn⟩:=hq s.heap.objs.size hfr;generalize hacc:s.heap.objs.size=acc at*;generalize hs3:({s with heap:=s.heap.push {cls:=.type "list",dict:=none,data:=.seq ([]:List Value).toArray}}:Shared)=s3 at*
 have stp3:tn 0 s3.heap:=by rw[<-hs3];exact stp
 refine wpAny_newFunctionEnv S.cell (fun y hy=>by simp at hy) (fun h₁ hns₁ hsb₁=>?_) S.kind
 have keep:∀b o,s3.heap.get? b=some o->h₁.get? b=some o:=fun b o e=>(hsb₁.2 b (Zy (Zi e))).trans (Zc _ e)
 have ob3:∀b∈fp,∃o,s3.heap.get? b=some o:=fun b hb=>by
  obtain⟨o,e,_⟩:=T.obj _ _ stp3 b hb;exact⟨o,e⟩
 have I4:=sZ (t':=s3.toks+([]:List (Str×Value)).length) S I3 f3 ob3 hns₁ keep;have st4:tn 0 h₁:=T.keep _ _ _ stp3 fun b j o e=>keep b o e
 have stat:∀{H':Hp}{pl:List (Addr×Obj)},(∀b∈fp,H' b=none)->∀b∈fp,dT (az X scope (cg X.env scope.names []) s3.heap.objs.size s3 (upd H acc (.lst [])) fp (X.pn++pins)) [] H' b:=fun{H' pl} hn b hb=>by
  obtain⟨_,f1,f2,f3',f4,f5⟩:=f3 b hb;obtain⟨o,e⟩:=ob3 b hb;refine⟨hn b hb,Zy (Zi e),fun z=>?_,.inl hb,fun x c e=>f4 x c (cy X.env scope.names [] (S.has I3) (fun x c e=>by simp at e) x c e),fun p hp=>?_⟩
  ·rcases ZA.mp (I3.stkSub b z)with q|q
   ·exact f1 q
   ·exact f2 q
  ·have q:p∈(X.pn++pins)++([]:List (Addr×Obj)):=hp
   rw[Yt]at q;exact f5 p q
 let X':Cx:=az X scope (cg X.env scope.names []) s3.heap.objs.size s3 (upd H acc (.lst [])) fp (X.pn++pins)
 have loop:∀s5:Shared,s5={s3 with heap:=h₁,toks:=s3.toks+([]:List (Str×Value)).length}->
   codeAny (model X.prog X.w) X.A (.compLoop (.ListComp elt [⟨tg,iter,ifs,0⟩] scope pos) 0 (.ref it) (.ref acc) (compEnvC scope (cg X.env scope.names []) s3.heap.objs.size X.env)) (RR (.ref acc) s3.heap.objs.size) s5:=by
  rintro s5 rfl
  refine kC (fun n s'=>∃i ys σ' H',Inv (az X scope (cg X.env scope.names []) s3.heap.objs.size s3 (upd H acc (.lst [])) fp (X.pn++pins)) [] σ' H' s'/\tn i s'.heap/\(∀b∈fp,H' b=none)/\W i n ys σ' H') ?_ m0
   ⟨0,[],oC bs σ,upd H acc (.lst []),I4,st4,fun b hb=>(f3 b hb).1,w0⟩
  rintro n s6 hz9
  obtain⟨i,ys,σ6,H6,I6,st6,fr6,w6⟩:=hz9;obtain⟨hac,way⟩:=turn i n ys σ6 H6 w6
  rcases way with⟨stop,qn⟩|⟨go,step⟩
  ·refine thn (T.done X' rfl rfl rfl hc i [] s6 σ6 H6 (fun j j=>False) I6 (stat (pl:=[]) fr6) st6 stop) fun r s7 hz=>?_
   obtain⟨hr,I7⟩:=hz;subst hr;obtain⟨m',hn',_⟩:=I7.loc;have IX:=tT (C:=s3.heap.objs.size) I3 f3 I7;refine hRR acc s3.heap.objs.size s7 H6 m' IX qn hn' I7.free (Yc I3.lt) (I3.nofs (Zk _)) I3.sz (fun x c e z=>?_) fun p hp z=>?_
   ·obtain⟨v,q⟩:=I3.cell x c e
    exact absurd q.lt (by rw[z];exact ZR _)
   ·exact absurd (Zi (I3.pin p hp).1) (by rw[z];exact ZR _)
  ·refine thn (T.item X' rfl rfl rfl hc i [] s6 σ6 H6 (fun j j=>False) I6 (stat (pl:=[]) fr6) st6 go) fun r s7 hz=>?_
   obtain⟨u,hr,h7⟩:=hz;subst hr;refine thn h7 fun j s8 hz=>?_
   obtain⟨x,H8,I8,r8,y8,st8,fr8⟩:=hz;have I8':=I8.pinned (stat (pl:=[]) fr8) (T.obj _ _ st8);refine thn (hg _ _ _ _ _ _ _ s8 σ6 H8 x u _ I8' r8 (step x H8 y8)) fun j s9 hz=>?_
   obtain⟨σ9,H9,I9,q9⟩:=hz;refine thn (ht _ _ _ _ _ _ _ s9 σ9 H9 _ I9 q9) fun ok s10 hz=>?_
   obtain⟨H10,I10,q10⟩:=hz;have back:∀{σ':St}{H':Hp}{s':Shared},Inv (az X scope (cg X.env scope.names []) s3.heap.objs.size s3 (upd H acc (.lst [])) fp (X.pn++pins)) ([]++jK fp s8.heap) σ' H' s'->tn (i+1) s'.heap/\∀b∈fp,H' b=none:=fun{σ' H' s'} K=>by
    refine⟨T.keep _ _ _ st8 fun b hb o e=>(K.pin (b,o) (Zt _ (Zt _ (cx hb e)))).1,fun b hb=>?_⟩
    obtain⟨o,e,d⟩:=T.obj _ _ st8 b hb;exact(K.pin (b,o) (Zt _ (Zt _ (cx hb e)))).2.1
   cases ok with
   |false=>
    rw[Zo ZE]at q10⊢;obtain⟨m',hm,w'⟩:=q10;obtain⟨b1,b2⟩:=back I10;exact⟨m',hm,i+1,ys,σ9,H10,I10.unpinned,b1,b2,w'⟩
   |true=>
    rw[Zm rfl]at q10⊢;refine thn (he _ _ _ _ _ _ _ s10 σ9 H10 _ I10 q10) fun y s11 hz=>?_
    obtain⟨v,H11,I11,r11,hac11,hz,m',hm,w'⟩:=hz;have ap:=jT (X:=X') _ s11 σ9 H11 (.ref acc) [v] (.ref acc) [y] (fun(z:V) (H':Hp)=>H'=upd H11 acc (.lst (ys++[v]))) I11 rfl (.cons r11 .nil) ⟨acc,ys,v,rfl,rfl,hac11,hz,rfl⟩
    refine thn ap fun j s12 hz=>?_
    obtain⟨_,H12,I12,_,e12⟩:=hz;subst e12;obtain⟨b1,b2⟩:=back I12;exact⟨m',hm,i+1,ys++[v],σ9,_,I12.unpinned,b1,b2,w'⟩
 exact codeAny_compStart_list (loop _ rfl) (T.self _ 0 _ _ _ st4 (loop _ rfl))
theorem wt (hc:X.calm=true) (hi:PI X tg iter wi) (S:CompScope X scope bs)
  (hg:∀cl C s₂ H₂ ex pn,PG (az X scope cl C s₂ H₂ ex pn) tg g) (ht:∀cl C s₂ H₂ ex pn,PTs (az X scope cl C s₂ H₂ ex pn) ifs tt) (he:∀cl C s₂ H₂ ex pn,PE (az X scope cl C s₂ H₂ ex pn) elt te)
  (hs:∀x,foldedSetIterable iter X.env x=pure x:=by intro _;rfl):PE X (.ListComp elt [⟨tg,iter,ifs,0⟩] scope pos) (sS wi bs g tt te):=by
 intro pins s σ H Q I h;rw[eval_ListComp];refine wpAny_comprehension_free (use:=none) rfl hs (df (S.has I)) S.kind S.loc (thn (hi pins s σ H _ I h) fun v s1 h1=>thn h1 fun itv s2 h2=>?_)
 obtain⟨it,fp,tn,J,H2,e,I2,T,st2,f2,hq⟩:=h2;subst e;refine fO (RR:=fun acc C=>compPost (model X.prog X.w) X.A X.xe none (EP X pins σ Q) acc C) hc S hg ht he I2 T st2 f2 hq ?_
 intro D C s' H' m' I' q' hn hC hL hF hz hcl hp;refine⟨m',hn,fun h'' hs''=>⟨.ref D,H',?_,rfl,q'⟩⟩
 exact I'.turned (t':=s'.toks) (fun b o hb e=>(hs''.2 b hb).trans e) hC hL (.inr hz) hcl hp
theorem oP {i:Nat}{y:Str}{py spos:Pos}(hc:X.calm=true) (hi:PI X tg iter wi) (S:CompScope X scope bs)
  (hg:∀cl C s₂ H₂ ex pn,PG (az X scope cl C s₂ H₂ ex pn) tg g) (ht:∀cl C s₂ H₂ ex pn,PTs (az X scope cl C s₂ H₂ ex pn) ifs tt) (he:∀cl C s₂ H₂ ex pn,PE (az X scope cl C s₂ H₂ ex pn) elt te)
  (hN:X.N.Nodup) (hiN:X.N[i]?=some y) (hy:X.env.scope.names.lookup y=some .local)
  (hsw:swapsWith (.ListComp elt [⟨tg,iter,ifs,0⟩] scope pos) (some (.Name y py)) spos.line X.env=pure true:=by rfl)
  (hs:∀x,foldedSetIterable iter X.env x=pure x:=by intro _;rfl):PS X (.Assign [.Name y py] (.ListComp elt [⟨tg,iter,ifs,0⟩] scope pos) spos) (xi (sS wi bs g tt te) (fG i)):=by
 intro pins s σ H D I h;rw[exec_Assign_Name_used _ _ _ _ hsw];refine Za (wpAny_standAt (Za ?_))
 show wpAny _ X.A (do let _ <-comprehension (.ListComp elt [⟨tg,iter,ifs,0⟩] scope pos) scope X.env _ (newList []) false (eval iter X.env) (some (assign (.Name y py) X.env))) _ _ s
 refine Za (Z8 (wpAny_comprehension_free (use:=some (assign (.Name y py) X.env)) (Q:=fun u s'=>SP X pins D .next s') rfl hs (df (S.has I)) S.kind S.loc
  (thn (hi pins s σ H _ I h) fun v s1 h1=>thn h1 fun itv s2 h2=>?_)) (fun u s' hq=>Zd (Zd hq)) fun u u e=>e)
 obtain⟨it,fp,tn,J,H2,e,I2,T,st2,f2,hq⟩:=h2;subst e;refine fO (Q:=fun x H1=>fG i x σ H1 D.nx) (RR:=fun acc C=>compPost (model X.prog X.w) X.A X.xe (some (assign (.Name y py) X.env)) (fun u s'=>SP X pins D .next s') acc C) hc S hg ht he I2 T st2 f2 hq ?_
 intro A C s' H' m' I' q' hn hC hL hF hz hcl hp;show wpAny _ X.A (assign (.Name y py) X.env (.ref A)) _ _ _;refine wpAny_assign_Name (ja I' hN hiN (.inl hy) (v:=.ref A) rfl (fun s2 I2 hsb=>?_) (.inr hy))
 obtain⟨a,sb,ha⟩:=hsb;have hCa:C≠a:=by
  rcases ha with z|z
  ·rw[z];exact hL
  ·exact fun q=>hcl y a z q.symm
 refine⟨m',hn.sameBut sb hCa,fun h'' hs''=>⟨σ.set i (some (.ref A)),H',?_,q'⟩⟩
 exact I2.turned (t':=s2.toks) (fun b o hb e=>(hs''.2 b hb).trans e) hC hL (.inr hz) hcl hp
end
mutual
noncomputable def D.flat:D->Bool
 |.non=>true|.bl _=>true|.int _=>true|.str _=>true
 |.tup ds=>D.flats ds
 |.lst _=>false|.dK _ _=>false|.dD _ _=>false
noncomputable def D.flats:List D->Bool
 |[]=>true
 |d::ds=>d.flat&&D.flats ds
end
theorem D.flats_all:∀ds:List D,D.flats ds=ds.all D.flat
 |[]=>rfl
 |d::ds=>by simp only[D.flats,List.all_cons,D.flats_all ds]
noncomputable def LstS (K:PySem.W.Frag) (B:Addr->Prop) (H:Hp) (a:Addr) (xs:List V):Prop:=
 (B a/\H a=some (.lst xs))\/(∃o,H a=some (.frz o (.lst xs)))\/
  ∃(o:Obj) (its:Array Value) (n:Nat),K.lookup a=some o/\o.cls=.type "list"/\o.dict=none/\o.data=.seq its n/\its.size<=sizeLine/\Vals xs its.toList
theorem LstS.sq {K:PySem.W.Frag}{B:Addr->Prop}{H:Hp}{a:Addr}{xs:List V}(h:LstS K B H a xs):SqL K H a xs:=by
 rcases h with⟨_,h⟩|⟨o,h⟩|h
 ·exact .inl (.inl h)
 ·exact .inl (.inr ⟨o,h⟩)
 ·exact .inr h
noncomputable def DicKS (B:Addr->Prop) (H:Hp) (a:Addr) (kvs:List (Key×V)):Prop:=(B a/\H a=some (.dK kvs))\/∃o,H a=some (.frz o (.dK kvs))
noncomputable def DicDS (B:Addr->Prop) (H:Hp) (a:Addr) (kvs:List (D×V)):Prop:=∃ep,(B a/\H a=some (.dD kvs ep))\/∃o,H a=some (.frz o (.dD kvs ep))
mutual
noncomputable def Rep (K:PySem.W.Frag) (B:Addr->Prop) (H:Hp):D->V->Prop
 |.non,v=>v=.non
 |.bl b,v=>v=.bl b
 |.int i,v=>v=.int i
 |.str x,v=>v=.str x
 |.tup ds,v=>∃a xs,v=.ref a/\H a=some (.tup xs)/\Reps K B H ds xs
 |.lst ds,v=>∃a xs,v=.ref a/\LstS K B H a xs/\Reps K B H ds xs
 |.dK ks ds,v=>∃a kvs,v=.ref a/\DicKS B H a kvs/\kvs.map (·.1)=ks/\Reps K B H ds (kvs.map (·.2))
 |.dD ks ds,v=>∃a kvs,v=.ref a/\DicDS B H a kvs/\kvs.map (·.1)=ks/\Reps K B H ds (kvs.map (·.2))
noncomputable def Reps (K:PySem.W.Frag) (B:Addr->Prop) (H:Hp):List D->List V->Prop
 |[],xs=>xs=[]
 |d::ds,xs=>∃x r,xs=x::r/\Rep K B H d x/\Reps K B H ds r
end
structure Ext (B:Addr->Prop) (H H':Hp):Prop where
 tups:∀a xs,H a=some (.tup xs)->H' a=some (.tup xs)
 frzs:∀a o u,H a=some (.frz o u)->H' a=some (.frz o u)
 lent:∀a,B a->H' a=H a
theorem Ext.refl {B:Addr->Prop}{H:Hp}:Ext B H H:=⟨fun y y h=>h,fun y y y h=>h,fun y y=>rfl⟩
theorem Ext.trans {B:Addr->Prop}{H H1 H2:Hp}(a:Ext B H H1) (b:Ext B H1 H2):Ext B H H2:=
 ⟨fun x y h=>b.tups x y (a.tups x y h),fun x y z h=>b.frzs x y z (a.frzs x y z h),fun x h=>(b.lent x h).trans (a.lent x h)⟩
section
variable{K:PySem.W.Frag}{B B':Addr->Prop}{H H':Hp}
theorem LstS.ext {a:Addr}{xs:List V}(h:LstS K B H a xs) (e:Ext B H H'):LstS K B H' a xs:=by
 rcases h with⟨b,h⟩|⟨o,h⟩|h
 ·exact .inl ⟨b,(e.lent a b).trans h⟩
 ·exact .inr (.inl ⟨o,e.frzs _ _ _ h⟩)
 ·exact .inr (.inr h)
theorem LstS.more {a:Addr}{xs:List V}(h:LstS K B H a xs) (e:∀a,B a->B' a):LstS K B' H a xs:=by
 rcases h with⟨b,h⟩|h|h
 ·exact .inl ⟨e a b,h⟩
 ·exact .inr (.inl h)
 ·exact .inr (.inr h)
theorem DicKS.ext {a:Addr}{xs:List (Key×V)}(h:DicKS B H a xs) (e:Ext B H H'):DicKS B H' a xs:=by
 rcases h with⟨b,h⟩|⟨o,h⟩
 ·exact .inl ⟨b,(e.lent a b).trans h⟩
 ·exact .inr ⟨o,e.frzs _ _ _ h⟩
theorem DicDS.ext {a:Addr}{xs:List (D×V)}(h:DicDS B H a xs) (e:Ext B H H'):DicDS B H' a xs:=by
 obtain⟨ep,h⟩:=h
 rcases h with⟨b,h⟩|⟨o,h⟩
 ·exact⟨ep,.inl ⟨b,(e.lent a b).trans h⟩⟩
 ·exact⟨ep,.inr ⟨o,e.frzs _ _ _ h⟩⟩
mutual
theorem Rep.ext (e:Ext B H H'):∀{d:D}{v:V},Rep K B H d v->Rep K B H' d v
 |.non,v,h=>by simpa only[Rep]using h
 |.bl b,v,h=>by simpa only[Rep]using h
 |.int i,v,h=>by simpa only[Rep]using h
 |.str x,v,h=>by simpa only[Rep]using h
 |.tup ds,v,h=>by
  simp only[Rep]at h⊢;obtain⟨a,xs,hv,hq,hr⟩:=h;exact⟨a,xs,hv,e.tups _ _ hq,Reps.ext e hr⟩
 |.lst ds,v,h=>by
  simp only[Rep]at h⊢;obtain⟨a,xs,hv,hq,hr⟩:=h;exact⟨a,xs,hv,hq.ext e,Reps.ext e hr⟩
 |.dK ks ds,v,h=>by
  simp only[Rep]at h⊢;obtain⟨a,xs,hv,hq,hk,hr⟩:=h;exact⟨a,xs,hv,hq.ext e,hk,Reps.ext e hr⟩
 |.dD ks ds,v,h=>by
  simp only[Rep]at h⊢;obtain⟨a,xs,hv,hq,hk,hr⟩:=h;exact⟨a,xs,hv,hq.ext e,hk,Reps.ext e hr⟩
theorem Reps.ext (e:Ext B H H'):∀{ds:List D}{xs:List V},Reps K B H ds xs->Reps K B H' ds xs
 |[],xs,h=>by simpa only[Reps]using h
 |d::ds,xs,h=>by
  simp only[Reps]at h⊢;obtain⟨x,r,hx,h1,h2⟩:=h;exact⟨x,r,hx,Rep.ext e h1,Reps.ext e h2⟩
end
mutual
theorem Rep.more (e:∀a,B a->B' a):∀{d:D}{v:V},Rep K B H d v->Rep K B' H d v
 |.non,v,h=>by simpa only[Rep]using h
 |.bl b,v,h=>by simpa only[Rep]using h
 |.int i,v,h=>by simpa only[Rep]using h
 |.str x,v,h=>by simpa only[Rep]using h
 |.tup ds,v,h=>by
  simp only[Rep]at h⊢;obtain⟨a,xs,hv,hq,hr⟩:=h;exact⟨a,xs,hv,hq,Reps.more e hr⟩
 |.lst ds,v,h=>by
  simp only[Rep]at h⊢;obtain⟨a,xs,hv,hq,hr⟩:=h;exact⟨a,xs,hv,hq.more e,Reps.more e hr⟩
 |.dK ks ds,v,h=>by
  simp only[Rep]at h⊢;obtain⟨a,xs,hv,hq,hk,hr⟩:=h;exact⟨a,xs,hv,hq.imp (fun z=>⟨e a z.1,z.2⟩) fun z=>z,hk,Reps.more e hr⟩
 |.dD ks ds,v,h=>by
  simp only[Rep]at h⊢;obtain⟨a,xs,hv,⟨ep,hq⟩,hk,hr⟩:=h;exact⟨a,xs,hv,⟨ep,hq.imp (fun z=>⟨e a z.1,z.2⟩) fun z=>z⟩,hk,Reps.more e hr⟩
theorem Reps.more (e:∀a,B a->B' a):∀{ds:List D}{xs:List V},Reps K B H ds xs->Reps K B' H ds xs
 |[],xs,h=>by simpa only[Reps]using h
 |d::ds,xs,h=>by
  simp only[Reps]at h⊢;obtain⟨x,r,hx,h1,h2⟩:=h;exact⟨x,r,hx,Rep.more e h1,Reps.more e h2⟩
end
mutual
theorem Rep.flat:∀{d:D}{v:V},d.flat=true->Rep K B H d v->Rep K B' H d v
 |.non,v,_,h=>by simpa only[Rep]using h
 |.bl b,v,_,h=>by simpa only[Rep]using h
 |.int i,v,_,h=>by simpa only[Rep]using h
 |.str x,v,_,h=>by simpa only[Rep]using h
 |.tup ds,v,f,h=>by
  simp only[Rep]at h⊢;simp only[D.flat]at f;obtain⟨a,xs,hv,hq,hr⟩:=h;exact⟨a,xs,hv,hq,Reps.flat f hr⟩
 |.lst ds,v,f,_=>by simp[D.flat]at f
 |.dK _ _,v,f,_=>by simp[D.flat]at f
 |.dD _ _,v,f,_=>by simp[D.flat]at f
theorem Reps.flat:∀{ds:List D}{xs:List V},D.flats ds=true->Reps K B H ds xs->Reps K B' H ds xs
 |[],xs,_,h=>by simpa only[Reps]using h
 |d::ds,xs,f,h=>by
  simp only[Reps]at h⊢;simp only[D.flats,Zu]at f;obtain⟨x,r,hx,h1,h2⟩:=h;exact⟨x,r,hx,Rep.flat f.1 h1,Reps.flat f.2 h2⟩
end
theorem Reps.length:∀{ds:List D}{xs:List V},Reps K B H ds xs->ds.length=xs.length
 |[],xs,h=>by simp only[Reps]at h;subst h;rfl
 |d::ds,xs,h=>by
  simp only[Reps]at h;obtain⟨x,r,hx,h1,h2⟩:=h;subst hx;simp only[List.length_cons,Reps.length h2]
theorem Reps.nil:Reps K B H [] []:=by simp only[Reps]
theorem Reps.cons {d:D}{ds:List D}{x:V}{xs:List V}(h:Rep K B H d x) (t:Reps K B H ds xs):Reps K B H (d::ds) (x::xs):=by
 simp only[Reps];exact⟨x,xs,rfl,h,t⟩
theorem Reps.uncons {d:D}{ds:List D}{x:V}{xs:List V}(h:Reps K B H (d::ds) (x::xs)):Rep K B H d x/\Reps K B H ds xs:=by
 simp only[Reps]at h;obtain⟨y,r,e,h1,h2⟩:=h;cases e;exact⟨h1,h2⟩
theorem Reps.get:∀{ds:List D}{xs:List V}{i:Nat}{d:D},Reps K B H ds xs->ds[i]?=some d->∃x,xs[i]?=some x/\Rep K B H d x
 |[],_,_,_,_,e=>by simp at e
 |d::ds,xs,0,e,h,he=>by
  simp only[Reps]at h;obtain⟨x,r,hx,h1,h2⟩:=h;subst hx;simp at he;subst he;exact⟨x,rfl,h1⟩
 |d::ds,xs,i+1,e,h,he=>by
  simp only[Reps]at h;obtain⟨x,r,hx,h1,h2⟩:=h;subst hx;exact Reps.get (i:=i) h2 (by simpa using he)
theorem Reps.get':∀{ds:List D}{xs:List V}{i:Nat}{x:V},Reps K B H ds xs->xs[i]?=some x->∃d,ds[i]?=some d/\Rep K B H d x:=fun{ds xs i x} h e=>by
 have hl:=h.length;have hi:i<ds.length:=by rw[hl];exact(List.getElem?_eq_some_iff.mp e).1
 obtain⟨y,hy,r⟩:=h.get (i:=i) (d:=ds[i]) (by simp[hi])
 rw[e]at hy;obtain rfl:=Zb hy;exact⟨ds[i],by simp[hi],r⟩
theorem Reps.append:∀{ds es:List D}{xs ys:List V},Reps K B H ds xs->Reps K B H es ys->Reps K B H (ds++es) (xs++ys)
 |[],es,xs,ys,h,t=>by simp only[Reps]at h;subst h;simpa using t
 |d::ds,es,xs,ys,h,t=>by
  simp only[Reps]at h;obtain⟨x,r,hx,h1,h2⟩:=h;subst hx;exact Reps.cons h1 (Reps.append h2 t)
theorem Reps.take:∀{ds:List D}{xs:List V}(n:Nat),Reps K B H ds xs->Reps K B H (ds.take n) (xs.take n)
 |_,_,0,_=>by simp only[List.take_zero];exact Reps.nil
 |[],xs,n+1,h=>by simp only[Reps]at h;subst h;exact Reps.nil
 |d::ds,xs,n+1,h=>by
  simp only[Reps]at h;obtain⟨x,r,hx,h1,h2⟩:=h;subst hx;exact Reps.cons h1 (Reps.take n h2)
theorem Reps.drop:∀{ds:List D}{xs:List V}(n:Nat),Reps K B H ds xs->Reps K B H (ds.drop n) (xs.drop n)
 |_,_,0,h=>h
 |[],xs,n+1,h=>by simp only[Reps]at h;subst h;exact Reps.nil
 |d::ds,xs,n+1,h=>by
  simp only[Reps]at h;obtain⟨x,r,hx,h1,h2⟩:=h;subst hx;exact Reps.drop n h2
end
noncomputable abbrev DEnv:=List (Option (D×Bool))
noncomputable def ObR (K:PySem.W.Frag) (B:Addr->Prop) (H:Hp) (d:D) (a:Addr):Prop:=match d with
 |.lst ds=>∃xs,H a=some (.lst xs)/\Reps K B H ds xs
 |.dK ks ds=>∃kvs,H a=some (.dK kvs)/\kvs.map (·.1)=ks/\Reps K B H ds (kvs.map (·.2))
 |.dD ks ds=>∃kvs,(∃ep,H a=some (.dD kvs ep))/\kvs.map (·.1)=ks/\Reps K B H ds (kvs.map (·.2))
 |_=>False
structure Rel (K:PySem.W.Frag) (B:Addr->Prop) (Hk:Hp) (δ:DEnv) (σ:St) (H:Hp):Prop where
 same:Same Hk H
 bor:∀a,B a->∃o:HOn,Hk a=some o.1
 len:δ.length=σ.length
 var:∀(i:Nat) d,δ[i]?=some (some (d,false))->∃v,σ[i]?=some (some v)/\Rep K B H d v
 own:∀(i:Nat) d,δ[i]?=some (some (d,true))->∃a,σ[i]?=some (some (.ref a))/\Hk a=none/\ObR K B H d a
 dis:∀(i j:Nat) d e a,i≠j->δ[i]?=some (some (d,true))->δ[j]?=some (some (e,true))->σ[i]?=some (some (.ref a))->σ[j]?=some (some (.ref a))->False
noncomputable def BO (B:Addr->Prop) (δ:DEnv) (σ:St) (a:Addr):Prop:=B a\/∃(i:Nat) (d:D),δ[i]?=some (some (d,true))/\σ[i]?=some (some (.ref a))
noncomputable def aT (m:Bool) (B:Addr->Prop) (δ:DEnv) (σ:St):Addr->Prop:=if m=true then BO B δ σ else B
section
variable{K:PySem.W.Frag}{B B':Addr->Prop}{Hk H H':Hp}{δ:DEnv}{σ:St}
theorem Same.ext (s:Same H H') (b:∀a,B a->∃o:HOn,H a=some o.1):Ext B H H':=
 ⟨fun a xs h=>s a _ h,fun a o u h=>s a _ h,fun a h=>by obtain⟨o,e⟩:=b a h;rw[e,s a o e]⟩
theorem ObR.ext {d:D}{a:Addr}(h:ObR K B H d a) (e:Ext B H H') (ha:∀o:HO,H a=some o->o.nt=true->H' a=some o):ObR K B H' d a:=by
 cases d with
 |lst ds=>obtain⟨xs,h1,h2⟩:=h;exact⟨xs,ha _ h1 rfl,h2.ext e⟩
 |dK ks ds=>obtain⟨xs,h1,h0,h2⟩:=h;exact⟨xs,ha _ h1 rfl,h0,h2.ext e⟩
 |dD ks ds=>obtain⟨xs,⟨ep,h1⟩,h0,h2⟩:=h;exact⟨xs,⟨ep,ha _ h1 rfl⟩,h0,h2.ext e⟩
 |_=>exact(show False from h).elim
theorem ObR.there {d:D}{a:Addr}(h:ObR K B H d a):∃o:HOn,H a=some o.1:=by
 cases d with
 |lst ds=>obtain⟨xs,h1,h2⟩:=h;exact⟨⟨_,rfl⟩,h1⟩
 |dK ks ds=>obtain⟨xs,h1,h0,h2⟩:=h;exact⟨⟨_,rfl⟩,h1⟩
 |dD ks ds=>obtain⟨xs,⟨ep,h1⟩,h0,h2⟩:=h;exact⟨⟨_,rfl⟩,h1⟩
 |_=>exact(show False from h).elim
theorem Rel.borH (R:Rel K B Hk δ σ H):∀a,B a->∃o:HOn,H a=some o.1:=fun a h=>by
 obtain⟨o,e⟩:=R.bor a h;exact⟨o,R.same a o e⟩
theorem Rel.boH (R:Rel K B Hk δ σ H):∀a,BO B δ σ a->∃o:HOn,H a=some o.1:=fun a h=>by
 rcases h with h|⟨i,d,h1,h2⟩
 ·exact R.borH a h
 ·obtain⟨b,e,_,ob⟩:=R.own i d h1
  rw[h2]at e;cases e;exact ob.there
theorem Rel.bsH (R:Rel K B Hk δ σ H) (m:Bool):∀a,aT m B δ σ a->∃o:HOn,H a=some o.1:=by
 unfold aT;cases m with
 |true=>exact R.boH
 |false=>exact R.borH
theorem Rel.to (R:Rel K B Hk δ σ H) (s:Same H H'):Rel K B Hk δ σ H':=by
 have e:Ext B H H':=s.ext R.borH;refine⟨R.same.trans s,R.bor,R.len,fun i d h=>?_,fun i d h=>?_,R.dis⟩
 ·obtain⟨v,h1,h2⟩:=R.var i d h
  exact⟨v,h1,h2.ext e⟩
 ·obtain⟨a,h1,h2,h3⟩:=R.own i d h
  exact⟨a,h1,h2,h3.ext e fun o q n=>s.get a o n q⟩
theorem Rep.same {m:Bool}{d:D}{v:V}(r:Rep K (aT m B δ σ) H d v) (R:Rel K B Hk δ σ H) (s:Same H H'):Rep K (aT m B δ σ) H' d v:=r.ext (s.ext (R.bsH m))
theorem Reps.same {m:Bool}{d:List D}{v:List V}(r:Reps K (aT m B δ σ) H d v) (R:Rel K B Hk δ σ H) (s:Same H H'):Reps K (aT m B δ σ) H' d v:=r.ext (s.ext (R.bsH m))
theorem g9 (m:Bool):∀a,B a->aT m B δ σ a:=fun a h=>by
 unfold aT;cases m with
 |true=>exact .inl h
 |false=>exact h
theorem ObR.rep {d:D}{a:Addr}(h:ObR K B H d a) (hb:B' a) (hs:∀a,B a->B' a):Rep K B' H d (.ref a):=by
 cases d with
 |lst ds=>obtain⟨xs,h1,h2⟩:=h;simp only[Rep];exact⟨a,xs,rfl,.inl ⟨hb,h1⟩,h2.more hs⟩
 |dK ks ds=>obtain⟨xs,h1,h0,h2⟩:=h;simp only[Rep];exact⟨a,xs,rfl,.inl ⟨hb,h1⟩,h0,h2.more hs⟩
 |dD ks ds=>obtain⟨xs,⟨ep,h1⟩,h0,h2⟩:=h;simp only[Rep];exact⟨a,xs,rfl,⟨ep,.inl ⟨hb,h1⟩⟩,h0,h2.more hs⟩
 |_=>exact(show False from h).elim
end
theorem PE.imp {X:Cx}{e:Expr}{t t':TE}(h:PE X e t) (i:∀σ H Q,t' σ H Q->t σ H Q):PE X e t':=fun pins s σ H Q I q=>h pins s σ H Q I (i σ H Q q)
theorem PT.imp {X:Cx}{e:Expr}{t t':TT}(h:PT X e t) (i:∀σ H Q,t' σ H Q->t σ H Q):PT X e t':=fun pins s σ H Q I q=>h pins s σ H Q I (i σ H Q q)
theorem PW.imp {X:Cx}{e:Expr}{t t':TT}(h:PW X e t) (i:∀σ H Q,t' σ H Q->t σ H Q):PW X e t':=fun whole pins s σ H Q I q=>h whole pins s σ H Q I (i σ H Q q)
theorem PA.imp {X:Cx}{e:List Expr}{t t':TA}(h:PA X e t) (i:∀σ H Q,t' σ H Q->t σ H Q):PA X e t':=fun pos pins s σ H Q I q=>h pos pins s σ H Q I (i σ H Q q)
theorem PI.imp {X:Cx}{tg e:Expr}{t t':TI}(h:PI X tg e t) (i:∀σ H Q,t' σ H Q->t σ H Q):PI X tg e t':=fun pins s σ H Q I q=>h pins s σ H Q I (i σ H Q q)
theorem PS.imp {X:Cx}{e:Stmt}{t t':TS}(h:PS X e t) (i:∀D σ H,t' D σ H->t D σ H):PS X e t':=fun pins s σ H D I q=>h pins s σ H D I (i D σ H q)
theorem PSs.imp {X:Cx}{e:List Stmt}{t t':TS}(h:PSs X e t) (i:∀D σ H,t' D σ H->t D σ H):PSs X e t':=fun pins s σ H D I q=>h pins s σ H D I (i D σ H q)
inductive tM (K:PySem.W.Frag) (m:Bool) (f:DEnv->Option D) (σ:St) (H:Hp) (Q:VK):Prop
 |mk (B:Addr->Prop) (Hk:Hp) (δ:DEnv) (d:D) (a_:Rel K B Hk δ σ H) (b_:f δ=some d) (c_:∀v H',Same H H'->Rep K (aT m B δ σ) H' d v->Q v H'):tM K m f σ H Q
inductive tF (K:PySem.W.Frag) (f:DEnv->Option D) (σ:St) (H:Hp) (Q:VK):Prop
 |mk (B:Addr->Prop) (Hk:Hp) (δ:DEnv) (d:D) (a_:Rel K B Hk δ σ H) (b_:f δ=some d) (c_:∀a H',Same H H'->H a=none->ObR K B H' d a->Q (.ref a) H'):tF K f σ H Q
inductive tMT (K:PySem.W.Frag) (f:DEnv->Option Bool) (σ:St) (H:Hp) (Q:(Bool->Hp->Prop)):Prop
 |mk (B:Addr->Prop) (Hk:Hp) (δ:DEnv) (d:Bool) (a_:Rel K B Hk δ σ H) (b_:f δ=some d) (c_:∀H',Same H H'->Q d H'):tMT K f σ H Q
inductive tMA (K:PySem.W.Frag) (m:Bool) (f:DEnv->Option (List D)) (σ:St) (H:Hp) (Q:(List V->Hp->Prop)):Prop
 |mk (B:Addr->Prop) (Hk:Hp) (δ:DEnv) (ds:List D) (a_:Rel K B Hk δ σ H) (b_:f δ=some ds) (c_:∀vs H',Same H H'->Reps K (aT m B δ σ) H' ds vs->Q vs H'):tMA K m f σ H Q
noncomputable abbrev DE (X:Cx) (m:Bool) (e:Expr) (f:DEnv->Option D):Prop:=PE X e (tM X.K m f)
noncomputable abbrev DF (X:Cx) (e:Expr) (f:DEnv->Option D):Prop:=PE X e (tF X.K f)
noncomputable abbrev DT (X:Cx) (e:Expr) (f:DEnv->Option Bool):Prop:=PT X e (tMT X.K f)
noncomputable abbrev DA (X:Cx) (m:Bool) (es:List Expr) (f:DEnv->Option (List D)):Prop:=PA X es (tMA X.K m f)
section
variable{X:Cx}{m m':Bool}{a b:Expr}{fa fb:DEnv->Option D}{pos:Pos}
noncomputable def rd (m:Bool) (i:Nat) (δ:DEnv):Option D:=match δ[i]? with|some (some (d,o))=>if(o&&!m)=true then none else some d|_=>none
set_option tactic.hygienic true in
theorem wT {m:Bool}{i:Nat}{δ:DEnv}{d:D}(h:rd m i δ=some d):∃o,δ[i]?=some (some (d,o))/\(o=true->m=true):=by
 unfold rd at h;split at h
 ·rename_i d' o e
  by_cases q:(o&&!m)=true
  ·rw[Zm q]at h;contradiction
  ·rw[Zo q]at h;obtain rfl:=Zb h
   refine⟨o,e,fun z=>?_⟩
   subst z;cases m with
   |true=>rfl
   |false=>simp at q
 ·contradiction
theorem Rel.rd {K:PySem.W.Frag}{B:Addr->Prop}{Hk H:Hp}{δ:DEnv}{σ:St}{i:Nat}{d:D}(R:Rel K B Hk δ σ H) (h:rd m i δ=some d):∃v,σ[i]?=some (some v)/\Rep K (aT m B δ σ) H d v:=by
 obtain⟨o,e,ho⟩:=wT h;cases o with
 |false=>
  obtain⟨v,h1,h2⟩:=R.var i d e;exact⟨v,h1,h2.more fun a h=>g9 m a h⟩
 |true=>
  obtain⟨a,h1,h2,h3⟩:=R.own i d e;obtain rfl:=ho rfl;exact⟨_,h1,h3.rep (B':=aT true B δ σ) (by unfold aT;rw[Zm rfl];exact .inr ⟨i,d,e,h1⟩) fun a h=>g9 true a h⟩
theorem zX {i:Nat}{x:Str}(hN:X.N[i]?=some x) (hv:Vis X.env.scope x) (hd:(x==("__debug__":Str))=false:=by decide) (hcd:(x==("__classdict__":Str))=false:=by decide):DE X m (.Name x pos) (rd m i):=
 (be hN hv hd hcd).imp fun σ H Q hz=>by
  obtain⟨B,Hk,δ,d,R,e,k⟩:=hz;obtain⟨v,h1,h2⟩:=R.rd e;exact⟨v,h1,k v H (Same.refl H) h2⟩
theorem jN {i:Int}{j:Nat}:DE X m (.Constant (.int i) j pos) (fun y=>some (.int i)):=pv.imp fun σ H Q hz=>by obtain⟨B,Hk,δ,d,R,e,k⟩:=hz;obtain rfl:=Zb e;exact k _ H (Same.refl H) rfl
theorem u9 {x:Str}{j:Nat}:DE X m (.Constant (.str x) j pos) (fun y=>some (.str x)):=yr.imp fun σ H Q hz=>by obtain⟨B,Hk,δ,d,R,e,k⟩:=hz;obtain rfl:=Zb e;exact k _ H (Same.refl H) rfl
theorem Be {x:Bool}{j:Nat}:DE X m (.Constant (.bool x) j pos) (fun y=>some (.bl x)):=zA.imp fun σ H Q hz=>by obtain⟨B,Hk,δ,d,R,e,k⟩:=hz;obtain rfl:=Zb e;exact k _ H (Same.refl H) rfl
theorem mF {j:Nat}:DE X m (.Constant .none j pos) (fun y=>some .non):=yH.imp fun σ H Q hz=>by obtain⟨B,Hk,δ,d,R,e,k⟩:=hz;obtain rfl:=Zb e;exact k _ H (Same.refl H) rfl
theorem two {K:PySem.W.Frag}{σ:St}{H:Hp}{B:Addr->Prop}{Hk:Hp}{δ:DEnv}{d1 d2:D}{P:V->V->Hp->Prop}(R:Rel K B Hk δ σ H) (e1:fa δ=some d1) (e2:fb δ=some d2)
  (k:∀v u H',Same H H'->Rel K B Hk δ σ H'->Rep K (aT m B δ σ) H' d1 v->Rep K (aT m' B δ σ) H' d2 u->P v u H'):tM K m fa σ H fun x H1=>tM K m' fb σ H1 fun y H2=>P x y H2:=
 ⟨B,Hk,δ,d1,R,e1,fun v H1 s1 r1=>⟨B,Hk,δ,d2,R.to s1,e2,fun u H2 s2 r2=>k v u H2 (s1.trans s2) (R.to (s1.trans s2)) (r1.same (R.to s1) s2) r2⟩⟩
noncomputable def bI (C:Int->Int->Bool) (g:Int->Int->D) (x y:Option D):Option D:=match x,y with|some (.int i),some (.int j)=>if C i j=true then some (g i j) else none|_,_=>none
theorem yg {C:Int->Int->Bool}{g:Int->Int->D}{x y:Option D}{d:D}(h:bI C g x y=some d):∃i j,x=some (.int i)/\y=some (.int j)/\C i j=true/\d=g i j:=by
 obtain⟨i,rfl⟩:∃i,x=some (.int i):=by
  cases x with
  |none=>exact nS h
  |some a=>
   cases a with
   |int i=>exact⟨i,rfl⟩
   |_=>exact nS h
 obtain⟨j,rfl⟩:∃j,y=some (.int j):=by
  cases y with
  |none=>exact nS h
  |some a=>
   cases a with
   |int j=>exact⟨j,rfl⟩
   |_=>exact nS h
 exact⟨i,j,rfl,rfl,ifB h⟩
theorem xB {C:Int->Int->Bool}{g:Int->Int->D}{i j:Int}(h:C i j=true):bI C g (some (.int i)) (some (.int j))=some (g i j):=by unfold bI;simp only[Zm h]
noncomputable def cT:Int->Int->Bool:=fun y y=>true
noncomputable def Cp:Int->Int->Bool:=fun i j=>decide ((-(2 ^ 64)<i/\i<2 ^ 64)\/(-(2 ^ 64)<j/\j<2 ^ 64))
noncomputable def Cc:Int->Int->Bool:=fun y j=>decide (0<j/\j<1073741824)
noncomputable def Ch:Int->Int->Bool:=fun y j=>decide (0<j)
theorem ud {op:Operator}{C:Int->Int->Bool}{g:Int->Int->Int}{r:R2}{mm:Bool}(ho:OpR X (binaryOp op) r) (hr:∀i j H Q,C i j=true->Q (V.int (g i j)) H->r (.int i) (.int j) H Q) (ha:DE X m a fa) (hb:DE X m' b fb):
  DE X mm (.BinOp a op b pos) (fun δ=>bI C (fun i j=>.int (g i j)) (fa δ) (fb δ)):=
 (tX ho ha hb).imp fun σ H Q hz=>by
  obtain⟨B,Hk,δ,d,R,e,k⟩:=hz;obtain⟨i,j,e1,e2,hc,rfl⟩:=yg e;refine two R e1 e2 fun v u H' s R' r1 r2=>?_
  simp only[Rep]at r1 r2;subst r1 r2;exact hr i j H' Q hc (k _ H' s (by simp only[Rep]))
noncomputable def g7 (x y:Option D):Option D:=bI cT (fun i j=>.int (i+j)) x y
noncomputable def lS (x y:Option D):Option D:=bI Cp (fun i j=>.int (i*j)) x y
noncomputable def AJ (x y:Option D):Option D:=bI Cc (fun i j=>.int (i / j)) x y
noncomputable def cr (x y:Option D):Option D:=bI Ch (fun i j=>.int (i%j)) x y
theorem yO {mm:Bool}(ha:DE X m a fa) (hb:DE X m' b fb):DE X mm (.BinOp a .Add b pos) (fun δ=>g7 (fa δ) (fb δ)):=ud zG (fun i j H Q y q=>⟨i,j,rfl,rfl,q⟩) ha hb
theorem zC {mm:Bool}(ha:DE X m a fa) (hb:DE X m' b fb):DE X mm (.BinOp a .Mult b pos) (fun δ=>lS (fa δ) (fb δ)):=ud yZ (fun i j H Q c q=>⟨i,j,rfl,rfl,(show(-(2 ^ 64)<i/\i<2 ^ 64)\/(-(2 ^ 64)<j/\j<2 ^ 64) from ZF c),q⟩) ha hb
theorem ze {mm:Bool}(ha:DE X m a fa) (hb:DE X m' b fb):DE X mm (.BinOp a .FloorDiv b pos) (fun δ=>AJ (fa δ) (fb δ)):=ud w8 (fun i j H Q c q=>⟨i,j,rfl,rfl,(show 0<j/\j<1073741824 from ZF c),q⟩) ha hb
theorem zj {mm:Bool}(ha:DE X m a fa) (hb:DE X m' b fb):DE X mm (.BinOp a .Mod b pos) (fun δ=>cr (fa δ) (fb δ)):=ud zw (fun i j H Q c q=>⟨i,j,rfl,rfl,(show 0<j from ZF c),q⟩) ha hb
noncomputable def cI (g:Int->Int->Bool) (x y:Option D):Option Bool:=match x,y with|some (.int i),some (.int j)=>some (g i j)|_,_=>none
set_option tactic.hygienic true in
theorem xW {g:Int->Int->Bool}{x y:Option D}{c:Bool}(h:cI g x y=some c):∃i j,x=some (.int i)/\y=some (.int j)/\c=g i j:=by
 unfold cI at h;split at h
 ·rename_i i j;obtain rfl:=Zb h;exact⟨i,j,rfl,rfl,rfl⟩
 ·contradiction
theorem AD {op:CmpOp}{g:Int->Int->Bool}(ho:OpR X (compareOp op) (rI0 fun i j=>.bl (g i j))) (hm:behindInMarks op b=false) (ha:DE X m a fa) (hb:DE X m' b fb):
  DT X (.Compare a [op] [b] pos) (fun δ=>cI g (fa δ) (fb δ)):=
 (bq ho ha hb hm).imp fun σ H Q hz=>by
  obtain⟨B,Hk,δ,d,R,e,k⟩:=hz;obtain⟨i,j,e1,e2,rfl⟩:=xW e;refine two R e1 e2 fun v u H' s R' r1 r2=>?_
  simp only[Rep]at r1 r2;subst r1 r2;exact⟨i,j,rfl,rfl,_,rfl,k H' s⟩
noncomputable abbrev gLt:Int->Int->Bool:=fun i j=>decide (i<j)
noncomputable def tyB (x:Option D):Option Bool:=match x with|some (.bl b)=>some b|_=>none
noncomputable def ofB (x:Option Bool):Option D:=match x with|some b=>some (.bl b)|none=>none
theorem sG {x:Option D}{c:Bool}(h:tyB x=some c):x=some (.bl c):=by
 unfold tyB at h;split at h
 ·obtain rfl:=Zb h;rfl
 ·contradiction
theorem vc (ha:DE X m a fa) (he:∀whole,isTrue a X.env whole=(do let v <-whole;standAt a.pos;holding [v] (truthy v)):=by intro _;rfl):DT X a (fun δ=>tyB (fa δ)):=
 (zW ha he).imp fun σ H Q hz=>by
  obtain⟨B,Hk,δ,d,R,e,k⟩:=hz;refine⟨B,Hk,δ,_,R,sG e,fun v H' s r=>?_⟩
  simp only[Rep]at r;subst r;exact⟨d,rfl,k H' s⟩
variable{fc ga gb:DEnv->Option Bool}{rest:List Expr}
noncomputable def oB (x y:Option Bool):Option Bool:=match x with|some true=>y|some false=>some false|none=>none
noncomputable def orO (x y:Option Bool):Option Bool:=match x with|some true=>some true|some false=>y|none=>none
noncomputable def eI (x:Option Bool):Option Bool:=match x with|some c=>some (!c)|none=>none
noncomputable abbrev DW (X:Cx) (e:Expr) (f:DEnv->Option Bool):Prop:=PW X e (tMT X.K f)
theorem wQ (ha:DT X a ga):DW X (.BoolOp .And [a] pos) ga:=v6 ha
theorem Au (ha:DT X a ga):DW X (.BoolOp .Or [a] pos) ga:=zB ha
theorem Ag (ha:DT X a ga) (hb:DW X (.BoolOp .And (b::rest) pos) gb):DW X (.BoolOp .And (a::b::rest) pos) (fun δ=>oB (ga δ) (gb δ)):=
 (yI ha hb).imp fun σ H Q hz=>by
  obtain⟨B,Hk,δ,d,R,e,k⟩:=hz;unfold oB at e;split at e
  ·rename_i q
   exact⟨B,Hk,δ,true,R,q,fun H1 s1=>vF (⟨B,Hk,δ,d,R.to s1,e,fun H2 s2=>k H2 (s1.trans s2)⟩)⟩
  ·rename_i q;obtain rfl:=Zb e
   exact⟨B,Hk,δ,false,R,q,fun H1 s1=>vq (k H1 s1)⟩
  ·contradiction
theorem B3 (ha:DT X a ga) (hb:DW X (.BoolOp .Or (b::rest) pos) gb):DW X (.BoolOp .Or (a::b::rest) pos) (fun δ=>orO (ga δ) (gb δ)):=
 (B2 ha hb).imp fun σ H Q hz=>by
  obtain⟨B,Hk,δ,d,R,e,k⟩:=hz;unfold orO at e;split at e
  ·rename_i q;obtain rfl:=Zb e
   exact⟨B,Hk,δ,true,R,q,fun H1 s1=>vF (k H1 s1)⟩
  ·rename_i q
   exact⟨B,Hk,δ,false,R,q,fun H1 s1=>vq (⟨B,Hk,δ,d,R.to s1,e,fun H2 s2=>k H2 (s1.trans s2)⟩)⟩
  ·contradiction
set_option tactic.hygienic true in
theorem zD (ha:DT X a ga):DT X (.UnaryOp .Not a pos) (fun δ=>eI (ga δ)):=
 (yS ha).imp fun σ H Q hz=>by
  obtain⟨B,Hk,δ,d,R,e,k⟩:=hz;dsimp only[eI]at e;split at e
  ·rename_i c q;obtain rfl:=Zb e
   exact⟨B,Hk,δ,c,R,q,fun H1 s1=>k H1 s1⟩
  ·contradiction
theorem tP {c:Expr}{mm:Bool}(hc:DT X c fc) (ha:DE X mm a fa) (hb:DE X mm b fb):DE X mm (.IfExp c a b pos) (fun δ=>match fc δ with|some true=>fa δ|some false=>fb δ|none=>none):=
 (mq hc ha hb).imp fun σ H Q hz=>by
  obtain⟨B,Hk,δ,d,R,e,k⟩:=hz;split at e
  ·rename_i q
   exact⟨B,Hk,δ,true,R,q,fun H1 s1=>vF (⟨B,Hk,δ,d,R.to s1,e,fun v H2 s2=>k v H2 (s1.trans s2)⟩)⟩
  ·rename_i q
   exact⟨B,Hk,δ,false,R,q,fun H1 s1=>vq (⟨B,Hk,δ,d,R.to s1,e,fun v H2 s2=>k v H2 (s1.trans s2)⟩)⟩
  ·contradiction
noncomputable def aa (x:Option D) (y:Option (List D)):Option (List D):=match x,y with|some d,some ds=>some (d::ds)|_,_=>none
set_option tactic.hygienic true in
theorem n5 {x:Option D}{y:Option (List D)}{l:List D}(h:aa x y=some l):∃d ds,x=some d/\y=some ds/\l=d::ds:=by
 unfold aa at h;split at h
 ·rename_i d ds;obtain rfl:=Zb h;exact⟨d,ds,rfl,rfl,rfl⟩
 ·contradiction
variable{e:Expr}{es:List Expr}{fe:DEnv->Option D}{fs:DEnv->Option (List D)}
theorem eF:DA X m [] (fun y=>some []):=aH.imp fun σ H Q hz=>by obtain⟨B,Hk,δ,d,R,e,k⟩:=hz;obtain rfl:=Zb e;exact k [] H (Same.refl H) Reps.nil
theorem bR (ha:DE X m e fe) (hr:DA X m es fs) (hs:starEach (e::es) X.env=(false,eval e X.env)::starEach es X.env:=by rfl):DA X m (e::es) (fun δ=>aa (fe δ) (fs δ)):=
 (ar ha hr hs).imp fun σ H Q hz=>by
  obtain⟨B,Hk,δ,l,R,e,k⟩:=hz;obtain⟨d,ds,e1,e2,rfl⟩:=n5 e;exact⟨B,Hk,δ,d,R,e1,fun v H1 s1 r1=>⟨B,Hk,δ,ds,R.to s1,e2,fun vs H2 s2 r2=>k (v::vs) H2 (s1.trans s2) (Reps.cons (r1.same (R.to s1) s2) r2)⟩⟩
noncomputable def lim:Nat:=1000000
theorem aD {n:Nat}(h:n<=lim):n<=sizeLine:=ZM h (by decide)
noncomputable def cY (x:Option (List D)):Option D:=match x with|some ds=>if ds.length<=lim then some (.tup ds) else none|none=>none
noncomputable def ca (x:Option (List D)):Option D:=match x with|some ds=>if ds.length<=lim then some (.lst ds) else none|none=>none
set_option tactic.hygienic true in
theorem qM {x:Option (List D)}{d:D}(h:cY x=some d):∃ds,x=some ds/\ds.length<=lim/\d=.tup ds:=by
 unfold cY at h;split at h
 ·rename_i ds
  by_cases q:ds.length<=lim
  ·rw[Zm q]at h;obtain rfl:=Zb h;exact⟨ds,rfl,q,rfl⟩
  ·rw[Zo q]at h;contradiction
 ·contradiction
set_option tactic.hygienic true in
theorem qf {x:Option (List D)}{d:D}(h:ca x=some d):∃ds,x=some ds/\ds.length<=lim/\d=.lst ds:=by
 unfold ca at h;split at h
 ·rename_i ds
  by_cases q:ds.length<=lim
  ·rw[Zm q]at h;obtain rfl:=Zb h;exact⟨ds,rfl,q,rfl⟩
  ·rw[Zo q]at h;contradiction
 ·contradiction
theorem am {H:Hp}{p:Addr}{o:HO}(h:H p=none):Same H (upd H p o):=(Same.refl H).put h
theorem vB {x1:Nat}(h:DA X m es fs):DE X m (.Tuple es x1 pos) (fun δ=>cY (fs δ)):=
 (AG h).imp fun σ H Q hz=>by
  obtain⟨B,Hk,δ,d,R,e,k⟩:=hz;obtain⟨ds,e1,hl,rfl⟩:=qM e;refine⟨B,Hk,δ,ds,R,e1,fun vs H1 s1 r1=>⟨by rw[<-r1.length];exact aD hl,fun p hp=>?_⟩⟩
  have s2:=am (o:=.tup vs) hp;refine k _ _ (s1.trans s2) ?_
  simp only[Rep];exact⟨p,vs,rfl,af,r1.same (R.to s1) s2⟩
theorem uZ (h:DA X false es fs):DF X (.List es pos) (fun δ=>ca (fs δ)):=
 (zK h).imp fun σ H Q hz=>by
  obtain⟨B,Hk,δ,d,R,e,k⟩:=hz;obtain⟨ds,e1,hl,rfl⟩:=qf e;refine⟨B,Hk,δ,ds,R,e1,fun vs H1 s1 r1=>⟨by rw[<-r1.length];exact aD hl,fun p hp=>?_⟩⟩
  have s2:=am (o:=.lst vs) hp;exact k p _ (s1.trans s2) (s1.free hp) ⟨vs,af,r1.same (m:=false) (R.to s1) s2⟩
end
noncomputable def okD:Nat->D->Bool
 |_,.non=>true
 |_,.int _=>true
 |_,.str _=>true
 |n+1,.tup ds=>ds.all (okD n)
 |n+1,.lst ds=>ds.all (okD n)
 |_,_=>false
theorem eZ {n:Nat}{b:Bool}{P:Prop}(h:okD n (.bl b)=true):P:=by cases n<;>exact nB h
theorem bW {n:Nat}{ks:List Key}{vs:List D}{P:Prop}(h:okD n (.dK ks vs)=true):P:=by cases n<;>exact nB h
theorem bV {n:Nat}{ks vs:List D}{P:Prop}(h:okD n (.dD ks vs)=true):P:=by cases n<;>exact nB h
theorem gT {n:Nat}{ds:List D}(h:okD n (.tup ds)=true):∃k,n=k+1/\ds.all (okD k)=true:=by
 cases n with
 |zero=>simp[okD]at h
 |succ k=>exact⟨k,rfl,by simpa only[okD]using h⟩
theorem g5 {n:Nat}{ds:List D}(h:okD n (.lst ds)=true):∃k,n=k+1/\ds.all (okD k)=true:=by
 cases n with
 |zero=>simp[okD]at h
 |succ k=>exact⟨k,rfl,by simpa only[okD]using h⟩
section
variable{X:Cx}{pins:List (Addr×Obj)}{σ:St}{H:Hp}{s:Shared}{B B':Addr->Prop}
theorem cJ {a:Addr}{xs ys:List V}(I:Inv X pins σ H s) (h:SqL X.K H a xs) (h':SqT X.K H a ys):False:=by
 obtain⟨its,_,⟨o,n,e,hc,_,_⟩,_⟩:=I.list h;obtain⟨its',_,⟨o',e',hc',_⟩,_⟩:=I.tuple h';rw[e]at e';obtain rfl:=Zb e';rw[hc]at hc';injection hc' with z
 exact absurd z (by decide)
mutual
theorem Rep.inj (I:Inv X pins σ H s):∀{n n':Nat}{d e:D}{v:V},okD n d=true->okD n' e=true->Rep X.K B H d v->Rep X.K B' H e v->d=e
 |n,n',.non,e,v,hd,he,r,r'=>by
  simp only[Rep]at r;subst r;cases e with
  |non=>rfl
  |dK _ _=>exact bW he
  |dD _ _=>exact bV he
  |tup _=>simp only[Rep]at r';obtain⟨a,xs,z,_⟩:=r';contradiction
  |lst _=>simp only[Rep]at r';obtain⟨a,xs,z,_⟩:=r';contradiction
  |_=>simp only[Rep]at r';contradiction
 |n,n',.bl _,e,v,hd,he,r,r'=>eZ hd
 |n,n',.dK _ _,e,v,hd,he,r,r'=>bW hd
 |n,n',.dD _ _,e,v,hd,he,r,r'=>bV hd
 |n,n',.int i,e,v,hd,he,r,r'=>by
  simp only[Rep]at r;subst r;cases e with
  |int j=>simp only[Rep]at r';cases r';rfl
  |dK _ _=>exact bW he
  |dD _ _=>exact bV he
  |tup _=>simp only[Rep]at r';obtain⟨a,xs,z,_⟩:=r';contradiction
  |lst _=>simp only[Rep]at r';obtain⟨a,xs,z,_⟩:=r';contradiction
  |_=>simp only[Rep]at r';contradiction
 |n,n',.str i,e,v,hd,he,r,r'=>by
  simp only[Rep]at r;subst r;cases e with
  |str j=>simp only[Rep]at r';cases r';rfl
  |dK _ _=>exact bW he
  |dD _ _=>exact bV he
  |tup _=>simp only[Rep]at r';obtain⟨a,xs,z,_⟩:=r';contradiction
  |lst _=>simp only[Rep]at r';obtain⟨a,xs,z,_⟩:=r';contradiction
  |_=>simp only[Rep]at r';contradiction
 |n,n',.tup ds,e,v,hd,he,r,r'=>by
  simp only[Rep]at r;obtain⟨a,xs,rfl,hq,hr⟩:=r;obtain⟨k,_,hd⟩:=gT hd;cases e with
  |tup es=>
   simp only[Rep]at r';obtain⟨b,ys,z,hq',hr'⟩:=r';cases z;obtain rfl:=I.tuple_inj (SqT.of hq) (SqT.of hq');obtain⟨k',_,he⟩:=gT he;rw[Reps.inj I hd he hr hr']
  |lst es=>
   simp only[Rep]at r';obtain⟨b,ys,z,hq',hr'⟩:=r';cases z;exact(cJ I hq'.sq (SqT.of hq)).elim
  |dK _ _=>exact bW he
  |dD _ _=>exact bV he
  |_=>simp only[Rep]at r';contradiction
 |n,n',.lst ds,e,v,hd,he,r,r'=>by
  simp only[Rep]at r;obtain⟨a,xs,rfl,hq,hr⟩:=r;obtain⟨k,_,hd⟩:=g5 hd;cases e with
  |lst es=>
   simp only[Rep]at r';obtain⟨b,ys,z,hq',hr'⟩:=r';cases z;obtain rfl:=I.list_inj hq.sq hq'.sq;obtain⟨k',_,he⟩:=g5 he;rw[Reps.inj I hd he hr hr']
  |tup es=>
   simp only[Rep]at r';obtain⟨b,ys,z,hq',hr'⟩:=r';cases z;exact(cJ I hq.sq (SqT.of hq')).elim
  |dK _ _=>exact bW he
  |dD _ _=>exact bV he
  |_=>simp only[Rep]at r';contradiction
theorem Reps.inj (I:Inv X pins σ H s):∀{n n':Nat}{ds es:List D}{xs:List V},ds.all (okD n)=true->es.all (okD n')=true->Reps X.K B H ds xs->Reps X.K B' H es xs->ds=es
 |n,n',[],es,xs,hd,he,r,r'=>by
  simp only[Reps]at r;subst r;cases es with
  |nil=>rfl
  |cons e es=>simp only[Reps]at r';obtain⟨_,_,z,_⟩:=r';contradiction
 |n,n',d::ds,es,xs,hd,he,r,r'=>by
  simp only[Reps]at r;obtain⟨x,t,rfl,r1,r2⟩:=r;cases es with
  |nil=>simp only[Reps]at r';contradiction
  |cons e es=>
   obtain⟨q1,q2⟩:=r'.uncons;rw[List.all_cons,Zu]at hd he;rw[Rep.inj I hd.1 he.1 r1 q1,Reps.inj I hd.2 he.2 r2 q2]
end
theorem dI:∀(ds es:List D),(ds.length=es.length)->((List.range ds.length).all fun j=>decide (ds[j]?=es[j]?))=decide (ds=es):=by
 intro ds es hl;rw[Ya,ZH,ZU];constructor
 ·intro h
  apply List.ext_getElem?;intro j
  by_cases hj:j<ds.length
  ·exact ZF (h j (List.mem_range.mpr hj))
  ·rw[Z0 (by lia),Z0 (by lia)]
 ·intro h j _
  subst h;exact Zw rfl
theorem gN:∀(ds es:List D),(((List.range (min ds.length es.length)).all fun j=>decide (ds[j]?=es[j]?))&&ds.length==es.length)=decide (ds=es):=by
 intro ds es
 by_cases hl:ds.length=es.length
 ·rw[hl,Nat.min_self,YH,Bool.and_true,<-hl,dI ds es hl]
 ·have h1:(ds.length==es.length)=false:=by simpa using hl
  have h2:¬ds=es:=fun z=>hl (by rw[z])
  rw[h1,Bool.and_false,Zv h2]
open SeqAt in
theorem un3 {A:Around}{u w:Value}{d e:D}(n:d≠e) (a:RcAt A s u w false) (b:EqAt A s u w false) (c:RcNeAt A s u w true):RcAt A s u w (decide (d=e))/\EqAt A s u w (decide (d=e))/\RcNeAt A s u w (!decide (d=e)):=by
 rw[Zv n];exact⟨a,b,c⟩
open SeqAt in
theorem zE (I:Inv X pins σ H s):∀(n:Nat) (d e:D) (x y:V) (u w:Value) (A:Around),okD n d=true->okD n e=true->A.units+n+1<cLine->Rep X.K B H d x->Rep X.K B' H e y->RelV x u->RelV y w->
  RcAt A s u w (decide (d=e))/\EqAt A s u w (decide (d=e))/\RcNeAt A s u w (!decide (d=e)):=by
 intro n
 induction n using Nat.strongRecOn with
 |ind n ih=>
 intro d e x y u w A hd he hA rd re rx ry;have hu:A.units<cLine:=by lia
 cases d with
 |bl _=>exact eZ hd
 |dK _ _=>exact bW hd
 |dD _ _=>exact bV hd
 |non=>
  simp only[Rep]at rd;subst rd;cases rx;cases e with
  |bl _=>exact eZ he
  |dK _ _=>exact bW he
  |dD _ _=>exact bV he
  |non=>simp only[Rep]at re;subst re;cases ry;rw[Zw rfl];exact⟨RcAt.none_none,EqAt.same _,RcNeAt.none_none⟩
  |int j=>simp only[Rep]at re;subst re;obtain⟨t,rfl⟩:=ry;exact un3 (by intro z;contradiction) (RcAt.none_int j t) (EqAt.none_int j t) (RcNeAt.none_int j t)
  |str j=>simp only[Rep]at re;subst re;obtain⟨t,rfl⟩:=ry;exact un3 (by intro z;contradiction) (RcAt.none_str j t) (EqAt.none_str j t) (RcNeAt.none_str j t)
  |tup es=>
   simp only[Rep]at re;obtain⟨b,ys,rfl,hq,hr⟩:=re;cases ry;obtain⟨its,rv,ht,_⟩:=I.tuple (SqT.of hq);exact un3 (by intro z;contradiction) (RcAt.none_tuple ht hu) (EqAt.none_tuple ht hu) (RcNeAt.none_tuple ht hu)
  |lst es=>
   simp only[Rep]at re;obtain⟨b,ys,rfl,hq,hr⟩:=re;cases ry;obtain⟨its,rv,ht,_⟩:=I.list hq.sq;exact un3 (by intro z;contradiction) (RcAt.none_list ht.isList hu) (EqAt.none_list ht.isList hu) (RcNeAt.none_list ht.isList hu)
 |int i=>
  simp only[Rep]at rd;subst rd;obtain⟨t',rfl⟩:=rx;cases e with
  |bl _=>exact eZ he
  |dK _ _=>exact bW he
  |dD _ _=>exact bV he
  |non=>simp only[Rep]at re;subst re;cases ry;exact un3 (by intro z;contradiction) (RcAt.int_none i t') (EqAt.int_none i t') (RcNeAt.int_none i t')
  |int j=>
   simp only[Rep]at re;subst re;obtain⟨t,rfl⟩:=ry;have q:decide (D.int i=D.int j)=(i==j):=by rw[Ya,ZU,beq_iff_eq,D.int.injEq]
   rw[q];exact⟨RcAt.int_int i t' j t,EqAt.int_int i t' j t,RcNeAt.int_int i t' j t⟩
  |str j=>simp only[Rep]at re;subst re;obtain⟨t,rfl⟩:=ry;exact un3 (by intro z;contradiction) (RcAt.int_str i t' j t) (EqAt.int_str i t' j t) (RcNeAt.int_str i t' j t)
  |tup es=>
   simp only[Rep]at re;obtain⟨b,ys,rfl,hq,hr⟩:=re;cases ry;obtain⟨its,rv,ht,_⟩:=I.tuple (SqT.of hq);exact un3 (by intro z;contradiction) (RcAt.int_tuple i t' ht hu) (EqAt.int_tuple i t' ht hu) (RcNeAt.int_tuple i t' ht hu)
  |lst es=>
   simp only[Rep]at re;obtain⟨b,ys,rfl,hq,hr⟩:=re;cases ry;obtain⟨its,rv,ht,_⟩:=I.list hq.sq;exact un3 (by intro z;contradiction) (RcAt.int_list i t' ht.isList hu) (EqAt.int_list i t' ht.isList hu) (RcNeAt.int_list i t' ht.isList hu)
 |str i=>
  simp only[Rep]at rd;subst rd;obtain⟨t',rfl⟩:=rx;cases e with
  |bl _=>exact eZ he
  |dK _ _=>exact bW he
  |dD _ _=>exact bV he
  |non=>simp only[Rep]at re;subst re;cases ry;exact un3 (by intro z;contradiction) (RcAt.str_none i t') (EqAt.str_none i t') (RcNeAt.str_none i t')
  |int j=>simp only[Rep]at re;subst re;obtain⟨t,rfl⟩:=ry;exact un3 (by intro z;contradiction) (RcAt.str_int i t' j t) (EqAt.str_int i t' j t) (RcNeAt.str_int i t' j t)
  |str j=>
   simp only[Rep]at re;subst re;obtain⟨t,rfl⟩:=ry;have q:decide (D.str i=D.str j)=(i==j):=by rw[Ya,ZU,beq_iff_eq,D.str.injEq]
   rw[q];exact⟨RcAt.str_str i t' j t,EqAt.str_str i t' j t,RcNeAt.str_str i t' j t⟩
  |tup es=>
   simp only[Rep]at re;obtain⟨b,ys,rfl,hq,hr⟩:=re;cases ry;obtain⟨its,rv,ht,_⟩:=I.tuple (SqT.of hq);exact un3 (by intro z;contradiction) (RcAt.str_tuple i t' ht hu) (EqAt.str_tuple i t' ht hu) (RcNeAt.str_tuple i t' ht hu)
  |lst es=>
   simp only[Rep]at re;obtain⟨b,ys,rfl,hq,hr⟩:=re;cases ry;obtain⟨its,rv,ht,_⟩:=I.list hq.sq;exact un3 (by intro z;contradiction) (RcAt.str_list i t' ht.isList hu) (EqAt.str_list i t' ht.isList hu) (RcNeAt.str_list i t' ht.isList hu)
 |tup ds=>
  simp only[Rep]at rd;obtain⟨a,xs,rfl,hp,hr⟩:=rd;cases rx;obtain⟨its,rv,hta,_⟩:=I.tuple (SqT.of hp);obtain⟨k,rfl,hd'⟩:=gT hd;cases e with
  |bl _=>exact eZ he
  |dK _ _=>exact bW he
  |dD _ _=>exact bV he
  |non=>simp only[Rep]at re;subst re;cases ry;exact un3 (by intro z;contradiction) (RcAt.tuple_none hta hu) (EqAt.tuple_none hta hu) (RcNeAt.tuple_none hta hu)
  |int j=>simp only[Rep]at re;subst re;obtain⟨t,rfl⟩:=ry;exact un3 (by intro z;contradiction) (RcAt.tuple_int j t hta hu) (EqAt.tuple_int j t hta hu) (RcNeAt.tuple_int j t hta hu)
  |str j=>simp only[Rep]at re;subst re;obtain⟨t,rfl⟩:=ry;exact un3 (by intro z;contradiction) (RcAt.tuple_str j t hta hu) (EqAt.tuple_str j t hta hu) (RcNeAt.tuple_str j t hta hu)
  |lst es=>
   simp only[Rep]at re;obtain⟨b,ys,rfl,hq,hr⟩:=re;cases ry;obtain⟨its,rv,ht,_⟩:=I.list hq.sq;exact un3 (by intro z;contradiction) (RcAt.tuple_list hta ht.isList hu) (EqAt.tuple_list hta ht.isList hu) (RcNeAt.tuple_list hta ht.isList hu)
  |tup es=>
   simp only[Rep]at re;obtain⟨b,ys,rfl,hq,hr2⟩:=re;cases ry;obtain⟨its2,rv2,htb,_⟩:=I.tuple (SqT.of hq);obtain⟨k',e',he'⟩:=gT he;cases e';have l1:=hr.length;have l2:=rv.length;have l3:=hr2.length;have l4:=rv2.length;have el:∀j (h1:j<its.toArray.size) (h2:j<its2.toArray.size),EqAt A.in1 s its.toArray[j] its2.toArray[j] (decide (ds[j]?=es[j]?)):=fun j h1 h2=>by
    simp only[Zh]at h1 h2;obtain⟨d',hd1⟩:∃d',ds[j]?=some d':=⟨ds[j]'(by lia),by simp⟩
    obtain⟨e',he1⟩:∃e',es[j]?=some e':=⟨es[j]'(by lia),by simp⟩
    obtain⟨x',hx1,rx'⟩:=hr.get hd1;obtain⟨y',hy1,ry'⟩:=hr2.get he1;obtain⟨u',hu1,ru'⟩:=rv.get hx1;obtain⟨w',hw1,rw'⟩:=rv2.get hy1;have q:=(ih k (YI k) d' e' x' y' u' w' A.in1 ((ZH.mp hd') d' (ZQ hd1)) ((ZH.mp he') e' (ZQ he1)) (by show A.units+1+k+1<cLine;lia) rx' ry' ru' rw').2.1
    have g1:its.toArray[j]=u':=by
     have:=List.getElem?_eq_some_iff.mp hu1
     simpa using this.2
    have g2:its2.toArray[j]=w':=by
     have:=List.getElem?_eq_some_iff.mp hw1
     simpa using this.2
    rw[g1,g2,hd1,he1];have q2:decide (some d'=some e')=decide (d'=e'):=by simp
    rw[q2];exact q
   have key:((List.range (min its.toArray.size its2.toArray.size)).all (fun j=>decide (ds[j]?=es[j]?))&&its.toArray.size==its2.toArray.size)=decide (D.tup ds=D.tup es):=by
    rw[Zh,Zh,<-l2,<-l4,<-l1,<-l3,gN];simp only[D.tup.injEq]
   have rc:=RcAt.tuples hta htb hu el;have rn:=RcNeAt.tuples hta htb hu el;rw[key]at rc rn;refine⟨rc,?_,rn⟩
   by_cases hab:a=b
   ·subst hab
    obtain rfl:=I.tuple_inj (SqT.of hp) (SqT.of hq);have:=Reps.inj I hd' he' hr hr2;subst this;rw[Zw rfl];exact EqAt.same _
   ·exact EqAt.of_refs hab rc
 |lst ds=>
  simp only[Rep]at rd;obtain⟨a,xs,rfl,hp,hr⟩:=rd;cases rx;obtain⟨its,rv,hta,_⟩:=I.list hp.sq;obtain⟨k,rfl,hd'⟩:=g5 hd;cases e with
  |bl _=>exact eZ he
  |dK _ _=>exact bW he
  |dD _ _=>exact bV he
  |non=>simp only[Rep]at re;subst re;cases ry;exact un3 (by intro z;contradiction) (RcAt.list_none hta.isList hu) (EqAt.list_none hta.isList hu) (RcNeAt.list_none hta.isList hu)
  |int j=>simp only[Rep]at re;subst re;obtain⟨t,rfl⟩:=ry;exact un3 (by intro z;contradiction) (RcAt.list_int j t hta.isList hu) (EqAt.list_int j t hta.isList hu) (RcNeAt.list_int j t hta.isList hu)
  |str j=>simp only[Rep]at re;subst re;obtain⟨t,rfl⟩:=ry;exact un3 (by intro z;contradiction) (RcAt.list_str j t hta.isList hu) (EqAt.list_str j t hta.isList hu) (RcNeAt.list_str j t hta.isList hu)
  |tup es=>
   simp only[Rep]at re;obtain⟨b,ys,rfl,hq,hr⟩:=re;cases ry;obtain⟨its,rv,ht,_⟩:=I.tuple (SqT.of hq);exact un3 (by intro z;contradiction) (RcAt.list_tuple hta.isList ht hu) (EqAt.list_tuple hta.isList ht hu) (RcNeAt.list_tuple hta.isList ht hu)
  |lst es=>
   simp only[Rep]at re;obtain⟨b,ys,rfl,hq,hr2⟩:=re;cases ry;obtain⟨its2,rv2,htb,_⟩:=I.list hq.sq;obtain⟨k',e',he'⟩:=g5 he;cases e';have l1:=hr.length;have l2:=rv.length;have l3:=hr2.length;have l4:=rv2.length;have el:∀j (h1:j<its.toArray.size) (h2:j<its2.toArray.size),EqAt A.in1 s its.toArray[j] its2.toArray[j] (decide (ds[j]?=es[j]?)):=fun j h1 h2=>by
    simp only[Zh]at h1 h2;obtain⟨d',hd1⟩:∃d',ds[j]?=some d':=⟨ds[j]'(by lia),by simp⟩
    obtain⟨e',he1⟩:∃e',es[j]?=some e':=⟨es[j]'(by lia),by simp⟩
    obtain⟨x',hx1,rx'⟩:=hr.get hd1;obtain⟨y',hy1,ry'⟩:=hr2.get he1;obtain⟨u',hu1,ru'⟩:=rv.get hx1;obtain⟨w',hw1,rw'⟩:=rv2.get hy1;have q:=(ih k (YI k) d' e' x' y' u' w' A.in1 ((ZH.mp hd') d' (ZQ hd1)) ((ZH.mp he') e' (ZQ he1)) (by show A.units+1+k+1<cLine;lia) rx' ry' ru' rw').2.1
    have g1:its.toArray[j]=u':=by
     have:=List.getElem?_eq_some_iff.mp hu1
     simpa using this.2
    have g2:its2.toArray[j]=w':=by
     have:=List.getElem?_eq_some_iff.mp hw1
     simpa using this.2
    rw[g1,g2,hd1,he1];have q2:decide (some d'=some e')=decide (d'=e'):=by simp
    rw[q2];exact q
   by_cases hsz:its.toArray.size=its2.toArray.size
   ·have key:((List.range its.toArray.size).all (fun j=>decide (ds[j]?=es[j]?)))=decide (D.lst ds=D.lst es):=by
     have hl:ds.length=es.length:=by simp only[Zh]at hsz;lia
     rw[Zh,<-l2,<-l1,dI _ _ hl];simp only[D.lst.injEq]
    have rc:=RcAt.lists hta.isList htb.isList hsz hu el;have rn:=RcNeAt.lists hta.isList htb.isList hsz hu el;rw[key]at rc rn;refine⟨rc,?_,rn⟩
    by_cases hab:a=b
    ·subst hab
     obtain rfl:=I.list_inj hp.sq hq.sq;have:=Reps.inj I hd' he' hr hr2;subst this;rw[Zw rfl];exact EqAt.same _
    ·exact EqAt.of_refs hab rc
   ·have hne:¬D.lst ds=D.lst es:=fun z=>hsz (by
     cases z;simp only[Zh];lia)
    have hb:(its.toArray.size != its2.toArray.size)=true:=by simpa using hsz
    rw[Zv hne];have rc:=RcAt.lists_lengths hta.isList htb.isList hb hu;refine⟨rc,?_,RcNeAt.lists_lengths hta.isList htb.isList hb hu⟩
    have hab:a≠b:=fun z=>by
     subst z;obtain rfl:=I.list_inj hp.sq hq.sq;exact hsz (by simp only[Zh];lia)
    exact EqAt.of_refs hab rc
end
section
variable{X:Cx}{m m' mm:Bool}{a b:Expr}{fa fb:DEnv->Option D}{pos:Pos}
noncomputable def ok2 (x y:D):Bool:=okD 16 x&&okD 16 y
noncomputable def eqO (x y:Option D):Option Bool:=match x,y with|some d,some e=>if ok2 d e=true then some (decide (d=e)) else none|_,_=>none
set_option tactic.hygienic true in
theorem da {x y:Option D}{c:Bool}(h:eqO x y=some c):∃d e,x=some d/\y=some e/\okD 16 d=true/\okD 16 e=true/\c=decide (d=e):=by
 unfold eqO at h;split at h
 ·rename_i d e
  by_cases q:ok2 d e=true
  ·rw[Zm q]at h
   obtain rfl:=Zb h;unfold ok2 at q;rw[Zu]at q;exact⟨d,e,rfl,rfl,q.1,q.2,rfl⟩
  ·rw[Zo q]at h;contradiction
 ·contradiction
noncomputable def neO (x y:Option D):Option Bool:=eI (eqO x y)
noncomputable def rD (K:PySem.W.Frag) (g:D->D->Bool):R2:=fun x y H Q=>∃B B' d e,okD 16 d=true/\okD 16 e=true/\Rep K B H d x/\Rep K B' H e y/\Q (.bl (g d e)) H
theorem vf (hu:X.A.units+64<cLine):OpR X (compareOp .Eq) (rD X.K fun d e=>decide (d=e)):=by
 intro pins s σ H x y v u Q I rx ry h;obtain⟨B,B',d,e,hd,he,r1,r2,q⟩:=h;exact(zE I 16 d e x y v u X.A hd he (by lia) r1 r2 rx ry).1 X.prog X.w X.xe _ ⟨.bl _,H,I,rfl,q⟩
theorem qm (hu:X.A.units+64<cLine):OpR X (compareOp .NotEq) (rD X.K fun d e=>!decide (d=e)):=by
 intro pins s σ H x y v u Q I rx ry h;obtain⟨B,B',d,e,hd,he,r1,r2,q⟩:=h;exact(zE I 16 d e x y v u X.A hd he (by lia) r1 r2 rx ry).2.2 X.prog X.w X.xe _ ⟨.bl _,H,I,rfl,q⟩
theorem BX (hu:X.A.units+64<cLine) (ha:DE X m a fa) (hb:DE X m' b fb):DE X mm (.Compare a [.Eq] [b] pos) (fun δ=>ofB (eqO (fa δ) (fb δ))):=
 (k9 (vf hu) ha hb (i6 _)).imp fun σ H Q hz=>by
  obtain⟨B,Hk,δ,d,R,e,k⟩:=hz;cases q:eqO (fa δ) (fb δ)with
  |none=>simp only[q,ofB]at e;contradiction
  |some c=>
   simp only[q,ofB]at e;obtain rfl:=Zb e;obtain⟨d1,d2,e1,e2,o1,o2,rfl⟩:=da q;exact two R e1 e2 fun v u H' s R' r1 r2=>⟨_,_,d1,d2,o1,o2,r1,r2,k _ H' s (by simp only[Rep])⟩
theorem Bm (hu:X.A.units+64<cLine) (ha:DE X m a fa) (hb:DE X m' b fb):DE X mm (.Compare a [.NotEq] [b] pos) (fun δ=>ofB (neO (fa δ) (fb δ))):=
 (k9 (qm hu) ha hb (i6 _)).imp fun σ H Q hz=>by
  obtain⟨B,Hk,δ,d,R,e,k⟩:=hz;cases q:eqO (fa δ) (fb δ)with
  |none=>simp only[q,ofB,neO,eI]at e;contradiction
  |some c=>
   simp only[q,ofB,neO,eI]at e;obtain rfl:=Zb e;obtain⟨d1,d2,e1,e2,o1,o2,rfl⟩:=da q;exact two R e1 e2 fun v u H' s R' r1 r2=>⟨_,_,d1,d2,o1,o2,r1,r2,k _ H' s (by simp only[Rep])⟩
theorem Bw (hu:X.A.units+64<cLine) (ha:DE X m a fa) (hb:DE X m' b fb):DT X (.Compare a [.Eq] [b] pos) (fun δ=>eqO (fa δ) (fb δ)):=
 (bq (vf hu) ha hb (i6 _)).imp fun σ H Q hz=>by
  obtain⟨B,Hk,δ,d,R,q,k⟩:=hz;obtain⟨d1,d2,e1,e2,o1,o2,rfl⟩:=da q;exact two R e1 e2 fun v u H' s R' r1 r2=>⟨_,_,d1,d2,o1,o2,r1,r2,_,rfl,k H' s⟩
theorem BY (hu:X.A.units+64<cLine) (ha:DE X m a fa) (hb:DE X m' b fb):DT X (.Compare a [.NotEq] [b] pos) (fun δ=>neO (fa δ) (fb δ)):=
 (bq (qm hu) ha hb (i6 _)).imp fun σ H Q hz=>by
  obtain⟨B,Hk,δ,d,R,e,k⟩:=hz;cases q:eqO (fa δ) (fb δ)with
  |none=>simp only[q,neO,eI]at e;contradiction
  |some c=>
   simp only[q,neO,eI]at e;obtain rfl:=Zb e;obtain⟨d1,d2,e1,e2,o1,o2,rfl⟩:=da q;exact two R e1 e2 fun v u H' s R' r1 r2=>⟨_,_,d1,d2,o1,o2,r1,r2,_,rfl,k H' s⟩
noncomputable def aK:D->Option (List D)
 |.lst ds=>some ds
 |.tup ds=>some ds
 |_=>none
noncomputable def inO (x y:Option D):Option Bool:=match x,y with|some d,some e=>(match aK e with|some es=>if(okD 16 d&&es.all (okD 16))=true then some (decide (d∈es)) else none|none=>none)|_,_=>none
set_option tactic.hygienic true in
theorem gy {x y:Option D}{c:Bool}(h:inO x y=some c):∃d e es,x=some d/\y=some e/\aK e=some es/\okD 16 d=true/\es.all (okD 16)=true/\c=decide (d∈es):=by
 unfold inO at h;split at h
 ·rename_i d e
  split at h
  ·rename_i es he
   by_cases q:(okD 16 d&&es.all (okD 16))=true
   ·rw[Zm q]at h
    obtain rfl:=Zb h;rw[Zu]at q;exact⟨d,e,es,rfl,rfl,he,q.1,q.2,rfl⟩
   ·rw[Zo q]at h;contradiction
  ·contradiction
 ·contradiction
noncomputable def bU (x y:Option D):Option Bool:=eI (inO x y)
theorem Rep.items {K:PySem.W.Frag}{B:Addr->Prop}{H:Hp}{e:D}{es:List D}{y:V}(r:Rep K B H e y) (h:aK e=some es):∃p xs,y=.ref p/\(SqL K H p xs\/SqT K H p xs)/\Reps K B H es xs:=by
 cases e with
 |lst ds=>simp only[aK]at h;obtain rfl:=Zb h;simp only[Rep]at r;obtain⟨a,xs,e,hq,hr⟩:=r;exact⟨a,xs,e,.inl hq.sq,hr⟩
 |tup ds=>simp only[aK]at h;obtain rfl:=Zb h;simp only[Rep]at r;obtain⟨a,xs,e,hq,hr⟩:=r;exact⟨a,xs,e,.inr (SqT.of hq),hr⟩
 |_=>simp[aK]at h
open Classical in
theorem t6 {pins:List (Addr×Obj)}{σ:St}{H:Hp}{s:Shared}{B B':Addr->Prop}{d:D}{es:List D}{x:V}{v:Value}{xs:List V}{its:List Value}(hu:X.A.units+64<cLine) (I:Inv X pins σ H s) (hd:okD 16 d=true) (he:es.all (okD 16)=true)
  (r1:Rep X.K B H d x) (r2:Reps X.K B' H es xs) (rx:RelV x v) (rv:Vals xs its):∃e:Value->Bool,(∀y,y∈its.toArray->SeqAt.EqAt X.A.in1 s y v (e y))/\its.toArray.any e=decide (d∈es):=by
 have one:∀j u,its[j]?=some u->∃d' x',es[j]?=some d'/\okD 16 d'=true/\Rep X.K B' H d' x'/\RelV x' u:=fun j u hj=>by
  have hl:=rv.length;have hlt:j<xs.length:=by rw[hl];exact(List.getElem?_eq_some_iff.mp hj).1
  obtain⟨u',hu',ru⟩:=rv.get (i:=j) (x:=xs[j]) (by simp[hlt])
  rw[hj]at hu';obtain rfl:=Zb hu';obtain⟨d',hd',rd'⟩:=r2.get' (i:=j) (x:=xs[j]) (by simp[hlt])
  exact⟨d',xs[j],hd',(ZH.mp he) d' (ZQ hd'),rd',ru⟩
 refine⟨fun u=>decide (∃d' x',okD 16 d'=true/\Rep X.K B' H d' x'/\RelV x' u/\d'=d),fun u hu'=>?_,?_⟩
 ·obtain⟨j,hj⟩:=List.getElem?_of_mem (show u∈its by simpa using hu')
  obtain⟨d',x',_,o',rd',ru⟩:=one j u hj;have q:=(zE I 16 d' d x' x u v X.A.in1 o' hd (by show X.A.units+1+16+1<cLine;lia) rd' r1 ru rx).2.1
  have key:decide (∃d' x',okD 16 d'=true/\Rep X.K B' H d' x'/\RelV x' u/\d'=d)=decide (d'=d):=by
   rw[Ya,ZU,ZU];constructor
   ·rintro⟨d2,x2,o2,r2',ru2,e2⟩
    rw[<-e2];have ex:=ru.inj ru2;subst ex;exact Rep.inj I o' o2 rd' r2'
   ·intro e2
    exact⟨d',x',o',rd',ru,e2⟩
  show SeqAt.EqAt X.A.in1 s u v (decide (∃d' x',okD 16 d'=true/\Rep X.K B' H d' x'/\RelV x' u/\d'=d));rw[key];exact q
 ·rw[Ya,ZU,Array.any_eq_true]
  constructor
  ·rintro⟨j,hj,h⟩
   have h':=ZF h;obtain⟨d2,x2,o2,r2',ru2,e2⟩:=h';have hj':its[j]?=some its.toArray[j]:=by
    simp only[Zh]at hj;simp[hj]
   obtain⟨d',x',hd',o',rd',ru⟩:=one j _ hj';have ex:=ru.inj ru2;subst ex;have:=Rep.inj I o' o2 rd' r2';subst this;rw[<-e2];exact ZQ hd'
  ·intro h
   obtain⟨j,hj⟩:=List.getElem?_of_mem h
   obtain⟨y,hy,ry⟩:=r2.get hj;obtain⟨u,hu',ru⟩:=rv.get hy;obtain⟨hlt,ge⟩:=List.getElem?_eq_some_iff.mp hu'
   refine⟨j,by simpa using hlt,Zw ⟨d,y,hd,ry,?_,rfl⟩⟩
   simpa[ge]using ru
noncomputable def CH (K:PySem.W.Frag) (neg:Bool):R2:=fun x y H Q=>∃B B' d e es,aK e=some es/\okD 16 d=true/\es.all (okD 16)=true/\Rep K B H d x/\Rep K B' H e y/\Q (.bl (if neg then !decide (d∈es) else decide (d∈es))) H
theorem vK (hu:X.A.units+64<cLine):OpR X (compareOp .In) (CH X.K false):=by
 intro pins s σ H x y v u Q I rx ry h;obtain⟨B,B',d,e,es,hi,hd,he,r1,r2,q⟩:=h;obtain⟨p,xs,rfl,hq,rs⟩:=r2.items hi;cases ry
 rcases hq with hq|hq
 ·obtain⟨its,r,pl,hz⟩:=I.list hq
  obtain⟨g,g1,g2⟩:=t6 hu I hd he r1 rs rx r;exact SeqAt.in_listAt g pl.isList g1 ⟨.bl _,H,I,rfl,by rw[g2];exact q⟩
 ·obtain⟨its,r,pl,hz⟩:=I.tuple hq
  obtain⟨g,g1,g2⟩:=t6 hu I hd he r1 rs rx r;exact SeqAt.in_tupleAt g pl g1 ⟨.bl _,H,I,rfl,by rw[g2];exact q⟩
theorem o9 (hu:X.A.units+64<cLine):OpR X (compareOp .NotIn) (CH X.K true):=by
 intro pins s σ H x y v u Q I rx ry h;obtain⟨B,B',d,e,es,hi,hd,he,r1,r2,q⟩:=h;obtain⟨p,xs,rfl,hq,rs⟩:=r2.items hi;cases ry
 rcases hq with hq|hq
 ·obtain⟨its,r,pl,hz⟩:=I.list hq
  obtain⟨g,g1,g2⟩:=t6 hu I hd he r1 rs rx r;exact SeqAt.notIn_listAt g pl.isList g1 ⟨.bl _,H,I,rfl,by rw[g2];exact q⟩
 ·obtain⟨its,r,pl,hz⟩:=I.tuple hq
  obtain⟨g,g1,g2⟩:=t6 hu I hd he r1 rs rx r;exact SeqAt.notIn_tupleAt g pl g1 ⟨.bl _,H,I,rfl,by rw[g2];exact q⟩
theorem BP (hu:X.A.units+64<cLine) (ha:DE X m a fa) (hb:DE X m' b fb) (hm:behindInMarks .In b=false:=by rfl):DT X (.Compare a [.In] [b] pos) (fun δ=>inO (fa δ) (fb δ)):=
 (bq (vK hu) ha hb hm).imp fun σ H Q hz=>by
  obtain⟨B,Hk,δ,d,R,q,k⟩:=hz;obtain⟨d1,d2,es,e1,e2,hi,o1,o2,rfl⟩:=gy q;exact two R e1 e2 fun v u H' s R' r1 r2=>⟨_,_,d1,d2,es,hi,o1,o2,r1,r2,_,rfl,k H' s⟩
theorem t9 (hu:X.A.units+64<cLine) (ha:DE X m a fa) (hb:DE X m' b fb) (hm:behindInMarks .NotIn b=false:=by rfl):DT X (.Compare a [.NotIn] [b] pos) (fun δ=>bU (fa δ) (fb δ)):=
 (bq (o9 hu) ha hb hm).imp fun σ H Q hz=>by
  obtain⟨B,Hk,δ,d,R,e,k⟩:=hz;cases q:inO (fa δ) (fb δ)with
  |none=>simp only[q,bU,eI]at e;contradiction
  |some c=>
   simp only[q,bU,eI]at e;obtain rfl:=Zb e;obtain⟨d1,d2,es,e1,e2,hi,o1,o2,rfl⟩:=gy q;exact two R e1 e2 fun v u H' s R' r1 r2=>⟨_,_,d1,d2,es,hi,o1,o2,r1,r2,_,rfl,k H' s⟩
theorem A0 (hu:X.A.units+64<cLine) (ha:DE X m a fa) (hb:DE X m' b fb) (hm:behindInMarks .In b=false:=by rfl):DE X mm (.Compare a [.In] [b] pos) (fun δ=>ofB (inO (fa δ) (fb δ))):=
 (k9 (vK hu) ha hb hm).imp fun σ H Q hz=>by
  obtain⟨B,Hk,δ,d,R,e,k⟩:=hz;cases q:inO (fa δ) (fb δ)with
  |none=>simp only[q,ofB]at e;contradiction
  |some c=>
   simp only[q,ofB]at e;obtain rfl:=Zb e;obtain⟨d1,d2,es,e1,e2,hi,o1,o2,rfl⟩:=gy q;exact two R e1 e2 fun v u H' s R' r1 r2=>⟨_,_,d1,d2,es,hi,o1,o2,r1,r2,k _ H' s (by simp only[Rep];rfl)⟩
end
section
variable{X:Cx}{m m' mm:Bool}{a b:Expr}{fa fb:DEnv->Option D}{pos:Pos}
noncomputable def ixO (x y:Option D):Option D:=match x,y with|some d,some (.int i)=>(match aK d with|some ds=>atI ds i|none=>none)|_,_=>none
theorem uI {x y:Option D}{d:D}(h:ixO x y=some d):∃e i es,x=some e/\y=some (.int i)/\aK e=some es/\atI es i=some d:=by
 obtain⟨e,rfl⟩:∃e,x=some e:=by
  cases x with
  |none=>exact nS h
  |some e=>exact⟨e,rfl⟩
 obtain⟨i,rfl⟩:∃i,y=some (.int i):=by
  cases y with
  |none=>exact nS h
  |some a=>
   cases a with
   |int i=>exact⟨i,rfl⟩
   |_=>exact nS h
 unfold ixO at h;dsimp only at h;obtain⟨es,q⟩:∃es,aK e=some es:=by
  cases q:aK e with
  |none=>rw[q]at h;exact nS h
  |some es=>exact⟨es,rfl⟩
 rw[q]at h;exact⟨e,i,es,rfl,rfl,q,h⟩
theorem Reps.atI {K:PySem.W.Frag}{B:Addr->Prop}{H:Hp}{ds:List D}{xs:List V}{i:Int}{d:D}(r:Reps K B H ds xs) (h:atI ds i=some d):∃x,atI xs i=some x/\Rep K B H d x:=by
 unfold L2.atI at h⊢;rw[r.length]at h;cases q:ixN xs.length i with
 |none=>rw[q]at h;contradiction
 |some j=>
  rw[q]at h;exact r.get (i:=j) h
theorem tN {K:PySem.W.Frag}{B:Addr->Prop}{H:Hp}{e:D}{es:List D}{y:V}{i:Int}{d:D}{Q:VK}(r:Rep K B H e y) (h:aK e=some es) (hi:atI es i=some d) (k:∀v,Rep K B H d v->Q v H):rIx K y (.int i) H Q:=by
 obtain⟨p,xs,rfl,hq,rs⟩:=r.items h;obtain⟨x,hx,rx⟩:=rs.atI hi
 rcases hq with hq|hq
 ·exact .inl ⟨p,xs,i,x,rfl,rfl,hq,hx,k x rx⟩
 ·exact .inr (.inl ⟨p,xs,i,x,rfl,rfl,hq,hx,k x rx⟩)
theorem sM (ha:DE X m a fa) (hb:DE X m' b fb) (hs:fu b:=by exact fun y y=>rfl):DE X m (.Subscript a b pos) (fun δ=>ixO (fa δ) (fb δ)):=
 (sY zH ha hb hs).imp fun σ H Q hz=>by
  obtain⟨B,Hk,δ,d,R,e,k⟩:=hz;obtain⟨d1,i,es,e1,e2,hi,hd⟩:=uI e;refine two R e1 e2 fun v u H' s R' r1 r2=>?_
  simp only[Rep]at r2;subst r2;exact tN r1 hi hd fun v rv=>k v H' s rv
noncomputable def vj (x y:Option D):Option D:=match x,y with|some (.str z),some (.int i)=>if z.length<=lim then(match atI z.cps.toList i with|some c=>some (.str ⟨#[c]⟩)|none=>none) else none|_,_=>none
theorem rg {x y:Option D}{d:D}(h:vj x y=some d):∃z i c,x=some (.str z)/\y=some (.int i)/\z.length<=lim/\atI z.cps.toList i=some c/\d=.str ⟨#[c]⟩:=by
 obtain⟨z,rfl⟩:∃z,x=some (.str z):=by
  cases x with
  |none=>exact nS h
  |some a=>
   cases a with
   |str z=>exact⟨z,rfl⟩
   |_=>exact nS h
 obtain⟨i,rfl⟩:∃i,y=some (.int i):=by
  cases y with
  |none=>exact nS h
  |some a=>
   cases a with
   |int i=>exact⟨i,rfl⟩
   |_=>exact nS h
 obtain⟨q,h⟩:=ifS (show(if z.length<=lim then _ else none)=some d from h)
 obtain⟨c,hc⟩:∃c,atI z.cps.toList i=some c:=by
  cases hc:atI z.cps.toList i with
  |none=>rw[hc]at h;contradiction
  |some c=>exact⟨c,rfl⟩
 rw[hc]at h;cases h;exact⟨z,i,c,rfl,rfl,q,hc,rfl⟩
theorem AC (ha:DE X m a fa) (hb:DE X m' b fb) (hs:fu b:=by exact fun y y=>rfl):DE X mm (.Subscript a b pos) (fun δ=>vj (fa δ) (fb δ)):=
 (sY vn ha hb hs).imp fun σ H Q hz=>by
  obtain⟨B,Hk,δ,d,R,e,k⟩:=hz;obtain⟨z,i,c,e1,e2,hl,hc,rfl⟩:=rg e;refine two R e1 e2 fun v u H' s R' r1 r2=>?_
  simp only[Rep]at r1 r2;subst r1 r2;exact⟨z,i,c,rfl,rfl,aD hl,hc,k _ H' s (by simp only[Rep])⟩
noncomputable def Ex (x:Option D):Option D:=match x with|some d=>(match aK d with|some ds=>some (.int ds.length)|none=>(match d with|.str z=>if z.length<=lim then some (.int z.length) else none|_=>none))|none=>none
noncomputable def dM (x:Option D):Option D:=match x with|some d=>(match aK d with|some ds=>some (.int ds.length)|none=>none)|none=>none
set_option tactic.hygienic true in
theorem pU {x:Option D}{d:D}(h:dM x=some d):∃e es,x=some e/\aK e=some es/\d=.int es.length:=by
 unfold dM at h;split at h
 ·rename_i e
  split at h
  ·rename_i es he;cases h;exact⟨e,es,rfl,he,rfl⟩
  ·contradiction
 ·contradiction
theorem kN {K:PySem.W.Frag}{σ:St}{H:Hp}{B:Addr->Prop}{Hk:Hp}{δ:DEnv}{d:D}{P:List V->Hp->Prop}(R:Rel K B Hk δ σ H) (e:fa δ=some d)
  (k:∀v H',Same H H'->Rel K B Hk δ σ H'->Rep K (aT m B δ σ) H' d v->P [v] H'):nH (tM K m fa) tNil σ H P:=
 ⟨B,Hk,δ,d,R,e,fun v H1 s1 r1=>k v H1 s1 (R.to s1) r1⟩
theorem zu (g:Gl X "len") (hm:X.mg "len"=none) {p:Pos}(ha:DE X m a fa) (hs:starEach [a] X.env=[(false,eval a X.env)]:=by rfl) (hd1:((Str.ofString "len")==("__debug__":Str))=false:=by decide):DE X mm (.Call (.Name "len" p) [a] [] pos) (fun δ=>dM (fa δ)):=
 (bM jD g hm PySem.boot_len (ar ha aH hs) (he:=hs)).imp fun σ H Q hz=>by
  obtain⟨B,Hk,δ,d,R,e,k⟩:=hz;obtain⟨d1,es,e1,hi,rfl⟩:=pU e;refine kN R e1 fun v H' s R' r=>?_
  obtain⟨p,xs,rfl,hq,rs⟩:=r.items hi;exact⟨p,xs,rfl,hq,k _ H' s (by simp only[Rep,rs.length])⟩
theorem Inv.frz {pins:List (Addr×Obj)}{σ:St}{H:Hp}{s:Shared}{p:Addr}{u:HO}(I:Inv X pins σ H s) (h:H p=some u) (mu:Mut (some u)):∃o,Inv X pins σ (upd H p (.frz o u)) s:=by
 have hob:=I.hok p u h;have hlt:=hob.lt;have mu':Mut (H p):=by rw[h];exact mu
 have heo:∃o,s.heap.get? p=some o:=by
  cases u with
  |lst xs=>obtain⟨_,_,_,_,e⟩:=hob;exact⟨_,e⟩
  |tup xs=>exact mu.elim
  |dK kvs=>obtain⟨_,_,_,_,o,_,_,e,_⟩:=hob;exact⟨_,e⟩
  |dD kvs ep=>obtain⟨_,_,_,_,o,_,e,_⟩:=hob;exact⟨_,e⟩
  |own y=>exact mu.elim
  |rng lo hi=>exact mu.elim
  |frz ob u=>exact mu.elim
  |tbl lq ps=>exact mu.elim
  |ext φ=>obtain⟨_,⟨_,e⟩,_⟩:=hob;exact⟨_,e⟩
 obtain⟨o,ho⟩:=heo;refine⟨o,?_⟩
 have nown:∀c y,H c=some (.own y)->c≠p:=fun c y r z=>by subst z;rw[h]at r;cases r;exact mu
 have ntup:∀c xs,H c=some (.tup xs)->c≠p:=fun c xs r z=>by subst z;rw[h]at r;cases r;exact mu
 have new:ObjOk X.prog X.w (upd H p (.frz o u)) s.heap p (.frz o u):=⟨ho,hob.stay (fun b v d q=>q) (fun b q=>by rw[ai (nown b p q)];exact q) fun b xs q=>by rw[ai (ntup b xs q)];exact q⟩
 exact I.un (t':=s.toks) (Un.write mu' (.inl rfl) (fun b v d q=>q) ⟨o,ho⟩) (I.hok.write mu' (.inl rfl) (fun b v d q=>q) ⟨o,ho⟩ new)
theorem ObR.mut {K:PySem.W.Frag}{B:Addr->Prop}{H:Hp}{d:D}{p:Addr}(h:ObR K B H d p):∃u,H p=some u/\Mut (some u):=by
 cases d with
 |lst ds=>obtain⟨xs,h1,h2⟩:=h;exact⟨_,h1,trivial⟩
 |dK ks ds=>obtain⟨xs,h1,h0,h2⟩:=h;exact⟨_,h1,trivial⟩
 |dD ks ds=>obtain⟨xs,⟨ep,h1⟩,h0,h2⟩:=h;exact⟨_,h1,trivial⟩
 |_=>exact(show False from h).elim
theorem bB {B:Addr->Prop}{H:Hp}{p:Addr}{u o:HO}(h:H p=some u) (mu:Mut (some u)) (hb:¬B p):Ext B H (upd H p o):=
 ⟨fun c xs r=>by rw[ai (fun z=>by subst z;rw[h]at r;cases r;exact mu)];exact r,fun c x y r=>by rw[ai (fun z=>by subst z;rw[h]at r;cases r;exact mu)];exact r,
  fun c r=>by rw[ai (fun z=>by subst z;exact hb r)]⟩
theorem ObR.frozen {K:PySem.W.Frag}{B B':Addr->Prop}{H:Hp}{d:D}{p:Addr}{u:HO}{o:Obj}(h:ObR K B H d p) (hu:H p=some u) (hb:¬B p) (hs:∀a,B a->B' a):Rep K B' (upd H p (.frz o u)) d (.ref p):=by
 obtain⟨u',e,mu⟩:=h.mut;rw[hu]at e;cases e;have ex:Ext B H (upd H p (.frz o u)):=bB hu mu hb;cases d with
 |lst ds=>
  obtain⟨xs,h1,h2⟩:=h;rw[hu]at h1;cases h1;simp only[Rep];exact⟨p,xs,rfl,.inr (.inl ⟨o,af⟩),(h2.ext ex).more hs⟩
 |dK ks ds=>
  obtain⟨xs,h1,h0,h2⟩:=h;rw[hu]at h1;cases h1;simp only[Rep];exact⟨p,xs,rfl,.inr ⟨o,af⟩,h0,(h2.ext ex).more hs⟩
 |dD ks ds=>
  obtain⟨xs,⟨ep,h1⟩,h0,h2⟩:=h;rw[hu]at h1;cases h1;simp only[Rep];exact⟨p,xs,rfl,⟨ep,.inr ⟨o,af⟩⟩,h0,(h2.ext ex).more hs⟩
 |_=>exact(show False from h).elim
theorem DF.share (h:DF X a fa):DE X m a fa:=by
 intro pins s σ H Q I hq;obtain⟨B,Hk,δ,d,R,e,k⟩:=hq;have h1:=h pins s σ H (fun v H'=>∃p,v=.ref p/\Same H H'/\H p=none/\ObR X.K B H' d p) I ⟨B,Hk,δ,d,R,e,fun p H' s n ob=>⟨p,rfl,s,n,ob⟩⟩
 refine thn h1 fun u s1 hz=>?_
 obtain⟨v,H1,I1,rv,p,ev,sm,hn,ob⟩:=hz;subst ev;obtain⟨u',hu,mu⟩:=ob.mut;obtain⟨o,I2⟩:=I1.frz hu mu;have hb:¬B p:=fun z=>by
  obtain⟨o',e'⟩:=R.borH p z;rw[hn]at e';contradiction
 refine⟨.ref p,_,I2,rv,k _ _ (sm.put hn) (ob.frozen hu hb fun a h=>g9 m a h)⟩
end
noncomputable def NRep (K:PySem.W.Frag) (B:Addr->Prop) (Hk H:Hp) (d:D) (v:V):Prop:=match d with
 |.lst es=>∃b xs,v=.ref b/\Hk b=none/\H b=some (.lst xs)/\Reps K B H es xs
 |d=>Rep K B H d v
noncomputable def NReps (K:PySem.W.Frag) (B:Addr->Prop) (Hk H:Hp):List D->List V->Prop
 |[],vs=>vs=[]
 |d::ds,vs=>∃x r,vs=x::r/\NRep K B Hk H d x/\NReps K B Hk H ds r
noncomputable def Ei (K:PySem.W.Frag) (B:Addr->Prop) (Hk H:Hp) (d:D) (v:V):Prop:=match d with
 |.tup ds=>∃a vs,v=.ref a/\H a=some (.tup vs)/\NReps K B Hk H ds vs
 |_=>False
noncomputable def Cw (K:PySem.W.Frag) (B:Addr->Prop) (Hk H:Hp) (d:D) (v:V):Prop:=Rep K B H d v\/∃es b xs,d=.lst es/\v=.ref b/\Hk b=none/\H b=some (.lst xs)/\Reps K B H es xs
noncomputable def MReps (K:PySem.W.Frag) (B:Addr->Prop) (Hk H:Hp):List D->List V->Prop
 |[],vs=>vs=[]
 |d::ds,vs=>∃x r,vs=x::r/\Cw K B Hk H d x/\MReps K B Hk H ds r
theorem NRep.m {K:PySem.W.Frag}{B:Addr->Prop}{Hk H:Hp}{d:D}{v:V}(h:NRep K B Hk H d v):Cw K B Hk H d v:=by
 cases d with
 |lst es=>obtain⟨b,xs,h1,h2,h3,h4⟩:=h;exact .inr ⟨es,b,xs,rfl,h1,h2,h3,h4⟩
 |_=>exact .inl h
theorem NReps.m {K:PySem.W.Frag}{B:Addr->Prop}{Hk H:Hp}:∀{ds:List D}{vs:List V},NReps K B Hk H ds vs->MReps K B Hk H ds vs
 |[],vs,h=>h
 |d::ds,vs,h=>by obtain⟨x,r,e,h1,h2⟩:=h;exact⟨x,r,e,h1.m,NReps.m h2⟩
theorem MReps.frz1 {K:PySem.W.Frag}{B:Addr->Prop}{Hk H:Hp}{b:Addr}{xs:List V}{o:Obj}(hx:H b=some (.lst xs)) (ex:Ext B H (upd H b (.frz o (.lst xs)))):∀{ds:List D}{vs:List V},MReps K B Hk H ds vs->MReps K B Hk (upd H b (.frz o (.lst xs))) ds vs
 |[],vs,h=>h
 |d::ds,vs,h=>by
  obtain⟨x,r,e,h1,h2⟩:=h;refine⟨x,r,e,?_,MReps.frz1 hx ex h2⟩
  rcases h1 with h1|⟨es,b',xs',rfl,rfl,n,hb',rs⟩
  ·exact .inl (h1.ext ex)
  ·by_cases q:b'=b
   ·subst q
    rw[hx]at hb';cases hb';refine .inl ?_
    simp only[Rep];exact⟨b',xs,rfl,.inr (.inl ⟨o,af⟩),rs.ext ex⟩
   ·exact .inr ⟨es,b',xs',rfl,rfl,n,by rw[ai q];exact hb',rs.ext ex⟩
theorem Bd {X:Cx}{pins:List (Addr×Obj)}{σ:St}{s:Shared}{B:Addr->Prop}{Hk:Hp}(hB:∀a,B a->∃o:HOn,Hk a=some o.1):∀(ds:List D) (vs:List V) (H:Hp),Inv X pins σ H s->MReps X.K B Hk H ds vs->
  ∃H',Inv X pins σ H' s/\Ext B H H'/\(∀c o o',Hk c=some o'->H c=some o->H' c=some o)/\Reps X.K B H' ds vs
 |[],vs,H,I,h=>⟨H,I,Ext.refl,fun y y y y q=>q,by rw[show vs=[] from h];exact Reps.nil⟩
 |d::ds,vs,H,I,h=>by
  obtain⟨x,r,rfl,h1,h2⟩:=h
  rcases h1 with h1|⟨es,b,xs,rfl,rfl,n,hb,rs⟩
  ·obtain⟨H',I',e',k',r'⟩:=Bd hB ds r H I h2
   exact⟨H',I',e',k',Reps.cons (h1.ext e') r'⟩
  ·obtain⟨o,I1⟩:=I.frz hb trivial
   have nb:¬B b:=fun z=>by obtain⟨o',q⟩:=hB b z;rw[n]at q;contradiction
   have ex:Ext B H (upd H b (.frz o (.lst xs))):=bB hb trivial nb;obtain⟨H',I',e',k',r'⟩:=Bd hB ds r _ I1 (MReps.frz1 hb ex h2);refine⟨H',I',ex.trans e',fun c o' o2 q1 q2=>k' c o' o2 q1 (by rw[ai (av q1 n)];exact q2),Reps.cons (Rep.ext e' ?_) r'⟩
   simp only[Rep];exact⟨b,xs,rfl,.inr (.inl ⟨o,af⟩),rs.ext ex⟩
noncomputable def kP (K:PySem.W.Frag) (B:Addr->Prop) (Hk H':Hp) (d:D) (fr:Bool) (v:V):Prop:=if fr=true then(∃a,v=.ref a/\Hk a=none/\ObR K B H' d a)\/Ei K B Hk H' d v else Rep K B H' d v
inductive spM (K:PySem.W.Frag) (f:List D->Option (D×Bool)) (vs:List V) (H:Hp) (Q:VK) (y:XK):Prop
 |mk (B:Addr->Prop) (ds:List D) (r:D) (fr:Bool) (a_:(∀a,B a->∃o:HOn,H a=some o.1)) (b_:Reps K B H ds vs) (c_:f ds=some (r,fr)) (d_:∀v H',Same H H'->kP K B H H' r fr v->Q v H'):spM K f vs H Q y
structure FnM (P:Program) (w:World) (K:PySem.W.Frag) (mg:Str->Option Value) (base:Heap) (k:Nat) (x:Str) (f:List D->Option (D×Bool)):Prop where
 ex:∃(p:Addr) (fd:FuncData) (ps:List Str),FnOk P w K mg base CX0 k p fd ps (spM K f)/\mg x=some (.ref p)/\PySem.W.keepIn K (.ref p)=true/\Binds K fd ps []
noncomputable def ac {α β:Type}(x:Option α) (f:α->Option β):Option β:=match x with|some a=>f a|none=>none
theorem ak {α β:Type}{x:Option α}{f:α->Option β}{b:β}(h:ac x f=some b):∃a,x=some a/\f a=some b:=by
 cases x with
 |none=>contradiction
 |some a=>exact⟨a,rfl,h⟩
noncomputable def shO (x:Option (D×Bool)):Option D:=match x with|some (d,_)=>some d|none=>none
noncomputable def frO (x:Option (D×Bool)):Option D:=match x with|some (.tup _,true)=>none|some (d,true)=>some d|_=>none
noncomputable def flO (x:Option (D×Bool)):Option D:=match x with|some (.lst ds,true)=>if D.flats ds=true then some (.lst ds) else none|_=>none
section
variable{X:Cx}{m m' mm:Bool}{a b e:Expr}{es:List Expr}{fa fb:DEnv->Option D}{fs:DEnv->Option (List D)}{pos p:Pos}{k:Nat}{x:Str}{f:List D->Option (D×Bool)}
theorem ky (F:FnM X.prog X.w X.K X.mg X.base k x f) (hr:Room k X.A) (hg:Gl X x) (ha:DA X m (e::es) fs) (hdb:(x==("__debug__":Str))=false) (he:starEach (e::es) X.env=(false,eval e X.env)::starEach es X.env) (hpl:(backTo pos (starEach es X.env)).any (·.1)=false):
  PE X (.Call (.Name x p) (e::es) [] pos) (fun σ H Q=>∃B Hk δ ds r fr,Rel X.K B Hk δ σ H/\fs δ=some ds/\f ds=some (r,fr)/\∀v H1 H',Same H H1->Same H1 H'->kP X.K (aT m B δ σ) H1 H' r fr v->Q v H'):=by
 obtain⟨q,fd,ps,h1,h2,h3,h4⟩:=F.ex;refine(xz (ds:=[]) (dvs:=[]) h1 hr hg h2 h3 h4 .nil Bn ha hdb he hpl).imp fun σ H Q hz=>?_
 obtain⟨B,Hk,δ,ds,r,fr,R,e1,e2,kk⟩:=hz;refine⟨B,Hk,δ,ds,R,e1,fun vs H1 s1 rs=>?_⟩
 show spM X.K f (vs++[]) H1 Q E0;rw[Yt];exact⟨aT m B δ σ,ds,r,fr,(R.to s1).bsH m,rs,e2,fun v H' s2 rr=>kk v H1 H' s1 s2 rr⟩
theorem xF (F:FnM X.prog X.w X.K X.mg X.base k x f) (hr:Room k X.A) (hg:Gl X x) (ha:DA X false (e::es) fs) (hdb:(x==("__debug__":Str))=false:=by decide) (he:starEach (e::es) X.env=(false,eval e X.env)::starEach es X.env:=by rfl)
  (hpl:(backTo pos (starEach es X.env)).any (·.1)=false:=by rfl):DF X (.Call (.Name x p) (e::es) [] pos) (fun δ=>frO (ac (fs δ) f)):=
 (ky F hr hg ha hdb he hpl).imp fun σ H Q hz=>by
  obtain⟨B,Hk,δ,d,R,e,kk⟩:=hz;cases q:ac (fs δ) f with
  |none=>simp only[q,frO]at e;contradiction
  |some p=>
   obtain⟨d',fr⟩:=p;obtain⟨ds,e1,e2⟩:=ak q;cases fr with
   |false=>cases d'<;>simp only[q,frO]at e<;>contradiction
   |true=>
    have hd:d'=d/\∀ts,d≠.tup ts:=by
     cases d' with
     |tup ts=>simp only[q,frO]at e;contradiction
     |_=>simp only[q,frO]at e;cases e;exact⟨rfl,fun ts z=>by cases z⟩
    obtain⟨rfl,nt⟩:=hd;refine⟨B,Hk,δ,ds,_,_,R,e1,e2,fun v H1 H' s1 s2 rr=>?_⟩
    unfold kP at rr;rw[Zm rfl]at rr
    rcases rr with⟨a,rfl,n,ob⟩|rt
    ·exact kk a H' (s1.trans s2) (s1.free n) ob
    ·cases d' with
     |tup ts=>exact(nt ts rfl).elim
     |_=>exact(show False from rt).elim
set_option tactic.hygienic true in
theorem sx (F:FnM X.prog X.w X.K X.mg X.base k x f) (hr:Room k X.A) (hg:Gl X x) (ha:DA X true (e::es) fs) (hdb:(x==("__debug__":Str))=false:=by decide) (he:starEach (e::es) X.env=(false,eval e X.env)::starEach es X.env:=by rfl)
  (hpl:(backTo pos (starEach es X.env)).any (·.1)=false:=by rfl):DF X (.Call (.Name x p) (e::es) [] pos) (fun δ=>flO (ac (fs δ) f)):=
 (ky F hr hg ha hdb he hpl).imp fun σ H Q hz=>by
  obtain⟨B,Hk,δ,d,R,e,kk⟩:=hz;unfold flO at e;split at e
  ·rename_i ls q
   by_cases fl:D.flats ls=true
   ·rw[Zm fl]at e
    cases e;obtain⟨ds,e1,e2⟩:=ak q;refine⟨B,Hk,δ,ds,_,_,R,e1,e2,fun v H1 H' s1 s2 rr=>?_⟩
    unfold kP at rr;rw[Zm rfl]at rr
    rcases rr with⟨a,rfl,n,xs,hx,rs⟩|rt
    ·exact kk a H' (s1.trans s2) (s1.free n) ⟨xs,hx,Reps.flat fl rs⟩
    ·exact(show False from rt).elim
   ·rw[Zo fl]at e;contradiction
  ·contradiction
set_option tactic.hygienic true in
theorem v5 (F:FnM X.prog X.w X.K X.mg X.base k x f) (hr:Room k X.A) (hg:Gl X x) (ha:DA X m (e::es) fs) (hdb:(x==("__debug__":Str))=false:=by decide) (he:starEach (e::es) X.env=(false,eval e X.env)::starEach es X.env:=by rfl)
  (hpl:(backTo pos (starEach es X.env)).any (·.1)=false:=by rfl):DE X m (.Call (.Name x p) (e::es) [] pos) (fun δ=>shO (ac (fs δ) f)):=by
 intro pins s σ H Q I hq;obtain⟨B,Hk,δ,d,R,e,kk⟩:=hq;unfold shO at e;split at e
 ·rename_i d' fr q
  cases e;obtain⟨ds,e1,e2⟩:=ak q;have h1:=ky (p:=p) F hr hg ha hdb he hpl pins s σ H (fun v H'=>∃H1,Same H H1/\Same H1 H'/\kP X.K (aT m B δ σ) H1 H' d fr v) I ⟨B,Hk,δ,ds,d,fr,R,e1,e2,fun v H1 H' s1 s2 rr=>⟨H1,s1,s2,rr⟩⟩
  refine thn h1 fun u s1 hz=>?_
  obtain⟨v,H',I1,rv,H1,sm1,sm2,rr⟩:=hz;cases fr with
  |false=>
   unfold kP at rr;rw[Zo ZE]at rr;exact⟨v,H',I1,rv,kk v H' (sm1.trans sm2) rr⟩
  |true=>
   unfold kP at rr;rw[Zm rfl]at rr
   rcases rr with⟨p,rfl,n,ob⟩|rt
   rotate_left
   ·cases d with
    |tup ts=>
     obtain⟨a,vs,rfl,ha',rs⟩:=rt;obtain⟨H2,I2,e2,k2,r2⟩:=Bd (B:=aT m B δ σ) (Hk:=H1) (fun c z=>by obtain⟨o',e'⟩:=R.bsH m c z;exact⟨o',sm1 c o' e'⟩) ts vs H' I1 rs.m
     refine⟨.ref a,H2,I2,rv,kk _ _ (sm1.trans (sm2.keep k2)) ?_⟩
     simp only[Rep];exact⟨a,vs,rfl,e2.tups _ _ ha',r2⟩
    |_=>exact(show False from rt).elim
   obtain⟨u',hu,mu⟩:=ob.mut;obtain⟨o,I2⟩:=I1.frz hu mu;have hb:¬aT m B δ σ p:=fun z=>by
    obtain⟨o',e'⟩:=R.bsH m p z;have:=sm1 p o' e';rw[n]at this;contradiction
   refine⟨.ref p,_,I2,rv,kk _ _ (sm1.trans (sm2.put n)) (ob.frozen hu hb fun a h=>h)⟩
 ·contradiction
end
inductive Out where
 |next (δ:DEnv)|ret (d:D) (fr:Bool)|brk (δ:DEnv)|cont (δ:DEnv)
noncomputable def OutK (K:PySem.W.Frag) (B:Addr->Prop) (Hk H:Hp) (Dn:Ends):Out->Prop
 |.next δ=>∀σ' H',Ext B H H'->Rel K B Hk δ σ' H'->Dn.nx σ' H'
 |.brk δ=>∀σ' H',Ext B H H'->Rel K B Hk δ σ' H'->Dn.bk σ' H'
 |.cont δ=>∀σ' H',Ext B H H'->Rel K B Hk δ σ' H'->Dn.ct σ' H'
 |.ret d fr=>∀v H',Ext B H H'->Same Hk H'->kP K B Hk H' d fr v->Dn.rt v H'
inductive tD (K:PySem.W.Frag) (g:DEnv->Option Out) (Dn:Ends) (σ:St) (H:Hp):Prop
 |mk (B:Addr->Prop) (Hk:Hp) (δ:DEnv) (o:Out) (a_:Rel K B Hk δ σ H) (b_:g δ=some o) (c_:OutK K B Hk H Dn o):tD K g Dn σ H
noncomputable abbrev DS (X:Cx) (st:Stmt) (g:DEnv->Option Out):Prop:=PS X st (tD X.K g)
noncomputable abbrev DSs (X:Cx) (sts:List Stmt) (g:DEnv->Option Out):Prop:=PSs X sts (tD X.K g)
theorem OutK.ext {K:PySem.W.Frag}{B:Addr->Prop}{Hk H H1:Hp}{Dn:Ends}{o:Out}(h:OutK K B Hk H Dn o) (e:Ext B H H1):OutK K B Hk H1 Dn o:=by
 cases o with
 |next δ=>exact fun σ' H' x r=>h σ' H' (e.trans x) r
 |brk δ=>exact fun σ' H' x r=>h σ' H' (e.trans x) r
 |cont δ=>exact fun σ' H' x r=>h σ' H' (e.trans x) r
 |ret d fr=>exact fun v H' x r=>h v H' (e.trans x) r
noncomputable def nextO (δ:DEnv):Option Out:=some (.next δ)
noncomputable def aC (x:Option Out) (k:DEnv->Option Out):Option Out:=match x with|some (.next δ)=>k δ|o=>o
section
variable{X:Cx}{m m' mm:Bool}{a b e:Expr}{es:List Expr}{fa fb:DEnv->Option D}{fs:DEnv->Option (List D)}{pos p:Pos}{st:Stmt}{rest:List Stmt}{g g1 g2:DEnv->Option Out}{fc:DEnv->Option Bool}
theorem v7:DSs X [] nextO:=xG.imp fun Dn σ H hz=>by
 obtain⟨B,Hk,δ,o,R,e,k⟩:=hz;cases e;exact k σ H Ext.refl R
theorem de (h1:DS X st g1) (h2:DSs X rest g2):DSs X (st::rest) (fun δ=>aC (g1 δ) g2):=
 (bu h1 h2).imp fun Dn σ H hz=>by
  obtain⟨B,Hk,δ,o,R,e,k⟩:=hz;cases q:g1 δ with
  |none=>simp only[q,aC]at e;contradiction
  |some o1=>
   cases o1 with
   |next δ1=>
    simp only[q,aC]at e;exact⟨B,Hk,δ,_,R,q,fun σ' H' x R'=>⟨B,Hk,δ1,o,R',e,k.ext x⟩⟩
   |brk δ1=>simp only[q,aC]at e;cases e;exact⟨B,Hk,δ,_,R,q,k⟩
   |cont δ1=>simp only[q,aC]at e;cases e;exact⟨B,Hk,δ,_,R,q,k⟩
   |ret d fr=>simp only[q,aC]at e;cases e;exact⟨B,Hk,δ,_,R,q,k⟩
theorem lA (h1:DS X st g1):DSs X [st] g1:=lC h1
theorem wL:DS X (.Continue pos) (fun δ=>some (.cont δ)):=kR.imp fun Dn σ H hz=>by obtain⟨B,Hk,δ,o,R,e,k⟩:=hz;cases e;exact k σ H Ext.refl R
noncomputable def ifO (c:Option Bool) (x y:Option Out):Option Out:=match c with|some true=>x|some false=>y|none=>none
theorem Rel.ext {K:PySem.W.Frag}{B:Addr->Prop}{Hk H H':Hp}{δ:DEnv}{σ:St}(R:Rel K B Hk δ σ H) (s:Same H H'):Ext B H H':=s.ext R.borH
theorem BN {c:Expr}{x y:List Stmt}(hc:DT X c fc) (ha:DSs X x g1) (hb:DSs X y g2):DS X (.If c x y pos) (fun δ=>ifO (fc δ) (g1 δ) (g2 δ)):=
 (yV hc ha hb).imp fun Dn σ H hz=>by
  obtain⟨B,Hk,δ,o,R,e,k⟩:=hz;unfold ifO at e;split at e
  ·rename_i q
   exact⟨B,Hk,δ,true,R,q,fun H1 s1=>vF ⟨B,Hk,δ,o,R.to s1,e,k.ext (R.ext s1)⟩⟩
  ·rename_i q
   exact⟨B,Hk,δ,false,R,q,fun H1 s1=>vq ⟨B,Hk,δ,o,R.to s1,e,k.ext (R.ext s1)⟩⟩
  ·contradiction
theorem Rel.set {K:PySem.W.Frag}{B:Addr->Prop}{Hk H:Hp}{δ:DEnv}{σ:St}{i:Nat}{d:D}{v:V}(R:Rel K B Hk δ σ H) (hi:i<σ.length) (r:Rep K B H d v):Rel K B Hk (δ.set i (some (d,false))) (σ.set i (some v)) H:=by
 have hi':i<δ.length:=by rw[R.len];exact hi
 refine⟨R.same,R.bor,by simpa using R.len,fun j e h=>?_,fun j e h=>?_,fun j k e f q hjk h1 h2 h3 h4=>?_⟩
 ·by_cases hj:j=i
  ·subst hj
   rw[Zs hi']at h
   cases h;exact⟨v,by rw[Zs hi],r⟩
  ·rw[Zl (Zz hj)]at h
   rw[Zl (Zz hj)]
   exact R.var j e h
 ·by_cases hj:j=i
  ·subst hj
   rw[Zs hi']at h
   cases h
  ·rw[Zl (Zz hj)]at h
   rw[Zl (Zz hj)]
   exact R.own j e h
 ·have nj:j≠i:=fun z=>by subst z;rw[Zs hi']at h1;cases h1
  have nk:k≠i:=fun z=>by subst z;rw[Zs hi']at h2;cases h2
  rw[Zl (Zz nj)]at h1 h3
  rw[Zl (Zz nk)]at h2 h4
  exact R.dis j k e f q hjk h1 h2 h3 h4
theorem Rel.setOwn {K:PySem.W.Frag}{B:Addr->Prop}{Hk H:Hp}{δ:DEnv}{σ:St}{i:Nat}{d:D}{a:Addr}(R:Rel K B Hk δ σ H) (hi:i<σ.length) (hk:Hk a=none) (ob:ObR K B H d a)
  (ho:∀(j:Nat) e,j≠i->δ[j]?=some (some (e,true))->σ[j]?≠some (some (.ref a))):Rel K B Hk (δ.set i (some (d,true))) (σ.set i (some (.ref a))) H:=by
 have hi':i<δ.length:=by rw[R.len];exact hi
 refine⟨R.same,R.bor,by simpa using R.len,fun j e h=>?_,fun j e h=>?_,fun j k e f q hjk h1 h2 h3 h4=>?_⟩
 ·by_cases hj:j=i
  ·subst hj
   rw[Zs hi']at h
   cases h
  ·rw[Zl (Zz hj)]at h
   rw[Zl (Zz hj)]
   exact R.var j e h
 ·by_cases hj:j=i
  ·subst hj
   rw[Zs hi']at h
   cases h;exact⟨a,by rw[Zs hi],hk,ob⟩
  ·rw[Zl (Zz hj)]at h
   rw[Zl (Zz hj)]
   exact R.own j e h
 ·by_cases nj:j=i
  ·subst nj
   have nk:k≠j:=fun z=>hjk z.symm
   rw[Zs hi]at h3
   cases h3;rw[Zl (Zz nk)]at h2 h4
   exact ho k f nk h2 h4
  ·rw[Zl (Zz nj)]at h1 h3
   by_cases nk:k=i
   ·subst nk
    rw[Zs hi]at h4
    cases h4;exact ho j e nj h1 h3
   ·rw[Zl (Zz nk)]at h2 h4
    exact R.dis j k e f q hjk h1 h2 h3 h4
noncomputable def bc (i:Nat) (x:Option D) (δ:DEnv):Option Out:=match x with|some d=>if i<δ.length then some (.next (δ.set i (some (d,false)))) else none|none=>none
noncomputable def dC (i:Nat) (x:Option D) (δ:DEnv):Option Out:=match x with|some d=>if i<δ.length then some (.next (δ.set i (some (d,true)))) else none|none=>none
set_option tactic.hygienic true in
theorem qI {i:Nat}{x:Option D}{δ:DEnv}{o:Out}(h:bc i x δ=some o):∃d,x=some d/\i<δ.length/\o=.next (δ.set i (some (d,false))):=by
 unfold bc at h;split at h
 ·rename_i d
  by_cases q:i<δ.length
  ·rw[Zm q]at h;cases h;exact⟨d,rfl,q,rfl⟩
  ·rw[Zo q]at h;contradiction
 ·contradiction
set_option tactic.hygienic true in
theorem jp {i:Nat}{x:Option D}{δ:DEnv}{o:Out}(h:dC i x δ=some o):∃d,x=some d/\i<δ.length/\o=.next (δ.set i (some (d,true))):=by
 unfold dC at h;split at h
 ·rename_i d
  by_cases q:i<δ.length
  ·rw[Zm q]at h;cases h;exact⟨d,rfl,q,rfl⟩
  ·rw[Zo q]at h;contradiction
 ·contradiction
theorem wU {i:Nat}{Dn:Ends}{σ:St}{H:Hp}(h:tD X.K (fun δ=>bc i (fa δ) δ) Dn σ H):xi (tM X.K false fa) (fG i) Dn σ H:=by
 obtain⟨B,Hk,δ,o,R,e,k⟩:=h;obtain⟨d,e1,hi,rfl⟩:=qI e;exact⟨B,Hk,δ,d,R,e1,fun v H' s r=>k _ H' (R.ext s) ((R.to s).set (by rw[<-R.len];exact hi) r)⟩
theorem tJ {i:Nat}{Dn:Ends}{σ:St}{H:Hp}(h:tD X.K (fun δ=>dC i (fa δ) δ) Dn σ H):xi (tF X.K fa) (fG i) Dn σ H:=by
 obtain⟨B,Hk,δ,o,R,e,k⟩:=h;obtain⟨d,e1,hi,rfl⟩:=jp e;refine⟨B,Hk,δ,d,R,e1,fun a H' s n ob=>k _ H' (R.ext s) ((R.to s).setOwn (by rw[<-R.len];exact hi) (R.same.free n) ob fun j e hj h1 h2=>?_)⟩
 obtain⟨b,h3,_,ob'⟩:=R.own j e h1;rw[h2]at h3;cases h3;obtain⟨o,e'⟩:=ob'.there;rw[n]at e';contradiction
theorem Ac {i:Nat}{x:Str}{pos':Pos}(hN:X.N.Nodup) (ha:DE X false a fa) (hi:X.N[i]?=some x:=by rfl) (hx:Loc X.env.scope x:=by first|exact Or.inl rfl|exact Or.inr rfl) (hs:swapsWith a (some (.Name x pos')) pos.line X.env=pure false:=by rfl)
  (hf:X.fn x=true\/X.env.scope.names.lookup x=some .local:=by first|exact .inl rfl|exact .inr rfl):DS X (.Assign [.Name x pos'] a pos) (fun δ=>bc i (fa δ) δ):=
 (gm hN hi hx ha hs hf).imp fun Dn σ H h=>wU h
theorem wM {i:Nat}{x:Str}{pos':Pos}(hN:X.N.Nodup) (ha:DF X a fa) (hi:X.N[i]?=some x:=by rfl) (hx:Loc X.env.scope x:=by first|exact Or.inl rfl|exact Or.inr rfl) (hs:swapsWith a (some (.Name x pos')) pos.line X.env=pure false:=by rfl)
  (hf:X.fn x=true\/X.env.scope.names.lookup x=some .local:=by first|exact .inl rfl|exact .inr rfl):DS X (.Assign [.Name x pos'] a pos) (fun δ=>dC i (fa δ) δ):=
 (gm hN hi hx ha hs hf).imp fun Dn σ H h=>tJ h
noncomputable def cQ (x:Option D):Option Out:=match x with|some d=>some (.ret d false)|none=>none
noncomputable def dJ (x:Option D):Option Out:=match x with|some d=>some (.ret d true)|none=>none
theorem Aw (ha:DE X false a fa):DS X (.Return (some a) pos) (fun δ=>cQ (fa δ)):=
 (mB ha).imp fun Dn σ H hz=>by
  obtain⟨B,Hk,δ,o,R,e,k⟩:=hz;cases q:fa δ with
  |none=>simp only[q,cQ]at e;contradiction
  |some d=>
   simp only[q,cQ]at e;cases e;exact⟨B,Hk,δ,d,R,q,fun v H' s r=>k v H' (R.ext s) (R.same.trans s) (by unfold kP;rw[Zo ZE];exact r)⟩
theorem wv (ha:DF X a fa):DS X (.Return (some a) pos) (fun δ=>dJ (fa δ)):=
 (mB ha).imp fun Dn σ H hz=>by
  obtain⟨B,Hk,δ,o,R,e,k⟩:=hz;cases q:fa δ with
  |none=>simp only[q,dJ]at e;contradiction
  |some d=>
   simp only[q,dJ]at e;cases e;exact⟨B,Hk,δ,d,R,q,fun p H' s n ob=>k (.ref p) H' (R.ext s) (R.same.trans s) (by unfold kP;rw[Zm rfl];exact .inl ⟨p,rfl,R.same.free n,ob⟩)⟩
noncomputable def bz (i:Nat) (δ:DEnv):Option D:=match δ[i]? with|some (some (d,true))=>some d|_=>none
set_option tactic.hygienic true in
theorem bE {i:Nat}{δ:DEnv}{d:D}(h:bz i δ=some d):δ[i]?=some (some (d,true)):=by
 unfold bz at h;split at h
 ·rename_i d' e;cases h;exact e
 ·contradiction
theorem xK {i:Nat}{x:Str}{px:Pos}(hN:X.N[i]?=some x:=by rfl) (hv:Vis X.env.scope x:=by first|exact Or.inl rfl|exact Or.inr (Or.inl rfl)|exact Or.inr (Or.inr rfl)) (hd:(x==("__debug__":Str))=false:=by decide) (hcd:(x==("__classdict__":Str))=false:=by decide):
  DS X (.Return (some (.Name x px)) pos) (fun δ=>dJ (bz i δ)):=
 (mB (be hN hv hd hcd)).imp fun Dn σ H hz=>by
  obtain⟨B,Hk,δ,o,R,e,k⟩:=hz;cases q:bz i δ with
  |none=>simp only[q,dJ]at e;contradiction
  |some d=>
   simp only[q,dJ]at e;cases e;obtain⟨p,h1,h2,h3⟩:=R.own i d (bE q);exact⟨.ref p,h1,k (.ref p) H Ext.refl R.same (by unfold kP;rw[Zm rfl];exact .inl ⟨p,rfl,h2,h3⟩)⟩
theorem Rel.lset {K:PySem.W.Frag}{B:Addr->Prop}{Hk H:Hp}{δ:DEnv}{σ:St}{i:Nat}{ds ds':List D}{l:Addr}{xs xs':List V}(R:Rel K B Hk δ σ H) (h:δ[i]?=some (some (.lst ds,true))) (hl:σ[i]?=some (some (.ref l))) (hx:H l=some (.lst xs)) (r:Reps K B H ds' xs'):
  Ext B H (upd H l (.lst xs'))/\Rel K B Hk (δ.set i (some (.lst ds',true))) σ (upd H l (.lst xs')):=by
 obtain⟨a,e1,e2,ys,e3,_⟩:=R.own i _ h;rw[hl]at e1;cases e1;have hb:¬B l:=fun z=>by obtain⟨o,q⟩:=R.bor l z;rw[e2]at q;contradiction
 have ex:Ext B H (upd H l (.lst xs')):=bB hx trivial hb;have hi':i<δ.length:=(List.getElem?_eq_some_iff.mp h).1
 refine⟨ex,⟨R.same.put e2,R.bor,by simpa using R.len,fun j e q=>?_,fun j e q=>?_,fun j k e f q hjk h1 h2 h3 h4=>?_⟩⟩
 ·by_cases hj:j=i
  ·subst hj
   rw[Zs hi']at q
   cases q
  ·rw[Zl (Zz hj)]at q
   obtain⟨v,q1,q2⟩:=R.var j e q;exact⟨v,q1,q2.ext ex⟩
 ·by_cases hj:j=i
  ·subst hj
   rw[Zs hi']at q
   cases q;exact⟨l,hl,e2,xs',af,r.ext ex⟩
  ·rw[Zl (Zz hj)]at q
   obtain⟨c,q1,q2,q3⟩:=R.own j e q;have hc:c≠l:=fun z=>by subst z;exact R.dis j i e _ c hj q h q1 hl
   exact⟨c,q1,q2,q3.ext ex fun o q y=>by rw[ai hc];exact q⟩
 ·have h1':∃e',δ[j]?=some (some (e',true)):=by
   by_cases hj:j=i
   ·subst hj;exact⟨_,h⟩
   ·rw[Zl (Zz hj)]at h1;exact⟨_,h1⟩
  have h2':∃e',δ[k]?=some (some (e',true)):=by
   by_cases hj:k=i
   ·subst hj;exact⟨_,h⟩
   ·rw[Zl (Zz hj)]at h2;exact⟨_,h2⟩
  obtain⟨e',h1'⟩:=h1';obtain⟨f',h2'⟩:=h2';exact R.dis j k e' f' q hjk h1' h2' h3 h4
noncomputable def kG (i:Nat) (x:Option D) (δ:DEnv):Option Out:=match bz i δ,x with|some (.lst ds),some d=>if ds.length<lim then some (.next (δ.set i (some (.lst (ds++[d]),true)))) else none|_,_=>none
set_option tactic.hygienic true in
theorem rl {i:Nat}{x:Option D}{δ:DEnv}{o:Out}(h:kG i x δ=some o):∃ds d,δ[i]?=some (some (.lst ds,true))/\x=some d/\ds.length<lim/\o=.next (δ.set i (some (.lst (ds++[d]),true))):=by
 unfold kG at h;split at h
 ·rename_i ds d q
  by_cases hl:ds.length<lim
  ·rw[Zm hl]at h;cases h;exact⟨ds,d,bE q,rfl,hl,rfl⟩
  ·rw[Zo hl]at h;contradiction
 ·contradiction
theorem pZ {i:Nat}{x:Str}{px apos cpos:Pos}(ha:DE X false a fa) (hN:X.N[i]?=some x:=by rfl) (hv:Vis X.env.scope x:=by first|exact Or.inl rfl|exact Or.inr (Or.inl rfl)|exact Or.inr (Or.inr rfl))
  (hbase:attributeBase (.Name x px) "append" X.env (eval (.Name x px) X.env)=eval (.Name x px) X.env:=by rfl)
  (hfew:((backTo cpos (starEach [a] X.env)).all (fun x=>!x.1)&&(backToKw cpos (keywordEach [] X.env)).all (fun x=>x.1.isSome)&&decide (([a]).length+([]:List Keyword).length+(if([]:List Keyword).isEmpty then 0 else 1)<30))=true:=by rfl)
  (hline:(apos.endLine==cpos.line)=true:=by rfl) (hs:starEach [a] X.env=(false,eval a X.env)::starEach [] X.env:=by rfl) (hd:(x==("__debug__":Str))=false:=by decide) (hcd:(x==("__classdict__":Str))=false:=by decide)
  (hsw:swapsWith (.Call (.Attribute (.Name x px) "append" apos) [a] [] cpos) none pos.line X.env=pure false:=by rfl):DS X (.Expr (.Call (.Attribute (.Name x px) "append" apos) [a] [] cpos) pos) (fun δ=>kG i (fa δ) δ):=
 (lF (nR PySem.F.plainAttrs_list PySem.F.slot_list_append PySem.F.type_list_append jT (be hN hv hd hcd) (ar ha aH hs) hbase hfew hline hs) hsw).imp fun Dn σ H hz=>by
  obtain⟨B,Hk,δ,o,R,e,k⟩:=hz;obtain⟨ds,d,h1,e1,hl,rfl⟩:=rl e;obtain⟨l,h2,h3,xs,h4,h5⟩:=R.own i _ h1;refine⟨.ref l,h2,.inl ⟨rfl,xs,SqL.of h4⟩,kN R e1 fun v H' s R' r=>?_⟩
  have h4':=s l _ h4;have h5':Reps X.K B H' ds xs:=h5.ext (R.ext s);obtain⟨x1,x2⟩:=R'.lset (ds':=ds++[d]) (xs':=xs++[v]) h1 h2 h4' (h5'.append (Reps.cons r Reps.nil));exact⟨l,xs,v,rfl,rfl,h4',by rw[<-h5.length];exact Zr hl (aD (Zk _)),k σ _ ((R.ext s).trans x1) x2⟩
noncomputable def frzE (i:Nat) (δ:DEnv):DEnv:=match δ[i]? with|some (some (d,true))=>δ.set i (some (d,false))|_=>δ
set_option tactic.hygienic true in
theorem Rel.frzE {pins:List (Addr×Obj)}{σ:St}{H:Hp}{s:Shared}{B:Addr->Prop}{Hk:Hp}{δ:DEnv}(i:Nat) (I:Inv X pins σ H s) (R:Rel X.K B Hk δ σ H):∃H',Inv X pins σ H' s/\Ext B H H'/\Rel X.K B Hk (frzE i δ) σ H':=by
 unfold L2.frzE;split
 ·rename_i d h
  obtain⟨a,e1,e2,ob⟩:=R.own i d h;obtain⟨u,hu,mu⟩:=ob.mut;obtain⟨o,I2⟩:=I.frz hu mu;have hb:¬B a:=fun z=>by obtain⟨o,q⟩:=R.bor a z;rw[e2]at q;contradiction
  have ex:Ext B H (upd H a (.frz o u)):=bB hu mu hb;have hi':i<δ.length:=(List.getElem?_eq_some_iff.mp h).1
  refine⟨_,I2,ex,⟨R.same.put e2,R.bor,by simpa using R.len,fun j e q=>?_,fun j e q=>?_,fun j k e f q hjk h1 h2 h3 h4=>?_⟩⟩
  ·by_cases hj:j=i
   ·subst hj
    rw[Zs hi']at q
    cases q;exact⟨_,e1,ob.frozen hu hb fun a h=>h⟩
   ·rw[Zl (Zz hj)]at q
    obtain⟨v,q1,q2⟩:=R.var j e q;exact⟨v,q1,q2.ext ex⟩
  ·by_cases hj:j=i
   ·subst hj
    rw[Zs hi']at q
    cases q
   ·rw[Zl (Zz hj)]at q
    obtain⟨c,q1,q2,q3⟩:=R.own j e q;have hc:c≠a:=fun z=>by subst z;exact R.dis j i e _ c hj q h q1 e1
    exact⟨c,q1,q2,q3.ext ex fun o q y=>by rw[ai hc];exact q⟩
  ·have nj:j≠i:=fun z=>by subst z;rw[Zs hi']at h1;cases h1
   have nk:k≠i:=fun z=>by subst z;rw[Zs hi']at h2;cases h2
   rw[Zl (Zz nj)]at h1
   rw[Zl (Zz nk)]at h2
   exact R.dis j k e f q hjk h1 h2 h3 h4
 ·exact⟨H,I,Ext.refl,R⟩
theorem wf {sts:List Stmt}(i:Nat) (h:DSs X sts g):DSs X sts (fun δ=>g (frzE i δ)):=by
 intro pins s σ H Dn I hz9;obtain⟨B,Hk,δ,o,R,e,k⟩:=hz9;obtain⟨H',I',x,R'⟩:=R.frzE i I;exact h pins s σ H' Dn I' ⟨B,Hk,_,o,R',e,k.ext x⟩
end
inductive tG (K:PySem.W.Frag) (τ:D->DEnv->Option DEnv) (v:V) (σ:St) (H:Hp) (Q:(St->Hp->Prop)):Prop
 |mk (B:Addr->Prop) (Hk:Hp) (δ:DEnv) (d:D) (δ':DEnv) (a_:Rel K B Hk δ σ H) (b_:Rep K B H d v) (c_:τ d δ=some δ') (d_:∀σ',Rel K B Hk δ' σ' H->Q σ' H):tG K τ v σ H Q
inductive tGs (K:PySem.W.Frag) (τ:List D->DEnv->Option DEnv) (vs:List V) (σ:St) (H:Hp) (Q:(St->Hp->Prop)):Prop
 |mk (B:Addr->Prop) (Hk:Hp) (δ:DEnv) (ds:List D) (δ':DEnv) (a_:Rel K B Hk δ σ H) (b_:Reps K B H ds vs) (c_:τ ds δ=some δ') (d_:∀σ',Rel K B Hk δ' σ' H->Q σ' H):tGs K τ vs σ H Q
noncomputable abbrev DG (X:Cx) (tg:Expr) (τ:D->DEnv->Option DEnv):Prop:=PG X tg (tG X.K τ)
noncomputable abbrev DGs (X:Cx) (tg:List Expr) (τ:List D->DEnv->Option DEnv):Prop:=PGs X tg (tGs X.K τ)
noncomputable def ae (i:Nat) (d:D) (δ:DEnv):Option DEnv:=if i<δ.length then some (δ.set i (some (d,false))) else none
noncomputable def toNil (ds:List D) (δ:DEnv):Option DEnv:=match ds with|[]=>some δ|_=>none
noncomputable def aj (τ:D->DEnv->Option DEnv) (υ:List D->DEnv->Option DEnv) (ds:List D) (δ:DEnv):Option DEnv:=match ds with|d::r=>ac (τ d δ) (υ r)|[]=>none
noncomputable def aP (υ:List D->DEnv->Option DEnv) (d:D) (δ:DEnv):Option DEnv:=match d with|.tup ds=>υ ds δ|_=>none
theorem PG.imp {X:Cx}{tg:Expr}{t t':TG}(h:PG X tg t) (i:∀v σ H Q,t' v σ H Q->t v σ H Q):PG X tg t':=fun pins s σ H v u Q I r q=>h pins s σ H v u Q I r (i v σ H Q q)
theorem PGs.imp {X:Cx}{tg:List Expr}{t t':TGs}(h:PGs X tg t) (i:∀v σ H Q,t' v σ H Q->t v σ H Q):PGs X tg t':=fun pins s σ H v u Q I r q=>h pins s σ H v u Q I r (i v σ H Q q)
section
variable{X:Cx}{pos:Pos}
theorem wu {i:Nat}{x:Str}(hN:X.N.Nodup) (hi:X.N[i]?=some x:=by rfl) (hx:Loc X.env.scope x:=by first|exact Or.inl rfl|exact Or.inr rfl) (hf:X.fn x=true\/X.env.scope.names.lookup x=some .local:=by first|exact .inl rfl|exact .inr rfl):DG X (.Name x pos) (ae i):=
 (lD hN hi hx hf).imp fun v σ H Q hz=>by
  obtain⟨B,Hk,δ,d,δ',R,r,e,k⟩:=hz;unfold ae at e
  by_cases q:i<δ.length
  ·rw[Zm q]at e;obtain rfl:=Zb e
   exact k _ (R.set (by rw[<-R.len];exact q) r)
  ·rw[Zo q]at e;contradiction
theorem wJ:DGs X [] toNil:=wN.imp fun v σ H Q hz=>by
 obtain⟨B,Hk,δ,ds,δ',R,r,e,k⟩:=hz;cases ds with
 |nil=>simp only[toNil]at e;obtain rfl:=Zb e;simp only[Reps]at r;exact⟨r,k σ R⟩
 |cons d ds=>simp only[toNil]at e;contradiction
theorem t5 {e:Expr}{es:List Expr}{τ:D->DEnv->Option DEnv}{υ:List D->DEnv->Option DEnv}(h1:DG X e τ) (h2:DGs X es υ) (hs:(assignEach (e::es) X.env).map (·.2)=assign e X.env::(assignEach es X.env).map (·.2):=by rfl):DGs X (e::es) (aj τ υ):=
 (sV h1 h2 hs).imp fun v σ H Q hz=>by
  obtain⟨B,Hk,δ,ds,δ',R,r,e,k⟩:=hz;cases ds with
  |nil=>simp only[aj]at e;contradiction
  |cons d ds=>
   simp only[aj]at e;obtain⟨δ1,e1,e2⟩:=ak e;simp only[Reps]at r;obtain⟨x,xs,rfl,r1,r2⟩:=r;exact⟨x,xs,rfl,B,Hk,δ,d,δ1,R,r1,e1,fun σ1 R1=>⟨B,Hk,δ1,ds,δ',R1,r2,e2,k⟩⟩
theorem bi {τ:D->DEnv->Option DEnv}{υ:List D->DEnv->Option DEnv}{n:Nat}(h:∀ds δ δ',υ ds δ=some δ'->ds.length=n) (ds:List D) (δ δ':DEnv) (e:aj τ υ ds δ=some δ'):ds.length=n+1:=by
 cases ds with
 |nil=>simp only[aj]at e;contradiction
 |cons d ds=>
  simp only[aj]at e;obtain⟨δ1,_,e2⟩:=ak e;rw[List.length_cons,h _ _ _ e2]
theorem fo (ds:List D) (δ δ':DEnv) (e:toNil ds δ=some δ'):ds.length=0:=by
 cases ds with
 |nil=>rfl
 |cons d ds=>simp only[toNil]at e;contradiction
theorem yG {es:List Expr}{k:Nat}{υ:List D->DEnv->Option DEnv}{n:Nat}(hc:X.calm=true) (h:DGs X es υ) (hl:∀ds δ δ',υ ds δ=some δ'->ds.length=n)
  (hn:(assignEach es X.env).length=n:=by rfl) (hst:(assignEach es X.env).findIdx? (·.1)=none:=by rfl):DG X (.Tuple es k pos) (aP υ):=
 (yB hc h hn hst).imp fun v σ H Q hz=>by
  obtain⟨B,Hk,δ,d,δ',R,r,e,k⟩:=hz;cases d with
  |tup ds=>
   simp only[aP]at e;simp only[Rep]at r;obtain⟨a,xs,rfl,hq,rs⟩:=r;exact⟨a,xs,rfl,SqT.of hq,by rw[<-rs.length];exact hl _ _ _ e,B,Hk,δ,ds,δ',R,rs,e,k⟩
  |_=>simp only[aP]at e;contradiction
end
noncomputable def aV (δ:DEnv):Prop:=∀(i:Nat) d,δ[i]?≠some (some (d,true))
structure Anew (τ:D->DEnv->Option DEnv):Prop where
 new:∀d d' δ δ',τ d δ=some δ'->τ d' δ'=τ d' δ
 own:∀d δ δ',τ d δ=some δ'->aV δ->aV δ'
theorem eA {δ:DEnv}{i:Nat}{d:D}(h:aV δ):aV (δ.set i (some (d,false))):=fun j e q=>by
 by_cases hj:i=j
 ·subst hj
  rw[List.getElem?_set]at q
  simp at q
 ·rw[Zl hj]at q
  exact h j e q
theorem iz (i:Nat):∀d δ δ',ae i d δ=some δ'->aV δ->aV δ':=fun d δ δ' h n=>by
 unfold ae at h
 by_cases q:i<δ.length
 ·rw[Zm q]at h;obtain rfl:=Zb h;exact eA n
 ·rw[Zo q]at h;contradiction
theorem xf:∀ds δ δ',toNil ds δ=some δ'->aV δ->aV δ':=fun ds δ δ' h n=>by
 cases ds with
 |nil=>simp only[toNil]at h;obtain rfl:=Zb h;exact n
 |cons d ds=>simp only[toNil]at h;contradiction
theorem mi {τ:D->DEnv->Option DEnv}{υ:List D->DEnv->Option DEnv}(h1:∀d δ δ',τ d δ=some δ'->aV δ->aV δ') (h2:∀ds δ δ',υ ds δ=some δ'->aV δ->aV δ'):∀ds δ δ',aj τ υ ds δ=some δ'->aV δ->aV δ':=fun ds δ δ' h n=>by
 cases ds with
 |nil=>simp only[aj]at h;contradiction
 |cons d ds=>
  simp only[aj]at h;obtain⟨δ1,e1,e2⟩:=ak h;exact h2 _ _ _ e2 (h1 _ _ _ e1 n)
theorem xT {υ:List D->DEnv->Option DEnv}(h2:∀ds δ δ',υ ds δ=some δ'->aV δ->aV δ'):∀d δ δ',aP υ d δ=some δ'->aV δ->aV δ':=fun d δ δ' h n=>by
 cases d with
 |tup ds=>exact h2 ds δ δ' h n
 |_=>simp only[aP]at h;contradiction
theorem fz (i:Nat):Anew (ae i):=Anew.mk (own:=iz i)<|fun d d' δ δ' h=>by
 unfold ae at h⊢
 by_cases q:i<δ.length
 ·rw[Zm q]at h;obtain rfl:=Zb h
  rw[ZJ,Zm q,Zm q,List.set_set]
 ·rw[Zo q]at h;contradiction
theorem qX (i j:Nat) (hij:i≠j):Anew (aP (aj (ae i) (aj (ae j) toNil))):=Anew.mk (own:=xT (mi (iz i) (mi (iz j) xf)))<|fun d d' δ δ' h=>by
 cases d with
 |tup ds=>
  cases ds with
  |nil=>simp only[aP,aj]at h;contradiction
  |cons a ds=>
   cases ds with
   |nil=>simp only[aP,aj]at h;obtain⟨_,_,h⟩:=ak h;contradiction
   |cons b ds=>
    cases ds with
    |cons c ds=>simp only[aP,aj]at h;obtain⟨_,_,h⟩:=ak h;obtain⟨_,_,h⟩:=ak h;simp only[toNil]at h;contradiction
    |nil=>
     simp only[aP,aj]at h;obtain⟨δ1,h1,h⟩:=ak h;obtain⟨δ2,h2,h⟩:=ak h;simp only[toNil]at h;obtain rfl:=Zb h;unfold ae at h1
     by_cases qi:i<δ.length
     ·rw[Zm qi]at h1;obtain rfl:=Zb h1
      unfold ae at h2
      by_cases qj:j<(δ.set i (some (a,false))).length
      ·rw[Zm qj]at h2;obtain rfl:=Zb h2
       rw[ZJ]at qj;cases d' with
       |tup es=>
        cases es with
        |nil=>rfl
        |cons a' es=>
         cases es with
         |nil=>
          simp only[aP,aj,ae,ZJ];rw[Zm qi,Zm qi];rfl
         |cons b' es=>
          have e3:(((List.set δ i (some (a,false))).set j (some (b,false))).set i (some (a',false))).set j (some (b',false))=(List.set δ i (some (a',false))).set j (some (b',false)):=by
           rw[List.set_comm _ _ hij.symm,List.set_set,List.set_set]
          simp only[aP,aj,ae,ZJ];rw[Zm qi,Zm qi];simp only[ac,aj,ae,ZJ];rw[Zm qj,Zm qj,e3]
       |_=>rfl
      ·rw[Zo qj]at h2;contradiction
     ·rw[Zo qi]at h1;contradiction
 |_=>simp only[aP]at h;contradiction
noncomputable def ItD (K:PySem.W.Frag) (B:Addr->Prop) (H1:Hp) (J:It) (ds:List D):Prop:=∀H',Ext B H1 H'->J.stop ds.length H'/\∀(i:Nat) d,ds[i]?=some d->J.go i H'/\∀x H'',J.yld i H' x H''->Same H' H''/\Rep K B H'' d x
inductive tI (K:PySem.W.Frag) (m:Bool) (f:DEnv->Option (List D)) (σ:St) (H:Hp) (R:(It->Hp->Prop)):Prop
 |mk (B:Addr->Prop) (Hk:Hp) (δ:DEnv) (ds:List D) (a_:Rel K B Hk δ σ H) (b_:f δ=some ds) (c_:∀J H1,Same H H1->ItD K (aT m B δ σ) H1 J ds->R J H1):tI K m f σ H R
noncomputable abbrev DI (X:Cx) (m:Bool) (tg iter:Expr) (f:DEnv->Option (List D)):Prop:=PI X tg iter (tI X.K m f)
noncomputable def b8 (x:Option D):Option (List D):=match x with|some (.lst ds)=>some ds|_=>none
noncomputable def qZ (x:Option D):Option (List D):=match x with|some (.tup ds)=>some ds|_=>none
theorem jx {x:Option D}{ds:List D}(h:b8 x=some ds):x=some (.lst ds):=by
 unfold b8 at h;split at h
 ·obtain rfl:=Zb h;rfl
 ·contradiction
theorem iO {x:Option D}{ds:List D}(h:qZ x=some ds):x=some (.tup ds):=by
 unfold qZ at h;split at h
 ·obtain rfl:=Zb h;rfl
 ·contradiction
noncomputable def f9 (lo:Int) (n:Nat):List D:=(List.range n).map fun(i:Nat)=>.int (lo+(i:Int))
section
variable{X:Cx}{m m' mm:Bool}{a b tg:Expr}{fa fb:DEnv->Option D}{pos p:Pos}
theorem kI (h:DE X m a fa):DI X m tg a (fun δ=>b8 (fa δ)):=
 (rh h).imp fun σ H Q hz=>by
  obtain⟨B,Hk,δ,ds,R,e,k⟩:=hz;refine⟨B,Hk,δ,_,R,jx e,fun v H' s r=>?_⟩
  simp only[Rep]at r;obtain⟨l,xs,rfl,hq,rs⟩:=r;refine⟨l,rfl,⟨xs,hq.sq⟩,k _ H' s fun H2 x=>?_⟩
  have hq2:=hq.ext x;have rs2:=rs.ext x;refine⟨⟨xs,hq2.sq,by rw[rs.length];exact Zk _⟩,fun i d hd=>?_⟩
  obtain⟨y,hy,ry⟩:=rs2.get hd;refine⟨⟨xs,y,hq2.sq,hy⟩,fun z H3 ⟨e3,hz⟩=>⟨by rw[e3];exact Same.refl _,?_⟩⟩
  rw[e3];have:=hz xs hq2.sq;rw[hy]at this;obtain rfl:=Zb this;exact ry
theorem Ao (h:DE X m a fa):DI X m tg a (fun δ=>qZ (fa δ)):=
 (zS h).imp fun σ H Q hz=>by
  obtain⟨B,Hk,δ,ds,R,e,k⟩:=hz;refine⟨B,Hk,δ,_,R,iO e,fun v H' s r=>?_⟩
  simp only[Rep]at r;obtain⟨l,xs,rfl,hq,rs⟩:=r;refine⟨l,rfl,⟨xs,SqT.of hq⟩,k _ H' s fun H2 x=>?_⟩
  have hq2:SqT X.K H2 l xs:=SqT.of (x.tups _ _ hq);have rs2:=rs.ext x;refine⟨⟨xs,hq2,by rw[rs.length];exact Zk _⟩,fun i d hd=>?_⟩
  obtain⟨y,hy,ry⟩:=rs2.get hd;refine⟨⟨xs,y,hq2,hy⟩,fun z H3 ⟨e3,hz⟩=>⟨by rw[e3];exact Same.refl _,?_⟩⟩
  rw[e3];have:=hz xs hq2;rw[hy]at this;obtain rfl:=Zb this;exact ry
theorem ye {K:PySem.W.Frag}{B:Addr->Prop}{H1:Hp}(lo:Int) (n:Nat):ItD K B H1 (Itr lo n) (f9 lo n):=fun H' x=>by
 refine⟨by show n<=(f9 lo n).length;unfold f9;simp,fun i d hd=>?_⟩
 unfold f9 at hd;rw[YT]at hd
 cases q:(List.range n)[i]? with
 |none=>rw[q]at hd;contradiction
 |some j=>
  rw[q]at hd;obtain⟨hi,ej⟩:=List.getElem?_eq_some_iff.mp q
  rw[List.getElem_range]at ej;subst ej;rw[YD]at hi;simp only[Option.map_some,ZG]at hd;subst hd;refine⟨hi,fun z H3 ⟨e3,hz⟩=>⟨by rw[e3];exact Same.refl _,?_⟩⟩
  simp only[Rep];exact hz
noncomputable def oM (x:Option D):Option (List D):=match x with|some (.int j)=>if(decide (-(2 ^ 62)<=j/\j<2 ^ 62))=true then some (f9 0 j.toNat) else none|_=>none
set_option tactic.hygienic true in
theorem wl (g:Gl X "range") (hm:X.mg "range"=none) (h:DE X m a fa) (hs:starEach [a] X.env=[(false,eval a X.env)]:=by rfl):DI X mm tg (.Call (.Name "range" p) [a] [] pos) (fun δ=>oM (fa δ)):=
 (ph g hm (ar h aH hs) hs).imp fun σ H Q hz=>by
  obtain⟨B,Hk,δ,ds,R,e,k⟩:=hz;unfold oM at e;split at e
  ·rename_i j q
   by_cases c:(decide (-(2 ^ 62)<=j/\j<2 ^ 62))=true
   ·rw[Zm c]at e;obtain rfl:=Zb e
    have c':=ZF c;refine kN R q fun v H' s R' r=>?_
    simp only[Rep]at r;subst r;exact⟨j,rfl,c'.1,c'.2,k _ H' s (ye 0 _)⟩
   ·rw[Zo c]at e;contradiction
  ·contradiction
end
noncomputable def aw (body:D->DEnv->Option Out):List D->DEnv->Option Out
 |[],δ=>some (.next δ)
 |d::ds,δ=>match body d δ with
  |some (.next δ')=>aw body ds δ'
  |some (.cont δ')=>aw body ds δ'
  |some (.brk δ')=>some (.next δ')
  |some (.ret e fr)=>some (.ret e fr)
  |none=>none
section
variable{X:Cx}{tg iter:Expr}{body:List Stmt}{fi:DEnv->Option (List D)}{τ:D->DEnv->Option DEnv}{gb:DEnv->Option Out}{pos:Pos}
theorem Ax (hp:PassesOwn (model X.prog X.w) X.A X.env X.xe) (hc:X.calm=true) (hi:DI X false tg iter fi) (hg:DG X tg τ) (hb:DSs X body gb) (hs:∀x,foldedSetIterable iter X.env x=pure x:=by intro _;rfl):
  DS X (.For tg iter body [] pos) (fun δ=>ac (fi δ) fun ds=>aw (fun d δ=>ac (τ d δ) gb) ds δ):=
 (vg hp hc hi hg hb hs).imp fun Dn σ H hz=>by
  obtain⟨B,Hk,δ,o,R,e,k⟩:=hz;obtain⟨ds,e1,e2⟩:=ak e;refine⟨B,Hk,δ,ds,R,e1,fun J H1 s1 it=>?_⟩
  have it':ItD X.K B H1 J ds:=it;refine⟨fun i n σ' H'=>n=ds.length - i/\i<=ds.length/\Ext B H1 H'/\∃δ',Rel X.K B Hk δ' σ' H'/\aw (fun d δ=>ac (τ d δ) gb) (ds.drop i) δ'=some o,
   ⟨ds.length,by simp,ZK _,Ext.refl,δ,R.to s1,e2⟩,?_⟩
  rintro i n σ' H' hz9
  obtain⟨rfl,hi,x,δ',R',e'⟩:=hz9;obtain⟨hst,hgo⟩:=it' H' x
  by_cases hlt:i<ds.length
  ·obtain⟨go,yl⟩:=hgo i ds[i] (by simp[hlt])
   refine .inr ⟨go,fun σ2 H2=>Ext B H1 H2/\∃δ2,Rel X.K B Hk δ2 σ2 H2/\aw (fun d δ=>ac (τ d δ) gb) (ds.drop (i+1)) δ2=some o,fun σ2 H2 z=>⟨_,by lia,rfl,hlt,z⟩,fun v H2 hy=>?_⟩
   obtain⟨sy,rv⟩:=yl v H2 hy
   replace x:=x.trans (R'.ext sy)
   replace R':=R'.to sy
   rw[ZV hlt]at e';simp only[aw]at e';cases q:ac (τ ds[i] δ') gb with
   |none=>rw[q]at e';contradiction
   |some o1=>
    rw[q]at e';obtain⟨δ1,q1,q2⟩:=ak q;refine⟨B,Hk,δ',ds[i],δ1,R',rv,q1,fun σ3 R3=>⟨B,Hk,δ1,o1,R3,q2,?_⟩⟩
    have kx:=k.ext (R.ext s1);cases o1 with
    |next δ3=>exact fun σ4 H4 x4 R4=>⟨x.trans x4,δ3,R4,e'⟩
    |cont δ3=>exact fun σ4 H4 x4 R4=>⟨x.trans x4,δ3,R4,e'⟩
    |brk δ3=>simp only at e';obtain rfl:=Zb e';exact fun σ4 H4 x4 R4=>kx σ4 H4 (x.trans x4) R4
    |ret d fr=>simp only at e';obtain rfl:=Zb e';exact fun v4 H4 x4 R4=>kx v4 H4 (x.trans x4) R4
  ·have hi':i=ds.length:=by lia
   subst hi';rw[List.drop_length]at e';simp only[aw]at e';obtain rfl:=Zb e';exact .inl ⟨hst,k σ' H' ((R.ext s1).trans x) R'⟩
end
noncomputable def aX (h:D->Option (Option D)):List D->Option (List D)
 |[]=>some []
 |d::ds=>match h d with
  |none=>none
  |some none=>aX h ds
  |some (some y)=>match aX h ds with
   |some l=>some (y::l)
   |none=>none
noncomputable def aB (bo:Bool) (bs:List Bool) (δ:DEnv):DEnv:=List.zipWith (fun(b:Bool) (o:Option (D×Bool))=>if b=true then(match o with|some (d,ow)=>if(ow&&!bo)=true then none else some (d,false)|none=>none) else none) bs δ
theorem cq {bo:Bool}{bs:List Bool}{δ:DEnv}{i:Nat}{d:D}{ow:Bool}(h:(aB bo bs δ)[i]?=some (some (d,ow))):bs[i]?=some true/\ow=false/\rd bo i δ=some d:=by
 unfold aB at h;rw[List.getElem?_zipWith]at h
 cases e1:bs[i]? with
 |none=>rw[e1]at h;simp at h
 |some b=>
  cases e2:δ[i]? with
  |none=>rw[e1,e2]at h;simp at h
  |some o=>
   rw[e1,e2]at h;simp only[ZG]at h;cases b with
   |false=>simp at h
   |true=>
    rw[Zm rfl]at h;cases o with
    |none=>contradiction
    |some q=>
     obtain⟨d',ow'⟩:=q;simp only at h
     by_cases c:(ow'&&!bo)=true
     ·rw[Zm c]at h;contradiction
     ·rw[Zo c]at h;cases h
      exact⟨rfl,rfl,by unfold rd;rw[e2];simp only[Zo c]⟩
theorem iX {K:PySem.W.Frag}{B:Addr->Prop}{Hk H:Hp}{δ:DEnv}{σ:St}{bo:Bool}{bs:List Bool}(R:Rel K B Hk δ σ H) (hl:bs.length=σ.length):Rel K (aT bo B δ σ) H (aB bo bs δ) (oC bs σ) H:=by
 refine⟨Same.refl H,R.bsH bo,?_,fun i d h=>?_,fun i d h=>?_,fun i j d e a hij h=>?_⟩
 ·unfold aB;rw[List.length_zipWith,cN hl,R.len,hl,Nat.min_self]
 ·obtain⟨h1,_,h3⟩:=cq h
  obtain⟨v,h4,h5⟩:=R.rd h3;refine⟨v,?_,h5⟩
  unfold oC;rw[List.getElem?_zipWith,h1,h4]
  simp
 ·obtain⟨_,h2,_⟩:=cq h
  contradiction
 ·obtain⟨_,h2,_⟩:=cq h
  contradiction
noncomputable def ao (x:Option (List D)):Option D:=match x with|some ds=>some (.lst ds)|none=>none
section
variable{X:Cx}{elt tg iter:Expr}{ifs:List Expr}{scope:Scope}{pos:Pos}{bo:Bool}{fi:DEnv->Option (List D)}{τ:D->DEnv->Option DEnv}{ft:DEnv->Option Bool}{fe:DEnv->Option D}{bs:List Bool}
noncomputable abbrev DTs (X:Cx) (ifs:List Expr) (f:DEnv->Option Bool):Prop:=PTs X ifs (tMT X.K f)
theorem j6 {X:Cx}:DTs X [] (fun y=>some true):=fun pins s σ H Q I hz=>by obtain⟨B,Hk,δ,d,R,e,k⟩:=hz;obtain rfl:=Zb e;exact xL pins s σ H Q I (k H (Same.refl H))
theorem o8 {X:Cx}{c:Expr}{f:DEnv->Option Bool}(h:DT X c f):DTs X [c] f:=wK h
noncomputable def aI (τ:D->DEnv->Option DEnv) (ft:DEnv->Option Bool) (fe:DEnv->Option D) (δ:DEnv) (d:D):Option (Option D):=ac (τ d δ) fun δ'=>match ft δ' with|some true=>(match fe δ' with|some y=>some (some y)|none=>none)|some false=>some none|none=>none
noncomputable def bt (bo:Bool) (bs:List Bool) (τ:D->DEnv->Option DEnv) (ft:DEnv->Option Bool) (fe:DEnv->Option D) (δ:DEnv) (ds:List D):Option (List D):=if ds.length<=lim then aX (aI τ ft fe (aB bo bs δ)) ds else none
set_option tactic.hygienic true in
theorem jm {K:PySem.W.Frag}{σ:St}{H:Hp}{Q:VK}(hτ:Anew τ) (hl:bs.length=σ.length) {B:Addr->Prop}{Hk:Hp}{δ:DEnv}{ds ls:List D}(R:Rel K B Hk δ σ H) (e1:fi δ=some ds) (e2:bt bo bs τ ft fe δ ds=some ls)
  (k:∀a H',Same H H'->H a=none->(∃xs,H' a=some (.lst xs)/\Reps K (aT bo B δ σ) H' ls xs)->Q (.ref a) H'):sS (tI K bo fi) bs (tG K τ) (tMT K ft) (tM K false fe) σ H Q:=by
 unfold bt at e2
 by_cases hlim:ds.length<=lim
 ·rw[Zm hlim]at e2
  refine⟨B,Hk,δ,ds,R,e1,fun J H1 s1 it acc hacc=>?_⟩
  have R1:=R.to s1;have nb:¬aT bo B δ σ acc:=fun z=>by obtain⟨o,q⟩:=R1.bsH bo acc z;rw[hacc]at q;contradiction
  have R2:Rel K (aT bo B δ σ) H1 (aB bo bs δ) (oC bs σ) (upd H1 acc (.lst [])):=(iX (bo:=bo) (bs:=bs) R1 hl).to (am hacc);have no0:aV (aB bo bs δ):=fun j d h=>by obtain⟨_,h2,_⟩:=cq h;contradiction
  have x0:Ext (aT bo B δ σ) H1 (upd H1 acc (.lst [])):=(am hacc).ext (R1.bsH bo);refine⟨fun i n ys σ' H'=>n=ds.length - i/\i<=ds.length/\ys.length<=i/\H' acc=some (.lst ys)/\Ext (aT bo B δ σ) H1 H'/\∃δ' l1 l2,Rel K (aT bo B δ σ) H1 δ' σ' H'/\(∀d,τ d δ'=τ d (aB bo bs δ))/\aV δ'/\ls=l1++l2/\Reps K (aT bo B δ σ) H' l1 ys/\aX (aI τ ft fe (aB bo bs δ)) (ds.drop i)=some l2,
   ⟨ds.length,by simp,ZK _,Zk _,af,x0,aB bo bs δ,[],ls,R2,fun u=>rfl,no0,rfl,Reps.nil,e2⟩,?_⟩
  rintro i n ys σ' H' hz9
  obtain⟨rfl,hi,hys,ha,x,δ',l1,l2,R',hd',nw',hls,rs,ec⟩:=hz9;refine⟨ha,?_⟩
  obtain⟨hst,hgo⟩:=it H' x
  by_cases hlt:i<ds.length
  ·obtain⟨go,yl⟩:=hgo i ds[i] (by simp[hlt])
   refine .inr ⟨go,fun v H2 hy=>?_⟩
   obtain⟨sy,rv⟩:=yl v H2 hy;have xy:=R'.ext sy
   replace ha:=sy acc _ ha
   replace rs:=rs.ext xy
   replace x:=x.trans xy
   replace R':=R'.to sy
   rw[ZV hlt]at ec;simp only[aX]at ec;cases q:aI τ ft fe (aB bo bs δ) ds[i]with
   |none=>rw[q]at ec;contradiction
   |some oy=>
    rw[q]at ec;obtain⟨δ1,q1,q2⟩:=ak q;have q1':τ ds[i] δ'=some δ1:=by rw[hd'];exact q1
    have hd1:∀d,τ d δ1=τ d (aB bo bs δ):=fun d=>by rw[hτ.new _ d _ _ q1',hd' d]
    have nw1:aV δ1:=hτ.own _ _ _ q1' nw';refine⟨_,H1,δ',ds[i],δ1,R',rv,q1',fun σ3 R3=>?_⟩
    split at q2
    ·rename_i qt
     refine⟨_,H1,δ1,true,R3,qt,fun H3 s3=>vF ?_⟩
     split at q2
     ·rename_i y qe
      obtain rfl:=Zb q2;simp only at ec;cases qc:aX (aI τ ft fe (aB bo bs δ)) (ds.drop (i+1))with
      |none=>rw[qc]at ec;contradiction
      |some l3=>
       rw[qc]at ec;obtain rfl:=Zb ec;refine⟨_,H1,δ1,y,R3.to s3,qe,fun v4 H4 s4 r4=>?_⟩
       have s34:=s3.trans s4;have ha4:H4 acc=some (.lst ys):=s34 acc _ ha;have x4:Ext (aT bo B δ σ) H2 H4:=R3.ext s34;have rs4:Reps K (aT bo B δ σ) H4 l1 ys:=rs.ext x4;have r4':Rep K (aT bo B δ σ) H4 y v4:=r4;have x5:Ext (aT bo B δ σ) H4 (upd H4 acc (.lst (ys++[v4]))):=bB ha4 trivial nb;have R5:Rel K (aT bo B δ σ) H1 δ1 σ3 (upd H4 acc (.lst (ys++[v4]))):=by
        have R4:=R3.to s34;refine⟨R4.same.put hacc,R4.bor,R4.len,fun j d h=>?_,fun j d h=>?_,R4.dis⟩
        ·obtain⟨v,h1,h2⟩:=R4.var j d h
         exact⟨v,h1,h2.ext x5⟩
        ·obtain⟨c,h1,h2,h3⟩:=R4.own j d h
         exact(nw1 j d h).elim
       refine⟨ha4,by have:=aD hlim;lia,ds.length - (i+1),by lia,rfl,hlt,by rw[ZO,List.length_singleton];lia,af,x.trans (x4.trans x5),δ1,l1++[y],l3,R5,hd1,nw1,by rw[hls,List.append_assoc];rfl,?_,qc⟩
       exact(rs4.ext x5).append (Reps.cons (r4'.ext x5) Reps.nil)
     ·contradiction
    ·rename_i qt
     obtain rfl:=Zb q2;refine⟨_,H1,δ1,false,R3,qt,fun H3 s3=>vq ?_⟩
     exact⟨ds.length - (i+1),by lia,rfl,hlt,by lia,s3 acc _ ha,x.trans (R3.ext s3),δ1,l1,l2,R3.to s3,hd1,nw1,hls,rs.ext (R3.ext s3),ec⟩
    ·contradiction
  ·have hi':i=ds.length:=by lia
   subst hi';rw[List.drop_length]at ec;simp only[aX]at ec;obtain rfl:=Zb ec;rw[Yt]at hls;subst hls;exact .inl ⟨hst,k acc H' (s1.trans R'.same) (s1.free hacc) ⟨ys,ha,rs⟩⟩
 ·rw[Zo hlim]at e2;contradiction
end
section
variable{X:Cx}{elt tg iter:Expr}{ifs:List Expr}{scope:Scope}{pos:Pos}{bo:Bool}{fi:DEnv->Option (List D)}{τ:D->DEnv->Option DEnv}{ft:DEnv->Option Bool}{fe:DEnv->Option D}{bs:List Bool}
theorem qH (hc:X.calm=true) (hτ:Anew τ) (hi:DI X bo tg iter fi) (S:CompScope X scope bs)
  (hg:∀cl C s₂ H₂ ex pn,DG (az X scope cl C s₂ H₂ ex pn) tg τ) (ht:∀cl C s₂ H₂ ex pn,DTs (az X scope cl C s₂ H₂ ex pn) ifs ft) (he:∀cl C s₂ H₂ ex pn,DE (az X scope cl C s₂ H₂ ex pn) false elt fe)
  (hs:∀x,foldedSetIterable iter X.env x=pure x):PE X (.ListComp elt [⟨tg,iter,ifs,0⟩] scope pos) (fun σ H Q=>∃B Hk δ ds ls,Rel X.K B Hk δ σ H/\fi δ=some ds/\bt bo bs τ ft fe δ ds=some ls/\
   ∀a H',Same H H'->H a=none->(∃xs,H' a=some (.lst xs)/\Reps X.K (aT bo B δ σ) H' ls xs)->Q (.ref a) H'):=by
 intro pins s σ H Q I hz9;obtain⟨B,Hk,δ,ds,ls,R,e1,e2,k⟩:=hz9;exact wt hc hi S hg ht he hs pins s σ H Q I (jm hτ (by rw[S.len,I.len]) R e1 e2 k)
theorem pC (hc:X.calm=true) (hτ:Anew τ) (hi:DI X false tg iter fi) (S:CompScope X scope bs)
  (hg:∀cl C s₂ H₂ ex pn,DG (az X scope cl C s₂ H₂ ex pn) tg τ) (ht:∀cl C s₂ H₂ ex pn,DTs (az X scope cl C s₂ H₂ ex pn) ifs ft) (he:∀cl C s₂ H₂ ex pn,DE (az X scope cl C s₂ H₂ ex pn) false elt fe)
  (hs:∀x,foldedSetIterable iter X.env x=pure x:=by intro _;rfl):DF X (.ListComp elt [⟨tg,iter,ifs,0⟩] scope pos) (fun δ=>ao (ac (fi δ) (bt false bs τ ft fe δ))):=
 (qH hc hτ hi S hg ht he hs).imp fun σ H Q hz=>by
  obtain⟨B,Hk,δ,d,R,e,k⟩:=hz;cases q:ac (fi δ) (bt false bs τ ft fe δ)with
  |none=>simp only[q,ao]at e;contradiction
  |some ls=>
   simp only[q,ao]at e;obtain rfl:=Zb e;obtain⟨ds,e1,e2⟩:=ak q;exact⟨B,Hk,δ,ds,ls,R,e1,e2,fun a H' s n ob=>k a H' s n ob⟩
noncomputable def fX (x:Option (List D)):Option (List D):=match x with|some ds=>if D.flats ds=true then some ds else none|none=>none
theorem kg {x:Option (List D)}{ds:List D}(h:fX x=some ds):x=some ds/\D.flats ds=true:=by
 unfold fX at h;cases x with
 |none=>contradiction
 |some e=>
  simp only at h
  by_cases q:D.flats e=true
  ·rw[Zm q]at h;obtain rfl:=Zb h;exact⟨rfl,q⟩
  ·rw[Zo q]at h;contradiction
theorem mP (hc:X.calm=true) (hτ:Anew τ) (hi:DI X true tg iter fi) (S:CompScope X scope bs)
  (hg:∀cl C s₂ H₂ ex pn,DG (az X scope cl C s₂ H₂ ex pn) tg τ) (ht:∀cl C s₂ H₂ ex pn,DTs (az X scope cl C s₂ H₂ ex pn) ifs ft) (he:∀cl C s₂ H₂ ex pn,DE (az X scope cl C s₂ H₂ ex pn) false elt fe)
  (hs:∀x,foldedSetIterable iter X.env x=pure x:=by intro _;rfl):DF X (.ListComp elt [⟨tg,iter,ifs,0⟩] scope pos) (fun δ=>ao (fX (ac (fi δ) (bt true bs τ ft fe δ)))):=
 (qH hc hτ hi S hg ht he hs).imp fun σ H Q hz=>by
  obtain⟨B,Hk,δ,d,R,e,k⟩:=hz;cases q:fX (ac (fi δ) (bt true bs τ ft fe δ))with
  |none=>simp only[q,ao]at e;contradiction
  |some ls=>
   simp only[q,ao]at e;obtain rfl:=Zb e;obtain⟨q1,q2⟩:=kg q;obtain⟨ds,e1,e2⟩:=ak q1;exact⟨B,Hk,δ,ds,ls,R,e1,e2,fun a H' s n hz=>by obtain⟨xs,h1,h2⟩:=hz;exact k a H' s n ⟨xs,h1,Reps.flat q2 h2⟩⟩
theorem xX {i:Nat}{y:Str}{py spos:Pos}(hN:X.N.Nodup) (hc:X.calm=true) (hτ:Anew τ) (hi:DI X false tg iter fi) (S:CompScope X scope bs)
  (hg:∀cl C s₂ H₂ ex pn,DG (az X scope cl C s₂ H₂ ex pn) tg τ) (ht:∀cl C s₂ H₂ ex pn,DTs (az X scope cl C s₂ H₂ ex pn) ifs ft) (he:∀cl C s₂ H₂ ex pn,DE (az X scope cl C s₂ H₂ ex pn) false elt fe)
  (hiN:X.N[i]?=some y:=by rfl) (hy:X.env.scope.names.lookup y=some .local:=by rfl)
  (hsw:swapsWith (.ListComp elt [⟨tg,iter,ifs,0⟩] scope pos) (some (.Name y py)) spos.line X.env=pure true:=by rfl)
  (hs:∀x,foldedSetIterable iter X.env x=pure x:=by intro _;rfl):DS X (.Assign [.Name y py] (.ListComp elt [⟨tg,iter,ifs,0⟩] scope pos) spos) (fun δ=>dC i (ao (ac (fi δ) (bt false bs τ ft fe δ))) δ):=by
 intro pins s σ H Dn I hz9;obtain⟨B,Hk,δ,o,R,e,k⟩:=hz9;obtain⟨d,ed,hlt,rfl⟩:=jp e;cases q:ac (fi δ) (bt false bs τ ft fe δ)with
 |none=>simp only[q,ao]at ed;contradiction
 |some ls=>
  simp only[q,ao]at ed;obtain rfl:=Zb ed;obtain⟨ds,e1,e2⟩:=ak q;refine oP hc hi S hg ht he hN hiN hy hsw hs pins s σ H Dn I (jm (Q:=fun x H1=>fG i x σ H1 Dn.nx) hτ (by rw[S.len,I.len]) R e1 e2 fun a H' s n ob=>?_)
  refine k _ H' (R.ext s) ((R.to s).setOwn (by rw[<-R.len];exact hlt) (R.same.free n) ob fun j e hj h1 h2=>?_)
  obtain⟨b,h3,_,ob'⟩:=R.own j e h1;rw[h2]at h3;cases h3;obtain⟨o,e'⟩:=ob'.there;rw[n]at e';contradiction
end
noncomputable def bJ (n:Nat) (ds:List D):DEnv:=ds.map (fun d=>some (d,false))++List.replicate (n - ds.length) none
noncomputable def nW (x:Option Out):Option (D×Bool):=match x with|some (.ret d fr)=>some (d,fr)|some (.next _)=>some (.non,false)|_=>none
noncomputable def bp (n np:Nat) (g:DEnv->Option Out) (ds:List D):Option (D×Bool):=if ds.length=np then nW (g (bJ n ds)) else none
theorem eN {K:PySem.W.Frag}{B:Addr->Prop}{H:Hp}{N:List Str}{ds:List D}{vs:List V}(hb:∀a,B a->∃o:HOn,H a=some o.1) (r:Reps K B H ds vs) (hl:ds.length<=N.length):Rel K B H (bJ N.length ds) (b0 N vs) H:=by
 have el:=r.length;have key:∀(i:Nat) d ow,(bJ N.length ds)[i]?=some (some (d,ow))->ow=false/\ds[i]?=some d:=fun i d ow h=>by
  unfold bJ at h
  by_cases hi:i<ds.length
  ·rw[List.getElem?_append_left (by simpa using hi),YT]at h
   cases q:ds[i]? with
   |none=>rw[q]at h;contradiction
   |some e=>rw[q]at h;simp only[Option.map_some,ZG,Prod.mk.injEq]at h;exact⟨h.2.symm,by rw[h.1]⟩
  ·rw[List.getElem?_append_right (by simpa using hi),List.getElem?_replicate]at h
   split at h<;>cases h
 refine⟨Same.refl H,hb,?_,fun i d h=>?_,fun i d h=>?_,fun i j d e a y h=>?_⟩
 ·unfold bJ b0
  simp only[ZO,Zn,List.length_replicate]
  lia
 ·obtain⟨_,h2⟩:=key i d _ h
  obtain⟨v,h3,h4⟩:=r.get h2;refine⟨v,?_,h4⟩
  have hi:i<vs.length:=(List.getElem?_eq_some_iff.mp h3).1
  unfold b0;rw[List.getElem?_append_left (by simpa using hi),YT,h3]
  rfl
 ·have:=(key i d _ h).1;contradiction
 ·have:=(key i d _ h).1;contradiction
section
variable{P:Program}{w:World}{K:PySem.W.Frag}{mg:Str->Option Value}{base:Heap}
theorem zV {x qual:Str}{st:Stmt}{f:Addr}{fd:FuncData}{N ps:List Str}{k:Nat}{g:DEnv->Option Out}(F:Fun K x qual st f fd) (S:FnScope N ps (aq st)) (hb:Binds K fd ps []) (hm:mg x=some (.ref f)) (hn:ps.length<=N.length)
  (body:∀(cdv:Value) (A:Around) (outer:List Env) (s:Shared) (H:Hp) (E:XK),Room k (A.deeper (envOfC qual (aq st) s.heap.objs.size f cdv))->DSs (kD CX0 P w K mg base N qual (aq st) f cdv A outer s H E).nox (aM st) g):
  FnOk P w K mg base CX0 (k+1) f fd ps (spM K (bp N.length ps.length g))/\FnM P w K mg base (k+1) x (bp N.length ps.length g):=by
 have key:FnOk P w K mg base CX0 (k+1) f fd ps (spM K (bp N.length ps.length g)):=by
  refine F.ok S (fun vs H Q E h=>?_) (fun cdv A outer s H vs Q E hr h=>?_)
  ·obtain⟨B,ds,r,fr,_,hr,hf,_⟩:=h
   unfold bp at hf
   by_cases q:ds.length=ps.length
   ·rw[<-hr.length,q]
   ·rw[Zo q]at hf;contradiction
  ·obtain⟨B,ds,r,fr,hB,hrs,hf,kk⟩:=h
   refine⟨_,body cdv A outer s H E hr,?_⟩
   unfold bp at hf
   by_cases q:ds.length=ps.length
   ·rw[Zm q]at hf
    have R:Rel K B H (bJ N.length ds) (b0 N vs) H:=eN hB hrs (by lia)
    cases qo:g (bJ N.length ds)with
    |none=>rw[qo]at hf;contradiction
    |some o=>
     rw[qo]at hf;refine⟨B,H,bJ N.length ds,o,R,by first|exact qo|rfl,?_⟩
     cases o with
     |ret d fr'=>
      simp only[nW,ZG,Prod.mk.injEq]at hf;obtain⟨rfl,rfl⟩:=hf;exact fun v H' x s rr=>kk v H' s rr
     |next δ=>
      simp only[nW,ZG,Prod.mk.injEq]at hf;obtain⟨rfl,rfl⟩:=hf;exact fun σ' H' x R'=>kk .non H' R'.same (by unfold kP;rw[Zo ZE];simp only[Rep])
     |brk δ=>simp only[nW]at hf;contradiction
     |cont δ=>simp only[nW]at hf;contradiction
   ·rw[Zo q]at hf;contradiction
 exact⟨key,⟨f,fd,ps,key,hm,F.kp,hb⟩⟩
end
noncomputable def mG {α:Type}:List α->List Bool->List α
 |x::xs,b::bs=>if b=true then x::mG xs bs else mG xs bs
 |_,_=>[]
theorem tw {α:Type}(bs:List Bool):mG ([]:List α) bs=[]:=by unfold mG;rfl
theorem wy {α:Type}{xs:List α}{bs:List Bool}{i:Nat}{b:Bool}(h:i<xs.length) (hb:bs[i]?=some b):mG (xs.drop i) (bs.drop i)=if b=true then xs[i]::mG (xs.drop (i+1)) (bs.drop (i+1)) else mG (xs.drop (i+1)) (bs.drop (i+1)):=by
 obtain⟨h2,e⟩:=List.getElem?_eq_some_iff.mp hb
 rw[ZV h,ZV h2,e];rw[mG]
theorem pE {K:PySem.W.Frag}{σ:St}{H:Hp}{Q:VK}{r j:Nat}{bs bl:List Bool}{ft:DEnv->Option Bool}{B:Addr->Prop}{Hk:Hp}{δ:DEnv}{ds:List D}(hl:bs.length=σ.length) (R:Rel K B Hk δ σ H) (hr:δ[r]?=some (some (.lst ds,true))) (hj:j<σ.length)
  (hbl:bl.length=ds.length) (hlim:ds.length<=lim) (hft:∀(i:Nat) d b,ds[i]?=some d->bl[i]?=some b->ft ((aB true bs δ).set j (some (d,false)))=some b)
  (k:∀l xs a H',σ[r]?=some (some (.ref l))->H l=some (.lst xs)->Reps K B H ds xs->Same H H'->H a=none->H' a=some (.lst (mG xs bl))->Q (.ref a) H'):
  sS (zi K (sd r)) bs (fG j) (tMT K ft) (sd j) σ H Q:=by
 obtain⟨l,h1,h2,xs,h3,h4⟩:=R.own r _ hr;have hlen:=h4.length;refine⟨.ref l,h1,l,rfl,⟨xs,.inl (.inl h3)⟩,fun acc hacc=>?_⟩
 have nb:¬aT true B δ σ acc:=fun z=>by obtain⟨o,q⟩:=R.bsH true acc z;rw[hacc]at q;contradiction
 have R2:Rel K (aT true B δ σ) H (aB true bs δ) (oC bs σ) (upd H acc (.lst [])):=(iX (bo:=true) (bs:=bs) R hl).to (am hacc);have no0:aV (aB true bs δ):=fun j d h=>by obtain⟨_,h2,_⟩:=cq h;contradiction
 refine⟨fun i n ys σ' H'=>n=xs.length - i/\i<=xs.length/\ys.length<=i/\H' acc=some (.lst ys)/\Same H H'/\mG xs bl=ys++mG (xs.drop i) (bl.drop i)/\σ'.length=σ.length/\∃δ',Rel K (aT true B δ σ) H δ' σ' H'/\aV δ'/\δ'.set j none=(aB true bs δ).set j none,
  ⟨xs.length,by simp,ZK _,Zk _,af,am hacc,by simp,cN hl,aB true bs δ,R2,no0,rfl⟩,?_⟩
 rintro i n ys σ' H' hz9
 obtain⟨rfl,hi,hys,ha,sm,hp,hsl,δ',R',nw,hd⟩:=hz9;refine⟨ha,?_⟩
 have hq:SqL K H' l xs:=.inl (.inl (sm l _ h3))
 by_cases hlt:i<xs.length
 ·refine .inr ⟨⟨xs,xs[i],hq,by simp⟩,fun x H2 hz9=>?_⟩
  obtain⟨e2,hx⟩:=hz9;subst e2;obtain rfl:xs[i]=x:=by have:=hx xs hq;simpa[hlt]using this
  obtain⟨d,hd1,rd⟩:=(h4.ext (sm.ext R.borH)).get' (i:=i) (x:=xs[i]) (by simp[hlt])
  have rd':Rep K (aT true B δ σ) H2 d xs[i]:=rd.more fun a h=>g9 true a h
  have R3:=R'.set (i:=j) (by lia) rd'
  have eset:∀y,δ'.set j y=(aB true bs δ).set j y:=fun y=>by
   have:=YV (fun z=>z.set j y) hd
   simpa only[List.set_set]using this
  obtain⟨b,hb⟩:∃b,bl[i]?=some b:=⟨bl[i]'(by lia),by simp⟩
  have nw3:aV (δ'.set j (some (d,false))):=fun m e z=>by
   by_cases hm:m=j
   ·subst hm
    have hj':m<δ'.length:=by rw[R'.len];lia
    rw[Zs hj']at z
    cases z
   ·rw[Zl (Zz hm)]at z
    exact nw m e z
  have hset:(δ'.set j (some (d,false))).set j none=(aB true bs δ).set j none:=by rw[List.set_set];exact hd
  show tMT K ft (σ'.set j (some xs[i])) H2 _;refine⟨_,H,_,b,R3,by rw[eset];exact hft i d b hd1 hb,fun H3 s3=>?_⟩
  have ha3:=s3 acc _ ha;have pa:=wy hlt hb;rw[pa]at hp;cases b with
  |false=>
   rw[Zo ZE]at hp;exact vq ⟨xs.length - (i+1),by lia,rfl,hlt,by lia,ha3,sm.trans s3,hp,by rw[ZJ];exact hsl,_,R3.to s3,nw3,hset⟩
  |true=>
   rw[Zm rfl]at hp;have R4:=R3.to s3;have x5:Ext (aT true B δ σ) H3 (upd H3 acc (.lst (ys++[xs[i]]))):=bB ha3 trivial nb;have R5:Rel K (aT true B δ σ) H (δ'.set j (some (d,false))) (σ'.set j (some xs[i])) (upd H3 acc (.lst (ys++[xs[i]]))):=by
    refine⟨R4.same.put hacc,R4.bor,R4.len,fun m e h=>?_,fun m e h=>(nw3 m e h).elim,R4.dis⟩
    obtain⟨v,z1,z2⟩:=R4.var m e h;exact⟨v,z1,z2.ext x5⟩
   refine vF ⟨xs[i],Zs (by lia),ha3,by have:=aD hlim;lia,xs.length - (i+1),by lia,rfl,hlt,by rw[ZO,List.length_singleton];lia,af,(sm.trans s3).put hacc,by rw[hp,List.append_assoc];rfl,by rw[ZJ];exact hsl,_,R5,nw3,hset⟩
 ·have hi':i=xs.length:=by lia
  subst hi';rw[List.drop_length,tw,Yt]at hp;exact .inl ⟨⟨xs,hq,Zk _⟩,k l xs acc H' h1 h3 h4 sm hacc (by rw[hp];exact ha)⟩
theorem rU:bootBuiltins "list"=some (.type "list"):=by decide +kernel
theorem mC:bootBuiltins "tuple"=some (.type "tuple"):=by decide +kernel
theorem zy:bootBuiltins "sum"=some (.builtin "sum"):=by decide +kernel
theorem hJ:bootBuiltins "isinstance"=some (.builtin "isinstance"):=by decide +kernel
theorem AK:bootBuiltins "int"=some (.type "int"):=by decide +kernel
theorem Ae:bootBuiltins "str"=some (.type "str"):=by decide +kernel
theorem xj:bootBuiltins "bool"=some (.type "bool"):=by decide +kernel
theorem wg:bootBuiltins "dict"=some (.type "dict"):=by decide +kernel
theorem AB:bootBuiltins "set"=some (.type "set"):=by decide +kernel
theorem c6:bootBuiltins "sorted"=some (.builtin "sorted"):=by decide +kernel
noncomputable def sj (x:Str) (lo hi:Option Int):Str:=if((Builtin.Str.strSliceIndices lo hi 1 x.length).length==x.length)=true then x else⟨((Builtin.Str.strSliceIndices lo hi 1 x.length).filterMap (x.cps[·]?)).toArray⟩
theorem g8 (x:Str) (lo hi:Option Int):(sj x lo hi).length<=x.length:=by
 unfold sj;split
 ·exact Zk _
 ·show((Builtin.Str.strSliceIndices lo hi 1 x.length).filterMap (x.cps[·]?)).toArray.size<=_
  rw[Zh];exact ZM (List.length_filterMap_le _ _) (sliceIndices_le lo hi x.length)
section
variable{X:Cx}
theorem qa {v:Value}{o:Option Int}(h:IsPart v o):∃l:Option (Int×Tok),v=partValue l/\l.map (·.1)=o:=by
 cases h with
 |none=>exact⟨none,rfl,rfl⟩
 |int i t=>exact⟨some (i,t),rfl,rfl⟩
theorem As:SlR X (fun x lo hi H Q=>∃z,x=.str z/\z.length<=sizeLine/\Q (.str (sj z lo hi)) H):=by
 intro pins s σ H x v vl vu lo hi sl Q I rx hs pl pu h;obtain⟨z,rfl,hz,q⟩:=h;obtain⟨t,rfl⟩:=rx;obtain⟨l,rfl,rfl⟩:=qa pl;obtain⟨u,rfl,rfl⟩:=qa pu;refine⟨"str",_,F.slot_str_getitem.lookup,typeIs_str s z t,wpAny_getItem_str_slice (l:=l) (u:=u) (st:=none) hs rfl ?_⟩
 have key:(sliceMade z t l u none)=if((Builtin.Str.strSliceIndices (l.map (·.1)) (u.map (·.1)) 1 z.length).length==z.length)=true then Made.val (.str z t) else Made.str ⟨((Builtin.Str.strSliceIndices (l.map (·.1)) (u.map (·.1)) 1 z.length).filterMap (z.cps[·]?)).toArray⟩:=by
  unfold sliceMade slicePicked;simp
 rw[key];refine post_val_or_made (fun hc=>?_) fun t' k=>⟨.str (sj z (l.map (·.1)) (u.map (·.1))),H,I.tok k,⟨t',rfl⟩,q⟩
 have hle:=g8 z (l.map (·.1)) (u.map (·.1))
 unfold sj at hle;rw[Zo hc]at hle;exact ZM hle hz
end
noncomputable def DO (X:Cx) (e:Option Expr) (f:DEnv->Option (Option Int)):Prop:=PO X e (fun σ H Q=>∃B Hk δ o,Rel X.K B Hk δ σ H/\f δ=some o/\∀H',Same H H'->Q o H')
theorem PO.imp {X:Cx}{e:Option Expr}{t t':TO}(h:PO X e t) (i:∀σ H Q,t' σ H Q->t σ H Q):PO X e t':=fun pins s σ H Q I q=>h pins s σ H Q I (i σ H Q q)
noncomputable def eX (x:Option D):Option (Option Int):=match x with|some (.int i)=>some (some i)|_=>none
section
variable{X:Cx}{m m' mm:Bool}{a b:Expr}{fa fb:DEnv->Option D}{pos p p2:Pos}{lo hi:Option Expr}{fl fh:DEnv->Option (Option Int)}
theorem xA:DO X none (fun y=>some none):=xa.imp fun σ H Q hz=>by obtain⟨B,Hk,δ,o,R,e,k⟩:=hz;obtain rfl:=Zb e;exact k H (Same.refl H)
set_option tactic.hygienic true in
theorem yf (h:DE X m a fa):DO X (some a) (fun δ=>eX (fa δ)):=(wq h).imp fun σ H Q hz=>by
 obtain⟨B,Hk,δ,o,R,e,k⟩:=hz;unfold eX at e;dsimp only at e;split at e
 ·rename_i i q
  obtain rfl:=Zb e;refine⟨B,Hk,δ,_,R,q,fun v H' s r=>?_⟩
  simp only[Rep]at r;exact⟨i,r,k H' s⟩
 ·contradiction
theorem wW {K:PySem.W.Frag}{σ:St}{H:Hp}{B:Addr->Prop}{Hk:Hp}{δ:DEnv}{d:D}{l u:Option Int}{r:V->Option Int->Option Int->Hp->VK->Prop}{Q:VK}(R:Rel K B Hk δ σ H) (e1:fa δ=some d) (e2:fl δ=some l) (e3:fh δ=some u)
  (k:∀v H',Same H H'->Rel K B Hk δ σ H'->Rep K (aT m B δ σ) H' d v->r v l u H' Q):
  tSl r (tM K m fa) (fun σ H Q=>∃B Hk δ o,Rel K B Hk δ σ H/\fl δ=some o/\∀H',Same H H'->Q o H') (fun σ H Q=>∃B Hk δ o,Rel K B Hk δ σ H/\fh δ=some o/\∀H',Same H H'->Q o H') σ H Q:=
 ⟨B,Hk,δ,d,R,e1,fun v H1 s1 r1=>⟨B,Hk,δ,l,R.to s1,e2,fun H2 s2=>⟨B,Hk,δ,u,R.to (s1.trans s2),e3,fun H3 s3=>k v H3 (s1.trans (s2.trans s3)) (R.to (s1.trans (s2.trans s3))) (r1.same (R.to s1) (s2.trans s3))⟩⟩⟩
noncomputable def mW (x:Option D) (l u:Option (Option Int)):Option D:=match x,l,u with|some (.str z),some l,some u=>if z.length<=lim then some (.str (sj z l u)) else none|_,_,_=>none
theorem mV {x:Option D}{l u:Option (Option Int)}{d:D}(h:mW x l u=some d):∃z l' u',x=some (.str z)/\l=some l'/\u=some u'/\z.length<=lim/\d=.str (sj z l' u'):=by
 obtain⟨z,rfl⟩:∃z,x=some (.str z):=by
  cases x with
  |none=>exact nS h
  |some a=>
   cases a with
   |str z=>exact⟨z,rfl⟩
   |_=>exact nS h
 obtain⟨l',rfl⟩:∃l',l=some l':=by
  cases l with
  |none=>exact nS h
  |some l'=>exact⟨l',rfl⟩
 obtain⟨u',rfl⟩:∃u',u=some u':=by
  cases u with
  |none=>exact nS h
  |some u'=>exact⟨u',rfl⟩
 exact⟨z,l',u',rfl,rfl,rfl,ifB h⟩
theorem xV (ha:DE X m a fa) (hl:DO X lo fl) (hh:DO X hi fh):DE X mm (.Subscript a (.Slice lo hi none p2) pos) (fun δ=>mW (fa δ) (fl δ) (fh δ)):=
 (gO As ha hl hh).imp fun σ H Q hz=>by
  obtain⟨B,Hk,δ,d,R,e,k⟩:=hz;obtain⟨z,l,u,q1,q2,q3,hz,rfl⟩:=mV e;refine wW R q1 q2 q3 fun v H' s R' r=>?_
  simp only[Rep]at r;exact⟨z,r,aD hz,k _ H' s (by simp only[Rep])⟩
noncomputable def oD (ds:List D) (lo hi:Option Int):List D:=(ds.drop (HT.sIx ds.length 0 lo)).take (HT.sIx ds.length ds.length hi - HT.sIx ds.length 0 lo)
theorem Reps.cut {K:PySem.W.Frag}{B:Addr->Prop}{H:Hp}{ds:List D}{xs:List V}(r:Reps K B H ds xs) (lo hi:Option Int):Reps K B H (oD ds lo hi) (sg xs lo hi):=by
 unfold oD sg;rw[r.length];exact(r.drop _).take _
noncomputable def lm (x:Option D) (l u:Option (Option Int)):Option D:=match x,l,u with|some (.lst ds),some l,some u=>some (.lst (oD ds l u))|_,_,_=>none
theorem n9 {x:Option D}{l u:Option (Option Int)}{d:D}(h:lm x l u=some d):∃ds l' u',x=some (.lst ds)/\l=some l'/\u=some u'/\d=.lst (oD ds l' u'):=by
 obtain⟨ds,rfl⟩:∃ds,x=some (.lst ds):=by
  cases x with
  |none=>exact nS h
  |some a=>
   cases a with
   |lst ds=>exact⟨ds,rfl⟩
   |_=>exact nS h
 obtain⟨l',rfl⟩:∃l',l=some l':=by
  cases l with
  |none=>exact nS h
  |some l'=>exact⟨l',rfl⟩
 obtain⟨u',rfl⟩:∃u',u=some u':=by
  cases u with
  |none=>exact nS h
  |some u'=>exact⟨u',rfl⟩
 exact⟨ds,l',u',rfl,rfl,rfl,(Zb h).symm⟩
theorem xR (ha:DE X false a fa) (hl:DO X lo fl) (hh:DO X hi fh):DF X (.Subscript a (.Slice lo hi none p2) pos) (fun δ=>lm (fa δ) (fl δ) (fh δ)):=
 (gO xu ha hl hh).imp fun σ H Q hz=>by
  obtain⟨B,Hk,δ,d,R,e,k⟩:=hz;obtain⟨ds,l,u,q1,q2,q3,rfl⟩:=n9 e;refine wW R q1 q2 q3 fun v H' s R' r=>?_
  simp only[Rep]at r;obtain⟨c,xs,rfl,hq,rs⟩:=r;refine⟨c,xs,rfl,hq.sq,fun p hp=>?_⟩
  have s2:=am (o:=.lst (sg xs l u)) hp;exact k p _ (s.trans s2) (s.free hp) ⟨_,af,(rs.cut l u).same (m:=false) R' s2⟩
noncomputable def yo (x y:Option D):Option D:=match x,y with|some (.str i),some (.str j)=>if i.length+j.length<=lim then some (.str (i++j)) else none|_,_=>none
theorem qw {x y:Option D}{d:D}(h:yo x y=some d):∃i j,x=some (.str i)/\y=some (.str j)/\i.length+j.length<=lim/\d=.str (i++j):=by
 obtain⟨i,rfl⟩:∃i,x=some (.str i):=by
  cases x with
  |none=>exact nS h
  |some a=>
   cases a with
   |str i=>exact⟨i,rfl⟩
   |_=>exact nS h
 obtain⟨j,rfl⟩:∃j,y=some (.str j):=by
  cases y with
  |none=>exact nS h
  |some a=>
   cases a with
   |str j=>exact⟨j,rfl⟩
   |_=>exact nS h
 exact⟨i,j,rfl,rfl,ifB h⟩
theorem wO (ha:DE X m a fa) (hb:DE X m' b fb):DE X mm (.BinOp a .Add b pos) (fun δ=>yo (fa δ) (fb δ)):=
 (tX nz ha hb).imp fun σ H Q hz=>by
  obtain⟨B,Hk,δ,d,R,e,k⟩:=hz;obtain⟨i,j,q1,q2,hz,rfl⟩:=qw e;refine two R q1 q2 fun v u H' s R' r1 r2=>?_
  simp only[Rep]at r1 r2;subst r1 r2;exact⟨i,j,rfl,rfl,aD hz,k _ H' s (by simp only[Rep])⟩
noncomputable def rJ (x:Option D):Option D:=match x with|some d=>(match aK d with|some ds=>some (.lst ds)|none=>none)|none=>none
set_option tactic.hygienic true in
theorem vP {x:Option D}{g:List D->D}{d:D}(h:(match x with|some d=>(match aK d with|some ds=>some (g ds)|none=>none)|none=>none)=some d):∃e es,x=some e/\aK e=some es/\d=g es:=by
 split at h
 ·rename_i e
  split at h
  ·rename_i es he;obtain rfl:=Zb h;exact⟨e,es,rfl,he,rfl⟩
  ·contradiction
 ·contradiction
theorem qx (g:Gl X "list") (hm:X.mg "list"=none) (ha:DE X false a fa) (hs:starEach [a] X.env=[(false,eval a X.env)]:=by rfl):DF X (.Call (.Name "list" p) [a] [] pos) (fun δ=>rJ (fa δ)):=
 (bH jk g hm rU (ar ha aH hs) (he:=hs)).imp fun σ H Q hz=>by
  obtain⟨B,Hk,δ,d,R,e,k⟩:=hz;obtain⟨d1,es,e1,hi,rfl⟩:=vP (g:=D.lst) e;refine kN R e1 fun v H' s R' r=>?_
  obtain⟨p,xs,rfl,hq,rs⟩:=r.items hi;refine⟨p,xs,rfl,hq,fun l hl=>?_⟩
  have s2:=am (o:=.lst xs) hl;exact k l _ (s.trans s2) (s.free hl) ⟨_,af,rs.same (m:=false) R' s2⟩
noncomputable def cj (x:Option D):Option D:=match x with|some d=>(match aK d with|some ds=>some (.tup ds)|none=>none)|none=>none
theorem sC (g:Gl X "tuple") (hm:X.mg "tuple"=none) (ha:DE X m a fa) (hs:starEach [a] X.env=[(false,eval a X.env)]:=by rfl):DE X m (.Call (.Name "tuple" p) [a] [] pos) (fun δ=>cj (fa δ)):=
 (bH gW g hm mC (ar ha aH hs) (he:=hs)).imp fun σ H Q hz=>by
  obtain⟨B,Hk,δ,d,R,e,k⟩:=hz;obtain⟨d1,es,e1,hi,rfl⟩:=vP (g:=D.tup) e;refine kN R e1 fun v H' s R' r=>?_
  cases d1 with
  |lst ds=>
   simp only[aK]at hi;obtain rfl:=Zb hi;simp only[Rep]at r;obtain⟨c,xs,rfl,hq,rs⟩:=r;refine⟨c,xs,rfl,.inl ⟨hq.sq,fun l hl=>?_⟩⟩
   have s2:=am (o:=.tup xs) hl;refine k _ _ (s.trans s2) ?_
   simp only[Rep];exact⟨l,xs,rfl,af,rs.same R' s2⟩
  |tup ds=>
   simp only[aK]at hi;obtain rfl:=Zb hi;have r':=r;simp only[Rep]at r;obtain⟨c,xs,rfl,hq,rs⟩:=r;exact⟨c,xs,rfl,.inr ⟨SqT.of hq,k _ H' s r'⟩⟩
  |_=>simp[aK]at hi
noncomputable def cM:List D->Option (List Int)
 |[]=>some []
 |.int i::ds=>(match cM ds with|some l=>some (i::l)|none=>none)
 |_=>none
theorem gh:∀{ds:List D}{ns:List Int},cM ds=some ns->ds=ns.map D.int
 |[],ns,h=>by simp only[cM,ZG]at h;subst h;rfl
 |.int i::ds,ns,h=>by
  simp only[cM]at h;cases q:cM ds with
  |none=>rw[q]at h;contradiction
  |some l=>
   rw[q]at h;simp only[ZG]at h;subst h;rw[Zf,gh q]
 |.non::ds,ns,h=>by simp[cM]at h
 |.bl _::ds,ns,h=>by simp[cM]at h
 |.str _::ds,ns,h=>by simp[cM]at h
 |.tup _::ds,ns,h=>by simp[cM]at h
 |.lst _::ds,ns,h=>by simp[cM]at h
 |.dK _ _::ds,ns,h=>by simp[cM]at h
 |.dD _ _::ds,ns,h=>by simp[cM]at h
theorem Reps.ints {K:PySem.W.Frag}{B:Addr->Prop}{H:Hp}:∀{ns:List Int}{xs:List V},Reps K B H (ns.map D.int) xs->xs=ns.map V.int
 |[],xs,h=>by simpa only[ZX,Reps]using h
 |n::ns,xs,h=>by
  simp only[Zf,Reps]at h;obtain⟨x,r,rfl,h1,h2⟩:=h;simp only[Rep]at h1;rw[Zf,h1,Reps.ints h2]
theorem ur (hc:X.calm=true):cO X (.builtin "sum") (fun xs H Q=>∃(p:Addr) (ns:List Int),xs=[.ref p]/\SqL X.K H p (ns.map V.int)/\Q (.int ns.sum) H):=by
 intro pins s σ H xs us Q I r h;obtain⟨p,ns,rfl,hq,q⟩:=h;obtain⟨u,rfl,rx⟩:=dP r;cases rx;obtain⟨its,rv,pl,hz⟩:=I.list hq;have hi:=ou rv;obtain⟨xs,hxs⟩:=hi.allInts.items;have hl:=pl.isList;rw[hxs]at hl;refine PySem.sum_intListG (I.ok.hd hc) hl fun h' tk t' hk=>?_
 have e1:preSum (numAt xs) xs.size=ns.sum:=by
  rw[preSum_eq,List.take_of_length_le (by simp)]
  have:=hi.numsOf;rw[show its=its.toArray.toList from rfl,hxs,nums_intItems]at this
  rw[this]
 rw[e1];exact⟨.int ns.sum,H,I.kept hk,⟨t',rfl⟩,q⟩
noncomputable def zZ (x:Option D):Option D:=match x with|some (.lst ds)=>(match cM ds with|some ns=>some (.int ns.sum)|none=>none)|_=>none
set_option tactic.hygienic true in
theorem zI (hc:X.calm=true) (g:Gl X "sum") (hm:X.mg "sum"=none) (ha:DE X m a fa) (hs:starEach [a] X.env=[(false,eval a X.env)]:=by rfl):DE X mm (.Call (.Name "sum" p) [a] [] pos) (fun δ=>zZ (fa δ)):=
 (bM (ur hc) g hm zy (ar ha aH hs) (he:=hs)).imp fun σ H Q hz=>by
  obtain⟨B,Hk,δ,d,R,e,k⟩:=hz;unfold zZ at e;split at e
  ·rename_i ds q
   split at e
   ·rename_i ns qn
    obtain rfl:=Zb e;obtain rfl:=gh qn;refine kN R q fun v H' s R' r=>?_
    simp only[Rep]at r;obtain⟨c,xs,rfl,hq,rs⟩:=r;obtain rfl:=rs.ints;exact⟨c,ns,rfl,hq.sq,k _ H' s (by simp only[Rep])⟩
   ·contradiction
  ·contradiction
noncomputable def tyD:D->Option String
 |.non=>some "NoneType"|.bl _=>some "bool"|.int _=>some "int"|.str _=>some "str"|.tup _=>some "tuple"|.lst _=>some "list"|_=>none
noncomputable def AW (t c:String):Bool:=t==c||(t=="bool"&&c=="int")
noncomputable def AO (c:String) (x:Option D):Option D:=match x with|some d=>(match tyD d with|some t=>some (.bl (AW t c))|none=>none)|none=>none
theorem uu {c:String}(hc:c="int"\/c="bool"\/c="str"\/c="list"\/c="tuple"):cO X (.builtin "isinstance") (fun xs H Q=>∃B d x t,xs=[x,.ty c]/\Rep X.K B H d x/\tyD d=some t/\Q (.bl (AW t c)) H):=by
 intro pins s σ H xs us Q I r h;obtain⟨B,d,x,t,rfl,rx,ht,q⟩:=h;obtain⟨u,w',rfl,ru,rw'⟩:=BZ r;cases rw';have fin:∀b,b=AW t c->∀tk,EP X pins σ Q (.bool b) {s with toks:=tk}:=fun b e tk=>⟨.bl b,H,I.tok tk,rfl,by rw[e];exact q⟩
 have kit:∀(T:String),(T="NoneType"\/T="bool"\/T="int"\/T="str"\/T="list"\/T="tuple")->PySem.W.kitOne X.K (.type T) (.type c)=some (AW T c):=fun T hT=>by
  rcases hc with rfl|rfl|rfl|rfl|rfl<;>rcases hT with rfl|rfl|rfl|rfl|rfl|rfl<;>rfl
 cases d with
 |non=>obtain rfl:=Zb ht;simp only[Rep]at rx;subst rx;exact cX I ru (.non) (kit _ (by simp)) (fin _ rfl)
 |bl b=>obtain rfl:=Zb ht;simp only[Rep]at rx;subst rx;exact cX I ru (.bl b) (kit _ (by simp)) (fin _ rfl)
 |int b=>obtain rfl:=Zb ht;simp only[Rep]at rx;subst rx;exact cX I ru (.int b) (kit _ (by simp)) (fin _ rfl)
 |str b=>obtain rfl:=Zb ht;simp only[Rep]at rx;subst rx;exact cX I ru (.str b) (kit _ (by simp)) (fin _ rfl)
 |tup ds=>
  obtain rfl:=Zb ht;simp only[Rep]at rx;obtain⟨a,xs,rfl,hq,_⟩:=rx;cases ru;obtain⟨its,_,⟨o,h1,h2,_⟩,_⟩:=I.tuple (SqT.of hq);exact Z9 PySem.W.kitx_tuple I.kIn ⟨o,h1,h2⟩ (kit _ (by simp)) (fun z=>nomatch z) (fin _ rfl)
 |lst ds=>
  obtain rfl:=Zb ht;simp only[Rep]at rx;obtain⟨a,xs,rfl,hq,_⟩:=rx;cases ru;obtain⟨its,_,⟨o,n,h1,h2,_⟩,_⟩:=I.list hq.sq;exact Z9 PySem.W.kitx_list I.kIn ⟨o,h1,h2⟩ (kit _ (by simp)) (fun z=>nomatch z) (fin _ rfl)
 |dK _ _=>exact nS ht
 |dD _ _=>exact nS ht
set_option tactic.hygienic true in
theorem zr {c:Str}{cs:String}{pc:Pos}(hc:cs="int"\/cs="bool"\/cs="str"\/cs="list"\/cs="tuple") (g:Gl X "isinstance") (hm:X.mg "isinstance"=none) (gc:Gl X c) (hmc:X.mg c=none) (hv:bootBuiltins c=some (.type cs)) (ha:DE X m a fa)
  (hs:starEach [a,.Name c pc] X.env=[(false,eval a X.env),(false,eval (.Name c pc) X.env)]:=by rfl) (hs2:starEach [.Name c pc] X.env=[(false,eval (.Name c pc) X.env)]:=by rfl) (hn:c≠"__name__":=by decide) (hd:(c==("__debug__":Str))=false:=by decide)
  (hpl:(backTo pos (starEach [.Name c pc] X.env)).any (·.1)=false:=by rfl):
  DE X mm (.Call (.Name "isinstance" p) [a,.Name c pc] [] pos) (fun δ=>AO cs (fa δ)):=
 (bM (uu hc) g hm hJ (ar ha (ar (wC (v:=.ty cs) gc hmc hv rfl hn hd) aH hs2) (by rw[hs,hs2])) (he:=by rw[hs,hs2]) (hpl:=hpl)).imp fun σ H Q hz=>by
  obtain⟨B,Hk,δ,d,R,e,k⟩:=hz;unfold AO at e;split at e
  ·rename_i d1 q
   split at e
   ·rename_i t qt
    obtain rfl:=Zb e;exact⟨B,Hk,δ,d1,R,q,fun v H' s r=>⟨_,d1,v,t,rfl,r,qt,k _ H' s (by simp only[Rep])⟩⟩
   ·contradiction
  ·contradiction
end
end L2
namespace L2
open PySem PySem.Spec PyProof.Rows PySem.W
noncomputable def bv {α:Type}(lt:Nat->Nat->Bool):KasT α->α
 |.ret a=>a
 |.ask i j k=>bv lt (k (lt i j))
noncomputable def kin {α:Type}(n:Nat) (lt:Nat->Nat->Bool):KasT α->Prop
 |.ret _=>True
 |.ask i j k=>i<n/\j<n/\kin n lt (k (lt i j))
theorem bG {α β:Type}(lt:Nat->Nat->Bool) (f:α->KasT β):∀t:KasT α,bv lt (t.bind f)=bv lt (f (bv lt t))
 |.ret a=>rfl
 |.ask i j k=>bG lt f (k (lt i j))
theorem a8 {α β:Type}{n:Nat}{lt:Nat->Nat->Bool}(f:α->KasT β):∀t:KasT α,kin n lt t->kin n lt (f (bv lt t))->kin n lt (t.bind f)
 |.ret a,_,h=>h
 |.ask i j k,h,h'=>⟨h.1,h.2.1,a8 f (k (lt i j)) h.2.2 h'⟩
theorem uU {α:Type}{n:Nat}{lt:Nat->Nat->Bool}{cmp:Nat->Nat->(Bool->Shared->Prop)->Shared->Prop}{Q:α->Shared->Prop}{s:Shared}(hc:∀i j C,i<n->j<n->C (lt i j) s->cmp i j C s):∀t:KasT α,kin n lt t->Q (bv lt t) s->t.kasWp cmp Q s
 |.ret a,_,h=>h
 |.ask i j k,h,h'=>hc i j _ h.1 h.2.1 (uU hc (k (lt i j)) h.2.2 h')
section
variable{n:Nat}{lt:Nat->Nat->Bool}
structure Ord (lt:Nat->Nat->Bool):Prop where
 asym:∀i j,lt i j=true->lt j i=false
 tr:∀i j k,lt j i=false->lt k j=false->lt k i=false
variable(O:Ord lt)
structure Ok (n:Nat) (p:Array Nat):Prop where
 sz:p.size=n
 pm:p.toList.Perm (List.range n)
theorem Ok.below {p:Array Nat}(h:Ok n p) (i:Nat) (hn:0<n):p.getD i 0<n:=by
 by_cases hi:i<p.size
 ·have e:p.getD i 0=p[i]:=by simp[Array.getD,hi]
  rw[e];have hm:p[i]∈p.toList:=by simp
  exact List.mem_range.mp (h.pm.mem_iff.mp hm)
 ·have e:p.getD i 0=0:=by simp[Array.getD,hi]
  rw[e];exact hn
theorem Ok.rev {p:Array Nat}(h:Ok n p) (i j:Nat):Ok n (kas_rev p i j):=by
 unfold kas_rev;exact⟨by rw[mirror_size];exact h.sz,(Array.perm_iff_toList_perm.mp (mirror_perm p i j _)).trans h.pm⟩
theorem Ok.bub {p:Array Nat}(h:Ok n p) (i j:Nat):Ok n (bubble p i j):=
 ⟨by rw[bubble_size];exact h.sz,(Array.perm_iff_toList_perm.mp (bubble_perm p i j)).trans h.pm⟩
theorem il {p:Array Nat}{i j:Nat}(hj:j<=p.size) (k:Nat):(kas_rev p i j).getD k 0=if i<=k/\k<j then p.getD (i+j - 1 - k) 0 else p.getD k 0:=by
 have e:=getElem?_mirror_all (i:=i) hj k
 unfold kas_rev;have g:∀(q:Array Nat) (m:Nat),q.getD m 0=(q[m]?).getD 0:=fun q m=>by
  by_cases hm:m<q.size<;>simp[Array.getD,hm]
 rw[g,e,g p (i+j - 1 - k),g p k];split<;>rfl
theorem rS {p:Array Nat}{src d:Nat}(hs:src<p.size) (hd:d<=src) (k:Nat):(bubble p src d).getD k 0=if k=src - d then p.getD src 0 else if src - d<k/\k<=src then p.getD (k - 1) 0 else p.getD k 0:=by
 have e:=getElem?_bubble hs d hd k
 have g:∀(q:Array Nat) (m:Nat),q.getD m 0=(q[m]?).getD 0:=fun q m=>by
  by_cases hm:m<q.size<;>simp[Array.getD,hm]
 rw[g,e,g p src,g p (k - 1),g p k];split
 ·rfl
 ·split<;>rfl
noncomputable def Up (lt:Nat->Nat->Bool) (p:Array Nat) (k:Nat):Prop:=∀i j,i<=j->j<k->lt (p.getD j 0) (p.getD i 0)=false
noncomputable def Down (lt:Nat->Nat->Bool) (p:Array Nat) (k:Nat):Prop:=∀i j,i<=j->j<k->lt (p.getD i 0) (p.getD j 0)=false
theorem Ord.irr (O:Ord lt) (i:Nat):lt i i=false:=by
 cases e:lt i i with
 |false=>rfl
 |true=>have:=O.asym i i e;rw[e]at this;exact this
theorem Up.snoc (O:Ord lt) {p:Array Nat}{k:Nat}(h:Up lt p k) (hk:lt (p.getD k 0) (p.getD (k - 1) 0)=false) (h1:1<=k):Up lt p (k+1):=fun i j hij hj=>by
 by_cases e:j=k
 ·subst e
  by_cases e2:i=j
  ·subst e2;exact O.irr _
  ·exact O.tr _ _ _ (h i (j - 1) (by lia) (by lia)) hk
 ·exact h i j hij (by lia)
theorem Down.snoc (O:Ord lt) {p:Array Nat}{k:Nat}(h:Down lt p k) (hk:lt (p.getD (k - 1) 0) (p.getD k 0)=false) (h1:1<=k):Down lt p (k+1):=fun i j hij hj=>by
 by_cases e:j=k
 ·subst e
  by_cases e2:i=j
  ·subst e2;exact O.irr _
  ·exact O.tr _ _ _ hk (h i (j - 1) (by lia) (by lia))
 ·exact h i j hij (by lia)
include O in
theorem pD (hn:0<n) {p:Array Nat}(hp:Ok n p):∀(f k:Nat),1<=k->Up lt p k->kin n lt (kas_asc p f k)/\k<=bv lt (kas_asc p f k)/\bv lt (kas_asc p f k)<=k+f/\Up lt p (bv lt (kas_asc p f k))
 |0,k,h1,h=>⟨trivial,Zk _,Zk _,h⟩
 |f+1,k,h1,h=>by
  unfold kas_asc;cases c:lt (p.getD k 0) (p.getD (k - 1) 0)with
  |true=>
   refine⟨⟨hp.below _ hn,hp.below _ hn,?_⟩,?_⟩
   ·rw[c];exact trivial
   ·show _<=bv lt (if lt (p.getD k 0) (p.getD (k - 1) 0)=true then _ else _)/\_
    simp only[bv,c,Z6];exact⟨Zk _,by lia,h⟩
  |false=>
   have ih:=pD hn hp f (k+1) (by lia) (h.snoc O c h1)
   refine⟨⟨hp.below _ hn,hp.below _ hn,?_⟩,?_⟩
   ·rw[c];exact ih.1
   ·simp only[bv,c,Zx,ZY]
    exact⟨by lia,by lia,ih.2.2.2⟩
theorem g6 {p:Array Nat}{s k m:Nat}(hks:k<=p.size) (hkm:k<=m) (hd:Down lt p m) (he:∀i j,s<=i->i<=j->j<k->lt (p.getD j 0) (p.getD i 0)=false):Down lt (kas_rev p s k) m:=fun i j hij hj=>by
 rw[il hks,il hks]
 by_cases hi:s<=i/\i<k
 ·rw[Zm hi]
  obtain⟨h1,h2⟩:=hi
  by_cases hj':s<=j/\j<k
  ·rw[Zm hj']
   exact he _ _ (by lia) (Nat.sub_le_sub_left hij _) (by lia)
  ·rw[Zo hj']
   exact hd _ _ (by lia) hj
 ·rw[Zo hi]
  by_cases hj':s<=j/\j<k
  ·rw[Zm hj']
   exact hd _ _ (by lia) (by lia)
  ·rw[Zo hj']
   exact hd _ _ hij hj
include O in
theorem gE (hn:0<n):∀(f:Nat) (p:Array Nat) (k q:Nat),Ok n p->q+1<=k->k+f<=n->Down lt p k->(∀i j,k - (q+1)<=i->i<=j->j<k->lt (p.getD j 0) (p.getD i 0)=false)->
  kin n lt (kas_desc f p k q)/\(let r:=bv lt (kas_desc f p k q);Ok n r.1/\r.2.2+1<=r.2.1/\k<=r.2.1/\r.2.1<=k+f/\Down lt r.1 r.2.1/\∀i j,r.2.1 - (r.2.2+1)<=i->i<=j->j<r.2.1->lt (r.1.getD j 0) (r.1.getD i 0)=false)
 |0,p,k,q,hp,hq,hk,hd,he=>⟨trivial,hp,hq,Zk _,Zk _,hd,he⟩
 |f+1,p,k,q,hp,hq,hk,hd,he=>by
  unfold kas_desc;cases c:lt (p.getD k 0) (p.getD (k - 1) 0)with
  |true=>
   have hd2:Down lt p (k+1):=hd.snoc O (O.asym _ _ c) (by lia)
   by_cases hq0:q>0
   ·-- the equal ones at the end are turned about
    have hp2:=hp.rev (k - (q+1)) k;have hks:k<=p.size:=by rw[hp.sz];lia
    have hd3:Down lt (kas_rev p (k - (q+1)) k) (k+1):=g6 hks (YK k) hd2 he;have ih:=gE hn f (kas_rev p (k - (q+1)) k) (k+1) 0 hp2 (by lia) (by lia) hd3 (fun i j h1 h2 h3=>by
     have:i=j:=by lia
     subst this;exact O.irr _)
    refine⟨⟨hp.below _ hn,hp.below _ hn,?_⟩,?_⟩
    ·simp only[c,Z6,Zm hq0];exact ih.1
    ·simp only[bv,c,Z6,Zm hq0]
     exact⟨ih.2.1,ih.2.2.1,by have:=ih.2.2.2.1;lia,by have:=ih.2.2.2.2.1;lia,ih.2.2.2.2.2⟩
   ·have ih:=gE hn f p (k+1) 0 hp (by lia) (by lia) hd2 (fun i j h1 h2 h3=>by
     have:i=j:=by lia
     subst this;exact O.irr _)
    refine⟨⟨hp.below _ hn,hp.below _ hn,?_⟩,?_⟩
    ·simp only[c,Z6,Zo hq0];exact ih.1
    ·simp only[bv,c,Z6,Zo hq0]
     exact⟨ih.2.1,ih.2.2.1,by have:=ih.2.2.2.1;lia,by have:=ih.2.2.2.2.1;lia,ih.2.2.2.2.2⟩
  |false=>
   cases c2:lt (p.getD (k - 1) 0) (p.getD k 0)with
   |true=>
    refine⟨⟨hp.below _ hn,hp.below _ hn,?_⟩,?_⟩
    ·simp only[c,Zx,ZY]
     refine⟨hp.below _ hn,hp.below _ hn,?_⟩
     rw[c2];exact trivial
    ·simp only[bv,c,c2,Zx,ZY,Z6]
     exact⟨hp,hq,Zk _,by lia,hd,he⟩
   |false=>
    have hd2:Down lt p (k+1):=hd.snoc O c2 (by lia)
    have he2:∀i j,k+1 - (q+1+1)<=i->i<=j->j<k+1->lt (p.getD j 0) (p.getD i 0)=false:=fun i j h1 h2 h3=>by
     by_cases e:j=k
     ·subst e
      by_cases e2:i=j
      ·subst e2;exact O.irr _
      ·exact O.tr _ _ _ (he i (j - 1) (by lia) (by lia) (by lia)) c
     ·exact he i j (by lia) h2 (by lia)
    have ih:=gE hn f p (k+1) (q+1) hp (by lia) (by lia) hd2 he2
    refine⟨⟨hp.below _ hn,hp.below _ hn,?_⟩,?_⟩
    ·simp only[c,Zx,ZY]
     refine⟨hp.below _ hn,hp.below _ hn,?_⟩
     simp only[c2,Zx,ZY];exact ih.1
    ·simp only[bv,c,c2,Zx,ZY]
     exact⟨ih.2.1,ih.2.2.1,by have:=ih.2.2.2.1;lia,by have:=ih.2.2.2.2.1;lia,ih.2.2.2.2.2⟩
include O in
theorem mv (hn:0<n) {p:Array Nat}(hp:Ok n p) {k:Nat}(h1:1<=k) (hk:k<=n) (hd:Down lt p k):
  kin n lt (kas_tail3 k n p)/\(let r:=bv lt (kas_tail3 k n p);Ok n r.2/\1<=r.1/\r.1<=n/\Up lt r.2 r.1):=by
 have hks:k<=p.size:=by rw[hp.sz];exact hk
 have hp2:=hp.rev 0 k;have hu:Up lt (kas_rev p 0 k) k:=fun i j hij hj=>by
  rw[il hks,il hks,Zm ⟨ZK _,hj⟩,Zm ⟨ZK _,Yy hij hj⟩,Nat.zero_add];exact hd _ _ (Nat.sub_le_sub_left hij _) (Yy (Nat.sub_le _ _) (Nat.sub_lt h1 Nat.one_pos))
 have a:=pD O hn hp2 (n - k) k h1 hu;unfold kas_tail3;refine⟨a8 _ _ a.1 trivial,?_⟩
 rw[bG];simp only[bv];exact⟨hp2,by lia,by lia,a.2.2.2⟩
include O in
theorem fm (hn:0<n) {p:Array Nat}(hp:Ok n p) {k:Nat}(h1:1<=k) (hk:k+1<=n) (hd:Down lt p (k+1)):
  kin n lt (kas_descPart k n p)/\(let r:=bv lt (kas_descPart k n p);Ok n r.2/\1<=r.1/\r.1<=n/\Up lt r.2 r.1):=by
 have d:=gE O hn (n - (k+1)) p (k+1) 0 hp (by lia) (by lia) hd (fun i j h1 h2 h3=>by
  have:i=j:=by lia
  subst this;exact O.irr _)
 unfold kas_descPart;obtain⟨d1,d2,d3,d4,d5,d6,d7⟩:=d;rw[bG];generalize hr:bv lt (kas_desc (n - (k+1)) p (k+1) 0)=r at*
 by_cases hq:r.2.2>0
 ·have hks:r.2.1<=r.1.size:=by rw[d2.sz];lia
  have hd3:Down lt (kas_rev r.1 (r.2.1 - (r.2.2+1)) r.2.1) r.2.1:=g6 hks (Zk _) d6 d7;have t:=mv O hn (d2.rev (r.2.1 - (r.2.2+1)) r.2.1) (k:=r.2.1) (by lia) (by lia) hd3
  refine⟨a8 _ _ d1 ?_,?_⟩
  ·rw[hr,Zm hq];exact t.1
  ·rw[Zm hq];exact t.2
 ·have t:=mv O hn d2 (k:=r.2.1) (by lia) (by lia) d6
  refine⟨a8 _ _ d1 ?_,?_⟩
  ·rw[hr,Zo hq];exact t.1
  ·rw[Zo hq];exact t.2
include O in
theorem sP (h2:2<=n) {p:Array Nat}(hp:Ok n p):kin n lt (kas_count n p)/\(let r:=bv lt (kas_count n p);Ok n r.2/\1<=r.1/\r.1<=n/\Up lt r.2 r.1):=by
 have hn:0<n:=by lia
 have one:Up lt p 1:=fun i j hij hj=>by
  have:i=j:=by lia
  subst this;exact O.irr _
 have a:=pD O hn hp (n - 1) 1 (Zk _) one;unfold kas_count;rw[bG];obtain⟨a1,a2,a3,a4⟩:=a;have stop:∀(f k:Nat),bv lt (kas_asc p f k)<k+f->lt (p.getD (bv lt (kas_asc p f k)) 0) (p.getD (bv lt (kas_asc p f k) - 1) 0)=true:=by
  intro f
  induction f with
  |zero=>intro k h;simp only[kas_asc,bv]at h;lia
  |succ f ih=>
   intro k h;cases c:lt (p.getD k 0) (p.getD (k - 1) 0)with
   |true=>simp only[kas_asc,bv,c,Z6]at h⊢
   |false=>
    simp only[kas_asc,bv,c,Zx,ZY]at h⊢;exact ih (k+1) (by lia)
 have stop1:=stop (n - 1) 1;generalize hr:bv lt (kas_asc p (n - 1) 1)=m at*
 by_cases hm:(m==n)=true
 ·refine⟨a8 _ _ a1 ?_,?_⟩
  ·rw[hr,Zm hm];exact trivial
  ·rw[Zm hm];exact⟨hp,a2,(show m<=n by lia),a4⟩
 ·have hmn:m<n:=by
   have:m≠n:=by simpa using hm
   lia
  have st:=stop1 (by lia)
  by_cases h1:m>1
  ·cases c:lt (p.getD 0 0) (p.getD (m - 1) 0)with
   |true=>
    refine⟨a8 _ _ a1 ?_,?_⟩
    ·rw[hr,Zo hm,Zm h1]
     refine⟨hp.below _ hn,hp.below _ hn,?_⟩
     rw[c];exact trivial
    ·rw[Zo hm,Zm h1]
     simp only[bv,c,Z6];exact⟨hp,a2,by lia,a4⟩
   |false=>
    have hms:m<=p.size:=by rw[hp.sz];lia
    have same:∀i j,i<m->j<m->lt (p.getD i 0) (p.getD j 0)=false:=fun i j hi hj=>
     O.tr _ _ _ (O.tr _ _ _ (a4 j (m - 1) (by lia) (by lia)) c) (a4 0 i (ZK _) hi)
    have hd0:Down lt p (m+1):=fun i j hij hj=>by
     by_cases hj':j<m
     ·exact same _ _ (Yy hij hj') hj'
     ·obtain rfl:=Nat.le_antisymm (Nat.le_of_lt_succ hj) (Nat.le_of_not_lt hj')
      by_cases hi:i<j
      ·exact O.tr _ _ _ (O.asym _ _ st) (same _ _ hi (Nat.sub_lt a2 Nat.one_pos))
      ·obtain rfl:=Nat.le_antisymm hij (Nat.le_of_not_lt hi)
       exact O.irr _
    have hd:=g6 hms (YK m) hd0 (s:=0) fun i j _ hij hj=>same _ _ hj (Yy hij hj)
    have t:=fm O hn (hp.rev 0 m) (k:=m) (by lia) (by lia) hd
    refine⟨a8 _ _ a1 ?_,?_⟩
    ·rw[hr,Zo hm,Zm h1]
     refine⟨hp.below _ hn,hp.below _ hn,?_⟩
     simp only[c,Zx,ZY];exact t.1
    ·rw[Zo hm,Zm h1]
     simp only[bv,c,Zx,ZY];exact t.2
  ·have m1:m=1:=by lia
   subst m1;have hd:Down lt p (1+1):=fun i j hij hj=>by
    by_cases e:i=j
    ·subst e;exact O.irr _
    ·have e1:i=0:=by lia
     have e2:j=1:=by lia
     subst e1 e2;exact O.asym _ _ st
   have t:=fm O hn hp (k:=1) (by lia) (by lia) hd
   refine⟨a8 _ _ a1 ?_,?_⟩
   ·rw[hr,Zo hm,Zo h1];exact t.1
   ·rw[Zo hm,Zo h1];exact t.2
include O in
theorem gK (hn:0<n) {p:Array Nat}(hp:Ok n p) {k:Nat}(hu:Up lt p k):∀(f l r:Nat),l<=r->r<=k->r - l<=f->(∀i,i<l->lt (p.getD k 0) (p.getD i 0)=false)->(∀i,r<=i->i<k->lt (p.getD k 0) (p.getD i 0)=true)->
  kin n lt (kas_place p k f l r)/\bv lt (kas_place p k f l r)<=k/\(∀i,i<bv lt (kas_place p k f l r)->lt (p.getD k 0) (p.getD i 0)=false)/\(∀i,bv lt (kas_place p k f l r)<=i->i<k->lt (p.getD k 0) (p.getD i 0)=true)
 |0,l,r,hlr,hrk,hf,h1,h2=>by
  have:l=r:=by lia
  subst this;exact⟨trivial,hrk,h1,h2⟩
 |f+1,l,r,hlr,hrk,hf,h1,h2=>by
  unfold kas_place
  by_cases hge:l>=r
  ·have:l=r:=by lia
   subst this;rw[Zm hge];exact⟨trivial,hrk,h1,h2⟩
  ·rw[Zo hge]
   have hlt:=Nat.lt_of_not_le hge;have hm1:l<=(l+r) / 2:=(Nat.le_div_iff_mul_le Nat.two_pos).mpr (by rw[Nat.mul_two];exact Nat.add_le_add_left hlr l)
   have hm2:(l+r) / 2<r:=(Nat.div_lt_iff_lt_mul Nat.two_pos).mpr (by rw[Nat.mul_two];exact Nat.add_lt_add_right hlt r)
   generalize (l+r) / 2=m at*;cases c:lt (p.getD k 0) (p.getD m 0)with
   |true=>
    have ih:=gK hn hp hu f l m hm1 (ZM (Nat.le_of_lt hm2) hrk) (Nat.le_of_lt_succ (Zr (Nat.sub_lt_sub_right hm1 hm2) hf)) h1 (fun i hi hik=>by
     cases e:lt (p.getD k 0) (p.getD i 0)with
     |true=>rfl
     |false=>
      have q:=O.tr _ _ _ (hu m i hi hik) e;rw[c]at q;contradiction)
    refine⟨⟨hp.below _ hn,hp.below _ hn,?_⟩,?_⟩
    ·simp only[c,Z6];exact ih.1
    ·simp only[bv,c,Z6];exact ih.2
   |false=>
    have ih:=gK hn hp hu f (m+1) r hm2 hrk (Nat.le_of_lt_succ (Zr (Nat.sub_lt_sub_left hlt (Nat.lt_succ_of_le hm1)) hf)) (fun i hi=>by
     by_cases e:i<l
     ·exact h1 i e
     ·exact O.tr _ _ _ (hu i m (Nat.le_of_lt_succ hi) (Zr hm2 hrk)) c) h2
    refine⟨⟨hp.below _ hn,hp.below _ hn,?_⟩,?_⟩
    ·simp only[c,Zx,ZY];exact ih.1
    ·simp only[bv,c,Zx,ZY];exact ih.2
include O in
theorem vX (hn:0<n):∀(f:Nat) (p:Array Nat) (k:Nat),Ok n p->k+f=n->Up lt p k->kin n lt (kas_bin f p k)/\Ok n (bv lt (kas_bin f p k))/\Up lt (bv lt (kas_bin f p k)) n
 |0,p,k,hp,hk,hu=>by
  have:k=n:=by lia
  subst this;exact⟨trivial,hp,hu⟩
 |f+1,p,k,hp,hk,hu=>by
  unfold kas_bin;have pl:=gK O hn hp hu k 0 k (ZK _) (Zk _) (Nat.sub_le _ _) (fun i hi=>absurd hi (Nat.not_lt_zero _)) (fun i h1 h2=>absurd h2 (Nat.not_lt.mpr h1))
  rw[bG];obtain⟨p1,p2,p3,p4⟩:=pl;generalize hr:bv lt (kas_place p k k 0 k)=l at*;have hks:k<p.size:=by rw[hp.sz,<-hk];exact Nat.lt_add_of_pos_right (Nat.succ_pos f)
  have hu2:Up lt (bubble p k (k - l)) (k+1):=fun i j hij hj=>by
   rw[rS hks (Nat.sub_le _ _),rS hks (Nat.sub_le _ _),Nat.sub_sub_self p2];have hjk:=Nat.le_of_lt_succ hj;have hl1:l<j->j - 1<k:=fun h=>Zr (Nat.sub_lt (Yy (ZK l) h) Nat.one_pos) hjk
   by_cases i1:i=l
   ·rw[Zm i1]
    by_cases j1:j=l
    ·rw[Zm j1];exact O.irr _
    ·have h:=Nat.lt_of_le_of_ne (i1▸hij) (Zz j1)
     rw[Zo j1,Zm ⟨h,hjk⟩];exact O.asym _ _ (p4 _ (Nat.le_sub_one_of_lt h) (hl1 h))
   ·rw[Zo i1]
    by_cases i2:l<i/\i<=k
    ·have h:=Zr i2.1 hij
     rw[Zm i2,Zo (Yc h),Zm ⟨h,hjk⟩];exact hu _ _ (Nat.sub_le_sub_right hij 1) (hl1 h)
    ·rw[Zo i2]
     have h:i<l:=Nat.lt_of_le_of_ne (Nat.le_of_not_lt fun h=>i2 ⟨h,ZM hij hjk⟩) i1
     by_cases j1:j=l
     ·rw[Zm j1];exact p3 _ h
     ·rw[Zo j1]
      by_cases j2:l<j/\j<=k
      ·rw[Zm j2];exact hu _ _ (Nat.le_sub_one_of_lt (Nat.lt_trans h j2.1)) (hl1 j2.1)
      ·rw[Zo j2];exact hu _ _ hij (Zr (Nat.lt_of_le_of_ne (Nat.le_of_not_lt fun h=>j2 ⟨h,hjk⟩) j1) p2)
  have ih:=vX hn f (bubble p k (k - l)) (k+1) (hp.bub k (k - l)) (by lia) hu2
  refine⟨a8 _ _ p1 ?_,ih.2⟩
  rw[hr];exact ih.1
include O in
theorem wG (h2:2<=n):kin n lt (kas_sort n)/\Ok n (bv lt (kas_sort n))/\Up lt (bv lt (kas_sort n)) n:=by
 have hp:Ok n (List.toArray (List.range n)):=⟨by simp,by simp⟩
 have c:=sP O h2 hp;unfold kas_sort;rw[bG];obtain⟨c1,c2,c3,c4,c5⟩:=c;generalize hr:bv lt (kas_count n (List.toArray (List.range n)))=r at*
 by_cases h:r.1<n
 ·have em:max r.1 1=r.1:=by lia
  have b:=vX O (by lia) (n - r.1) r.2 r.1 c2 (by lia) c5
  refine⟨a8 _ _ c1 ?_,?_⟩
  ·rw[hr,Zm h,em];exact b.1
  ·rw[Zm h,em];exact b.2
 ·have:r.1=n:=by lia
  refine⟨a8 _ _ c1 ?_,?_⟩
  ·rw[hr,Zo h];exact trivial
  ·rw[Zo h];exact⟨c2,by rw[<-this];exact c5⟩
end
section
variable{prog:Program}{w:World}{A:Around}{E:Value->Shared->Prop}{s:Shared}{vs:List Value}{a:Addr}
noncomputable def bC (vs:List Value) (p:List Nat):List Value:=p.map fun i=>vs.getD i Value.none
theorem uG {n:Nat}{P:PySem.Fin->Shared->Prop}{κ:SortKind}{lt:Nat->Nat->Bool}(ho:s.heap.get? a=some (seqObj "list" vs.toArray n)) (h64:vs.length<64) (O:Ord lt)
  (hk:2<=vs.length->∀h',(∀b o,b≠a->s.heap.get? b=some o->h'.get? b=some o)->∀Q:SortKind->Shared->Prop,Q κ {s with heap:=h'}->wpAny (model prog w) A (keyKind' vs.toArray) Q (fun y y=>False) {s with heap:=h'})
  (hlt:∀h',(∀b o,b≠a->s.heap.get? b=some o->h'.get? b=some o)->∀(i j:Nat) (C:Bool->Shared->Prop),i<vs.length->j<vs.length->C (lt i j) {s with heap:=h'}->wpAny (model prog w) A (keyLt' κ (vs.getD i Value.none) (vs.getD j Value.none)) C (fun y y=>False) {s with heap:=h'})
  (h:∀p:List Nat,p.Perm (List.range vs.length)->(∀i j,i<=j->j<vs.length->lt (p.getD j 0) (p.getD i 0)=false)->∀h' c,(∀b o,b≠a->s.heap.get? b=some o->h'.get? b=some o)->h'.get? a=some (seqObj "list" (bC vs p).toArray c)->P (.done (.ret .none)) {s with heap:=h'}):
  wpAny (model prog w) A (Builtin.«list.sort» ⟨[.ref a],[]⟩) P E s:=by
 have ha:a<s.heap.objs.size:=Zi ho;have hz:vs.length<=sizeLine:=by rw[Z7];lia
 rw[list_sort_plain];refine Za (listItems_at ho rfl (Za (YQ ho rfl ?_ (by rw[Zh];exact hz) (ZK _))))
 obtain⟨e1,g1⟩:∃e1,(s.heap.update a (Obj.mapSeq fun y=>(#[]:Array Value))).get? a=some (seqObj "list" #[] e1):=⟨_,YM ho fun y=>#[]⟩
 refine Za (seqEpoch_at g1 rfl (Za (wpAny_newTuple ?_ hz)))
 refine Za (wpAny_newList ?_ (ZK _))
 refine ZN ?_
 have keep:∀b o,b≠a->s.heap.get? b=some o->(((s.heap.update a (Obj.mapSeq fun y=>(#[]:Array Value))).push (seqObj "tuple" vs.toArray 0)).push (seqObj "list" #[] 0)).get? b=some o:=fun b o hb e=>
  Zc _ (Zc _ ((ZC s.heap _ (Zz hb)).trans e))
 have g3:(((s.heap.update a (Obj.mapSeq fun y=>(#[]:Array Value))).push (seqObj "tuple" vs.toArray 0)).push (seqObj "list" #[] 0)).get? a=some (seqObj "list" #[] e1):=Zc _ (Zc _ g1)
 show wpAny (model prog w) A _ P E {s with heap:=((s.heap.update a (Obj.mapSeq fun y=>(#[]:Array Value))).push (seqObj "tuple" vs.toArray 0)).push (seqObj "list" #[] 0)}
 generalize hH:(((s.heap.update a (Obj.mapSeq fun y=>(#[]:Array Value))).push (seqObj "tuple" vs.toArray 0)).push (seqObj "list" #[] 0))=H1 at*
 dsimp only;have fin:∀(st:SortSt) (p:List Nat),(arrOf st).map (·.2)=(bC vs p).toArray->failedOf st=none->p.Perm (List.range vs.length)->(∀i j,i<=j->j<vs.length->lt (p.getD j 0) (p.getD i 0)=false)->
   wpAny (model prog w) A (do
    let touched:=(<-seqEpoch a) != e1
    Builtin.List.listUpdate (.ref a) fun y=>(arrOf st).map (·.2)
    if let some e:=failedOf st then rule "list.sort.comparison-raised";throw e
    if touched then rule "list.sort.modified";raiseError "ValueError" "list modified during sort"
    ret .none) P E {s with heap:=H1}:=fun st p har hf hp hs=>by
  rw[har,hf];refine Za (seqEpoch_at g3 rfl (Za (YQ g3 rfl ?_ (ZK _) ?_)))
  ·simp only[bne_self_eq_false,Zx,ZY]
   obtain⟨c,g4⟩:∃c,(H1.update a (Obj.mapSeq fun y=>(bC vs p).toArray)).get? a=some (seqObj "list" (bC vs p).toArray c):=⟨_,YM g3 fun y=>(bC vs p).toArray⟩
   exact Zd (h p hp hs _ c (fun b o hb e=>(ZC H1 _ (Zz hb)).trans (keep b o hb e)) g4)
  ·rw[Zh];unfold bC;rw[Zn,hp.length_eq,YD];lia
 by_cases h2:vs.toArray.size<2
 ·rw[Zm h2,Zm h2]
  refine Za (Zd ?_)
  rw[StateT.run_pure];refine Za (Zd ?_)
  rw[Zh]at h2;refine fin (SortSt.mk' general' (vs.toArray.zip vs.toArray) #[] 7 none) (List.range vs.length) ?_ rfl (Yo _) (fun i j hij hj=>?_)
  ·show(vs.toArray.zip vs.toArray).map (fun(x:Value×Value)=>x.2)=_
   clear fin hlt hk h ho keep hH g3 g1
   rcases vs with _|⟨v,_|⟨v',r⟩⟩
   ·simp[bC]
   ·simp[bC,List.range_succ]
   ·exact absurd h2 (by simp)
  ·have e1:i=0:=by lia
   have e2:j=0:=by lia
   rw[e1,e2];exact O.irr _
 ·rw[Zo h2,Zo h2]
  rw[Zh]at h2;have h2':2<=vs.length:=by lia
  refine Za (Z8 (hk h2' H1 keep _ ?_) (fun y y q=>q) fun y y x=>x.elim)
  obtain⟨so1,so2,so3⟩:=wG O h2';have run:=kat_run (prog:=prog) (w:=w) (A:=A) (E:=E) (s:={s with heap:=H1}) (κ:=κ) (vs:=vs) (ks:=vs) (Q:=fun st' s'=>s'={s with heap:=H1}/\(arrOf st').map (·.2)=(bC vs (bv lt (kas_sort vs.length)).toList).toArray/\failedOf st'=none)
   (G:=fun p s'=>s'={s with heap:=H1}/\p=bv lt (kas_sort vs.length)) rfl h2' h64 (fun p st' s' hp har hf hz=>by obtain⟨e1,e2⟩:=hz;exact⟨e1,by rw[kat_snds rfl har,e2];rfl,hf⟩)
   (uU (fun i j C hi hj hC=>hlt H1 keep i j C hi hj hC) _ so1 ⟨rfl,rfl⟩)
  refine Za (Z8 run ?_ fun y y e=>e)
  rintro⟨⟨⟩,st'⟩ s' ⟨rfl,har,hf⟩
  refine fin st' _ har hf so2.pm (fun i j hij hj=>?_)
  have:=so3 i j hij hj;have g:∀(q:Array Nat) (m:Nat),q.toList.getD m 0=q.getD m 0:=fun q m=>by
   by_cases hm:m<q.size<;>simp[Array.getD,hm]
  rw[g,g];exact this
end
noncomputable def bZ (lt:D->D->Option Bool):List D->List D->Option Bool
 |[],[]=>some false
 |[],_::_=>some true
 |_::_,[]=>some false
 |x::xs,y::ys=>if x=y then bZ lt xs ys else lt x y
noncomputable def ltD:Nat->D->D->Option Bool
 |_,.int i,.int j=>some (decide (i<j))
 |_,.str x,.str y=>some (decide (x.cps.toList<y.cps.toList))
 |n+1,.tup xs,.tup ys=>bZ (ltD n) xs ys
 |_,_,_=>none
theorem yi {x y:Str}(h:x.cps.toList=y.cps.toList):x=y:=by
 obtain⟨a⟩:=x;obtain⟨b⟩:=y;simp only at h;rw[Array.toList_inj.mp h]
section
variable{lt:D->D->Option Bool}
theorem pi (h:∀x y z,lt x y=some true->lt y z=some true->lt x z=some true) (hi:∀x y,lt x y=some true->lt y x≠some true):∀xs ys zs,bZ lt xs ys=some true->bZ lt ys zs=some true->bZ lt xs zs=some true
 |[],[],_,a,_=>by simp[bZ]at a
 |[],_::_,[],_,b=>by simp[bZ]at b
 |[],_::_,_::_,_,_=>by simp[bZ]
 |_::_,[],_,a,_=>by simp[bZ]at a
 |_::_,_::_,[],_,b=>by simp[bZ]at b
 |x::xs,y::ys,z::zs,a,b=>by
  simp only[bZ]at a b⊢
  by_cases e1:x=y
  ·subst e1
   rw[Zm rfl]at a
   by_cases e2:x=z
   ·subst e2
    rw[Zm rfl]at b⊢;exact pi h hi xs ys zs a b
   ·rw[Zo e2]at b⊢;exact b
  ·rw[Zo e1]at a
   by_cases e2:y=z
   ·subst e2
    rw[Zo e1];exact a
   ·rw[Zo e2]at b
    by_cases e3:x=z
    ·subst e3;exact absurd b (hi _ _ a)
    ·rw[Zo e3];exact h _ _ _ a b
theorem rY (hi:∀x y,lt x y=some true->lt y x≠some true):∀xs ys,bZ lt xs ys=some true->bZ lt ys xs≠some true
 |[],[],a=>by simp[bZ]at a
 |[],_::_,_=>by simp[bZ]
 |_::_,[],a=>by simp[bZ]at a
 |x::xs,y::ys,a=>by
  simp only[bZ]at a⊢
  by_cases e1:x=y
  ·subst e1
   rw[Zm rfl]at a⊢;exact rY hi xs ys a
  ·rw[Zo e1]at a
   rw[Zo (Zz e1)];exact hi _ _ a
theorem lZ (h:∀x y,lt x y=some false->x=y\/lt y x=some true):∀xs ys,bZ lt xs ys=some false->xs=ys\/bZ lt ys xs=some true
 |[],[],_=>.inl rfl
 |[],_::_,a=>by simp[bZ]at a
 |_::_,[],_=>.inr (by simp[bZ])
 |x::xs,y::ys,a=>by
  simp only[bZ]at a⊢
  by_cases e1:x=y
  ·subst e1
   rw[Zm rfl]at a⊢
   rcases lZ h xs ys a with q|q
   ·exact .inl (by rw[q])
   ·exact .inr q
  ·rw[Zo e1]at a
   rcases h x y a with q|q
   ·exact absurd q e1
   ·rw[Zo (Zz e1)];exact .inr q
end
theorem uf (n:Nat) (i j:Int):ltD n (.int i) (.int j)=some (decide (i<j)):=by cases n<;>rfl
theorem t4 (n:Nat) (x y:Str):ltD n (.str x) (.str y)=some (decide (x.cps.toList<y.cps.toList)):=by cases n<;>rfl
noncomputable def LtR (n:Nat) (b:Bool) (x y:D):Prop:=(∃i j,x=.int i/\y=.int j/\decide (i<j)=b)\/(∃u v:Str,x=.str u/\y=.str v/\decide (u.cps.toList<v.cps.toList)=b)\/∃m xs ys,n=m+1/\x=.tup xs/\y=.tup ys/\bZ (ltD m) xs ys=some b
theorem cn {n:Nat}{x y:D}{b:Bool}(h:ltD n x y=some b):LtR n b x y:=by
 cases x with
 |int i=>
  cases y with
  |int j=>exact .inl ⟨i,j,rfl,rfl,Zb ((uf n i j).symm.trans h)⟩
  |_=>cases n<;>exact nS h
 |str u=>
  cases y with
  |str v=>exact .inr (.inl ⟨u,v,rfl,rfl,Zb ((t4 n u v).symm.trans h)⟩)
  |_=>cases n<;>exact nS h
 |tup xs=>
  cases n with
  |zero=>cases y<;>exact nS h
  |succ m=>
   cases y with
   |tup ys=>exact .inr (.inr ⟨m,xs,ys,rfl,rfl,rfl,h⟩)
   |_=>exact nS h
 |_=>cases n<;>exact nS h
theorem rC {n:Nat}(ih:∀m,n=m+1->∀x y,ltD m x y=some true->ltD m y x≠some true) (x y:D) (h:ltD n x y=some true):ltD n y x≠some true:=by
 rcases cn h with⟨i,j,rfl,rfl,g⟩|⟨u,v,rfl,rfl,g⟩|⟨m,xs,ys,e,rfl,rfl,g⟩
 ·rw[uf];intro q
  exact Int.lt_asymm (ZF g) (ZF (Zb q))
 ·rw[t4];intro q
  exact List.lt_asymm (ZF g) (ZF (Zb q))
 ·subst e;exact rY (ih m rfl) _ _ g
theorem mJ (n:Nat):∀(x y:D),ltD n x y=some true->ltD n y x≠some true:=by
 induction n with
 |zero=>exact rC fun m e=>nomatch e
 |succ n ih=>exact rC fun m e=>Nat.succ.inj e▸ih
theorem pG {n:Nat}(ih:∀m,n=m+1->∀x y z,ltD m x y=some true->ltD m y z=some true->ltD m x z=some true) (x y z:D) (h:ltD n x y=some true) (h':ltD n y z=some true):ltD n x z=some true:=by
 rcases cn h with⟨i,j,rfl,rfl,g⟩|⟨u,v,rfl,rfl,g⟩|⟨m,xs,ys,e,rfl,rfl,g⟩
 ·rcases cn h' with⟨i',j',e,rfl,g'⟩|⟨_,_,e,_⟩|⟨_,_,_,_,e,_⟩
  ·cases e;rw[uf,Zw (Int.lt_trans (ZF g) (ZF g'))]
  ·contradiction
  ·contradiction
 ·rcases cn h' with⟨_,_,e,_⟩|⟨u',v',e,rfl,g'⟩|⟨_,_,_,_,e,_⟩
  ·contradiction
  ·cases e;rw[t4,Zw (List.lt_trans (ZF g) (ZF g'))]
  ·contradiction
 ·subst e
  rcases cn h' with⟨_,_,e,_⟩|⟨_,_,e,_⟩|⟨m',xs',ys',e,e',rfl,g'⟩
  ·contradiction
  ·contradiction
  ·cases e;cases e';exact pi (ih m rfl) (mJ m) _ _ _ g g'
theorem zt (n:Nat):∀(x y z:D),ltD n x y=some true->ltD n y z=some true->ltD n x z=some true:=by
 induction n with
 |zero=>exact pG fun m e=>nomatch e
 |succ n ih=>exact pG fun m e=>Nat.succ.inj e▸ih
theorem lM {n:Nat}(ih:∀m,n=m+1->∀x y,ltD m x y=some false->x=y\/ltD m y x=some true) (x y:D) (h:ltD n x y=some false):x=y\/ltD n y x=some true:=by
 rcases cn h with⟨i,j,rfl,rfl,g⟩|⟨u,v,rfl,rfl,g⟩|⟨m,xs,ys,e,rfl,rfl,g⟩
 ·have h:=of_decide_eq_false g
  by_cases q:j<i
  ·exact .inr (by rw[uf,Zw q])
  ·exact .inl (by rw[Int.le_antisymm (Int.not_lt.mp q) (Int.not_lt.mp h)])
 ·have h:=of_decide_eq_false g
  by_cases q:v.cps.toList<u.cps.toList
  ·exact .inr (by rw[t4,Zw q])
  ·exact .inl (by rw[yi (List.le_antisymm (List.not_lt.mp q) (List.not_lt.mp h))])
 ·subst e
  rcases lZ (ih m rfl) _ _ g with q|q
  ·exact .inl (by rw[q])
  ·exact .inr q
theorem lj (n:Nat):∀(x y:D),ltD n x y=some false->x=y\/ltD n y x=some true:=by
 induction n with
 |zero=>exact lM fun m e=>nomatch e
 |succ n ih=>exact lM fun m e=>Nat.succ.inj e▸ih
noncomputable def LtAt (A:Around) (s:Shared) (y x:Value) (b:Bool):Prop:=
 ∀(prog:Program) (w:World) (E:Value->Shared->Prop) (Q:Value->Shared->Prop),Q (.bool b) s->wpAny (model prog w) A (richCompare .Lt y x) Q E s
inductive LexAt (A:Around) (s:Shared):List Value->List Value->Bool->Prop
 |none:LexAt A s [] [] false
 |less {w:Value}{ws:List Value}:LexAt A s [] (w::ws) true
 |more {v:Value}{vs:List Value}:LexAt A s (v::vs) [] false
 |eq {v w:Value}{vs ws:List Value}{b:Bool}:SeqAt.EqAt A s v w true->LexAt A s vs ws b->LexAt A s (v::vs) (w::ws) b
 |ne {v w:Value}{vs ws:List Value}{b:Bool}:SeqAt.EqAt A s v w false->LtAt A s v w b->LexAt A s (v::vs) (w::ws) b
section
open PySem.SeqAt
open PySem.AutoSeq1 (wpAny_loadPart')
open PySem.MeetsSeq PySem.MeetsSeq2 PySem.MeetsSeq3
theorem oG (l b:Addr) (items items2:Array Value) (n n2:Nat) (dd dd2:Option Addr) (sl sl2:Array (Option Value)) (r:Bool):
  Meets (Builtin.«tuple.__lt__» ⟨[.ref l,.ref b],[]⟩)
   (fun A R s=>s.heap.get? l=some {cls:=.type "tuple",dict:=dd,data:=.seq items n,slots:=sl}/\s.heap.get? b=some {cls:=.type "tuple",dict:=dd2,data:=.seq items2 n2,slots:=sl2}/\
    LexAt A.in1 s items.toList items2.toList r/\R (.ok (.ret (.bool r))) s):=
 .of_wp fun prog w A R s h=>by
  obtain⟨hp,g,d,tk,os⟩:=s;obtain⟨hl,hb,hx,h⟩:=h;have f2:=AutoSeq1.sub_tuple_tuple
  wp_walk using wpAny_loadPart' hl,wpAny_loadPart' hb,wpAny_forIn_list _ (fun rest b s'=>b.1=none/\s'=⟨hp,g,d,tk,os⟩/\∃(vs ws:List Value),rest=vs.zip ws/\
   LexAt A.in1 ⟨hp,g,d,tk,os⟩ vs ws r/\vs.length+items2.size=ws.length+items.size) _
  case turn=>
   rintro⟨y,x⟩ rest b s' hz9
   obtain⟨hb',rfl,vs,ws,hz,hlex,hlen⟩:=hz9;cases hlex with
   |none=>rw[List.zip_nil_left]at hz;contradiction
   |less=>rw[List.zip_nil_left]at hz;contradiction
   |more=>rw[List.zip_nil_right]at hz;contradiction
   |eq he ht=>
    rw[List.zip_cons_cons]at hz;injection hz with hyx hrest
    injection hyx with hy hx'
    subst hy hx';simp only[List.length_cons]at hlen;refine Za (he prog w _ _ ?_)
    wp_walk
    exact⟨rfl,rfl,_,_,hrest,ht,by lia⟩
   |ne he hlt=>
    rw[List.zip_cons_cons]at hz;injection hz with hyx hrest
    injection hyx with hy hx'
    subst hy hx';refine Za (he prog w _ _ ?_)
    have hri:=hlt prog w
    wp_walk using hri
    exact⟨_,rfl,by simpa using h⟩
  case fin=>
   rintro⟨b1,b2⟩ s' hz9
   obtain⟨hb',rfl,vs,ws,hz,hlex,hlen⟩:=hz9;simp only at hb';subst hb';have hv:r=decide (items.size<items2.size):=by
    cases hlex with
    |none=>simp only[List.length_nil]at hlen;exact(Zv (by lia)).symm
    |less=>simp only[List.length_nil,List.length_cons]at hlen;exact(Zw (by lia)).symm
    |more=>simp only[List.length_nil,List.length_cons]at hlen;exact(Zv (by lia)).symm
    |eq _ _=>rw[List.zip_cons_cons]at hz;contradiction
    |ne _ _=>rw[List.zip_cons_cons]at hz;contradiction
   rw[hv]at h
   wp_walk
   exact⟨_,rfl,by simpa[Builtin.Tuple.tupleCompareSizes]using h⟩
  case h=>exact⟨rfl,rfl,items.toList,items2.toList,rfl,hx,by simp only[Array.length_toList];lia⟩
end
theorem LtAt.tuples {A:Around}{s:Shared}{l b:Addr}{items items2:Array Value}{r:Bool}(hl:s.heap.IsTuple l items) (hb:s.heap.IsTuple b items2) (hu:A.units<cLine) (hx:LexAt A.in1 s items.toList items2.toList r):LtAt A s (.ref l) (.ref b) r:=fun prog w E Q h=>by
 obtain⟨⟨cls,dd,data,sl⟩,ho,hc,n,hd⟩:=id hl;obtain⟨⟨cls2,dd2,data2,sl2⟩,ho2,hc2,n2,hd2⟩:=id hb;simp only at hc hd hc2 hd2;subst hc hd hc2 hd2;exact richCompare_meets_room (op:=.Lt) ⟨_,ho,rfl⟩ ⟨_,ho2,rfl⟩ PySem.F.slot_tuple_lt PySem.F.entry_tuple_lt (PySem.F.args_tuple_lt_2 _ _) (oG l b items items2 n n2 dd dd2 sl sl2 r)
  ⟨ho,ho2,hx,show Value.bool r≠Value.notImplemented/\Q (.bool r) s from⟨(fun x=>nomatch x),h⟩⟩ hu
section
variable{X:Cx}{pins:List (Addr×Obj)}{σ:St}{H:Hp}{s:Shared}{B B':Addr->Prop}
theorem tS (I:Inv X pins σ H s) {n:Nat}{A:Around}(hA:A.units+n+1<cLine)
  (ih:∀(d e:D) (x y:V) (u w:Value) (r:Bool),okD n d=true->okD n e=true->Rep X.K B H d x->Rep X.K B' H e y->RelV x u->RelV y w->ltD n d e=some r->LtAt A s u w r):
  ∀(ds es:List D) (xs ys:List V) (us ws:List Value) (r:Bool),ds.all (okD n)=true->es.all (okD n)=true->Reps X.K B H ds xs->Reps X.K B' H es ys->Vals xs us->Vals ys ws->bZ (ltD n) ds es=some r->LexAt A s us ws r
 |[],[],xs,ys,us,ws,r,hd,he,r1,r2,v1,v2,h=>by
  simp only[Reps]at r1 r2;subst r1 r2;cases v1;cases v2;simp only[bZ,ZG]at h;subst h;exact .none
 |[],e::es,xs,ys,us,ws,r,hd,he,r1,r2,v1,v2,h=>by
  simp only[Reps]at r1 r2;subst r1;obtain⟨y,t,rfl,_,_⟩:=r2;cases v1;cases v2;simp only[bZ,ZG]at h;subst h;exact .less
 |d::ds,[],xs,ys,us,ws,r,hd,he,r1,r2,v1,v2,h=>by
  simp only[Reps]at r1 r2;subst r2;obtain⟨y,t,rfl,_,_⟩:=r1;cases v1;cases v2;simp only[bZ,ZG]at h;subst h;exact .more
 |d::ds,e::es,xs,ys,us,ws,r,hd,he,r1,r2,v1,v2,h=>by
  simp only[Reps]at r1 r2;obtain⟨x,xt,rfl,r1a,r1b⟩:=r1;obtain⟨y,yt,rfl,r2a,r2b⟩:=r2;cases v1 with
  |cons va vb=>
   cases v2 with
   |cons wa wb=>
    rw[List.all_cons,Zu]at hd he;have q:=(zE I n d e x y _ _ A hd.1 he.1 hA r1a r2a va wa).2.1;simp only[bZ]at h
    by_cases c:d=e
    ·rw[Zm c]at h
     rw[Zw c]at q;exact .eq q (tS I hA ih ds es xt yt _ _ r hd.2 he.2 r1b r2b vb wb h)
    ·rw[Zo c]at h
     rw[Zv c]at q;exact .ne q (ih d e x y _ _ r hd.1 he.1 r1a r2a va wa h)
theorem B8 (I:Inv X pins σ H s):∀(n:Nat) (d e:D) (x y:V) (u w:Value) (r:Bool) (A:Around),okD n d=true->okD n e=true->A.units+n+1<cLine->Rep X.K B H d x->Rep X.K B' H e y->RelV x u->RelV y w->ltD n d e=some r->LtAt A s u w r:=by
 intro n
 induction n with
 |zero=>
  intro d e x y u w r A _ _ _ rd re rx ry h
  rcases cn h with⟨i,j,rfl,rfl,g⟩|⟨i,j,rfl,rfl,g⟩|⟨_,_,_,z,_⟩
  ·simp only[Rep]at rd re;subst rd re
   obtain⟨t,rfl⟩:=rx;obtain⟨t',rfl⟩:=ry;subst g;exact fun prog w E Q hq=>HT.rcLt_int A s i t j t' prog w E Q hq
  ·simp only[Rep]at rd re;subst rd re
   obtain⟨t,rfl⟩:=rx;obtain⟨t',rfl⟩:=ry;subst g;exact fun prog w E Q hq=>(lt_str hq:wpAny (model prog w) A (compareOp .Lt (.str i t) (.str j t')) Q E s)
  ·contradiction
 |succ n ih=>
  intro d e x y u w r A hd he hA rd re rx ry h
  rcases cn h with⟨i,j,rfl,rfl,g⟩|⟨i,j,rfl,rfl,g⟩|⟨m,ds,es,z,rfl,rfl,g⟩
  ·simp only[Rep]at rd re;subst rd re
   obtain⟨t,rfl⟩:=rx;obtain⟨t',rfl⟩:=ry;subst g;exact fun prog w E Q hq=>HT.rcLt_int A s i t j t' prog w E Q hq
  ·simp only[Rep]at rd re;subst rd re
   obtain⟨t,rfl⟩:=rx;obtain⟨t',rfl⟩:=ry;subst g;exact fun prog w E Q hq=>(lt_str hq:wpAny (model prog w) A (compareOp .Lt (.str i t) (.str j t')) Q E s)
  ·cases z
   simp only[Rep]at rd re;obtain⟨a,xs,rfl,hq,r1⟩:=rd;obtain⟨b,ys,rfl,hq',r2⟩:=re;cases rx;cases ry;obtain⟨its,v1,t1,_⟩:=I.tuple (SqT.of hq);obtain⟨its2,v2,t2,_⟩:=I.tuple (SqT.of hq');simp only[okD]at hd he;have hA':A.in1.units+n+1<cLine:=by show A.units+1+n+1<cLine;lia
   exact LtAt.tuples t1 t2 (by lia) (by simpa using tS I hA' (fun d e x y u w r o1 o2 r1 r2 v1 v2 hl=>ih d e x y u w r A.in1 o1 o2 hA' r1 r2 v1 v2 hl) ds es xs ys its its2 r hd he r1 r2 v1 v2 g)
end
noncomputable def leD (x y:D):Prop:=ltD 15 y x≠some true
noncomputable def lE (x:D):List D->List D
 |[]=>[x]
 |y::ys=>if ltD 15 y x=some true then y::lE x ys else x::y::ys
noncomputable def cP (ds:List D):List D:=ds.foldr lE []
noncomputable def fF (ds:List D):Bool:=ds.all fun x=>okD 15 x&&ds.all fun y=>(ltD 15 x y).isSome
theorem gI {ds:List D}(h:fF ds=true) {x y:D}(hx:x∈ds) (hy:y∈ds):∃b,ltD 15 x y=some b:=by
 unfold fF at h;have h1:=ZH.mp h x hx;rw[Zu]at h1;exact Option.isSome_iff_exists.mp (ZH.mp h1.2 y hy)
theorem oH {ds:List D}(h:fF ds=true) {x:D}(hx:x∈ds):okD 15 x=true:=by
 unfold fF at h;have h1:=ZH.mp h x hx;rw[Zu]at h1;exact h1.1
theorem ff (x:D):∀l:List D,(lE x l).Perm (x::l)
 |[]=>Yo _
 |y::ys=>by
  unfold lE;split
  ·exact((ff x ys).cons y).trans (List.Perm.swap x y ys)
  ·exact Yo _
theorem cu:∀ds:List D,(cP ds).Perm ds
 |[]=>Yo _
 |d::ds=>by
  show(lE d (cP ds)).Perm (d::ds);exact(ff d _).trans ((cu ds).cons d)
theorem vZ {x y z:D}{ds:List D}(h:fF ds=true) (hx:x∈ds) (hy:y∈ds) (hz:z∈ds) (a:leD x y) (b:leD y z):leD x z:=by
 unfold leD at*;intro c;obtain⟨r1,e1⟩:=gI h hy hx;obtain⟨r2,e2⟩:=gI h hz hy;cases r1 with
 |true=>exact a e1
 |false=>
  cases r2 with
  |true=>exact b e2
  |false=>
   rcases lj 15 _ _ e1 with q1|q1
   ·subst q1;exact b c
   ·rcases lj 15 _ _ e2 with q2|q2
    ·subst q2;exact a c
    ·exact mJ 15 _ _ (zt 15 _ _ _ q1 q2) c
theorem zx {x y:D}{ds:List D}(h:fF ds=true) (hx:x∈ds) (hy:y∈ds) (a:leD x y) (b:leD y x):x=y:=by
 unfold leD at*;obtain⟨r1,e1⟩:=gI h hx hy;cases r1 with
 |true=>exact absurd e1 b
 |false=>
  rcases lj 15 _ _ e1 with q|q
  ·exact q
  ·exact absurd q a
theorem eB {x:D}{ds:List D}(h:fF ds=true) (hx:x∈ds):∀l:List D,(∀y∈l,y∈ds)->l.Pairwise leD->(lE x l).Pairwise leD
 |[],_,_=>by simp[lE]
 |y::ys,hm,hp=>by
  unfold lE;obtain⟨h1,h2⟩:=List.pairwise_cons.mp hp;have hy:=hm y Zg;split
  ·rename_i c
   refine List.pairwise_cons.mpr ⟨fun z hz=>?_,eB h hx ys (fun z hz=>hm z (Ze _ hz)) h2⟩
   rcases ZA.mp ((ff x ys).mem_iff.mp hz)with q|q
   ·subst q;exact mJ 15 _ _ c
   ·exact h1 z q
  ·rename_i c
   refine List.pairwise_cons.mpr ⟨fun z hz=>?_,hp⟩
   rcases ZA.mp hz with q|q
   ·subst q;exact c
   ·exact vZ h hx hy (hm z hz) c (h1 z q)
theorem jy {ds:List D}(h:fF ds=true):(cP ds).Pairwise leD:=by
 have key:∀l:List D,(∀y∈l,y∈ds)->(cP l).Pairwise leD:=by
  intro l
  induction l with
  |nil=>intro _;exact List.Pairwise.nil
  |cons y l ih=>
   intro hm;exact eB h (hm y Zg) _ (fun z hz=>hm z (Ze _ ((cu l).mem_iff.mp hz))) (ih fun z hz=>hm z (Ze _ hz))
 exact key ds fun u h=>h
theorem gg {ds:List D}(h:fF ds=true):∀(l1 l2:List D),(∀y∈l1,y∈ds)->l1.Perm l2->l1.Pairwise leD->l2.Pairwise leD->l1=l2
 |[],l2,_,hp,_,_=>(List.nil_perm.mp hp).symm
 |a::l1,[],_,hp,_,_=>(List.perm_nil.mp hp)
 |a::l1,b::l2,hm,hp,h1,h2=>by
  obtain⟨p1,q1⟩:=List.pairwise_cons.mp h1;obtain⟨p2,q2⟩:=List.pairwise_cons.mp h2;have hm2:∀y∈b::l2,y∈ds:=fun y hy=>hm y (hp.mem_iff.mpr hy)
  have ab:a=b:=by
   have ha:a∈b::l2:=hp.mem_iff.mp Zg;have hb:b∈a::l1:=hp.mem_iff.mpr Zg
   rcases ZA.mp ha with z|z
   ·exact z
   ·rcases ZA.mp hb with y|y
    ·exact y.symm
    ·exact zx h (hm a Zg) (hm2 b Zg) (p1 b y) (p2 a z)
  subst ab;rw[gg h l1 l2 (fun y hy=>hm y (Ze _ hy)) (List.perm_cons a |>.mp hp) q1 q2]
inductive KD|ts|tt
noncomputable def li:KD->D->Bool
 |.ts,.tup (.str _::_)=>true
 |.tt,.tup (.tup _::_)=>true
 |_,_=>false
theorem ll {d:D}(h:li .ts d=true):∃x ds,d=.tup (.str x::ds):=by
 cases d with
 |tup l=>
  cases l with
  |nil=>exact nB h
  |cons a l=>
   cases a with
   |str x=>exact⟨_,_,rfl⟩
   |_=>exact nB h
 |_=>exact nB h
theorem ko {d:D}(h:li .tt d=true):∃x ds,d=.tup (.tup x::ds):=by
 cases d with
 |tup l=>
  cases l with
  |nil=>exact nB h
  |cons a l=>
   cases a with
   |tup x=>exact⟨_,_,rfl⟩
   |_=>exact nB h
 |_=>exact nB h
noncomputable def xS:KD->SortKind
 |.ts=>tuples' true
 |.tt=>tuples' false
section
variable{prog:Program}{w:World}{A:Around}{E:Value->Shared->Prop}{s:Shared}
theorem fM {b:Bool}{Q:Bool->Shared->Prop}{fin:Bool}{r:Bool}:∀{vs ws:List Value}{i:Nat},LexAt A s vs ws r->(b=false\/1<=i)->(fin=decide (vs.length<ws.length))->Q r s->KatLex prog w A b fin Q (vs.zip ws) i s:=by
 intro vs ws i h
 induction h generalizing i with
 |none=>
  intro hb hf q;subst hf;exact kat_nil (by simpa using q)
 |less=>
  intro hb hf q;rw[List.zip_nil_left];subst hf;exact kat_nil (by simpa using q)
 |more=>
  intro hb hf q;rw[List.zip_nil_right];subst hf;exact kat_nil (by simpa using q)
 |eq he ht ih=>
  intro hb hf q;rw[List.zip_cons_cons];refine kat_cons (he prog w _ _ (kat_yes ?_))
  exact ih (.inr (by lia)) (by rw[hf];simp) q
 |ne he hl=>
  intro hb hf q;rw[List.zip_cons_cons];refine kat_cons (he prog w _ _ (kat_no ?_))
  have hz:(b&&i==0)=false:=by
   rcases hb with z|z
   ·rw[z,Bool.false_and]
   ·have:(i==0)=false:=by simp;lia
    rw[this,Bool.and_false]
  rw[hz];exact kat_one _ _ (hl prog w _ _ q)
end
section
variable{X:Cx}{pins:List (Addr×Obj)}{σ:St}{H:Hp}{s:Shared}{B B':Addr->Prop}
theorem z0 (I:Inv X pins σ H s) {A:Around}(hA:A.units+20<cLine) {c:KD}{d e:D}{x y:V}{u w':Value}{r:Bool}(hd:okD 15 d=true) (he:okD 15 e=true) (kd:li c d=true) (ke:li c e=true) (rd:Rep X.K B H d x) (re:Rep X.K B' H e y) (rx:RelV x u) (ry:RelV y w')
  (h:ltD 15 d e=some r) {C:Bool->Shared->Prop}(q:C r s):wpAny (model X.prog X.w) A (keyLt' (xS c) u w') C (fun v v=>False) s:=by
 cases c with
 |ts=>
  obtain⟨i,ds,rfl⟩:=ll kd;obtain⟨j,es,rfl⟩:=ll ke;simp only[Rep]at rd re;obtain⟨a,xs,rfl,hq,r1⟩:=rd;obtain⟨b,ys,rfl,hq',r2⟩:=re;cases rx;cases ry;obtain⟨its,v1,⟨o1,g1,c1,n1,d1⟩,_⟩:=I.tuple (SqT.of hq);obtain⟨its2,v2,⟨o2,g2,c2,n2,d2⟩,_⟩:=I.tuple (SqT.of hq');refine kat_lt g1 d1 g2 d2 ?_
  simp only[Reps]at r1 r2;obtain⟨x,xt,rfl,r1a,r1b⟩:=r1;obtain⟨y,yt,rfl,r2a,r2b⟩:=r2;simp only[Rep]at r1a r2a;subst r1a r2a;simp only[okD,List.all_cons,Zu]at hd he;simp only[ltD,bZ,D.str.injEq]at h;cases v1 with
  |cons va vb=>
   cases v2 with
   |cons wa wb=>
    obtain⟨t,rfl⟩:=va;obtain⟨t',rfl⟩:=wa;show KatLex _ _ _ _ _ _ ((Value.str i t::_).zip (Value.str j t'::_)) 0 s;rw[List.zip_cons_cons]
    by_cases cij:i=j
    ·subst cij
     rw[Zm rfl]at h;have q1:=SeqAt.EqAt.str_str (A:=A) (s:=s) i t i t';rw[YH]at q1;refine kat_cons (q1 _ _ _ _ (kat_yes ?_))
     have lx:=tS (B:=B) (B':=B') I (n:=14) (A:=A) (by lia) (fun d e x y u w r o1 o2 r1 r2 v1 v2 hl=>B8 I 14 d e x y u w r A o1 o2 (by lia) r1 r2 v1 v2 hl) ds es xt yt _ _ r
      hd.2 he.2 r1b r2b vb wb h
     exact fM lx (.inr (Zk _)) (by simp) q
    ·rw[Zo cij]at h
     have q1:=SeqAt.EqAt.str_str (A:=A) (s:=s) i t j t';have eb:(i==j)=false:=by simpa using cij
     rw[eb]at q1;refine kat_cons (q1 _ _ _ _ (kat_no ?_))
     simp only[ZG]at h;subst h;exact oneLt_str q
 |tt=>
  obtain⟨i,ds,rfl⟩:=ko kd;obtain⟨j,es,rfl⟩:=ko ke;have rd':=rd;have re':=re;simp only[Rep]at rd re;obtain⟨a,xs,rfl,hq,r1⟩:=rd;obtain⟨b,ys,rfl,hq',r2⟩:=re;cases rx;cases ry;obtain⟨its,v1,⟨o1,g1,c1,n1,d1⟩,_⟩:=I.tuple (SqT.of hq);obtain⟨its2,v2,⟨o2,g2,c2,n2,d2⟩,_⟩:=I.tuple (SqT.of hq');refine kat_lt g1 d1 g2 d2 ?_
  have hd':(D.tup i::ds).all (okD 14)=true:=by simpa only[okD]using hd
  have he':(D.tup j::es).all (okD 14)=true:=by simpa only[okD]using he
  simp only[ltD]at h;have lx:=tS (B:=B) (B':=B') I (n:=14) (A:=A) (by lia) (fun d e x y u w r o1 o2 r1 r2 v1 v2 hl=>B8 I 14 d e x y u w r A o1 o2 (by lia) r1 r2 v1 v2 hl) _ _ xs ys _ _ r hd' he' (by simpa only[Reps]using r1) (by simpa only[Reps]using r2) v1 v2 h
  exact fM lx (.inl rfl) (by simp) q
theorem sO (I:Inv X pins σ H s) {A:Around}{c:KD}{ds:List D}{xs:List V}{us:List Value}(h2:2<=us.length) (hk:ds.all (li c)=true) (r:Reps X.K B H ds xs) (v:Vals xs us) {Q:SortKind->Shared->Prop}(q:Q (xS c) s):
  wpAny (model X.prog X.w) A (keyKind' us.toArray) Q (fun k k=>False) s:=by
 have each:∀u∈us,∃d x,li c d=true/\Rep X.K B H d x/\RelV x u:=fun u hu=>by
  obtain⟨j,hj⟩:=List.getElem?_of_mem hu
  have hl:=v.length;have hlt:j<xs.length:=by rw[hl];exact(List.getElem?_eq_some_iff.mp hj).1
  obtain⟨u',hu',ru⟩:=v.get (i:=j) (x:=xs[j]) (by simp[hlt])
  rw[hj]at hu';obtain rfl:=Zb hu';obtain⟨d,hd,rd⟩:=r.get' (i:=j) (x:=xs[j]) (by simp[hlt])
  exact⟨d,xs[j],ZH.mp hk d (ZQ hd),rd,ru⟩
 cases c with
 |ts=>
  have mk:∀(ds:List D) (xs:List V) (us:List Value),ds.all (li .ts)=true->Reps X.K B H ds xs->Vals xs us->∃fs,KatTups s.heap us fs/\fs.length=us.length/\∀f∈fs,∃z t,f=.str z t:=by
   intro ds
   induction ds with
   |nil=>intro xs us _ r v;simp only[Reps]at r;subst r;cases v;exact⟨[],.nil,rfl,fun k h=>by cases h⟩
   |cons d ds ih=>
    intro xs us hk r v;simp only[Reps]at r;obtain⟨x,xt,rfl,ra,rb⟩:=r;cases v with
    |cons va vb=>
     rw[List.all_cons,Zu]at hk;obtain⟨fs,f1,f2,f3⟩:=ih xt _ hk.2 rb vb;obtain⟨z,es,rfl⟩:=ll hk.1;simp only[Rep]at ra;obtain⟨a,ys,rfl,hq,rs⟩:=ra;cases va;obtain⟨its,v1,⟨o1,g1,c1,n1,d1⟩,_⟩:=I.tuple (SqT.of hq);simp only[Reps]at rs;obtain⟨y,yt,rfl,ry,_⟩:=rs;simp only[Rep]at ry;subst ry;cases v1 with
     |cons w1 w2=>
      obtain⟨t,rfl⟩:=w1;exact⟨.str z t::fs,.cons g1 c1 d1 (by simp) f1,by simp[f2],fun f hf=>by
       rcases ZA.mp hf with q|q
       ·exact⟨z,t,q⟩
       ·exact f3 f q⟩
  obtain⟨fs,f1,f2,f3⟩:=mk ds xs us hk r v;refine kat_kind (T:=.type "str") f1 (by lia) (fun f hf=>?_) (by decide) q
  obtain⟨z,t,rfl⟩:=f3 f hf;exact .now
 |tt=>
  have mk:∀(ds:List D) (xs:List V) (us:List Value),ds.all (li .tt)=true->Reps X.K B H ds xs->Vals xs us->∃fs,KatTups s.heap us fs/\fs.length=us.length/\∀f∈fs,∃b o,f=.ref b/\s.heap.get? b=some o/\o.cls=.type "tuple":=by
   intro ds
   induction ds with
   |nil=>intro xs us _ r v;simp only[Reps]at r;subst r;cases v;exact⟨[],.nil,rfl,fun k h=>by cases h⟩
   |cons d ds ih=>
    intro xs us hk r v;simp only[Reps]at r;obtain⟨x,xt,rfl,ra,rb⟩:=r;cases v with
    |cons va vb=>
     rw[List.all_cons,Zu]at hk;obtain⟨fs,f1,f2,f3⟩:=ih xt _ hk.2 rb vb;obtain⟨z,es,rfl⟩:=ko hk.1;simp only[Rep]at ra;obtain⟨a,ys,rfl,hq,rs⟩:=ra;cases va;obtain⟨its,v1,⟨o1,g1,c1,n1,d1⟩,_⟩:=I.tuple (SqT.of hq);simp only[Reps]at rs;obtain⟨y,yt,rfl,ry,_⟩:=rs;simp only[Rep]at ry;obtain⟨b,zs,rfl,hqb,_⟩:=ry;cases v1 with
     |cons w1 w2=>
      cases w1;obtain⟨_,_,⟨o2,g2,c2,_⟩,_⟩:=I.tuple (SqT.of hqb);exact⟨.ref b::fs,.cons g1 c1 d1 (by simp) f1,by simp[f2],fun f hf=>by
       rcases ZA.mp hf with q|q
       ·exact⟨b,o2,q,g2,c2⟩
       ·exact f3 f q⟩
  obtain⟨fs,f1,f2,f3⟩:=mk ds xs us hk r v;refine kat_kind (T:=.type "tuple") f1 (by lia) (fun f hf=>?_) (by decide) q
  obtain⟨b,o,rfl,g,hc⟩:=f3 f hf;rw[<-hc];exact(Looks.ld g).andThen .now
end
theorem eE {α:Type}(l:List α) (d:α) {i:Nat}(h:i<l.length):l.getD i d=l[i]:=by simp[h]
theorem xo {α:Type}(l:List α) (d:α) {i:Nat}(h:l.length<=i):l.getD i d=d:=by simp[h]
noncomputable def atG (ds:List D) (i:Nat):D:=ds.getD i (ds.headD .non)
theorem kT {ds:List D}(h:ds≠[]) (i:Nat):atG ds i∈ds:=by
 unfold atG;cases ds with
 |nil=>exact absurd rfl h
 |cons d ds=>
  by_cases hi:i<(d::ds).length
  ·rw[eE _ _ hi];exact Yw hi
  ·rw[xo _ _ (by lia)];exact Zg
theorem Bz {ds:List D}(h:fF ds=true):Ord (fun i j=>decide (ltD 15 (atG ds i) (atG ds j)=some true)):=by
 by_cases hn:ds=[]
 ·subst hn
  have e:∀i,atG [] i=.non:=fun i=>rfl
  exact⟨fun i j q=>by simp only[e,ltD]at q;simp at q,fun i j k y y=>by simp[e,ltD]⟩
 ·refine⟨fun i j q=>Zv (mJ 15 _ _ (ZF q)),fun i j k a b=>Zv ?_⟩
  exact vZ h (kT hn i) (kT hn j) (kT hn k) (of_decide_eq_false a) (of_decide_eq_false b)
theorem Reps.getP {K:PySem.W.Frag}{B:Addr->Prop}{H:Hp}{ds:List D}{xs:List V}(r:Reps K B H ds xs):∀p:List Nat,(∀i∈p,i<ds.length)->Reps K B H (p.map fun i=>ds.getD i .non) (p.map fun i=>xs.getD i .non)
 |[],_=>Reps.nil
 |i::p,h=>by
  have hi:=h i Zg;obtain⟨x,hx,rx⟩:=r.get (i:=i) (d:=ds[i]) (by simp[hi])
  refine Reps.cons ?_ (Reps.getP r p fun j hj=>h j (Ze _ hj))
  have e1:ds.getD i .non=ds[i]:=by simp[hi]
  have e2:xs.getD i .non=x:=by rw[YU,hx];rfl
  show Rep K B H (ds.getD i .non) (xs.getD i .non);rw[e1,e2];exact rx
theorem Vals.getP {xs:List V}{us:List Value}(r:Vals xs us):∀p:List Nat,(∀i∈p,i<xs.length)->Vals (p.map fun i=>xs.getD i .non) (bC us p)
 |[],_=>.nil
 |i::p,h=>by
  have hi:=h i Zg;obtain⟨u,hu,ru⟩:=r.get (i:=i) (x:=xs[i]) (by simp[hi])
  refine .cons ?_ (Vals.getP r p fun j hj=>h j (Ze _ hj))
  have e1:xs.getD i .non=xs[i]:=by simp[hi]
  have e2:us.getD i Value.none=u:=by rw[YU,hu];rfl
  show RelV (xs.getD i .non) (us.getD i Value.none);rw[e1,e2];exact ru
theorem fA (ds:List D):(List.range ds.length).map (fun i=>ds.getD i .non)=ds:=by
 apply List.ext_getElem?;intro i;rw[YT]
 by_cases hi:i<ds.length
 ·simp[hi]
 ·rw[Z0 (by simpa using hi),Z0 (by lia)];rfl
theorem pI {ds:List D}(h:fF ds=true) {p:List Nat}(hp:p.Perm (List.range ds.length)) (hs:∀i j,i<=j->j<ds.length->decide (ltD 15 (atG ds (p.getD j 0)) (atG ds (p.getD i 0))=some true)=false):
  (p.map fun i=>ds.getD i .non)=cP ds:=by
 have pl:p.length=ds.length:=by rw[hp.length_eq,YD]
 have hpl:∀i∈p,i<ds.length:=fun i hi=>List.mem_range.mp (hp.mem_iff.mp hi)
 have perm:(p.map fun i=>ds.getD i .non).Perm ds:=by
  have:=hp.map (fun i=>ds.getD i D.non)
  rw[fA]at this;exact this
 refine gg h _ _ (fun y hy=>perm.mem_iff.mp hy) (perm.trans (cu ds).symm) ?_ (jy h)
 rw[List.pairwise_iff_getElem];intro i j hi hj hij;rw[Zn]at hi hj;rw[List.getElem_map,List.getElem_map];have q:=of_decide_eq_false (hs i j (Nat.le_of_lt hij) (by lia))
 have e:∀k (hk:k<p.length),atG ds (p.getD k 0)=ds.getD p[k] .non:=fun k hk=>by
  have:p.getD k 0=p[k]:=by simp[hk]
  rw[this];unfold atG;have hl:=hpl p[k] (Yw hk);rw[eE _ _ hl,eE _ _ hl]
 rw[e j hj,e i hi]at q;exact q
section
variable{X:Cx}{m m' mm:Bool}{a b:Expr}{fa fb:DEnv->Option D}{pos p:Pos}
theorem kL {pins:List (Addr×Obj)}{σ:St}{H:Hp}{s:Shared}{B:Addr->Prop}{c:KD}{ds:List D}{ys:List V}{us:List Value}{Q:VK}{h1:Heap}{t1:Nat}(hu:X.A.units+64<cLine) (I:Inv X pins σ H s) (k1:∀b o,s.heap.get? b=some o->h1.get? b=some o) (hsz:s.heap.objs.size<=h1.objs.size)
  (r:Reps X.K B H ds ys) (v:Vals ys us) (h64:ds.length<64) (hc:fF ds=true) (hk:ds.all (li c)=true)
  (q:∀l zs,H l=none->Reps X.K B H (cP ds) zs->Q (.ref l) (upd H l (.lst zs))):
  wpAny (model X.prog X.w) X.A.in1 (do
   let l <-newList us
   let _ <-holding [l] (call (.builtin "list.sort") [l] [])
   ret l) (fun fin s'=>∃w,fin=.done (.ret w)/\EP X pins σ Q w s') X.xe {s with heap:=h1,toks:=t1}:=by
 have l1:=r.length;have l2:=v.length;have hz:us.length<=sizeLine:=by rw[Z7];lia
 refine Za (wpAny_newList ?_ hz)
 have g0:(h1.push (seqObj "list" us.toArray 0)).get? h1.objs.size=some (seqObj "list" us.toArray 0):=Zj _ rfl
 have k2:∀b o,s.heap.get? b=some o->b≠h1.objs.size/\(h1.push (seqObj "list" us.toArray 0)).get? b=some o:=fun b o e=>⟨Zy (Zi (k1 b o e)),Zc _ (k1 b o e)⟩
 refine Za (ZN (ZP slot_list_sort ⟨_,g0,rfl⟩ entry_list_sort ?_ (args_list_sort _)))
 have hA:X.A.in1.in1.units+20<cLine:=by show X.A.units+1+1+20<cLine;lia
 refine uG (s:={s with heap:=h1.push (seqObj "list" us.toArray 0),toks:=t1}) (vs:=us) (κ:=xS c) g0 (by lia) (Bz hc) (fun h2 h' kp Q' q'=>?_) (fun h' kp i j C hi hj hC=>?_) (fun pp hp hs h' cc kp g=>?_)
 ·have I1:Inv X pins σ H {s with heap:=h',toks:=t1}:=I.kept fun b o e=>kp b o (k2 b o e).1 (k2 b o e).2
  exact sO I1 h2 hk r v q'
 ·have I1:Inv X pins σ H {s with heap:=h',toks:=t1}:=I.kept fun b o e=>kp b o (k2 b o e).1 (k2 b o e).2
  have hi':i<ds.length:=by lia
  have hj':j<ds.length:=by lia
  obtain⟨x,hx,rx⟩:=r.get (i:=i) (d:=ds[i]) (by simp[hi'])
  obtain⟨y,hy,ry⟩:=r.get (i:=j) (d:=ds[j]) (by simp[hj'])
  obtain⟨ux,hux,vx⟩:=v.get hx;obtain⟨uy,huy,vy⟩:=v.get hy;have e1:us.getD i Value.none=ux:=by rw[YU,hux];rfl
  have e2:us.getD j Value.none=uy:=by rw[YU,huy];rfl
  have m1:ds[i]∈ds:=Yw hi';have m2:ds[j]∈ds:=Yw hj';rw[e1,e2];obtain⟨rr,er⟩:=gI hc m1 m2;refine z0 I1 hA (oH hc m1) (oH hc m2) (ZH.mp hk _ m1) (ZH.mp hk _ m2) rx ry vx vy er ?_
  have g1:atG ds i=ds[i]:=by unfold atG;exact eE _ _ hi'
  have g2:atG ds j=ds[j]:=by unfold atG;exact eE _ _ hj'
  simp only[g1,g2,er]at hC;cases rr with
  |true=>simpa using hC
  |false=>simpa using hC
 ·have hpl:∀i∈pp,i<ds.length:=fun i hi=>by rw[l1,l2];exact List.mem_range.mp (hp.mem_iff.mp hi)
  have hp':pp.Perm (List.range ds.length):=by rw[l1,l2];exact hp
  have es:=pI hc hp' (fun i j hij hj=>hs i j hij (by lia))
  have rz:Reps X.K B H (cP ds) (pp.map fun i=>ys.getD i .non):=by rw[<-es];exact r.getP pp hpl
  have vz:=v.getP pp (fun i hi=>by rw[<-l1];exact hpl i hi)
  have hlen:(pp.map fun i=>ys.getD i V.non).length<=sizeLine:=by rw[Zn,hp'.length_eq,YD,Z7];lia
  have hfr:H h1.objs.size=none:=I.hok.fresh hsz;refine⟨_,rfl,Zd ⟨_,rfl,.ref h1.objs.size,_,I.laid (a:=h1.objs.size) (o:=.lst (pp.map fun i=>ys.getD i .non)) (h':=h') (t':=t1) (fun b o e=>kp b o (k2 b o e).1 (k2 b o e).2) hsz ?_,rfl,q _ _ hfr rz⟩⟩
  exact⟨hlen,_,cc,vz,g⟩
theorem kK {c:KD}(hu:X.A.units+64<cLine):cO X (.builtin "sorted") (fun xs H Q=>∃B p ds ys,xs=[.ref p]/\SqL X.K H p ys/\Reps X.K B H ds ys/\ds.length<64/\fF ds=true/\ds.all (li c)=true/\
  ∀l zs,H l=none->Reps X.K B H (cP ds) zs->Q (.ref l) (upd H l (.lst zs))):=by
 intro pins s σ H xs us Q I r h;obtain⟨B,p,ds,ys,rfl,hq,rs,h64,hc,hk,q⟩:=h;obtain⟨u,rfl,rx⟩:=dP r;cases rx;obtain⟨its,rv,pl,hz⟩:=I.list hq;have l1:=rs.length;have l2:=rv.length;refine Calls.call_function_entry kind_sorted plain_sorted entry_sorted (args_sorted1 _) ?_
 unfold Builtin.«sorted»;refine Za (m:=checkCount "sorted" 1 1 _) (Zd (Za (collect_list pl.isList ?_ (by rw[Z7];lia))))
 have hsz:((s.heap.push (seqObj "list" #[] 0)).update s.heap.objs.size (Obj.mapSeq (· ++its.toArray))).objs.size=s.heap.objs.size+1:=by
  rw[YY,size_push']
 refine kL (t1:=s.toks) hu I (fun b o e=>?_) (by rw[hsz];lia) rs rv h64 hc hk q
 exact(ZC _ _ (Yc (Zi e))).trans (Zc _ e)
noncomputable def i9 (c:KD) (x:Option D):Option D:=match x with|some (.lst ds)=>if(decide (ds.length<64)&&fF ds&&ds.all (li c))=true then some (.lst (cP ds)) else none|_=>none
theorem l6 {c:KD}{ds:List D}(h1:ds.length<64) (h2:fF ds=true) (h3:ds.all (li c)=true):i9 c (some (.lst ds))=some (.lst (cP ds)):=by
 unfold i9;have:(decide (ds.length<64)&&fF ds&&ds.all (li c))=true:=by rw[Zw h1,h2,h3];rfl
 simp only[this,Z6]
set_option tactic.hygienic true in
theorem oE {c:KD}(hu:X.A.units+64<cLine) (g:Gl X "sorted") (hm:X.mg "sorted"=none) (ha:DE X false a fa) (hs:starEach [a] X.env=[(false,eval a X.env)]:=by rfl):DF X (.Call (.Name "sorted" p) [a] [] pos) (fun δ=>i9 c (fa δ)):=
 (bM (kK (c:=c) hu) g hm c6 (ar ha aH hs) (he:=hs)).imp fun σ H Q hz=>by
  obtain⟨B,Hk,δ,d,R,e,k⟩:=hz;unfold i9 at e;split at e
  ·rename_i ds qd
   by_cases cc:(decide (ds.length<64)&&fF ds&&ds.all (li c))=true
   ·rw[Zm cc]at e;obtain rfl:=Zb e
    rw[Zu,Zu]at cc;obtain⟨⟨c1,c2⟩,c3⟩:=cc;refine kN R qd fun v H' s R' r=>?_
    simp only[Rep]at r;obtain⟨l,xs,rfl,hq,rs⟩:=r;refine⟨_,l,ds,xs,rfl,hq.sq,rs,ZF c1,c2,c3,fun l' zs hl rz=>?_⟩
    have s2:=am (o:=.lst zs) hl;exact k l' _ (s.trans s2) (s.free hl) ⟨_,af,rz.same (m:=false) R' s2⟩
   ·rw[Zo cc]at e;contradiction
  ·contradiction
end
theorem cH:entryFor table "dict.update.loop"=some Builtin.«dict.update.loop»:=entryFor_of_tree (by kernel_rfl)
theorem ba:plainId "dict.update.loop"=true:=by decide +kernel
theorem po:typeLookup (.type "list") "keys"=pure none:=by rw[typeLookup_type,YN];kernel_rfl
theorem ww {prog:Program}{w:World}{A:Around}{E:Value->Shared->Prop}{s:Shared}{a:Addr}{o:Obj}{xs:Array Value}{k:Nat}{Q:Option Value->Shared->Prop}
  (hx:s.heap.get? a=some o) (hc:o.cls=.type "list") (hdat:o.data=.seq xs k) (hd:o.dict=none) (hA:A.handled=none)
  (h:∀h' tk,(∀b o,s.heap.get? b=some o->h'.get? b=some o)->Q none {s with heap:=h',toks:=tk}):wpAny (model prog w) A (getAttr? (.ref a) "keys") Q E s:=by
 obtain⟨c,dct,dat,sl⟩:=o;simp only at hc hdat hd;subst hc hdat hd;obtain⟨hp,g,d,tk,os⟩:=s;have hT:∀tk',(⟨hp,g,d,tk',os⟩:Shared).TypeIs (.ref a) "list":=fun y=>⟨_,hx,rfl⟩
 have f1:=sub_AttributeError;have f3:=F.slot_list_getattribute.lookup;have f4:=F.slot_list_getattribute.bind (.ref a);have f5:=am_list_getattr_none;unfold getAttr? getAttrBy? getAttrBy
 repeat (any_goals (first|assumption|exact hT _|((with_reducible show wpAny _ _ (call (Value.builtin "list.__getattribute__") _ _) _ _ _);refine call_meets F.slot_list_getattribute (hT _) am_entry_list_getattribute (F.args_list_getattribute_2 _ _) (meets_getattribute_miss_list a xs k sl _ _ po (by decide) (by decide)) ⟨hx,hA,fun h' tk' e hx'=>?_⟩)|wp_step))
 obtain⟨t',u',he⟩:=hx'.there;show wpAny _ _ (getattributeRaised _ _ _ _ _ _ _) _ _ _;unfold getattributeRaised
 repeat (any_goals (first|assumption|wp_step))
 exact h _ _ hx'.keeps
section
variable{X:Cx}{pins:List (Addr×Obj)}{σ:St}{H:Hp}{s:Shared}{A:Around}{E:Value->Shared->Prop}
end
section
variable{X:Cx}
end
noncomputable def dG:D->Option Key
 |.int i=>some (.inl i)
 |.str x=>some (.inr x)
 |_=>none
noncomputable def keysOf:List D->Option (List Key)
 |[]=>some []
 |d::ds=>(match dG d,keysOf ds with|some k,some ks=>some (k::ks)|_,_=>none)
section
variable{X:Cx}{m m' mm:Bool}{a b c:Expr}{fa fb fc:DEnv->Option D}{pos apos cpos:Pos}
end
noncomputable def cF:List D->Option (List Str)
 |[]=>some []
 |.str i::ds=>(match cF ds with|some l=>some (i::l)|none=>none)
 |_=>none
theorem je (ns:List Str):cF (ns.map D.str)=some ns:=by
 induction ns with
 |nil=>rfl
 |cons n ns ih=>simp only[Zf,cF,ih]
theorem dl:∀{ds:List D}{ns:List Str},cF ds=some ns->ds=ns.map D.str
 |[],ns,h=>by simp only[cF,ZG]at h;subst h;rfl
 |.str i::ds,ns,h=>by
  simp only[cF]at h;cases q:cF ds with
  |none=>rw[q]at h;contradiction
  |some l=>
   rw[q]at h;simp only[ZG]at h;subst h;rw[Zf,dl q]
 |.non::ds,ns,h=>by simp[cF]at h
 |.bl _::ds,ns,h=>by simp[cF]at h
 |.int _::ds,ns,h=>by simp[cF]at h
 |.tup _::ds,ns,h=>by simp[cF]at h
 |.lst _::ds,ns,h=>by simp[cF]at h
 |.dK _ _::ds,ns,h=>by simp[cF]at h
 |.dD _ _::ds,ns,h=>by simp[cF]at h
theorem Reps.strs {K:PySem.W.Frag}{B:Addr->Prop}{H:Hp}:∀{ns:List Str}{xs:List V},Reps K B H (ns.map D.str) xs->xs=ns.map V.str
 |[],xs,h=>by simpa only[ZX,Reps]using h
 |n::ns,xs,h=>by
  simp only[Zf,Reps]at h;obtain⟨x,r,rfl,h1,h2⟩:=h;simp only[Rep]at h1;rw[Zf,h1,Reps.strs h2]
theorem mU {ns:List Str}:∀{us:List Value},Vals (ns.map V.str) us->StrsAre us ns:=by
 induction ns with
 |nil=>intro us r;rw[ZX]at r;cases r;exact .nil
 |cons n ns ih=>
  intro us r;rw[Zf]at r;cases r with
  |cons r1 r2=>
   obtain⟨t,e⟩:=r1;subst e;exact .cons n t (ih r2)
section
variable{X:Cx}{m m' mm:Bool}{a b:Expr}{fa fb:DEnv->Option D}{pos p apos cpos:Pos}
theorem wF:MtM X "str.join" (fun x vs H Q=>∃(z:Str) (p:Addr) (ys:List Str),x=.str z/\vs=[.ref p]/\SqL X.K H p (ys.map V.str)/\(ys.map (·.length)).sum+ys.length*z.length<=16777216/\Q (.str (Txt.join z ys)) H):=by
 intro pins s σ H x vs v us Q I rx rv h;obtain⟨z,p,ys,rfl,rfl,hq,hl,q⟩:=h;obtain⟨t,rfl⟩:=rx;obtain⟨u,rfl,ru⟩:=rv.one;cases ru;obtain⟨its,r,pl,hz⟩:=I.list hq;exact join_list pl.isList (by simpa using mU r) hl fun t' k=>⟨.str _,H,I.tok k,⟨t',rfl⟩,q⟩
noncomputable def oW (x y:Option D):Option D:=match x,y with|some (.str z),some (.lst ds)=>(match cF ds with|some ys=>if(ys.map (·.length)).sum+ys.length*z.length<=16777216 then some (.str (Txt.join z ys)) else none|none=>none)|_,_=>none
set_option tactic.hygienic true in
theorem ya (ha:DE X m a fa) (hb:DE X m' b fb) (hbase:attributeBase a "join" X.env (eval a X.env)=eval a X.env:=by rfl)
  (hfew:((backTo cpos (starEach [b] X.env)).all (fun x=>!x.1)&&(backToKw cpos (keywordEach [] X.env)).all (fun x=>x.1.isSome)&&decide (([b]).length+([]:List Keyword).length+(if([]:List Keyword).isEmpty then 0 else 1)<30))=true:=by rfl)
  (hline:(apos.endLine==cpos.line)=true:=by rfl) (hs:starEach [b] X.env=(false,eval b X.env)::starEach [] X.env:=by rfl):DE X mm (.Call (.Attribute a "join" apos) [b] [] cpos) (fun δ=>oW (fa δ) (fb δ)):=
 (nR PySem.F.plainAttrs_str PySem.F.slot_str_join PySem.F.type_str_join wF ha (ar hb aH hs) hbase hfew hline hs).imp fun σ H Q hz=>by
  obtain⟨B,Hk,δ,d,R,e,k⟩:=hz;unfold oW at e;split at e
  ·rename_i z ds q1 q2
   split at e
   ·rename_i ys qs
    obtain rfl:=dl qs
    by_cases c:(ys.map (·.length)).sum+ys.length*z.length<=16777216
    ·rw[Zm c]at e;obtain rfl:=Zb e
     refine⟨B,Hk,δ,_,R,q1,fun v H1 s1 r1=>?_⟩
     simp only[Rep]at r1;subst r1;refine⟨rfl,kN (R.to s1) q2 fun w H2 s2 R2 r2=>?_⟩
     simp only[Rep]at r2;obtain⟨l,xs,rfl,hq,rs⟩:=r2;obtain rfl:=rs.strs;exact⟨z,l,ys,rfl,rfl,hq.sq,c,k _ H2 (s1.trans s2) (by simp only[Rep])⟩
    ·rw[Zo c]at e;contradiction
   ·contradiction
  ·contradiction
theorem wo:MtM X "str.find" (fun x vs H Q=>∃(z y:Str),x=.str z/\vs=[.str y]/\Q (.int (Txt.find z y)) H):=by
 intro pins s σ H x vs v us Q I rx rv h;obtain⟨z,y,rfl,rfl,q⟩:=h;obtain⟨t,rfl⟩:=rx;obtain⟨u,rfl,ru⟩:=rv.one;obtain⟨t',rfl⟩:=ru;exact SC.find ⟨.int _,H,I.tok _,⟨_,rfl⟩,q⟩
noncomputable def uq (x y:Option D):Option D:=match x,y with|some (.str z),some (.str w)=>some (.int (Txt.find z w))|_,_=>none
set_option tactic.hygienic true in
theorem xx (ha:DE X m a fa) (hb:DE X m' b fb) (hbase:attributeBase a "find" X.env (eval a X.env)=eval a X.env:=by rfl)
  (hfew:((backTo cpos (starEach [b] X.env)).all (fun x=>!x.1)&&(backToKw cpos (keywordEach [] X.env)).all (fun x=>x.1.isSome)&&decide (([b]).length+([]:List Keyword).length+(if([]:List Keyword).isEmpty then 0 else 1)<30))=true:=by rfl)
  (hline:(apos.endLine==cpos.line)=true:=by rfl) (hs:starEach [b] X.env=(false,eval b X.env)::starEach [] X.env:=by rfl):DE X mm (.Call (.Attribute a "find" apos) [b] [] cpos) (fun δ=>uq (fa δ) (fb δ)):=
 (nR PySem.F.plainAttrs_str PySem.F.slot_str_find PySem.F.type_str_find wo ha (ar hb aH hs) hbase hfew hline hs).imp fun σ H Q hz=>by
  obtain⟨B,Hk,δ,d,R,e,k⟩:=hz;unfold uq at e;split at e
  ·rename_i z y q1 q2
   obtain rfl:=Zb e;refine⟨B,Hk,δ,_,R,q1,fun v H1 s1 r1=>?_⟩
   simp only[Rep]at r1;subst r1;refine⟨rfl,kN (R.to s1) q2 fun w H2 s2 R2 r2=>?_⟩
   simp only[Rep]at r2;subst r2;exact⟨z,y,rfl,rfl,k _ H2 (s1.trans s2) (by simp only[Rep])⟩
  ·contradiction
theorem r6 (l:Addr) (items:Array Value) (n:Nat) (b:Addr) (items2:Array Value) (n2:Nat) (s1 s2:Array (Option Value)) (hc0:items.size+items2.size<=sizeLine):
  Meets (Builtin.«list.__add__» ⟨[.ref l,.ref b],[]⟩) (fun y R s=>s.heap.get? l=some ⟨.type "list",none,.seq items n,s1⟩/\s.heap.get? b=some ⟨.type "list",none,.seq items2 n2,s2⟩/\R (.ok (.ret (Value.ref s.heap.objs.size))) {s with heap:=s.heap.push {cls:=Value.type "list",data:=Data.seq (items++items2)}}):=
 .of_wp fun prog w A R s h=>by
  obtain⟨hp,g,d,tk,os⟩:=s;obtain⟨hl,hb,h⟩:=h;have f1:=AutoSeq1.idx_int;have f2:=AutoSeq1.sub_tuple_tuple;have f3:=AutoSeq1.sub_list_list;have f4:=AutoSeq1.sub_tuple_list;have f5:=AutoSeq1.sub_list_tuple
  wp_walk using AutoSeq1.wpAny_loadPart' hl,AutoSeq1.wpAny_loadPart' hb
  exact⟨_,rfl,h⟩
theorem ro {P:Program}{w:World}{A:Around}{E:Value->Shared->Prop}{s:Shared}{l b:Addr}{its its2:Array Value}{Q:Value->Shared->Prop}(hl:PlainL s.heap l its) (hb:PlainL s.heap b its2)
  (h:Q (.ref s.heap.objs.size) {s with heap:=s.heap.push {cls:=.type "list",data:=.seq (its++its2)}}) (hsz:its.size+its2.size<=sizeLine):wpAny (model P w) A (binaryOp .Add (.ref l) (.ref b)) Q E s:=by
 obtain⟨⟨c1,d1,a1,s1⟩,n1,e1,rfl,rfl,rfl⟩:=hl;obtain⟨⟨c2,d2,a2,s2⟩,n2,e2,rfl,rfl,rfl⟩:=hb;exact concat_meets ⟨_,e1,rfl⟩ ⟨_,e2,rfl⟩ noFill_list_add seq_list_add F.slot_list_add F.entry_list_add (F.args_list_add_2 _ _) (r6 l its n1 b its2 n2 s1 s2 hsz) ⟨e1,e2,h⟩
theorem wD:OpR X (binaryOp .Add) (fun x y H Q=>∃l b xs zs,x=.ref l/\y=.ref b/\SqL X.K H l xs/\SqL X.K H b zs/\xs.length+zs.length<=sizeLine/\∀p,H p=none->Q (.ref p) (upd H p (.lst (xs++zs)))):=by
 intro pins s σ H x y v u Q I rx ry h;obtain⟨l,b,xs,zs,rfl,rfl,hH,hB,hz,q⟩:=h;cases rx;cases ry;obtain⟨its,r,pl,_⟩:=I.list hH;obtain⟨its2,r2,pl2,_⟩:=I.list hB;have hl:=r.length;have hl2:=r2.length;refine ro pl pl2 ?_ (by rw[Zh,Zh];lia)
 have ea:its.toArray++its2.toArray=(its++its2).toArray:=by simp
 rw[ea];exact⟨.ref _,_,I.lnew (t':=s.toks) (r.append r2) (by rw[ZO];lia),rfl,q _ I.fresh⟩
noncomputable def vh (x y:Option D):Option D:=match x,y with|some (.lst i),some (.lst j)=>if i.length+j.length<=lim then some (.lst (i++j)) else none|_,_=>none
theorem oK {x y:Option D}{d:D}(h:vh x y=some d):∃i j,x=some (.lst i)/\y=some (.lst j)/\i.length+j.length<=lim/\d=.lst (i++j):=by
 obtain⟨i,rfl⟩:∃i,x=some (.lst i):=by
  cases x with
  |none=>exact nS h
  |some a=>
   cases a with
   |lst i=>exact⟨i,rfl⟩
   |_=>exact nS h
 obtain⟨j,rfl⟩:∃j,y=some (.lst j):=by
  cases y with
  |none=>exact nS h
  |some a=>
   cases a with
   |lst j=>exact⟨j,rfl⟩
   |_=>exact nS h
 exact⟨i,j,rfl,rfl,ifB h⟩
theorem vY (ha:DE X false a fa) (hb:DE X false b fb):DF X (.BinOp a .Add b pos) (fun δ=>vh (fa δ) (fb δ)):=
 (tX wD ha hb).imp fun σ H Q hz=>by
  obtain⟨B,Hk,δ,d,R,e,k⟩:=hz;obtain⟨i,j,q1,q2,hz,rfl⟩:=oK e;refine two R q1 q2 fun v u H' s R' r1 r2=>?_
  simp only[Rep]at r1 r2;obtain⟨c,xs,rfl,hq,rs⟩:=r1;obtain⟨c2,xs2,rfl,hq2,rs2⟩:=r2;refine⟨c,c2,xs,xs2,rfl,rfl,hq.sq,hq2.sq,by rw[<-rs.length,<-rs2.length];exact aD hz,fun p hp=>?_⟩
  have s2:=am (o:=.lst (xs++xs2)) hp;exact k p _ (s.trans s2) (s.free hp) ⟨_,af,(rs.append rs2).same (m:=false) R' s2⟩
noncomputable def xJ (i:Nat) (x:Option D) (δ:DEnv):Option Out:=match bz i δ,x with|some (.lst ds),some (.lst es)=>if ds.length+es.length<=lim then some (.next (δ.set i (some (.lst (ds++es),true)))) else none|_,_=>none
set_option tactic.hygienic true in
theorem qT {i:Nat}{x:Option D}{δ:DEnv}{o:Out}(h:xJ i x δ=some o):∃ds es,δ[i]?=some (some (.lst ds,true))/\x=some (.lst es)/\ds.length+es.length<=lim/\o=.next (δ.set i (some (.lst (ds++es),true))):=by
 unfold xJ at h;split at h
 ·rename_i ds d q
  by_cases hl:ds.length+d.length<=lim
  ·rw[Zm hl]at h;obtain rfl:=Zb h;exact⟨ds,d,bE q,rfl,hl,rfl⟩
  ·rw[Zo hl]at h;contradiction
 ·contradiction
theorem pL {i:Nat}{x:Str}{px apos cpos:Pos}(ha:DF X a fa) (hN:X.N[i]?=some x:=by rfl) (hv:Vis X.env.scope x:=by first|exact Or.inl rfl|exact Or.inr (Or.inl rfl)|exact Or.inr (Or.inr rfl))
  (hbase:attributeBase (.Name x px) "extend" X.env (eval (.Name x px) X.env)=eval (.Name x px) X.env:=by rfl)
  (hfew:((backTo cpos (starEach [a] X.env)).all (fun x=>!x.1)&&(backToKw cpos (keywordEach [] X.env)).all (fun x=>x.1.isSome)&&decide (([a]).length+([]:List Keyword).length+(if([]:List Keyword).isEmpty then 0 else 1)<30))=true:=by rfl)
  (hline:(apos.endLine==cpos.line)=true:=by rfl) (hs:starEach [a] X.env=(false,eval a X.env)::starEach [] X.env:=by rfl) (hd:(x==("__debug__":Str))=false:=by decide) (hcd:(x==("__classdict__":Str))=false:=by decide)
  (hsw:swapsWith (.Call (.Attribute (.Name x px) "extend" apos) [a] [] cpos) none pos.line X.env=pure false:=by rfl):DS X (.Expr (.Call (.Attribute (.Name x px) "extend" apos) [a] [] cpos) pos) (fun δ=>xJ i (fa δ) δ):=
 (lF (nR PySem.F.plainAttrs_list PySem.F.slot_list_extend PySem.F.type_list_extend pQ (be hN hv hd hcd) (ar ha aH hs) hbase hfew hline hs) hsw).imp fun Dn σ H hz=>by
  obtain⟨B,Hk,δ,o,R,e,k⟩:=hz;obtain⟨ds,es,h1,e1,hl,rfl⟩:=qT e;obtain⟨l,h2,h3,xs,h4,h5⟩:=R.own i _ h1;refine⟨.ref l,h2,.inl ⟨rfl,xs,SqL.of h4⟩,B,Hk,δ,_,R,e1,fun p H' s hp ob=>?_⟩
  have R':=R.to s;have h4':=s l _ h4;have h5':Reps X.K B H' ds xs:=h5.ext (R.ext s);obtain⟨zs,h6,h7⟩:=ob;obtain⟨x1,x2⟩:=R'.lset (ds':=ds++es) (xs':=xs++zs) h1 h2 h4' (h5'.append h7);exact⟨l,p,xs,zs,rfl,rfl,h4',h6,by rw[<-h5.length,<-h7.length];exact aD hl,k σ _ ((R.ext s).trans x1) x2⟩
end
end L2
namespace L2
open PySem PySem.Spec PyProof.Rows
noncomputable def j5 (osc:Scope) (scope:Scope) (N:List Str) (bs:List Bool):Bool:=
 decide (scope.kind=.function)&&scope.names.all (fun y=>!decide (y.2=.cell))&&scope.names.all (fun y=>!decide (y.2=.local)||decide (scope.names.lookup y.1=some .local))&&
 scope.names.all (fun y=>!decide (y.2=.free)||(decide (scope.names.lookup y.1=some .free)&&(decide (osc.names.lookup y.1=some .cell)||decide (osc.names.lookup y.1=some .free))))&&
 decide (bs.length=N.length)&&(N.zip bs).all (fun p=>!p.2||decide (scope.names.lookup p.1=some .free))
theorem iU {X:Cx}{osc scope:Scope}{N:List Str}{bs:List Bool}(h1:X.env.scope=osc) (h2:X.N=N) (h:j5 osc scope N bs=true):CompScope X scope bs:=by
 unfold j5 at h;simp only[Zu,YS]at h;obtain⟨⟨⟨⟨⟨a,b⟩,c⟩,d⟩,e⟩,f⟩:=h;refine⟨a,fun y hy z=>?_,fun y hy z=>?_,fun y hy z=>?_,by rw[h2];exact e,fun i x hx hb=>?_⟩
 ·have:=ZH.mp b y hy
  rw[Zw z]at this;contradiction
 ·have:=ZH.mp c y hy
  rw[Zw z]at this
  simpa using this
 ·have:=ZH.mp d y hy
  rw[Zw z]at this;simp only[Yl,Bool.false_or,Zu,Bool.or_eq_true,YS]at this;refine⟨this.1,?_⟩
  unfold Env.kindOf;rw[h1];exact this.2
 ·rw[h2]at hx
  have hz:(N.zip bs)[i]?=some (x,true):=by rw[List.getElem?_zip_eq_some];exact⟨hx,hb⟩
  have:=ZH.mp f _ (ZQ hz)
  simpa using this
structure Nm (X:Cx) (i:Nat) (x:Str):Prop where
 at':X.N[i]?=some x
 vis:Vis X.env.scope x
 d1:(x==("__debug__":Str))=false
 d2:(x==("__classdict__":Str))=false
structure Lc (X:Cx) (i:Nat) (x:Str):Prop where
 at':X.N[i]?=some x
 loc:Loc X.env.scope x
 fnl:X.fn x=true\/X.env.scope.names.lookup x=some .local
structure Gb (X:Cx) (x:Str):Prop where
 gl:Gl X x
 d1:(x==("__debug__":Str))=false
noncomputable def Bt:Option NameKind->Bool
 |some .local=>true|some .cell=>true|some .free=>true|_=>false
noncomputable def BG:Option NameKind->Bool
 |some .local=>true|some .cell=>true|_=>false
noncomputable def nmB (N:List Str) (sc:Scope) (i:Nat) (x:Str):Bool:=decide (N[i]?=some x)&&Bt (sc.names.lookup x)&&!(x==("__debug__":Str))&&!(x==("__classdict__":Str))
noncomputable def lcB (N:List Str) (sc:Scope) (i:Nat) (x:Str):Bool:=decide (N[i]?=some x)&&BG (sc.names.lookup x)
noncomputable def Cv (N:List Str) (sc:Scope) (i:Nat) (x:Str):Bool:=decide (N[i]?=some x)&&decide (sc.names.lookup x=some .local)
noncomputable def gbB (sc:Scope) (x:Str):Bool:=decide (sc.names.lookup x=some .globalImplicit)&&!(x==("__debug__":Str))
theorem uo {sc:Scope}{x:Str}(h:Bt (sc.names.lookup x)=true):Vis sc x:=by
 unfold Bt at h;split at h
 ·rename_i e;exact .inl e
 ·rename_i e;exact .inr (.inl e)
 ·rename_i e;exact .inr (.inr e)
 ·contradiction
theorem uP {sc:Scope}{x:Str}(h:BG (sc.names.lookup x)=true):Loc sc x:=by
 unfold BG at h;split at h
 ·rename_i e;exact .inl e
 ·rename_i e;exact .inr e
 ·contradiction
structure Has (X:Cx) (N:List Str) (sc:Scope):Prop where
 n:X.N=N
 sc:X.env.scope=sc
 calm:X.calm=true
 nd:X.N.Nodup
theorem Has.nm {X:Cx}{N:List Str}{sc:Scope}{i:Nat}{x:Str}(h:Has X N sc) (b:nmB N sc i x=true):Nm X i x:=by
 unfold nmB at b;simp only[Zu,YS,Yp]at b;exact⟨by rw[h.n];exact b.1.1.1,by rw[h.sc];exact uo b.1.1.2,b.1.2,b.2⟩
theorem Has.lc {X:Cx}{N:List Str}{sc:Scope}{i:Nat}{x:Str}(h:Has X N sc) (hf:∀x,X.fn x=true) (b:lcB N sc i x=true):Lc X i x:=by
 unfold lcB at b;simp only[Zu,YS]at b;exact⟨by rw[h.n];exact b.1,by rw[h.sc];exact uP b.2,.inl (hf x)⟩
theorem Has.lcl {X:Cx}{N:List Str}{sc:Scope}{i:Nat}{x:Str}(h:Has X N sc) (b:Cv N sc i x=true):Lc X i x:=by
 unfold Cv at b;simp only[Zu,YS]at b;exact⟨by rw[h.n];exact b.1,by rw[h.sc];exact .inl b.2,.inr (by rw[h.sc];exact b.2)⟩
theorem Has.gb {X:Cx}{N:List Str}{sc:Scope}{x:Str}(h:Has X N sc) (b:gbB sc x=true):Gb X x:=by
 unfold gbB at b;simp only[Zu,YS,Yp]at b;refine⟨?_,b.2⟩
 unfold Gl Env.kindOf;rw[h.sc];exact b.1
noncomputable def CF (scope sc:Scope):Scope:=
 {scope with names:=scope.names.map fun(n,k)=>if(k==.free&&sc.kind==.function&&sc.names.lookup n==some .cell) then(n,.cell) else(n,k)}
theorem xY {scope sc:Scope}{env:Env}(h:env.scope=sc):relabel scope env=CF scope sc:=by subst h;rfl
theorem Has.comp {X:Cx}{N:List Str}{sc:Scope}(h:Has X N sc) (scope:Scope) (cl:List (Str×Addr)) (C:Addr) (s₂:Shared) (H₂:Hp) (ex:List Addr) (pn:List (Addr×Obj)):Has (az X scope cl C s₂ H₂ ex pn) N (CF scope sc):=
 ⟨h.n,xY h.sc,h.calm,h.nd⟩
theorem CompScope.of' {X:Cx}{N:List Str}{sc scope:Scope}{bs:List Bool}(h:Has X N sc) (b:j5 sc scope N bs=true):CompScope X scope bs:=iU h.sc h.n b
section
variable{X:Cx}{m m' mm:Bool}{a b e:Expr}{es:List Expr}{fa fb:DEnv->Option D}{fs:DEnv->Option (List D)}{pos p:Pos}{k:Nat}{x:Str}{f:List D->Option (D×Bool)}{i:Nat}
theorem nv (m:Bool) (n:Nm X i x):DE X m (.Name x pos) (rd m i):=zX n.at' n.vis n.d1 n.d2
theorem rA {pos':Pos}(n:X.N.Nodup) (l:Lc X i x) (ha:DE X false a fa) (hs:swapsWith a (some (.Name x pos')) pos.line X.env=pure false:=by rfl):DS X (.Assign [.Name x pos'] a pos) (fun δ=>bc i (fa δ) δ):=Ac (i:=i) (x:=x) (pos:=pos) (pos':=pos') n ha l.at' l.loc hs l.fnl
theorem hV {pos':Pos}(n:X.N.Nodup) (l:Lc X i x) (ha:DF X a fa) (hs:swapsWith a (some (.Name x pos')) pos.line X.env=pure false:=by rfl):DS X (.Assign [.Name x pos'] a pos) (fun δ=>dC i (fa δ) δ):=wM (i:=i) (x:=x) (pos:=pos) (pos':=pos') n ha l.at' l.loc hs l.fnl
theorem gY (n:X.N.Nodup) (l:Lc X i x):DG X (.Name x pos) (ae i):=wu n l.at' l.loc l.fnl
theorem mD {px:Pos}(n:Nm X i x):DS X (.Return (some (.Name x px)) pos) (fun δ=>dJ (bz i δ)):=xK (i:=i) (x:=x) (px:=px) (pos:=pos) n.at' n.vis n.d1 n.d2
theorem mE (F:FnM X.prog X.w X.K X.mg X.base k x f) (hr:Room k X.A) (g:Gb X x) (ha:DA X m (e::es) fs) (he:starEach (e::es) X.env=(false,eval e X.env)::starEach es X.env:=by rfl)
  (hpl:(backTo pos (starEach es X.env)).any (·.1)=false:=by rfl):DE X m (.Call (.Name x p) (e::es) [] pos) (fun δ=>shO (ac (fs δ) f)):=v5 F hr g.gl ha g.d1 he hpl
theorem lQ (F:FnM X.prog X.w X.K X.mg X.base k x f) (hr:Room k X.A) (g:Gb X x) (ha:DA X false (e::es) fs) (he:starEach (e::es) X.env=(false,eval e X.env)::starEach es X.env:=by rfl)
  (hpl:(backTo pos (starEach es X.env)).any (·.1)=false:=by rfl):DF X (.Call (.Name x p) (e::es) [] pos) (fun δ=>frO (ac (fs δ) f)):=xF (p:=p) F hr g.gl ha g.d1 he hpl
theorem iG (F:FnM X.prog X.w X.K X.mg X.base k x f) (hr:Room k X.A) (g:Gb X x) (ha:DA X true (e::es) fs) (he:starEach (e::es) X.env=(false,eval e X.env)::starEach es X.env:=by rfl)
  (hpl:(backTo pos (starEach es X.env)).any (·.1)=false:=by rfl):DF X (.Call (.Name x p) (e::es) [] pos) (fun δ=>flO (ac (fs δ) f)):=sx (p:=p) F hr g.gl ha g.d1 he hpl
theorem pJ {p:Pos}(g:Gb X "len") (hm:X.mg "len"=none) (ha:DE X m a fa) (hs:starEach [a] X.env=[(false,eval a X.env)]:=by rfl):DE X mm (.Call (.Name "len" p) [a] [] pos) (fun δ=>dM (fa δ)):=zu g.gl hm ha hs g.d1
variable{apos cpos px:Pos}
theorem fY (n:Nm X i x) (ha:DE X false a fa)
  (hbase:attributeBase (.Name x px) "append" X.env (eval (.Name x px) X.env)=eval (.Name x px) X.env:=by rfl)
  (hfew:((backTo cpos (starEach [a] X.env)).all (fun x=>!x.1)&&(backToKw cpos (keywordEach [] X.env)).all (fun x=>x.1.isSome)&&decide (([a]).length+([]:List Keyword).length+(if([]:List Keyword).isEmpty then 0 else 1)<30))=true:=by rfl)
  (hline:(apos.endLine==cpos.line)=true:=by rfl) (hs:starEach [a] X.env=(false,eval a X.env)::starEach [] X.env:=by rfl)
  (hsw:swapsWith (.Call (.Attribute (.Name x px) "append" apos) [a] [] cpos) none pos.line X.env=pure false:=by rfl):DS X (.Expr (.Call (.Attribute (.Name x px) "append" apos) [a] [] cpos) pos) (fun δ=>kG i (fa δ) δ):=
 pZ ha n.at' n.vis hbase hfew hline hs n.d1 n.d2 hsw
theorem nY (n:Nm X i x) (ha:DF X a fa)
  (hbase:attributeBase (.Name x px) "extend" X.env (eval (.Name x px) X.env)=eval (.Name x px) X.env:=by rfl)
  (hfew:((backTo cpos (starEach [a] X.env)).all (fun x=>!x.1)&&(backToKw cpos (keywordEach [] X.env)).all (fun x=>x.1.isSome)&&decide (([a]).length+([]:List Keyword).length+(if([]:List Keyword).isEmpty then 0 else 1)<30))=true:=by rfl)
  (hline:(apos.endLine==cpos.line)=true:=by rfl) (hs:starEach [a] X.env=(false,eval a X.env)::starEach [] X.env:=by rfl)
  (hsw:swapsWith (.Call (.Attribute (.Name x px) "extend" apos) [a] [] cpos) none pos.line X.env=pure false:=by rfl):DS X (.Expr (.Call (.Attribute (.Name x px) "extend" apos) [a] [] cpos) pos) (fun δ=>xJ i (fa δ) δ):=
 pL ha n.at' n.vis hbase hfew hline hs n.d1 n.d2 hsw
noncomputable def swB (sc scope:Scope) (t:Str) (l1 l2:Nat):Bool:=
 ((if sc.kind.isAnnotationScope then ScopeKind.function else sc.kind)==.function)&&sc.names.lookup t==some .local&&l1==l2&&!(scope.names.any fun(n,k)=>n==t&&(k==.local||k==.cell))
theorem dn {N:List Str}{sc scope:Scope}{c:Bool}{elt:Expr}{gens:List Comprehension}{pos':Pos}{l:Nat}(h:Has X N sc) (q:swB sc scope x pos'.line pos.line=c):
  swapsWith (.ListComp elt gens scope pos) (some (.Name x pos')) l X.env=pure c:=by
 subst q;unfold swB;rw[<-h.sc];rfl
variable{elt tg iter:Expr}{ifs:List Expr}{scope:Scope}{bo:Bool}{fi:DEnv->Option (List D)}{τ:D->DEnv->Option DEnv}{ft:DEnv->Option Bool}{fe:DEnv->Option D}{bs:List Bool}
theorem iI {y:Str}{N:List Str}{sc:Scope}(h:Has X N sc) (b:decide (sc.names.lookup y=some .local)=true):X.env.scope.names.lookup y=some .local:=by rw[h.sc];exact ZF b
theorem tO {y:Str}{py spos:Pos}{N:List Str}{sc:Scope}(h:Has X N sc) (l:Lc X i y) (hτ:Anew τ) (hi:DI X false tg iter fi) (S:CompScope X scope bs)
  (hg:∀cl C s₂ H₂ ex pn,DG (az X scope cl C s₂ H₂ ex pn) tg τ) (ht:∀cl C s₂ H₂ ex pn,DTs (az X scope cl C s₂ H₂ ex pn) ifs ft) (he:∀cl C s₂ H₂ ex pn,DE (az X scope cl C s₂ H₂ ex pn) false elt fe)
  (b1:decide (sc.names.lookup y=some .local)=true) (b2:swB sc scope y py.line pos.line=true)
  (hs:∀x,foldedSetIterable iter X.env x=pure x:=by intro _;rfl):DS X (.Assign [.Name y py] (.ListComp elt [⟨tg,iter,ifs,0⟩] scope pos) spos) (fun δ=>dC i (ao (ac (fi δ) (bt false bs τ ft fe δ))) δ):=
 xX h.nd h.calm hτ hi S hg ht he l.at' (iI h b1) (dn h b2) hs
end
theorem AY {P:Program}{w:World}{K:PySem.W.Frag}{mg:Str->Option Value}{base:Heap}{f:Addr}{cdv:Value}{A:Around}{outer:List Env}{s:Shared}{H:Hp}{E:XK}{N:List Str}{q:Str}{sc:Scope}(nd:N.Nodup):
  Has (kD CX0 P w K mg base N q sc f cdv A outer s H E).nox N sc:=⟨rfl,rfl,rfl,nd⟩
theorem spM_law {K:PySem.W.Frag}{H:Hp}{a:Addr}{ns:List Int}{f:List D->Option (D×Bool)}(hS:SqL K H a (ns.map V.int)) (h:f [.lst (ns.map D.int)]=some (.bl true,false)):
  spM K f [.ref a] H (fun v y=>v=.bl true) fun y y y=>False:=by
 have hr:Reps K (fun b=>∃o:HOn,H b=some o.1) H (ns.map D.int) (ns.map V.int):=by
  clear hS h
  induction ns with
  |nil=>exact Reps.nil
  |cons n ns ih=>exact Reps.cons (by simp only[Rep]) ih
 refine⟨fun b=>∃o:HOn,H b=some o.1,[.lst (ns.map D.int)],.bl true,false,fun y h=>h,Reps.cons ?_ Reps.nil,h,fun v H' y r=>?_⟩
 ·simp only[Rep]
  refine⟨a,_,rfl,?_,hr⟩
  rcases hS with(h1|⟨o,h1⟩)|h1
  ·exact .inl ⟨⟨⟨_,rfl⟩,h1⟩,h1⟩
  ·exact .inr (.inl ⟨o,h1⟩)
  ·exact .inr (.inr h1)
 ·unfold kP at r
  rw[Zo ZE]at r
  simpa only[Rep]using r
section
variable{X:Cx}
theorem ni:MtR X "list.remove" (fun x vs H Q=>∃l p,x=.ref l/\vs=[.ref p]/\H l=some (.lst [.ref p])/\Q .non (upd H l (.lst []))):=by
 intro pins s σ H x vs v us Q I rx rv h;obtain⟨l,p,rfl,rfl,hH,q⟩:=h;cases rx;obtain⟨u,rfl,ru⟩:=rv.one;cases ru;obtain⟨z,its,n,r,hl,e⟩:=I.lstM hH;obtain⟨w,rfl,rw'⟩:=r.one;cases rw';refine call_meets F.slot_list_remove ⟨_,e,rfl⟩ F.entry_list_remove (F.args_list_remove_2 _ _) (PySem.MeetsSeq.list_remove l [Value.ref p].toArray n (.ref p) (fun o=>true) (fun y hy=>?_) 0 (by simp) rfl (fun m hm h=>absurd h (Nat.not_lt_zero _)) (by simp[Z7])) ⟨e,?_⟩
 ·obtain rfl:y=.ref p:=by simpa using hy
  exact fun prog w A E s Q h=>PySem.SeqAt.EqAt.same _ prog w E Q h
 ·exact⟨.non,_,I.lset (its':=[]) (ys:=[]) hH e (by simp[Array.eraseIdxIfInBounds]) .nil (ZK _),rfl,q⟩
variable{r j iL iT:Nat}{xr xl xt xp:Str}{bs:List Bool}{ifs:List Expr}{scope:Scope}{ft:DEnv->Option Bool}{rest:List Stmt}{gr:DEnv->Option Out}{pe pp pr cpos' py spos py2 pos2 pl1 pl2 pr2 px1 px2 pi1 pr3 apos cpos pt pos3 pf pr4:Pos}{k1 k2:Nat}
noncomputable def rK (r iL iT j:Nat) (bs:List Bool) (ft:DEnv->Option Bool) (δ:DEnv) (gr:DEnv->Option Out):Option Out:=match δ[r]? with
 |some (some (.lst [.tup ts],true))=>(match ft ((aB true bs δ).set j (some (.tup ts,false)))with
  |some b=>if iL<δ.length/\iT<δ.length/\j<δ.length then gr (((δ.set iL (some (.lst (if b=true then[.tup ts] else[]),true))).set iT (some (.tup ts,false))).set r (some (.lst [],true))) else none
  |none=>none)
 |_=>none
theorem nN {δ:DEnv}{o:Out}(h:rK r iL iT j bs ft δ gr=some o):∃ts b,δ[r]?=some (some (.lst [.tup ts],true))/\ft ((aB true bs δ).set j (some (.tup ts,false)))=some b/\(iL<δ.length/\iT<δ.length/\j<δ.length)/\
  gr (((δ.set iL (some (.lst (if b=true then[.tup ts] else[]),true))).set iT (some (.tup ts,false))).set r (some (.lst [],true)))=some o:=by
 unfold rK at h;obtain⟨ts,q⟩:∃ts,δ[r]?=some (some (.lst [.tup ts],true)):=by
  generalize δ[r]?=q at h⊢;cases q with
  |none=>exact nS h
  |some q=>
   cases q with
   |none=>exact nS h
   |some q=>
    obtain⟨d,bo⟩:=q;cases d with
    |lst l=>
     cases l with
     |nil=>exact nS h
     |cons a l=>
      cases a with
      |tup ts=>
       cases l with
       |cons _ _=>exact nS h
       |nil=>
        cases bo with
        |false=>exact nS h
        |true=>exact⟨ts,rfl⟩
      |_=>exact nS h
    |_=>exact nS h
 rw[q]at h;dsimp only at h;cases eb:ft ((aB true bs δ).set j (some (.tup ts,false)))with
 |none=>rw[eb]at h;exact nS h
 |some b=>rw[eb]at h;exact⟨ts,b,q,eb,ifS h⟩
theorem uC (hN:X.N.Nodup) (hc:X.calm=true) (nr:Nm X r xr) (nl:Nm X iL xl) (nt:Nm X iT xt) (lt:Lc X iT xt) (hy:X.env.scope.names.lookup xl=some .local) (hrl:r≠iL) (hrt:r≠iT) (hlt:iL≠iT) (S:CompScope X scope bs)
  (hg:∀cl C s₂ H₂ ex pn,PG (az X scope cl C s₂ H₂ ex pn) (.Name xp pp) (fG j)) (ht:∀cl C s₂ H₂ ex pn,DTs (az X scope cl C s₂ H₂ ex pn) ifs ft) (he:∀cl C s₂ H₂ ex pn,PE (az X scope cl C s₂ H₂ ex pn) (.Name xp pe) (sd j))
  (hrest:DSs X rest gr)
  (hsw:swapsWith (.ListComp (.Name xp pe) [⟨.Name xp pp,.Name xr pr,ifs,0⟩] scope cpos') (some (.Name xl py)) spos.line X.env=pure true)
  (hs:∀x,foldedSetIterable (.Name xr pr) X.env x=pure x)
  (hsw2:swapsWith (.IfExp (.Name xl pl1) (.Subscript (.Name xl pl2) (.Constant (.int 0) k1 px1) pi1) (.Subscript (.Name xr pr2) (.Constant (.int 0) k2 px2) pr3) pf) (some (.Name xt py2)) pos2.line X.env=pure false)
  (htru:∀whole,isTrue (.Name xl pl1) X.env whole=(do let v <-whole;standAt (Expr.pos (.Name xl pl1));holding [v] (truthy v)))
  (hi1:fu (.Constant (.int 0) k1 px1)) (hi2:fu (.Constant (.int 0) k2 px2))
  (hbase:attributeBase (.Name xr pr4) "remove" X.env (eval (.Name xr pr4) X.env)=eval (.Name xr pr4) X.env)
  (hfew:((backTo cpos (starEach [.Name xt pt] X.env)).all (fun x=>!x.1)&&(backToKw cpos (keywordEach [] X.env)).all (fun x=>x.1.isSome)&&decide (([Expr.Name xt pt]).length+([]:List Keyword).length+(if([]:List Keyword).isEmpty then 0 else 1)<30))=true)
  (hline:(apos.endLine==cpos.line)=true) (hst:starEach [.Name xt pt] X.env=(false,eval (.Name xt pt) X.env)::starEach [] X.env)
  (hsw3:swapsWith (.Call (.Attribute (.Name xr pr4) "remove" apos) [.Name xt pt] [] cpos) none pos3.line X.env=pure false):
  DSs X (.Assign [.Name xl py] (.ListComp (.Name xp pe) [⟨.Name xp pp,.Name xr pr,ifs,0⟩] scope cpos') spos::
   .Assign [.Name xt py2] (.IfExp (.Name xl pl1) (.Subscript (.Name xl pl2) (.Constant (.int 0) k1 px1) pi1) (.Subscript (.Name xr pr2) (.Constant (.int 0) k2 px2) pr3) pf) pos2::
   .Expr (.Call (.Attribute (.Name xr pr4) "remove" apos) [.Name xt pt] [] cpos) pos3::rest) (fun δ=>rK r iL iT j bs ft δ gr):=by
 intro pins s σ H Dn I hq;obtain⟨B,Hk,δ,o,R,e,kk⟩:=hq;obtain⟨ts,b,hr,hb,⟨q1,q2,q3⟩,e'⟩:=nN e;have hσ:=R.len;refine bu (oP (tt:=tMT X.K ft) hc (rh (be nr.at' nr.vis nr.d1 nr.d2)) S hg ht he hN nl.at' hy hsw hs)
  (bu (gm hN lt.at' lt.loc (mq (lO (be nl.at' nl.vis nl.d1 nl.d2) htru) (sY kM (be nl.at' nl.vis nl.d1 nl.d2) pv hi1) (sY kM (be nr.at' nr.vis nr.d1 nr.d2) pv hi2)) hsw2 lt.fnl)
   (bu (lF (nR PySem.F.plainAttrs_list PySem.F.slot_list_remove PySem.F.type_list_remove ni (be nr.at' nr.vis nr.d1 nr.d2) (ar (be nt.at' nt.vis nt.d1 nt.d2) aH hst) hbase hfew hline hst) hsw3) hrest)) pins s σ H Dn I ?_
 unfold Bx xi;refine pE (bl:=[b]) (by rw[S.len,<-I.len]) R hr (by lia) rfl (by show 1<=lim;decide) (fun i d c h1 h2=>?_) fun l xs a H' h1 h3 h4 sm hna ha=>?_
 ·cases i with
  |zero=>simp at h1 h2;subst h1;subst h2;exact hb
  |succ i=>simp at h1
 ·simp only[Reps]at h4
  obtain⟨w,rr,rfl,rw1,rfl⟩:=h4;simp only[Rep]at rw1;obtain⟨p,ws,rfl,hp,rws⟩:=rw1;have rep:Rep X.K B H (.tup ts) (.ref p):=by simp only[Rep];exact⟨p,ws,rfl,hp,rws⟩
  have hl':H' l=some (.lst [.ref p]):=sm l _ h3;have epick:mG [V.ref p] [b]=if b=true then[V.ref p] else[]:=by cases b<;>rfl
  rw[epick]at ha;have σL:(σ.set iL (some (.ref a)))[iL]?=some (some (.ref a)):=Zs (by lia)
  have σr:(σ.set iL (some (.ref a)))[r]?=some (some (.ref l)):=by rw[Zl (Zz hrl)];exact h1
  have R0:=R.to sm;have rep':Rep X.K B H' (.tup ts) (.ref p):=rep.ext (R.ext sm);have hka:Hk a=none:=R.same.free hna;have R1:Rel X.K B Hk (δ.set iL (some (.lst (if b=true then[.tup ts] else[]),true))) (σ.set iL (some (.ref a))) H':=R0.setOwn (by lia) hka ⟨_,ha,by cases b with|true=>exact Reps.cons rep' Reps.nil|false=>exact Reps.nil⟩ (fun m f hm z1 z2=>by
   obtain⟨c,y1,_,y3⟩:=R.own m f z1;rw[z2]at y1;cases y1;obtain⟨u,hu⟩:=y3.there;rw[hna]at hu;contradiction)
  have R2:=R1.set (i:=iT) (by rw[ZJ];lia) rep'
  have hr2:((δ.set iL (some (.lst (if b=true then[.tup ts] else[]),true))).set iT (some (.tup ts,false)))[r]?=some (some (.lst [.tup ts],true)):=by
   rw[Zl (Zz hrt),Zl (Zz hrl)];exact hr
  have σr2:((σ.set iL (some (.ref a))).set iT (some (.ref p)))[r]?=some (some (.ref l)):=by rw[Zl (Zz hrt)];exact σr
  have σt2:((σ.set iL (some (.ref a))).set iT (some (.ref p)))[iT]?=some (some (.ref p)):=Zs (by rw[ZJ];lia)
  obtain⟨x5,R3⟩:=R2.lset (ds':=[]) (xs':=[]) hr2 σr2 hl' Reps.nil;have fin:yN (tBM X.K "list" (fun x vs H Q=>∃l p,x=.ref l/\vs=[.ref p]/\H l=some (.lst [.ref p])/\Q .non (upd H l (.lst []))) (sd r) (nH (sd iT) tNil)) {Dn with nx:=tD X.K gr Dn} ((σ.set iL (some (.ref a))).set iT (some (.ref p))) H':=
   ⟨.ref l,σr2,.inl ⟨rfl,_,SqL.of hl'⟩,.ref p,σt2,l,p,rfl,rfl,hl',B,Hk,_,o,R3,e',kk.ext ((R.ext sm).trans x5)⟩
  refine⟨.ref a,σL,b,.inl ⟨_,SqL.of ha,by cases b<;>rfl⟩,?_⟩
  cases b with
  |true=>exact vF ⟨.ref a,σL,a,[.ref p],0,.ref p,rfl,rfl,SqL.of ha,rfl,fin⟩
  |false=>exact vq ⟨.ref l,σr,l,[.ref p],0,.ref p,rfl,rfl,SqL.of hl',rfl,fin⟩
end
theorem nF {pos pos':Pos}{cv c:Value}(l:List Value) (ht:TriplesOk l) (h:codeAmong pos' (l++[rawInt pos.line,rawInt pos.col,c])=some cv):codeAmong pos' l=some cv\/cv=c:=by
 fun_induction TriplesOk l with
 |case1=>
  simp only[List.nil_append,rawInt,codeAmong]at h;split at h
  ·obtain rfl:=Zb h;exact .inr rfl
  ·contradiction
 |case2 a t b u x rest ih=>
  simp only[List.cons_append,codeAmong]at h⊢;split at h
  ·rename_i hc;rw[Zm hc];exact .inl h
  ·rename_i hc;rw[Zo hc];exact ih ht h
 |case3 l h1 h2=>exact ht.elim
section
variable{X:Cx}{pins:List (Addr×Obj)}{σ:St}{H:Hp}{s:Shared}
theorem Inv.grow {P c':Addr}{lq:Str}{ps:Array Value}{pos:Pos}{h':Heap}{t':Nat}(I:Inv X pins σ H s) (hP:H P=some (.tbl lq ps)) (hx:Heap.ExtBut P s.heap h') (hge:s.heap.objs.size<=c') (hlt:c'<h'.objs.size) (hrec:h'.CodeRec (.ref c') lq)
  (htb:h'.get? P=some (PySem.W.tabObj (ps++#[rawInt pos.line,rawInt pos.col,.ref c']))):
  Inv X pins σ (upd (upd H P (.tbl lq (ps++#[rawInt pos.line,rawInt pos.col,.ref c']))) c' (.own P)) {s with heap:=h',toks:=t'}/\
  Same H (upd (upd H P (.tbl lq (ps++#[rawInt pos.line,rawInt pos.col,.ref c']))) c' (.own P)):=by
 have hc:H c'=none:=I.hok.fresh hge;have hcP:P≠c':=fun z=>by rw[z,hc]at hP;contradiction
 have up:∀b,b≠P->b≠c'->(upd (upd H P (.tbl lq (ps++#[rawInt pos.line,rawInt pos.col,.ref c']))) c' (.own P)) b=H b:=fun b h1 h2=>by rw[ai h2,ai h1]
 have upP:(upd (upd H P (.tbl lq (ps++#[rawInt pos.line,rawInt pos.col,.ref c']))) c' (.own P)) P=some (.tbl lq (ps++#[rawInt pos.line,rawInt pos.col,.ref c'])):=by rw[ai hcP,af]
 have nP:∀{b u},H b=some u->(∀l p,u≠.tbl l p)->b≠P:=fun{b u} e n z=>by rw[z,hP]at e;obtain rfl:=Zb e;exact n _ _ rfl
 have nc:∀{b u},H b=some u->b≠c':=fun{b u} e z=>by rw[z,hc]at e;contradiction
 have n0:∀{b},H b=none->b≠P:=fun{b} e z=>by rw[z,hP]at e;contradiction
 obtain⟨c₂,oc,vs,t,e2,hoc,hd,hv⟩:=hrec;cases e2;refine⟨I.un ⟨fun b o e n y y=>hx b o (n0 n) e,fun b o e n y y=>⟨o.slots,hx b o (n0 n) e⟩,fun b o e n y=>?_,fun b o e y=>?_,fun b xs e=>?_,fun b o u e=>?_,fun b l p e=>?_⟩ fun b u q=>?_,fun b o n e=>?_,fun b l p e=>?_⟩
 ·rw[up b (n0 n) (Zy (Zr (Zi e) hge))];exact n
 ·by_cases hb:b=P
  ·subst hb;exact⟨_,htb⟩
  ·exact⟨o,hx b o hb e⟩
 ·rw[up b (nP e fun l p z=>by contradiction) (nc e)];exact e
 ·rw[up b (nP e fun l p z=>by contradiction) (nc e)];exact e
 ·by_cases hb:b=P
  ·subst hb;rw[hP]at e;cases e;exact⟨_,upP⟩
  ·exact⟨#[],by rw[up b hb (nc e),Array.append_empty];exact e⟩
 ·by_cases hbc:b=c'
  ·subst hbc;rw[af]at q;obtain rfl:=Zb q;exact⟨oc,hoc⟩
  ·by_cases hb:b=P
   ·subst hb
    rw[upP]at q;obtain rfl:=Zb q;obtain⟨e1,tr,rc⟩:=I.hok b _ hP;refine⟨htb,by rw[Array.toList_append];exact TriplesOk_snoc _ _ _ _ tr,fun pos' cv e=>?_⟩
    rw[Array.toList_append]at e
    rcases nF _ tr e with e|e
    ·obtain⟨c2,o2,v2,t2,z1,z2,z3,z4⟩:=rc pos' cv e
     have m1:=nP z2 fun l p z=>by contradiction
     exact⟨c2,o2,v2,t2,z1,by rw[up c2 m1 (nc z2)];exact z2,hx _ _ m1 z3,z4⟩
    ·subst e
     exact⟨c',oc,vs,t,rfl,af,hoc,hd,hv⟩
   ·rw[up b hb hbc]at q
    refine(I.hok b u q).stay (fun d v hd r=>hx d v ?_ r) (fun d r=>by rw[up d (nP r fun l p z=>by contradiction) (nc r)];exact r) fun d xs r=>by rw[up d (nP r fun l p z=>by contradiction) (nc r)];exact r
    rcases hd with z|z
    ·rw[z];exact hb
    ·exact nP z fun l p z=>by contradiction
 ·rw[up b (nP e fun l p z=>by subst z;contradiction) (nc e)];exact e
 ·by_cases hb:b=P
  ·subst hb;rw[hP]at e;cases e;exact⟨_,upP⟩
  ·exact⟨#[],by rw[up b hb (nc e),Array.append_empty];exact e⟩
theorem sQ {E:Value->Shared->Prop}{c P:Addr}{lq:Str}{params:Arguments}{body:Expr}{scope:Scope}{pos:Pos}{Q:Value->Shared->Prop}(I:Inv X pins σ H s) (hP:(P,lq)∈Lams.tb) (hq:X.env.qual++"<lambda>"=lq)
  (hC:PySem.W.CodeHd X.base c P) (hcd:X.env.code=.ref c) (hcl:closureFor scope X.env=pure []) (hdef:defaultsOf params X.env=([],[]))
  (h:∀f c' pm ctv h' tk H' ps,Inv X ((f,PySem.W.kla_obj "<lambda>" lq params body scope [] pm c' ctv)::pins) σ H' {s with heap:=h',toks:=tk}->Same H H'->H' P=some (.tbl lq ps)->codeAmong pos ps.toList=some (.ref c')->
   Q (.ref f) {s with heap:=h',toks:=tk}):wpAny (model X.prog X.w) X.A (eval (.Lambda params body scope pos) X.env) Q E s:=by
 refine PySem.W.kla_eval hdef ?_
 rw[hq];obtain⟨ps,hps⟩:=(I.ok.tabs.to I.base.tbls) (P,lq) hP;obtain⟨e1,tr,rc⟩:=I.hok P _ hps;have hg:s.heap.Ns mainGlobals X.mg:=I.mod.glob.keeps I.bk;have hgP:mainGlobals≠P:=fun z=>by
  obtain⟨o,es,ep,e,d,_⟩:=hg;rw[z,e1]at e;obtain rfl:=Zb e;contradiction
 obtain⟨bm,ob,b1,b2,b3,b4,b5,b6⟩:=I.mod.bmain;have b3':=I.bk _ _ b3;have hbP:bm≠P:=fun z=>by rw[z,e1]at b3';obtain rfl:=Zb b3';contradiction
 have hbG:bm≠mainGlobals:=fun z=>by
  obtain⟨o,es,ep,e,d,_⟩:=hg;rw[z,e]at b3';obtain rfl:=Zb b3';rw[d]at b6;contradiction
 have fin:∀{H':Hp}{h1:Heap}{tk:Nat}{o:Obj},Inv X pins σ H' {s with heap:=h1,toks:=tk}->(∀v,o.data≠.cell v)->o.isFreed=false->Inv X ((h1.objs.size,o)::pins) σ H' {s with heap:=h1.push o,toks:=tk}:=fun{H' h1 tk o} I1 hnc hnf=>by
  have I2:Inv X pins σ H' {s with heap:=h1.push o,toks:=tk}:=I1.kept (h':=h1.push o) fun b u e=>Zc _ e
  refine I2.pins_of fun p hp=>?_
  rcases ZA.mp hp with rfl|hp
  ·exact⟨Zj _ hnf,I1.hok.fresh (Zk _),Yc I1.lt,I1.nofs (Zk _),hnc⟩
  ·exact I2.pin p (Zt _ hp)
 cases hf:codeAmong pos ps.toList with
 |none=>
  refine PySem.W.kla_makeFunction (mg:=X.mg) hcl I.ok.glob hg hcd (hC.keeps I.bk) e1 tr hf hgP ⟨bm,ob,b1,b2,hbG,hbP,b3',b4,b5,b6⟩ fun c' ctv h' tk hx hge hlt hrec htb=>?_
  obtain⟨I1,s1⟩:=I.grow (t':=tk) hps hx hge hlt hrec htb;have hc:H c'=none:=I.hok.fresh hge;have hcP:P≠c':=fun z=>by rw[z,hc]at hps;contradiction
  exact h _ c' _ ctv _ tk _ _ (fin I1 (fun v z=>by contradiction) rfl) s1 (by rw[ai hcP,af]) (by rw[Array.toList_append];exact codeAmong_snoc _ tr hf)
 |some cv=>
  obtain⟨c',oc,vs,t,rfl,o1,o2,o3,o4⟩:=rc pos cv hf;refine PySem.W.kla_makeFunctionHit (mg:=X.mg) hcl I.ok.glob hg hcd (hC.keeps I.bk) e1 tr hf ⟨bm,ob,b1,b2,hbG,hbP,b3',b4,b5,b6⟩ fun ctv h' tk hk hsz=>?_
  exact h _ c' _ ctv _ tk _ _ (fin (I.kept (h':=h') (t':=tk) hk) (fun v z=>by contradiction) rfl) (Same.refl H) hps hf
end
theorem wS {CX:CXT}{P:Program}{w:World}{K:PySem.W.Frag}{mg:Str->Option Value}{base:Heap}{k:Nat}{f c':Addr}{name qual:Str}{params:Arguments}{body:Expr}{scope:Scope}{pm ctv:Value}{N ps:List Str}{A:Around}{outer:List Env}{s:Shared}{H:Hp}
  {args:Args}{us:List Value}{vs:List V}{Q:VK}{E:XK}(hr:Room (k+1) A) (e0:Env0 P w K mg base A outer s H) (hf:s.heap.get? f=some (PySem.W.kla_obj name qual params body scope [] pm c' ctv)) (hc:s.heap.CodeRec (.ref c') qual) (S:FnScope N ps scope)
  (hb:BindsTo s (PySem.W.kla_fn name qual params body scope [] pm (.ref c') ctv) args (ps.zip us)) (r:Vals vs us) (hl:vs.length=ps.length)
  (hbody:Room k (A.deeper (envOfC qual scope s.heap.objs.size f (.ref c')))->∃t,PE (kD CX P w K mg base N qual scope f (.ref c') A outer s H E) body t/\t (b0 N vs) H Q):
  codeAny (model P w) A (.call (.ref f) args) (CR CX outer P w H s Q E) s:=by
 have lim:s.heap.NoLimit:=e0.mod.nolimit.keeps fun b o e=>(e0.bs b o e).1
 have hkind:∀y∈ps.zip us,scope.names.lookup y.1=some .local\/(scope.names.lookup y.1=some .cell/\((cellsFrom (s.heap.objs.size+1) scope.names []).lookup y.1).isSome=true):=fun y hy=>by
  obtain⟨n,v⟩:=y
  rcases S.par n (List.of_mem_zip hy).1 with q|q
  ·exact .inl q
  ·exact .inr ⟨q,PySem.W.cellsFrom_some _ _ _ (.inl q)⟩
 refine PySem.W.kla_callFunE hr.depth hf rfl S.co S.gen rfl hc (hb _ _ _ _ ?_)
 refine wpAny_newFunctionEnv_cells S.kind hkind fun env he s1 x=>?_
 subst he;refine⟨lim.keeps x.toInCall.keep,PySem.W.kla_codeExpr ?_⟩
 obtain⟨t,ht,hq⟩:=hbody (hr.deeper _);have I:Inv (kD CX P w K mg base N qual scope f (.ref c') A outer s H E) [] (b0 N vs) H s1:=jW S hr.hd e0 hl r x;exact Z8 (ht [] s1 (b0 N vs) H _ I hq) (fun u s' hz=>by obtain⟨v,H',J,rv,q⟩:=hz;exact⟨v,H',J.os,J.bare,J.base,J.hok,rv,q⟩) fun e s' hs=>hs
section
variable{X:Cx}{pins:List (Addr×Obj)}{σ:St}{H:Hp}{s:Shared}
theorem sv {k:Nat}{f c' P:Addr}{lq:Str}{tps:Array Value}{params:Arguments}{body:Expr}{scope:Scope}{pos:Pos}{pm ctv:Value}{N ps:List Str}{us:List Value}{vs:List V}{Q:VK}{A:Around}{E:Value->Shared->Prop}
  (I:Inv X pins σ H s) (hA:Room (k+1) A) (hE:Env0 X.prog X.w X.K X.mg X.base X.A X.stack s H->Env0 X.prog X.w X.K X.mg X.base A X.stack s H) (hf:(f,PySem.W.kla_obj "<lambda>" lq params body scope [] pm c' ctv)∈pins) (hP:H P=some (.tbl lq tps)) (hca:codeAmong pos tps.toList=some (.ref c')) (S:FnScope N ps scope)
  (hb:BindsTo s (PySem.W.kla_fn "<lambda>" lq params body scope [] pm (.ref c') ctv) ⟨us,[]⟩ (ps.zip us)) (r:Vals vs us) (hl:vs.length=ps.length)
  (hbody:Room k (A.deeper (envOfC lq scope s.heap.objs.size f (.ref c')))->∃t,PE (kD CX0 X.prog X.w X.K X.mg X.base N lq scope f (.ref c') A X.stack s H (fun y y y=>False)) body t/\t (b0 N vs) H Q):
  wpAny (model X.prog X.w) A (call (.ref f) us) (EP X pins σ Q) E s:=by
 obtain⟨e1,tr,rc⟩:=I.hok P _ hP;obtain⟨c2,oc,vs2,t2,z1,z2,z3,z4,z5⟩:=rc pos _ hca;cases z1;refine wpAny_call (codeAny_mono (wS (CX:=CX0) hA (hE I.env0) (I.pin _ (Zt _ hf)).1 ⟨c',oc,vs2,t2,rfl,z3,z4,z5⟩ S hb r hl hbody) fun r s' hq=>?_)
 cases r with
 |error e=>exact False.elim hq
 |ok fl=>
  cases fl with
  |ret u=>exact I.after hq
  |next=>exact False.elim hq
  |brk=>exact False.elim hq
  |cont=>exact False.elim hq
end
section
variable{X:Cx}{pins:List (Addr×Obj)}{σ:St}{H:Hp}{s:Shared}
theorem Inv.track {a:Addr}{o:HO}(I:Inv X pins σ H s) (f:dT X pins H a) (hs:X.s₀.heap.objs.size<=a) (new:ObjOk X.prog X.w (upd H a o) s.heap a o):Inv X pins σ (upd H a o) s:=by
 have hn:=f.1;refine⟨I.ok,I.os,I.bare,⟨I.base.keep,I.base.slot,fun b ob e n hx=>?_,I.base.there,fun b xs e=>?_,fun b ob u e=>?_,fun b lq ps e=>?_⟩,I.loc,I.cell,?_,fun x c e=>?_,fun p hp=>?_,fun b u q=>?_,I.len⟩
 ·rw[ai (Zy (Zr (Zi e) hs))];exact I.base.free b ob e n hx
 ·have z:=I.base.tups b xs e;rw[ai (av z hn)];exact z
 ·have z:=I.base.frzs b ob u e;rw[ai (av z hn)];exact z
 ·obtain⟨m,z⟩:=I.base.tbls b lq ps e;exact⟨m,by rw[ai (av z hn)];exact z⟩
 ·rw[ai (Zz f.2.1)];exact I.free
 ·rw[ai (f.2.2.2.2.1 x c e)];exact I.freeC x c e
 ·obtain⟨p1,p2,p3⟩:=I.pin p hp;exact⟨p1,by rw[ai (f.2.2.2.2.2 p hp)];exact p2,p3⟩
 ·by_cases hb:b=a
  ·subst hb;rw[af]at q;obtain rfl:=Zb q;exact new
  ·rw[ai hb]at q
   exact(I.hok b u q).stay (fun y y y r=>r) (fun d r=>by rw[ai (av r hn)];exact r) fun d xs r=>by rw[ai (av r hn)];exact r
theorem rH (kA vs:Array Value) (h:kA.size=vs.size):(kA.zip vs).map (·.2)=vs:=by
 apply Array.ext
 ·simp[h]
 ·intro i h1 h2;simp
theorem iW {A:Around}{E:Value->Shared->Prop}{kS D:Addr}{kA:Array Value}{e e1:Nat}{vs:List Value}{xs:List V}{P:PySem.Fin->Shared->Prop}(J:Inv X ((kS,seqObj "list" kA e)::(D,seqObj "list" #[] e1)::pins) σ H s)
  (fk:dT X pins H kS) (fD:dT X pins H D) (sk:X.s₀.heap.objs.size<=kS) (sD:X.s₀.heap.objs.size<=D) (hkD:kS≠D) (hk:kA.size=vs.length) (h1:vs.length<=1) (rv:Vals xs vs)
  (h:∀h' tk,Inv X pins σ (upd H D (.lst xs)) {s with heap:=h',toks:=tk}->P (.done (.ret .none)) {s with heap:=h',toks:=tk}):
  wpAny (model X.prog X.w) A (ksk_end D false vs.toArray e1 (.ref kS) kA) P E s:=by
 have nk:=J.pin (kS,seqObj "list" kA e) (Zt _ (.head _));have nD:=J.pin (D,seqObj "list" #[] e1) (Zt _ (.tail _ (.head _)));have hz:(1:Nat)<=sizeLine:=by rw[Z7];lia
 have I0:Inv X pins σ H s:=J.pins_of fun p hp=>J.pin p (Zt _ (.tail _ (.tail _ hp)))
 have s1:=ZI s.heap kS (Obj.mapSeq fun y=>(#[]:Array Value))
 have nD1:(s.heap.update kS (Obj.mapSeq fun y=>(#[]:Array Value))).get? D=some (seqObj "list" #[] e1):=(s1.2 D (Zz hkD)).trans nD.1
 have h2:vs.toArray.size<2:=by rw[Zh];lia
 unfold ksk_end
 try dsimp only
 simp only[Zx,ZY];rw[Zm h2,Zm h2];refine Za (Zd ?_)
 rw[StateT.run_pure];refine Za (Zd ?_)
 try dsimp only
 unfold ksk_tail
 try dsimp only
 refine Za (YQ nk.1 rfl ?_ (by rw[hk];lia) (ZK _))
 refine Za (wpAny_letGo ?_)
 refine Za (seqEpoch_at nD1 rfl ?_)
 have es:(arrOf (SortSt.mk' general' (kA.zip vs.toArray) #[] 7 none)).map (·.2)=vs.toArray:=rH kA vs.toArray (by rw[hk,Zh])
 rw[es];refine Za (YQ nD1 rfl ?_ (ZK _) (by simp only[Zx,ZY];rw[Zh];lia))
 simp only[bne_self_eq_false,Zx,ZY];refine Zd (h _ s.toks ?_)
 have I1:Inv X pins σ H {s with heap:=s.heap.update kS (Obj.mapSeq fun y=>(#[]:Array Value)),toks:=s.toks}:=I0.turned (it:=kS) (fun b o hb q=>(s1.2 b hb).trans q) fk.1 fk.2.1 (.inr sk) fk.2.2.2.2.1 fk.2.2.2.2.2
 have s2:=ZI (s.heap.update kS (Obj.mapSeq fun y=>(#[]:Array Value))) D (Obj.mapSeq fun y=>vs.toArray)
 have I2:Inv X pins σ H {s with heap:=(s.heap.update kS (Obj.mapSeq fun y=>(#[]:Array Value))).update D (Obj.mapSeq fun y=>vs.toArray),toks:=s.toks}:=Inv.turned (s:={s with heap:=s.heap.update kS (Obj.mapSeq fun y=>(#[]:Array Value)),toks:=s.toks}) (it:=D) I1 (fun b o hb q=>(s2.2 b hb).trans q) fD.1 fD.2.1 (.inr sD) fD.2.2.2.2.1 fD.2.2.2.2.2
 exact I2.track fD sD ⟨by rw[rv.length];lia,vs,_,rv,YM nD1 fun y=>vs.toArray⟩
noncomputable def c7 (h:Heap) (vs:List Value):Heap:=Heap.push (Heap.update (h.push (seqObj "list" #[] 0)) h.objs.size (Obj.mapSeq (· ++vs.toArray))) (seqObj "list" vs.toArray 0)
theorem iN (h:Heap) (vs:List Value):(Heap.update (h.push (seqObj "list" #[] 0)) h.objs.size (Obj.mapSeq (· ++vs.toArray))).objs.size=h.objs.size+1/\(c7 h vs).objs.size=h.objs.size+2/\
  (c7 h vs).get? (h.objs.size+1)=some (seqObj "list" vs.toArray 0)/\∀b o,h.get? b=some o->(c7 h vs).get? b=some o:=by
 have e:(Heap.update (h.push (seqObj "list" #[] 0)) h.objs.size (Obj.mapSeq (· ++vs.toArray))).objs.size=h.objs.size+1:=by
  rw[YY,size_push']
 refine⟨e,by unfold c7;rw[size_push',e],?_,fun b o q=>?_⟩
 ·unfold c7;rw[<-e];exact Zj _ rfl
 ·exact Zc _ ((Heap.get?_update_ne _ _ _ _ (Zy (Zi q))).trans (Zc _ q))
theorem j3 {A:Around}{E:Value->Shared->Prop}{l f:Addr}{vs:List Value}{xs:List V}{Q:Value->Shared->Prop}{T:Hp->Prop}(I:Inv X pins σ H s) (hl:s.heap.IsList l vs.toArray) (rv:Vals xs vs) (h1:vs.length<=1) (t0:T H)
  (turn:∀(pins':List (Addr×Obj)) (s':Shared) (u:Value) (v:V),vs=[u]->xs=[v]->(∀p∈pins,p∈pins')->Inv X pins' σ H s'->wpAny (model X.prog X.w) A.in1.in1 (call (.ref f) [u]) (EP X pins' σ fun y H'=>(∃i,y=V.int i)/\T H') (fun c c=>False) s')
  (h:∀D H' s',Inv X pins σ (upd H' D (.lst xs)) s'->T H'->H' D=none->Q (.ref D) s'):
  wpAny (model X.prog X.w) A (call (.builtin "sorted") [.ref l] [(Str.ofString "key",.ref f)]) Q E s:=by
 have hz:(1:Nat)<=sizeLine:=by rw[Z7];lia
 refine call_function_entry_kw kind_sorted plain_sorted entry_sorted (ksk_s1 _ _) ?_
 unfold Builtin.«sorted»;refine Za (m:=checkCount "sorted" 1 1 _) (Zd ?_)
 refine Za (collect_list hl ?_ (by lia))
 refine Za (wpAny_newList ?_ (by lia))
 obtain⟨n1,n2,n3,n4⟩:=iN s.heap vs;rw[n1];show wpAny _ _ _ _ _ {s with heap:=c7 s.heap vs}
 generalize c7 s.heap vs=g at n2 n3 n4⊢;have hoL:=n3;have keep:=n4;have hgs:g.objs.size=s.heap.objs.size+2:=n2;generalize hD:s.heap.objs.size+1=D at hoL⊢;have hDs:s.heap.objs.size<=D:=by lia
 refine Za (ZN (wpAny_call_entry_kw slot_list_sort ⟨_,hoL,rfl⟩ entry_list_sort ?body (ksk_l1 _ _)));show wpAny (model X.prog X.w) A.in1.in1 (Builtin.«list.sort» ⟨[.ref D],[(Str.ofString "key",.ref f)]⟩) _ _ _;rw[ksk_t1];have s1:=ZI g D (Obj.mapSeq fun c=>(#[]:Array Value))
 obtain⟨e1,ho1⟩:∃e1,(g.update D (Obj.mapSeq fun c=>(#[]:Array Value))).get? D=some (seqObj "list" #[] e1):=⟨_,YM hoL fun c=>#[]⟩
 unfold ksk_tree;refine Za (listItems_at hoL rfl ?_)
 refine Za (YQ hoL rfl ?_ (by rw[Zh];lia) (ZK _))
 refine Za (seqEpoch_at ho1 rfl ?_)
 refine Za (wpAny_newTuple ?_ (by show vs.length<=_;lia))
 refine Za (wpAny_newList ?_ (ZK _))
 refine ZN ?_
 have hgD:(g.update D (Obj.mapSeq fun c=>(#[]:Array Value))).objs.size=s.heap.objs.size+2:=by rw[YY,hgs]
 have hk0:((g.update D (Obj.mapSeq fun c=>(#[]:Array Value))).push (seqObj "tuple" vs.toArray 0)).objs.size=s.heap.objs.size+3:=by rw[size_push',hgD]
 generalize hkS:((g.update D (Obj.mapSeq fun c=>(#[]:Array Value))).push (seqObj "tuple" vs.toArray 0)).objs.size=kS at hk0
 have gk:(((g.update D (Obj.mapSeq fun c=>(#[]:Array Value))).push (seqObj "tuple" vs.toArray 0)).push (seqObj "list" #[] 0)).get? kS=some (seqObj "list" #[] 0):=by rw[<-hkS];exact Zj _ rfl
 have gD:(((g.update D (Obj.mapSeq fun c=>(#[]:Array Value))).push (seqObj "tuple" vs.toArray 0)).push (seqObj "list" #[] 0)).get? D=some (seqObj "list" #[] e1):=Zc _ (Zc _ ho1)
 have keep2:∀b o,s.heap.get? b=some o->(((g.update D (Obj.mapSeq fun c=>(#[]:Array Value))).push (seqObj "tuple" vs.toArray 0)).push (seqObj "list" #[] 0)).get? b=some o:=fun b o q=>
  Zc _ (Zc _ ((s1.2 b (Zy (Zr (Zi q) hDs))).trans (keep b o q)))
 generalize hg2:((g.update D (Obj.mapSeq fun c=>(#[]:Array Value))).push (seqObj "tuple" vs.toArray 0)).push (seqObj "list" #[] 0)=g2 at gk gD keep2
 have fk:dT X pins H kS:=I.fpOk (by lia) (I.hok.fresh (by lia))
 have fD:dT X pins H D:=I.fpOk hDs (I.hok.fresh hDs);have sk:X.s₀.heap.objs.size<=kS:=ZM I.sz (by lia)
 have sD:X.s₀.heap.objs.size<=D:=ZM I.sz hDs;have hkD:kS≠D:=by lia
 have I1:Inv X pins σ H {s with heap:=g2,toks:=s.toks}:=I.kept (h':=g2) keep2
 have I2:Inv X ((kS,seqObj "list" #[] 0)::(D,seqObj "list" #[] e1)::pins) σ H {s with heap:=g2,toks:=s.toks}:=I1.pins_of fun p hp=>by
  rcases ZA.mp hp with rfl|hp
  ·exact⟨gk,fk.1,fk.2.1,fk.2.2.1,fun v z=>by cases z⟩
  ·rcases ZA.mp hp with rfl|hp
   ·exact⟨gD,fD.1,fD.2.1,fD.2.2.1,fun v z=>by cases z⟩
   ·exact I1.pin p (Zt _ hp)
 show wpAny (model X.prog X.w) A.in1.in1 (ksk_rest D (.ref f) false vs.toArray e1 _) _ _ {s with heap:=_,toks:=s.toks}
 unfold ksk_rest;refine Za (Yj ?_)
 rw[List.forIn_toArray];cases vs with
 |nil=>
  rw[List.forIn_nil];refine Za (Zd ?_)
  refine Za (listItems_at gk rfl ?_)
  exact iW (vs:=[]) I2 fk fD sk sD hkD rfl (ZK _) rv fun h' tk J=>⟨_,rfl,Zd ⟨_,rfl,h D H _ J t0 fD.1⟩⟩
 |cons u rest=>
  cases rest with
  |cons _ _=>simp at h1
  |nil=>
   obtain⟨v,rfl,ru⟩:∃v,xs=[v]/\RelV v u:=by
    cases rv with
    |cons a b=>cases b with
     |nil=>exact⟨_,rfl,a⟩
   rw[List.forIn_cons];refine Za (Za (Za (YO (Z8 (turn _ _ u v rfl rfl (fun p hp=>.tail _ (.tail _ hp)) I2) (fun y s'' he=>?_) fun c c hF=>hF.elim))))
   obtain⟨yv,H',J,ry,⟨i,rfl⟩,tH⟩:=he;obtain⟨t,rfl⟩:=ry
   try dsimp only
   have nk:=J.pin (kS,seqObj "list" #[] 0) (Zt _ (.head _));have nD:=J.pin (D,seqObj "list" #[] e1) (Zt _ (.tail _ (.head _)));have fk':dT X pins H' kS:=⟨nk.2.1,fk.2⟩;have fD':dT X pins H' D:=⟨nD.2.1,fD.2⟩;have J0:Inv X pins σ H' s'':=J.pins_of fun p hp=>J.pin p (Zt _ (.tail _ (.tail _ hp)))
   have s3:=ZI s''.heap kS (Obj.mapSeq (·.push (.int i t)))
   obtain⟨c2,hc2⟩:∃c2,(s''.heap.update kS (Obj.mapSeq (·.push (.int i t)))).get? kS=some (seqObj "list" (#[].push (.int i t)) c2):=⟨_,YM nk.1 (·.push (.int i t))⟩
   have J1:Inv X pins σ H' {s'' with heap:=s''.heap.update kS (Obj.mapSeq (·.push (.int i t))),toks:=s''.toks}:=J0.turned (it:=kS) (fun b o hb q=>(s3.2 b hb).trans q) fk'.1 fk'.2.1 (.inr sk) fk'.2.2.2.2.1 fk'.2.2.2.2.2
   have J2:Inv X ((kS,seqObj "list" (#[].push (.int i t)) c2)::(D,seqObj "list" #[] e1)::pins) σ H' {s'' with heap:=s''.heap.update kS (Obj.mapSeq (·.push (.int i t))),toks:=s''.toks}:=J1.pins_of fun p hp=>by
    rcases ZA.mp hp with rfl|hp
    ·exact⟨hc2,fk'.1,fk'.2.1,fk'.2.2.1,fun v z=>by cases z⟩
    ·rcases ZA.mp hp with rfl|hp
     ·exact⟨(s3.2 D (Zz hkD)).trans nD.1,fD'.1,fD'.2.1,fD'.2.2.1,fun v z=>by cases z⟩
     ·exact J1.pin p (Zt _ hp)
   refine Za (YQ nk.1 rfl ?_ (ZK _) (by show 1<=_;lia))
   refine Zd ?_
   try dsimp only
   rw[List.forIn_nil];refine Zd ?_
   refine Za (listItems_at hc2 rfl ?_)
   exact iW (vs:=[u]) J2 fk' fD' sk sD hkD rfl (Zk _) (.cons ru .nil) fun h' tk J3=>⟨_,rfl,Zd ⟨_,rfl,h D H' _ J3 tH fD'.1⟩⟩
end
noncomputable def f8 (x:Option D) (fk:D->Option D):Option D:=match x with
 |some (.lst [])=>some (.lst [])
 |some (.lst [d])=>(match fk d with|some (.int _)=>some (.lst [d])|_=>none)
 |_=>none
theorem ka {x:Option D}{fk:D->Option D}{d:D}(h:f8 x fk=some d):∃ds,x=some (.lst ds)/\d=.lst ds/\ds.length<=1/\∀y,ds=[y]->∃i,fk y=some (.int i):=by
 obtain⟨l,rfl⟩:∃l,x=some (.lst l):=by
  cases x with
  |none=>exact nS h
  |some a=>
   cases a with
   |lst l=>exact⟨l,rfl⟩
   |_=>exact nS h
 cases l with
 |nil=>obtain rfl:=Zb h;exact⟨[],rfl,rfl,ZK _,fun y z=>by cases z⟩
 |cons d0 l=>
  obtain rfl:l=[]:=by
   cases l with
   |cons _ _=>exact nS h
   |nil=>rfl
  unfold f8 at h;dsimp only at h;obtain⟨i,q⟩:∃i,fk d0=some (.int i):=by
   cases q:fk d0 with
   |none=>rw[q]at h;exact nS h
   |some b=>
    cases b with
    |int i=>exact⟨i,rfl⟩
    |_=>rw[q]at h;exact nS h
  rw[q]at h;obtain rfl:=Zb h;exact⟨[d0],rfl,rfl,Zk _,fun y z=>by cases z;exact⟨i,q⟩⟩
section
variable{X:Cx}{a lbody:Expr}{fa fb:DEnv->Option D}{params:Arguments}{lscope:Scope}{lpos kp pos p:Pos}{c P:Addr}{lq x:Str}{k:Nat}
theorem nI (hr:Room (k+3) X.A) (g:Gl X "sorted") (hm:X.mg "sorted"=none) (hP:(P,lq)∈Lams.tb) (hq:X.env.qual++"<lambda>"=lq) (hC:PySem.W.CodeHd X.base c P) (hcd:X.env.code=.ref c) (hcl:closureFor lscope X.env=pure []) (hdef:defaultsOf params X.env=([],[]))
  (S:FnScope [x] [x] lscope) (hbind:∀(s:Shared) (u pm ctv:Value) (c':Addr),BindsTo s (PySem.W.kla_fn "<lambda>" lq params lbody lscope [] pm (.ref c') ctv) ⟨[u],[]⟩ [(x,u)])
  (hb:∀(f c':Addr) (A:Around) (s:Shared) (H:Hp),Room k (A.deeper (envOfC lq lscope s.heap.objs.size f (.ref c')))->DE (kD CX0 X.prog X.w X.K X.mg X.base [x] lq lscope f (.ref c') A X.stack s H (fun z z z=>False)).nox false lbody fb)
  (ha:DE X false a fa) (hs:starEach [a] X.env=(false,eval a X.env)::starEach [] X.env:=by rfl):
  DF X (.Call (.Name "sorted" p) [a] [⟨some "key",.Lambda params lbody lscope lpos,kp⟩] pos) (fun δ=>f8 (fa δ) fun d=>fb [some (d,false)]):=by
 intro pins s σ H Q I hq0;obtain⟨B,Hk,δ,d,R,e,kk⟩:=hq0;obtain⟨ds,hfa,rfl,hlen,hkey⟩:=ka e;refine YJ (c9 I g hm c6 ?_ (by decide) (by decide))
 refine callWith_kw (thn ((ar ha aH hs) pos pins s σ H (fun vs H1=>∃v,vs=[v]/\Same H H1/\Rep X.K B H1 (.lst ds) v) I ⟨B,Hk,δ,_,R,hfa,fun v H1 s1 r1=>⟨v,rfl,s1,r1⟩⟩) fun us s1 ⟨vs,H1,I1,r1,v,hv,sm,rp⟩=>?_) ?_ ?_ rfl rfl
 ·subst hv
  obtain⟨u,rfl,ru⟩:=dP r1;show wpAny _ _ (evalAll [do let v <-eval (.Lambda params lbody lscope lpos) X.env;standAt pos;pure v]) _ _ _
  unfold evalAll;refine Za (Za (sQ I1 hP hq hC hcd hcl hdef fun f c' pm ctv h' tk H2 tps I2 sm2 hH2 hca=>Za (wpAny_standAt (Zd ?_))))
  unfold evalAll;refine Za (ZN (Zd (Zd ?_)))
  have R1:Rel X.K B Hk δ σ H1:=R.to sm;have rp2:Rep X.K B H2 (.lst ds) v:=rp.ext (sm2.ext R1.borH);simp only[Rep]at rp2;obtain⟨l,xs,rfl,hls,rs⟩:=rp2;cases ru;obtain⟨its,hv,hp,hz⟩:=I2.list hls.sq;have h1:its.length<=1:=by rw[<-hv.length,<-rs.length];exact hlen
  show wpAny (model X.prog X.w) X.A (call (.builtin "sorted") [.ref l] [(Str.ofString "key",.ref f)]) _ _ _;have R2:Rel X.K B Hk δ σ H2:=R1.to sm2;refine j3 (T:=fun H'=>Same H2 H') I2 (by obtain⟨o,n,ho,hc,_,hd⟩:=hp;exact⟨o,ho,hc,n,hd⟩) hv h1 (Same.refl H2) (fun pins' s' u' v' e1 e2 sub I'=>?_) fun D H' s' J tH hD=>?_
  ·subst e1;subst e2
   obtain⟨d0,rfl,r0⟩:∃d0,ds=[d0]/\Rep X.K B H2 d0 v':=by
    have:=rs.length;cases ds with
    |nil=>simp at this
    |cons d0 r=>
     cases r with
     |nil=>
      simp only[Reps]at rs;obtain⟨y,q,e,h1,h2⟩:=rs;cases e;exact⟨d0,rfl,h1⟩
     |cons _ _=>simp at this
   obtain⟨i,hi⟩:=hkey d0 rfl;refine sv I' hr.in1.in1 (fun e=>e.in1.in1) (sub _ (.head _)) hH2 hca S (hbind _ _ _ _ _) hv rfl fun hR=>⟨_,(hb f c' _ _ _ hR).nox,B,H2,[some (d0,false)],.int i,eN (N:=[x]) (ds:=[d0]) R2.borH (Reps.cons r0 Reps.nil) (Zk _),hi,fun v H' s r=>⟨?_,s⟩⟩
   simp only[Rep]at r;exact⟨i,r⟩
  ·have tD:H D=none:=(sm.trans (sm2.trans tH)).free hD
   refine⟨.ref D,_,J.pins_of fun p hp=>J.pin p (Zt _ (.tail _ hp)),rfl,kk D _ ((sm.trans (sm2.trans tH)).trans (am hD)) tD ⟨xs,af,rs.ext ((R2.ext tH).trans ((R2.to tH).ext (am hD)))⟩⟩
 ·rw[hs];rfl
 ·rw[hs];rfl
end
section
variable{P:Program}{w:World}{K:PySem.W.Frag}{mg:Str->Option Value}{base:Heap}
theorem Fun.okC {x qual:Str}{st:Stmt}{f:Addr}{fd:FuncData}{N ps:List Str}{k:Nat}{sp:Sp}(F:Fun K x qual st f fd) (S:FnScope N ps (aq st)) (len:∀vs H Q E,sp vs H Q E->vs.length=ps.length)
  (hbody:∀(A:Around) (outer:List Env) (s:Shared) (H:Hp) (vs:List V) (Q:VK) (E:XK),Room k (A.deeper (envOfC qual (aq st) s.heap.objs.size f fd.code))->sp vs H Q E->
   ∃t,PSs (kD CX0 P w K mg base N qual (aq st) f fd.code A outer s H E).nox (aM st) t/\t {nx:=fun y H'=>Q .non H',rt:=Q} (b0 N vs) H):FnOk P w K mg base CX0 (k+1) f fd ps sp:=by
 obtain⟨oc,od,kV,doc,pm,an,cdv,ct,osl,rfl,lk,hcd⟩:=F.ex;refine zh lk hcd S len fun A outer s H vs Q E hr hsp=>?_
 obtain⟨t,h,q⟩:=hbody A outer s H vs Q E hr hsp;exact⟨t,h.nox,q⟩
theorem wz {x qual:Str}{st:Stmt}{f c:Addr}{fd:FuncData}{N ps:List Str}{k:Nat}{g:DEnv->Option Out}(F:Fun K x qual st f fd) (hc:fd.code=.ref c) (S:FnScope N ps (aq st)) (hb:Binds K fd ps []) (hm:mg x=some (.ref f)) (hn:ps.length<=N.length)
  (body:∀(A:Around) (outer:List Env) (s:Shared) (H:Hp) (E:XK),Room k (A.deeper (envOfC qual (aq st) s.heap.objs.size f (.ref c)))->DSs (kD CX0 P w K mg base N qual (aq st) f (.ref c) A outer s H E).nox (aM st) g):
  FnOk P w K mg base CX0 (k+1) f fd ps (spM K (bp N.length ps.length g))/\FnM P w K mg base (k+1) x (bp N.length ps.length g):=by
 have key:FnOk P w K mg base CX0 (k+1) f fd ps (spM K (bp N.length ps.length g)):=by
  refine F.okC S (fun vs H Q E h=>?_) (fun A outer s H vs Q E hr h=>?_)
  ·obtain⟨B,ds,r,fr,_,hr,hf,_⟩:=h
   unfold bp at hf
   by_cases q:ds.length=ps.length
   ·rw[<-hr.length,q]
   ·rw[Zo q]at hf;contradiction
  ·obtain⟨B,ds,r,fr,hB,hrs,hf,kk⟩:=h
   rw[hc]at hr⊢;refine⟨_,body A outer s H E hr,?_⟩
   unfold bp at hf
   by_cases q:ds.length=ps.length
   ·rw[Zm q]at hf
    have R:Rel K B H (bJ N.length ds) (b0 N vs) H:=eN hB hrs (by lia)
    cases qo:g (bJ N.length ds)with
    |none=>rw[qo]at hf;contradiction
    |some o=>
     rw[qo]at hf;refine⟨B,H,bJ N.length ds,o,R,qo,?_⟩
     cases o with
     |ret d fr'=>
      simp only[nW,ZG,Prod.mk.injEq]at hf;obtain⟨rfl,rfl⟩:=hf;exact fun v H' x s rr=>kk v H' s rr
     |next δ=>
      simp only[nW,ZG,Prod.mk.injEq]at hf;obtain⟨rfl,rfl⟩:=hf;exact fun σ' H' x R'=>kk .non H' R'.same (by unfold kP;rw[Zo ZE];simp only[Rep])
     |brk δ=>simp only[nW]at hf;contradiction
     |cont δ=>simp only[nW]at hf;contradiction
   ·rw[Zo q]at hf;contradiction
 exact⟨key,⟨f,fd,ps,key,hm,F.kp,hb⟩⟩
end
section
variable{X:Cx}{C:Str}{m m' mm:Bool}{a b e:Expr}{es:List Expr}{fa:DEnv->Option D}{fx:DEnv->Option (Option D)}{fs:DEnv->Option (List D)}{fxs:DEnv->Option (Option (List D))}{pos p:Pos}{k:Nat}{x:Str}
end
section
variable{X:Cx}{C:Str}{m m' mm:Bool}{a b e:Expr}{es:List Expr}{fs:DEnv->Option (List D)}{pos p:Pos}{k:Nat}{x:Str}{f:List D->Option (Option (D×Bool))}
end
inductive OutX where
 |o (x:Out)|rai
section
variable{X:Cx}{C:Str}{st:Stmt}{rest sts:List Stmt}{g:DEnv->Option Out}{g1 g2:DEnv->Option OutX}{pos:Pos}{a:Expr}{fx:DEnv->Option (Option D)}{fc:DEnv->Option Bool}
end
section
variable{P:Program}{w:World}{K:PySem.W.Frag}{mg:Str->Option Value}{base:Heap}{C:Str}
end
end L2
namespace L2
open PySem
noncomputable def ItAt (t:Bool) (h:Heap) (c q:Addr) (n:Nat):Prop:=if t=true then h.IsTupleIter c q n else h.IsListIter c q n
noncomputable def SqAt (t:Bool) (h:Heap) (q:Addr) (vs:Array Value):Prop:=if t=true then h.IsTuple q vs else h.IsList q vs
theorem ItAt.obj {t:Bool}{h:Heap}{c q:Addr}{n:Nat}(x:ItAt t h c q n):∃o,h.get? c=some o/\o.cls=.type (if t=true then "tuple_iterator" else "list_iterator")/\o.data=.fields #[.ref q,.int n 0]:=by
 cases t<;>exact x
theorem ItAt.to {t:Bool}{h h':Heap}{c q:Addr}{n:Nat}(x:ItAt t h c q n) (k:∀o,h.get? c=some o->h'.get? c=some o):ItAt t h' c q n:=by
 cases t<;>(obtain⟨o,e,r⟩:=x;exact⟨o,k o e,r⟩)
theorem SqAt.to {t:Bool}{h h':Heap}{q:Addr}{vs:Array Value}(x:SqAt t h q vs) (k:∀o,h.get? q=some o->h'.get? q=some o):SqAt t h' q vs:=by
 cases t<;>(obtain⟨o,e,r⟩:=x;exact⟨o,k o e,r⟩)
section
variable{prog:Program}{w:World}{A:Around}{E:Value->Shared->Prop}{s:Shared}
theorem tj {c q:Addr}{n:Nat}{vs:Array Value}{Q:Value->Shared->Prop}(hh:A.handled=none) (hc:s.heap.IsTupleIter c q n) (hq:s.heap.IsTuple q vs)
  (some':∀v,vs[n]?=some v->∀h',h'.IsTupleIter c q (n+1)->Heap.SameBut c s.heap h'->Q v {s with heap:=h'})
  (none':vs[n]?=none->∀h' e,Heap.ExtBut c s.heap h'->(∃o,h'.get? e=some o/\o.cls=.type "StopIteration")->E (.ref e) {s with heap:=h'}):
  wpAny (model prog w) A (Builtin.SmallTypes.nextOf (.ref c)) Q E s:=by
 have ty:=hc.typeIs;obtain⟨oc,gc,kc,dc⟩:=hc;obtain⟨oq,gq,_,m,dq⟩:=hq;unfold Builtin.SmallTypes.nextOf;refine Za (ZW (name:=Str.ofString "__next__") ty F.slot_tuple_iterator_next (ZP F.slot_tuple_iterator_next ty F.entry_tuple_iterator_next ?body (F.args_tuple_iterator_next_1 _)))
 change wpAny _ _ (field (.ref c) 0 >>= _) _ E s;refine Za (Yq gc dc (x:=.ref q) rfl ?_)
 change wpAny _ _ (if(Value.ref q==Value.none)=true then _ else _) _ E s
 rw[Zo (by exact ZE)]
 change wpAny _ _ (field (.ref c) 1 >>= _) _ E s;refine Za (Yq gc dc (x:=.int n 0) rfl (Za (Yf gq dq ?_)))
 simp only[Int.toNat_natCast]
 rcases hv:vs[n]? with _|v
 ·simp only[newExc,newTuple,raiseNew]
  refine Za (Yj (Za (Yn gc dc (by simp) (Za (Za (ZL ?_ (by size_fits)))))))
  refine Za (m:=firstArgMember _ _) (wpAny_of_eq (a:=Value.none) (by first|rfl|(simp only[firstArgMember];rfl)) (ZL ?_ (by size_fits)))
  refine Za (wpAny_handled ?_)
  rw[show A.in1.handled=none from hh]
  exact Za (Zd (wpAny_throw (none' hv _ _ (((ZI ..).extBut.push _).push _) ⟨_,Zj _ rfl,rfl⟩)))
 ·refine Za (Yn gc dc (by simp) (Zd ⟨v,rfl,Zd (some' v hv _ ⟨_,ZD _ gc (Yz (ZT dc _)),?_,?_⟩ (ZI ..))⟩))
  ·rw[Obj.cls_mapFields];exact kc
  ·rw[ZT dc];simp[rawInt]
theorem AM {t:Bool}{c q:Addr}{n:Nat}{vs:Array Value}{Q:Value->Shared->Prop}(hh:A.handled=none) (hc:ItAt t s.heap c q n) (hq:SqAt t s.heap q vs)
  (some':∀v,vs[n]?=some v->∀h',ItAt t h' c q (n+1)->Heap.SameBut c s.heap h'->Q v {s with heap:=h'})
  (none':vs[n]?=none->∀h' e,Heap.ExtBut c s.heap h'->(∃o,h'.get? e=some o/\o.cls=.type "StopIteration")->E (.ref e) {s with heap:=h'}):
  wpAny (model prog w) A (Builtin.SmallTypes.nextOf (.ref c)) Q E s:=by
 cases t with
 |true=>exact tj hh hc hq some' none'
 |false=>
  rcases hv:vs[n]? with _|v
  ·exact wpAny_nextOf_list_end hh hc hq hv (none' hv)
  ·exact wpAny_nextOf_list_item hc hq hv (some' v hv)
end
structure Zp (t u:Bool) (h:Heap) (z P O c d p q:Addr) (n:Nat) (f:Value):Prop where
 zz:IsZip h z P O f
 pp:IsPair h P (.ref c) (.ref d)
 oo:∃a b,IsPair h O a b
 cc:ItAt t h c p n
 dd:ItAt u h d q n
structure Ap (z P O c d p q:Addr):Prop where
 nd:[z,P,O,c,d].Nodup
 p:p∉[z,P,O,c,d]
 q:q∉[z,P,O,c,d]
theorem ah {a b:Addr}{h h':Heap}{o:Obj}(k:Heap.SameBut a h h') (n:b≠a) (e:h.get? b=some o):h'.get? b=some o:=(k.2 b n).trans e
section
variable{prog:Program}{w:World}{A:Around}{E:Value->Shared->Prop}{s:Shared}
theorem ug {t u:Bool}{z P O c d p q:Addr}{n:Nat}{xs ys:Array Value}{Q:Value->Shared->Prop}(hh:A.handled=none) (ap:Ap z P O c d p q) (Z:Zp t u s.heap z P O c d p q n .none)
  (hp:SqAt t s.heap p xs) (hq:SqAt u s.heap q ys)
  (item:∀x y,xs[n]?=some x->ys[n]?=some y->∀h',Zp t u h' z P O c d p q (n+1) (rawInt s.heap.objs.size)->IsPair h' s.heap.objs.size x y->h'.objs.size=s.heap.objs.size+1->
   (∀b o,b∉[z,P,O,c,d]->s.heap.get? b=some o->h'.get? b=some o)->Q (.ref s.heap.objs.size) {s with heap:=h'})
  (stop:(xs[n]?=none\/ys[n]?=none)->∀h' e,(∀b o,b∉[z,P,O,c,d]->s.heap.get? b=some o->h'.get? b=some o)->(∃o,h'.get? e=some o/\o.cls=.type "StopIteration")->E (.ref e) {s with heap:=h'}):
  wpAny (model prog w) A (Builtin.«zip.__next__» ⟨[.ref z],[]⟩) (fun r s'=>∃v,r=.done (.ret v)/\Q v s') E s:=by
 obtain⟨zz,pp,⟨a,b,oo⟩,cc,dd⟩:=Z;have nd:=ap.nd;have np:=ap.p;have nq:=ap.q;simp only[YB,ZA,ZB,Z5,not_or,Yg,and_true,not_false_eq_true]at nd np nq;obtain⟨⟨zP,zO,zc,zd⟩,⟨PO,Pc,Pd⟩,⟨Oc,Od⟩,cd⟩:=nd;obtain⟨pz,pP,pO,pc,pd⟩:=np;obtain⟨qz,qP,qO,qc,qd⟩:=nq;change wpAny _ _ (field (.ref z) 2 >>= _) _ E s;refine Za (Yq zz rfl (x:=.bool false) rfl ?_)
 change wpAny _ _ (field (.ref z) 3 >>= _) _ E s;refine Za (Yq zz rfl (x:=.ref P) rfl (Za (Yf pp rfl ?_)))
 change wpAny _ _ (Builtin.SmallTypes.ownedTupleIsFree (.ref z) >>= _) _ E s;unfold Builtin.SmallTypes.ownedTupleIsFree;refine Za (Za (Yq zz rfl (x:=.none) rfl (Zd ?_)))
 simp only[Z6];refine Za (Yj (Za (Yq zz rfl (x:=.ref O) rfl (Za (Yx zz (by simp) fun k₁ g₁ m₁=>Za ?_)))))
 have z₁:IsZip k₁ z P O .ellipsis:=g₁;simp only[List.zipIdx_cons,List.zipIdx_nil,List.forIn_cons,List.forIn_nil];refine Za (Za (wpAny_onRaise ?_))
 change wpAny _ _ (Builtin.SmallTypes.nextOf (.ref c) >>= _) _ _ _;refine Za (AM (t:=t) hh (cc.to fun o e=>ah m₁ (Zz zc) e) (hp.to fun o e=>ah m₁ pz e) (fun x hx k₂ c₂ m₂=>Zd ?_) fun hx k₂ e m₂ he=>?_)
 ·have o₂:IsPair k₂ O a b:=ah m₂ Oc (ah m₁ (Zz zO) oo)
  refine Za (Yf o₂ rfl (Za (wpAny_updateSeq_pair o₂ fun k₃ g₃ m₃=>Za (wpAny_letGo (Zd ?_)))))
  have o₃:IsPair k₃ O x b:=g₃;refine Za (Za (wpAny_onRaise ?_))
  change wpAny _ _ (Builtin.SmallTypes.nextOf (.ref d) >>= _) _ _ _;refine Za (AM (t:=u) hh (dd.to fun o e=>ah m₃ (Zz Od) (ah m₂ (Zz cd) (ah m₁ (Zz zd) e))) (hq.to fun o e=>ah m₃ qO (ah m₂ qc (ah m₁ qz e))) (fun y hy k₄ d₄ m₄=>Zd ?_) fun hy k₄ e m₄ he=>?_)
  ·have o₄:IsPair k₄ O x b:=ah m₄ Od o₃
   refine Za (Yf o₄ rfl (Za (wpAny_updateSeq_pair o₄ fun k₅ g₅ m₅=>Za (wpAny_letGo (Zd (Zd ?_))))))
   have o₅:IsPair k₅ O x y:=g₅;have old:∀f o,f≠z->f≠O->f≠c->f≠d->s.heap.get? f=some o->k₅.get? f=some o:=fun f o n1 n2 n3 n4 e=>ah m₅ n2 (ah m₄ n4 (ah m₃ n2 (ah m₂ n3 (ah m₁ n1 e))))
   have sz:k₅.objs.size=s.heap.objs.size:=by rw[m₅.1,m₄.1,m₃.1,m₂.1,m₁.1]
   have z₅:IsZip k₅ z P O .ellipsis:=ah m₅ zO (ah m₄ zd (ah m₃ zO (ah m₂ zc z₁)));refine Za (Yf o₅ rfl (Za (wpAny_newTuple ?_)))
   have z₆:IsZip (k₅.push {cls:=.type "tuple",data:=.seq #[x,y]}) z P O .ellipsis:=Zc _ z₅
   change wpAny _ _ (Builtin.SmallTypes.ownedTupleHandOut (.ref z) (.ref k₅.objs.size) >>= _) _ E _;unfold Builtin.SmallTypes.ownedTupleHandOut;refine Za (Za (Yx z₆ (by simp) fun k₇ g₇ m₇=>?_))
   have z₇:IsZip k₇ z P O (rawInt k₅.objs.size):=g₇;refine Yx z₇ (by simp) fun k₈ g₈ m₈=>Zd ⟨_,rfl,?_⟩
   have z₈:IsZip k₈ z P O (rawInt k₅.objs.size):=g₈;have up:∀f o,f≠z->k₅.get? f=some o->k₈.get? f=some o:=fun f o n1 e=>ah m₈ n1 (ah m₇ n1 (Zc _ e))
   have lz:=Zi z₅;have new:IsPair k₈ k₅.objs.size x y:=ah m₈ (Yc lz) (ah m₇ (Yc lz) (Zj _ rfl))
   have sz8:k₈.objs.size=k₅.objs.size+1:=by rw[m₈.1,m₇.1,Z1]
   change Q (.ref k₅.objs.size) _;rw[sz]at z₈ new sz8⊢;refine item x y hx hy k₈ ⟨z₈,up _ _ (Zz zP) (old _ _ (Zz zP) PO Pc Pd pp),⟨x,y,up _ _ (Zz zO) o₅⟩,?_,?_⟩ new sz8 fun f o hf e=>?_
   ·exact c₂.to fun o e=>up _ o (Zz zc) (ah m₅ (Zz Oc) (ah m₄ cd (ah m₃ (Zz Oc) e)))
   ·exact d₄.to fun o e=>up _ o (Zz zd) (ah m₅ (Zz Od) e)
   ·simp only[ZA,ZB,Z5,not_or]at hf
    exact up f o hf.1 (old f o hf.1 hf.2.2.1 hf.2.2.2.1 hf.2.2.2.2 e)
  ·obtain⟨oe,ge,ke⟩:=he
   have z₄:IsZip k₄ z P O .ellipsis:=m₄ _ _ zd (ah m₃ zO (ah m₂ zc z₁));have ez:e≠z:=fun r=>by rw[r]at ge;rw[z₄]at ge;obtain rfl:=Zb ge;simp at ke
   refine Yx z₄ (by simp) fun k₅ j m₅=>stop (.inr hy) k₅ e (fun f o hf g=>?_) ⟨oe,ah m₅ ez ge,ke⟩
   simp only[ZA,ZB,Z5,not_or]at hf;obtain⟨n1,_,n2,n3,n4⟩:=hf;exact ah m₅ n1 (m₄ _ _ n4 (ah m₃ n2 (ah m₂ n3 (ah m₁ n1 g))))
 ·obtain⟨oe,ge,ke⟩:=he
  have z₂:IsZip k₂ z P O .ellipsis:=m₂ _ _ zc z₁;have ez:e≠z:=fun r=>by rw[r]at ge;rw[z₂]at ge;obtain rfl:=Zb ge;simp at ke
  refine Yx z₂ (by simp) fun k₃ j m₃=>stop (.inl hx) k₃ e (fun f o hf g=>?_) ⟨oe,ah m₃ ez ge,ke⟩
  simp only[ZA,ZB,Z5,not_or]at hf;exact ah m₃ hf.1 (m₂ _ _ hf.2.2.2.1 (ah m₁ hf.1 g))
end
section
variable{X:Cx}{pins:List (Addr×Obj)}{σ:St}{H:Hp}{s:Shared}{h':Heap}
theorem Inv.turnLay {t':Nat}{fp:List Addr}{T:Addr}{o:HO}(I:Inv X pins σ H s) (k:∀b u,b∉fp->s.heap.get? b=some u->h'.get? b=some u) (hf:∀b∈fp,dT X pins H b)
  (hT:s.heap.objs.size<=T) (new:ObjOk X.prog X.w (upd H T o) h' T o):Inv X pins σ (upd H T o) {s with heap:=h',toks:=t'}:=by
 have hn:H T=none:=I.hok.fresh hT;have far:∀b u,H b=some u->b∉fp:=fun b u e z=>by rw[(hf b z).1]at e;contradiction
 have lo:∀b u,s.heap.get? b=some u->b≠T:=fun b u e=>Zy (Zr (Zi e) hT)
 refine I.step (g':=s.gens) (d':=s.drawn) (ch:=fp) (fun b hb=>?_) (fun b u y y hc e y=>k b u hc e) (fun b u y y hc e y=>⟨u.slots,k b u hc e⟩) (fun b u y e n=>by rw[ai (lo b u e)];exact n)
  (fun b u hc e=>⟨u,k b u hc e⟩) (fun b xs e=>by rw[ai (av e hn)];exact e) (fun b u v e=>by rw[ai (av e hn)];exact e) (fun b lq ps e=>⟨#[],by rw[ai (av e hn),e];simp⟩) (fun m hm=>?_) (fun b u e=>?_) I.bare
 ·obtain⟨_,f1,_,f3,f4,f5⟩:=hf b hb
  exact⟨f3,f1,f4,f5⟩
 ·obtain⟨ob,es,ep,ho,r⟩:=hm
  exact⟨ob,es,ep,k _ ob (fun z=>(hf _ z).2.1 rfl) ho,r⟩
 ·by_cases hb:b=T
  ·subst hb;rw[af]at e;obtain rfl:=Zb e;exact new
  ·rw[ai hb]at e
   refine(I.hok b u e).stay (fun c v hc q=>k c v ?_ q) (fun c q=>by rw[ai (av q hn)];exact q) fun c xs q=>by rw[ai (av q hn)];exact q
   rcases hc with z|z
   ·rw[z];exact far b u e
   ·exact far c _ z
theorem Inv.turns {t':Nat}{fp:List Addr}(I:Inv X pins σ H s) (k:∀b u,b∉fp->s.heap.get? b=some u->h'.get? b=some u) (hf:∀b∈fp,dT X pins H b):Inv X pins σ H {s with heap:=h',toks:=t'}:=by
 have far:∀b u,H b=some u->b∉fp:=fun b u e z=>by rw[(hf b z).1]at e;contradiction
 refine I.step (g':=s.gens) (d':=s.drawn) (ch:=fp) (fun b hb=>?_) (fun b u y y hc e y=>k b u hc e) (fun b u y y hc e y=>⟨u.slots,k b u hc e⟩) (fun b u y e n=>n)
  (fun b u hc e=>⟨u,k b u hc e⟩) (fun b xs e=>e) (fun b u v e=>e) (fun b lq ps e=>⟨#[],by rw[e];simp⟩) (fun m hm=>?_) (fun b u e=>?_) I.bare
 ·obtain⟨_,f1,_,f3,f4,f5⟩:=hf b hb
  exact⟨f3,f1,f4,f5⟩
 ·obtain⟨ob,es,ep,ho,r⟩:=hm
  exact⟨ob,es,ep,k _ ob (fun z=>(hf _ z).2.1 rfl) ho,r⟩
 ·refine(I.hok b u e).stay (fun c v hc q=>k c v ?_ q) (fun y q=>q) fun y y q=>q
  rcases hc with z|z
  ·rw[z];exact far b u e
  ·exact far c _ z
end
noncomputable def SqV (t:Bool) (K:PySem.W.Frag) (H:Hp) (a:Addr) (xs:List V):Prop:=if t=true then SqT K H a xs else SqL K H a xs
section
variable{prog:Program}{w:World}{A:Around}{E:Value->Shared->Prop}{s:Shared}
theorem iw {t u:Bool}{z P O c d p q:Addr}{n:Nat}{xs ys:Array Value}{Q:Option Value->Shared->Prop}(hh:A.handled=none) (ap:Ap z P O c d p q) (Z:Zp t u s.heap z P O c d p q n .none)
  (hp:SqAt t s.heap p xs) (hq:SqAt u s.heap q ys)
  (item:∀x y,xs[n]?=some x->ys[n]?=some y->∀h',Zp t u h' z P O c d p q (n+1) (rawInt s.heap.objs.size)->IsPair h' s.heap.objs.size x y->h'.objs.size=s.heap.objs.size+1->
   (∀b o,b∉[z,P,O,c,d]->s.heap.get? b=some o->h'.get? b=some o)->Q (some (.ref s.heap.objs.size)) {s with heap:=h'})
  (stop:(xs[n]?=none\/ys[n]?=none)->∀h',(∀b o,b∉[z,P,O,c,d]->s.heap.get? b=some o->h'.get? b=some o)->Q none {s with heap:=h'}):
  wpAny (model prog w) A (pyNext (.ref z)) Q E s:=by
 have ty:s.TypeIs (.ref z) "zip":=⟨_,Z.zz,rfl⟩;unfold pyNext;refine Za (YO (ZW (name:=Str.ofString "__next__") ty F.slot_zip_next (ZP F.slot_zip_next ty F.entry_zip_next (ug hh ap Z hp hq (fun x y hx hy h' b1 b2 b3 b4=>Zd (item x y hx hy h' b1 b2 b3 b4)) fun hn h' e k he=>?_) (F.args_zip_next_1 _))))
 obtain⟨o,ho,hc⟩:=he;exact Za (Yv (T:="StopIteration") (b:=true) ⟨o,ho,hc⟩ isSubtype_stop (Zd (stop hn h' k)))
end
section
variable{X:Cx}{pins:List (Addr×Obj)}{σ:St}{H:Hp}{s:Shared}
theorem Inv.seqV {t:Bool}{a:Addr}{xs:List V}(I:Inv X pins σ H s) (h:SqV t X.K H a xs):∃its,Vals xs its/\SqAt t s.heap a its.toArray:=by
 cases t with
 |true=>obtain⟨its,rv,p,_⟩:=I.tuple h;exact⟨its,rv,p⟩
 |false=>obtain⟨its,rv,p,_⟩:=I.list h;exact⟨its,rv,p.isList⟩
theorem Inv.seqV_inj {t:Bool}{a:Addr}{xs ys:List V}(I:Inv X pins σ H s) (h:SqV t X.K H a xs) (h':SqV t X.K H a ys):xs=ys:=by
 cases t with
 |true=>exact I.tuple_inj h h'
 |false=>exact I.list_inj h h'
end
noncomputable def Itz (t u:Bool) (K:PySem.W.Frag) (p q:Addr):It:=
 ⟨fun i H=>∃xs ys x y,SqV t K H p xs/\SqV u K H q ys/\xs[i]?=some x/\ys[i]?=some y,
  fun i H v H'=>∃T x y,H T=none/\v=.ref T/\H'=upd H T (.tup [x,y])/\(∀xs,SqV t K H p xs->xs[i]?=some x)/\∀ys,SqV u K H q ys->ys[i]?=some y,
  fun i H=>∃xs ys,SqV t K H p xs/\SqV u K H q ys/\(xs.length<=i\/ys.length<=i)⟩
theorem ui {P:Program}{w:World}{K:PySem.W.Frag}{elts:List Expr}{x1} {pos:Pos}{t u:Bool}{z Pr O c d p q:Addr}(ap:Ap z Pr O c d p q):
  Turn P w K (.Tuple elts x1 pos) (Itz t u K p q) [z,Pr,O,c,d] z (fun n h=>Zp t u h z Pr O c d p q n .none) where
 mem:=by simp
 obj:=fun i h st b hb=>by
  obtain⟨zz,pp,⟨a,a',oo⟩,cc,dd⟩:=st;simp only[ZA,ZB,Z5]at hb
  rcases hb with rfl|rfl|rfl|rfl|rfl
  ·exact⟨_,zz,fun v e=>by cases e⟩
  ·exact⟨_,pp,fun v e=>by cases e⟩
  ·exact⟨_,oo,fun v e=>by cases e⟩
  ·obtain⟨o,e,_,hd⟩:=cc.obj;exact⟨o,e,fun v e'=>by rw[hd]at e';cases e'⟩
  ·obtain⟨o,e,_,hd⟩:=dd.obj;exact⟨o,e,fun v e'=>by rw[hd]at e';cases e'⟩
 keep:=fun i h h' st k=>by
  obtain⟨zz,pp,⟨a,a',oo⟩,cc,dd⟩:=st;exact⟨k z (by simp) _ zz,k Pr (by simp) _ pp,⟨a,a',k O (by simp) _ oo⟩,cc.to fun o e=>k c (by simp) o e,dd.to fun o e=>k d (by simp) o e⟩
 item:=by
  intro X hP hw hK hc i pins s σ H E I hf st hg;subst hP hw hK;obtain⟨xs,ys,x,y,h1,h2,hx,hy⟩:=hg;obtain⟨is,ri,sp⟩:=I.seqV h1;obtain⟨js,rj,sq⟩:=I.seqV h2;obtain⟨ux,e1,r1⟩:=ri.get hx;obtain⟨uy,e2,r2⟩:=rj.get hy;refine iw (I.ok.hd hc) ap st sp sq (fun vx vy hvx hvy h' Z' new sz k=>?_) fun hn=>?_
  ·have ex:vx=ux:=by simp at hvx;rw[e1]at hvx;exact(Zb hvx).symm
   have ey:vy=uy:=by simp at hvy;rw[e2]at hvy;exact(Zb hvy).symm
   subst ex ey;refine⟨_,rfl,?_⟩
   have hT:H s.heap.objs.size=none:=I.hok.fresh (Zk _);have nT:∀b∈[z,Pr,O,c,d],b≠s.heap.objs.size:=fun b hb e=>by
    obtain⟨o,g,_⟩:=(show ∀b∈[z,Pr,O,c,d],∃o,s.heap.get? b=some o/\∀v,o.data≠.cell v from fun b hb=>by
     obtain⟨zz,pp,⟨a,a',oo⟩,cc,dd⟩:=st;simp only[ZA,ZB,Z5]at hb
     rcases hb with rfl|rfl|rfl|rfl|rfl
     ·exact⟨_,zz,fun v e=>by cases e⟩
     ·exact⟨_,pp,fun v e=>by cases e⟩
     ·exact⟨_,oo,fun v e=>by cases e⟩
     ·obtain⟨o,e,_,hd⟩:=cc.obj;exact⟨o,e,fun v e'=>by rw[hd]at e';cases e'⟩
     ·obtain⟨o,e,_,hd⟩:=dd.obj;exact⟨o,e,fun v e'=>by rw[hd]at e';cases e'⟩) b hb
    rw[e]at g;exact absurd (Zi g) (ZR _)
   have I1:Inv X pins σ (upd H s.heap.objs.size (.tup [x,y])) {s with heap:=h'}:=I.turnLay (t':=s.toks) k hf (Zk _) ⟨by show 2<=sizeLine;decide,[vx,vy],.cons r1 (.cons r2 .nil),⟨_,new,rfl,_,rfl⟩⟩
   obtain⟨zz,pp,oo,cc,dd⟩:=Z';have nd:=ap.nd;simp only[YB,ZA,ZB,Z5,not_or,Yg,and_true,not_false_eq_true]at nd;refine wpAny_letOwnedTupleGo_zip zz fun g2 z2 m2=>?_
   have hz:=hf z (by simp)
   refine⟨.ref s.heap.objs.size,upd H s.heap.objs.size (.tup [x,y]),I1.turned (t':=s.toks) (fun b o hb e=>ah m2 hb e) (by rw[ai (nT z (by simp))];exact hz.1) hz.2.1 hz.2.2.2.1 hz.2.2.2.2.1 hz.2.2.2.2.2,rfl,
    ⟨s.heap.objs.size,x,y,hT,rfl,rfl,fun xs' h=>by rw[I.seqV_inj h h1];exact hx,fun ys' h=>by rw[I.seqV_inj h h2];exact hy⟩,?_,fun b hb=>by rw[ai (nT b hb)];exact(hf b hb).1⟩
   obtain⟨a,a',oo⟩:=oo;exact⟨z2,ah m2 (Zz nd.1.1) pp,⟨a,a',ah m2 (Zz nd.1.2.1) oo⟩,cc.to fun o e=>ah m2 (Zz nd.1.2.2.1) e,dd.to fun o e=>ah m2 (Zz nd.1.2.2.2) e⟩
  ·exfalso
   rcases hn with hn|hn
   ·simp at hn;have:=(List.getElem?_eq_some_iff.mp e1).1;lia
   ·simp at hn;have:=(List.getElem?_eq_some_iff.mp e2).1;lia
 done:=by
  intro X hP hw hK hc i pins s σ H E I hf st hg;subst hP hw hK;obtain⟨xs,ys,h1,h2,hl⟩:=hg;obtain⟨is,ri,sp⟩:=I.seqV h1;obtain⟨js,rj,sq⟩:=I.seqV h2;have l1:=ri.length;have l2:=rj.length;refine iw (I.ok.hd hc) ap st sp sq (fun vx vy hvx hvy h' Z' new sz k=>?_) fun hn h' k=>⟨rfl,I.turns (t':=s.toks) k hf⟩
  exfalso;simp at hvx hvy;have a1:=(List.getElem?_eq_some_iff.mp hvx).1
  have a2:=(List.getElem?_eq_some_iff.mp hvy).1
  lia
 self:=fun j j j j j st h=>wpAny_pyIter_zip st.zz h
end L2
namespace L2
open PySem PySem.Spec PyProof.Rows
noncomputable def itO (t:Bool) (p:Addr):Obj:={cls:=.type (if t=true then "tuple_iterator" else "list_iterator"),data:=.fields #[.ref p,.int 0 0]}
theorem db {prog:Program}{w:World}{A:Around}{E:Value->Shared->Prop}{s:Shared}{t:Bool}{p:Addr}{xs:Array Value}{Q:Value->Shared->Prop}(hp:SqAt t s.heap p xs) (h:Q (.ref s.heap.objs.size) {s with heap:=s.heap.push (itO t p)}):wpAny (model prog w) A (pyIter (.ref p)) Q E s:=by
 cases t with
 |true=>exact wpAny_pyIter_tuple hp h
 |false=>exact wpAny_pyIter_list hp h
noncomputable def zO (a b:Value):Obj:={cls:=.type "tuple",data:=.seq #[a,b]}
noncomputable def uD (t u:Bool) (h:Heap) (p q:Addr):Heap:=
 ((((h.push (itO t p)).push (itO u q)).push (zO (.ref h.objs.size) (.ref (h.push (itO t p)).objs.size))).push (zO .none .none)).push
  {cls:=.type "zip",data:=.fields #[.none,.bool false,.bool false,.ref ((h.push (itO t p)).push (itO u q)).objs.size,.ref (((h.push (itO t p)).push (itO u q)).push (zO (.ref h.objs.size) (.ref (h.push (itO t p)).objs.size))).objs.size]}
theorem xQ (t u:Bool) (p q:Addr) (xs ys:Array Value):
  Meets (Builtin.«zip.__new__» ⟨[.type "zip",.ref p,.ref q],[]⟩) (fun y R s=>SqAt t s.heap p xs/\SqAt u s.heap q ys/\
   R (.ok (.ret (.ref (((((s.heap.push (itO t p)).push (itO u q)).push (zO (.ref s.heap.objs.size) (.ref (s.heap.push (itO t p)).objs.size))).push (zO .none .none)).objs.size)))) {s with heap:=uD t u s.heap p q}):=
 .of_wp fun prog w A R s h=>by
  obtain⟨hp,g,d,tk,os⟩:=s;obtain⟨h1,h2,h⟩:=h;have hsub:=sub_zip;have k1:SqAt t (Shared.heap ⟨hp,g,d,tk,os⟩) p xs:=h1;have k2:SqAt u (Shared.heap ⟨hp.push (itO t p),g,d,tk,os⟩) q ys:=h2.to fun o e=>Zc _ e
  wp_walk using db k1,db k2
  exact⟨_,rfl,h⟩
theorem mK {prog:Program}{w:World}{A:Around}{E:Value->Shared->Prop}{s:Shared}{t u:Bool}{p q:Addr}{xs ys:Array Value}{Q:Value->Shared->Prop}(hp:SqAt t s.heap p xs) (hq:SqAt u s.heap q ys)
  (h:∀z P O c d h',Ap z P O c d p q->Zp t u h' z P O c d p q 0 .none->(∀b∈[z,P,O,c,d],s.heap.objs.size<=b)->(∀b o,s.heap.get? b=some o->h'.get? b=some o)->Q (.ref z) {s with heap:=h'}):
  wpAny (model prog w) A (call (.type "zip") [.ref p,.ref q]) Q E s:=by
 refine callType_new F.called_zip (by decide) (F.typeCall_zip_2 _ _) (F.newCall_zip_2 _ _) (fun obj=>F.args_object_init_3 obj _ _) F.entry_zip_new (xQ t u p q xs ys) ⟨hp,hq,?_⟩
 have lp:p<s.heap.objs.size:=by cases t<;>(obtain⟨o,e,_⟩:=hp;exact Zi e)
 have lq:q<s.heap.objs.size:=by cases u<;>(obtain⟨o,e,_⟩:=hq;exact Zi e)
 generalize e1:s.heap.push (itO t p)=k1;generalize e2:k1.push (itO u q)=k2;generalize e3:k2.push (zO (.ref s.heap.objs.size) (.ref k1.objs.size))=k3;generalize e4:k3.push (zO .none .none)=k4;have hL:uD t u s.heap p q=k4.push {cls:=.type "zip",data:=.fields #[.none,.bool false,.bool false,.ref k2.objs.size,.ref k3.objs.size]}:=by unfold uD;rw[e1,e2,e3,e4]
 have s1:k1.objs.size=s.heap.objs.size+1:=by rw[<-e1];exact Z1 ..
 have s2:k2.objs.size=s.heap.objs.size+2:=by rw[<-e2,Z1,s1]
 have s3:k3.objs.size=s.heap.objs.size+3:=by rw[<-e3,Z1,s2]
 have s4:k4.objs.size=s.heap.objs.size+4:=by rw[<-e4,Z1,s3]
 have u1:∀{b o},s.heap.get? b=some o->k1.get? b=some o:=fun e=>by rw[<-e1];exact Zc _ e
 have u2:∀{b o},k1.get? b=some o->k2.get? b=some o:=fun e=>by rw[<-e2];exact Zc _ e
 have u3:∀{b o},k2.get? b=some o->k3.get? b=some o:=fun e=>by rw[<-e3];exact Zc _ e
 have u4:∀{b o},k3.get? b=some o->k4.get? b=some o:=fun e=>by rw[<-e4];exact Zc _ e
 have u5:∀{b o},k4.get? b=some o->(uD t u s.heap p q).get? b=some o:=fun e=>by rw[hL];exact Zc _ e
 have z5:IsZip (uD t u s.heap p q) k4.objs.size k2.objs.size k3.objs.size .none:=by rw[hL];exact Zj _ rfl
 have o5:IsPair (uD t u s.heap p q) k3.objs.size .none .none:=u5 (by rw[<-e4];exact Zj _ rfl)
 have p5:IsPair (uD t u s.heap p q) k2.objs.size (.ref s.heap.objs.size) (.ref k1.objs.size):=u5 (u4 (by rw[<-e3];exact Zj _ rfl))
 have d5:(uD t u s.heap p q).get? k1.objs.size=some (itO u q):=u5 (u4 (u3 (by rw[<-e2];exact Zj _ rfl)))
 have c5:(uD t u s.heap p q).get? s.heap.objs.size=some (itO t p):=u5 (u4 (u3 (u2 (by rw[<-e1];exact Zj _ rfl))))
 refine⟨⟨_,z5,rfl⟩,h k4.objs.size k2.objs.size k3.objs.size s.heap.objs.size k1.objs.size _ ⟨?_,?_,?_⟩ ⟨z5,p5,⟨_,_,o5⟩,?_,?_⟩ ?_ fun b o e=>u5 (u4 (u3 (u2 (u1 e))))⟩
 ·rw[s1,s2,s3,s4]
  simp only[YB,ZA,ZB,Z5,not_or,Yg,and_true,not_false_eq_true];refine⟨⟨?_,?_,?_,?_⟩,⟨?_,?_,?_⟩,⟨?_,?_⟩,?_⟩<;>(intro e;have e':(_:Nat)=_:=e;lia)
 ·rw[s1,s2,s3,s4]
  simp only[ZA,ZB,Z5,not_or];have far:∀k:Nat,p≠s.heap.objs.size+k:=fun k=>Zy (Zr lp (Nat.le_add_right _ k))
  exact⟨far 4,far 2,far 3,far 0,far 1⟩
 ·rw[s1,s2,s3,s4]
  simp only[ZA,ZB,Z5,not_or];have far:∀k:Nat,q≠s.heap.objs.size+k:=fun k=>Zy (Zr lq (Nat.le_add_right _ k))
  exact⟨far 4,far 2,far 3,far 0,far 1⟩
 ·cases t<;>exact⟨_,c5,rfl,rfl⟩
 ·cases u<;>exact⟨_,d5,rfl,rfl⟩
 ·rw[s1,s2,s3,s4]
  intro b hb;simp only[ZA,ZB,Z5]at hb;have:(s.heap.objs.size:Nat)<=(b:Nat):=by rcases hb with rfl|rfl|rfl|rfl|rfl<;>lia
  exact this
section
variable{X:Cx}{elts:List Expr}{x1:Nat}{tp:Pos}
noncomputable def Et (t u:Bool) (K:PySem.W.Frag) (ta:TA):TI:=fun σ H R=>ta σ H fun vs H1=>∃p q,vs=[.ref p,.ref q]/\(∃xs,SqV t K H1 p xs)/\(∃ys,SqV u K H1 q ys)/\R (Itz t u K p q) H1
theorem zL {t u:Bool}{a b:Expr}{ta:TA}{p pos:Pos}(hg:Gl X "zip") (hm:X.mg "zip"=none) (ha:PA X [a,b] ta) (hs:starEach [a,b] X.env=[(false,eval a X.env),(false,eval b X.env)]:=by rfl) (hs2:starEach [b] X.env=[(false,eval b X.env)]:=by rfl):
  PI X (.Tuple elts x1 tp) (.Call (.Name "zip" p) [a,b] [] pos) (Et t u X.K ta):=by
 intro pins s σ H R I h;refine Call_ (c9 I hg hm boot_zip (Yb (thn (ha pos pins s σ H _ I h) fun us s1 hz9=>?_) (by rw[hs,hs2]) (by rw[hs2];rfl)))
 obtain⟨vs,H1,I1,r1,q1⟩:=hz9;obtain⟨l1,l2,e,⟨xs,h1⟩,⟨ys,h2⟩,q⟩:=q1;subst e;cases r1 with
 |cons r rr=>
  cases rr with
  |cons r' rr=>
   cases rr;cases r;cases r';obtain⟨is,ri,sp⟩:=I1.seqV h1;obtain⟨js,rj,sq⟩:=I1.seqV h2;refine mK sp sq fun z P O c d h' ap Z hi k=>?_
   have I2:Inv X pins σ H1 {s1 with heap:=h'}:=I1.kept (t':=s1.toks) k
   refine wpAny_pyIter_zip (s:={s1 with heap:=h'}) Z.zz ⟨z,[z,P,O,c,d],_,_,H1,rfl,I2,ui ap,Z,fun b hb=>?_,q⟩
   have hn:H1 b=none:=I1.hok.fresh (hi b hb);obtain⟨f0,f1,f2,f3,f4,f5⟩:=I1.fpOk (hi b hb) hn;exact⟨f0,f1,f2,f3,f4,f5⟩
noncomputable def bY:List D->List D->List D
 |d::ds,e::es=>.tup [d,e]::bY ds es
 |_,_=>[]
theorem jI:∀(ds es:List D) (i:Nat) (x:D),(bY ds es)[i]?=some x->∃d e,ds[i]?=some d/\es[i]?=some e/\x=.tup [d,e]
 |[],_,i,x,h=>by simp[bY]at h
 |d::ds,[],i,x,h=>by simp[bY]at h
 |d::ds,e::es,0,x,h=>by simp[bY]at h;exact⟨d,e,rfl,rfl,h.symm⟩
 |d::ds,e::es,i+1,x,h=>by simp[bY]at h;simpa using jI ds es i x h
theorem eM:∀ds es:List D,(bY ds es).length=min ds.length es.length
 |[],_=>by simp[bY]
 |d::ds,[]=>by simp[bY]
 |d::ds,e::es=>by simp[bY,eM ds es]
noncomputable def yq (t:Bool) (x:Option D):Option (List D):=if t=true then qZ x else b8 x
noncomputable def xh (t u:Bool) (x y:Option D):Option (List D):=ac (yq t x) fun ds=>ac (yq u y) fun es=>some (bY ds es)
theorem dR {K:PySem.W.Frag}{B:Addr->Prop}{H:Hp}{t:Bool}{x:Option D}{ds:List D}{v:V}{d:D}(h:yq t x=some ds) (e:x=some d) (r:Rep K B H d v):∃l xs,v=.ref l/\Reps K B H ds xs/\∀H',Ext B H H'->SqV t K H' l xs:=by
 cases t with
 |true=>
  have:=iO h;rw[e]at this;obtain rfl:=Zb this;simp only[Rep]at r;obtain⟨l,xs,rfl,hq,rs⟩:=r;exact⟨l,xs,rfl,rs,fun H' x=>SqT.of (x.tups _ _ hq)⟩
 |false=>
  have:=jx h;rw[e]at this;obtain rfl:=Zb this;simp only[Rep]at r;obtain⟨l,xs,rfl,hq,rs⟩:=r;exact⟨l,xs,rfl,rs,fun H' x=>(hq.ext x).sq⟩
theorem yC {t u m:Bool}{a b:Expr}{fa fb:DEnv->Option D}{p pos:Pos}(g:Gl X "zip") (hm:X.mg "zip"=none) (h:DE X m a fa) (h':DE X m b fb) (hs:starEach [a,b] X.env=[(false,eval a X.env),(false,eval b X.env)]:=by rfl) (hs2:starEach [b] X.env=[(false,eval b X.env)]:=by rfl):
  DI X m (.Tuple elts x1 tp) (.Call (.Name "zip" p) [a,b] [] pos) (fun δ=>xh t u (fa δ) (fb δ)):=
 (zL (t:=t) (u:=u) g hm (ar h (ar h' aH hs2) (by rw[hs,hs2])) hs hs2).imp fun σ H Q hz=>by
  obtain⟨B,Hk,δ,ds,R,e,k⟩:=hz;obtain⟨as,q1,e⟩:=ak e;obtain⟨bs,q2,e⟩:=ak e;obtain rfl:=Zb e;obtain⟨d1,e1⟩:∃d,fa δ=some d:=by
   cases q:fa δ with
   |none=>rw[q]at q1;cases t<;>contradiction
   |some d=>exact⟨d,rfl⟩
  obtain⟨d2,e2⟩:∃d,fb δ=some d:=by
   cases q:fb δ with
   |none=>rw[q]at q2;cases u<;>contradiction
   |some d=>exact⟨d,rfl⟩
  refine two R e1 e2 fun v w H' s R' r1 r2=>?_
  obtain⟨l1,xs,rfl,rs1,sq1⟩:=dR q1 e1 r1;obtain⟨l2,ys,rfl,rs2,sq2⟩:=dR q2 e2 r2;refine⟨l1,l2,rfl,⟨xs,sq1 _ Ext.refl⟩,⟨ys,sq2 _ Ext.refl⟩,k _ H' s fun H2 x=>?_⟩
  have hx:=sq1 H2 x;have hy:=sq2 H2 x;have rx:=rs1.ext x;have ry:=rs2.ext x;refine⟨⟨xs,ys,hx,hy,?_⟩,fun i d hd=>?_⟩
  ·rw[eM,<-rx.length,<-ry.length];lia
  ·obtain⟨d1,d2,g1,g2,rfl⟩:=jI _ _ _ _ hd
   obtain⟨y1,w1,z1⟩:=rx.get g1;obtain⟨y2,w2,z2⟩:=ry.get g2;refine⟨⟨xs,ys,y1,y2,hx,hy,w1,w2⟩,fun v H3 hz9=>?_⟩
   obtain⟨T,v1,v2,hT,ev,e3,n1,n2⟩:=hz9;have:=n1 xs hx;rw[w1]at this;obtain rfl:=Zb this;have:=n2 ys hy;rw[w2]at this;obtain rfl:=Zb this;have sm:Same H2 (upd H2 T (.tup [y1,y2])):=am hT;have bo:∀a,aT m B δ σ a->∃o:HOn,H2 a=some o.1:=fun a ha=>by
    obtain⟨o,ho⟩:=R'.bsH m a ha;exact⟨o,(x.lent a ha).trans ho⟩
   have ex:=sm.ext bo;rw[e3,ev];refine⟨sm,?_⟩
   simp only[Rep];exact⟨T,[y1,y2],rfl,af,Reps.cons (z1.ext ex) (Reps.cons (z2.ext ex) Reps.nil)⟩
end
theorem cV {α β:Type}(f:α->β):∀{l1 l2:List β},l1.Perm l2->∀l:List α,l2=l.map f->∃l':List α,l'.Perm l/\l1=l'.map f:=by
 intro l1 l2 p
 induction p with
 |nil=>intro l h;exact⟨l,Yo _,h⟩
 |cons x p ih=>
  intro l h;cases l with
  |nil=>contradiction
  |cons a l=>
   simp only[Zf,YC]at h;obtain⟨l',p',e'⟩:=ih l h.2;exact⟨a::l',List.Perm.cons a p',by rw[Zf,h.1,e']⟩
 |swap x y l0=>
  intro l h;cases l with
  |nil=>contradiction
  |cons a l=>
   cases l with
   |nil=>cases h
   |cons b l=>
    simp only[Zf,YC]at h;exact⟨b::a::l,List.Perm.swap a b l,by rw[Zf,Zf,h.1,h.2.1,h.2.2]⟩
 |trans p q ih1 ih2=>
  intro l h;obtain⟨l2,p2,e2⟩:=ih2 l h;obtain⟨l1,p1,e1⟩:=ih1 l2 e2;exact⟨l1,p1.trans p2,e1⟩
noncomputable def uS:List Str->List Str
 |[]=>[]
 |x::l=>if x∈l then uS l else x::uS l
theorem jE (x:Str):∀l:List Str,x∈uS l↔x∈l
 |[]=>Iff.rfl
 |d::l=>by
  unfold uS;split
  ·rename_i h
   rw[jE x l,ZA];exact⟨.inr,fun z=>z.elim (fun e=>e▸h) id⟩
  ·rw[ZA,ZA,jE x l]
theorem dW:∀l:List Str,(uS l).Nodup
 |[]=>Yg
 |d::l=>by
  unfold uS;split
  ·exact dW l
  ·rename_i h
   exact YB.mpr ⟨fun z=>h ((jE d l).mp z),dW l⟩
theorem vv:∀l:List Str,(uS l).length<=l.length
 |[]=>Zk _
 |d::l=>by
  have:=vv l;unfold uS;split<;>simp<;>lia
noncomputable abbrev cE (w:World):Bool:=!w.params.followText "set-order"
theorem ay:Slot "set_iterator" "__next__" "set_iterator.__next__":=
 .of (owner:="set_iterator") (n:="__next__") (by rw[typeLookup_type,YN];kernel_rfl) (by decide +kernel) (by decide +kernel) (by decide +kernel)
  (by first|exact .inl (by decide +kernel)|exact .inr (by decide +kernel)) (by rw[isSubtype_type];kernel_rfl)
theorem bh:entryFor table "set_iterator.__next__"=some Builtin.«set_iterator.__next__»:=entryFor_of_tree (by kernel_rfl)
theorem dB:Slot "set_iterator" "__iter__" "set_iterator.__iter__":=
 .of (owner:="set_iterator") (n:="__iter__") (by rw[typeLookup_type,YN];kernel_rfl) (by decide +kernel) (by decide +kernel) (by decide +kernel)
  (by first|exact .inl (by decide +kernel)|exact .inr (by decide +kernel)) (by rw[isSubtype_type];kernel_rfl)
theorem iu:entryFor table "set_iterator.__iter__"=some Builtin.«dict_keyiterator.__iter__»:=
 entryFor_alias (id':="dict_keyiterator.__iter__") (by kernel_rfl) rfl (by decide +kernel) (by kernel_rfl)
theorem eU:entryFor table "set.__iter__"=some Builtin.«frozenset.__iter__»:=
 entryFor_alias (id':="frozenset.__iter__") (by kernel_rfl) rfl (by decide +kernel) (by kernel_rfl)
theorem bw (a:Value):argsOk "set_iterator.__next__" ⟨[a],[]⟩:=by
 unfold argsOk;kernel_rfl
theorem jo (a:Value):argsOk "set_iterator.__iter__" ⟨[a],[]⟩:=by
 unfold argsOk;kernel_rfl
theorem gj {α:Type}{l:List α}{i:Nat}(h:i<l.length):(l[i]::l.eraseIdx i).Perm l:=by
 rw[List.eraseIdx_eq_take_drop_succ];refine List.perm_middle.symm.trans ?_
 rw[<-ZV h,List.take_append_drop]
theorem fQ {prog:Program}{w:World}{A:Around}{E:Value->Shared->Prop}{α:Type}:∀(n:Nat) (xs:List α) (s:Shared) (Q:List α->Shared->Prop),xs.length=n->
  (∀ys d,ys.Perm xs->Q ys {s with drawn:=d})->wpAny (model prog w) A (drawOrder n xs) Q E s
 |0,xs,s,Q,hl,hQ=>by
  have:xs=[]:=List.length_eq_zero_iff.mp hl;subst this;unfold drawOrder;exact Zd (hQ [] s.drawn (Yo _))
 |n+1,[],s,Q,hl,hQ=>by contradiction
 |n+1,x::xs,s,Q,hl,hQ=>by
  unfold drawOrder;refine Za (Q:=Q) ?_
  intro Γ p hΓ;refine⟨by simp,?_⟩
  generalize hd:s.drawn.bump .order=d1;generalize hi:(model prog w).w.draws .order (s.drawn.get .order)%(x::xs).length=i;have hlt:i<(x::xs).length:=by rw[<-hi];exact Nat.mod_lt _ (by simp)
  have key:wpAny (model prog w) A (match(x::xs)[i]? with|some y=>(do return y::(<-drawOrder n ((x::xs).eraseIdx i)))|none=>unsupported "internal:drawOrder") Q E {s with drawn:=d1}:=by
   rw[Yk hlt]
   dsimp only;refine Za (fQ n ((x::xs).eraseIdx i) _ _ (by rw[List.length_eraseIdx_of_lt hlt,hl];rfl) fun ys d hp=>?_)
   refine Zd (hQ _ d ?_)
   exact(List.Perm.cons _ hp).trans (gj hlt)
  exact key
theorem o7 {α:Type}(f:Nat->Nat):∀(fuel k:Nat) (left:List α) (out:Array α),fuel=left.length->(pickOrder.go f fuel k left out).toList.Perm (out.toList++left)
 |0,k,left,out,h=>by
  have:left=[]:=List.length_eq_zero_iff.mp h.symm;subst this;unfold pickOrder.go;simp
 |fuel+1,k,left,out,h=>by
  unfold pickOrder.go;have hlt:f k%left.length<left.length:=Nat.mod_lt _ (by lia)
  rw[Yk hlt]
  dsimp only;refine(o7 f fuel (k+1) _ _ (by rw[List.length_eraseIdx_of_lt hlt];lia)).trans ?_
  rw[Array.toList_push,List.append_assoc];exact List.Perm.append_left _ (gj hlt)
theorem pN {α:Type}(f:Nat->Nat) (xs:Array α):(pickOrder f xs).toList.Perm xs.toList:=by
 unfold pickOrder
 simpa using o7 f xs.size 0 xs.toList #[] (by simp)
theorem uL {es:List (Int×Value)}{order:List Nat}(h:order.Perm (List.range es.length)):(order.filterMap (es[·]?)).Perm es:=by
 have h1:=h.filterMap (es[·]?)
 rwa[List.filterMap_getElem?_range_length]at h1
structure SetIs (h:Heap) (S:Addr) (es:List (Int×Value)) (ep:Nat) (t:SetTable):Prop where
 ob:∃o,h.get? S=some o/\o.ExactSet/\o.data=.set es.toArray ep t
 fits:t.fits es.toArray.size=true
theorem SetIs.at {h h':Heap}{S:Addr}{es:List (Int×Value)}{ep:Nat}{t:SetTable}(x:SetIs h S es ep t) (k:∀o,h.get? S=some o->h'.get? S=some o):SetIs h' S es ep t:=by
 obtain⟨⟨o,ho,r⟩,a⟩:=x;exact⟨⟨o,k o ho,r⟩,a⟩
noncomputable def IterAt (h:Heap) (I:Addr) (first:Value) (i:Nat) (S:Addr) (n ep:Nat):Prop:=∃o,h.get? I=some o/\o.cls=.type "set_iterator"/\o.data=.fields #[first,rawInt i,.ref S,rawInt n,rawInt ep]
theorem IterAt.typeIs {s:Shared}{I S:Addr}{first:Value}{i n ep:Nat}(x:IterAt s.heap I first i S n ep):s.TypeIs (.ref I) "set_iterator":=by
 obtain⟨o,ho,hc,_⟩:=x;exact⟨o,ho,hc⟩
theorem IterAt.at {h h':Heap}{I S:Addr}{first:Value}{i n ep:Nat}(x:IterAt h I first i S n ep) (k:∀o,h.get? I=some o->h'.get? I=some o):IterAt h' I first i S n ep:=by
 obtain⟨o,ho,r⟩:=x;exact⟨o,k o ho,r⟩
section
variable{prog:Program}{w:World}{A:Around}{E:Value->Shared->Prop}{s:Shared}{I S:Addr}{es:List (Int×Value)}{ep:Nat}{t:SetTable}{i:Nat}
theorem jB {sl nx:Nat}{v:Value}{Q:Option Value->Shared->Prop}(hne:S≠I) (it:IterAt s.heap I (rawInt sl) i S es.length ep) (st:SetIs s.heap S es ep t)
  (hn:∀(s:Shared) (R:Option (Value×Nat)->Shared->Prop) (E:Value->Shared->Prop),SetIs s.heap S es ep t->R (some (v,nx)) s->wpAny (model prog w) A.in1 (setNext S sl i ep) R E s)
  (hQ:∀h',IterAt h' I (rawInt nx) (i+1) S es.length ep->(∀b o,b≠I->s.heap.get? b=some o->h'.get? b=some o)->Q (some v) {s with heap:=h'}):wpAny (model prog w) A (pyNext (.ref I)) Q E s:=by
 have hT:=it.typeIs;obtain⟨o,ho,hc,hd⟩:=it;unfold pyNext;refine Za (YO (ZW (name:=Str.ofString "__next__") hT ay (ZP ay hT bh ?_ (bw _))))
 unfold Builtin.«set_iterator.__next__»;refine Za (m:=slotArgs "__next__" 0 _) (Zd ?_)
 dsimp only;refine Za (wpAny_fieldsOf ho hd ?_)
 dsimp only[rawInt];obtain⟨os,hos,hex,hds⟩:=st.ob;refine Za (YZ hos hds st.fits ?_)
 rw[Zo (by simp)]
 simp only[Int.toNat_natCast];refine Za (hn s _ _ st ?_)
 dsimp only;refine Za (Yn ho hd (by simp) ?_)
 have g1:=ZD (Obj.mapFields (·.setIfInBounds 0 (rawInt nx))) ho (Yz (ZT hd _))
 refine Za (Yn g1 (ZT hd _) (by simp) ?_)
 have g2:=ZD (Obj.mapFields (·.setIfInBounds 1 (rawInt ((i:Int)+1)))) g1 (Yz (ZT (ZT hd _) _))
 refine Zd ⟨_,rfl,Zd (hQ _ ?_ ?_)⟩
 ·exact⟨_,g2,(Obj.cls_mapFields ..).trans ((Obj.cls_mapFields ..).trans hc),by rw[ZT (ZT hd _)];simp[rawInt]⟩
 ·intro b o' hb e
  exact(ZC _ _ (Zz hb)).trans ((ZC _ _ (Zz hb)).trans e)
theorem gA {T:Addr}{ps:List Nat}{p:Nat}{e:Int×Value}{Q:Option Value->Shared->Prop}(hne:S≠I) (it:IterAt s.heap I (.ref T) i S es.length ep) (st:SetIs s.heap S es ep t) (ht:∃o n,s.heap.get? T=some o/\o.data=.seq (ps.map fun(k:Nat)=>rawInt k).toArray n)
  (hp:ps[i]?=some p) (he:es[p]?=some e)
  (hQ:∀h',IterAt h' I (.ref T) (i+1) S es.length ep->(∀b o,b≠I->s.heap.get? b=some o->h'.get? b=some o)->Q (some e.2) {s with heap:=h'}):wpAny (model prog w) A (pyNext (.ref I)) Q E s:=by
 have hT:=it.typeIs;obtain⟨o,ho,hc,hd⟩:=it;unfold pyNext;refine Za (YO (ZW (name:=Str.ofString "__next__") hT ay (ZP ay hT bh ?_ (bw _))))
 unfold Builtin.«set_iterator.__next__»;refine Za (m:=slotArgs "__next__" 0 _) (Zd ?_)
 dsimp only;refine Za (wpAny_fieldsOf ho hd ?_)
 dsimp only[rawInt];obtain⟨os,hos,hex,hds⟩:=st.ob;refine Za (YZ hos hds st.fits ?_)
 rw[Zo (by simp)]
 simp only[Int.toNat_natCast];obtain⟨oT,nT,hoT,hdT⟩:=ht;refine Za (Yf hoT hdT ?_)
 dsimp only;have e1:(ps.map fun(k:Nat)=>rawInt k).toArray[i]?=some (rawInt p):=by simp[hp]
 rw[e1];dsimp only[rawInt];simp only[Int.toNat_natCast];refine Za ?_
 unfold setNextDrawn;refine Za (YR hos hds st.fits ?_)
 dsimp only;rw[Zo (by simp)]
 have e2:es.toArray[p]?=some e:=by simp[he]
 rw[e2];dsimp only;refine Zd ?_
 refine Za (Yn ho hd (by simp) ?_)
 have g2:=ZD (Obj.mapFields (·.setIfInBounds 1 (rawInt ((i:Int)+1)))) ho (Yz (ZT hd _))
 refine Zd ⟨_,rfl,Zd (hQ _ ?_ ?_)⟩
 ·exact⟨_,g2,(Obj.cls_mapFields ..).trans hc,by rw[ZT hd];simp[rawInt]⟩
 ·intro b o' hb e
  exact(ZC _ _ (Zz hb)).trans e
theorem kQ {sl:Nat}{Q:Option Value->Shared->Prop}(hh:A.handled=none) (it:IterAt s.heap I (rawInt sl) i S es.length ep) (st:SetIs s.heap S es ep t)
  (hn:∀(s:Shared) (R:Option (Value×Nat)->Shared->Prop) (E:Value->Shared->Prop),SetIs s.heap S es ep t->R none s->wpAny (model prog w) A.in1 (setNext S sl i ep) R E s)
  (hQ:∀h',(∀b o,b≠I->s.heap.get? b=some o->h'.get? b=some o)->Q none {s with heap:=h'}):wpAny (model prog w) A (pyNext (.ref I)) Q E s:=by
 have hT:=it.typeIs;obtain⟨o,ho,hc,hd⟩:=it;unfold pyNext;refine Za (YO (ZW (name:=Str.ofString "__next__") hT ay (ZP ay hT bh ?_ (bw _))))
 unfold Builtin.«set_iterator.__next__»;refine Za (m:=slotArgs "__next__" 0 _) (Zd ?_)
 dsimp only;refine Za (wpAny_fieldsOf ho hd ?_)
 dsimp only[rawInt];obtain⟨os,hos,hex,hds⟩:=st.ob;refine Za (YZ hos hds st.fits ?_)
 rw[Zo (by simp)]
 simp only[Int.toNat_natCast];refine Za (hn s _ _ st ?_)
 dsimp only;refine Za (Yn ho hd (by simp) ?_)
 refine Za ?_
 simp only[newExc,newTuple];refine Za (ZL ?_ (by size_fits))
 refine Za (m:=firstArgMember _ _) (wpAny_of_eq (a:=Value.none) (by first|rfl|(simp only[firstArgMember];rfl)) ?_)
 refine ZL ?_ (by size_fits)
 simp only[raiseNew];refine Za (wpAny_handled ?_)
 rw[show A.in1.handled=none from hh]
 refine Za (Zd (wpAny_throw ?_))
 refine Za (Yv (T:="StopIteration") (b:=true) ⟨_,Zj _ rfl,rfl⟩ isSubtype_stop ?_)
 exact Zd (hQ _ fun b o' hb e=>Zc _ (Zc _ ((ZC _ _ (Zz hb)).trans e)))
theorem ju {T:Addr}{ps:List Nat}{Q:Option Value->Shared->Prop}(hh:A.handled=none) (it:IterAt s.heap I (.ref T) i S es.length ep) (st:SetIs s.heap S es ep t) (ht:∃o n,s.heap.get? T=some o/\o.data=.seq (ps.map fun(k:Nat)=>rawInt k).toArray n)
  (hp:ps[i]?=none) (hQ:∀h',(∀b o,b≠I->s.heap.get? b=some o->h'.get? b=some o)->Q none {s with heap:=h'}):wpAny (model prog w) A (pyNext (.ref I)) Q E s:=by
 have hT:=it.typeIs;obtain⟨o,ho,hc,hd⟩:=it;unfold pyNext;refine Za (YO (ZW (name:=Str.ofString "__next__") hT ay (ZP ay hT bh ?_ (bw _))))
 unfold Builtin.«set_iterator.__next__»;refine Za (m:=slotArgs "__next__" 0 _) (Zd ?_)
 dsimp only;refine Za (wpAny_fieldsOf ho hd ?_)
 dsimp only[rawInt];obtain⟨os,hos,hex,hds⟩:=st.ob;refine Za (YZ hos hds st.fits ?_)
 rw[Zo (by simp)]
 simp only[Int.toNat_natCast];obtain⟨oT,nT,hoT,hdT⟩:=ht;refine Za (Yf hoT hdT ?_)
 dsimp only;have e1:(ps.map fun(k:Nat)=>rawInt k).toArray[i]?=none:=by simpa using hp
 rw[e1];dsimp only;refine Za (Yn ho hd (by simp) ?_)
 have g1:=ZD (Obj.mapFields (·.setIfInBounds 0 (rawInt 0))) ho (Yz (ZT hd _))
 refine Za (Yn g1 (ZT hd _) (by simp) ?_)
 refine Za ?_
 simp only[newExc,newTuple];refine Za (ZL ?_ (by size_fits))
 refine Za (m:=firstArgMember _ _) (wpAny_of_eq (a:=Value.none) (by first|rfl|(simp only[firstArgMember];rfl)) ?_)
 refine ZL ?_ (by size_fits)
 simp only[raiseNew];refine Za (wpAny_handled ?_)
 rw[show A.in1.handled=none from hh]
 refine Za (Zd (wpAny_throw ?_))
 refine Za (Yv (T:="StopIteration") (b:=true) ⟨_,Zj _ rfl,rfl⟩ isSubtype_stop ?_)
 exact Zd (hQ _ fun b o' hb e=>Zc _ (Zc _ ((ZC _ _ (Zz hb)).trans ((ZC _ _ (Zz hb)).trans e))))
theorem pX {first:Value}{n:Nat}{Q:Value->Shared->Prop}(it:IterAt s.heap I first i S n ep) (hQ:Q (.ref I) s):wpAny (model prog w) A (pyIter (.ref I)) Q E s:=by
 refine wpAny_pyIter_slot it.typeIs dB (ZP dB it.typeIs iu ?_ (jo _))
 show wpAny _ _ (ret (.ref I)) _ _ s;exact Zd ⟨_,rfl,"set_iterator",_,it.typeIs,ay.lookup,hQ⟩
end
section
variable{prog:Program}{w:World}{A:Around}{E:Value->Shared->Prop}{s:Shared}{S:Addr}{es:List (Int×Value)}{ep:Nat}{t:SetTable}{i sl:Nat}
theorem fN (a:Addr) (slot given epochThen:Nat):setNext a slot given epochThen=(do
  let (es,epoch,t) <-setState a
  if <-setsByText then
   if epoch != epochThen then unsupported "set_iterator.__next__:elements-changed"
   return ((<-setWalk a)[given]?).map fun e=>(e.2,slot)
  if !t.plain&&es.size>1 then unsupported "set_iterator.__next__:the-table-is-plain-no-more"
  (if(!t.led&&!es.isEmpty)=true then unsupported "set:maker-not-led" else pure ():Sem Unit)
  let i:=SetTable.below t.place slot
  return match es[i]?,t.place[i]? with
   |some (_,x),some j=>some (x,j+1)
   |_,_=>none):=rfl
theorem jg (hb:w.params.followText "set-order"=true) (st:SetIs s.heap S es ep t) {R:Option (Value×Nat)->Shared->Prop}
  (h:R (((pickOrder (w.params.setOrder S ep) es.toArray)[i]?).map fun e=>(e.2,sl)) s):wpAny (model prog w) A (setNext S sl i ep) R E s:=by
 obtain⟨os,hos,hex,hds⟩:=st.ob;rw[fN];refine Za (YR hos hds st.fits ?_)
 dsimp only;unfold setsByText;refine Za (Za (YW (Zd ?_)))
 show wpAny _ _ (if w.params.followText "set-order"=true then _ else _) _ _ _
 rw[Zm hb,Zo (by simp)]
 refine Za ?_
 unfold setWalk setsByText;refine Za (YR hos hds st.fits ?_)
 dsimp only;refine Za (Za (YW (Zd ?_)))
 show wpAny _ _ (if w.params.followText "set-order"=true then _ else _) _ _ _
 rw[Zm hb];refine Za (YW (Zd ?_))
 exact Zd h
theorem jq (hb:w.params.followText "set-order"=false) (st:SetIs s.heap S es ep t) (hled:t.led=true) (hpl:(!t.plain&&decide (es.toArray.size>1))=false) {R:Option (Value×Nat)->Shared->Prop}
  (h:R (match es.toArray[SetTable.below t.place sl]?,t.place[SetTable.below t.place sl]? with|some (_,x),some j=>some (x,j+1)|_,_=>none) s):wpAny (model prog w) A (setNext S sl i ep) R E s:=by
 obtain⟨os,hos,hex,hds⟩:=st.ob;rw[fN];refine Za (YR hos hds st.fits ?_)
 dsimp only;unfold setsByText;refine Za (Za (YW (Zd ?_)))
 show wpAny _ _ (if w.params.followText "set-order"=true then _ else _) _ _ _
 rw[Zo (by rw[hb];exact ZE),Zo (by rw[hpl];exact ZE),Zo (by rw[hled];simp)]
 refine Za (Zd ?_)
 exact Zd h
end
noncomputable def i8 (t:SetTable) (i:Nat):Nat:=match i with|0=>0|k+1=>t.place.getD k 0+1
theorem dE {t:SetTable}{i:Nat}(h1:t.place.size<=1) (hi:i<=t.place.size):SetTable.below t.place (i8 t i)=i:=by
 obtain⟨m,⟨l⟩,d,f,le,mo,pl⟩:=t
 match l,h1 with
 |[],_=>cases Nat.le_zero.mp hi;rfl
 |[p],_=>
  match i,hi with
  |0,_=>simp[SetTable.below,SetTable.below.go,i8]
  |1,_=>simp[SetTable.below,SetTable.below.go,i8]
section
variable{prog:Program}{w:World}{A:Around}{E:Value->Shared->Prop}{s:Shared}{I S:Addr}{es:List (Int×Value)}{ep:Nat}{t:SetTable}
theorem iY {vs:List Value}{nx:Nat->Nat}(hl:vs.length=es.length) (hnx:∀i (hi:i<vs.length) (s:Shared) (R:Option (Value×Nat)->Shared->Prop) (E:Value->Shared->Prop),SetIs s.heap S es ep t->R (some (vs[i],nx (i+1))) s->wpAny (model prog w) A.in1 (setNext S (nx i) i ep) R E s)
  (hend:∀(s:Shared) (R:Option (Value×Nat)->Shared->Prop) (E:Value->Shared->Prop),SetIs s.heap S es ep t->R none s->wpAny (model prog w) A.in1 (setNext S (nx es.length) es.length ep) R E s) (hh:A.handled=none) (hne:S≠I):
  Walks prog w A I [I,S] [I] es.length (fun i v=>vs[i]?=some v) (fun i h=>IterAt h I (rawInt (nx i)) i S es.length ep/\SetIs h S es ep t) where
 sub:=fun b hb=>by simp at hb;simp[hb]
 frame:=fun y y y st hk=>⟨st.1.at fun o e=>hk I (by simp) o e,st.2.at fun o e=>hk S (by simp) o e⟩
 item:=fun i s Q E hi st hQ=>jB hne st.1 st.2 (hnx i (by lia)) fun h' it' k=>
  hQ _ h' s.toks (Yk _) ⟨it',st.2.at fun o e=>k S o hne e⟩ fun b o hb e=>k b o (fun z=>hb (by simp[z])) e
 done:=fun s Q E st hQ=>kQ hh st.1 st.2 hend fun h' k=>hQ h' s.toks fun b o hb e=>k b o (fun z=>hb (by simp[z])) e
 self:=fun y y y y st hQ=>pX st.1 hQ
theorem kq {T:Addr}{ps:List Nat}(hp:ps.Perm (List.range es.length)) (hh:A.handled=none) (hne:S≠I) (hTI:T≠I):Walks prog w A I [I,S,T] [I] es.length (fun i v=>((ps.filterMap (es[·]?)).map (·.2))[i]?=some v)
  (fun i h=>IterAt h I (.ref T) i S es.length ep/\SetIs h S es ep t/\∃o n,h.get? T=some o/\o.data=.seq (ps.map fun(k:Nat)=>rawInt k).toArray n) where
 sub:=fun b hb=>by simp at hb;simp[hb]
 frame:=fun y y y st hk=>⟨st.1.at fun o e=>hk I (by simp) o e,st.2.1.at fun o e=>hk S (by simp) o e,by obtain⟨o,n,e,r⟩:=st.2.2;exact⟨o,n,hk T (by simp) o e,r⟩⟩
 item:=fun i s Q E hi st hQ=>by
  have hpl:=hp.length_eq;rw[YD]at hpl;have hip:i<ps.length:=by lia
  have hpe:ps[i]<es.length:=List.mem_range.mp (hp.mem_iff.mp (Yw hip));refine gA (ps:=ps) (p:=ps[i]) (e:=es[ps[i]]) hne st.1 st.2.1 st.2.2 (by simp[hip]) (by simp[hpe]) fun h' it' k=>?_
  refine hQ _ h' s.toks ?_ ⟨it',st.2.1.at fun o e=>k S o hne e,by obtain⟨o,n,e,r⟩:=st.2.2;exact⟨o,n,k T o hTI e,r⟩⟩ fun b o hb e=>k b o (fun z=>hb (by simp[z])) e
  have e1:ps.filterMap (es[·]?)=ps.map fun k=>es.getD k (0,.none):=by
   have hall:∀k∈ps,k<es.length:=fun k hk=>List.mem_range.mp (hp.mem_iff.mp hk)
   clear hpl hip hpe hp hi hQ st
   induction ps with
   |nil=>rfl
   |cons k ps ih=>
    have hk:=hall k (Zg ..);rw[List.filterMap_cons,Yk hk,Zf,ih fun z hz=>hall z (Ze _ hz)]
    simp[hk]
  rw[e1];simp[hip,hpe]
 done:=fun s Q E st hQ=>by
  have hpl:=hp.length_eq;rw[YD]at hpl;exact ju hh st.1 st.2.1 st.2.2 (by rw[Z0 (by lia)]) fun h' k=>hQ h' s.toks fun b o hb e=>k b o (fun z=>hb (by simp[z])) e
 self:=fun y y y y st hQ=>pX st.1 hQ
end
theorem k6 (a:Addr):setDrawn a=(do
  let (es,_,t) <-setState a
  let byText <-setsByText
  return !byText&&(!t.plain&&es.size>1)):=rfl
theorem qv:typeLookup (.type "set") "__len__"=pure (some (.builtin "set.__len__")):=F.slot_set_len.lookup
section
variable{prog:Program}{w:World}{A:Around}{E:Value->Shared->Prop}{s:Shared}{S:Addr}{es:List (Int×Value)}{ep:Nat}{t:SetTable}
theorem sw (st:SetIs s.heap S es ep t) (hled:t.led=cE w) (hpl:es.length<=1\/t.plain=false) (hn:es.length<=1000) {Q:Value->Shared->Prop}
  (hQ:∀(I:Addr) (vs:List Value) (fp:List Addr) (St:Nat->Heap->Prop) (h':Heap) (d:Drawn),vs.Perm (es.map (·.2))->(∀A':Around,A'.handled=none->Walks prog w A' I fp [I] es.length (fun i v=>vs[i]?=some v) St)->St 0 h'->
   (∀b o,s.heap.get? b=some o->h'.get? b=some o)->s.heap.objs.size<=I->I∈fp->(∀b∈fp,b=S\/s.heap.objs.size<=b)->Q (.ref I) {s with heap:=h',drawn:=d}):wpAny (model prog w) A (pyIter (.ref S)) Q E s:=by
 obtain⟨os,hos,hex,hds⟩:=id st.ob;have hT:s.TypeIs (.ref S) "set":=⟨os,hos,hex.1⟩;have hSlt:S<s.heap.objs.size:=Zi hos;refine wpAny_pyIter_slot hT F.slot_set_iter (ZP F.slot_set_iter hT eU ?_ (F.args_set_iter_1 _))
 unfold Builtin.«frozenset.__iter__» Builtin.Frozenset.slot0 slotArgs;simp only[List.isEmpty_nil,Yl,Zx,↓reduceIte,bind_assoc,List.length_nil,bne_self_eq_false];unfold Builtin.Frozenset.addrOf Builtin.Frozenset.sizeOf;refine Za (Zd ?_)
 try dsimp only
 refine Za (Zd ?_)
 refine Za (Za (YZ hos hds st.fits (Zd ?_)))
 refine Za ?_
 rw[k6];refine Za (YR hos hds st.fits ?_)
 dsimp only;refine Za ?_
 unfold setsByText;refine Za (YW (Zd ?_))
 refine Zd ?_
 have hsz:es.toArray.size=es.length:=by simp
 show wpAny _ _ (if(!w.params.followText "set-order"&&(!t.plain&&decide (es.toArray.size>1)))=true then _ else _) _ _ _
 by_cases hdr:(!w.params.followText "set-order"&&(!t.plain&&decide (es.toArray.size>1)))=true
 ·rw[Zm hdr]
  refine Za (fQ es.toArray.size (List.range es.toArray.size) s _ (by simp) fun ps d hp=>?_)
  rw[hsz]at hp⊢;have hpl:=hp.length_eq;rw[YD]at hpl;unfold newTuple;refine Za (ZL ?_ (by show(ps.map fun(i:Nat)=>rawInt i).toArray.size<=sizeLine;rw[Z7];simp;lia))
  have g1:(s.heap.push {cls:=.type "tuple",data:=.seq (ps.map fun(i:Nat)=>rawInt i).toArray}).get? S=some os:=Zc _ hos
  refine Za (wpAny_setEpoch_of (s:={s with heap:=s.heap.push {cls:=.type "tuple",data:=.seq (ps.map fun(i:Nat)=>rawInt i).toArray},drawn:=d}) g1 hds st.fits ?_)
  unfold newFields;refine Za (ZL ?_ (by size_fits))
  refine Zd ⟨_,rfl,"set_iterator",_,⟨_,Zj _ rfl,rfl⟩,ay.lookup,?_⟩
  have sz1:(s.heap.push {cls:=.type "tuple",data:=.seq (ps.map fun(i:Nat)=>rawInt i).toArray}).objs.size=s.heap.objs.size+1:=Z1 ..
  refine hQ (s.heap.push {cls:=.type "tuple",data:=.seq (ps.map fun(i:Nat)=>rawInt i).toArray}).objs.size ((ps.filterMap (es[·]?)).map (·.2)) [(s.heap.push {cls:=.type "tuple",data:=.seq (ps.map fun(i:Nat)=>rawInt i).toArray}).objs.size,S,s.heap.objs.size] _ _ d ((uL hp).map _)
   (fun A' hA'=>kq (T:=s.heap.objs.size) (ps:=ps) (es:=es) (S:=S) (ep:=ep) (t:=t) hp hA' ?_ ?_) ?_ (fun b o e=>Zc _ (Zc _ e)) ?_ (by simp) ?_
  ·rw[sz1];exact Zy (Nat.lt_succ_of_lt hSlt)
  ·rw[sz1];exact Zy (YI _)
  ·exact⟨⟨_,Zj _ rfl,rfl,rfl⟩,st.at fun o e=>Zc _ (Zc _ e),_,_,Zc _ (Zj _ rfl),rfl⟩
  ·rw[sz1];exact YK _
  ·intro b hb
   simp only[ZA,ZB,Z5]at hb
   rcases hb with rfl|rfl|rfl
   ·right;rw[sz1];exact YK _
   ·left;rfl
   ·right;exact Zk _
 ·rw[Zo hdr]
  refine Za (Zd ?_)
  refine Za (wpAny_setEpoch_of hos hds st.fits ?_)
  unfold newFields;refine Za (ZL ?_ (by size_fits))
  refine Zd ⟨_,rfl,"set_iterator",_,⟨_,Zj _ rfl,rfl⟩,ay.lookup,?_⟩
  rw[hsz];have fin:∀(vs:List Value) (St:Nat->Heap->Prop),vs.Perm (es.map (·.2))->(∀A':Around,A'.handled=none->Walks prog w A' s.heap.objs.size [s.heap.objs.size,S] [s.heap.objs.size] es.length (fun i v=>vs[i]?=some v) St)->
    St 0 (s.heap.push {cls:=.type "set_iterator",data:=.fields [rawInt 0,rawInt 0,.ref S,rawInt es.length,rawInt ep].toArray})->
    Q (.ref s.heap.objs.size) {s with heap:=s.heap.push {cls:=.type "set_iterator",data:=.fields [rawInt 0,rawInt 0,.ref S,rawInt es.length,rawInt ep].toArray}}:=fun vs St hp W h0=>by
   refine hQ s.heap.objs.size vs [s.heap.objs.size,S] St _ s.drawn hp W h0 (fun b o e=>Zc _ e) (Zk _) (by simp) fun b hb=>?_
   simp only[ZA,ZB,Z5]at hb
   rcases hb with rfl|rfl
   ·exact .inr (Zk _)
   ·exact .inl rfl
  cases hbt:w.params.followText "set-order" with
  |true=>
   have pp:=(pN (w.params.setOrder S ep) es.toArray).map (·.2)
   have pl:=pp.length_eq;simp only[Zn,Array.length_toList]at pl;refine fin _ _ (by simpa using pp) (fun A' hA'=>iY (S:=S) (ep:=ep) (t:=t) (nx:=fun y=>0) (by simpa using pl) (fun i hi s R E st' hR=>jg hbt st' ?_) (fun s R E st' hR=>jg hbt st' ?_) hA' (Zy hSlt)) ⟨⟨_,Zj _ rfl,rfl,rfl⟩,st.at fun o e=>Zc _ e⟩
   ·rw[Yh (by simpa using hi)];simpa using hR
   ·rw[Array.getElem?_eq_none (by simp[pl])];exact hR
  |false=>
   have hp2:(!t.plain&&decide (es.toArray.size>1))=false:=by
    rw[hbt]at hdr
    simpa using hdr
   have h1:es.length<=1:=by
    rcases hpl with h|h
    ·exact h
    ·rw[h]at hp2;simpa using hp2
   have hl:t.place.size=es.length:=by
    have:=st.fits;unfold SetTable.fits at this;rw[Zu,beq_iff_eq,hsz]at this;exact this.1
   have hle:t.led=true:=by rw[hled,cE,hbt];rfl
   refine fin _ _ (Yo _) (fun A' hA'=>iY (S:=S) (ep:=ep) (t:=t) (nx:=i8 t) (by simp) (fun i hi s R E st' hR=>jq hbt st' hle hp2 ?_) (fun s R E st' hR=>jq hbt st' hle hp2 ?_) hA' (Zy hSlt)) ⟨⟨_,Zj _ rfl,rfl,rfl⟩,st.at fun o e=>Zc _ e⟩
   ·have hi':i<es.length:=by simpa using hi
    have hip:i<t.place.size:=by lia
    rw[dE (by lia) (by lia),show es.toArray[i]?=some es[i] by simp[hi'],Yh hip]
    dsimp only;have:i8 t (i+1)=t.place[i]+1:=by show t.place.getD i 0+1=_;simp[Array.getD,hip]
    rw[this]at hR
    simpa using hR
   ·rw[dE (by lia) (by lia),show es.toArray[es.length]?=none by simp]
    exact hR
theorem ly (hh:A.handled=none) (st:SetIs s.heap S es ep t) (hled:t.led=cE w) (hpl:es.length<=1\/t.plain=false) (hn:es.length<=1000) {Q:List Value->Shared->Prop}
  (hQ:∀(vs:List Value) (h':Heap) (d:Drawn) (tk:Nat),vs.Perm (es.map (·.2))->(∀b o,s.heap.get? b=some o->h'.get? b=some o)->s.heap.objs.size<=h'.objs.size->Q vs {s with heap:=h',drawn:=d,toks:=tk}):wpAny (model prog w) A (collect (.ref S)) Q E s:=by
 obtain⟨os,hos,hex,hds⟩:=id st.ob;have hSlt:S<s.heap.objs.size:=Zi hos;unfold collect;refine Za (wpAny_runValue (Yi F.entry_proto_collect ?_))
 rw[Z3 F.plain_proto_collect _];show wpAny _ A.in1 (newList [] >>= fun l=>again (.builtin "list.__iadd__" ⟨[l,.ref S],[]⟩)) _ _ s
 refine Za (ZL ?_)
 refine Zd ⟨YF F.plain_list_iadd _,Yi F.entry_list_iadd ?_⟩
 rw[Z3 F.plain_list_iadd _];generalize hL:s.heap.objs.size=L;have hst1:SetIs (s.heap.push {cls:=.type "list",data:=.seq ([]:List Value).toArray}) S es ep t:=st.at fun o e=>Zc _ e
 have g0:(s.heap.push {cls:=.type "list",data:=.seq ([]:List Value).toArray}).get? L=some {cls:=.type "list",data:=.seq ([]:List Value).toArray}:=by rw[<-hL];exact Zj _ rfl
 have hS1:(s.heap.push {cls:=.type "list",data:=.seq ([]:List Value).toArray}).get? S=some os:=Zc _ hos
 have hT1:Shared.TypeIs {s with heap:=s.heap.push {cls:=.type "list",data:=.seq ([]:List Value).toArray}} (.ref S) "set":=⟨os,hS1,hex.1⟩
 show wpAny _ A.in1 (Builtin.List.listExtendWith (.ref L) (.ref S) (.ref L)) _ _ _;unfold Builtin.List.listExtendWith;refine Za (Y0 hT1 ?_)
 have h1:Builtin.List.listSameRef (.ref L) (.ref S)=false:=by simp[Builtin.List.listSameRef];rw[<-hL];exact Yc hSlt
 have h2:(Value.type "set"==Value.type "list")=false:=by decide
 have h3:(Value.type "set"==Value.type "tuple")=false:=by decide
 simp only[h1,h2,h3,Bool.or_false,Zx,ZY];refine Za (sw (s:={s with heap:=s.heap.push {cls:=.type "list",data:=.seq ([]:List Value).toArray}}) hst1 hled hpl hn fun I vs fp St h' d hp W hS0 hk hI hIf hfp=>?_)
 have hT2:Shared.TypeIs {s with heap:=h',drawn:=d} (.ref S) "set":=⟨os,hk S os hS1,hex.1⟩
 have gL:h'.get? L=some {cls:=.type "list",data:=.seq ([]:List Value).toArray}:=hk L _ g0;refine Za (ZN ?_)
 unfold Builtin.List.listLengthHint;refine Za (YA hT2 qv ?_)
 generalize hid:("set.__len__":String)=id0
 wp_delta
 rw[show splitId id0=some ("set","__len__") from by subst hid;decide +kernel]
 subst hid;dsimp only;refine Za (Yv (b:=true) hT2 (by rw[isSubtype_type];kernel_rfl) ?_)
 rw[Zo (by decide)]
 rw[Zm (by decide +kernel)]
 refine Za (Y0 hT2 ?_)
 dsimp only;refine Zd ?_
 rw[Zm (by decide +kernel)]
 refine Za (Yj ?_)
 refine Za ?_
 show wpAny _ A.in1 (updateSeq L (·.push .none) >>= fun y=>updateSeq L (·.pop)) _ _ _
 refine Za (Ys gL rfl ?_)
 have gL2:=ZD (Obj.mapSeq (·.push Value.none)) gL rfl
 refine Ys gL2 rfl ?_
 have gL3:=ZD (Obj.mapSeq (·.pop)) gL2 rfl
 have oth:∀b o,b≠L->h'.get? b=some o->((h'.update L (Obj.mapSeq (·.push Value.none))).update L (Obj.mapSeq (·.pop))).get? b=some o:=
  fun b o hb e=>(ZC _ _ (Zz hb)).trans ((ZC _ _ (Zz hb)).trans e)
 have WS:=(W A.in1 (by simp[hh])).toS
 have hLS:L≠S:=by rw[<-hL];exact Yc hSlt
 have hLf:L∉fp:=fun hm=>by
  rcases hfp L hm with e|e
  ·exact hLS e
  ·have e2:s.heap.objs.size+1<=L:=by have:=e;rwa[Z1]at this
   rw[hL]at e2;exact ZR _ e2
 refine Zd ⟨YF YG _,codeAny_extend_loopS WS (by rw[Z7];lia) L hLf _ es.length 0 _ _ _ rfl (ZK _)
  (WS.frame 0 ({s with heap:=h',drawn:=d}:Shared) _ s.toks hS0 (Zk _) fun b hb o e=>oth b o (fun h=>hLf (h▸hb)) e) gL3 (ItemsOf.nil _) fun s' acc' c' hm hS' hacc=>?_⟩
 show wpAny _ A (load L >>= _) _ _ s';refine Za (wpAny_load hS' ?_)
 have e1:s'.gens=s.gens:=hm.gens;have e2:s'.drawn=d:=hm.drawn;have e3:s'.os=s.os:=hm.os;obtain⟨hh',gg',dd',tt',oo'⟩:=s';simp only at e1 e2 e3;subst e1;subst e2;subst e3;refine Zd (hQ acc'.toList hh' dd' tt' ?_ (fun b o e=>?_) (by rw[hL];exact Nat.le_of_lt (Zi hS')))
 ·have:acc'.toList=vs:=by
   have hvl:=hp.length_eq;rw[Zn]at hvl;apply List.ext_getElem?;intro j
   by_cases hj:j<acc'.size
   ·have:=hacc.2 j acc'[j] (by simp[hj])
    rw[this];simp[hj]
   ·rw[Z0 (by simpa using hj),Z0 (by rw[hvl,<-hacc.1];lia)]
  rw[this];exact hp
 ·have hbL:b≠L:=by rw[<-hL];exact Zy (Zi e)
  have hbI:b≠I:=fun z=>by
   have h5:s.heap.objs.size+1<=I:=by have:=hI;rwa[Z1]at this
   have:=Zi e;rw[z]at this;exact absurd (Zr (Nat.lt_succ_of_lt this) h5) (ZR _)
  refine hm.heap b o (by simp only[ZA,ZB,Z5,not_or];exact⟨hbL,hbI⟩) (oth b o hbL (hk b o (Zc _ e)))
end
theorem xU (t:SetTable) (es:Array (Int×Value)) (h:Int) (x:Value):(layNew t es h x).2.1.led=t.led:=by
 unfold layNew;split
 ·dsimp only
  unfold SetTable.orStandIn;split<;>rfl
 ·rfl
set_option tactic.hygienic true in
theorem qr (t:SetTable) (es:Array (Int×Value)) (n:Nat):(relayAll t es n).2.1.led=t.led/\(t.plain=false->(relayAll t es n).2.1.plain=false):=by
 unfold relayAll;split
 ·rename_i t' order e
  have:t'.led=t.led/\t'.plain=t.plain:=by
   unfold SetTable.relaid SetTable.laid at e;cases q:SetTable.layClean (SetTable.sizeAbove n - 1) (es.map (·.1))with
   |none=>rw[q]at e;contradiction
   |some o=>rw[q]at e;cases e;exact⟨rfl,rfl⟩
  dsimp only;split
  ·exact⟨this.1,fun h=>this.2.trans h⟩
  ·exact⟨rfl,fun y=>rfl⟩
 ·exact⟨rfl,fun y=>rfl⟩
noncomputable abbrev tE (w:World) (p:Str×Tok):Int×Value:=(hashStr w p.1,.str p.1 p.2)
noncomputable def SetT (w:World) (h:Heap) (a:Addr) (ts:List (Str×Tok)):Prop:=
 ∃o ep t,h.get? a=some o/\o.ExactSet/\o.data=.set (ts.map (tE w)).toArray ep t/\t.fits ts.length=true/\t.led=cE w/\(ts=[]\/t.plain=false)
theorem SetT.same {w:World}{h h':Heap}{a:Addr}{ts:List (Str×Tok)}(S:SetT w h a ts) (k:∀o,h.get? a=some o->h'.get? a=some o):SetT w h' a ts:=by
 obtain⟨o,ep,t,ho,r⟩:=S;exact⟨o,ep,t,k o ho,r⟩
section
variable{prog:Program}{w:World}{A:Around}{E:Value->Shared->Prop}{s:Shared}{a:Addr}
theorem jz {h:Heap}{o:Obj}{es:Array (Int×Value)}{ep:Nat}{t t':SetTable}{ts:List (Str×Tok)}(ho:h.get? a=some o) (hex:o.ExactSet) (hd:o.data=.set es ep t) (hf:t'.fits ts.length=true) (hl:t'.led=cE w) (hp:t'.plain=false):
  (h.update a (Obj.putSet (ts.map (tE w)).toArray t')).get? a=some {o with data:=.set (ts.map (tE w)).toArray (ep+1) t'}/\SetT w (h.update a (Obj.putSet (ts.map (tE w)).toArray t')) a ts:=by
 have hg:=ZD (Obj.putSet (ts.map (tE w)).toArray t') ho (by rw[putSet_of _ t' hd];rfl)
 rw[putSet_of _ t' hd]at hg;exact⟨hg,_,ep+1,t',hg,hex,rfl,hf,hl,.inr hp⟩
theorem lV {o:Obj}{es es1:Array (Int×Value)}{ep:Nat}{t t2:SetTable}{ts1:List (Str×Tok)}{wd:Bool}{R:Option Bool->Shared->Prop}(ho:s.heap.get? a=some o) (hex:o.ExactSet) (hd:o.data=.set es ep t) (e1:es1=(ts1.map (tE w)).toArray)
  (hf:t2.fits es1.size=true) (hl:t2.led=cE w) (hp:t2.plain=false) (hb:ts1.length<4000)
  (h:∀h' ts',Heap.SameBut a s.heap h'->ts'.Perm ts1->SetT w h' a ts'->R (some true) {s with heap:=h'}):
  wpAny (model prog w) A (do
    storeSet a es1 t2
    if(!wd&&t2.tooFull)=true then do
      (match(relayAll t2 es1 (SetTable.grown es1.size)).2.2 with|true=>rule "set.scan.the-table-gave-way"|false=>pure ())
      storeSet a (relayAll t2 es1 (SetTable.grown es1.size)).1 (relayAll t2 es1 (SetTable.grown es1.size)).2.1
      pure (some true)
     else pure (some true)) R E s:=by
 subst e1;have hsz:(ts1.map (tE w)).toArray.size=ts1.length:=by simp
 refine Za (wpAny_storeSet_of ho hd ?_ (by rw[hsz,Z7];lia))
 obtain⟨g1,S1⟩:=jz (w:=w) (ts:=ts1) ho hex hd (hsz▸hf) hl hp;have sb:=ZI s.heap a (Obj.putSet (ts1.map (tE w)).toArray t2);split
 ·have hp1:=relayAll_perm t2 (ts1.map (tE w)).toArray (SetTable.grown (ts1.map (tE w)).toArray.size)
  have hfr:=relayAll_fits t2 (ts1.map (tE w)).toArray (SetTable.grown (ts1.map (tE w)).toArray.size);obtain⟨l1,l2⟩:=qr t2 (ts1.map (tE w)).toArray (SetTable.grown (ts1.map (tE w)).toArray.size);generalize relayAll t2 (ts1.map (tE w)).toArray (SetTable.grown (ts1.map (tE w)).toArray.size)=Rl at hp1 hfr l1 l2⊢;obtain⟨es2,t3,gv⟩:=Rl;dsimp only at hp1 hfr l1 l2⊢;obtain⟨ts2,p2,e2⟩:=cV (tE w) hp1 ts1 rfl;obtain rfl:es2=(ts2.map (tE w)).toArray:=by rw[<-e2]
  have hl2:=p2.length_eq;have hgw:∀(b:Bool) {s₁:Shared}{Q':Unit->Shared->Prop},Q' () s₁->wpAny (model prog w) A (match b with|true=>rule "set.scan.the-table-gave-way"|false=>pure ()) Q' E s₁:=
   fun b s₁ Q' hq=>by cases b<;>first|exact Zd hq|exact Yj hq
  refine Za (hgw _ ?_)
  refine Za (wpAny_storeSet_of (s:={s with heap:=s.heap.update a (Obj.putSet (ts1.map (tE w)).toArray t2)}) g1 rfl ?_ (by rw[Z7];simp;lia))
  exact Zd (h _ ts2 (sb.trans (ZI _ a _)) p2 (jz (w:=w) (ts:=ts2) g1 hex rfl (by simpa using hfr) (l1.trans hl) (l2 hp)).2)
 ·exact Zd (h _ ts1 sb (Yo _) S1)
theorem B4 {ts:List (Str×Tok)}{x:Str}{tk:Tok}{Q:Bool->Shared->Prop}(S:SetT w s.heap a ts) (hb:ts.length<100)
  (h:∀h' ts' b,Heap.SameBut a s.heap h'->SetT w h' a ts'->(ts'=ts/\x∈ts.map (·.1)\/ts'.Perm ((x,tk)::ts)/\x∉ts.map (·.1))->Q b {s with heap:=h'}):wpAny (model prog w) A (setAddHashed a (.str x tk) (hashStr w x)) Q E s:=by
 have S0:=S;obtain⟨o,ep,t,ho,hex,hd,hf,hled,hpl⟩:=S;have hsz:(ts.map (tE w)).toArray.size=ts.length:=by simp
 rw[<-hsz]at hf;have key:(PySem.strKind prog w).is x (.str x tk)=true:=by show(x==x)=true;simp
 have hel:ElemsOf (PySem.strKind prog w) (ts.map (tE w)).toArray.toList:=fun e he=>by
  obtain⟨p,_,rfl⟩:=List.mem_map.mp he;exact⟨⟨p.1,by show(p.1==p.1)=true;simp,rfl⟩,rfl⟩
 unfold setAddHashed setAddHashedIn;refine ZN (Za (YR ho hd hf ?_))
 dsimp only;rw[byScan_of rfl (by unfold scanBound;lia) hel]
 simp only[↓reduceIte];unfold setAddByScan;refine Za ?_
 refine Za (Yj ?_)
 refine Za (wpAny_setScan_of (knd:=PySem.strKind prog w) key ho hd hf hel ?_)
 cases hr:List.findIdx? (fun e=>(PySem.strKind prog w).is x e.2) (ts.map (tE w)).toArray.toList with
 |some j=>
  dsimp only;obtain⟨hj,hpj,_⟩:=List.findIdx?_eq_some_iff_getElem.mp hr
  have hj':j<ts.length:=by simpa using hj
  have e:ts[j].1=x:=by
   have h0:(PySem.strKind prog w).is x (Value.str ts[j].1 ts[j].2)=true:=by simpa using hpj
   exact beq_iff_eq.mp (show(ts[j].1==x)=true from h0)
  exact Zd (Zd (h s.heap ts false (Heap.SameBut.refl a s.heap) S0 (.inl ⟨rfl,List.mem_map.mpr ⟨ts[j],Yw hj',e⟩⟩)))
 |none=>
  dsimp only;have hno:x∉ts.map (·.1):=fun hm=>by
   obtain⟨p,hp,e⟩:=List.mem_map.mp hm;have:=List.findIdx?_eq_none_iff.mp hr (tE w p) (List.mem_map.mpr ⟨p,hp,rfl⟩)
   have:(p.1==x)=false:=this;rw[e]at this;simp at this
  have hperm:=layNew_perm t (ts.map (tE w)).toArray (hashStr w x) (.str x tk);have hfits:=layNew_fits t (ts.map (tE w)).toArray (hashStr w x) (.str x tk);have hl1:=xU t (ts.map (tE w)).toArray (hashStr w x) (.str x tk);show wpAny _ _ (match layNew t (ts.map (tE w)).toArray (hashStr w x) (.str x tk)with|(es,t,wd,gv)=>_) _ _ _
  generalize layNew t (ts.map (tE w)).toArray (hashStr w x) (.str x tk)=L at hperm hfits hl1⊢;obtain⟨es1,t1,wd,gv⟩:=L;dsimp only at hperm hfits hl1⊢;obtain⟨ts1,p1,e1⟩:=cV (tE w) hperm (ts++[(x,tk)]) (by simp)
  have e1:es1=(ts1.map (tE w)).toArray:=by rw[<-e1]
  have hgw:∀(b:Bool) {s₁:Shared}{Q':Unit->Shared->Prop},Q' () s₁->wpAny (model prog w) A (match b with|true=>rule "set.scan.the-table-gave-way"|false=>pure ()) Q' E s₁:=
   fun b s₁ Q' hq=>by cases b<;>first|exact Zd hq|exact Yj hq
  refine Za (hgw _ ?_)
  have hlen:=p1.length_eq;simp only[ZO,List.length_cons,List.length_nil]at hlen;have fin:∀h' ts',Heap.SameBut a s.heap h'->ts'.Perm ts1->SetT w h' a ts'->wpAny (model prog w) A (pure true) Q E {s with heap:=h'}:=fun h' ts' sb pp ST=>
   Zd (h h' ts' true sb ST (.inr ⟨pp.trans (p1.trans (List.perm_append_singleton _ _)),hno⟩))
  split
  ·refine Za ?_
   rw[hashByValue_scannable 8 rfl];refine Zd ?_
   exact lV ho hex hd e1 (SetTable.fits_plain_off hfits) (hl1.trans hled) rfl (by lia) fin
  ·rename_i hq
   refine Za (Zd ?_)
   simp only[↓reduceIte];exact lV ho hex hd e1 hfits (hl1.trans hled) (by simpa using hq) (by lia) fin
end
structure Fill (w:World) (h:Heap) (a:Addr) (done:List Str) (ts:List (Str×Tok)):Prop where
 at':SetT w h a ts
 nd:(ts.map (·.1)).Nodup
 mem:∀x,x∈ts.map (·.1)↔x∈done
 len:ts.length<=done.length
section
variable{prog:Program}{w:World}{s:Shared}{A:Around}{R:Result->Shared->Prop}{It:Addr}{fp wr:List Addr}{G:Array GenState->Array GenState->Prop}{n:Nat}{P:Nat->Value->Prop}{St:Nat->Shared->Prop}
theorem so (W:WalksS prog w A.in1 It fp wr G n P St) (hG:∀a b,G a b->b=a) (S:Addr) (hSf:S∉fp) (hS0:s.heap.get? S=none) (hwr:∀b∈wr,s.heap.get? b=none) (ss:List Str) (hn:ss.length=n) (h64:n<64)
  (hval:∀(i:Nat) v x,P i v->ss[i]?=some x->∃tk,v=.str x tk):
  ∀(k i:Nat) (h:Heap) (tk:Nat) (ts:List (Str×Tok)),n - i=k->i<=n->St i {s with heap:=h,toks:=tk}->(∀b o,s.heap.get? b=some o->h.get? b=some o)->Fill w h S (ss.take i) ts->
   (∀h' tk' ts',(∀b o,s.heap.get? b=some o->h'.get? b=some o)->Fill w h' S ss ts'->R (.ok (.ret .none)) {s with heap:=h',toks:=tk'})->
   codeAny (model prog w) A (.builtin "set.update.loop" ⟨[.ref S,.ref It],[]⟩) R {s with heap:=h,toks:=tk}:=by
 have hSw:S∉wr:=fun h=>hSf (W.sub _ h)
 have back:∀{h:Heap}{tk:Nat}{s':Shared},(∀b o,s.heap.get? b=some o->h.get? b=some o)->Moved wr G {s with heap:=h,toks:=tk} s'->s'={s with heap:=s'.heap,toks:=s'.toks}/\∀b o,s.heap.get? b=some o->s'.heap.get? b=some o:=fun{h tk s'} hk hm=>by
  have e1:s'.gens=s.gens:=hG _ _ hm.gens;have e2:s'.drawn=s.drawn:=hm.drawn;have e3:s'.os=s.os:=hm.os;refine⟨?_,fun b o e=>?_⟩
  ·obtain⟨h',g',d',t',o'⟩:=s'
   simp only at e1 e2 e3;subst e1;subst e2;subst e3;rfl
  ·refine hm.heap b o (fun hb=>?_) (hk b o e)
   rw[hwr b hb]at e;contradiction
 intro k
 induction k with
 |zero=>
  intro i h tk ts hk hi hst hkeep hF hR;have hin:i=n:=by lia
  subst hin;refine Yi F.entry_set_update_loop ?_
  rw[Z3 F.plain_set_update_loop _];show wpAny _ A.in1 (pyNext (.ref It) >>= _) _ _ _;refine Za (W.done _ _ _ hst fun s' hm=>?_)
  obtain⟨es,hkeep'⟩:=back hkeep hm;show wpAny _ A.in1 (ret Value.none) _ _ s';rw[es];have e:=List.take_length (l:=ss);rw[hn]at e;rw[e]at hF;exact Zd (hR s'.heap s'.toks ts hkeep' ⟨hF.at'.same fun o e=>hm.heap S o hSw e,hF.nd,hF.mem,hF.len⟩)
 |succ k ih=>
  intro i h tk ts hk hi hst hkeep hF hR;have hlt:i<n:=by lia
  refine Yi F.entry_set_update_loop ?_
  rw[Z3 F.plain_set_update_loop _];show wpAny _ A.in1 (pyNext (.ref It) >>= _) _ _ _;refine Za (W.item i _ _ _ hlt hst fun v s' hP hst' hm=>?_)
  obtain⟨es,hkeep'⟩:=back hkeep hm;have hil:i<ss.length:=by lia
  obtain⟨tx,rfl⟩:=hval i v ss[i] hP (by simp[hil])
  have hat:SetT w s'.heap S ts:=hF.at'.same fun o e=>hm.heap S o hSw e
  have hfl:=hF.len;rw[YX]at hfl;have htake:ss.take (i+1)=ss.take i++[ss[i]]:=by rw[List.take_succ];simp[hil]
  show wpAny _ A.in1 (holding [Value.str ss[i] tx] (setAdd S (.str ss[i] tx)) >>= _) _ _ s';refine Za (ZN ?_)
  rw[es]at hst'⊢;unfold setAdd;refine ZN (Za (wpAny_pyHash_str ?_))
  refine B4 (s:={s with heap:=s'.heap,toks:=s'.toks+1}) hat (by lia) fun h' ts' b hsb hS' hor=>?_
  have keep2:∀b o,s.heap.get? b=some o->h'.get? b=some o:=fun b o e=>by
   rw[hsb.2 b (fun z=>by rw[z,hS0]at e;contradiction)]
   exact hkeep' b o e
  have F':Fill w h' S (ss.take (i+1)) ts':=by
   rw[htake]
   rcases hor with⟨rfl,hm'⟩|⟨hp,hm'⟩
   ·refine⟨hS',hF.nd,fun d=>?_,by simp;lia⟩
    rw[hF.mem d,List.mem_append,List.mem_singleton];exact⟨.inl,fun z=>z.elim id fun e=>e▸(hF.mem _).mp hm'⟩
   ·have hp2:=hp.map (·.1)
    have hp3:=hp.length_eq;rw[List.length_cons]at hp3;rw[Zf]at hp2;refine⟨hS',?_,fun d=>?_,by simp;lia⟩
    ·rw[hp2.nodup_iff,YB];exact⟨hm',hF.nd⟩
    ·rw[hp2.mem_iff,ZA,hF.mem d,List.mem_append,List.mem_singleton]
     exact Or.comm
  refine Zd ⟨YF F.plain_set_update_loop _,ih (i+1) h' (s'.toks+1) ts' (by lia) hlt ?_ keep2 F' hR⟩
  exact W.frame _ {s with heap:=s'.heap,toks:=s'.toks} _ _ hst' (YK _) fun b hb o e=>by
   rw[hsb.2 b (fun h:b=S=>hSf (by rw[<-h];exact hb))];exact e
end
noncomputable abbrev cG (led:Bool):Obj:={cls:=.type "set",dict:=none,data:=.set #[] 0 (.fresh 0 0 led)}
section
variable{prog:Program}{w:World}{A:Around}{E:Value->Shared->Prop}{s:Shared}
theorem jF (a:Value) {Q₁:Value->Shared->Prop}(h:Q₁ (.ref s.heap.objs.size) {s with heap:=s.heap.push (cG (cE w))}):
  codeAny (model prog w) A (.call (.builtin "set.__new__") ⟨[.type "set",a],[]⟩) (wants Q₁ E) s:=by
 refine codeAny_of_tree ?_
 show wpAny _ A.in1 (do checkBuiltinCall "set.__new__" ⟨[.type "set",a],[]⟩;again (.builtin "set.__new__" ⟨[.type "set",a],[]⟩)) _ _ s
 refine Za (wpAny_of_eq (F.newCall_set_1 a) (Zd ⟨YF F.plain_set_new _,Yi F.entry_set_new ?_⟩))
 rw[Z3 F.plain_set_new _];unfold Builtin.«set.__new__» Builtin.Frozenset.newClass;have hsub:=sub_set_self;obtain⟨hp,g,d,tk,os⟩:=s;dsimp only
 wp_walk
 refine YW (Zd ?_)
 dsimp only;simp only[newObj];refine Za (wpAny_alloc (Zd ?_))
 exact Zd h
end
section
variable{prog:Program}{w:World}{s:Shared}{A:Around}{E:Value->Shared->Prop}
theorem ul {h:Heap}{a:Addr}(e:h.get? a=some (cG (cE w))):Fill w h a [] []:=
 ⟨⟨_,0,_,e,⟨rfl,rfl,rfl⟩,rfl,rfl,rfl,.inl rfl⟩,Yg,fun d=>Iff.rfl,Zk _⟩
theorem m6 (hh:A.handled=none) {l:Addr}{items:Array Value}{Q:Value->Shared->Prop}(hl:s.heap.IsList l items) (ss:List Str) (hlen:ss.length=items.size) (h64:items.size<64)
  (hel:∀(i:Nat) v x,items[i]?=some v->ss[i]?=some x->∃tk,v=.str x tk)
  (h:∀(h':Heap) (tk:Nat) ts,(∀b o,s.heap.get? b=some o->h'.get? b=some o)->Fill w h' s.heap.objs.size ss ts->Q (.ref s.heap.objs.size) {s with heap:=h',toks:=tk}):
  wpAny (model prog w) A (call (.type "set") [.ref l]) Q E s:=by
 obtain⟨c,tl,hmro⟩:=F.called_set.mro;have hmade:=F.called_set.made;have hsub:=F.called_set.sub;refine wpAny_call (codeAny_of_tree ?_)
 show wpAny _ _ (callAny (.type "set") _) _ _ _;refine Zd ⟨Code.quiet_builtin _ (by decide +kernel),Yi F.entry_type_call ?_⟩
 rw[Around.under_plain (weight_type_call_type "set" [.ref l] []) rfl];have h1:=F.called_set.notType;have h2:=F.called_set.canCreate;have hct:=F.typeCall_set_1 (.ref l)
 repeat (any_goals (first|assumption|wp_step))
 refine codeAny_mono (jF (.ref l) (E:=E) (Q₁:=fun obj s₁=>obj=.ref s.heap.objs.size/\s₁={s with heap:=s.heap.push (cG (cE w))}) ⟨rfl,rfl⟩) fun r s₁ hr=>?_
 cases r with
 |error e=>exact hr
 |ok fl=>
  cases fl with
  |ret obj=>
   obtain⟨rfl,rfl⟩:=hr;have hS:(s.heap.push (cG (cE w))).get? s.heap.objs.size=some (cG (cE w)):=Zj _ rfl
   have hT:Shared.TypeIs {s with heap:=s.heap.push (cG (cE w))} (.ref s.heap.objs.size) "set":=⟨_,hS,rfl⟩
   have hli:=F.called_set.init.lookup;have hbi:=F.called_set.init.bind (.ref s.heap.objs.size)
   repeat (any_goals (first|assumption|wp_step))
   refine codeAny_mono (codeAny_call_builtin (R:=wants (fun r s₂=>r=.none/\∃h' tk ts,s₂={s with heap:=h',toks:=tk}/\Fill w h' s.heap.objs.size ss ts/\
     (∀b o,s.heap.get? b=some o->h'.get? b=some o)) E) F.called_set.init.plain F.entry_set_init (check_set_init_1 hT ?_)) fun r₂ s₂ hr₂=>?_
   ·obtain⟨ol,hol,hcl,nl,hdl⟩:=hl
    obtain⟨ocls,odict,odata,oslots⟩:=ol;simp only at hcl hdl;subst hcl;subst hdl;have hol':(s.heap.push (cG (cE w))).get? l=some {cls:=.type "list",dict:=odict,data:=.seq items nl,slots:=oslots}:=Zc _ hol
    have hsls:=F.sub_list_set;have hslf:=F.sub_list_frozenset;have hne:(Value.type "list"==Value.type "dict")=false:=by decide
    have hl1:(s.heap.push (cG (cE w))).IsList l items:=⟨_,hol',rfl,nl,rfl⟩;unfold Builtin.«set.__init__» noKeywords Builtin.Frozenset.updateFrom;generalize hPI:pyIter=PI
    wp_walk
    subst hPI;refine wpAny_pyIter_list hl1 ?_
    refine Za (wpAny_runValue ?_)
    have hlS:l<s.heap.objs.size:=Zi hol;have hh3:A.in1.in1.in1.handled=none:=by simp[hh]
    have hneI:l≠(s.heap.push (cG (cE w))).objs.size:=by
     rw[Z1];exact Zy (Nat.lt_succ_of_lt hlS)
    have hSf:s.heap.objs.size∉[(s.heap.push (cG (cE w))).objs.size,l]:=by
     rw[Z1];simp only[ZA,List.mem_singleton,ZB,Z5,not_or];exact⟨Zy (YI _),Yc hlS⟩
    have hnone:∀b,s.heap.objs.size<=b->s.heap.get? b=none:=fun b hb=>by
     cases q:s.heap.get? b with
     |none=>rfl
     |some o=>exact absurd (Zi q) (Nat.not_lt.mpr hb)
    refine so (s:=s) (w:=w) ((Walks.list hh3 _ l hneI items).toS) ?_ s.heap.objs.size
     hSf (hnone _ (Zk _)) ?_ ss hlen h64 hel (items.size - 0) 0 _ s.toks [] (by lia) (ZK _)
     ⟨⟨_,Zj _ rfl,rfl,rfl⟩,(hl1.push _)⟩ (fun b o e=>Zc _ (Zc _ e)) ?_ ?_
    ·intro a b e;exact e
    ·intro b hb
     simp only[List.mem_singleton]at hb;rw[hb,Z1];exact hnone _ (YK _)
    ·exact ul (Zc _ hS)
    ·intro h' tk' ts hk hF
     show wpAny _ _ _ _ _ _;refine Zd ?_
     show wpAny _ _ (ret Value.none) _ _ _;exact Zd ⟨rfl,h',tk',ts,rfl,hF,hk⟩
   ·cases r₂ with
    |error e=>exact hr₂
    |ok fl₂=>
     cases fl₂ with
     |ret r=>
      obtain⟨rfl,h',tk,ts,rfl,hF,hk⟩:=hr₂
      repeat (any_goals (first|assumption|wp_step))
      exact h _ _ _ hk hF
     |_=>exact hr₂.elim
  |_=>exact hr.elim
end
theorem Inv.drawn {X:Cx}{pins:List (Addr×Obj)}{σ:St}{H:Hp}{s:Shared}(I:Inv X pins σ H s) (d:Drawn):Inv X pins σ H {s with drawn:=d}:=
 ⟨I.ok,I.os,I.bare,I.base,I.loc,I.cell,I.free,I.freeC,I.pin,I.hok,I.len⟩
noncomputable def uz (w:World) (S:Addr) (us:List Str):HO:=.ext fun h=>∃ts:List (Str×Tok),(ts.map (·.1)).Perm us/\SetT w h S ts
theorem pq {X:Cx}(hc:X.calm=true):cO X (.type "set") (fun xs H Q=>∃(l:Addr) (ss:List Str),xs=[.ref l]/\SqL X.K H l (ss.map V.str)/\ss.length<64/\
  ∀(S:Addr) (us:List Str),H S=none->us.Nodup->(∀x,x∈us↔x∈ss)->us.length<=ss.length->Q (.ref S) (upd H S (uz X.w S us))):=by
 intro pins s σ H xs us Q I r h;obtain⟨l,ss,rfl,hq,h64,q⟩:=h;obtain⟨u,rfl,rx⟩:=dP r;cases rx;obtain⟨its,rv,pl,hz⟩:=I.list hq;have l2:=rv.length;rw[Zn]at l2;refine m6 (I.ok.hd hc) pl.isList ss (by simp;lia) (by simp;lia) (fun i v x hv hd=>?_) fun h' tk ts hk hF=>?_
 ·obtain⟨u,hu',ru⟩:=rv.get (show(ss.map V.str)[i]?=some (.str x) by simp[hd])
  have:u=v:=by
   have:its[i]?=some v:=by simpa using hv
   rw[hu']at this;exact Zb this
  subst this;exact ru
 ·refine⟨.ref s.heap.objs.size,_,I.laid (a:=s.heap.objs.size) (o:=uz X.w s.heap.objs.size (ts.map (·.1))) (h':=h') (t':=tk) hk (Zk _) ?_,rfl,q _ _ I.fresh hF.nd hF.mem (by simpa using hF.len)⟩
  have S:=hF.at';obtain⟨o,ep,t,ho,r⟩:=hF.at';exact⟨⟨ts,Yo _,S⟩,⟨o,ho⟩,fun h1 h2 ⟨ts',p,a⟩ k=>⟨ts',p,a.same k⟩⟩
end L2
namespace L2
open PySem
@[simp] theorem lim_eq:lim=1000000:=by decide
@[simp] theorem bindO_s {α β:Type}(a:α) (f:α->Option β):ac (some a) f=f a:=(rfl)
@[simp] theorem shO_s (d:D) (b:Bool):shO (some (d,b))=some d:=(rfl)
@[simp] theorem frO_s (ds:List D):frO (some (.lst ds,true))=some (.lst ds):=(rfl)
@[simp] theorem consO_s (a:D) (l:List D):aa (some a) (some l)=some (a::l):=(rfl)
@[simp] theorem seqO_n (δ:DEnv) (k:DEnv->Option Out):aC (some (.next δ)) k=k δ:=(rfl)
@[simp] theorem seqO_r (d:D) (b:Bool) (k:DEnv->Option Out):aC (some (.ret d b)) k=some (.ret d b):=(rfl)
@[simp] theorem ifO_t (x y:Option Out):ifO (some true) x y=x:=(rfl)
@[simp] theorem ifO_f (x y:Option Out):ifO (some false) x y=y:=(rfl)
@[simp] theorem retO_s (d:D):cQ (some d)=some (.ret d false):=(rfl)
@[simp] theorem retF_s (d:D):dJ (some d)=some (.ret d true):=(rfl)
@[simp] theorem outF_r (d:D) (b:Bool):nW (some (.ret d b))=some (d,b):=(rfl)
@[simp] theorem nextO_s (δ:DEnv):nextO δ=some (.next δ):=(rfl)
@[simp] theorem setO_s (i:Nat) (d:D) (δ:DEnv) (h:i<δ.length):bc i (some d) δ=some (.next (δ.set i (some (d,false)))):=by unfold bc;simp only[Zm h]
@[simp] theorem setF_s (i:Nat) (d:D) (δ:DEnv) (h:i<δ.length):dC i (some d) δ=some (.next (δ.set i (some (d,true)))):=by unfold dC;simp only[Zm h]
@[simp] theorem toName_s (i:Nat) (d:D) (δ:DEnv) (h:i<δ.length):ae i d δ=some (δ.set i (some (d,false))):=by unfold ae;simp only[Zm h]
@[simp] theorem toTup_s (υ:List D->DEnv->Option DEnv) (ds:List D) (δ:DEnv):aP υ (.tup ds) δ=υ ds δ:=(rfl)
@[simp] theorem toCons_s (τ:D->DEnv->Option DEnv) (υ:List D->DEnv->Option DEnv) (d:D) (ds:List D) (δ:DEnv):aj τ υ (d::ds) δ=ac (τ d δ) (υ ds):=(rfl)
@[simp] theorem toNil_s (δ:DEnv):toNil [] δ=some δ:=(rfl)
@[simp] theorem addI_s (i j:Int):g7 (some (.int i)) (some (.int j))=some (.int (i+j)):=(rfl)
@[simp] theorem mulI_s (i j:Int) (h:(-(2 ^ 64)<i/\i<2 ^ 64)\/(-(2 ^ 64)<j/\j<2 ^ 64)):lS (some (.int i)) (some (.int j))=some (.int (i*j)):=xB (by unfold Cp;exact Zw h)
@[simp] theorem modI_s (i j:Int) (h:0<j):cr (some (.int i)) (some (.int j))=some (.int (i%j)):=xB (by unfold Ch;exact Zw h)
@[simp] theorem divI_s (i j:Int) (h:0<j/\j<1073741824):AJ (some (.int i)) (some (.int j))=some (.int (i / j)):=xB (by unfold Cc;exact Zw h)
@[simp] theorem tupO_s (ds:List D) (h:ds.length<=lim):cY (some ds)=some (.tup ds):=by unfold cY;simp only[Zm h]
@[simp] theorem lstO_s (ds:List D) (h:ds.length<=lim):ca (some ds)=some (.lst ds):=by unfold ca;simp only[Zm h]
@[simp] theorem lstLim_s (ds:List D):ao (some ds)=some (.lst ds):=(rfl)
@[simp] theorem lstL_s (ds:List D):b8 (some (.lst ds))=some ds:=(rfl)
@[simp] theorem tupL_s (ds:List D):qZ (some (.tup ds))=some ds:=(rfl)
@[simp] theorem tupleO_l (ds:List D):cj (some (.lst ds))=some (.tup ds):=(rfl)
@[simp] theorem listO_l (ds:List D):rJ (some (.lst ds))=some (.lst ds):=(rfl)
@[simp] theorem lenL_l (ds:List D):dM (some (.lst ds))=some (.int ds.length):=(rfl)
@[simp] theorem lenL_t (ds:List D):dM (some (.tup ds))=some (.int ds.length):=(rfl)
@[simp] theorem ixO_l (ds:List D) (i:Int):ixO (some (.lst ds)) (some (.int i))=atI ds i:=(rfl)
@[simp] theorem ixO_t (ds:List D) (i:Int):ixO (some (.tup ds)) (some (.int i))=atI ds i:=(rfl)
@[simp] theorem partI_s (i:Int):eX (some (.int i))=some (some i):=(rfl)
@[simp] theorem cutLO_s (ds:List D) (l u:Option Int):lm (some (.lst ds)) (some l) (some u)=some (.lst (oD ds l u)):=(rfl)
@[simp] theorem cutSO_s (z:Str) (l u:Option Int) (h:z.length<=lim):mW (some (.str z)) (some l) (some u)=some (.str (sj z l u)):=by unfold mW;simp only[Zm h]
@[simp] theorem addS_s (x y:Str) (h:x.length+y.length<=lim):yo (some (.str x)) (some (.str y))=some (.str (x++y)):=by unfold yo;simp only[Zm h]
@[simp] theorem findO_s (x y:Str):uq (some (.str x)) (some (.str y))=some (.int (Txt.find x y)):=(rfl)
@[simp] theorem catO_s (x y:List D) (h:x.length+y.length<=lim):vh (some (.lst x)) (some (.lst y))=some (.lst (x++y)):=by unfold vh;simp only[Zm h]
@[simp] theorem notO_s (b:Bool):eI (some b)=some (!b):=(rfl)
@[simp] theorem tyB_s (b:Bool):tyB (some (.bl b))=some b:=(rfl)
@[simp] theorem ofB_s (b:Bool):ofB (some b)=some (.bl b):=(rfl)
@[simp] theorem orO_t (y:Option Bool):orO (some true) y=some true:=(rfl)
@[simp] theorem orO_f (y:Option Bool):orO (some false) y=y:=(rfl)
@[simp] theorem andO_t (y:Option Bool):oB (some true) y=y:=(rfl)
@[simp] theorem andO_f (y:Option Bool):oB (some false) y=some false:=(rfl)
@[simp] theorem cI_s (g:Int->Int->Bool) (i j:Int):cI g (some (.int i)) (some (.int j))=some (g i j):=(rfl)
theorem j4 (x y:D) (h:ok2 x y=true):eqO (some x) (some y)=some (decide (x=y)):=by unfold eqO;simp only[Zm h]
@[simp] theorem eqO_int (i j:Int):eqO (some (.int i)) (some (.int j))=some (decide (i=j)):=by
 rw[j4 _ _ (by rfl)];simp only[D.int.injEq]
theorem y0 (x y:D) (h:ok2 x y=true):neO (some x) (some y)=some (!decide (x=y)):=by unfold neO;rw[j4 _ _ h];rfl
theorem eG (j:Int) (h: -(2 ^ 62)<=j/\j<2 ^ 62):oM (some (.int j))=some (f9 0 j.toNat):=by unfold oM;simp only[Zw h,Z6]
theorem Al (ns:List Int):zZ (some (.lst (ns.map D.int)))=some (.int ns.sum):=by
 have:cM (ns.map D.int)=some ns:=by
  induction ns with
  |nil=>rfl
  |cons n ns ih=>simp only[Zf,cM,ih]
 unfold zZ;simp only[this]
theorem mt {δ:DEnv}{i:Nat}{ds:List D}(d:D) (h:δ[i]?=some (some (.lst ds,true))) (hl:ds.length<lim):kG i (some d) δ=some (.next (δ.set i (some (.lst (ds++[d]),true)))):=by
 unfold kG bz;simp only[h,Zm hl]
@[simp] theorem rd_0 (m:Bool) (d:D) (δ:DEnv):rd m 0 (some (d,false)::δ)=some d:=(rfl)
@[simp] theorem rd_0o (d:D) (δ:DEnv):rd true 0 (some (d,true)::δ)=some d:=(rfl)
@[simp] theorem rd_1 (m:Bool) (i:Nat) (x:Option (D×Bool)) (δ:DEnv):rd m (i+1) (x::δ)=rd m i δ:=(rfl)
@[simp] theorem rdOwn_0 (d:D) (δ:DEnv):bz 0 (some (d,true)::δ)=some d:=(rfl)
@[simp] theorem rdOwn_1 (i:Nat) (x:Option (D×Bool)) (δ:DEnv):bz (i+1) (x::δ)=bz i δ:=(rfl)
@[simp] theorem frzE_0 (d:D) (b:Bool) (δ:DEnv):frzE 0 (some (d,b)::δ)=some (d,false)::δ:=by cases b<;>rfl
@[simp] theorem frzE_1 (i:Nat) (x:Option (D×Bool)) (δ:DEnv):frzE (i+1) (x::δ)=x::frzE i δ:=by
 unfold frzE;rw[List.getElem?_cons_succ]
 split<;>simp_all
set_option tactic.hygienic true in
theorem zQ (i:Nat) (d:D) (δ:DEnv):kG i (some d) δ=(match bz i δ with|some (.lst ds)=>if ds.length<lim then some (.next (δ.set i (some (.lst (ds++[d]),true)))) else none|_=>none):=by
 unfold kG;split
 ·rename_i e1 e2;obtain rfl:=Zb e2;rw[e1]
 ·rename_i h
  split
  ·rename_i ds e;exact absurd rfl (h ds d e)
  ·rfl
set_option tactic.hygienic true in
theorem Ah (i:Nat) (es:List D) (δ:DEnv):xJ i (some (.lst es)) δ=(match bz i δ with|some (.lst ds)=>if ds.length+es.length<=lim then some (.next (δ.set i (some (.lst (ds++es),true)))) else none|_=>none):=by
 unfold xJ;split
 ·rename_i e1 e2;cases e2;rw[e1]
 ·rename_i h
  split
  ·rename_i ds e;exact absurd rfl (h ds es e)
  ·rfl
theorem yM {n np:Nat}{g:DEnv->Option Out}{ds:List D}(h:ds.length=np):bp n np g ds=nW (g (bJ n ds)):=by unfold bp;rw[Zm h]
theorem au {f:List D->Option (D×Bool)}{n np:Nat}{g:DEnv->Option Out}{ds:List D}{δ:DEnv}(hf:f=bp n np g) (hl:ds.length=np) (hs:bJ n ds=δ):f ds=nW (g δ):=by subst hf hs;exact yM hl
theorem jO {α:Type}{xs:List α}{i:Int}(h0:0<=i) (h1:i<xs.length):∃v,v∈xs/\xs[i.toNat]?=some v/\atI xs i=some v:=by
 have hi:i.toNat<xs.length:=by lia
 refine⟨xs[i.toNat],Yw hi,by simp[hi],?_⟩
 have:=qN (xs:=xs) (j:=i.toNat) (v:=xs[i.toNat]) (by simp[hi])
 rwa[Int.toNat_of_nonneg h0]at this
theorem u7 {α:Type}{xs:List α}{i:Int}{v:α}(h0:0<=i) (h:xs[i.toNat]?=some v):atI xs i=some v:=by
 have:=qN h;rwa[Int.toNat_of_nonneg h0]at this
theorem iQ {h:D->Option (Option D)}{g:D->D}:∀{ds:List D},(∀d∈ds,h d=some (some (g d)))->aX h ds=some (ds.map g)
 |[],_=>rfl
 |d::ds,e=>by
  unfold aX;rw[e d (Zg ..),iQ fun x hx=>e x (Ze _ hx)]
  rfl
theorem cz {h:D->Option (Option D)}{P:D->D->Prop}:∀{ds:List D},(∀d∈ds,∃y,h d=some (some y)/\P d y)->∃g:List D,aX h ds=some g/\g.length=ds.length/\∀(i:Nat) d,ds[i]?=some d->∃y,g[i]?=some y/\P d y
 |[],_=>⟨[],rfl,rfl,fun i d h=>by simp at h⟩
 |d::ds,e=>by
  obtain⟨y,e1,p⟩:=e d (Zg ..);obtain⟨g,e2,hl,hp⟩:=cz fun x hx=>e x (Ze _ hx)
  refine⟨y::g,?_,by simp[hl],fun i z hz=>?_⟩
  ·unfold aX;rw[e1,e2]
  ·cases i with
   |zero=>simp at hz;subst hz;exact⟨y,rfl,p⟩
   |succ i=>simpa using hp i z (by simpa using hz)
theorem aA {bo:Bool}{bs:List Bool}{τ:D->DEnv->Option DEnv}{ft:DEnv->Option Bool}{fe:DEnv->Option D}{δ:DEnv}{ds:List D}(h:ds.length<=lim):bt bo bs τ ft fe δ ds=aX (aI τ ft fe (aB bo bs δ)) ds:=by unfold bt;rw[Zm h]
theorem eP {body:D->DEnv->Option Out}(I:List D->DEnv->Prop):∀(post pre:List D) (δ:DEnv),I pre δ->(∀p d q δ,p++d::q=pre++post->I p δ->∃δ',(body d δ=some (.next δ')\/body d δ=some (.cont δ'))/\I (p++[d]) δ')->
  ∃δ',aw body post δ=some (.next δ')/\I (pre++post) δ'
 |[],pre,δ,h,_=>⟨δ,rfl,by simpa using h⟩
 |d::post,pre,δ,h,st=>by
  obtain⟨δ1,e1,i1⟩:=st pre d post δ rfl h;obtain⟨δ',e',i'⟩:=eP I post (pre++[d]) δ1 i1 fun p d' q δ e i=>st p d' q δ (by simpa using e) i
  refine⟨δ',?_,by simpa using i'⟩
  unfold aw
  rcases e1 with e1|e1<;>rw[e1]<;>exact e'
theorem cw {lo:Int}{n:Nat}{d:D}(h:d∈f9 lo n):∃i:Nat,i<n/\d=.int (lo+i):=by
 unfold f9 at h;obtain⟨i,hi,e⟩:=List.mem_map.mp h;exact⟨i,List.mem_range.mp hi,e.symm⟩
theorem aO (lo:Int) (n:Nat):(f9 lo n).length=n:=by unfold f9;simp
theorem pM:∀(ts:List Str),(Txt.join "" ts).length=(ts.map (·.length)).sum:=by
 intro ts;show(Builtin.Str.glued "" ts).length=_;rw[StrLaws.glued_eq_join]
 induction ts with
 |nil=>rfl
 |cons x r ih=>
  cases r with
  |nil=>show x.length=_;simp
  |cons y r=>
   show(x++("":Str)++Str.join "" (y::r)).length=_;rw[Str.length_append,Str.length_append,ih];have:Str.length ""=0:=by decide +kernel
   simp only[Zf,List.sum_cons]
   lia
theorem rL {P:D->D->Prop}{ds g:List D}{Q:Str->Prop}(hl:g.length=ds.length) (h:∀(i:Nat) d,ds[i]?=some d->∃y,g[i]?=some y/\P d y) (hP:∀d y,P d y->∃x,y=.str x/\Q x):∃ss:List Str,g=ss.map D.str/\∀x∈ss,Q x:=by
 have hy:∀y∈g,∃x,y=.str x/\Q x:=fun y hy=>by
  obtain⟨i,hi,e⟩:=List.mem_iff_getElem.mp hy;obtain⟨z,ez,p⟩:=h i (ds[i]'(by lia)) (by simp[show i<ds.length by lia])
  rw[Yk hi]at ez
  obtain rfl:=Zb ez;rw[<-e];exact hP _ _ p
 clear h hl
 induction g with
 |nil=>exact⟨[],rfl,by simp⟩
 |cons y g ih=>
  obtain⟨x,e,q⟩:=hy y (Zg ..);obtain⟨ss,e2,q2⟩:=ih fun z hz=>hy z (Ze _ hz)
  refine⟨x::ss,by rw[e,e2];rfl,fun z hz=>?_⟩
  rcases ZA.mp hz with hz|hz
  ·rw[hz];exact q
  ·exact q2 z hz
theorem yb (z:Str) (ys:List Str) (h:(ys.map (·.length)).sum+ys.length*z.length<=16777216):oW (some (.str z)) (some (.lst (ys.map D.str)))=some (.str (Txt.join z ys)):=by
 unfold oW;simp only[je,Zm h]
theorem mH {ss:List Str}(h:∀x∈ss,x.length=1):(ss.map (·.length)).sum=ss.length:=by
 induction ss with
 |nil=>rfl
 |cons x r ih=>
  have h1:=h x (Zg ..);have h2:=ih fun y hy=>h y (Ze _ hy)
  simp only[Zf,List.sum_cons,List.length_cons,h1,h2];lia
theorem gU (z:Str) (i:Int) (hz:z.length<=lim) (h0:0<=i) (h1:i<z.length):∃x:Str,x.length=1/\vj (some (.str z)) (some (.int i))=some (.str x):=by
 obtain⟨c,_,_,e⟩:=jO (xs:=z.cps.toList) (i:=i) h0 (by simpa[Str.length]using h1)
 refine⟨⟨#[c]⟩,rfl,?_⟩
 unfold vj;simp only[Zm hz,e]
end L2
namespace L2
open PySem PySem.Spec PyProof.Rows
noncomputable def si (x:Option D) (τ:D->DEnv->Option DEnv) (δ:DEnv):Option Out:=match x with|some d=>(match τ d δ with|some δ'=>some (.next δ')|none=>none)|none=>none
set_option tactic.hygienic true in
theorem qL {X:Cx}{a tg:Expr}{fa:DEnv->Option D}{τ:D->DEnv->Option DEnv}{pos:Pos}(ha:DE X false a fa) (hg:DG X tg τ) (hs:swapsWithSole [tg] a pos.line X.env=pure false:=by rfl) (hw:swappedStores [tg] a X.env=pure none:=by rfl) (h1:(assignEach [tg] X.env).map (·.2)=[assign tg X.env]:=by rfl):
  DS X (.Assign [tg] a pos) (fun δ=>si (fa δ) τ δ):=
 (yz ha hg hs hw h1).imp fun Dn σ H hz=>by
  obtain⟨B,Hk,δ,o,R,e,k⟩:=hz;unfold si at e;split at e
  ·rename_i d qd
   split at e
   ·rename_i δ' qδ
    obtain rfl:=Zb e;refine⟨B,Hk,δ,d,R,qd,fun v H1 s1 r1=>?_⟩
    exact⟨B,Hk,δ,d,δ',R.to s1,r1,qδ,fun σ' R'=>k σ' H1 (s1.ext R.borH) R'⟩
   ·contradiction
  ·contradiction
@[simp] theorem unpO_s (d:D) (τ:D->DEnv->Option DEnv) (δ:DEnv):si (some d) τ δ=ac (τ d δ) fun δ'=>some (.next δ'):=by
 unfold si ac;dsimp only;cases τ d δ<;>rfl
noncomputable def cK (t:DEnv->Option Bool) (b:DEnv->Option Out):Nat->DEnv->Option Out
 |0,_=>none
 |n+1,δ=>match t δ with
  |none=>none
  |some false=>some (.next δ)
  |some true=>match b δ with
   |some (.next δ')=>cK t b n δ'
   |some (.cont δ')=>cK t b n δ'
   |some (.brk δ')=>some (.next δ')
   |some (.ret e fr)=>some (.ret e fr)
   |none=>none
section
variable{X:Cx}{c a b:Expr}{body:List Stmt}{ft:DEnv->Option Bool}{gb:DEnv->Option Out}{pos:Pos}{fa fb:DEnv->Option D}{m m' mm:Bool}
theorem mr (n:Nat) (hp:PassesOwn (model X.prog X.w) X.A X.env X.xe) (hc:DT X c ft) (hb:DSs X body gb):DS X (.While c body [] pos) (fun δ=>cK ft gb n δ):=
 (tf hp hc hb).imp fun Dn σ H hz=>by
  obtain⟨B,Hk,δ,o,R,e,k⟩:=hz;refine⟨fun j σ' H'=>∃δ',Ext B H H'/\Rel X.K B Hk δ' σ' H'/\cK ft gb j δ'=some o,⟨n,δ,Ext.refl,R,e⟩,?_⟩
  rintro j σ1 H1 hz9
  obtain⟨δ1,x1,R1,e1⟩:=hz9;cases j with
  |zero=>contradiction
  |succ j=>
   unfold cK at e1;cases q:ft δ1 with
   |none=>rw[q]at e1;contradiction
   |some t=>
    refine⟨B,Hk,δ1,t,R1,q,fun H2 s2=>?_⟩
    rw[q]at e1;have x2:=x1.trans (R1.ext s2);have R2:=R1.to s2;cases t with
    |false=>
     obtain rfl:=Zb e1;rw[Zo ZE];exact k σ1 H2 x2 R2
    |true=>
     rw[Zm rfl];simp only at e1;cases q2:gb δ1 with
     |none=>rw[q2]at e1;contradiction
     |some o1=>
      rw[q2]at e1;refine⟨fun σ' H'=>∃δ',Ext B H H'/\Rel X.K B Hk δ' σ' H'/\cK ft gb j δ'=some o,fun σ' H' z=>⟨j,YI j,z⟩,B,Hk,δ1,o1,R2,q2,?_⟩
      cases o1 with
      |next δ3=>exact fun σ4 H4 x4 R4=>⟨δ3,x2.trans x4,R4,e1⟩
      |cont δ3=>exact fun σ4 H4 x4 R4=>⟨δ3,x2.trans x4,R4,e1⟩
      |brk δ3=>simp only at e1;obtain rfl:=Zb e1;exact fun σ4 H4 x4 R4=>k σ4 H4 (x2.trans x4) R4
      |ret d fr=>simp only at e1;obtain rfl:=Zb e1;exact fun v4 H4 x4 R4=>k v4 H4 (x2.trans x4) R4
noncomputable def nV (x:Option D):Option Bool:=match x with
 |some .non=>some false
 |some (.bl b)=>some b
 |some (.int i)=>some (i != 0)
 |some (.str y)=>if y.length<=lim then some ((y.length:Int) != 0) else none
 |some (.lst ds)=>some (!ds.isEmpty)
 |some (.tup ds)=>some (!ds.isEmpty)
 |_=>none
theorem Reps.empty {K:PySem.W.Frag}{B:Addr->Prop}{H:Hp}{ds:List D}{xs:List V}(r:Reps K B H ds xs):ds.isEmpty=xs.isEmpty:=by
 have:=r.length;cases ds<;>cases xs<;>simp at this<;>rfl
theorem vt (ha:DE X m a fa) (he:∀whole,isTrue a X.env whole=(do let v <-whole;standAt a.pos;holding [v] (truthy v)):=by intro _;rfl):DT X a (fun δ=>nV (fa δ)):=
 (lO ha he).imp fun σ H Q hz=>by
  obtain⟨B,Hk,δ,d,R,e,k⟩:=hz;cases q:fa δ with
  |none=>rw[q]at e;contradiction
  |some z=>
   rw[q]at e;refine⟨B,Hk,δ,z,R,q,fun v H' s r=>⟨d,?_,k H' s⟩⟩
   cases z with
   |non=>simp only[Rep]at r;subst r;simp only[nV]at e;obtain rfl:=Zb e;rfl
   |bl b=>simp only[Rep]at r;subst r;simp only[nV]at e;obtain rfl:=Zb e;rfl
   |int i=>simp only[Rep]at r;subst r;simp only[nV]at e;obtain rfl:=Zb e;rfl
   |str y=>
    simp only[Rep]at r;subst r;simp only[nV]at e
    by_cases hl:y.length<=lim
    ·rw[Zm hl]at e;obtain rfl:=Zb e;exact⟨aD hl,rfl⟩
    ·rw[Zo hl]at e;contradiction
   |lst ds=>
    simp only[Rep]at r;obtain⟨p,xs,rfl,hq,rs⟩:=r;simp only[nV]at e;obtain rfl:=Zb e;exact .inl ⟨xs,hq.sq,by rw[rs.empty]⟩
   |tup ds=>
    simp only[Rep]at r;obtain⟨p,xs,rfl,hq,rs⟩:=r;simp only[nV]at e;obtain rfl:=Zb e;exact .inr (.inl ⟨xs,SqT.of hq,by rw[rs.empty]⟩)
   |dK ks vs=>simp only[nV]at e;contradiction
   |dD ks vs=>simp only[nV]at e;contradiction
noncomputable def jZ (x:Option D):Option Bool:=match x with|some d=>some (decide (d=.non))|none=>none
theorem Rep.non {K:PySem.W.Frag}{B:Addr->Prop}{H:Hp}{d:D}{v:V}(r:Rep K B H d v):(v=.non)=(d=.non):=by
 cases d
 all_goals simp only[Rep]at r
 case non=>simp[r]
 all_goals first
  |(subst r;simp)
  |(obtain⟨p,xs,rfl,_⟩:=r;simp)
theorem pw {K:PySem.W.Frag}{B:Addr->Prop}{H:Hp}{d:D}{v:V}(r:Rep K B H d v):decide (v=.non)=decide (d=.non):=by
 by_cases h:d=.non
 ·rw[Zw h,Zw (by rw[r.non];exact h)]
 ·rw[Zv h,Zv (by rw[r.non];exact h)]
theorem iF {x:Option D}{c:Bool}(h:jZ x=some c):∃d,x=some d/\c=decide (d=.non):=by
 unfold jZ at h;split at h
 ·obtain rfl:=Zb h;exact⟨_,rfl,rfl⟩
 ·contradiction
theorem Ab {tk:Nat}{p:Pos}(ha:DE X m a fa) (hm:behindInMarks .Is (.Constant .none tk p)=false:=by rfl):DT X (.Compare a [.Is] [.Constant .none tk p] pos) (fun δ=>jZ (fa δ)):=
 (bq Aq ha (mF (m:=false)) hm).imp fun σ H Q hz=>by
  obtain⟨B,Hk,δ,d,R,e,k⟩:=hz;obtain⟨z,q,rfl⟩:=iF e;refine two (fb:=fun y=>some .non) R q rfl fun v u H' s R' r1 r2=>?_
  simp only[Rep]at r2;exact⟨r2,_,rfl,by rw[pw r1];exact k H' s⟩
theorem xM {tk:Nat}{p:Pos}(ha:DE X m a fa) (hm:behindInMarks .IsNot (.Constant .none tk p)=false:=by rfl):DT X (.Compare a [.IsNot] [.Constant .none tk p] pos) (fun δ=>eI (jZ (fa δ))):=
 (bq wB ha (mF (m:=false)) hm).imp fun σ H Q hz=>by
  obtain⟨B,Hk,δ,d,R,e,k⟩:=hz;cases h:jZ (fa δ)with
  |none=>simp only[h,eI]at e;contradiction
  |some c=>
   simp only[h,eI]at e;obtain rfl:=Zb e;obtain⟨z,q,rfl⟩:=iF h;refine two (fb:=fun y=>some .non) R q rfl fun v u H' s R' r1 r2=>?_
   simp only[Rep]at r2;exact⟨r2,_,rfl,by rw[pw r1];exact k H' s⟩
end
noncomputable def Ite (K:PySem.W.Frag) (p:Addr):It:=
 ⟨fun i H=>∃xs x,SqL K H p xs/\xs[i]?=some x,
  fun i H v H'=>∃T x,H T=none/\v=.ref T/\H'=upd H T (.tup [.int i,x])/\∀xs,SqL K H p xs->xs[i]?=some x,
  fun i H=>∃xs,SqL K H p xs/\xs.length<=i⟩
structure En (h:Heap) (e c p:Addr) (n:Nat):Prop where
 ee:∃old,IsEnum h e c n old
 cc:h.IsListIter c p n
theorem xO {prog:Program}{w:World}{A:Around}{E:Value->Shared->Prop}{s:Shared}{elts:List Expr}{x1} {pos:Pos}{e c T:Addr}{i:Int}{x:Value}{Q:Unit->Shared->Prop}(he:IsEnumOut s.heap e c i x T)
  (hQ:∀h',IsEnum h' e c i x->Heap.SameBut e s.heap h'->Q () {s with heap:=h'}):wpAny (model prog w) A (letOwnedTupleGo (.Tuple elts x1 pos) (.ref e) (.ref T)) Q E s:=by
 unfold letOwnedTupleGo;refine Za (wpAny_load he ?_)
 change wpAny _ _ (if(["enumerate","zip","dict_itemiterator","dict_reverseitemiterator","odict_iterator","itertools.zip_longest","itertools.pairwise"].contains "enumerate"&&(#[rawInt T,.bool false,.ref c,rawInt i,.none,x]:Array Value)[0]?==some (rawInt T))=true then _ else _) Q E s
 rw[Zm (by simp)]
 refine Za (Yj (Yx he (by simp) fun h' g' m'=>hQ h' g' m'))
theorem qV {P:Program}{w:World}{K:PySem.W.Frag}{elts:List Expr}{x1} {pos:Pos}{e c p:Addr}(ne:e≠c):
  Turn P w K (.Tuple elts x1 pos) (Ite K p) [e,c] e (fun n h=>En h e c p n) where
 mem:=by simp
 obj:=fun i h st b hb=>by
  obtain⟨⟨old,ee⟩,cc⟩:=st;simp only[ZA,ZB,Z5]at hb
  rcases hb with rfl|rfl
  ·exact⟨_,ee,fun v e=>by cases e⟩
  ·obtain⟨o,g,_,hd⟩:=cc;exact⟨o,g,fun v e'=>by rw[hd]at e';cases e'⟩
 keep:=fun i h h' st k=>by
  obtain⟨⟨old,ee⟩,cc⟩:=st;exact⟨⟨old,k e (by simp) _ ee⟩,cc.at fun o g=>k c (by simp) o g⟩
 item:=by
  intro X hP hw hK hc i pins s σ H E I hf st hg;subst hP hw hK;obtain⟨xs,x,h1,hx⟩:=hg;obtain⟨is,ri,sp,_⟩:=I.list h1;obtain⟨ux,e1,r1⟩:=ri.get hx;obtain⟨⟨old,ee⟩,cc⟩:=st;refine wpAny_pyNext_enum_item ee cc sp.isList (x:=ux) (by simpa using e1) ne fun h' out cc' new sz k=>⟨_,rfl,?_⟩
  have hT:H s.heap.objs.size=none:=I.hok.fresh (Zk _);have nT:∀b∈[e,c],b≠s.heap.objs.size:=fun b hb q=>by
   simp only[ZA,ZB,Z5]at hb
   rcases hb with rfl|rfl
   ·rw[q]at ee;exact absurd (Zi ee) (ZR _)
   ·obtain⟨o,g,_⟩:=cc;rw[q]at g;exact absurd (Zi g) (ZR _)
  have I1:Inv X pins σ (upd H s.heap.objs.size (.tup [.int i,x])) {s with heap:=h',toks:=s.toks+1}:=I.turnLay (fp:=[e,c]) (fun b o hb q=>k b o (fun z=>hb (by simp[z])) (fun z=>hb (by simp[z])) q) hf (Zk _)
   ⟨by show 2<=sizeLine;decide,[.int i s.toks,ux],.cons ⟨_,rfl⟩ (.cons r1 .nil),⟨_,new,rfl,_,rfl⟩⟩
  refine xO (s:={s with heap:=h',toks:=s.toks+1}) out fun g2 e2 m2=>?_
  have hz:=hf e (by simp)
  refine⟨.ref s.heap.objs.size,upd H s.heap.objs.size (.tup [.int i,x]),I1.turned (t':=s.toks+1) (fun b o hb q=>ah m2 hb q) (by rw[ai (nT e (by simp))];exact hz.1) hz.2.1 hz.2.2.2.1 hz.2.2.2.2.1 hz.2.2.2.2.2,rfl,
   ⟨s.heap.objs.size,x,hT,rfl,rfl,fun xs' h=>by rw[I.list_inj h h1];exact hx⟩,⟨⟨_,e2⟩,cc'.at fun o g=>ah m2 (Zz ne) g⟩,fun b hb=>by rw[ai (nT b hb)];exact(hf b hb).1⟩
 done:=by
  intro X hP hw hK hc i pins s σ H E I hf st hg;subst hP hw hK;obtain⟨xs,h1,hl⟩:=hg;obtain⟨is,ri,sp,_⟩:=I.list h1;have l1:=ri.length;obtain⟨⟨old,ee⟩,cc⟩:=st;exact wpAny_pyNext_enum_end (I.ok.hd hc) ee cc sp.isList (by simp;lia) fun h' k=>⟨rfl,I.turns (t':=s.toks) (fp:=[e,c]) (fun b o hb q=>k b o (fun z=>hb (by simp[z])) q) hf⟩
 self:=fun y y y y y st h=>by obtain⟨⟨old,ee⟩,cc⟩:=st;exact wpAny_pyIter_enum ee h
noncomputable def enL (h:Heap) (p:Addr):Heap:=(h.push (itO false p)).push {cls:=.type "enumerate",data:=.fields #[.none,.bool false,.ref h.objs.size,rawInt 0,.none,.none]}
set_option tactic.hygienic true in
theorem tU (p:Addr) (xs:Array Value):Meets (Builtin.«enumerate.__new__» ⟨[.type "enumerate",.ref p],[]⟩) (fun y R s=>SqAt false s.heap p xs/\R (.ok (.ret (.ref (s.heap.push (itO false p)).objs.size))) {s with heap:=enL s.heap p}):=
 .of_wp fun prog w A R s h=>by
  obtain⟨hp,g,d,tk,os⟩:=s;obtain⟨h1,h⟩:=h;have hsub:=sub_enumerate;have k1:SqAt false (Shared.heap ⟨hp,g,d,tk,os⟩) p xs:=h1
  wp_walk using db k1
  refine wpAny_stack_any fun st=>Zd ?_
  split
  ·rename_i c0 _ _ _ _ _
   cases (c0==Value.type "enumerate")<;>(wp_walk using db k1;exact⟨_,rfl,h⟩)
  ·wp_walk using db k1
   exact⟨_,rfl,h⟩
theorem rq {prog:Program}{w:World}{A:Around}{E:Value->Shared->Prop}{s:Shared}{p:Addr}{xs:Array Value}{Q:Value->Shared->Prop}(hp:SqAt false s.heap p xs)
  (h:∀h',IsEnum h' (s.heap.objs.size+1) s.heap.objs.size 0 .none->h'.IsListIter s.heap.objs.size p 0->(∀b o,s.heap.get? b=some o->h'.get? b=some o)->Q (.ref (s.heap.objs.size+1)) {s with heap:=h'}):
  wpAny (model prog w) A (call (.type "enumerate") [.ref p]) Q E s:=by
 refine callType_new F.called_enumerate (by decide) (F.typeCall_enumerate_1 _) (F.newCall_enumerate_1 _) (fun obj=>F.args_object_init_2 obj _) F.entry_enumerate_new (tU p xs) ⟨hp,?_⟩
 have s1:(s.heap.push (itO false p)).objs.size=s.heap.objs.size+1:=Z1 ..;have e5:(enL s.heap p).get? (s.heap.push (itO false p)).objs.size=some {cls:=.type "enumerate",data:=.fields #[.none,.bool false,.ref s.heap.objs.size,rawInt 0,.none,.none]}:=Zj _ rfl
 have c5:(enL s.heap p).get? s.heap.objs.size=some (itO false p):=Zc _ (Zj _ rfl)
 rw[s1]at e5;refine⟨⟨_,by rw[s1];exact e5,rfl⟩,?_⟩
 rw[s1];exact h _ e5 ⟨_,c5,rfl,rfl⟩ fun b o e=>Zc _ (Zc _ e)
section
variable{X:Cx}{elts:List Expr}{x1:Nat}{tp:Pos}{m:Bool}{a:Expr}{fa:DEnv->Option D}{p pos:Pos}
noncomputable def A7 (K:PySem.W.Frag) (ta:TA):TI:=fun σ H R=>ta σ H fun vs H1=>∃p,vs=[.ref p]/\(∃xs,SqL K H1 p xs)/\R (Ite K p) H1
theorem wV {ta:TA}(hg:Gl X "enumerate") (hm:X.mg "enumerate"=none) (ha:PA X [a] ta) (hs:starEach [a] X.env=[(false,eval a X.env)]:=by rfl):
  PI X (.Tuple elts x1 tp) (.Call (.Name "enumerate" p) [a] [] pos) (A7 X.K ta):=by
 intro pins s σ H R I h;refine Call_ (c9 I hg hm boot_enumerate (Yb (thn (ha pos pins s σ H _ I h) fun us s1 hz9=>?_) hs rfl))
 obtain⟨vs,H1,I1,r1,q1⟩:=hz9;obtain⟨l1,e,⟨xs,h1⟩,q⟩:=q1;subst e;cases r1 with
 |cons r rr=>
  cases rr;cases r;obtain⟨is,ri,sp,_⟩:=I1.list h1;refine rq (p:=l1) sp.isList fun h' ee cc k=>?_
  have I2:Inv X pins σ H1 {s1 with heap:=h'}:=I1.kept (t':=s1.toks) k
  refine wpAny_pyIter_enum (s:={s1 with heap:=h'}) ee ⟨s1.heap.objs.size+1,[s1.heap.objs.size+1,s1.heap.objs.size],_,_,H1,rfl,I2,qV (Yc (YI _)),⟨⟨_,ee⟩,cc⟩,fun b hb=>?_,q⟩
  have hb':s1.heap.objs.size<=b:=by
   simp only[ZA,ZB,Z5]at hb
   rcases hb with rfl|rfl
   ·exact YK _
   ·exact Zk _
  obtain⟨f0,f1,f2,f3,f4,f5⟩:=I1.fpOk hb' (I1.hok.fresh hb');exact⟨f0,f1,f2,f3,f4,f5⟩
noncomputable def gF (i:Nat):List D->List D
 |[]=>[]
 |d::ds=>.tup [.int i,d]::gF (i+1) ds
theorem jw:∀(ds:List D) (j i:Nat) (x:D),(gF j ds)[i]?=some x->∃d,ds[i]?=some d/\x=.tup [.int ((j+i:Nat):Int),d]
 |[],j,i,x,h=>by simp[gF]at h
 |d::ds,j,0,x,h=>by simp[gF]at h;exact⟨d,rfl,by rw[<-h];simp⟩
 |d::ds,j,i+1,x,h=>by
  simp[gF]at h;obtain⟨e,h1,h2⟩:=jw ds (j+1) i x h;exact⟨e,by simpa using h1,by rw[h2,show j+1+i=j+(i+1) by lia]⟩
theorem jR:∀(j:Nat) (ds:List D),(gF j ds).length=ds.length
 |_,[]=>rfl
 |j,d::ds=>by simp[gF,jR (j+1) ds]
noncomputable def sr (x:Option D):Option (List D):=match x with|some (.lst ds)=>some (gF 0 ds)|_=>none
set_option tactic.hygienic true in
theorem wA (g:Gl X "enumerate") (hm:X.mg "enumerate"=none) (h:DE X m a fa) (hs:starEach [a] X.env=[(false,eval a X.env)]:=by rfl):
  DI X m (.Tuple elts x1 tp) (.Call (.Name "enumerate" p) [a] [] pos) (fun δ=>sr (fa δ)):=
 (wV g hm (ar h aH hs) hs).imp fun σ H Q hz=>by
  obtain⟨B,Hk,δ,ds,R,e,k⟩:=hz;unfold sr at e;split at e
  ·rename_i as q1
   obtain rfl:=Zb e;refine kN R q1 fun v H' s R' r1=>?_
   simp only[Rep]at r1;obtain⟨l1,xs,rfl,hq,rs⟩:=r1;refine⟨l1,rfl,⟨xs,hq.sq⟩,k _ H' s fun H2 x=>?_⟩
   have hx:=(hq.ext x).sq;have rx:=rs.ext x;refine⟨⟨xs,hx,by rw[jR,rx.length];exact Zk _⟩,fun i d hd=>?_⟩
   obtain⟨d1,g1,rfl⟩:=jw _ _ _ _ hd;obtain⟨y1,w1,z1⟩:=rx.get g1;refine⟨⟨xs,y1,hx,w1⟩,fun v H3 hz9=>?_⟩
   obtain⟨T,v1,hT,ev,e3,n1⟩:=hz9;have:=n1 xs hx;rw[w1]at this;obtain rfl:=Zb this;have sm:Same H2 (upd H2 T (.tup [.int i,y1])):=am hT;have bo:∀a,aT m B δ σ a->∃o:HOn,H2 a=some o.1:=fun a ha=>by
    obtain⟨o,ho⟩:=R'.bsH m a ha;exact⟨o,(x.lent a ha).trans ho⟩
   have ex:=sm.ext bo;rw[e3,ev];refine⟨sm,?_⟩
   simp only[Rep];refine⟨T,[.int i,y1],rfl,af,Reps.cons ?_ (Reps.cons (z1.ext ex) Reps.nil)⟩
   simp only[Rep,Nat.zero_add]
  ·contradiction
end
mutual
theorem KR.raw {P:Program}{w:World}{H:Hp}{h:Heap}(ok:HOk P w H h):∀{d:D}{v:V}{u:Value},KR H d v->RelV v u->RH h d u
 |.int i,v,u,r,q=>by simp only[KR]at r;subst r;obtain⟨t,rfl⟩:=q;simp only[RH];exact⟨t,rfl⟩
 |.str i,v,u,r,q=>by simp only[KR]at r;subst r;obtain⟨t,rfl⟩:=q;simp only[RH];exact⟨t,rfl⟩
 |.tup ds,v,u,r,q=>by
  simp only[KR]at r;obtain⟨a,xs,rfl,g,rs⟩:=r;cases q;obtain⟨_,its,rv,ht⟩:=(show ObjOk P w H h a (.tup xs) from ok a _ g)
  simp only[RH];exact⟨a,its,rfl,ht,KRs.raw ok rs rv⟩
 |.non,v,u,r,_=>by simp only[KR]at r
 |.bl _,v,u,r,_=>by simp only[KR]at r
 |.lst _,v,u,r,_=>by simp only[KR]at r
 |.dK _ _,v,u,r,_=>by simp only[KR]at r
 |.dD _ _,v,u,r,_=>by simp only[KR]at r
theorem KRs.raw {P:Program}{w:World}{H:Hp}{h:Heap}(ok:HOk P w H h):∀{ds:List D}{xs:List V}{us:List Value},KRs H ds xs->Vals xs us->RHs h ds us
 |[],xs,us,r,q=>by simp only[KRs]at r;subst r;cases q;simp only[RHs]
 |d::ds,xs,us,r,q=>by
  simp only[KRs]at r;obtain⟨x,t,rfl,r1,r2⟩:=r;cases q with
  |cons q1 q2=>simp only[RHs];exact⟨_,_,rfl,KR.raw ok r1 q1,KRs.raw ok r2 q2⟩
end
mutual
theorem Rep.key {K:PySem.W.Frag}{B:Addr->Prop}{H:Hp}:∀{n:Nat}{d:D}{v:V},bf n d=true->Rep K B H d v->KR H d v
 |n,.int i,v,_,r=>by simp only[Rep]at r;simp only[KR];exact r
 |n,.str i,v,_,r=>by simp only[Rep]at r;simp only[KR];exact r
 |n,.tup ds,v,h,r=>by
  simp only[Rep]at r;obtain⟨a,xs,rfl,g,rs⟩:=r;obtain⟨k,_,hd⟩:=cS h;simp only[KR];exact⟨a,xs,rfl,g,Reps.key hd rs⟩
 |n,.non,v,h,_=>by cases n<;>simp[bf]at h
 |n,.bl _,v,h,_=>by cases n<;>simp[bf]at h
 |n,.lst _,v,h,_=>by cases n<;>simp[bf]at h
 |n,.dK _ _,v,h,_=>by cases n<;>simp[bf]at h
 |n,.dD _ _,v,h,_=>by cases n<;>simp[bf]at h
theorem Reps.key {K:PySem.W.Frag}{B:Addr->Prop}{H:Hp}:∀{n:Nat}{ds:List D}{xs:List V},ds.all (bf n)=true->Reps K B H ds xs->KRs H ds xs
 |n,[],xs,_,r=>by simp only[Reps]at r;simp only[KRs];exact r
 |n,d::ds,xs,h,r=>by
  rw[List.all_cons,Zu]at h;simp only[Reps]at r;obtain⟨x,t,rfl,r1,r2⟩:=r;simp only[KRs];exact⟨x,t,rfl,Rep.key h.1 r1,Reps.key h.2 r2⟩
end
mutual
theorem KR.rep {K:PySem.W.Frag}{B:Addr->Prop}{H:Hp}:∀{d:D}{v:V},KR H d v->Rep K B H d v
 |.int i,v,r=>by simp only[KR]at r;simp only[Rep];exact r
 |.str i,v,r=>by simp only[KR]at r;simp only[Rep];exact r
 |.tup ds,v,r=>by
  simp only[KR]at r;obtain⟨a,xs,rfl,g,rs⟩:=r;simp only[Rep];exact⟨a,xs,rfl,g,KRs.rep rs⟩
 |.non,v,r=>by simp only[KR]at r
 |.bl _,v,r=>by simp only[KR]at r
 |.lst _,v,r=>by simp only[KR]at r
 |.dK _ _,v,r=>by simp only[KR]at r
 |.dD _ _,v,r=>by simp only[KR]at r
theorem KRs.rep {K:PySem.W.Frag}{B:Addr->Prop}{H:Hp}:∀{ds:List D}{xs:List V},KRs H ds xs->Reps K B H ds xs
 |[],xs,r=>by simp only[KRs]at r;simp only[Reps];exact r
 |d::ds,xs,r=>by
  simp only[KRs]at r;obtain⟨x,t,rfl,r1,r2⟩:=r;simp only[Reps];exact⟨x,t,rfl,KR.rep r1,KRs.rep r2⟩
end
theorem DPairs.val {H:Hp}{kvs:List (D×V)}{xs:List (D×Addr×Value)}(r:DPairs H kvs xs) (k:D):RelO (dh kvs k) ((atKey xs k).map (·.2)):=by
 induction r with
 |nil=>exact True.intro
 | @cons p q ps qs h t ih=>
  by_cases e:p.1=k
  ·rw[bQ e,show atKey (q::qs) k=some q.2 by simp[atKey,List.find?_cons,h.1.symm.trans e]]
   exact h.2.2.2
  ·have e':¬q.1=k:=fun z=>e (h.1.trans z)
   rw[bO e,show atKey (q::qs) k=atKey qs k by simp[atKey,List.find?_cons,e']]
   exact ih
theorem DPairs.repl {H:Hp}{kvs:List (D×V)}{xs:List (D×Addr×Value)}(r:DPairs H kvs xs) (k:D) {y:V}{u:Value}(ry:RelV y u):DPairs H (kvs.map fun kv=>if kv.1=k then(kv.1,y) else kv) (xs.map (putAt k u)):=by
 induction r with
 |nil=>exact .nil
 | @cons p q ps qs h t ih=>
  refine .cons ?_ ih
  dsimp only
  by_cases e:p.1=k
  ·rw[Zm e,putAt,Zm (h.1.symm.trans e)];exact⟨h.1,h.2.1,h.2.2.1,ry⟩
  ·rw[Zo e,putAt,Zo fun z=>e (h.1.trans z)];exact h
theorem DPairs.put {H:Hp}{kvs:List (D×V)}{xs:List (D×Addr×Value)}(r:DPairs H kvs xs) (k:D) {b:Addr}{y:V}{u:Value}(hk:bf 8 k=true) (hb:KR H k (.ref b)) (ry:RelV y u):DPairs H (cL kvs k y) (storedH xs k b u):=by
 have e:(kvs.any fun kv=>decide (kv.1=k))=(atKey xs k).isSome:=by rw[dU,(r.val k).isSome_eq,Option.isSome_map]
 unfold cL storedH;rw[e]
 by_cases q:(atKey xs k).isSome=true
 ·rw[Zm q,Zm q];exact r.repl k ry
 ·rw[Zo q,Zo q];exact Paired.snoc r ⟨rfl,hk,hb,ry⟩
section
variable{P:Program}{w:World}{H:Hp}{h:Heap}{a:Addr}
theorem fC {kvs:List (D×V)}{ep:Nat}(ok:HOk P w H h) (e:Rd H a (.dD kvs ep)):kvs.length<=sizeLine/\(a==sysModules)=false/\∃xs,DPairs H kvs xs/\h.DictOfH (aU P w) a xs:=by
 obtain⟨z,y,xs,r,o,es,h1,h2,h3,h4,h5⟩:=(show ObjOk P w H h a (.dD kvs ep) from mX ok e)
 refine⟨z,y,xs,r,o,es,ep,h1,h2,h3,h4,?_,h5⟩
 have all:∀{l:List (D×V)}{m:List (D×Addr×Value)},DPairs H l m->∀x∈m,(aU P w).is h x.1 x.2.1:=by
  intro l m q
  induction q with
  |nil=>intro x hx;exact nomatch hx
  | @cons p q ps qs hq t ih=>
   intro x hx
   rcases ZA.mp hx with rfl|hx
   ·exact⟨by rw[<-hq.1];exact hq.2.1,by rw[<-hq.1];exact KR.raw ok hq.2.2.1 rfl⟩
   ·exact ih x hx
 exact all r
theorem lR (hb:sysModules<h.objs.size):ObjOk P w H (h.push {cls:=.type "dict",data:=.dict #[]}) h.objs.size (.dD [] 0):=
 ⟨ZK _,by simpa using Yc hb,[],.nil,_,#[],Zj _ rfl,⟨rfl,rfl,rfl⟩,rfl,rfl,Yg⟩
end
section
variable{X:Cx}{pins:List (Addr×Obj)}{σ:St}{H:Hp}{s:Shared}{a b:Addr}{kvs:List (D×V)}{ep:Nat}{k:D}{v:V}{r:Value}{A:Around}{E:Value->Shared->Prop}
theorem bx (I:Inv X pins σ H s) (hk:bf 8 k=true) (kb:KR H k (.ref b)):(aU X.prog X.w).is s.heap k b:=⟨hk,KR.raw I.hok kb rfl⟩
theorem ot {Q:Value->Shared->Prop}(hu:A.units+40<cLine) (I:Inv X pins σ H s) (e:Rd H a (.dD kvs ep)) (hk:bf 8 k=true) (kb:KR H k (.ref b)) (l:dh kvs k=some v) (h:∀w' s',Inv X pins σ H s'->RelV v w'->Q w' s'):
  wpAny (model X.prog X.w) A (getItem (.ref a) (.ref b)) Q E s:=by
 obtain⟨z,hd,xs,rel,dd⟩:=fC I.hok e;obtain⟨w',hw,rw'⟩:=RelO.some_of (v:=v) (o:=(atKey xs k).map (·.2)) (by rw[<-l];exact rel.val k)
 obtain⟨p,hp,hp2⟩:=Option.map_eq_some_iff.mp hw;refine wpAny_getItem_heap (knd:=aU X.prog X.w) (by show A.units+1+30<cLine;lia) (bx I hk kb) dd hp ?_
 rw[hp2];exact h w' _ (I.tok _) rw'
theorem BA {Q:Value->Shared->Prop}(hu:A.units+40<cLine) (I:Inv X pins σ H s) (e:Rd H a (.dD kvs ep)) (hk:bf 8 k=true) (kb:KR H k (.ref b)) (h:∀s',Inv X pins σ H s'->Q (.bool (dh kvs k).isSome) s'):
  wpAny (model X.prog X.w) A (compareOp .In (.ref b) (.ref a)) Q E s:=by
 obtain⟨z,hd,xs,rel,dd⟩:=fC I.hok e;refine wpAny_in_heap (knd:=aU X.prog X.w) (by show A.units+1+30<cLine;lia) (bx I hk kb) hd dd ?_
 have q:=(rel.val k).isSome_eq;rw[Option.isSome_map]at q;rw[<-q];exact h _ (I.tok _)
theorem sW {Q:Value->Shared->Prop}(hu:A.units+40<cLine) (I:Inv X pins σ H s) (e:Rd H a (.dD kvs ep)) (hk:bf 8 k=true) (kb:KR H k (.ref b)) (h:∀s',Inv X pins σ H s'->Q (.bool (!(dh kvs k).isSome)) s'):
  wpAny (model X.prog X.w) A (compareOp .NotIn (.ref b) (.ref a)) Q E s:=by
 obtain⟨z,hd,xs,rel,dd⟩:=fC I.hok e;refine wpAny_notIn_heap (knd:=aU X.prog X.w) (by show A.units+1+30<cLine;lia) (bx I hk kb) hd dd ?_
 have q:=(rel.val k).isSome_eq;rw[Option.isSome_map]at q;rw[<-q];exact h _ (I.tok _)
theorem nM {Q:Unit->Shared->Prop}(hu:A.units+40<cLine) (I:Inv X pins σ H s) (e:H a=some (.dD kvs ep)) (hk:bf 8 k=true) (kb:KR H k (.ref b)) (l:kvs.length<sizeLine) (rv:RelV v r) (h:∀ep' s',Inv X pins σ (upd H a (.dD (cL kvs k v) ep')) s'->Q () s'):
  wpAny (model X.prog X.w) A (setItem (.ref a) (.ref b) r) Q E s:=by
 obtain⟨z,hd,xs,rel,dd⟩:=fC I.hok (.inl e);have hl:(cL kvs k v).length<=sizeLine:=by have:=a9 kvs k v;lia
 refine wpAny_setItem_heap (knd:=aU X.prog X.w) (hsz:=by rw[<-Ye rel];exact z) (by show A.units+1+30<cLine;lia) (bx I hk kb) dd fun h' dd' hs=>?_
 obtain⟨q,es,ep',hq,h2,h3,h4,_,h5⟩:=dd';refine h ep' _ (eY I (by rw[e];exact True.intro) hs ⟨q,hq⟩ ⟨hl,hd,_,Paired.mapP (rel.put k hk kb rv) fun p q z=>⟨z.1,z.2.1,KR.to (fun c ys ec=>?_) z.2.2.1,z.2.2.2⟩,q,es,hq,h2,h3,h4,h5⟩)
 rw[ai (k7 ec e (fun z=>nomatch z))]
 exact ec
end
theorem Rel.oset {K:PySem.W.Frag}{B:Addr->Prop}{Hk H:Hp}{δ:DEnv}{σ:St}{i:Nat}{d d':D}{l:Addr}{o:HO}(R:Rel K B Hk δ σ H) (h:δ[i]?=some (some (d,true))) (hl:σ[i]?=some (some (.ref l))) (new:Ext B H (upd H l o)->ObR K B (upd H l o) d' l):
  Ext B H (upd H l o)/\Rel K B Hk (δ.set i (some (d',true))) σ (upd H l o):=by
 obtain⟨a,e1,e2,ob⟩:=R.own i _ h;rw[hl]at e1;cases e1;obtain⟨u,hx,mu⟩:=ob.mut;have hb:¬B l:=fun z=>by obtain⟨o,q⟩:=R.bor l z;rw[e2]at q;contradiction
 have ex:Ext B H (upd H l o):=bB hx mu hb;have hi':i<δ.length:=(List.getElem?_eq_some_iff.mp h).1
 have was:∀j e,(δ.set i (some (d',true)))[j]?=some (some (e,true))->∃e',δ[j]?=some (some (e',true)):=fun j e q=>by
  by_cases hj:j=i
  ·subst hj;exact⟨_,h⟩
  ·rw[Zl (Zz hj)]at q;exact⟨_,q⟩
 refine⟨ex,⟨R.same.put e2,R.bor,by simpa using R.len,fun j e q=>?_,fun j e q=>?_,fun j k e f q hjk h1 h2 h3 h4=>?_⟩⟩
 ·by_cases hj:j=i
  ·subst hj
   rw[Zs hi']at q
   cases q
  ·rw[Zl (Zz hj)]at q
   obtain⟨v,q1,q2⟩:=R.var j e q;exact⟨v,q1,q2.ext ex⟩
 ·by_cases hj:j=i
  ·subst hj
   rw[Zs hi']at q
   cases q;exact⟨l,hl,e2,new ex⟩
  ·rw[Zl (Zz hj)]at q
   obtain⟨c,q1,q2,q3⟩:=R.own j e q;have hc:c≠l:=fun z=>by subst z;exact R.dis j i e _ c hj q h q1 hl
   exact⟨c,q1,q2,q3.ext ex fun o q y=>by rw[ai hc];exact q⟩
 ·obtain⟨e',z1⟩:=was j e h1
  obtain⟨f',z2⟩:=was k f h2;exact R.dis j k e' f' q hjk z1 z2 h3 h4
noncomputable def la:D->Bool
 |.tup _=>true
 |_=>false
noncomputable def bF {κ:Type}[DecidableEq κ] (k:κ):List κ->List D->Option D
 |x::ks,d::ds=>if x=k then some d else bF k ks ds
 |_,_=>none
noncomputable def d9 {κ:Type}[DecidableEq κ] (k:κ) (v:D):List κ->List D->List D
 |x::ks,d::ds=>(if x=k then v else d)::d9 k v ks ds
 |_,_=>[]
noncomputable def sf {κ:Type}[DecidableEq κ] (k:κ) (v:D) (ks:List κ) (ds:List D):List D:=if k∈ks then d9 k v ks ds else ds++[v]
noncomputable def dr {κ:Type}[DecidableEq κ] (k:κ) (ks:List κ):List κ:=if k∈ks then ks else ks++[k]
section
variable{K:PySem.W.Frag}{B:Addr->Prop}{H:Hp}{κ:Type}[DecidableEq κ]
theorem cm (k:κ):∀{kvs:List (κ×V)}{ds:List D},Reps K B H ds (kvs.map (·.2))->(bF k (kvs.map (·.1)) ds=none->dh kvs k=none)/\∀d,bF k (kvs.map (·.1)) ds=some d->∃v,dh kvs k=some v/\Rep K B H d v
 |[],ds,r=>⟨fun y=>rfl,fun d h=>by cases ds<;>simp[bF]at h⟩
 |p::kvs,ds,r=>by
  cases ds with
  |nil=>simp only[Zf,Reps]at r;contradiction
  |cons d ds=>
   rw[Zf]at r;obtain⟨r1,r2⟩:=r.uncons;rw[Zf];unfold bF
   by_cases e:p.1=k
   ·rw[Zm e]
    exact⟨fun z=>(by contradiction),fun d2 z=>(by obtain rfl:=Zb z;exact⟨p.2,bQ e,r1⟩)⟩
   ·rw[Zo e,bO e]
    exact cm k r2
theorem rE (k:κ) (kvs:List (κ×V)):(kvs.any fun kv=>decide (kv.1=k))=decide (k∈kvs.map (·.1)):=by
 rw[Ya,List.any_eq_true,ZU,List.mem_map];constructor
 ·rintro⟨x,h1,h2⟩;exact⟨x,h1,ZF h2⟩
 ·rintro⟨x,h1,h2⟩;exact⟨x,h1,Zw h2⟩
theorem c8 (k:κ) (v:V) (kvs:List (κ×V)):(cL kvs k v).map (·.1)=dr k (kvs.map (·.1)):=by
 unfold cL dr;rw[rE]
 by_cases hk:k∈kvs.map (·.1)
 ·rw[Zw hk,Zm rfl,Zm hk,List.map_map]
  refine Yd fun x y=>?_
  simp only[Function.comp];split<;>rfl
 ·rw[Zv hk,Zo ZE,Zo hk]
  simp
theorem jt {d:D}{v:V}(r:Rep K B H d v) (k:κ):∀{kvs:List (κ×V)}{ds:List D},Reps K B H ds (kvs.map (·.2))->Reps K B H (d9 k d (kvs.map (·.1)) ds) ((kvs.map fun kv=>if kv.1=k then(kv.1,v) else kv).map (·.2))
 |[],ds,q=>by
  cases ds with
  |nil=>exact Reps.nil
  |cons _ _=>simp only[ZX,Reps]at q;obtain⟨_,_,z,_⟩:=q;contradiction
 |p::kvs,ds,q=>by
  cases ds with
  |nil=>simp only[Zf,Reps]at q;contradiction
  |cons d0 ds=>
   rw[Zf]at q;obtain⟨r1,r2⟩:=q.uncons;have ih:=jt r k r2;rw[Zf,Zf,Zf];unfold d9
   by_cases e:p.1=k
   ·rw[Zm e,Zm e];exact Reps.cons r ih
   ·rw[Zo e,Zo e];exact Reps.cons r1 ih
theorem gG {d:D}{v:V}(r:Rep K B H d v) (k:κ) {kvs:List (κ×V)}{ds:List D}(q:Reps K B H ds (kvs.map (·.2))):Reps K B H (sf k d (kvs.map (·.1)) ds) ((cL kvs k v).map (·.2)):=by
 unfold cL sf;rw[rE]
 by_cases hk:k∈kvs.map (·.1)
 ·rw[Zw hk,Zm rfl,Zm hk];exact jt r k q
 ·rw[Zv hk,Zo ZE,Zo hk,Z4]
  exact q.append (Reps.cons r Reps.nil)
end
noncomputable def DGA (H:Hp) (a:Addr) (y:V) (r:Option V):Prop:=yj H a y r\/∃kvs ep k b,Rd H a (.dD kvs ep)/\y=.ref b/\bf 8 k=true/\KR H k (.ref b)/\r=dh kvs k
noncomputable def DPA (H:Hp) (a:Addr) (y v:V) (N:Hp->Prop):Prop:=(∃H',Cy H a y v H'/\N H')\/∃kvs ep k b,H a=some (.dD kvs ep)/\y=.ref b/\bf 8 k=true/\KR H k (.ref b)/\kvs.length<sizeLine/\∀ep',N (upd H a (.dD (cL kvs k v) ep'))
section
variable{X:Cx}{pins:List (Addr×Obj)}{σ:St}{H:Hp}{s:Shared}{a:Addr}{y v:V}{u r:Value}{o:Option V}{A:Around}{E:Value->Shared->Prop}
theorem n8 {Q:Value->Shared->Prop}(hu:A.units+40<cLine) (I:Inv X pins σ H s) (g:DGA H a y (some v)) (ry:RelV y u) (h:∀w' s',Inv X pins σ H s'->RelV v w'->Q w' s'):wpAny (model X.prog X.w) A (getItem (.ref a) u) Q E s:=by
 rcases g with g|⟨kvs,ep,k,b,e,rfl,hk,kb,l⟩
 ·exact oJ (by lia) I g ry h
 ·cases (show u=Value.ref b from ry);exact ot hu I e hk kb l.symm h
theorem BD {Q:Value->Shared->Prop}(hu:A.units+40<cLine) (I:Inv X pins σ H s) (g:DGA H a y o) (ry:RelV y u) (h:∀s',Inv X pins σ H s'->Q (.bool o.isSome) s'):wpAny (model X.prog X.w) A (compareOp .In u (.ref a)) Q E s:=by
 rcases g with g|⟨kvs,ep,k,b,e,rfl,hk,kb,rfl⟩
 ·exact Er (by lia) I g ry h
 ·cases (show u=Value.ref b from ry);exact BA hu I e hk kb h
theorem ut {Q:Value->Shared->Prop}(hu:A.units+40<cLine) (I:Inv X pins σ H s) (g:DGA H a y o) (ry:RelV y u) (h:∀s',Inv X pins σ H s'->Q (.bool (!o.isSome)) s'):wpAny (model X.prog X.w) A (compareOp .NotIn u (.ref a)) Q E s:=by
 rcases g with g|⟨kvs,ep,k,b,e,rfl,hk,kb,rfl⟩
 ·exact wY (by lia) I g ry h
 ·cases (show u=Value.ref b from ry);exact sW hu I e hk kb h
theorem m7 {N:Hp->Prop}{Q:Unit->Shared->Prop}(hu:A.units+40<cLine) (I:Inv X pins σ H s) (g:DPA H a y v N) (ry:RelV y u) (rv:RelV v r) (h:∀H' s',Inv X pins σ H' s'->N H'->Q () s'):wpAny (model X.prog X.w) A (setItem (.ref a) u r) Q E s:=by
 rcases g with⟨H',g,n⟩|⟨kvs,ep,k,b,e,rfl,hk,kb,l,n⟩
 ·exact oO (by lia) I g ry rv fun s' I'=>h H' s' I' n
 ·cases (show u=Value.ref b from ry);exact nM hu I e hk kb l rv fun ep' s' I'=>h _ s' I' (n ep')
theorem iE (I:Inv X pins σ H s) (g:DGA H a y o):s.TypeIs (.ref a) "dict":=by
 rcases g with g|⟨kvs,ep,k,b,e,_⟩
 ·exact kj I g
 ·obtain⟨_,_,xs,_,dd⟩:=fC I.hok e
  exact dd.typeIs
end
noncomputable def tGA (td ty:TE):TE:=fun σ H Q=>td σ H fun x H1=>ty σ H1 fun y H2=>∃a v,x=.ref a/\DGA H2 a y (some v)/\Q v H2
noncomputable def rIA (neg:Bool):R2:=fun y x H Q=>∃a o,x=.ref a/\DGA H a y o/\Q (.bl (if neg then !o.isSome else o.isSome)) H
noncomputable def sPA (td ty tv:TE):TS:=fun D σ H=>tv σ H fun v H1=>td σ H1 fun x H2=>ty σ H2 fun y H3=>∃a,x=.ref a/\DPA H3 a y v fun H4=>D.nx σ H4
section
variable{X:Cx}{o i value:Expr}{pos pos':Pos}{td ty tv:TE}
theorem tY (hu:X.A.units+64<cLine) (ho:PE X o td) (hi:PE X i ty) (hs:B5 i):PE X (.Subscript o i pos) (tGA td ty):=by
 intro pins s σ H Q I h;refine wR PySem.F.slot_dict_getitem.lookup hs (thn (ho pins s σ H _ I h) fun u s1 hz=>?_)
 obtain⟨x,H1,I1,rx,q1⟩:=hz;refine thn (hi pins s1 σ H1 _ I1 q1) fun iv s2 hz=>?_
 obtain⟨y,H2,I2,ry,a,v,ex,g,q2⟩:=hz;subst ex;obtain rfl:u=Value.ref a:=rx;exact⟨iE I2 g,n8 (by lia) I2 g ry fun w' s3 I3 rw'=>⟨v,H2,I3,rw',q2⟩⟩
theorem An (hu:X.A.units+64<cLine):OpR X (compareOp .In) (rIA false):=by
 intro pins s σ H y x v u Q I ry rx hz9;obtain⟨a,o,ex,g,q⟩:=hz9;subst ex;obtain rfl:u=Value.ref a:=rx;exact BD (by lia) I g ry fun s3 I3=>⟨.bl o.isSome,H,I3,rfl,q⟩
theorem pR (hu:X.A.units+64<cLine):OpR X (compareOp .NotIn) (rIA true):=by
 intro pins s σ H y x v u Q I ry rx hz9;obtain⟨a,o,ex,g,q⟩:=hz9;subst ex;obtain rfl:u=Value.ref a:=rx;exact ut (by lia) I g ry fun s3 I3=>⟨.bl (!o.isSome),H,I3,rfl,q⟩
theorem lJ (hu:X.A.units+64<cLine) (ho:PE X o td) (hi:PE X i ty) (hv:PE X value tv) (hs:swapsWith value (some (.Subscript o i pos')) pos.line X.env=pure false):PS X (.Assign [.Subscript o i pos'] value pos) (sPA td ty tv):=by
 intro pins s σ H D I h;refine wpAny_Assign_Subscript (thn (hv pins s σ H _ I h) fun r s1 hz=>?_) hs
 obtain⟨v,H1,I1,rv,q1⟩:=hz;refine thn (ho pins s1 σ H1 _ I1 q1) fun u s2 hz=>?_
 obtain⟨x,H2,I2,rx,q2⟩:=hz;refine thn (hi pins s2 σ H2 _ I2 q2) fun iv s3 hz=>?_
 obtain⟨y,H3,I3,ry,a,ex,g⟩:=hz;subst ex;obtain rfl:u=Value.ref a:=rx;exact m7 (by lia) I3 g ry rv fun H4 s4 I4 q3=>⟨σ,H4,I4,q3⟩
end
noncomputable def br (x k:Option D):Option (Option D):=match x,k with
 |some (.dK ks vs),some d=>(match dG d with|some kk=>some (bF kk ks vs)|none=>none)
 |some (.dD ks vs),some d=>if(bf 8 d&&la d)=true then some (bF d ks vs) else none
 |_,_=>none
theorem dz {K:PySem.W.Frag}{B:Addr->Prop}{H:Hp}{d:D}{k:Key}{v:V}(h:dG d=some k) (r:Rep K B H d v):v=kV k:=by
 cases d<;>simp only[dG]at h<;>first
  |(cases h;simp only[Rep]at r;exact r)
  |contradiction
theorem cB {K:PySem.W.Frag}{B:Addr->Prop}{H:Hp}{d:D}{v:V}(h:la d=true) (r:Rep K B H d v):∃b,v=.ref b:=by
 cases d<;>simp only[la]at h<;>first
  |(simp only[Rep]at r;obtain⟨a,xs,e,_⟩:=r;exact⟨a,e⟩)
  |contradiction
set_option tactic.hygienic true in
theorem ce {K:PySem.W.Frag}{B B':Addr->Prop}{H:Hp}{x k:Option D}{o:Option D}(h:br x k=some o):∃d e,x=some d/\k=some e/\∀{v u:V},Rep K B H d v->Rep K B' H e u->∃a r,v=.ref a/\DGA H a u r/\r.isSome=o.isSome/\∀z,o=some z->∃w,r=some w/\Rep K B H z w:=by
 unfold br at h;split at h
 ·rename_i ks vs d
  split at h
  ·rename_i kk hk
   obtain rfl:=Zb h;refine⟨_,_,rfl,rfl,fun{v u} r1 r2=>?_⟩
   simp only[Rep]at r1;obtain⟨a,kvs,rfl,hq,rfl,rs⟩:=r1;have hu:=dz hk r2;obtain⟨n1,n2⟩:=cm kk rs;refine⟨a,dh kvs kk,rfl,.inl ⟨kvs,kk,hq.imp And.right id,hu,rfl⟩,?_,fun z hz=>n2 z hz⟩
   cases q:bF kk (kvs.map (·.1)) vs with
   |none=>rw[n1 q];rfl
   |some z=>obtain⟨w,e,_⟩:=n2 z q;rw[e];rfl
  ·contradiction
 ·rename_i ks vs d
  split at h
  ·rename_i hk
   obtain rfl:=Zb h;rw[Zu]at hk;refine⟨_,_,rfl,rfl,fun{v u} r1 r2=>?_⟩
   simp only[Rep]at r1;obtain⟨a,kvs,rfl,⟨ep,hq⟩,rfl,rs⟩:=r1;obtain⟨b,rfl⟩:=cB hk.2 r2;obtain⟨n1,n2⟩:=cm d rs;refine⟨a,dh kvs d,rfl,.inr ⟨kvs,ep,d,b,hq.imp And.right id,rfl,hk.1,r2.key hk.1,rfl⟩,?_,fun z hz=>n2 z hz⟩
   cases q:bF d (kvs.map (·.1)) vs with
   |none=>rw[n1 q];rfl
   |some z=>obtain⟨w,e,_⟩:=n2 z q;rw[e];rfl
  ·contradiction
 ·contradiction
noncomputable def wj (x k:Option D):Option D:=match br x k with|some (some d)=>some d|_=>none
noncomputable def oA (k x:Option D):Option Bool:=match br x k with|some o=>some o.isSome|none=>none
section
variable{X:Cx}{a b:Expr}{fa fb:DEnv->Option D}{m m' mm:Bool}{pos:Pos}
theorem zU (hu:X.A.units+64<cLine) (ha:DE X m a fa) (hb:DE X m' b fb) (hs:B5 b:=by intro _ _;rfl):DE X m (.Subscript a b pos) (fun δ=>wj (fa δ) (fb δ)):=
 (tY hu ha hb hs).imp fun σ H Q hz=>by
  obtain⟨B,Hk,δ,d,R,e,k⟩:=hz;unfold wj at e;cases q:br (fa δ) (fb δ)with
  |none=>rw[q]at e;contradiction
  |some o=>
   rw[q]at e;cases o with
   |none=>contradiction
   |some z=>
    obtain rfl:=Zb e;obtain⟨d1,d2,e1,e2,_⟩:=ce (K:=X.K) (B:=aT m B δ σ) (B':=aT m' B δ σ) (H:=H) q;refine two R e1 e2 fun v u H' s R' r1 r2=>?_
    obtain⟨d1',d2',e1',e2',go⟩:=ce (K:=X.K) (B:=aT m B δ σ) (B':=aT m' B δ σ) (H:=H') q;rw[e1]at e1';obtain rfl:=Zb e1';rw[e2]at e2';obtain rfl:=Zb e2';obtain⟨c,r,ev,g,_,hz⟩:=go r1 r2;obtain⟨w,rfl,rw'⟩:=hz _ rfl;exact⟨c,w,ev,g,k w H' s rw'⟩
theorem ie {K:PySem.W.Frag}{B B':Addr->Prop}{H:Hp}{x y:Option D}{c:Bool}(h:oA y x=some c):∃d e,x=some d/\y=some e/\∀{v u:V},Rep K B H d v->Rep K B' H e u->∃a r,v=.ref a/\DGA H a u r/\r.isSome=c:=by
 unfold oA at h;cases q:br x y with
 |none=>rw[q]at h;contradiction
 |some o=>
  rw[q]at h;obtain rfl:=Zb h;obtain⟨d,e,e1,e2,go⟩:=ce (K:=K) (B:=B) (B':=B') (H:=H) q;exact⟨d,e,e1,e2,fun r1 r2=>by obtain⟨a,r,ev,g,hs,_⟩:=go r1 r2;exact⟨a,r,ev,g,hs⟩⟩
theorem yD (hu:X.A.units+64<cLine) (ha:DE X m a fa) (hb:DE X m' b fb) (hm:behindInMarks .In b=false:=by rfl):DT X (.Compare a [.In] [b] pos) (fun δ=>oA (fa δ) (fb δ)):=
 (bq (An hu) ha hb hm).imp fun σ H Q hz=>by
  obtain⟨B,Hk,δ,d,R,e,k⟩:=hz;obtain⟨d1,d2,e1,e2,_⟩:=ie (K:=X.K) (B:=aT m' B δ σ) (B':=aT m B δ σ) (H:=H) e;refine two R e2 e1 fun v u H' s R' r1 r2=>?_
  obtain⟨d1',d2',e1',e2',go⟩:=ie (K:=X.K) (B:=aT m' B δ σ) (B':=aT m B δ σ) (H:=H') e;rw[e1]at e1';obtain rfl:=Zb e1';rw[e2]at e2';obtain rfl:=Zb e2';obtain⟨c,r,ev,g,rfl⟩:=go r2 r1;exact⟨c,r,ev,g,_,rfl,k H' s⟩
theorem oI (hu:X.A.units+64<cLine) (ha:DE X m a fa) (hb:DE X m' b fb) (hm:behindInMarks .NotIn b=false:=by rfl):DT X (.Compare a [.NotIn] [b] pos) (fun δ=>eI (oA (fa δ) (fb δ))):=
 (bq (pR hu) ha hb hm).imp fun σ H Q hz=>by
  obtain⟨B,Hk,δ,d,R,e,k⟩:=hz;cases q:oA (fa δ) (fb δ)with
  |none=>simp only[q,eI]at e;contradiction
  |some c=>
   simp only[q,eI]at e;obtain rfl:=Zb e;obtain⟨d1,d2,e1,e2,_⟩:=ie (K:=X.K) (B:=aT m' B δ σ) (B':=aT m B δ σ) (H:=H) q;refine two R e2 e1 fun v u H' s R' r1 r2=>?_
   obtain⟨d1',d2',e1',e2',go⟩:=ie (K:=X.K) (B:=aT m' B δ σ) (B':=aT m B δ σ) (H:=H') q;rw[e1]at e1';obtain rfl:=Zb e1';rw[e2]at e2';obtain rfl:=Zb e2';obtain⟨p,r,ev,g,rfl⟩:=go r2 r1;exact⟨p,r,ev,g,_,rfl,k H' s⟩
end
section
variable{prog:Program}{w:World}{A:Around}{E:Value->Shared->Prop}{s:Shared}
theorem lI {κ:Type}[DecidableEq κ] {knd:PySem.KeyKind prog w κ}{d:Addr}{kvs:List (κ×Value)}{k:κ}{key dflt:Value}{Q:Value->Shared->Prop}(hkey:knd.is k key=true) (hm:s.heap.DictOf knd d kvs) (hsz:kvs.length<=sizeLine)
  (old:∀v,valueAt kvs k=some v->Q v {s with toks:=s.toks+1}) (new:valueAt kvs k=none->∀h',h'.DictOf knd d (stored kvs k dflt)->Heap.SameBut d s.heap h'->Q dflt {s with heap:=h',toks:=s.toks+1}):
  wpAny (model prog w) A (dictSetDefault d key dflt) Q E s:=by
 obtain⟨o,es,ep,ho,hc,hd,hk,hp,hn⟩:=hm;have hes:es.size<=sizeLine:=by
  have e1:=hp.length;rw[Array.length_toList]at e1
  lia
 have hix:(es.findIdx? fun e=>knd.is k e.key)=kvs.findIdx? fun kv=>decide (kv.1=k):=by rw[<-hp.findIdx k];obtain⟨l⟩:=es;simp
 have hval:=hp.find k;unfold dictSetDefault
 try with_reducible refine ZN ?_
 refine Za (knd.pyHash hkey (Za (wpAny_dictFind_of (s:={s with toks:=s.toks+1}) hkey ho hd hk ?_)))
 rcases hi:(es.findIdx? fun e=>knd.is k e.key)with _|i<;>rw[hi]
 ·have hnot:k∉kvs.map (·.1):=not_mem_of_findIdx_none (hix▸hi)
  have hany:¬(kvs.any fun kv=>decide (kv.1=k))=true:=by
   rw[List.any_eq_true]
   rintro⟨kv,hkv,he⟩
   exact hnot (List.mem_map.mpr ⟨kv,hkv,ZF he⟩)
  have hv:valueAt kvs k=none:=by
   unfold valueAt;rw[Option.map_eq_none_iff,List.find?_eq_none]
   exact fun x hx he=>hany (List.any_eq_true.mpr ⟨x,hx,he⟩)
  refine Za (Yj (Za (wpAny_updateDictKeys (hz:=hes) (s:={s with toks:=s.toks+1}) ho hd (Zd (new hv _ ⟨_,_,ep+1,ZD _ ho (Obj.isFreed_of_dict (Obj.data_mapDictKeys hd _)),hc.mapDictKeys _,Obj.data_mapDictKeys hd _,hk.push hkey _,?_,?_⟩ (ZI ..))))))
  ·rw[stored,Zo hany]
   have q:=hp.append hkey (knd.hash k) dflt;obtain⟨l⟩:=es
   simpa using q
  ·rw[stored,Zo hany,Z4,List.nodup_append]
   refine⟨hn,by simp,fun a ha b hb=>?_⟩
   have hb':b=k:=by simpa using hb
   exact fun e=>hnot (by rw[<-hb',<-e];exact ha)
 ·obtain⟨hlt,_⟩:=Array.findIdx?_eq_some_iff_findIdx_eq.mp hi
  have hv:valueAt kvs k=some es[i].val:=by
   have q:=hp.find k;rw[<-q];have hf:(es.toList.findIdx? fun e=>knd.is k e.key)=some i:=by rw[<-hi];obtain⟨l⟩:=es;simp
   obtain⟨h1,h2,h3⟩:=List.findIdx?_eq_some_iff_getElem.mp hf
   have:es.toList.find? (fun e=>knd.is k e.key)=some es.toList[i]:=by
    rw[List.find?_eq_some_iff_getElem]
    exact⟨h2,i,h1,rfl,fun j hj=>by simpa using h3 j hj⟩
   rw[this];simp
  refine Za (wpAny_dictEntries (s:={s with toks:=s.toks+1}) ho hd ?_)
  rw[Yh hlt]
  exact Za (Yj (Zd (old _ hv)))
theorem pK {κ:Type}[DecidableEq κ] {knd:HeapKind prog w κ}{d a:Addr}{xs:List (κ×Addr×Value)}{k:κ}{dflt:Value}{Q:Value->Shared->Prop}(hu:knd.room A) (hkey:knd.is s.heap k a) (hm:s.heap.DictOfH knd d xs) (hsz:xs.length<=sizeLine)
  (old:∀p,atKey xs k=some p->Q p.2 {s with toks:=s.toks+knd.draws k}) (new:atKey xs k=none->∀h',h'.DictOfH knd d (storedH xs k a dflt)->Heap.SameBut d s.heap h'->Q dflt {s with heap:=h',toks:=s.toks+knd.draws k}):
  wpAny (model prog w) A (dictSetDefault d (.ref a) dflt) Q E s:=by
 obtain⟨o,es,ep,ho,hc,hd,he,his,hn⟩:=hm;unfold dictSetDefault
 try with_reducible refine ZN ?_
 refine Za (knd.pyHash hu hkey (Za (wpAny_dictFind_heap (s:={s with toks:=s.toks+knd.draws k}) hu hkey ho hd he his hn (fun hno=>?_) fun j p hj=>?_)))
 ·have hat:=atKey_none_of_get hno
  have hnot:=not_mem_keys_of_get hno;refine Za (Yj (Za (wpAny_updateDictKeys (hz:=by have e:=size_of_entries he;lia) (s:={s with toks:=s.toks+knd.draws k}) ho hd (Zd (new hat _ ⟨_,_,ep+1,ZD _ ho (Obj.isFreed_of_dict (Obj.data_mapDictKeys hd _)),hc.mapDictKeys _,Obj.data_mapDictKeys hd _,?_,?_,?_⟩ (ZI ..))))))
  ·rw[storedH_new hat]
   simp[he,entryOfKey]
  ·rw[storedH_new hat]
   intro x hx
   rcases List.mem_append.mp hx with hx|hx
   ·exact knd.keeps (his x hx) ho hd (ZI ..)
   ·rw[List.mem_singleton.mp hx]
    exact knd.keeps hkey ho hd (ZI ..)
  ·rw[storedH_new hat,Z4,List.nodup_append]
   refine⟨hn,by simp,fun x hx y hy=>?_⟩
   have hy':y=k:=by simpa using hy
   exact fun e=>hnot (by rw[<-hy',<-e];exact hx)
 ·have hat:=atKey_of_get hn hj
  refine Za (wpAny_dictEntries (s:={s with toks:=s.toks+knd.draws k}) ho hd ?_)
  rw[entry_at he j,hj];exact Za (Yj (Zd (old p hat)))
end
section
variable{X:Cx}{pins:List (Addr×Obj)}{σ:St}{H:Hp}{s:Shared}{a:Addr}{y v:V}{u r:Value}{o:Option V}{A:Around}{E:Value->Shared->Prop}
theorem gJ {Q:Value->Shared->Prop}{P:Program}{w:World}{d:Addr}{key dflt:Value}(ty:s.TypeIs (.ref d) "dict") (hd:(d==sysModules)=false) (h:wpAny (model P w) A.in1 (dictSetDefault d key dflt) Q E s):
  wpAny (model P w) A (call (.builtin "dict.setdefault") [.ref d,key,dflt]) Q E s:=by
 refine ZP F.slot_dict_setdefault ty F.entry_dict_setdefault ?_ (F.args_dict_setdefault_3 _ _ _)
 unfold Builtin.«dict.setdefault»;refine Za ?_
 unfold Builtin.Dict.keyAndDefault;refine Za (wpAny_notOrdered_dict ty (Zd ?_))
 change wpAny _ _ (if(d==sysModules)=true then _ else(dictSetDefault d key dflt >>= _)) _ _ s
 rw[Zo (by rw[hd];exact ZE)]
 refine Za (Z8 h (fun v s' q=>Zd ⟨v,rfl,q⟩) fun y y q=>q)
end
noncomputable def DSd (H:Hp) (a:Addr) (y z v:V) (N:Hp->Prop):Prop:=(DGA H a y (some v)/\N H/\((∃kvs,H a=some (.dK kvs))\/∃kvs ep,H a=some (.dD kvs ep)))\/(DGA H a y none/\v=z/\DPA H a y z N)
section
variable{X:Cx}{pins:List (Addr×Obj)}{σ:St}{H:Hp}{N:Hp->Prop}{s:Shared}{a:Addr}{y z v:V}{u r:Value}{A:Around}{E:Value->Shared->Prop}
theorem qG {Q:Value->Shared->Prop}(hu:A.units+40<cLine) (I:Inv X pins σ H s) (g:DSd H a y z v N) (ry:RelV y u) (rz:RelV z r) (h:∀w' H' s',Inv X pins σ H' s'->N H'->RelV v w'->Q w' s'):
  wpAny (model X.prog X.w) A (call (.builtin "dict.setdefault") [.ref a,u,r]) Q E s:=by
 have ty:s.TypeIs (.ref a) "dict":=by rcases g with⟨g,_⟩|⟨g,_⟩<;>exact iE I g
 rcases g with⟨g,nn,own⟩|⟨g,rfl,p⟩
 ·rcases g with⟨kvs,k,e,ey,l⟩|⟨kvs,ep,k,b,e,ey,hk,kb,l⟩
  ·subst ey
   obtain⟨z1,hd,vs,rel,dd⟩:=jv I.hok e;obtain⟨w',hw,rw'⟩:=RelO.some_of (v:=v) (o:=valueAt vs k) (by rw[l];exact rel.val k)
   refine gJ ty hd (lI (kJ ry) dd (by rw[<-rel.length];exact z1) (fun v' hv'=>?_) fun hn=>?_)
   ·rw[hw]at hv';obtain rfl:=Zb hv';exact h w' _ _ (I.tok _) nn rw'
   ·rw[hw]at hn;contradiction
  ·subst ey
   cases (show u=Value.ref b from ry)
   obtain⟨z1,hd,xs,rel,dd⟩:=fC I.hok e;obtain⟨w',hw,rw'⟩:=RelO.some_of (v:=v) (o:=(atKey xs k).map (·.2)) (by rw[l];exact rel.val k)
   obtain⟨p,hp,hp2⟩:=Option.map_eq_some_iff.mp hw;refine gJ ty hd (pK (knd:=aU X.prog X.w) (by show A.units+1+30<cLine;lia) (bx I hk kb) dd (by rw[<-Ye rel];exact z1) (fun p' hp'=>?_) fun hn=>?_)
   ·rw[hp]at hp';obtain rfl:=Zb hp';rw[hp2];exact h w' _ _ (I.tok _) nn rw'
   ·rw[hp]at hn;contradiction
 ·rcases p with⟨H',⟨kvs,k,e,ey,l,eH⟩,nn⟩|⟨kvs,ep,k,b,e,ey,hk,kb,l,nn⟩
  ·subst ey eH
   obtain⟨z1,hd,vs,rel,dd⟩:=yy I.hok e;have hn:valueAt vs k=none:=by
    rcases g with⟨kvs',k',e',ey',l'⟩|⟨kvs',ep',k',b',e',ey',_,_,l'⟩
    ·have hkk:k'=k:=by cases k<;>cases k'<;>simp[kV]at ey'<;>rw[ey']
     subst hkk
     rcases e' with e'|⟨o,e'⟩
     ·rw[e]at e';cases e';exact RelO.none_of (by rw[l'];exact rel.val k')
     ·rw[e]at e';cases e'
    ·rcases e' with e'|⟨o,e'⟩<;>(rw[e]at e';cases e')
   refine gJ ty hd (lI (kJ ry) dd (by rw[<-rel.length];exact z1) (fun v' hv'=>?_) fun d h' dd' hs=>?_)
   ·rw[hn]at hv';contradiction
   ·have hl:(cL kvs k v).length<=sizeLine:=by have:=a9 kvs k v;lia
    have he:∃q,h'.get? a=some q:=by obtain⟨q,_,_,hq,_⟩:=dd';exact⟨q,hq⟩
    exact h r _ _ (eY I (by rw[e];exact True.intro) hs he (v3 hl hd (rel.put k rz) dd')) nn rz
  ·subst ey
   cases (show u=Value.ref b from ry)
   obtain⟨z1,hd,xs,rel,dd⟩:=fC I.hok (.inl e);have hn:(atKey xs k).map (·.2)=none:=by
    rcases g with⟨kvs',k',e',ey',l'⟩|⟨kvs',ep',k',b',e',ey',hk',kb',l'⟩
    ·rcases e' with e'|⟨o,e'⟩<;>(rw[e]at e';cases e')
    ·cases ey'
     have hkk:k'=k:=RH.inj (bx I hk' kb').2 (bx I hk kb).2;subst hkk
     rcases e' with e'|⟨o,e'⟩
     ·rw[e]at e';cases e';exact RelO.none_of (by rw[l'];exact rel.val k')
     ·rw[e]at e';cases e'
   refine gJ ty hd (pK (knd:=aU X.prog X.w) (by show A.units+1+30<cLine;lia) (bx I hk kb) dd (by rw[<-Ye rel];exact z1) (fun p' hp'=>?_) fun d h' dd' hs=>?_)
   ·rw[hp']at hn;contradiction
   ·have hl:(cL kvs k v).length<=sizeLine:=by have:=a9 kvs k v;lia
    obtain⟨q,es,ep',hq,h2,h3,h4,_,h5⟩:=dd';refine h r (upd H a (.dD (cL kvs k v) ep')) _ (eY I (by rw[e];exact True.intro) hs ⟨q,hq⟩ ⟨hl,hd,_,Paired.mapP (rel.put k hk kb rz) fun p q z=>⟨z.1,z.2.1,KR.to (fun c ys ec=>?_) z.2.2.1,z.2.2.2⟩,q,es,hq,h2,h3,h4,h5⟩) (nn ep') rz
    rw[ai (k7 ec e (fun z=>nomatch z))]
    exact ec
end
noncomputable def tDNewD:TE:=fun y H Q=>∀p,H p=none->Q (.ref p) (upd H p (.dD [] 0))
section
variable{X:Cx}{pos pos' cpos apos:Pos}{m m':Bool}{a b c:Expr}{fa fb fc:DEnv->Option D}{i:Nat}{x:Str}{px:Pos}
theorem gB:PE X (.Dict [] [] pos) tDNewD:=fun pins s σ H Q I h=>
 wpAny_Dict_empty ⟨.ref s.heap.objs.size,_,I.laid (a:=s.heap.objs.size) (o:=.dD [] 0) (t':=s.toks) (fun y y q=>Zc _ q) (Zk _) (lR I.big),rfl,h _ (I.hok.fresh (Zk _))⟩
theorem uc:DF X (.Dict [] [] pos) (fun y=>some (.dK [] [])):=uA.imp fun σ H Q hz=>by
 obtain⟨B,Hk,δ,d,R,e,k⟩:=hz;obtain rfl:=Zb e;intro p hp;exact k p _ (am hp) hp ⟨[],af,rfl,Reps.nil⟩
theorem uR:DF X (.Dict [] [] pos) (fun y=>some (.dD [] [])):=gB.imp fun σ H Q hz=>by
 obtain⟨B,Hk,δ,d,R,e,k⟩:=hz;obtain rfl:=Zb e;intro p hp;exact k p _ (am hp) hp ⟨[],⟨0,af⟩,rfl,Reps.nil⟩
noncomputable def fB (x:D) (k v:D):Option D:=match x with
 |.dK ks vs=>(match dG k with|some kk=>if ks.length<lim then some (.dK (dr kk ks) (sf kk v ks vs)) else none|none=>none)
 |.dD ks vs=>if(bf 8 k&&la k&&decide (ks.length<lim))=true then some (.dD (dr k ks) (sf k v ks vs)) else none
 |_=>none
noncomputable def kn (i:Nat) (k v:Option D) (δ:DEnv):Option Out:=match bz i δ,k,v with
 |some x,some k,some v=>(match fB x k v with|some y=>some (.next (δ.set i (some (y,true))))|none=>none)
 |_,_,_=>none
set_option tactic.hygienic true in
theorem md {K:PySem.W.Frag}{B B':Addr->Prop}{H:Hp}{x k v y:D}{l:Addr}{u z:V}(h:fB x k v=some y) (ob:ObR K B H x l) (rk:Rep K B' H k u) (rz:Rep K B H v z):
  ∀{N:Hp->Prop},(∀o,(Ext B H (upd H l o)->ObR K B (upd H l o) y l)->N (upd H l o))->DPA H l u z N:=by
 intro N go;unfold fB at h;split at h
 ·rename_i ks vs
  obtain⟨kvs,e,rfl,rs⟩:=ob;split at h
  ·rename_i kk hk
   split at h
   ·rename_i hl
    obtain rfl:=Zb h;rw[Zn]at hl;exact .inl ⟨_,⟨kvs,kk,e,dz hk rk,Zr hl (aD (Zk _)),rfl⟩,go _ fun ex=>⟨_,af,c8 kk z kvs,(gG rz kk rs).ext ex⟩⟩
   ·contradiction
  ·contradiction
 ·rename_i ks vs
  obtain⟨kvs,⟨ep,e⟩,rfl,rs⟩:=ob;split at h
  ·rename_i hc
   obtain rfl:=Zb h;rw[Zu,Zu,ZU,Zn]at hc;obtain⟨⟨h1,h2⟩,h3⟩:=hc;obtain⟨b,rfl⟩:=cB h2 rk;exact .inr ⟨kvs,ep,k,b,e,rfl,h1,rk.key h1,Zr h3 (aD (Zk _)),fun ep'=>go _ fun ex=>⟨_,⟨ep',af⟩,c8 k z kvs,(gG rz k rs).ext ex⟩⟩
  ·contradiction
 ·contradiction
set_option tactic.hygienic true in
theorem xC (hu:X.A.units+64<cLine) (n:Nm X i x) (hb:DE X m b fb) (hv:DE X false c fc) (hs:swapsWith c (some (.Subscript (.Name x px) b pos')) pos.line X.env=pure false:=by rfl):
  DS X (.Assign [.Subscript (.Name x px) b pos'] c pos) (fun δ=>kn i (fb δ) (fc δ) δ):=
 (lJ hu (be n.at' n.vis n.d1 n.d2) hb hv hs).imp fun Dn σ H hz=>by
  obtain⟨B,Hk,δ,o,R,e,k⟩:=hz;unfold kn at e;split at e
  ·rename_i d0 kd vd q0 q1 q2
   split at e
   ·rename_i y qy
    obtain rfl:=Zb e;have h1:=bE q0;refine⟨B,Hk,δ,vd,R,q2,fun z H1 s1 rz=>?_⟩
    have R1:=R.to s1;obtain⟨l,h2,h3,ob⟩:=R1.own i _ h1;refine⟨.ref l,h2,B,Hk,δ,kd,R1,q1,fun u H2 s2 rk=>?_⟩
    have R2:=R1.to s2;have ob2:=ob.ext (R1.ext s2) fun o q n=>s2.get l o n q
    refine⟨l,rfl,md qy ob2 rk (rz.ext (R1.ext s2)) fun ho new=>?_⟩
    obtain⟨x1,x2⟩:=R2.oset h1 h2 new;exact k σ _ ((R.ext (s1.trans s2)).trans x1) x2
   ·contradiction
  ·contradiction
end
noncomputable def lX (x:V) (H:Hp):Prop:=∃a,x=.ref a/\((∃kvs,Rd H a (.dK kvs))\/∃kvs ep,Rd H a (.dD kvs ep))
section
variable{X:Cx}{pos cpos apos px:Pos}{m m' mm:Bool}{o a b c e:Expr}{es:List Expr}{fa fb fc:DEnv->Option D}{i:Nat}{x:Str}{to:TE}{t:TA}{name:Str}{id:String}{r:V->List V->Hp->VK->Prop}
theorem qg {pins:List (Addr×Obj)}{σ:St}{H:Hp}{s:Shared}{v:V}{u:Value}(I:Inv X pins σ H s) (rv:RelV v u) (d:lX v H):s.TypeIs u "dict"/\∀a,u=.ref a->∃ob,s.heap.get? a=some ob/\ob.dict=none:=by
 obtain⟨a,rfl,d⟩:=d;obtain rfl:u=Value.ref a:=rv
 rcases d with⟨kvs,e⟩|⟨kvs,ep,e⟩
 ·obtain⟨_,_,vs,_,dd⟩:=jv I.hok e
  refine⟨dd.typeIs,fun b q=>?_⟩
  cases q;obtain⟨ob,_,_,h1,h2,_⟩:=dd;exact⟨ob,h1,h2.2.1⟩
 ·obtain⟨_,_,xs,_,dd⟩:=fC I.hok e
  refine⟨dd.typeIs,fun b q=>?_⟩
  cases q;obtain⟨ob,_,_,h1,h2,_⟩:=dd;exact⟨ob,h1,h2.2.1⟩
noncomputable def CJ (r:V->List V->Hp->VK->Prop) (to:TE) (t:TA):TE:=fun σ H Q=>to σ H fun x H1=>lX x H1/\t σ H1 fun xs H2=>r x xs H2 Q
theorem qK (slot:Slot "dict" name id) (hty:typeOf (.builtin id)=pure (.type "method_descriptor")) (hm:MtM X id r) (ho:PE X o to) (ha:PA X (e::es) t)
  (base:attributeBase o name X.env (eval o X.env)=eval o X.env:=by rfl)
  (few:((backTo cpos (starEach (e::es) X.env)).all (fun x=>!x.1)&&(backToKw cpos (keywordEach [] X.env)).all (fun x=>x.1.isSome)&&decide ((e::es).length+([]:List Keyword).length+(if([]:List Keyword).isEmpty then 0 else 1)<30))=true:=by rfl)
  (line:(apos.endLine==cpos.line)=true:=by rfl) (stars:starEach (e::es) X.env=(false,eval e X.env)::starEach es X.env:=by rfl) (plain:(backTo cpos (starEach es X.env)).any (·.1)=false:=by rfl):
  PE X (.Call (.Attribute o name apos) (e::es) [] cpos) (CJ r to t):=by
 intro pins s σ H Q I h;refine wpAny_Call_method_late base few line rfl (thn (ho pins s σ H _ I h) fun v s1 hz=>?_)
 obtain⟨x,H1,I1,r1,d1,q1⟩:=hz;obtain⟨h1,h2⟩:=qg I1 r1 d1;have hA:=ha cpos pins s1 σ H1 _ I1 q1;refine⟨"dict",id,PySem.F.plainAttrs_dict,slot,hty,h1,h2,?_⟩
 rw[stars]at hA⊢;exact Calls.callWith_builtin (by show(false||(backTo cpos (starEach es X.env)).any (·.1))=false;rw[plain]<;>rfl) (Calls.evalArgs_plain (thn hA fun us s2 hz=>by obtain⟨vs,H2,I2,r2,q2⟩:=hz;exact hm pins s2 σ H2 x vs v us Q I2 r1 r2 q2))
noncomputable def rSetdef:V->List V->Hp->VK->Prop:=fun x vs H Q=>∃l y z v,x=.ref l/\vs=[y,z]/\DSd H l y z v fun H'=>Q v H'
theorem i0 (hu:X.A.units+64<cLine):MtM X "dict.setdefault" rSetdef:=by
 intro pins s σ H x vs v us Q I rx rv h;obtain⟨l,y,z,w,rfl,rfl,g⟩:=h;cases rx;obtain⟨u1,u2,rfl,r1,r2⟩:=rv.two;exact qG (by lia) I g r1 r2 fun w' H' s' I' q rw'=>⟨w,H',I',rw',q⟩
noncomputable def tMX (K:PySem.W.Frag) (g:DEnv->Option (D×DEnv)):TE:=fun σ H Q=>∃B Hk δ d δ',Rel K B Hk δ σ H/\g δ=some (d,δ')/\∀v H',Ext B H H'->Rel K B Hk δ' σ H'->Rep K B H' d v->Q v H'
noncomputable def C4 (K:PySem.W.Frag) (g:DEnv->Option (Bool×DEnv)):TT:=fun σ H Q=>∃B Hk δ b δ',Rel K B Hk δ σ H/\g δ=some (b,δ')/\∀H',Ext B H H'->Rel K B Hk δ' σ H'->Q b H'
noncomputable abbrev DX (X:Cx) (e:Expr) (g:DEnv->Option (D×DEnv)):Prop:=PE X e (tMX X.K g)
noncomputable abbrev DTX (X:Cx) (e:Expr) (g:DEnv->Option (Bool×DEnv)):Prop:=PT X e (C4 X.K g)
noncomputable def sdO (i:Nat) (k v:Option D) (δ:DEnv):Option (D×DEnv):=match bz i δ,k,v with
 |some x,some kd,some vd=>(match br (some x) (some kd)with
  |some (some d)=>some (d,δ)
  |some none=>(match fB x kd vd with|some y=>some (vd,δ.set i (some (y,true)))|none=>none)
  |none=>none)
 |_,_,_=>none
theorem ObR.dictAt {K:PySem.W.Frag}{B:Addr->Prop}{H:Hp}{x k v y:D}{l:Addr}{o:Option D}(ob:ObR K B H x l) (h:br (some x) (some k)=some o):lX (.ref l) H/\((∃kvs,H l=some (.dK kvs))\/∃kvs ep,H l=some (.dD kvs ep)):=by
 cases x with
 |dK ks vs=>obtain⟨kvs,e,_⟩:=ob;exact⟨⟨l,rfl,.inl ⟨kvs,.inl e⟩⟩,.inl ⟨kvs,e⟩⟩
 |dD ks vs=>obtain⟨kvs,⟨ep,e⟩,_⟩:=ob;exact⟨⟨l,rfl,.inr ⟨kvs,ep,.inl e⟩⟩,.inr ⟨kvs,ep,e⟩⟩
 |_=>simp only[br]at h;contradiction
set_option tactic.hygienic true in
theorem ObR.get {K:PySem.W.Frag}{B B':Addr->Prop}{H:Hp}{x k:D}{l:Addr}{o:Option D}{u:V}(ob:ObR K B H x l) (h:br (some x) (some k)=some o) (rk:Rep K B' H k u):
  ∃r,DGA H l u r/\r.isSome=o.isSome/\∀z,o=some z->∃w,r=some w/\Rep K B H z w:=by
 cases x with
 |dK ks vs=>
  obtain⟨kvs,e,rfl,rs⟩:=ob;simp only[br]at h;split at h
  ·rename_i kk hk
   obtain⟨n1,n2⟩:=cm kk rs;have h':bF kk (kvs.map (·.1)) vs=o:=Zb h
   refine⟨dh kvs kk,.inl ⟨kvs,kk,.inl e,dz hk rk,rfl⟩,?_,fun z hz=>n2 z (h'.trans hz)⟩
   rw[<-h'];cases q:bF kk (kvs.map (·.1)) vs with
   |none=>rw[n1 q];rfl
   |some z=>obtain⟨w,e,_⟩:=n2 z q;rw[e];rfl
  ·contradiction
 |dD ks vs=>
  obtain⟨kvs,⟨ep,e⟩,rfl,rs⟩:=ob;simp only[br]at h;split at h
  ·rename_i hk
   rw[Zu]at hk;obtain⟨b,rfl⟩:=cB hk.2 rk;obtain⟨n1,n2⟩:=cm k rs;have h':bF k (kvs.map (·.1)) vs=o:=Zb h
   refine⟨dh kvs k,.inr ⟨kvs,ep,k,b,.inl e,rfl,hk.1,rk.key hk.1,rfl⟩,?_,fun z hz=>n2 z (h'.trans hz)⟩
   rw[<-h'];cases q:bF k (kvs.map (·.1)) vs with
   |none=>rw[n1 q];rfl
   |some z=>obtain⟨w,e,_⟩:=n2 z q;rw[e];rfl
  ·contradiction
 |_=>simp only[br]at h;contradiction
set_option tactic.hygienic true in
theorem qE (hu:X.A.units+64<cLine) (n:Nm X i x) (hb:DE X false b fb) (hc:DE X false c fc)
  (base:attributeBase (.Name x px) "setdefault" X.env (eval (.Name x px) X.env)=eval (.Name x px) X.env:=by rfl)
  (few:((backTo cpos (starEach [b,c] X.env)).all (fun x=>!x.1)&&(backToKw cpos (keywordEach [] X.env)).all (fun x=>x.1.isSome)&&decide (([b,c]).length+([]:List Keyword).length+(if([]:List Keyword).isEmpty then 0 else 1)<30))=true:=by rfl)
  (line:(apos.endLine==cpos.line)=true:=by rfl) (stars:starEach [b,c] X.env=(false,eval b X.env)::starEach [c] X.env:=by rfl) (stars2:starEach [c] X.env=[(false,eval c X.env)]:=by rfl) (plain:(backTo cpos (starEach [c] X.env)).any (·.1)=false:=by rfl):
  DX X (.Call (.Attribute (.Name x px) "setdefault" apos) [b,c] [] cpos) (fun δ=>sdO i (fb δ) (fc δ) δ):=
 (qK PySem.F.slot_dict_setdefault PySem.F.type_dict_setdefault (i0 hu) (be n.at' n.vis n.d1 n.d2) (ar hb (ar hc aH stars2) stars) base few line stars plain).imp fun σ H Q hz=>by
  obtain⟨B,Hk,δ,d,δ',R,e,k⟩:=hz;dsimp only at e;unfold sdO at e;split at e
  ·rename_i d0 kd vd q0 q1 q2
   have h1:=bE q0;obtain⟨l,h2,h3,ob⟩:=R.own i _ h1;obtain⟨og,hog⟩:∃o,br (some d0) (some kd)=some o:=by
    cases q:br (some d0) (some kd)with
    |none=>rw[q]at e;contradiction
    |some o=>exact⟨o,rfl⟩
   refine⟨.ref l,h2,(ob.dictAt (v:=vd) (y:=d0) hog).1,two (m:=false) (m':=false) R q1 q2 fun u z H' s R' r1 r2=>?_⟩
   have ob':=ob.ext (R.ext s) fun o q n=>s.get l o n q
   have ow:=(ob'.dictAt (v:=vd) (y:=d0) hog).2;obtain⟨rr,g,gs,gz⟩:=ob'.get hog r1;rw[hog]at e;cases og with
   |some dd=>
    simp only at e;cases e;obtain⟨w,rfl,rw'⟩:=gz _ rfl;exact⟨l,u,z,w,rfl,rfl,.inl ⟨g,k w H' (R.ext s) R' rw',ow⟩⟩
   |none=>
    simp only at e;split at e
    ·rename_i y qy
     cases e;have hr:rr=none:=by cases rr with
      |none=>rfl
      |some _=>simp at gs
     subst hr;refine⟨l,u,z,z,rfl,rfl,.inr ⟨g,rfl,md qy ob' r1 r2 fun ho new=>?_⟩⟩
     obtain⟨x1,x2⟩:=R'.oset h1 h2 new;exact k z _ ((R.ext s).trans x1) x2 (r2.ext x1)
    ·contradiction
  ·contradiction
set_option tactic.hygienic true in
theorem Az {ga:DEnv->Option (D×DEnv)}{fb:DEnv->Option D}(hu:X.A.units+64<cLine) (ha:DX X a ga) (hb:DE X false b fb) (hm:behindInMarks .NotEq b=false:=by rfl):
  DTX X (.Compare a [.NotEq] [b] pos) (fun δ=>ac (ga δ) fun p=>match neO (some p.1) (fb p.2)with|some c=>some (c,p.2)|none=>none):=
 (bq (qm hu) ha hb hm).imp fun σ H Q hz=>by
  obtain⟨B,Hk,δ,t,δ',R,e,k⟩:=hz;obtain⟨⟨d1,δ1⟩,e1,e2⟩:=ak e;simp only at e2;split at e2
  ·rename_i cc qc
   cases e2;refine⟨B,Hk,δ,d1,_,R,e1,fun v H1 x1 R1 r1=>?_⟩
   unfold neO eI at qc;cases q:eqO (some d1) (fb δ')with
   |none=>rw[q]at qc;contradiction
   |some c0=>
    rw[q]at qc;obtain rfl:=Zb qc;obtain⟨d,d2,z1,z2,h1,h2,rfl⟩:=da q;obtain rfl:=Zb z1;refine⟨B,Hk,δ',d2,R1,z2,fun u H2 s2 r2=>⟨B,_,d1,d2,h1,h2,r1.ext (R1.ext s2),r2,_,rfl,k H2 (x1.trans (R1.ext s2)) (R1.to s2)⟩⟩
  ·contradiction
noncomputable def ifX (t:Option (Bool×DEnv)) (g1 g2:DEnv->Option Out):Option Out:=match t with
 |some (true,δ)=>g1 δ
 |some (false,δ)=>g2 δ
 |none=>none
set_option tactic.hygienic true in
theorem AF {gt:DEnv->Option (Bool×DEnv)}{g1 g2:DEnv->Option Out}{x y:List Stmt}(hc:DTX X c gt) (ha:DSs X x g1) (hb:DSs X y g2):DS X (.If c x y pos) (fun δ=>ifX (gt δ) g1 g2):=
 (yV hc ha hb).imp fun Dn σ H hz=>by
  obtain⟨B,Hk,δ,o,R,e,k⟩:=hz;unfold ifX at e;split at e
  ·rename_i δ' q
   exact⟨B,Hk,δ,true,δ',R,q,fun H1 x1 R1=>vF ⟨B,Hk,δ',o,R1,e,k.ext x1⟩⟩
  ·rename_i δ' q
   exact⟨B,Hk,δ,false,δ',R,q,fun H1 x1 R1=>vq ⟨B,Hk,δ',o,R1,e,k.ext x1⟩⟩
  ·contradiction
end
section
variable{prog:Program}{w:World}{A:Around}{E:Value->Shared->Prop}{s:Shared}
theorem iK {d:Addr}{o:Obj}{es:Array DictEntry}{ep:Nat}{Q:Value->Shared->Prop}(hd:(d==sysModules)=false) (ho:s.heap.get? d=some o) (hc:o.ExactDict) (hdat:o.data=.dict es ep)
  (hQ:Q (.ref s.heap.objs.size) {s with heap:=s.heap.push {cls:=.type "dict_keyiterator",data:=.fields #[.ref d,.int 0 0,.int es.size 0,.int ep 0]}}):wpAny (model prog w) A (pyIter (.ref d)) Q E s:=by
 have ty:s.TypeIs (.ref d) "dict":=⟨o,ho,hc.1⟩;refine wpAny_pyIter_slot ty F.slot_dict_iter (ZP F.slot_dict_iter ty F.entry_dict_iter ?_ (F.args_dict_iter_1 _))
 unfold Builtin.«dict.__iter__»;refine Za ?_
 unfold Builtin.Dict.dictSlotNone;refine Za (wpAny_notOrdered_dict ty (Zd ?_))
 change wpAny _ _ (Builtin.Dict.showsAll d >>= _) _ E s;unfold Builtin.Dict.showsAll;rw[Zo (by rw[hd];exact ZE)]
 refine Za (Zd (Za (wpAny_dictEntries ho hdat (Za (wpAny_dictEpoch ho hdat (Za (ZL (Zd ⟨_,rfl,"dict_keyiterator",_,⟨_,Zj _ rfl,rfl⟩,F.slot_dict_keyiterator_next.lookup,?_⟩))))))))
 simpa[rawInt]using hQ
theorem cZ {it d:Addr}{o:Obj}{es:Array DictEntry}{i ep:Nat}{Q:Option Value->Shared->Prop}(hh:A.handled=none) (hit:s.heap.IsKeyIter it d i es.size ep) (ho:s.heap.get? d=some o) (hdat:o.data=.dict es ep)
  (item:∀e,es[i]?=some e->∀h',h'.IsKeyIter it d (i+1) es.size ep->Heap.SameBut it s.heap h'->Q (some e.key) {s with heap:=h'})
  (stop:es[i]?=none->∀h',Heap.ExtBut it s.heap h'->Q none {s with heap:=h'}):wpAny (model prog w) A (pyNext (.ref it)) Q E s:=by
 obtain⟨oi,gi,ci,di⟩:=id hit;unfold pyNext;refine Za (YO (ZW (name:=Str.ofString "__next__") hit.typeIs F.slot_dict_keyiterator_next (ZP F.slot_dict_keyiterator_next hit.typeIs F.entry_dict_keyiterator_next ?_ (F.args_dict_keyiterator_next_1 _))))
 refine Za (Zd (Za (Za ?_)))
 first|refine Za (wpAny_typeNameOfWhole_keyiter hit.typeIs (Zd ?_))|refine Za (wpAny_typeNameOf_keyiter hit.typeIs (Zd ?_))
 refine Za (wpAny_fieldsOf gi di ?_)
 rw[Zo (show ¬Builtin.Dict_items.ownsTuple "dict_keyiterator"=true by decide)]
 change wpAny _ _ (if(Value.ref d==Value.none)=true then _ else _) _ _ s
 rw[Zo (by exact ZE)]
 refine Za (Zd (Za (wpAny_dictEntries ho hdat ?_)))
 rw[Zo (by simp)]
 refine Za (Zd (Za (wpAny_dictEpoch ho hdat ?_)))
 rw[Zo (by simp)]
 refine Zd ?_
 by_cases hlt:i<es.size
 ·have hx:=Yh hlt
  dsimp only;rw[Zo (Int.not_lt.mpr (Int.natCast_nonneg i)),Int.toNat_natCast,hx];refine Za ?_
  first|refine Za (wpAny_typeNameOfWhole_keyiter hit.typeIs (Zd ?_))|refine Za (wpAny_typeNameOf_keyiter hit.typeIs (Zd ?_))
  refine Za (wpAny_isOneOf_keyiter hit.typeIs ?_)
  change wpAny _ _ (setField (.ref it) 1 (rawInt ((i:Int)+1)) >>= _) _ _ s;have nx:(s.heap.update it (Obj.mapFields (·.setIfInBounds 1 (rawInt ((i:Int)+1))))).IsKeyIter it d (i+1) es.size ep:=⟨_,ZD _ gi (Yz (ZT di _)),(Obj.cls_mapFields ..).trans ci,by rw[ZT di];simp[rawInt]⟩
  refine Za (Yn gi di (by simp) (Za (ZN (Za (wpAny_isOneOf_keyiter (s:={s with heap:=s.heap.update it (Obj.mapFields (·.setIfInBounds 1 (rawInt ((i:Int)+1))))}) nx.typeIs ?_)))))
  change wpAny _ _ (pure es[i].key) _ _ _;exact Zd (Zd ⟨_,rfl,Zd (item _ hx _ nx (ZI ..))⟩)
 ·have hx:es[i]?=none:=Array.getElem?_eq_none (by lia)
  dsimp only;rw[Zo (Int.not_lt.mpr (Int.natCast_nonneg i)),Int.toNat_natCast,hx];refine Za ?_
  first|refine Za (wpAny_typeNameOfWhole_keyiter hit.typeIs (Zd ?_))|refine Za (wpAny_typeNameOf_keyiter hit.typeIs (Zd ?_))
  change wpAny _ _ (setField (.ref it) 0 .none >>= _) _ _ s;refine Za (Yn gi di (by simp) ?_)
  change wpAny _ _ (newExc (.type "StopIteration") [] >>= _) _ _ _;simp only[newExc,newTuple,raiseNew];refine Za (Za (ZL ?_ (by size_fits)))
  refine Za (m:=firstArgMember _ _) (wpAny_of_eq (a:=Value.none) (by first|rfl|(simp only[firstArgMember];rfl)) (ZL ?_ (by size_fits)))
  refine Za (wpAny_handled ?_)
  rw[show A.in1.handled=none from hh]
  refine Za (Zd (wpAny_throw ?_))
  refine Za (Yv (T:="StopIteration") (b:=true) ⟨_,Zj _ rfl,rfl⟩ isSubtype_stop ?_)
  exact Zd (stop hx _ (((ZI ..).extBut.push _).push _))
end
noncomputable def Itk (a:Addr) (kvs:List (D×V)) (ep:Nat):It:=
 ⟨fun i H=>Rd H a (.dD kvs ep)/\i<kvs.length,fun i H v H'=>H'=H/\∃p,kvs[i]?=some p/\KR H p.1 v,fun i H=>Rd H a (.dD kvs ep)/\kvs.length<=i⟩
theorem DPairs.get {H:Hp}{kvs:List (D×V)}{xs:List (D×Addr×Value)}{i:Nat}{p:D×V}(h:DPairs H kvs xs) (e:kvs[i]?=some p):∃q,xs[i]?=some q/\KR H p.1 (.ref q.2.1):=by
 induction h generalizing i with
 |nil=>simp at e
 |cons r t ih=>
  cases i with
  |zero=>simp at e;subst e;exact⟨_,rfl,r.2.2.1⟩
  |succ i=>
   obtain⟨q,h1,h2⟩:=ih (i:=i) (by simpa using e)
   exact⟨q,by simpa using h1,h2⟩
theorem q8 {P:Program}{w:World}{K:PySem.W.Frag}{tg:Expr}{a it:Addr}{kvs:List (D×V)}{ep:Nat}:Turn P w K tg (Itk a kvs ep) [it] it (fun i h=>h.IsKeyIter it a i kvs.length ep) where
 mem:=by simp
 obj:=fun i h st b hb=>by
  have e:b=it:=by simpa using hb
  subst e;obtain⟨o,e,c,d⟩:=st;exact⟨o,e,fun v z=>by rw[d]at z;cases z⟩
 keep:=fun i h h' st k=>st.at fun o e=>k it (by simp) o e
 item:=by
  intro X hP hw hK hc i pins s σ H E I hf st hg;subst hP hw hK;obtain⟨rd,hi⟩:=hg;obtain⟨z,y,xs,r,o,es,h1,h2,h3,h4,h5⟩:=(show ObjOk X.prog X.w H s.heap a (.dD kvs ep) from mX I.hok rd)
  have hsz:es.size=kvs.length:=by rw[size_of_entries h4,<-Ye r]
  have hp:kvs[i]?=some kvs[i]:=by simp[hi]
  obtain⟨q,hq,kr⟩:=r.get hp;obtain⟨f0,f1,f2,f3,f4,f5⟩:=hf it (by simp)
  rw[<-hsz]at st;refine cZ (I.ok.hd hc) st h1 h3 (fun e he h' st' sb=>?_) fun hn=>?_
  ·have ek:e.key=.ref q.2.1:=by
    rw[entry_at h4 i,hq]at he;have:=Zb he;rw[<-this];rfl
   have I1:Inv X pins σ H {s with heap:=h'}:=I.turned (t':=s.toks) (fun b o hb e=>(sb.2 b hb).trans e) f0 f1 f3 f4 f5
   rw[hsz]at st';obtain⟨o',e',c',d'⟩:=id st';rw[ek];exact⟨_,rfl,sB (s:={s with heap:=h'}) e' c' d' (by decide) ⟨.ref q.2.1,H,I1,rfl,⟨rfl,kvs[i],hp,kr⟩,st',fun b hb=>(hf b hb).1⟩⟩
  ·exfalso
   rw[Yh (by lia)]at hn
   contradiction
 done:=by
  intro X hP hw hK hc i pins s σ H E I hf st hg;subst hP hw hK;obtain⟨rd,hi⟩:=hg;obtain⟨z,y,xs,r,o,es,h1,h2,h3,h4,h5⟩:=(show ObjOk X.prog X.w H s.heap a (.dD kvs ep) from mX I.hok rd)
  have hsz:es.size=kvs.length:=by rw[size_of_entries h4,<-Ye r]
  obtain⟨f0,f1,f2,f3,f4,f5⟩:=hf it (by simp)
  rw[<-hsz]at st;refine cZ (I.ok.hd hc) st h1 h3 (fun e he h' st' sb=>?_) fun hn h' eb=>⟨rfl,I.turned (t':=s.toks) (fun b o hb e=>eb b o hb e) f0 f1 f3 f4 f5⟩
  exfalso;rw[Array.getElem?_eq_none (by lia)]at he
  contradiction
 self:=fun u u u u u st h=>wpAny_pyIter_keyiter st h
section
variable{X:Cx}{tg a:Expr}{m:Bool}{fa:DEnv->Option D}
noncomputable def Br (te:TE):TI:=fun σ H R=>te σ H fun x H1=>∃a kvs ep,x=.ref a/\Rd H1 a (.dD kvs ep)/\R (Itk a kvs ep) H1
theorem xE {te:TE}(h:PE X a te):PI X tg a (Br te):=by
 intro pins s σ H R I hq;refine thn (h pins s σ H _ I hq) fun v s1 hz=>?_
 obtain⟨x,H1,I1,r1,l,kvs,ep,e,rd,q⟩:=hz;subst e;cases r1;obtain⟨z,y,xs,r,o,es,h1,h2,h3,h4,h5⟩:=(show ObjOk X.prog X.w H1 s1.heap l (.dD kvs ep) from mX I1.hok rd)
 have hsz:es.size=kvs.length:=by rw[size_of_entries h4,<-Ye r]
 refine iK y h1 h2 h3 ?_
 rw[hsz];refine⟨s1.heap.objs.size,[s1.heap.objs.size],_,_,H1,rfl,I1.kept (t':=s1.toks) fun b o e=>Zc _ e,q8,⟨_,Zj _ rfl,rfl,rfl⟩,fun b hb=>?_,q⟩
 have e:b=s1.heap.objs.size:=by simpa using hb
 subst e;exact I1.fpOk (Zk _) (I1.hok.fresh (Zk _))
noncomputable def uE (x:Option D):Option (List D):=match x with|some (.dD ks vs)=>some ks|_=>none
set_option tactic.hygienic true in
theorem yc (h:DE X m a fa):DI X m tg a (fun δ=>uE (fa δ)):=
 (xE h).imp fun σ H Q hz=>by
  obtain⟨B,Hk,δ,ds,R,e,k⟩:=hz;unfold uE at e;split at e
  ·rename_i ks vs q1
   obtain rfl:=Zb e;refine⟨B,Hk,δ,_,R,q1,fun v H' s r=>?_⟩
   simp only[Rep]at r;obtain⟨l,kvs,rfl,⟨ep,hq⟩,rfl,rs⟩:=r;have rd:∀{H2:Hp},Ext (aT m B δ σ) H' H2->Rd H2 l (.dD kvs ep):=fun{H2} x=>by
    rcases hq with⟨b,hq⟩|⟨o,hq⟩
    ·exact .inl ((x.lent l b).trans hq)
    ·exact .inr ⟨o,x.frzs _ _ _ hq⟩
   refine⟨l,kvs,ep,rfl,rd Ext.refl,k _ H' s fun H2 x=>?_⟩
   refine⟨⟨rd x,by simp⟩,fun i d hd=>?_⟩
   rw[YT]at hd
   cases hp:kvs[i]? with
   |none=>rw[hp]at hd;contradiction
   |some p=>
    rw[hp]at hd;have hd':p.1=d:=Zb hd;refine⟨⟨rd x,(List.getElem?_eq_some_iff.mp hp).1⟩,fun z H3 ⟨e3,p',hp',kr⟩=>?_⟩
    rw[hp]at hp';obtain rfl:=Zb hp';rw[e3];exact⟨Same.refl _,by rw[<-hd'];exact kr.rep⟩
  ·contradiction
end
section
variable{X:Cx}{pos cpos apos p:Pos}{m m' mm:Bool}{a b c:Expr}{fa fb fc:DEnv->Option D}
noncomputable def yw (K:PySem.W.Frag):R2:=fun x y H Q=>∃a b xs ys,x=.ref a/\y=.ref b/\SqT K H a xs/\SqT K H b ys/\xs.length+ys.length<=sizeLine/\(xs=[]->Q (.ref b) H)/\(ys=[]->Q (.ref a) H)/\∀p,H p=none->Q (.ref p) (upd H p (.tup (xs++ys)))
theorem sn:OpR X (binaryOp .Add) (yw X.K):=by
 intro pins s σ H x y v u Q I rx ry h;obtain⟨t,b,xs,ys,rfl,rfl,ht,hb,hz,q0,q1,q2⟩:=h;cases rx;cases ry;obtain⟨vs,r1,p1,_⟩:=I.tuple ht;obtain⟨ws,r2,p2,_⟩:=I.tuple hb;have l1:=r1.length;have l2:=r2.length;obtain⟨⟨cls,dd,data,sl⟩,ho,hc,n,hd⟩:=id p1;obtain⟨⟨cls2,dd2,data2,sl2⟩,ho2,hc2,n2,hd2⟩:=id p2;simp only at hc hd hc2 hd2;subst hc hd hc2 hd2
 by_cases hv:vs=[]
 ·have hx:xs=[]:=by cases xs with
   |nil=>rfl
   |cons _ _=>rw[hv]at l1;simp at l1
  exact concat_meets ⟨_,ho,rfl⟩ ⟨_,ho2,rfl⟩ noFill_tuple_add seq_tuple_add PySem.F.slot_tuple_add PySem.F.entry_tuple_add (PySem.F.args_tuple_add_2 _ _) (tuple_addW0 t b vs.toArray ws.toArray n n2 dd dd2 sl sl2 (by simp[hv])) ⟨ho,ho2,.ref b,H,I,rfl,q0 hx⟩
 ·by_cases hw:ws=[]
  ·have hy:ys=[]:=by cases ys with
    |nil=>rfl
    |cons _ _=>rw[hw]at l2;simp at l2
   exact concat_meets ⟨_,ho,rfl⟩ ⟨_,ho2,rfl⟩ noFill_tuple_add seq_tuple_add PySem.F.slot_tuple_add PySem.F.entry_tuple_add (PySem.F.args_tuple_add_2 _ _) (tuple_addW1 t b vs.toArray ws.toArray n n2 dd dd2 sl sl2 (by simpa using hv) (by simp[hw])) ⟨ho,ho2,.ref t,H,I,rfl,q1 hy⟩
  ·refine concat_meets ⟨_,ho,rfl⟩ ⟨_,ho2,rfl⟩ noFill_tuple_add seq_tuple_add PySem.F.slot_tuple_add PySem.F.entry_tuple_add (PySem.F.args_tuple_add_2 _ _) (tuple_addW2 t b vs.toArray ws.toArray n n2 dd dd2 sl sl2 (by simpa using hv) (by simpa using hw) (by rw[Zh,Zh];lia)) ⟨ho,ho2,.ref s.heap.objs.size,_,?_,rfl,q2 _ (I.hok.fresh (Zk _))⟩
   refine I.laid (t':=s.toks) (fun b u e=>Zc _ e) (Zk _) ⟨by rw[ZO];exact hz,vs++ws,r1.append r2,⟨_,Zj _ rfl,rfl,0,?_⟩⟩
   simp
noncomputable def rm (x y:Option D):Option D:=match x,y with|some (.tup xs),some (.tup ys)=>if xs.length+ys.length<=lim then some (.tup (xs++ys)) else none|_,_=>none
theorem oj {x y:Option D}{d:D}(h:rm x y=some d):∃i j,x=some (.tup i)/\y=some (.tup j)/\i.length+j.length<=lim/\d=.tup (i++j):=by
 obtain⟨i,rfl⟩:∃i,x=some (.tup i):=by
  cases x with
  |none=>exact nS h
  |some a=>
   cases a with
   |tup i=>exact⟨i,rfl⟩
   |_=>exact nS h
 obtain⟨j,rfl⟩:∃j,y=some (.tup j):=by
  cases y with
  |none=>exact nS h
  |some a=>
   cases a with
   |tup j=>exact⟨j,rfl⟩
   |_=>exact nS h
 exact⟨i,j,rfl,rfl,ifB h⟩
theorem sX (ha:DE X m a fa) (hb:DE X m b fb):DE X m (.BinOp a .Add b pos) (fun δ=>rm (fa δ) (fb δ)):=
 (tX sn ha hb).imp fun σ H Q hz=>by
  obtain⟨B,Hk,δ,d,R,e,k⟩:=hz;obtain⟨ds,es,q1,q2,hl,rfl⟩:=oj e;refine two R q1 q2 fun v u H' s R' r1 r2=>?_
  simp only[Rep]at r1 r2;obtain⟨t,xs,rfl,ht,rx⟩:=r1;obtain⟨b,ys,rfl,hb,ry⟩:=r2;have l1:=rx.length;have l2:=ry.length;refine⟨t,b,xs,ys,rfl,rfl,SqT.of ht,SqT.of hb,by rw[<-l1,<-l2];exact aD hl,fun hx=>?_,fun hy=>?_,fun p hp=>?_⟩
  ·have:ds=[]:=by cases ds with
    |nil=>rfl
    |cons _ _=>rw[hx]at l1;simp at l1
   subst this;exact k _ H' s (by simp only[Rep,List.nil_append];exact⟨b,ys,rfl,hb,ry⟩)
  ·have:es=[]:=by cases es with
    |nil=>rfl
    |cons _ _=>rw[hy]at l2;simp at l2
   subst this;exact k _ H' s (by simp only[Rep,Yt];exact⟨t,xs,rfl,ht,rx⟩)
  ·have s2:=am (o:=.tup (xs++ys)) hp
   exact k _ _ (s.trans s2) (by simp only[Rep];exact⟨p,xs++ys,rfl,af,(rx.append ry).same R' s2⟩)
noncomputable def dy:List D->Option (List Bool)
 |[]=>some []
 |.bl b::ds=>(match dy ds with|some bs=>some (b::bs)|none=>none)
 |_=>none
set_option tactic.hygienic true in
theorem gf:∀{ds:List D}{bs:List Bool},dy ds=some bs->ds=bs.map D.bl
 |[],bs,h=>by obtain rfl:=Zb h;rfl
 |.bl b::ds,bs,h=>by
  simp only[dy]at h;split at h
  ·rename_i bs' q
   obtain rfl:=Zb h;rw[gf q];rfl
  ·contradiction
 |.non::ds,bs,h=>by simp[dy]at h
 |.int _::ds,bs,h=>by simp[dy]at h
 |.str _::ds,bs,h=>by simp[dy]at h
 |.tup _::ds,bs,h=>by simp[dy]at h
 |.lst _::ds,bs,h=>by simp[dy]at h
 |.dK _ _::ds,bs,h=>by simp[dy]at h
 |.dD _ _::ds,bs,h=>by simp[dy]at h
theorem qC (hc:X.calm=true):cO X (.builtin "any") (fun xs H Q=>∃(q:Addr) (bs:List Bool),xs=[.ref q]/\SqL X.K H q (bs.map V.bl)/\Q (.bl (bs.any id)) H):=by
 intro pins s σ H xs us Q I rv h;obtain⟨q,bs,rfl,hq,k⟩:=h;obtain⟨u,rfl,ru⟩:=rv.one;cases ru;obtain⟨its,r,pl,hz⟩:=I.list hq;have hl:=r.length;rw[Zn]at hl;have hne:q≠s.heap.objs.size:=Zy (by obtain⟨o,e,_⟩:=pl.isList;exact Zi e)
 refine call_any_walk (wpAny_pyIter_list pl.isList ⟨s.heap.objs.size,_,_,its.toArray.size,_,_,fun i=>bs.getD i false,rfl,Walks.list (A:=X.A.in1) (show X.A.in1.handled=none from I.ok.hd hc) s.heap.objs.size q hne its.toArray,⟨⟨_,Zj _ rfl,rfl,rfl⟩,pl.isList.push _⟩,fun i v s' Q' E' hv hQ'=>?_,fun h' tk hk=>?_⟩)
 ·have hv':its[i]?=some v:=by simpa using hv
  have hi:i<bs.length:=by have:=(List.getElem?_eq_some_iff.mp hv').1;lia
  obtain⟨v',e1,e2⟩:=r.get (i:=i) (x:=.bl bs[i]) (by simp[hi])
  rw[hv']at e1;obtain rfl:=Zb e1;cases e2;refine wpAny_truthy_bool ?_
  rw[show bs[i]=bs.getD i false by simp[hi]]
  exact hQ'
 ·have e:(List.range its.toArray.size).any (fun i=>bs.getD i false)=bs.any id:=by
   rw[Zh,<-hl,Ya,List.any_eq_true,List.any_eq_true];constructor
   ·rintro⟨i,hi,h1⟩
    have hi':=List.mem_range.mp hi;exact⟨bs[i],Yw hi',by simpa[hi']using h1⟩
   ·rintro⟨x,hx,h1⟩
    obtain⟨i,hi,rfl⟩:=List.mem_iff_getElem.mp hx;exact⟨i,List.mem_range.mpr hi,by simpa[hi]using h1⟩
  rw[e];refine⟨.bl (bs.any id),H,?_,rfl,k⟩
  exact(I.kept (t':=tk) fun b o eb=>hk b o (fun z=>by
   have:b=s.heap.objs.size:=by simpa using z
   rw[this]at eb;exact absurd (Zi eb) (ZR _)) (Zc _ eb))
noncomputable def AT (x:Option D):Option D:=match x with|some (.lst ds)=>(match dy ds with|some bs=>some (.bl (bs.any id))|none=>none)|_=>none
theorem Reps.bols {K:PySem.W.Frag}{B:Addr->Prop}{H:Hp}:∀{bs:List Bool}{xs:List V},Reps K B H (bs.map D.bl) xs->xs=bs.map V.bl
 |[],xs,r=>r
 |b::bs,xs,r=>by
  rw[Zf]at r;simp only[Reps]at r;obtain⟨x,t,rfl,r1,r2⟩:=r;simp only[Rep]at r1;rw[r1,Reps.bols r2];rfl
set_option tactic.hygienic true in
theorem AA (hc:X.calm=true) (g:Gl X "any") (hm:X.mg "any"=none) (ha:DE X m a fa) (hs:starEach [a] X.env=[(false,eval a X.env)]:=by rfl):DE X mm (.Call (.Name "any" p) [a] [] pos) (fun δ=>AT (fa δ)):=
 (bM (qC hc) g hm boot_any (ar ha aH hs) (he:=hs)).imp fun σ H Q hz=>by
  obtain⟨B,Hk,δ,d,R,e,k⟩:=hz;unfold AT at e;split at e
  ·rename_i ds q
   split at e
   ·rename_i bs qn
    obtain rfl:=Zb e;obtain rfl:=gf qn;refine kN R q fun v H' s R' r=>?_
    simp only[Rep]at r;obtain⟨c,xs,rfl,hq,rs⟩:=r;obtain rfl:=rs.bols;exact⟨c,bs,rfl,hq.sq,k _ H' s (by simp only[Rep])⟩
   ·contradiction
  ·contradiction
noncomputable def rGetA:V->List V->Hp->VK->Prop:=fun x vs H Q=>∃l y z o,x=.ref l/\vs=[y,z]/\DGA H l y o/\Q (o.getD z) H
theorem wP (hu:X.A.units+64<cLine):MtM X "dict.get" rGetA:=by
 intro pins s σ H x vs v us Q I rx rv h;obtain⟨l,y,z,o,rfl,rfl,g,q⟩:=h;cases rx;obtain⟨u1,u2,rfl,r1,r2⟩:=rv.two
 rcases g with g|⟨kvs,ep,k,b,e,rfl,hk,kb,rfl⟩
 ·exact zn (by lia) I g r1 r2 fun w' s' I' rw'=>⟨_,H,I',rw',q⟩
 ·cases (show u1=Value.ref b from r1)
  obtain⟨z1,hd,xs,rel,dd⟩:=fC I.hok e;refine call_meetsIn PySem.F.slot_dict_get dd.typeIs PySem.F.entry_dict_get (PySem.F.args_dict_get_3 _ _ _) (meetsH_dict_get_default (aU X.prog X.w) l b hd u2) ⟨by show X.A.units+1+30<cLine;lia,k,xs,bx I hk kb,dd,⟨_,H,I.tok _,?_,q⟩⟩
  exact(rel.val k).getD r2
noncomputable def bX (x k y:Option D):Option D:=match br x k,y with|some o,some z=>some (o.getD z)|_,_=>none
set_option tactic.hygienic true in
theorem wx (hu:X.A.units+64<cLine) (ha:DE X m a fa) (hb:DE X m b fb) (hc:DE X m c fc)
  (base:attributeBase a "get" X.env (eval a X.env)=eval a X.env:=by rfl)
  (few:((backTo cpos (starEach [b,c] X.env)).all (fun x=>!x.1)&&(backToKw cpos (keywordEach [] X.env)).all (fun x=>x.1.isSome)&&decide (([b,c]).length+([]:List Keyword).length+(if([]:List Keyword).isEmpty then 0 else 1)<30))=true:=by rfl)
  (line:(apos.endLine==cpos.line)=true:=by rfl) (stars:starEach [b,c] X.env=(false,eval b X.env)::starEach [c] X.env:=by rfl) (stars2:starEach [c] X.env=[(false,eval c X.env)]:=by rfl) (plain:(backTo cpos (starEach [c] X.env)).any (·.1)=false:=by rfl):
  DE X m (.Call (.Attribute a "get" apos) [b,c] [] cpos) (fun δ=>bX (fa δ) (fb δ) (fc δ)):=
 (qK PySem.F.slot_dict_get PySem.F.type_dict_get (wP hu) ha (ar hb (ar hc aH stars2) stars) base few line stars plain).imp fun σ H Q hz=>by
  obtain⟨B,Hk,δ,d,R,e,k⟩:=hz;unfold bX at e;split at e
  ·rename_i o z q1 q2
   obtain rfl:=Zb e;obtain⟨d1,d2,e1,e2,_⟩:=ce (K:=X.K) (B:=aT m B δ σ) (B':=aT m B δ σ) (H:=H) q1;refine⟨B,Hk,δ,d1,R,e1,fun v H1 s1 r1=>?_⟩
   have R1:=R.to s1;have hda:lX v H1:=by
    unfold br at q1;rw[e1,e2]at q1;cases d1 with
    |dK ks vs=>simp only[Rep]at r1;obtain⟨a,kvs,rfl,hq,_⟩:=r1;exact⟨a,rfl,.inl ⟨kvs,hq.imp And.right id⟩⟩
    |dD ks vs=>simp only[Rep]at r1;obtain⟨a,kvs,rfl,⟨ep,hq⟩,_⟩:=r1;exact⟨a,rfl,.inr ⟨kvs,ep,hq.imp And.right id⟩⟩
    |_=>simp at q1
   refine⟨hda,two (m:=m) (m':=m) R1 e2 q2 fun u w H' s R' r2 r3=>?_⟩
   obtain⟨d1',d2',e1',e2',go⟩:=ce (K:=X.K) (B:=aT m B δ σ) (B':=aT m B δ σ) (H:=H') q1;rw[e1]at e1';obtain rfl:=Zb e1';rw[e2]at e2';obtain rfl:=Zb e2';obtain⟨c',r,ev,g,gs,gz⟩:=go (r1.same R1 s) r2;refine⟨c',u,w,r,ev,rfl,g,?_⟩
   cases o with
   |none=>
    cases r with
    |none=>exact k w H' (s1.trans s) r3
    |some _=>simp at gs
   |some dd=>
    obtain⟨w',rfl,rw'⟩:=gz _ rfl;exact k w' H' (s1.trans s) rw'
  ·contradiction
end
section
variable{prog:Program}{w:World}{A:Around}{E:Value->Shared->Prop}{s:Shared}
theorem nX (hh:A.handled=none) (I d:Addr) (hne:d≠I) {o:Obj}{es:Array DictEntry}{ep:Nat}(hdat:o.data=.dict es ep):
  Walks prog w A I [I,d] [I] es.size (fun i v=>∃e,es[i]?=some e/\v=e.key) (fun i h=>h.IsKeyIter I d i es.size ep/\h.get? d=some o) where
 sub:=fun b hb=>by simp at hb;simp[hb]
 frame:=fun y y y st hk=>⟨st.1.at fun o e=>hk I (by simp) o e,hk d (by simp) _ st.2⟩
 item:=fun i s Q E hi st hQ=>cZ hh st.1 st.2 hdat (fun e he h' it' sb=>hQ _ h' s.toks ⟨e,he,rfl⟩ ⟨it',(sb.2 d hne).trans st.2⟩ fun b o hb e=>(sb.2 b (fun z=>hb (by simp[z]))).trans e) fun hn=>by
  rw[Yh hi]at hn;contradiction
 done:=fun s Q E st hQ=>cZ hh st.1 st.2 hdat (fun e he=>by rw[Array.getElem?_eq_none (Zk _)]at he;contradiction) fun y h' eb=>hQ h' s.toks fun b o hb e=>eb b o (fun z=>hb (by simp[z])) e
 self:=fun y y y y st hQ=>wpAny_pyIter_keyiter st.1 hQ
theorem kY {R:Result->Shared->Prop}(hh:A.handled=none) {d S:Addr}{o:Obj}{es:Array DictEntry}{ep c₀:Nat}(hd:(d==sysModules)=false) (ho:s.heap.get? d=some o) (hc:o.ExactDict) (hdat:o.data=.dict es ep) (hn:es.size<=sizeLine) (res:Value)
  (hS:s.heap.get? S=some {cls:=.type "list",data:=.seq #[] c₀})
  (hR:∀h' tk acc' c',(∀b o,b≠S->s.heap.get? b=some o->h'.get? b=some o)->h'.get? S=some {cls:=.type "list",dict:=none,data:=.seq acc' c',slots:=#[]}->ItemsOf (fun i v=>∃e,es[i]?=some e/\v=e.key) acc' es.size->R (.ok (.ret res)) {s with heap:=h',toks:=tk}):
  wpAny (model prog w) A.in1 (Builtin.List.listExtendWith (.ref S) (.ref d) res)
   (fun fin s'=>match fin with|.done f=>R (.ok f) s'|.again c'=>c'.quiet=true/\codeAny (model prog w) A c' R s') (fun e s'=>R (.error e) s') s:=by
 have ty:s.TypeIs (.ref d) "dict":=⟨o,ho,hc.1⟩;have nSd:S≠d:=fun e=>by rw[e,ho]at hS;have:=Zb hS;rw[this]at hdat;contradiction
 have nSI:S≠s.heap.objs.size:=Zy (Zi hS);have ndI:d≠s.heap.objs.size:=Zy (Zi ho);have nSf:S∉[s.heap.objs.size,d]:=fun hm=>by
  rcases ZA.mp hm with e|hm
  ·exact nSI e
  ·exact nSd (List.mem_singleton.mp hm)
 unfold Builtin.List.listExtendWith;refine Za (Y0 ty ?_)
 simp only[show Builtin.List.listSameRef (.ref S) (.ref d)=false by simp[Builtin.List.listSameRef,nSd],show(Value.type "dict"==Value.type "list")=false by decide,show(Value.type "dict"==Value.type "tuple")=false by decide,Bool.or_false,Zx,ZY]
 refine Za (iK hd ho hc hdat (Za (ZN ?_)))
 have ho1:(s.heap.push {cls:=.type "dict_keyiterator",data:=.fields #[.ref d,.int 0 0,.int es.size 0,.int ep 0]}).get? d=some o:=Zc _ ho
 have ty1:Shared.TypeIs {s with heap:=s.heap.push {cls:=.type "dict_keyiterator",data:=.fields #[.ref d,.int 0 0,.int es.size 0,.int ep 0]}} (.ref d) "dict":=⟨o,ho1,hc.1⟩
 unfold Builtin.List.listLengthHint;refine Za (YA ty1 F.slot_dict_len.lookup ?_)
 wp_delta
 refine Za (Yv ty1 (b:=true) (by rw[isSubtype_type];kernel_rfl) ?_)
 change wpAny _ _ (typeOf (Value.ref d) >>= _) _ _ _;refine Za (Y0 ty1 (Zd ?_))
 rw[Zm (by decide)]
 have hS1:(s.heap.push {cls:=.type "dict_keyiterator",data:=.fields #[.ref d,.int 0 0,.int es.size 0,.int ep 0]}).get? S=some {cls:=.type "list",data:=.seq #[] c₀}:=Zc _ hS
 refine Za (Yj (Za ?_))
 change wpAny _ A.in1 (updateSeq S (·.push .none) >>= fun y=>updateSeq S (·.pop)) _ _ _
 have hS2:=ZD (Obj.mapSeq (·.push Value.none)) hS1 rfl
 refine Za (Ys hS1 rfl (Ys (hz:=by seq_fits) hS2 rfl ?_))
 have hS3:=ZD (Obj.mapSeq (·.pop)) hS2 rfl
 have oth:∀b o,b≠S->(s.heap.push {cls:=.type "dict_keyiterator",data:=.fields #[.ref d,.int 0 0,.int es.size 0,.int ep 0]}).get? b=some o->(((s.heap.push {cls:=.type "dict_keyiterator",data:=.fields #[.ref d,.int 0 0,.int es.size 0,.int ep 0]}).update S (Obj.mapSeq (·.push Value.none))).update S (Obj.mapSeq (·.pop))).get? b=some o:=
  fun b o hb e=>(ZC _ _ (Zz hb)).trans ((ZC _ _ (Zz hb)).trans e)
 refine Zd ⟨YF YG _,codeAny_extend_loopS (nX (A:=A.in1) (show A.in1.handled=none from hh) s.heap.objs.size d ndI hdat).toS hn _ nSf _ es.size 0 _ _ _ rfl (ZK _) ⟨⟨_,oth _ _ (Zz nSI) (Zj _ rfl),rfl,rfl⟩,oth _ _ (Zz nSd) ho1⟩ hS3 (ItemsOf.nil _) fun s' acc' c' hm hS' hacc=>?_⟩
 rw[Moved.eq_with hm];refine hR s'.heap s'.toks acc' c' (fun b ob hb e=>hm.heap b ob (fun hmem=>?_) (oth b ob hb (Zc _ e))) hS' hacc
 rcases ZA.mp hmem with e'|hmem
 ·exact hb e'
 ·rw[List.mem_singleton.mp hmem]at e;exact absurd (Zi e) (ZR _)
theorem fE {Q:Value->Shared->Prop}(hh:A.handled=none) {d:Addr}{o:Obj}{es:Array DictEntry}{ep:Nat}(hd:(d==sysModules)=false) (ho:s.heap.get? d=some o) (hc:o.ExactDict) (hdat:o.data=.dict es ep) (hn:es.size<=sizeLine)
  (hQ:∀h' tk acc' c',(∀b o,s.heap.get? b=some o->h'.get? b=some o)->h'.get? s.heap.objs.size=some {cls:=.type "list",dict:=none,data:=.seq acc' c',slots:=#[]}->ItemsOf (fun i v=>∃e,es[i]?=some e/\v=e.key) acc' es.size->Q (.ref s.heap.objs.size) {s with heap:=h',toks:=tk}):
  wpAny (model prog w) A (call (.type "list") [.ref d]) Q E s:=by
 refine callType_codes (Q₁:=fun obj s₁=>obj=.ref s.heap.objs.size/\s₁={s with heap:=s.heap.push {cls:=.type "list",data:=.seq #[]}}) F.called_list (F.typeCall_list_1 _) F.entry_list_init (code_list_new _ ⟨rfl,rfl⟩) fun obj s₁ h₁=>?_
 obtain⟨rfl,rfl⟩:=h₁;have hS:(s.heap.push {cls:=.type "list",data:=.seq #[]}).get? s.heap.objs.size=some {cls:=.type "list",data:=.seq #[]}:=Zj _ rfl
 refine⟨⟨_,hS,rfl⟩,F.args_list_init_2 _ _,?_⟩
 change wpAny _ _ (do let old <-Builtin.List.listItems (.ref s.heap.objs.size);Builtin.List.listUpdate (.ref s.heap.objs.size) (fun y=>#[]);letGo old.toList.reverse;Builtin.List.listExtendWith (.ref s.heap.objs.size) (.ref d) .none) _ _ _
 refine Za ?_
 unfold Builtin.List.listItems;refine Za (Yf hS rfl (Zd ?_))
 change wpAny _ _ (updateSeq s.heap.objs.size (fun y=>#[]) >>= fun y=>letGo (#[]:Array Value).toList.reverse >>= fun y=>Builtin.List.listExtendWith (.ref s.heap.objs.size) (.ref d) .none) _ _ _
 have hS2:=ZD (Obj.mapSeq (fun y=>(#[]:Array Value))) hS rfl
 have up:∀b ob,s.heap.get? b=some ob->((s.heap.push {cls:=.type "list",data:=.seq #[]}).update s.heap.objs.size (Obj.mapSeq (fun y=>(#[]:Array Value)))).get? b=some ob:=fun b ob e=>(ZC _ _ (Zz (Zy (Zi e)))).trans (Zc _ e)
 refine Za (Ys hS rfl (Za (wpAny_letGo ?_)))
 exact kY (A:=A.in1) hh hd (up d o ho) hc hdat hn .none hS2 fun h' tk acc' c' hk hS' hacc=>⟨rfl,hQ h' tk acc' c' (fun b ob e=>hk b ob (Zy (Zi e)) (up b ob e)) hS' hacc⟩
end
section
variable{X:Cx}{pos p:Pos}{m:Bool}{a:Expr}{fa:DEnv->Option D}
theorem DPairs.keys {H:Hp}{kvs:List (D×V)}{xs:List (D×Addr×Value)}(h:DPairs H kvs xs):KRs H (kvs.map (·.1)) (xs.map fun q=>V.ref q.2.1):=by
 induction h with
 |nil=>simp only[ZX,KRs]
 |cons r t ih=>
  simp only[Zf,KRs];exact⟨_,_,rfl,r.2.2.1,ih⟩
theorem nZ (hc:X.calm=true):cO X (.type "list") (fun xs H Q=>∃d kvs ep,xs=[.ref d]/\Rd H d (.dD kvs ep)/\∀ks p,KRs H (kvs.map (·.1)) ks->H p=none->Q (.ref p) (upd H p (.lst ks))):=by
 intro pins s σ H xs us Q I rv h;obtain⟨d,kvs,ep,rfl,rd,k⟩:=h;obtain⟨u,rfl,ru⟩:=rv.one;cases ru;obtain⟨z,y,xs,r,o,es,h1,h2,h3,h4,h5⟩:=(show ObjOk X.prog X.w H s.heap d (.dD kvs ep) from mX I.hok rd)
 have hsz:es.size=kvs.length:=by rw[size_of_entries h4,<-Ye r]
 refine fE (I.ok.hd hc) y h1 h2 h3 (by rw[hsz];exact z) fun h' tk acc c' hk hS hacc=>?_
 have hf:H s.heap.objs.size=none:=I.hok.fresh (Zk _);have hxl:xs.length=kvs.length:=(Ye r).symm;have hv:Vals (xs.map fun q=>V.ref q.2.1) acc.toList:=by
  have hlen:acc.toList.length=xs.length:=by rw[Array.length_toList,hacc.1,hsz,hxl]
  have key:∀(l:List (D×Addr×Value)) (m:List Value),m.length=l.length->(∀(i:Nat) q v,l[i]?=some q->m[i]?=some v->v=.ref q.2.1)->Vals (l.map fun q=>V.ref q.2.1) m:=by
   intro l
   induction l with
   |nil=>intro m hm _;cases m with
    |nil=>exact .nil
    |cons _ _=>simp at hm
   |cons q l ih=>intro m hm hp;cases m with
    |nil=>simp at hm
    |cons v m=>exact .cons (hp 0 q v rfl rfl) (ih m (by simpa using hm) fun i q' v' a1 a2=>hp (i+1) q' v' (by simpa using a1) (by simpa using a2))
  refine key xs acc.toList hlen fun i q v a1 a2=>?_
  obtain⟨e,he,rfl⟩:=hacc.2 i v (by simpa using a2)
  rw[entry_at h4 i,a1]at he;rw[<-Zb he];rfl
 refine⟨.ref s.heap.objs.size,_,I.laid (t':=tk) (o:=.lst (xs.map fun q=>V.ref q.2.1)) hk (Zk _) ⟨by rw[Zn,hxl];exact z,acc.toList,c',hv,by rw[hS]⟩,rfl,k _ _ r.keys hf⟩
noncomputable def lN (x:Option D):Option D:=match x with|some (.dD ks vs)=>some (.lst ks)|_=>none
theorem l8:bootBuiltins "list"=some (.type "list"):=by decide +kernel
set_option tactic.hygienic true in
theorem t7 (hc:X.calm=true) (g:Gl X "list") (hm:X.mg "list"=none) (ha:DE X false a fa) (hs:starEach [a] X.env=[(false,eval a X.env)]:=by rfl):DF X (.Call (.Name "list" p) [a] [] pos) (fun δ=>lN (fa δ)):=
 (bH (nZ hc) g hm l8 (ar ha aH hs) (he:=hs)).imp fun σ H Q hz=>by
  obtain⟨B,Hk,δ,d,R,e,k⟩:=hz;unfold lN at e;split at e
  ·rename_i ks vs q
   obtain rfl:=Zb e;refine kN R q fun v H' s R' r=>?_
   simp only[Rep]at r;obtain⟨c,kvs,rfl,⟨ep,hq⟩,rfl,rs⟩:=r;refine⟨c,kvs,ep,rfl,hq.imp And.right id,fun ks p kr hp=>?_⟩
   have s2:=am (o:=.lst ks) hp;exact k p _ (s.trans s2) (s.free hp) ⟨_,af,(KRs.rep kr).same (m:=false) R' s2⟩
  ·contradiction
end
end L2
namespace L2
open PySem PySem.Spec PyProof.Rows PySem.W
section
variable{X:Cx}{pins:List (Addr×Obj)}{σ:St}{H:Hp}{s:Shared}{A:Around}{E:Value->Shared->Prop}
theorem m8 {d b:Addr}{kvs:List (D×V)}{ep:Nat}{k:D}{v:V}{r:Value}{Q:Unit->Shared->Prop}(hu:A.units+30<cLine) (I:Inv X pins σ H s) (e:H d=some (.dD kvs ep)) (hk:bf 8 k=true) (kb:KR H k (.ref b)) (l:kvs.length<sizeLine) (rv:RelV v r)
  (h:∀ep' h' tk,Heap.SameBut d s.heap h'->Inv X pins σ (upd H d (.dD (cL kvs k v) ep')) {s with heap:=h',toks:=tk}->Q () {s with heap:=h',toks:=tk}):wpAny (model X.prog X.w) A (dictSet d (.ref b) r) Q E s:=by
 obtain⟨z,hd,xs,rel,dd⟩:=fC I.hok (.inl e);have hl:(cL kvs k v).length<=sizeLine:=by have:=a9 kvs k v;lia
 refine wpAny_dictSet_heap (knd:=aU X.prog X.w) (hsz:=by rw[<-Ye rel];exact z) (show A.units+30<cLine from hu) (bx I hk kb) dd fun h' dd' hs=>?_
 obtain⟨q,es,ep',hq,h2,h3,h4,_,h5⟩:=dd';refine h ep' h' _ hs (eY I (by rw[e];exact True.intro) hs ⟨q,hq⟩ ⟨hl,hd,_,Paired.mapP (rel.put k hk kb rv) fun p q z=>⟨z.1,z.2.1,KR.to (fun c ys ec=>?_) z.2.2.1,z.2.2.2⟩,q,es,hq,h2,h3,h4,h5⟩)
 rw[ai (k7 ec e (fun z=>nomatch z))]
 exact ec
noncomputable def PairD (H:Hp) (y:V) (p:D×V):Prop:=∃b kb,y=.ref b/\H b=some (.tup [.ref kb,p.2])/\bf 8 p.1=true/\KR H p.1 (.ref kb)
theorem PairD.upd {y:V}{p:D×V}{d:Addr}{kvs:List (D×V)}{ep:Nat}{o:HO}(h:PairD H y p) (e:H d=some (.dD kvs ep)):PairD (L2.upd H d o) y p:=by
 obtain⟨b,kb,h1,h2,h3,h4⟩:=h;exact⟨b,kb,h1,by rw[ai (k7 h2 e (fun z=>nomatch z))];exact h2,h3,h4.to fun c ys ec=>by rw[ai (k7 ec e (fun z=>nomatch z))];exact ec⟩
noncomputable def eD (kvs:List (D×V)) (ps:List (D×V)):List (D×V):=ps.foldl (fun m p=>cL m p.1 p.2) kvs
theorem SqL.updDD {K:PySem.W.Frag}{l d:Addr}{ys:List V}{kvs:List (D×V)}{ep:Nat}{o:HO}(h:SqL K H l ys) (e:H d=some (.dD kvs ep)):SqL K (upd H d o) l ys:=by
 rcases h with(h|⟨ob,h⟩)|h
 ·exact .inl (.inl (by rw[ai (k7 h e (fun z=>nomatch z))];exact h))
 ·exact .inl (.inr ⟨ob,by rw[ai (k7 h e (fun z=>nomatch z))];exact h⟩)
 ·exact .inr h
theorem nC {d l it:Addr}{R:Result->Shared->Prop}(hu:A.units+40<cLine) (hh:A.handled=none) (ps:List (D×V)) (ys:List V) (hlen:ys.length=ps.length):
  ∀(n i:Nat) (t:Tok) (H:Hp) (s:Shared) (kvs:List (D×V)) (ep:Nat),i+n=ps.length->Inv X pins σ H s->H d=some (.dD kvs ep)->kvs.length+n<lim->SqL X.K H l ys->(∀(j:Nat) y p,ys[j]?=some y->ps[j]?=some p->PairD H y p)->s.heap.IsListIter it l i->dT X pins H it->it≠d->
   (∀H' s',Inv X pins σ H' s'->(∃ep',H'=upd H d (.dD (eD kvs (ps.drop i)) ep'))->R (.ok (.ret .none)) s')->
   codeAny (model X.prog X.w) A (.builtin "dict.update.loop" ⟨[.ref d,.ref it,.int i t,.none],[]⟩) R s:=by
 intro n
 induction n with
 |zero=>
  intro i t H s kvs ep hi I e hl hq hp st hf hne hR;refine Yi cH ?_
  rw[Z3 ba _];obtain⟨its,rv,pl,hz⟩:=I.list hq;have hll:=rv.length;show wpAny _ A.in1 (pyNext (.ref it) >>= _) _ _ s;obtain⟨f0,f1,f2,f3,f4,f5⟩:=hf;refine Za (wpAny_pyNext_list_end hh st pl.isList (by simp;lia) fun h' eb=>?_)
  show wpAny _ A.in1 (Builtin.Dict.addKeywords d [] >>= fun v=>ret .none) _ _ _
  refine Za (Zd (Zd (hR H _ (I.turned (t':=s.toks) (fun b o hb e=>eb b o hb e) f0 f1 f3 f4 f5) ⟨ep,?_⟩)))
  rw[List.drop_of_length_le (by lia)]
  show H=upd H d (.dD kvs ep)
  funext b
  by_cases hb:b=d
  ·subst hb;rw[af];exact e
  ·rw[ai hb]
 |succ n ih=>
  intro i t H s kvs ep hi I e hl hq hp st hf hne hR;refine Yi cH ?_
  rw[Z3 ba _];obtain⟨its,rv,pl,hz⟩:=I.list hq;have hip:i<ps.length:=by lia
  have hiy:i<ys.length:=by lia
  obtain⟨b,kb,ey,hb,hk8,hkb⟩:=hp i ys[i] ps[i] (by simp[hiy]) (by simp[hip])
  obtain⟨u,hu1,ru⟩:=rv.get (i:=i) (x:=ys[i]) (by simp[hiy])
  rw[ey]at ru;cases ru;show wpAny _ A.in1 (pyNext (.ref it) >>= _) _ _ s;obtain⟨f0,f1,f2,f3,f4,f5⟩:=id hf;refine Za (wpAny_pyNext_list_item st pl.isList (x:=.ref b) (by simpa using hu1) fun h' st' sb=>?_)
  have I1:Inv X pins σ H {s with heap:=h'}:=I.turned (t':=s.toks) (fun b o hb e=>(sb.2 b hb).trans e) f0 f1 f3 f4 f5
  obtain⟨tz,tis,tv,⟨to,tg,tc,tn,td⟩⟩:=(show ObjOk X.prog X.w H h' b (.tup [.ref kb,ps[i].2]) from I1.hok b _ hb)
  obtain⟨ku,vu,rfl,rk,rvv⟩:=Vals.two tv;cases rk;refine Za (ZN (Za (wpAny_tryCatch ?_)))
  unfold Builtin.Dict.pairItems;refine Za (Y0 (show Shared.TypeIs {s with heap:=h'} (.ref b) "tuple" from⟨_,tg,tc⟩) ?_)
  rw[Zm (by decide)]
  unfold seqItems?;refine Za (Za (wpAny_load tg ?_))
  rw[td];refine Zd (Zd ?_)
  show wpAny _ A.in1 (holding [Value.ref kb,vu] (dictSet d (.ref kb) vu)) _ _ _;refine ZN (m8 (by show A.units+1+30<cLine;lia) I1 e hk8 hkb (by have:=aD (Zk lim);lia) rvv fun ep' h2 tk2 hs2 I2=>?_)
  refine Zd ⟨YF ba _,?_⟩
  have hlen2:=a9 kvs ps[i].1 ps[i].2;refine ih (i+1) 0 (upd H d (.dD (cL kvs ps[i].1 ps[i].2) ep')) _ (cL kvs ps[i].1 ps[i].2) ep' (by lia) I2 af (by lia) (hq.updDD e) (fun j y p h1 h2=>(hp j y p h1 h2).upd e) ?_ ?_ hne ?_
  ·obtain⟨o,ho,hc,hd'⟩:=st'
   exact⟨o,(hs2.2 it hne).trans ho,hc,hd'⟩
  ·exact⟨by rw[ai hne];exact f0,f1,f2,f3,f4,f5⟩
  ·rintro H' s' I' ⟨ep2,eH⟩
   refine hR H' s' I' ⟨ep2,?_⟩
   rw[eH,qR,ZV hip];rfl
theorem nU (hc:X.calm=true) (hu:X.A.units+64<cLine):cO X (.type "dict") (fun xs H Q=>∃(l:Addr) (ys:List V) (ps:List (D×V)),xs=[.ref l]/\SqL X.K H l ys/\ys.length=ps.length/\ps.length<lim/\
  (∀(j:Nat) y p,ys[j]?=some y->ps[j]?=some p->PairD H y p)/\∀d ep,H d=none->Q (.ref d) (upd H d (.dD (eD [] ps) ep))):=by
 intro pins s σ H xs us Q I r h;obtain⟨l,ys,ps,rfl,hq,hl,hlim,hp,q⟩:=h;obtain⟨u,rfl,rx⟩:=r.one;cases rx;have hh:X.A.handled=none:=I.ok.hd hc;refine callType_codes (Q₁:=fun obj s₁=>obj=.ref s.heap.objs.size/\s₁={s with heap:=s.heap.push {cls:=.type "dict",data:=.dict #[]}}) F.kt_called_dict (F.kt_typeCall_dict_1 _) F.entry_dict_init (kt_code_dict_new _ ⟨rfl,rfl⟩) ?_
 rintro obj s₁ ⟨rfl,rfl⟩
 have hfr:H s.heap.objs.size=none:=I.fresh;have I1:Inv X pins σ (upd H s.heap.objs.size (.dD [] 0)) {s with heap:=s.heap.push {cls:=.type "dict",data:=.dict #[]}}:=
  I.laid (t':=s.toks) (fun v v q=>Zc _ q) (Zk _) (lR I.big)
 have hT:Shared.TypeIs {s with heap:=s.heap.push {cls:=.type "dict",data:=.dict #[]}} (.ref s.heap.objs.size) "dict":=⟨_,Zj _ rfl,rfl⟩
 have sm:Same H (upd H s.heap.objs.size (.dD [] 0)):=am hfr;have hq1:SqL X.K (upd H s.heap.objs.size (.dD [] 0)) l ys:=sm.seq hq;obtain⟨its,rv,⟨ol,nl,hol,hcl,hdl,hsl⟩,hz⟩:=I1.list hq1;refine⟨hT,F.args_dict_init_2 _ _,?_⟩
 unfold Builtin.«dict.__init__»;refine Za ?_
 unfold Builtin.Dict.selfAndRest;refine Za (wpAny_notOrdered_dict hT ?_)
 show wpAny _ _ (pure (s.heap.objs.size,[Value.ref l])) _ _ _;refine Zd ?_
 show wpAny _ _ (Builtin.Dict.updateFrom "dict.__init__" s.heap.objs.size (.ref l) [] .none) _ _ _;unfold Builtin.Dict.updateFrom;refine Za (Y0 (show Shared.TypeIs {s with heap:=s.heap.push {cls:=.type "dict",data:=.dict #[]}} (.ref l) "list" from⟨_,hol,hcl⟩) ?_)
 rw[Zm (by decide)]
 refine Za (ww hol hcl hsl hdl (by simp[hh]) fun h2 tk2 kp2=>?_)
 have I2:Inv X pins σ (upd H s.heap.objs.size (.dD [] 0)) {s with heap:=h2,toks:=tk2}:=I1.kept kp2
 rw[Zm (by decide)]
 refine Za (Yj ?_)
 have pl2:h2.IsList l its.toArray:=⟨ol,kp2 _ _ hol,hcl,nl,hsl⟩;refine Za (wpAny_pyIter_list pl2 ?_)
 refine Zd ⟨YF ba _,?_⟩
 have I3:Inv X pins σ (upd H s.heap.objs.size (.dD [] 0)) {s with heap:=h2.push {cls:=.type "list_iterator",data:=.fields #[.ref l,.int 0 0]},toks:=tk2}:=I2.kept fun b o e=>Zc _ e
 have hlt:s.heap.objs.size<h2.objs.size:=Zi (kp2 _ _ (Zj (h:=s.heap) (o:={cls:=.type "dict",data:=.dict #[]}) rfl))
 have fp:dT X pins (upd H s.heap.objs.size (.dD [] 0)) h2.objs.size:=I2.fpOk (Zk _) (I2.hok.fresh (Zk _));refine nC (X:=X) (A:=X.A.in1) (by show X.A.units+1+40<cLine;lia) (by simp[hh]) ps ys hl ps.length 0 0 (upd H s.heap.objs.size (.dD [] 0)) _ [] 0 (by lia) I3 af (by simpa using hlim) hq1 (fun j y p h1 h2'=>?_) ⟨_,Zj _ rfl,rfl,rfl⟩ fp (Yc hlt) ?_
 ·obtain⟨b,kb,e1,e2,e3,e4⟩:=hp j y p h1 h2'
  exact⟨b,kb,e1,sm _ _ e2,e3,e4.to fun c ys ec=>sm _ _ ec⟩
 ·rintro H' s' I' ⟨ep,eH⟩
  rw[qR,List.drop_zero]at eH;subst eH;exact⟨rfl,⟨.ref s.heap.objs.size,_,I',rfl,q _ ep hfr⟩⟩
end
noncomputable def my:D->Option (D×D)
 |.tup [k,v]=>if(bf 8 k&&la k)=true then some (k,v) else none
 |_=>none
noncomputable def dj:List D->Option (List (D×D))
 |[]=>some []
 |d::ds=>match my d,dj ds with|some p,some ps=>some (p::ps)|_,_=>none
noncomputable def jA:List D->List D->List (D×D)->List D×List D
 |ks,vs,[]=>(ks,vs)
 |ks,vs,p::ps=>jA (dr p.1 ks) (sf p.1 p.2 ks vs) ps
noncomputable def fW (x:Option D):Option D:=match x with|some (.lst ds)=>(match dj ds with|some ps=>if ds.length<lim then some (.dD (jA [] [] ps).1 (jA [] [] ps).2) else none|none=>none)|_=>none
section
variable{K:PySem.W.Frag}{B:Addr->Prop}{H:Hp}
noncomputable def PQ (K:PySem.W.Frag) (B:Addr->Prop) (H:Hp):List (D×D)->List (D×V)->Prop:=Paired fun p q=>p.1=q.1/\Rep K B H p.2 q.2
theorem qJ {ps:List (D×D)}{qs:List (D×V)}{kvs:List (D×V)}{vs:List D}(h:PQ K B H ps qs) (r:Reps K B H vs (kvs.map (·.2))):(eD kvs qs).map (·.1)=(jA (kvs.map (·.1)) vs ps).1/\Reps K B H (jA (kvs.map (·.1)) vs ps).2 ((eD kvs qs).map (·.2)):=by
 induction h generalizing kvs vs with
 |nil=>exact⟨rfl,r⟩
 | @cons p q ps qs h t ih=>
  have h1:=c8 q.1 q.2 kvs;have h2:=gG h.2 q.1 r;have ih:=ih (kvs:=cL kvs q.1 q.2) h2;rw[h1]at ih;unfold jA;rw[h.1];exact ih
set_option tactic.hygienic true in
theorem eR:∀{ds:List D}{ps:List (D×D)}{ys:List V},dj ds=some ps->Reps K B H ds ys->∃qs,PQ K B H ps qs/\ys.length=qs.length/\∀(j:Nat) y q,ys[j]?=some y->qs[j]?=some q->PairD H y q
 |[],ps,ys,h,r=>by
  obtain rfl:=Zb h;have:ys=[]:=r;subst this;exact⟨[],.nil,rfl,fun j y q h=>by simp at h⟩
 |d::ds,ps,ys,h,r=>by
  simp only[dj]at h;split at h
  ·rename_i p ps' q1 q2
   obtain rfl:=Zb h;obtain⟨y,ys',rfl,r1,r2⟩:=r;obtain⟨qs,h1,h2,h3⟩:=eR q2 r2;unfold my at q1;split at q1
   ·rename_i k v
    split at q1
    ·rename_i hc
     obtain rfl:=Zb q1;rw[Zu]at hc;simp only[Rep]at r1;obtain⟨b,xs,rfl,hb,rr⟩:=r1;obtain⟨ku,r3,rfl,rk,rr2⟩:=rr;simp only[Reps]at rr2;obtain⟨vu,r4,rfl,rv,rfl⟩:=rr2;obtain⟨kb,rfl⟩:=cB hc.2 rk;refine⟨(k,vu)::qs,.cons ⟨rfl,rv⟩ h1,by simp[h2],fun j y q e1 e2=>?_⟩
     cases j with
     |zero=>
      simp at e1 e2;subst e1 e2;exact⟨b,kb,rfl,hb,hc.1,rk.key hc.1⟩
     |succ j=>exact h3 j y q (by simpa using e1) (by simpa using e2)
    ·contradiction
   ·contradiction
  ·contradiction
end
section
variable{X:Cx}{pos p:Pos}{a:Expr}{fa:DEnv->Option D}
theorem sH:bootBuiltins "dict"=some (.type "dict"):=by decide +kernel
set_option tactic.hygienic true in
theorem tQ (hc:X.calm=true) (hu:X.A.units+64<cLine) (g:Gl X "dict") (hm:X.mg "dict"=none) (ha:DE X false a fa) (hs:starEach [a] X.env=[(false,eval a X.env)]:=by rfl):DF X (.Call (.Name "dict" p) [a] [] pos) (fun δ=>fW (fa δ)):=
 (bH (nU hc hu) g hm sH (ar ha aH hs) (he:=hs)).imp fun σ H Q hz=>by
  obtain⟨B,Hk,δ,d,R,e,k⟩:=hz;unfold fW at e;split at e
  ·rename_i ds q
   split at e
   ·rename_i ps qp
    split at e
    ·rename_i hl
     obtain rfl:=Zb e;refine kN R q fun v H' s R' r=>?_
     simp only[Rep]at r;obtain⟨l,ys,rfl,hq,rs⟩:=r;obtain⟨qs,h1,h2,h3⟩:=eR qp rs;have hlen:qs.length=ds.length:=by rw[<-h2,rs.length]
     refine⟨l,ys,qs,rfl,hq.sq,h2,by rw[hlen];exact hl,h3,fun d ep hd=>?_⟩
     have s2:=am (o:=.dD (eD [] qs) ep) hd;obtain⟨g1,g2⟩:=qJ (kvs:=[]) (vs:=[]) h1 Reps.nil;exact k d _ (s.trans s2) (s.free hd) ⟨_,⟨ep,af⟩,g1,Reps.same (m:=false) g2 R' s2⟩
    ·contradiction
   ·contradiction
  ·contradiction
end
end L2
namespace L2
open PySem PySem.Spec PyProof.Rows
section
variable{K:PySem.W.Frag}{B:Addr->Prop}{Hk H H' H1:Hp}
theorem Rel.unset {δ:DEnv}{σ:St}{i:Nat}{v:V}(R:Rel K B Hk δ σ H) (hi:i<σ.length):Rel K B Hk (δ.set i none) (σ.set i (some v)) H:=by
 have hi':i<δ.length:=by rw[R.len];exact hi
 have key:∀(j:Nat) p,(δ.set i none)[j]?=some (some p)->j≠i/\δ[j]?=some (some p)/\(σ.set i (some v))[j]?=σ[j]?:=fun j p q=>by
  by_cases hj:j=i
  ·subst hj;rw[Zs hi']at q;cases q
  ·rw[Zl (Zz hj)]at q
   exact⟨hj,q,by rw[Zl (Zz hj)]⟩
 refine⟨R.same,R.bor,by simpa using R.len,fun j e q=>?_,fun j e q=>?_,fun j k e f q hjk h1 h2 h3 h4=>?_⟩
 ·obtain⟨_,q1,q2⟩:=key j _ q
  obtain⟨u,q3,q4⟩:=R.var j e q1;exact⟨u,by rw[q2];exact q3,q4⟩
 ·obtain⟨_,q1,q2⟩:=key j _ q
  obtain⟨a,q3,q4⟩:=R.own j e q1;exact⟨a,by rw[q2];exact q3,q4⟩
 ·obtain⟨_,q1,q2⟩:=key j _ h1
  obtain⟨_,q3,q4⟩:=key k _ h2;rw[q2]at h3;rw[q4]at h4;exact R.dis j k e f q hjk q1 q3 h3 h4
end
section
variable{X:Cx}{i:Nat}{x y:Str}{rest:List Stmt}{gr gb:DEnv->Option Out}{pos pos' p cpos apos px:Pos}{k:Nat}{f:List D->Option (D×Bool)}{e a b:Expr}{es:List Expr}{fs:DEnv->Option (List D)}{fa fb:DEnv->Option D}{ft:DEnv->Option Bool}
end
section
variable{X:Cx}{i:Nat}{x:Str}{e:Expr}{es:List Expr}{fs:DEnv->Option (List D)}{fe:DEnv->Option D}{pos px:Pos}
end
section
variable{X:Cx}{a b:Expr}{fa fb:DEnv->Option D}{m m' mm:Bool}{apos cpos:Pos}
open Classical in
theorem zR {pins:List (Addr×Obj)}{σ:St}{H:Hp}{s:Shared}{B B':Addr->Prop}{d:D}{es:List D}{x:V}{v:Value}{xs:List V}{its:List Value}(hu:X.A.units+64<cLine) (I:Inv X pins σ H s) (hd:okD 16 d=true) (he:es.all (okD 16)=true)
  (r1:Rep X.K B H d x) (r2:Reps X.K B' H es xs) (rx:RelV x v) (rv:Vals xs its):∃e:Value->Bool,(∀y,y∈its.toArray->SeqAt.EqAt X.A.in1 s y v (e y))/\∀(j:Nat) u d',its[j]?=some u->es[j]?=some d'->e u=decide (d'=d):=by
 have one:∀j u,its[j]?=some u->∃d' x',es[j]?=some d'/\okD 16 d'=true/\Rep X.K B' H d' x'/\RelV x' u:=fun j u hj=>by
  have hl:=rv.length;have hlt:j<xs.length:=by rw[hl];exact(List.getElem?_eq_some_iff.mp hj).1
  obtain⟨u',hu',ru⟩:=rv.get (i:=j) (x:=xs[j]) (by simp[hlt])
  rw[hj]at hu';obtain rfl:=Zb hu';obtain⟨d',hd',rd'⟩:=r2.get' (i:=j) (x:=xs[j]) (by simp[hlt])
  exact⟨d',xs[j],hd',(ZH.mp he) d' (ZQ hd'),rd',ru⟩
 have key:∀u d' x',okD 16 d'=true->Rep X.K B' H d' x'->RelV x' u->decide (∃d' x',okD 16 d'=true/\Rep X.K B' H d' x'/\RelV x' u/\d'=d)=decide (d'=d):=fun u d' x' o' rd' ru=>by
  rw[Ya,ZU,ZU];constructor
  ·rintro⟨d2,x2,o2,r2',ru2,e2⟩
   rw[<-e2];have ex:=ru.inj ru2;subst ex;exact Rep.inj I o' o2 rd' r2'
  ·intro e2
   exact⟨d',x',o',rd',ru,e2⟩
 refine⟨fun u=>decide (∃d' x',okD 16 d'=true/\Rep X.K B' H d' x'/\RelV x' u/\d'=d),fun u hu'=>?_,fun j u d' hj hd'=>?_⟩
 ·obtain⟨j,hj⟩:=List.getElem?_of_mem (show u∈its by simpa using hu')
  obtain⟨d',x',_,o',rd',ru⟩:=one j u hj;have q:=(zE I 16 d' d x' x u v X.A.in1 o' hd (by show X.A.units+1+16+1<cLine;lia) rd' r1 ru rx).2.1
  show SeqAt.EqAt X.A.in1 s u v (decide (∃d' x',okD 16 d'=true/\Rep X.K B' H d' x'/\RelV x' u/\d'=d));rw[key u d' x' o' rd' ru];exact q
 ·obtain⟨d2,x',e2,o',rd',ru⟩:=one j u hj
  rw[hd']at e2;obtain rfl:=Zb e2;exact(key u d' x' o' rd' ru).trans (by congr)
noncomputable def yp (x y:Option D):Option D:=match x,y with
 |some (.lst ds),some d=>if okD 16 d=true/\ds.all (okD 16)=true/\ds.idxOf d<ds.length/\ds.length<=lim then some (.int (ds.idxOf d)) else none
 |_,_=>none
theorem t8 (hu:X.A.units+64<cLine):MtR X "list.index" (fun x vs H Q=>∃B B' l y ds d,x=.ref l/\vs=[y]/\Rep X.K B H (.lst ds) x/\Rep X.K B' H d y/\okD 16 d=true/\ds.all (okD 16)=true/\ds.idxOf d<ds.length/\ds.length<=lim/\Q (.int (ds.idxOf d)) H):=by
 intro pins s σ H x vs v us Q I rx rv h;obtain⟨B,B',l,y,ds,d,rfl,rfl,r1,r2,o1,o2,hj,hz,q⟩:=h;cases rx;obtain⟨u,rfl,ru⟩:=rv.one;simp only[Rep]at r1;obtain⟨l',xs,e,hq,rs⟩:=r1;cases e;obtain⟨its,r,pl,_⟩:=I.list hq.sq;obtain⟨e,g1,g2⟩:=zR hu I o1 o2 r2 rs ru r;obtain⟨⟨cl,dd,dt,sl⟩,n,e1,e2,e3,e4⟩:=pl;simp only at e2 e3 e4;subst e2;subst e3;subst e4;have hl1:=r.length;have hl2:=rs.length;have hsz:ds.idxOf d<its.toArray.size:=by rw[Zh];lia
 have at1:∀(i:Nat) (hi:i<its.length),e its[i]=decide (ds[i]'(by lia)=d):=fun i hi=>g2 i its[i] (ds[i]'(by lia)) (by simp) (by simp)
 refine call_meets F.slot_list_index ⟨_,e1,rfl⟩ F.entry_list_index (F.args_list_index_2 _ _) (SeqAt.list_indexAt l its.toArray n none sl u e (ds.idxOf d) hsz ?_ ?_ ?_) ⟨e1,g1,?_⟩
 ·have:lim<2 ^ 63 - 1:=by decide +kernel
  lia
 ·rw[List.getElem_toArray,at1]
  simp
 ·intro i hi hlt
  rw[List.getElem_toArray,at1 i (by simpa using hi)]
  have:=List.not_of_lt_findIdx (p:=fun z=>z==d) (xs:=ds) (i:=i) hlt
  simpa using this
 ·exact⟨.int _,H,I.tok _,⟨_,rfl⟩,q⟩
set_option tactic.hygienic true in
theorem pF {x y:Option D}{z:D}(h:yp x y=some z):∃ds d,x=some (.lst ds)/\y=some d/\okD 16 d=true/\ds.all (okD 16)=true/\ds.idxOf d<ds.length/\ds.length<=lim/\z=.int (ds.idxOf d):=by
 unfold yp at h;split at h
 ·rename_i ds d
  split at h
  ·rename_i c;obtain rfl:=Zb h;exact⟨ds,d,rfl,rfl,c.1,c.2.1,c.2.2.1,c.2.2.2,rfl⟩
  ·contradiction
 ·contradiction
theorem tK (hu:X.A.units+64<cLine) (ha:DE X m a fa) (hb:DE X m' b fb) (hbase:attributeBase a "index" X.env (eval a X.env)=eval a X.env:=by rfl)
  (hfew:((backTo cpos (starEach [b] X.env)).all (fun x=>!x.1)&&(backToKw cpos (keywordEach [] X.env)).all (fun x=>x.1.isSome)&&decide (([b]).length+([]:List Keyword).length+(if([]:List Keyword).isEmpty then 0 else 1)<30))=true:=by rfl)
  (hline:(apos.endLine==cpos.line)=true:=by rfl) (hs:starEach [b] X.env=(false,eval b X.env)::starEach [] X.env:=by rfl):DE X mm (.Call (.Attribute a "index" apos) [b] [] cpos) (fun δ=>yp (fa δ) (fb δ)):=
 (nR PySem.F.plainAttrs_list PySem.F.slot_list_index PySem.F.type_list_index (t8 hu) ha (ar hb aH hs) hbase hfew hline hs).imp fun σ H Q hz=>by
  obtain⟨B,Hk,δ,d,R,e,k⟩:=hz;obtain⟨ds,d0,e1,e2,o1,o2,h1,h2,rfl⟩:=pF e;refine⟨B,Hk,δ,_,R,e1,fun v H1 s1 r1=>?_⟩
  have R1:=R.to s1;obtain⟨l,xs,ev,hq,rs⟩:∃l xs,v=.ref l/\LstS X.K (aT m B δ σ) H1 l xs/\Reps X.K (aT m B δ σ) H1 ds xs:=by simpa only[Rep]using r1
  subst ev;refine⟨.inl ⟨rfl,xs,hq.sq⟩,B,Hk,δ,_,R1,e2,fun y H2 s2 r2=>?_⟩
  exact⟨_,_,l,y,ds,d0,rfl,rfl,r1.same R1 s2,r2,o1,o2,h1,h2,k _ H2 (s1.trans s2) (by simp only[Rep])⟩
end
section
variable{X:Cx}{a:Expr}{fa:DEnv->Option D}{pos:Pos}
theorem nG:cO X (.type "dict") (fun xs H Q=>∃a kvs,xs=[V.ref a]/\Rd H a (.dK kvs)/\∀p,H p=none->Q (.ref p) (upd H p (.dK kvs))):=by
 intro pins s σ H xs us Q I r h;obtain⟨a,kvs,rfl,ha,q⟩:=h;obtain⟨u,rfl,rx⟩:=dP r;cases rx;obtain⟨hz,hS,vs,kv,hd⟩:=ha.ok I.hok;have hl:vs.length=kvs.length:=kv.length.symm;refine PySem.kt_call_dict hS hd (by rw[hl];exact hz) fun h' hd' hs'=>?_
 have hk:∀b o,s.heap.get? b=some o->h'.get? b=some o:=fun b o e=>(hs'.2 b (Zy (Zi e))).trans (Zc _ e)
 have hb:(s.heap.objs.size==sysModules)=false:=beq_false_of_ne (Yc I.big);exact⟨.ref s.heap.objs.size,_,I.laid (a:=s.heap.objs.size) (o:=.dK kvs) (t':=s.toks) hk (Zk _) ⟨hz,hb,vs,kv,hd'⟩,rfl,q _ (I.hok.fresh (Zk _))⟩
noncomputable def iV (x:Option D):Option D:=match x with
 |some (.dK ks vs)=>some (.dK ks vs)
 |_=>none
theorem kO {x:Option D}{d:D}(h:iV x=some d):∃ks vs,x=some (.dK ks vs)/\d=.dK ks vs:=by
 unfold iV at h;split at h
 ·obtain rfl:=Zb h;exact⟨_,_,rfl,rfl⟩
 ·contradiction
theorem ti {p:Pos}(g:Gl X "dict") (hm:X.mg "dict"=none) (ha:DE X false a fa) (hs:starEach [a] X.env=[(false,eval a X.env)]:=by rfl):DF X (.Call (.Name "dict" p) [a] [] pos) (fun δ=>iV (fa δ)):=
 (bH nG g hm wg (ar ha aH hs) (he:=hs)).imp fun σ H Q hz=>by
  obtain⟨B,Hk,δ,d,R,e,k⟩:=hz;obtain⟨ks,vs,e1,rfl⟩:=kO e;refine kN R e1 fun v H' s R' r=>?_
  simp only[Rep]at r;obtain⟨l,kvs,rfl,hq,hk,rs⟩:=r;have hrd:Rd H' l (.dK kvs):=by
   rcases hq with⟨_,h⟩|⟨o,h⟩
   ·exact .inl h
   ·exact .inr ⟨o,h⟩
  refine⟨l,kvs,rfl,hrd,fun p hp=>?_⟩
  have s2:=am (o:=.dK kvs) hp;exact k p _ (s.trans s2) (s.free hp) ⟨kvs,af,hk,rs.same (m:=false) R' s2⟩
end
section
variable{X:Cx}{m:Bool}{a:Expr}{fa:DEnv->Option D}{lo hi:Option Expr}{fl fh:DEnv->Option (Option Int)}{pos p2:Pos}
noncomputable def sI (x:Option D) (l u:Option (Option Int)):Option D:=match x,l,u with
 |some (.tup ds),some l,some u=>if HT.sIx ds.length 0 l=0/\HT.sIx ds.length ds.length u=ds.length then none else some (.tup (oD ds l u))
 |_,_,_=>none
set_option tactic.hygienic true in
theorem xd (ha:DE X m a fa) (hl:DO X lo fl) (hh:DO X hi fh):DE X m (.Subscript a (.Slice lo hi none p2) pos) (fun δ=>sI (fa δ) (fl δ) (fh δ)):=
 (gO yF ha hl hh).imp fun σ H Q hz=>by
  obtain⟨B,Hk,δ,d,R,e,k⟩:=hz;unfold sI at e;split at e
  ·rename_i ds l u q1 q2 q3
   by_cases hw:HT.sIx ds.length 0 l=0/\HT.sIx ds.length ds.length u=ds.length
   ·rw[Zm hw]at e;contradiction
   rw[Zo hw]at e;obtain rfl:=Zb e;refine wW R q1 q2 q3 fun v H' s R' r=>?_
   simp only[Rep]at r;obtain⟨c,xs,rfl,hq,rs⟩:=r;have hlen:=rs.length;refine⟨c,xs,rfl,SqT.of hq,by rw[<-hlen];exact hw,fun p hp=>?_⟩
   have s2:=am (o:=.tup (sg xs l u)) hp;refine k _ _ (s.trans s2) ?_
   simp only[Rep];exact⟨p,_,rfl,af,(rs.cut l u).same (m:=m) R' s2⟩
  ·contradiction
end
end L2
namespace L2
open PySem
noncomputable def aW:List (D×List D)->D->D->List (D×List D)
 |[],k,e=>[(k,[e])]
 |p::r,k,e=>if p.1=k then(p.1,if e∈p.2 then p.2 else p.2++[e])::r else p::aW r k e
noncomputable def mn (g:List (D×List D)):D:=.dD (g.map (·.1)) (g.map fun p=>.dD p.2 (p.2.map fun y=>.bl true))
end L2
namespace L2
open PySem PySem.Spec PyProof.Rows
noncomputable def InAt (Hk H:Hp) (l:Addr) (v:V) (es:List D):Prop:=∃a ks ep,v=.ref a/\a≠l/\Hk a=none/\H a=some (.dD ks ep)/\ks.map (·.1)=es/\∀x∈ks,x.2=.bl true
noncomputable def GL (Hk H:Hp) (l:Addr):List (D×V)->List (D×List D)->Prop
 |[],g=>g=[]
 |p::r,g=>∃q g',g=q::g'/\p.1=q.1/\InAt Hk H l p.2 q.2/\GL Hk H l r g'
theorem InAt.to {Hk H H':Hp}{l:Addr}{v:V}{es:List D}(h:InAt Hk H l v es) (k:∀a ks ep,v=.ref a->H a=some (.dD ks ep)->H' a=some (.dD ks ep)):InAt Hk H' l v es:=by
 obtain⟨a,ks,ep,h1,h2,h3,h4,h5⟩:=h;exact⟨a,ks,ep,h1,h2,h3,k a ks ep h1 h4,h5⟩
theorem GL.to {Hk H H':Hp}{l:Addr}:∀{kvs:List (D×V)}{g:List (D×List D)},GL Hk H l kvs g->(∀p∈kvs,∀a ks ep,p.2=.ref a->H a=some (.dD ks ep)->H' a=some (.dD ks ep))->GL Hk H' l kvs g
 |[],g,h,k=>h
 |p::r,g,h,k=>by
  obtain⟨q,g',h1,h2,h3,h4⟩:=h;exact⟨q,g',h1,h2,h3.to (k p (Zg ..)),GL.to h4 fun p' hp=>k p' (Ze _ hp)⟩
theorem GL.length {Hk H:Hp}{l:Addr}:∀{kvs:List (D×V)}{g:List (D×List D)},GL Hk H l kvs g->kvs.length=g.length
 |[],g,h=>by rw[show g=[] from h];rfl
 |p::r,g,h=>by obtain⟨q,g',rfl,_,_,h4⟩:=h;simp[GL.length h4]
theorem GL.mem {Hk H:Hp}{l:Addr}:∀{kvs:List (D×V)}{g:List (D×List D)}{p:D×V},GL Hk H l kvs g->p∈kvs->∃es,InAt Hk H l p.2 es/\∃q∈g,q.2=es
 |[],g,p,h,hp=>by contradiction
 |p'::r,g,p,h,hp=>by
  obtain⟨q,g',rfl,h2,h3,h4⟩:=h
  rcases ZA.mp hp with rfl|hp
  ·exact⟨q.2,h3,q,Zg ..,rfl⟩
  ·obtain⟨es,h5,q',h6,h7⟩:=GL.mem h4 hp
   exact⟨es,h5,q',Ze _ h6,h7⟩
theorem hU {kvs:List (D×V)}{k:D}{v:V}(h:dh kvs k=some v):∃p∈kvs,p.2=v/\p.1=k:=by
 unfold dh at h;obtain⟨p,h1,h2⟩:=Option.map_eq_some_iff.mp h;exact⟨p,List.mem_of_find?_eq_some h1,h2,by simpa using List.find?_some h1⟩
theorem GL.add {Hk H:Hp}{l a:Addr}{ks:List (D×V)}{k e:D}{ep:Nat}:∀{kvs:List (D×V)}{g:List (D×List D)},GL Hk H l kvs g->(kvs.map (·.2)).Nodup->dh kvs k=some (.ref a)->H a=some (.dD ks ep)->∀ep',GL Hk (upd H a (.dD (cL ks e (.bl true)) ep')) l kvs (aW g k e)
 |[],g,h,nd,hv,ha=>by contradiction
 |p::r,g,h,nd,hv,ha=>by
  intro ep';obtain⟨q,g',rfl,h2,h3,h4⟩:=h;rw[Zf,YB]at nd;unfold aW
  by_cases c:p.1=k
  ·rw[bQ c]at hv
   rw[Zm (by rw[<-h2];exact c)]
   refine⟨_,_,rfl,h2,?_,h4.to fun p' hp' a' ks' ep2 e1 e2=>?_⟩
   ·obtain⟨a',ks',ep2,e1,e2,e3,e4,e5,e6⟩:=h3
    have hv':p.2=.ref a:=Zb hv;rw[e1]at hv';cases hv';rw[ha]at e4;cases e4;refine⟨a,_,ep',e1,e2,e3,af,?_,fun x hx=>?_⟩
    ·rw[c8];unfold dr;rw[e5]
    ·unfold cL at hx
     split at hx
     ·obtain⟨y,hy,rfl⟩:=List.mem_map.mp hx
      split
      ·rfl
      ·exact e6 y hy
     ·rcases List.mem_append.mp hx with hx|hx
      ·exact e6 x hx
      ·rw[List.mem_singleton.mp hx]
   ·have:a'≠a:=fun z=>by
     subst z;exact nd.1 (List.mem_map.mpr ⟨p',hp',by rw[e1];exact(Zb hv).symm⟩)
    rw[ai this];exact e2
  ·rw[bO c]at hv
   rw[Zo (by rw[<-h2];exact c)]
   refine⟨_,_,rfl,h2,h3.to fun a' ks' ep2 e1 e2=>?_,GL.add h4 nd.2 hv ha ep'⟩
   obtain⟨p',hp',e3,_⟩:=hU hv;have:a'≠a:=fun z=>by
    subst z;exact nd.1 (List.mem_map.mpr ⟨p',hp',by rw[e3,e1]⟩)
   rw[ai this];exact e2
theorem GL.keys {Hk H:Hp}{l:Addr}:∀{kvs:List (D×V)}{g:List (D×List D)},GL Hk H l kvs g->kvs.map (·.1)=g.map (·.1)
 |[],g,h=>by rw[show g=[] from h];rfl
 |p::r,g,h=>by obtain⟨q,g',rfl,h2,_,h4⟩:=h;simp[GL.keys h4,h2]
theorem GL.snoc {Hk H:Hp}{l a:Addr}{k:D}{es:List D}:∀{kvs:List (D×V)}{g:List (D×List D)},GL Hk H l kvs g->InAt Hk H l (.ref a) es->GL Hk H l (kvs++[(k,.ref a)]) (g++[(k,es)])
 |[],g,h,i=>by rw[show g=[] from h];exact⟨_,_,rfl,rfl,i,rfl⟩
 |p::r,g,h,i=>by obtain⟨q,g',rfl,h2,h3,h4⟩:=h;exact⟨_,_,rfl,h2,h3,GL.snoc h4 i⟩
theorem GL.lens {n:Nat}{Hk H:Hp}{l:Addr}{k e:D}:∀{g:List (D×List D)},(∀q∈g,q.2.length<=n)->∀q∈aW g k e,q.2.length<=n+1
 |[],h,q,hq=>by unfold aW at hq;rw[List.mem_singleton.mp hq];simp
 |p::r,h,q,hq=>by
  unfold aW at hq;split at hq
  ·rcases ZA.mp hq with rfl|hq
   ·have:=h p (Zg ..)
    dsimp only;split
    ·lia
    ·rw[ZO,List.length_singleton];lia
   ·have:=h q (Ze _ hq);lia
  ·rcases ZA.mp hq with rfl|hq
   ·have:=h q (Zg ..);lia
   ·exact GL.lens (Hk:=Hk) (H:=H) (l:=l) (fun q' hq'=>h q' (Ze _ hq')) q hq
theorem fL:∀(g:List (D×List D)) (k e:D),(aW g k e).length<=g.length+1
 |[],k,e=>by simp[aW]
 |p::r,k,e=>by
  unfold aW;split
  ·simp
  ·have:=fL r k e;simp only[List.length_cons];lia
noncomputable def InM (K:PySem.W.Frag) (B:Addr->Prop) (Hk H:Hp) (l:Addr) (v:V) (es:List D):Prop:=Rep K B H (.dD es (es.map fun y=>.bl true)) v\/InAt Hk H l v es
noncomputable def GM (K:PySem.W.Frag) (B:Addr->Prop) (Hk H:Hp) (l:Addr):List (D×V)->List (D×List D)->Prop
 |[],g=>g=[]
 |p::r,g=>∃q g',g=q::g'/\p.1=q.1/\InM K B Hk H l p.2 q.2/\GM K B Hk H l r g'
theorem GL.m {K:PySem.W.Frag}{B:Addr->Prop}{Hk H:Hp}{l:Addr}:∀{kvs:List (D×V)}{g:List (D×List D)},GL Hk H l kvs g->GM K B Hk H l kvs g
 |[],g,h=>h
 |p::r,g,h=>by obtain⟨q,g',h1,h2,h3,h4⟩:=h;exact⟨q,g',h1,h2,.inr h3,GL.m h4⟩
theorem yx {K:PySem.W.Frag}{B:Addr->Prop}{H:Hp}:∀{ks:List (D×V)},(∀x∈ks,x.2=.bl true)->Reps K B H ((ks.map (·.1)).map fun y=>.bl true) (ks.map (·.2))
 |[],h=>Reps.nil
 |p::r,h=>Reps.cons (by simp only[Rep];exact h p (Zg ..)) (yx fun x hx=>h x (Ze _ hx))
theorem InAt.obR {K:PySem.W.Frag}{B:Addr->Prop}{Hk H:Hp}{l:Addr}{v:V}{es:List D}(h:InAt Hk H l v es):∃a,v=.ref a/\a≠l/\Hk a=none/\ObR K B H (.dD es (es.map fun y=>.bl true)) a:=by
 obtain⟨a,ks,ep,h1,h2,h3,h4,rfl,h6⟩:=h;exact⟨a,h1,h2,h3,ks,⟨ep,h4⟩,rfl,yx h6⟩
theorem GM.frz1 {K:PySem.W.Frag}{B:Addr->Prop}{Hk H:Hp}{l b:Addr}{u:HO}{o:Obj}(hx:H b=some u) (mu:Mut (some u)) (nb:¬B b):∀{kvs:List (D×V)}{g:List (D×List D)},GM K B Hk H l kvs g->GM K B Hk (upd H b (.frz o u)) l kvs g
 |[],g,h=>h
 |p::r,g,h=>by
  obtain⟨q,g',h1,h2,h3,h4⟩:=h;refine⟨q,g',h1,h2,?_,GM.frz1 hx mu nb h4⟩
  rcases h3 with h3|h3
  ·exact .inl (h3.ext (bB hx mu nb))
  ·by_cases c:p.2=.ref b
   ·obtain⟨a,e1,e2,e3,ob⟩:=h3.obR (K:=K) (B:=B)
    rw[c]at e1;cases e1;rw[c];exact .inl (ob.frozen hx nb fun y z=>z)
   ·exact .inr (h3.to fun a ks ep e1 e2=>by rw[ai (fun z=>c (by rw[e1,z]))];exact e2)
theorem BK {X:Cx}{pins:List (Addr×Obj)}{σ:St}{s:Shared}{B:Addr->Prop}{Hk:Hp}{l:Addr}{ol:HO}(hB:∀a,B a->∃o:HOn,Hk a=some o.1):∀(kvs:List (D×V)) (g:List (D×List D)) (H:Hp),Inv X pins σ H s->GM X.K B Hk H l kvs g->H l=some ol->
  ∃H',Inv X pins σ H' s/\Ext B H H'/\(∀c o o',Hk c=some o'->H c=some o->H' c=some o)/\H' l=some ol/\Reps X.K B H' (g.map fun p=>.dD p.2 (p.2.map fun y=>.bl true)) (kvs.map (·.2))
 |[],g,H,I,h,hl=>⟨H,I,Ext.refl,fun y y y y q=>q,hl,by rw[show g=[] from h];exact Reps.nil⟩
 |p::r,g,H,I,h,hl=>by
  obtain⟨q,g',rfl,h2,h3,h4⟩:=h
  rcases h3 with h3|h3
  ·obtain⟨H',I',e',k',l',r'⟩:=BK hB r g' H I h4 hl
   exact⟨H',I',e',k',l',Reps.cons (h3.ext e') r'⟩
  ·obtain⟨a,e1,e2,e3,ob⟩:=h3.obR (K:=X.K) (B:=B)
   obtain⟨u,hu,mu⟩:=ob.mut;obtain⟨o,I1⟩:=I.frz hu mu;have nb:¬B a:=fun z=>by obtain⟨o',w⟩:=hB a z;rw[e3]at w;contradiction
   have ex:Ext B H (upd H a (.frz o u)):=bB hu mu nb;obtain⟨H',I',e',k',l',r'⟩:=BK hB r g' _ I1 (GM.frz1 hu mu nb h4) (by rw[ai (Zz e2)];exact hl)
   refine⟨H',I',ex.trans e',fun c o' o2 q1 q2=>k' c o' o2 q1 (by rw[ai (av q1 e3)];exact q2),l',Reps.cons ?_ r'⟩
   dsimp only;rw[e1];exact(ob.frozen hu nb fun y z=>z).ext e'
noncomputable def vE (δ:DEnv):Bool:=δ.all fun o=>match o with|some (_,true)=>false|_=>true
theorem r9 {δ:DEnv}(h:vE δ=true):aV δ:=fun i d e=>by
 have:=(ZH.mp h) _ (ZQ e);simp at this
theorem dk {δ:DEnv}{i:Nat}(h:aV δ):aV (δ.set i none):=fun j e q=>by
 by_cases hj:i=j
 ·subst hj
  rw[List.getElem?_set]at q
  split at q
  ·split at q<;>cases q
  ·exact h i e q
 ·rw[Zl hj]at q
  exact h j e q
theorem Rel.updX {K:PySem.W.Frag}{B:Addr->Prop}{Hk H:Hp}{δ:DEnv}{σ:St}{l:Addr}{u o:HO}(R:Rel K B Hk δ σ H) (no:aV δ) (hk:Hk l=none) (hl:H l=some u) (mu:Mut (some u)):Ext B H (upd H l o)/\Rel K B Hk δ σ (upd H l o):=by
 have nb:¬B l:=fun z=>by obtain⟨o,q⟩:=R.bor l z;rw[hk]at q;contradiction
 have ex:Ext B H (upd H l o):=bB hl mu nb;refine⟨ex,R.same.put hk,R.bor,R.len,fun j e q=>?_,fun j e q=>(no j e q).elim,R.dis⟩
 obtain⟨v,q1,q2⟩:=R.var j e q;exact⟨v,q1,q2.ext ex⟩
noncomputable def bT (ib ik ir:Nat) (fk fe:DEnv->Option D):List D->DEnv->List (D×List D)->Option (List (D×List D))
 |[],_,g=>some g
 |d::ds,δ,g=>match fk (δ.set ib (some (d,false)))with
  |some k=>(match fe (((δ.set ib (some (d,false))).set ik (some (k,false))).set ir none)with
   |some e=>if(bf 8 k&&la k&&(bf 8 e&&la e))=true then bT ib ik ir fk fe ds (((δ.set ib (some (d,false))).set ik (some (k,false))).set ir none) (aW g k e) else none
   |none=>none)
  |none=>none
noncomputable def Ar (ig ib ik ir:Nat) (fi:DEnv->Option (List D)) (fk fe:DEnv->Option D) (δ:DEnv):Option Out:=
 if vE δ=true/\ig<δ.length/\ib<δ.length/\ik<δ.length/\ir<δ.length then
  (match fi (δ.set ig none)with
  |some ds=>if ds.length<lim then(match bT ib ik ir fk fe ds (δ.set ig none) []with|some g=>some (.ret (mn g) true)|none=>none) else none
  |none=>none) else none
set_option tactic.hygienic true in
theorem qW {ig ib ik ir:Nat}{fi:DEnv->Option (List D)}{fk fe:DEnv->Option D}{δ:DEnv}{o:Out}(h:Ar ig ib ik ir fi fk fe δ=some o):aV δ/\(ig<δ.length/\ib<δ.length/\ik<δ.length/\ir<δ.length)/\∃ds g,fi (δ.set ig none)=some ds/\ds.length<lim/\bT ib ik ir fk fe ds (δ.set ig none) []=some g/\o=.ret (mn g) true:=by
 unfold Ar at h;split at h
 ·rename_i c
  split at h
  ·rename_i ds q1
   split at h
   ·rename_i hl
    split at h
    ·rename_i g q2
     cases h;exact⟨r9 c.1,c.2,ds,g,q1,hl,q2,rfl⟩
    ·contradiction
   ·contradiction
  ·contradiction
 ·contradiction
theorem eW:∀{g:List (D×List D)}{k e:D},¬k∈g.map (·.1)->aW (g++[(k,[])]) k e=aW g k e
 |[],k,e,_=>by simp[aW]
 |p::r,k,e,h=>by
  simp only[Zf,ZA,not_or]at h;show aW (p::(r++[(k,[])])) k e=_;unfold aW;rw[Zo (fun z=>h.1 z.symm),Zo (fun z=>h.1 z.symm),eW h.2]
theorem uj {kvs:List (D×V)}{k:D}{v:V}(h:dh kvs k=none):dh (kvs++[(k,v)]) k=some v:=by
 induction kvs with
 |nil=>exact bQ rfl
 |cons p r ih=>
  by_cases c:p.1=k
  ·rw[bQ c]at h;contradiction
  ·rw[bO c]at h
   rw[List.cons_append,bO c];exact ih h
structure GInv (K:PySem.W.Frag) (B:Addr->Prop) (Hk:Hp) (ig l n:Nat) (δ:DEnv) (σ:St) (H:Hp) (g:List (D×List D)):Prop where
 rel:Rel K B Hk δ σ H
 no:aV δ
 at':σ[ig]?=some (some (.ref l))
 new:Hk l=none
 dict:∃kvs ep,H l=some (.dD kvs ep)/\GL Hk H l kvs g/\(kvs.map (·.2)).Nodup
 len:g.length<=n
 lens:∀q∈g,q.2.length<=n
section
variable{X:Cx}{ig ib ik ir:Nat}{xg xb xk xr:Str}{iter ke ve:Expr}{fi:DEnv->Option (List D)}{fk fe:DEnv->Option D}{p1 p2 p3 p4 p5 p6 p7 p8 p9 p10 p11 p12 p13 p14 p15 p16 p17 p18 ap cp:Pos}{kk:Nat}
noncomputable def tGR (K:PySem.W.Frag) (ig:Nat):TS:=fun Dn σ H=>∃B Hk l kvs ep g,(∀a,B a->∃o:HOn,Hk a=some o.1)/\σ[ig]?=some (some (.ref l))/\H l=some (.dD kvs ep)/\GL Hk H l kvs g/\
 ∀H',Ext B H H'->(∀c o o',Hk c=some o'->H c=some o->H' c=some o)->ObR K B H' (mn g) l->Dn.rt (.ref l) H'
theorem xN (ng:Nm X ig xg):PS X (.Return (some (.Name xg p17)) p18) (tGR X.K ig):=by
 intro pins s σ H Dn I hz9;obtain⟨B,Hk,l,kvs,ep,g,hB,hσ,hl,gl,k⟩:=hz9;obtain⟨H',I',e',k',l',r'⟩:=BK hB kvs g H I gl.m hl;exact mB (be ng.at' ng.vis ng.d1 ng.d2) pins s σ H' Dn I' ⟨.ref l,hσ,k H' e' k' ⟨kvs,⟨ep,l'⟩,gl.keys,r'⟩⟩
theorem uF {K:PySem.W.Frag}{B:Addr->Prop}{Hk:Hp}{l n:Nat}{δ:DEnv}{σ:St}{H H3 H4:Hp}{g:List (D×List D)}{d k e:D}{v vk:V}{N:St->Hp->Prop}{Dn:Ends}
  (hlt:ig<σ.length/\ib<σ.length/\ik<σ.length/\ir<σ.length) (h1:ig≠ib) (h2:ig≠ik) (h3:ig≠ir) (h5:ik≠ir) (hn:n<lim)
  (G:GInv K B Hk ig l n δ σ H g) (sy:Same H H3) (rv:Rep K B H3 d v) (qk:fk (δ.set ib (some (d,false)))=some k) (s4:Same H3 H4) (rk:Rep K B H4 k vk)
  (qe:fe (((δ.set ib (some (d,false))).set ik (some (k,false))).set ir none)=some e) (hk8:(bf 8 k&&la k&&(bf 8 e&&la e))=true)
  (fin:∀σ' H',Ext B H H'->GInv K B Hk ig l (n+1) (((δ.set ib (some (d,false))).set ik (some (k,false))).set ir none) σ' H' (aW g k e)->N σ' H'):
  Bx (xi (CJ rSetdef (sd ig) (nH (sd ik) (nH tDNewD tNil))) (fG ir)) (sPA (sd ir) (tM K false fe) (tC (.bl true))) {Dn with nx:=N} ((σ.set ib (some v)).set ik (some vk)) H4:=by
 simp only[Zu]at hk8;obtain⟨⟨k8,kt⟩,e8,et⟩:=hk8;obtain⟨lg,lb,lk,lr⟩:=hlt;have R3:=(G.rel.to sy).set (i:=ib) lb rv;have R4:=(R3.to s4).set (i:=ik) (by rw[ZJ];exact lk) rk
 have no4:aV ((δ.set ib (some (d,false))).set ik (some (k,false))):=eA (eA G.no);obtain⟨kvs,ep,hl,gl,nd⟩:=G.dict;have s04:=sy.trans s4;have hl4:H4 l=some (.dD kvs ep):=s04 l _ hl;have gl4:GL Hk H4 l kvs g:=gl.to fun p hp a ks ep2 e1 e2=>s04 a _ e2
 obtain⟨b,rfl⟩:=cB kt rk;have kr:KR H4 k (.ref b):=rk.key k8;have σg:((σ.set ib (some v)).set ik (some (.ref b)))[ig]?=some (some (.ref l)):=by
  rw[Zl (Zz h2),Zl (Zz h1)];exact G.at'
 have σk:((σ.set ib (some v)).set ik (some (.ref b)))[ik]?=some (some (.ref b)):=Zs (by rw[ZJ];exact lk)
 refine⟨.ref l,σg,⟨l,rfl,.inr ⟨kvs,ep,.inl hl4⟩⟩,.ref b,σk,fun c hc=>?_⟩
 have cl:c≠l:=fun z=>by subst z;rw[hl4]at hc;contradiction
 have sc:=am (o:=.dD [] 0) hc;have hlc:upd H4 c (.dD [] 0) l=some (.dD kvs ep):=sc l _ hl4;have glc:GL Hk (upd H4 c (.dD [] 0)) l kvs g:=gl4.to fun p hp a ks ep2 e1 e2=>sc a _ e2
 have krc:KR (upd H4 c (.dD [] 0)) k (.ref b):=(rk.ext (R4.ext sc)).key k8;have Rc:=R4.to sc;have xc:Ext B H (upd H4 c (.dD [] 0)):=G.rel.ext (s04.trans sc);have rest:∀(H5:Hp) (a:Addr) (kvs1:List (D×V)) (ep1:Nat) (g1:List (D×List D)),Ext B H H5->Rel K B Hk ((δ.set ib (some (d,false))).set ik (some (k,false))) ((σ.set ib (some v)).set ik (some (.ref b))) H5->H5 l=some (.dD kvs1 ep1)->GL Hk H5 l kvs1 g1->(kvs1.map (·.2)).Nodup->
   dh kvs1 k=some (.ref a)->aW g1 k e=aW g k e->(∀q∈g1,q.2.length<=n)->
   sPA (sd ir) (tM K false fe) (tC (.bl true)) {Dn with nx:=N} (((σ.set ib (some v)).set ik (some (.ref b))).set ir (some (.ref a))) H5:=by
  intro H5 a kvs1 ep1 g1 x5 R5 hl5 gl5 nd5 hv5 eg5 le5;have R6:=R5.unset (i:=ir) (v:=.ref a) (by rw[ZJ,ZJ];exact lr)
  refine⟨.ref a,Zs (by rw[ZJ,ZJ];exact lr),B,Hk,_,e,R6,qe,fun y H6 s6 ry=>?_⟩
  obtain⟨b2,rfl⟩:=cB et ry;obtain⟨p,hp,e1,e2⟩:=hU hv5;obtain⟨es,⟨a',ks,ep2,f1,f2,f3,f4,f5,f6⟩,q,hq,hqe⟩:=gl5.mem hp;rw[e1]at f1;cases f1;have f4':H6 a=some (.dD ks ep2):=s6 a _ f4;have hks:ks.length<=n:=by
   have:=le5 q hq;rw[hqe,<-f5,Zn]at this;exact this
  refine⟨a,rfl,.inr ⟨ks,ep2,e,b2,f4',rfl,e8,ry.key e8,?_,fun ep'=>?_⟩⟩
  ·exact Zr (Yy hks hn) (aD (Zk _))
  ·have R7:=R6.to s6
   have gl6:GL Hk H6 l kvs1 g1:=gl5.to fun p hp a ks ep2 e1 e2=>s6 a _ e2
   obtain⟨x8,R8⟩:=R7.updX (o:=.dD (cL ks e (.bl true)) ep') (dk no4) f3 f4' trivial;refine fin _ _ ((x5.trans (R5.ext s6)).trans x8) ⟨R8,dk no4,?_,G.new,⟨kvs1,ep1,?_,?_,nd5⟩,?_,?_⟩
   ·rw[Zl (Zz h3)];exact σg
   ·rw[ai (Zz f2)];exact s6 l _ hl5
   ·rw[<-eg5];exact gl6.add nd5 hv5 f4' ep'
   ·have:=fL g k e;have:=G.len;lia
   ·rw[<-eg5];exact GL.lens (Hk:=Hk) (H:=H) (l:=l) le5
 cases hv:dh kvs k with
 |some w=>
  obtain⟨p,hp,e1,e2⟩:=hU hv;obtain⟨es,⟨a,ks,ep2,f1,f2,f3,f4,f5,f6⟩,q,hq,hqe⟩:=glc.mem hp;have ew:w=.ref a:=by rw[<-e1,f1]
  subst ew;refine⟨l,.ref b,.ref c,.ref a,rfl,rfl,.inl ⟨.inr ⟨kvs,ep,k,b,.inl hlc,rfl,k8,krc,hv.symm⟩,?_,.inr ⟨kvs,ep,hlc⟩⟩⟩
  exact rest _ a kvs ep g xc Rc hlc glc nd hv rfl G.lens
 |none=>
  refine⟨l,.ref b,.ref c,.ref c,rfl,rfl,.inr ⟨.inr ⟨kvs,ep,k,b,.inl hlc,rfl,k8,krc,hv.symm⟩,rfl,.inr ⟨kvs,ep,k,b,hlc,rfl,k8,krc,?_,fun ep'=>?_⟩⟩⟩
  ·rw[gl.length];exact Zr (Yy G.len hn) (aD (Zk _))
  ·have hkc:Hk c=none:=G.rel.same.free ((s04.free hc))
   obtain⟨x5,R5⟩:=Rc.updX (o:=.dD (cL kvs k (.ref c)) ep') no4 G.new hlc trivial;have ek:¬k∈g.map (·.1):=by rw[<-gl.keys];exact sA hv
   refine rest _ c (cL kvs k (.ref c)) ep' (g++[(k,[])]) (xc.trans x5) R5 af ?_ ?_ ?_ (eW ek) ?_
   ·rw[io _ hv]
    refine GL.snoc (glc.to fun p hp a ks ep2 e1 e2=>?_) ⟨c,[],0,rfl,cl,hkc,?_,rfl,fun x hx=>by cases hx⟩
    ·have:a≠l:=fun z=>by
      obtain⟨es,⟨a2,ks2,ep3,z1,z2,_⟩,_⟩:=glc.mem hp;rw[e1]at z1;cases z1;exact z2 z
     rw[ai this];exact e2
    ·rw[ai cl];exact af
   ·rw[io _ hv,Z4]
    refine List.nodup_append.mpr ⟨nd,by simp,fun x hx y hy z=>?_⟩
    obtain rfl:y=.ref c:=by simpa using hy
    subst z;obtain⟨p,hp,e1⟩:=List.mem_map.mp hx;obtain⟨es,⟨a2,ks2,ep3,z1,z2,z3,z4,_⟩,_⟩:=gl4.mem hp;rw[e1]at z1;cases z1;rw[hc]at z4;contradiction
   ·rw[io _ hv];exact uj hv
   ·intro q hq
    rcases List.mem_append.mp hq with hq|hq
    ·exact G.lens q hq
    ·rw[List.mem_singleton.mp hq];exact ZK _
set_option tactic.hygienic true in
theorem qD (hp:PassesOwn (model X.prog X.w) X.A X.env X.xe) (hc:X.calm=true) (hu:X.A.units+64<cLine) (hN:X.N.Nodup) (ng:Nm X ig xg) (lg:Lc X ig xg) (lb:Lc X ib xb) (nk:Nm X ik xk) (lk:Lc X ik xk) (nr:Nm X ir xr) (lr:Lc X ir xr)
  (h1:ig≠ib) (h2:ig≠ik) (h3:ig≠ir) (h5:ik≠ir) (hi:DI X false (.Name xb p4) iter fi) (hk:DE X false ke fk) (he:DE X false ve fe)
  (hs:∀x,foldedSetIterable iter X.env x=pure x)
  (hsw1:swapsWith (.Dict [] [] p2) (some (.Name xg p1)) p3.line X.env=pure false)
  (hsw2:swapsWith ke (some (.Name xk p5)) p6.line X.env=pure false)
  (hsw3:swapsWith (.Call (.Attribute (.Name xg p8) "setdefault" ap) [.Name xk p9,.Dict [] [] p10] [] cp) (some (.Name xr p7)) p11.line X.env=pure false)
  (hsw4:swapsWith (.Constant (.bool true) kk p14) (some (.Subscript (.Name xr p12) ve p13)) p15.line X.env=pure false)
  (base:attributeBase (.Name xg p8) "setdefault" X.env (eval (.Name xg p8) X.env)=eval (.Name xg p8) X.env)
  (few:((backTo cp (starEach [.Name xk p9,.Dict [] [] p10] X.env)).all (fun x=>!x.1)&&(backToKw cp (keywordEach [] X.env)).all (fun x=>x.1.isSome)&&decide (([Expr.Name xk p9,.Dict [] [] p10]).length+([]:List Keyword).length+(if([]:List Keyword).isEmpty then 0 else 1)<30))=true)
  (line:(ap.endLine==cp.line)=true) (stars:starEach [.Name xk p9,.Dict [] [] p10] X.env=(false,eval (.Name xk p9) X.env)::starEach [.Dict [] [] p10] X.env) (stars2:starEach [.Dict [] [] p10] X.env=[(false,eval (.Dict [] [] p10) X.env)]) (plain:(backTo cp (starEach [.Dict [] [] p10] X.env)).any (·.1)=false):
  DSs X (.Assign [.Name xg p1] (.Dict [] [] p2) p3::
   .For (.Name xb p4) iter (.Assign [.Name xk p5] ke p6::
    .Assign [.Name xr p7] (.Call (.Attribute (.Name xg p8) "setdefault" ap) [.Name xk p9,.Dict [] [] p10] [] cp) p11::
    .Assign [.Subscript (.Name xr p12) ve p13] (.Constant (.bool true) kk p14) p15::[]) [] p16::
   .Return (some (.Name xg p17)) p18::[]) (Ar ig ib ik ir fi fk fe):=by
 intro pins s σ H Dn I hq;obtain⟨B,Hk,δ,o,R,e,kk'⟩:=hq;obtain⟨no,⟨q1,q2,q3,q4⟩,ds,g,hds,hl,hg,rfl⟩:=qW e;have hσ:=R.len;refine bu (gm hN lg.at' lg.loc gB hsw1 lg.fnl)
  (bu (vg hp hc hi (lD hN lb.at' lb.loc lb.fnl)
   (bu (gm hN lk.at' lk.loc hk hsw2 lk.fnl)
    (bu (gm hN lr.at' lr.loc (qK PySem.F.slot_dict_setdefault PySem.F.type_dict_setdefault (i0 hu) (be ng.at' ng.vis ng.d1 ng.d2) (ar (be nk.at' nk.vis nk.d1 nk.d2) (ar gB aH stars2) stars) base few line stars plain) hsw3 lr.fnl)
     (lC (lJ hu (be nr.at' nr.vis nr.d1 nr.d2) he zA hsw4)))) hs)
   (lC (xN ng))) pins s σ H Dn I ?_
 intro p hp0;have s1:=am (o:=.dD [] 0) hp0;have R1:=(R.to s1).unset (i:=ig) (v:=.ref p) (by lia)
 have hkp:Hk p=none:=R.same.free hp0;refine⟨B,Hk,_,ds,R1,hds,fun J H2 s2 it=>?_⟩
 have it':ItD X.K B H2 J ds:=it;refine⟨fun i n σ' H'=>n=ds.length - i/\i<=ds.length/\Ext B H2 H'/\∃δ' g',GInv X.K B Hk ig p i δ' σ' H' g'/\σ'.length=σ.length/\bT ib ik ir fk fe (ds.drop i) δ' g'=some g,
  ⟨ds.length,by simp,ZK _,Ext.refl,_,[],⟨R1.to s2,dk no,Zs (by lia),hkp,⟨[],0,s2 p _ af,rfl,Yg⟩,ZK _,fun q hq=>by cases hq⟩,by rw[ZJ],by simpa using hg⟩,?_⟩
 rintro i n σ' H' hz9
 obtain⟨rfl,hi',x,δ',g',G,hlen,e'⟩:=hz9;obtain⟨hst,hgo⟩:=it' H' x
 by_cases hlt:i<ds.length
 ·obtain⟨go,yl⟩:=hgo i ds[i] (by simp[hlt])
  refine .inr ⟨go,fun σ2 H3=>Ext B H2 H3/\∃δ' g',GInv X.K B Hk ig p (i+1) δ' σ2 H3 g'/\σ2.length=σ.length/\bT ib ik ir fk fe (ds.drop (i+1)) δ' g'=some g,fun σ2 H3 z=>⟨_,by lia,rfl,hlt,z⟩,fun v H3 hy=>?_⟩
  obtain⟨sy,rv⟩:=yl v H3 hy;rw[ZV hlt]at e';simp only[bT]at e';split at e'
  ·rename_i k qk
   split at e'
   ·rename_i e2 qe
    split at e'
    ·rename_i h8
     refine⟨B,Hk,_,k,(G.rel.to sy).set (i:=ib) (by lia) rv,qk,fun vk H4 s4 rk=>?_⟩
     refine uF (Dn:=Dn) ⟨by lia,by lia,by lia,by lia⟩ h1 h2 h3 h5 (by lia) G sy rv qk s4 rk qe h8 fun σ2 H5 x5 G5=>⟨x.trans x5,_,_,G5,?_,e'⟩
     have r1:=G5.rel.len;have r2:=G.rel.len;simp only[ZJ]at r1
     lia
    ·contradiction
   ·contradiction
  ·contradiction
 ·have hi2:i=ds.length:=by lia
  subst hi2;rw[List.drop_length]at e';simp only[bT]at e';cases e';obtain⟨kvs,ep,hl1,gl,nd⟩:=G.dict;refine .inl ⟨hst,B,Hk,p,kvs,ep,g,R.bor,G.at',hl1,gl,fun H' x' k' ob=>?_⟩
  have same:Same Hk H':=G.rel.same.keep k';exact kk' (.ref p) H' (((R.ext s1).trans (R1.ext s2)).trans (x.trans x')) same (by unfold kP;rw[Zm rfl];exact .inl ⟨p,rfl,hkp,ob⟩)
end
section
variable{X:Cx}{a:Expr}{fa f1 f2:DEnv->Option D}{p pos:Pos}
theorem jf:cO X (.builtin "sorted") (fun xs H Q=>∃l ys,xs=[V.ref l]/\SqL X.K H l ys/\ys.length<=1/\∀p,H p=none->Q (.ref p) (upd H p (.lst ys))):=by
 intro pins s σ H xs us Q I r h;obtain⟨l,ys,rfl,hq,h1,q⟩:=h;obtain⟨u,rfl,rx⟩:=dP r;cases rx;obtain⟨vs,rv,pl,_⟩:=I.list hq;have hv:vs.length<=1:=by rw[<-rv.length];exact h1
 have hz:(1:Nat)<=sizeLine:=by rw[Z7];lia
 have hl:s.heap.IsList l vs.toArray:=(by obtain⟨o,n,ho,hc,_,hd⟩:=pl;exact⟨o,ho,hc,n,hd⟩)
 refine Calls.call_function_entry kind_sorted plain_sorted entry_sorted (args_sorted1 _) ?_
 unfold Builtin.«sorted»;refine Za (m:=checkCount "sorted" 1 1 _) (Zd (Za (collect_list hl ?_ (by lia))))
 refine Za (wpAny_newList ?_ (by lia))
 obtain⟨n1,n2,n3,n4⟩:=iN s.heap vs;rw[n1];show wpAny _ _ _ _ _ {s with heap:=c7 s.heap vs}
 generalize c7 s.heap vs=g at n2 n3 n4⊢;have hDs:s.heap.objs.size<=s.heap.objs.size+1:=YK _;have hfr:H (s.heap.objs.size+1)=none:=I.hok.fresh hDs;generalize hD:s.heap.objs.size+1=D at n3 hDs hfr⊢;refine Za (ZN (ZP slot_list_sort ⟨_,n3,rfl⟩ entry_list_sort ?_ (args_list_sort _)))
 rw[list_sort_plain];have s1:=ZI g D (Obj.mapSeq fun y=>(#[]:Array Value))
 obtain⟨e1,o1⟩:∃e1,(g.update D (Obj.mapSeq fun y=>(#[]:Array Value))).get? D=some (seqObj "list" #[] e1):=⟨_,YM n3 fun y=>#[]⟩
 refine Za (listItems_at n3 rfl (Za (YQ n3 rfl ?_ (by rw[Zh];lia) (ZK _))))
 refine Za (seqEpoch_at o1 rfl ?_)
 refine Za (wpAny_newTuple ?_ (by show vs.length<=_;lia))
 refine Za (wpAny_newList ?_ (ZK _))
 refine ZN ?_
 have keep2:∀b o,s.heap.get? b=some o->(((g.update D (Obj.mapSeq fun y=>(#[]:Array Value))).push (seqObj "tuple" vs.toArray 0)).push (seqObj "list" #[] 0)).get? b=some o:=fun b o e=>
  Zc _ (Zc _ ((s1.2 b (Zy (Zr (Zi e) hDs))).trans (n4 b o e)))
 have gD:(((g.update D (Obj.mapSeq fun y=>(#[]:Array Value))).push (seqObj "tuple" vs.toArray 0)).push (seqObj "list" #[] 0)).get? D=some (seqObj "list" #[] e1):=Zc _ (Zc _ o1)
 show wpAny _ _ _ _ _ {s with heap:=((g.update D (Obj.mapSeq fun y=>(#[]:Array Value))).push (seqObj "tuple" vs.toArray 0)).push (seqObj "list" #[] 0)}
 generalize ((g.update D (Obj.mapSeq fun y=>(#[]:Array Value))).push (seqObj "tuple" vs.toArray 0)).push (seqObj "list" #[] 0)=g2 at keep2 gD⊢
 have h2:vs.toArray.size<2:=by rw[Zh];lia
 dsimp only;rw[Zm h2,Zm h2];refine Za (Zd ?_)
 rw[StateT.run_pure];refine Za (Zd ?_)
 dsimp only;refine Za (seqEpoch_at gD rfl ?_)
 have es:(arrOf (SortSt.mk' general' (vs.toArray.zip vs.toArray) #[] 7 none)).map (·.2)=vs.toArray:=rH _ _ rfl
 rw[es];refine Za (YQ gD rfl ?_ (ZK _) (by rw[Zh];lia))
 simp only[bne_self_eq_false,Zx,ZY];have s3:=ZI g2 D (Obj.mapSeq fun y=>vs.toArray)
 refine Zd ⟨_,rfl,Zd ⟨_,rfl,.ref D,_,I.laid (a:=D) (o:=.lst ys) (h':=g2.update D (Obj.mapSeq fun y=>vs.toArray)) (t':=s.toks) (fun b o e=>(s3.2 b (Zy (Zr (Zi e) hDs))).trans (keep2 b o e)) hDs ?_,rfl,q _ hfr⟩⟩
 exact⟨by lia,vs,_,rv,YM gD fun y=>vs.toArray⟩
noncomputable def fg (x:Option D):Option D:=match x with
 |some (.lst ds)=>if ds.length<=1 then some (.lst ds) else none
 |_=>none
set_option tactic.hygienic true in
theorem ox (g:Gl X "sorted") (hm:X.mg "sorted"=none) (ha:DE X false a fa) (hs:starEach [a] X.env=[(false,eval a X.env)]:=by rfl):DF X (.Call (.Name "sorted" p) [a] [] pos) (fun δ=>fg (fa δ)):=
 (bM jf g hm c6 (ar ha aH hs) (he:=hs)).imp fun σ H Q hz=>by
  obtain⟨B,Hk,δ,d,R,e,k⟩:=hz;unfold fg at e;split at e
  ·rename_i ds qd
   split at e
   ·rename_i hl
    obtain rfl:=Zb e;refine kN R qd fun v H' s R' r=>?_
    simp only[Rep]at r;obtain⟨l,xs,rfl,hq,rs⟩:=r;refine⟨l,xs,rfl,hq.sq,by rw[<-rs.length];exact hl,fun p hp=>?_⟩
    have s2:=am (o:=.lst xs) hp;exact k p _ (s.trans s2) (s.free hp) ⟨_,af,rs.same (m:=false) R' s2⟩
   ·contradiction
  ·contradiction
theorem BB (h1:DF X a f1) (h2:DF X a f2):DF X a (fun δ=>match f1 δ with|some d=>some d|none=>f2 δ):=by
 intro pins s σ H Q I hq;obtain⟨B,Hk,δ,d,R,e,k⟩:=hq;cases q:f1 δ with
 |some d'=>
  simp only[q]at e;obtain rfl:=Zb e;exact h1 pins s σ H Q I ⟨B,Hk,δ,_,R,q,k⟩
 |none=>
  simp only[q]at e;exact h2 pins s σ H Q I ⟨B,Hk,δ,_,R,e,k⟩
end
noncomputable abbrev IsZ (h:Heap) (z P O:Addr) (f:Value) (b:Bool):Prop:=
 h.get? z=some {cls:=.type "zip",dict:=none,data:=.fields #[f,.bool b,.bool false,.ref P,.ref O],slots:=#[]}
structure Zq (t u:Bool) (h:Heap) (z P O c d p q:Addr) (n:Nat) (T:Addr) (b:Bool):Prop where
 zz:IsZ h z P O (rawInt T) b
 al:∃o,h.get? T=some o
 pp:IsPair h P (.ref c) (.ref d)
 oo:∃a b,IsPair h O a b
 cc:ItAt t h c p n
 dd:ItAt u h d q n
section
variable{prog:Program}{w:World}{A:Around}{E:Value->Shared->Prop}{s:Shared}
theorem dv {M:Model}{A:Around}{E:Value->Shared->Prop}{s:Shared}{a:Addr}{Q:Option Obj->Shared->Prop}(h:Q (s.heap.get? a) s):wpAny M A (loadIfAlive a) Q E s:=fun Γ p _=>by
 unfold loadIfAlive;rw[Sem.wp_loadIfAlive];exact(Sem.wp_pure ..).mpr h
theorem tW {bo:Bool}{z P O T:Addr}{oT:Obj}{Q:Bool->Shared->Prop}(zz:IsZ s.heap z P O (rawInt T) bo) (al:s.heap.get? T=some oT) (h:∀k₁,IsZ k₁ z P O (rawInt T) true->Heap.SameBut z s.heap k₁->Q false {s with heap:=k₁}):
  wpAny (model prog w) A (Builtin.SmallTypes.ownedTupleIsFree (.ref z)) Q E s:=by
 unfold Builtin.SmallTypes.ownedTupleIsFree;have hal:s.heap.get? (Int.toNat (T:Int))=some oT:=by rw[Int.toNat_natCast];exact al
 refine Za (Yq zz rfl (x:=rawInt T) rfl ?_)
 unfold rawInt;dsimp only;refine Za (dv ?_)
 rw[hal];simp only[Option.isNone_some,Zx,ZY];refine Za (Yq zz rfl (x:=.bool bo) rfl ?_)
 cases bo with
 |true=>
  rw[Zo (by decide)]
  exact Zd (h _ zz ⟨rfl,fun y y=>rfl⟩)
 |false=>
  rw[Zm (by decide)]
  exact Za (Yx zz (by simp) fun k₁ g₁ m₁=>Zd (h k₁ g₁ m₁))
theorem rR {t u bo:Bool}{z P O c d p q T:Addr}{n:Nat}{xs ys:Array Value}{Q:Value->Shared->Prop}(hh:A.handled=none) (ap:Ap z P O c d p q) (hT:T∉[z,P,O,c,d]) (Z:Zq t u s.heap z P O c d p q n T bo)
  (hp:SqAt t s.heap p xs) (hq:SqAt u s.heap q ys)
  (item:∀x y,xs[n]?=some x->ys[n]?=some y->∀h',Zq t u h' z P O c d p q (n+1) T true->IsPair h' s.heap.objs.size x y->h'.objs.size=s.heap.objs.size+1->
   (∀b o,b∉[z,P,O,c,d]->s.heap.get? b=some o->h'.get? b=some o)->Q (.ref s.heap.objs.size) {s with heap:=h'})
  (stop:(xs[n]?=none\/ys[n]?=none)->∀h' e,(∀b o,b∉[z,P,O,c,d]->s.heap.get? b=some o->h'.get? b=some o)->(∃o,h'.get? e=some o/\o.cls=.type "StopIteration")->E (.ref e) {s with heap:=h'}):
  wpAny (model prog w) A (Builtin.«zip.__next__» ⟨[.ref z],[]⟩) (fun r s'=>∃v,r=.done (.ret v)/\Q v s') E s:=by
 obtain⟨zz,⟨oT,al⟩,pp,⟨a,b,oo⟩,cc,dd⟩:=Z;have nd:=ap.nd;have np:=ap.p;have nq:=ap.q;simp only[YB,ZA,ZB,Z5,not_or,Yg,and_true,not_false_eq_true]at nd np nq hT;obtain⟨⟨zP,zO,zc,zd⟩,⟨PO,Pc,Pd⟩,⟨Oc,Od⟩,cd⟩:=nd;obtain⟨pz,pP,pO,pc,pd⟩:=np;obtain⟨qz,qP,qO,qc,qd⟩:=nq;obtain⟨Tz,TP,TO,Tc,Td⟩:=hT;change wpAny _ _ (field (.ref z) 2 >>= _) _ E s;refine Za (Yq zz rfl (x:=.bool false) rfl ?_)
 change wpAny _ _ (field (.ref z) 3 >>= _) _ E s;refine Za (Yq zz rfl (x:=.ref P) rfl (Za (Yf pp rfl ?_)))
 change wpAny _ _ (Builtin.SmallTypes.ownedTupleIsFree (.ref z) >>= _) _ E s;refine Za (tW zz al fun k₁ z₁ m₁=>?_)
 simp only[Zx,ZY];rw[<-Array.forIn_toList];simp only[List.forIn_cons,List.forIn_nil];refine Za (Za (Za (ZN ?_)))
 change wpAny _ _ (Builtin.SmallTypes.nextOf (.ref c) >>= _) _ _ _;refine Za (AM (t:=t) hh (cc.to fun o e=>ah m₁ (Zz zc) e) (hp.to fun o e=>ah m₁ pz e) (fun x hx k₂ c₂ m₂=>Zd ?_) fun hx k₂ e m₂ he=>?_)
 ·dsimp only
  refine Zd ?_
  dsimp only;refine Za (Za (ZN ?_))
  change wpAny _ _ (Builtin.SmallTypes.nextOf (.ref d) >>= _) _ _ _;refine Za (AM (t:=u) hh (dd.to fun o e=>ah m₂ (Zz cd) (ah m₁ (Zz zd) e)) (hq.to fun o e=>ah m₂ qc (ah m₁ qz e)) (fun y hy k₄ d₄ m₄=>Zd ?_) fun hy k₄ e m₄ he=>?_)
  ·dsimp only
   refine Zd (Zd ?_)
   dsimp only;refine Za (wpAny_newTuple (Zd ⟨_,rfl,?_⟩) (by show 2<=sizeLine;rw[Z7];lia))
   have sz:k₄.objs.size=s.heap.objs.size:=by rw[m₄.1,m₂.1,m₁.1]
   have old:∀f o,f≠z->f≠c->f≠d->s.heap.get? f=some o->k₄.get? f=some o:=fun f o n1 n3 n4 e=>ah m₄ n4 (ah m₂ n3 (ah m₁ n1 e))
   have z₄:IsZ k₄ z P O (rawInt T) true:=ah m₄ zd (ah m₂ zc z₁);have up:∀f o,k₄.get? f=some o->(k₄.push {cls:=.type "tuple",data:=.seq #[x,y]}).get? f=some o:=fun f o e=>Zc _ e
   have new:IsPair (k₄.push {cls:=.type "tuple",data:=.seq #[x,y]}) k₄.objs.size x y:=Zj _ rfl
   have sz8:(k₄.push {cls:=.type "tuple",data:=.seq #[x,y]}).objs.size=k₄.objs.size+1:=Z1 ..;show Q (.ref k₄.objs.size) _;rw[sz]at new sz8⊢;refine item x y hx hy _ ⟨up _ _ z₄,⟨oT,up _ _ (old _ _ Tz Tc Td al)⟩,up _ _ (old _ _ (Zz zP) Pc Pd pp),⟨a,b,up _ _ (old _ _ (Zz zO) Oc Od oo)⟩,?_,?_⟩ new sz8 fun f o hf e=>?_
   ·exact c₂.to fun o e=>up _ o (ah m₄ cd e)
   ·exact d₄.to fun o e=>up _ o e
   ·simp only[ZA,ZB,Z5,not_or]at hf
    exact up f o (old f o hf.1 hf.2.2.2.1 hf.2.2.2.2 e)
  ·refine stop (.inr hy) k₄ e (fun f o hf g=>?_) he
   simp only[ZA,ZB,Z5,not_or]at hf;obtain⟨n1,_,n2,n3,n4⟩:=hf;exact m₄ _ _ n4 (ah m₂ n3 (ah m₁ n1 g))
 ·refine stop (.inl hx) k₂ e (fun f o hf g=>?_) he
  simp only[ZA,ZB,Z5,not_or]at hf;exact m₂ _ _ hf.2.2.2.1 (ah m₁ hf.1 g)
noncomputable def ZS (t u:Bool) (h:Heap) (z P O c d p q:Addr) (n:Nat):Prop:=Zp t u h z P O c d p q n .none\/∃T b,T∉[z,P,O,c,d]/\Zq t u h z P O c d p q n T b
theorem ZS.to {t u:Bool}{h h':Heap}{z P O c d p q:Addr}{n:Nat}{S:Addr}(Z:ZS t u h z P O c d p q n) (k:∀b o,b≠S->h.get? b=some o->h'.get? b=some o) (hS:S∉[z,P,O,c,d]) (he:∃o,h'.get? S=some o):ZS t u h' z P O c d p q n:=by
 have ne:∀b∈[z,P,O,c,d],b≠S:=fun b hb e=>hS (by rw[<-e];exact hb)
 rcases Z with⟨zz,pp,⟨a,b,oo⟩,cc,dd⟩|⟨T,bo,nT,⟨zz,⟨o,al⟩,pp,⟨a,b,oo⟩,cc,dd⟩⟩
 ·exact .inl ⟨k _ _ (ne z (by simp)) zz,k _ _ (ne P (by simp)) pp,⟨a,b,k _ _ (ne O (by simp)) oo⟩,cc.to fun o e=>k _ o (ne c (by simp)) e,dd.to fun o e=>k _ o (ne d (by simp)) e⟩
 ·refine .inr ⟨T,bo,nT,k _ _ (ne z (by simp)) zz,?_,k _ _ (ne P (by simp)) pp,⟨a,b,k _ _ (ne O (by simp)) oo⟩,cc.to fun o e=>k _ o (ne c (by simp)) e,dd.to fun o e=>k _ o (ne d (by simp)) e⟩
  by_cases e:T=S
  ·rw[e];exact he
  ·exact⟨o,k _ _ e al⟩
theorem iZ {t u:Bool}{z P O c d p q:Addr}{n:Nat}{xs ys:Array Value}{Q:Option Value->Shared->Prop}(hh:A.handled=none) (ap:Ap z P O c d p q) (Z:ZS t u s.heap z P O c d p q n)
  (hp:SqAt t s.heap p xs) (hq:SqAt u s.heap q ys)
  (item:∀x y,xs[n]?=some x->ys[n]?=some y->∀h',ZS t u h' z P O c d p q (n+1)->IsPair h' s.heap.objs.size x y->h'.objs.size=s.heap.objs.size+1->
   (∀b o,b∉[z,P,O,c,d]->s.heap.get? b=some o->h'.get? b=some o)->Q (some (.ref s.heap.objs.size)) {s with heap:=h'})
  (stop:(xs[n]?=none\/ys[n]?=none)->∀h',(∀b o,b∉[z,P,O,c,d]->s.heap.get? b=some o->h'.get? b=some o)->Q none {s with heap:=h'}):
  wpAny (model prog w) A (pyNext (.ref z)) Q E s:=by
 have lts:∀b∈[z,P,O,c,d],b<s.heap.objs.size:=fun b hb=>by
  rcases Z with⟨zz,pp,⟨a,b',oo⟩,cc,dd⟩|⟨T,bo,nT,⟨zz,⟨o,al⟩,pp,⟨a,b',oo⟩,cc,dd⟩⟩<;>
   (simp only[ZA,ZB,Z5]at hb
    rcases hb with rfl|rfl|rfl|rfl|rfl
    ·exact Zi zz
    ·exact Zi pp
    ·exact Zi oo
    ·obtain⟨o,e,_⟩:=cc.obj;exact Zi e
    ·obtain⟨o,e,_⟩:=dd.obj;exact Zi e)
 rcases Z with Z|⟨T,bo,nT,Z⟩
 ·refine iw hh ap Z hp hq (fun x y hx hy h' Z' new sz k=>item x y hx hy h' (.inr ⟨s.heap.objs.size,false,fun hm=>ZR _ (lts _ hm),?_⟩) new sz k) stop
  obtain⟨zz,pp,oo,cc,dd⟩:=Z';exact⟨zz,⟨_,new⟩,pp,oo,cc,dd⟩
 ·have ty:s.TypeIs (.ref z) "zip":=⟨_,Z.zz,rfl⟩
  unfold pyNext;refine Za (YO (ZW (name:=Str.ofString "__next__") ty F.slot_zip_next (ZP F.slot_zip_next ty F.entry_zip_next (rR hh ap nT Z hp hq (fun x y hx hy h' b1 b2 b3 b4=>Zd (item x y hx hy h' (.inr ⟨T,true,nT,b1⟩) b2 b3 b4)) fun hn h' e k he=>?_) (F.args_zip_next_1 _))))
  obtain⟨o,ho,hc⟩:=he;exact Za (Yv (T:="StopIteration") (b:=true) ⟨o,ho,hc⟩ isSubtype_stop (Zd (stop hn h' k)))
noncomputable def Made (h:Heap) (lo:Addr) (xs ys:Array Value):Nat->List Value->Prop
 |_,[]=>True
 |i,v::r=>∃T x y,v=.ref T/\lo<=T/\xs[i]?=some x/\ys[i]?=some y/\IsPair h T x y/\(∀v'∈r,v'≠v)/\Made h lo xs ys (i+1) r
theorem Made.to {h h':Heap}{lo:Addr}{xs ys:Array Value}:∀{i:Nat}{l:List Value},Made h lo xs ys i l->(∀T,.ref T∈l->∀o,h.get? T=some o->h'.get? T=some o)->Made h' lo xs ys i l
 |_,[],_,_=>trivial
 |i,v::r,hz,k=>by obtain⟨T,x,y,h1,h2,h3,h4,h5,h6,h7⟩:=hz;exact⟨T,x,y,h1,h2,h3,h4,k T (by rw[h1];simp) _ h5,h6,h7.to fun T' hT=>k T' (Ze _ hT)⟩
theorem Made.snoc {h:Heap}{lo T:Addr}{xs ys:Array Value}{x y:Value}:∀{i:Nat}{l:List Value},Made h lo xs ys i l->lo<=T->xs[i+l.length]?=some x->ys[i+l.length]?=some y->IsPair h T x y->(∀v∈l,v≠.ref T)->Made h lo xs ys i (l++[.ref T])
 |i,[],_,a1,a2,a3,a4,_=>⟨T,x,y,rfl,a1,a2,a3,a4,fun v hv=>(by contradiction),trivial⟩
 |i,v::r,hz,a1,a2,a3,a4,a5=>by
  obtain⟨T',x',y',h1,h2,h3,h4,h5,h6,h7⟩:=hz;refine⟨T',x',y',h1,h2,h3,h4,h5,fun v' hv'=>?_,h7.snoc a1 (by rw[List.length_cons]at a2;rw[show i+1+r.length=i+(r.length+1) by lia];exact a2) (by rw[List.length_cons]at a3;rw[show i+1+r.length=i+(r.length+1) by lia];exact a3) a4 fun v' hv'=>a5 v' (Ze _ hv')⟩
  rcases List.mem_append.mp hv' with hv'|hv'
  ·exact h6 v' hv'
  ·rw[List.mem_singleton.mp hv'];exact Zz (a5 v (Zg ..))
theorem Made.lt {h:Heap}{lo:Addr}{xs ys:Array Value}:∀{i:Nat}{l:List Value},Made h lo xs ys i l->∀v∈l,∃T,v=.ref T/\T<h.objs.size/\lo<=T
 |_,[],_,v,hv=>by contradiction
 |i,v::r,hz,v',hv=>by
  obtain⟨T,x,y,h1,h2,h3,h4,h5,h6,h7⟩:=hz
  rcases ZA.mp hv with rfl|hv
  ·exact⟨T,h1,Zi h5,h2⟩
  ·exact h7.lt v' hv
theorem kU {R:Result->Shared->Prop}{t u:Bool}{z P O c d p q S lo:Addr}{xs ys:Array Value}{res:Value}{n:Nat}(hh:A.handled=none) (ap:Ap z P O c d p q) (hS:S∉[z,P,O,c,d]) (pS:p≠S) (qS:q≠S) (hmin:n=min xs.size ys.size) (hn:n<=sizeLine) (bl:∀b∈[z,P,O,c,d],lo<=b) (bS:lo<=S):
  ∀(k i:Nat) (s:Shared) (acc:Array Value) (e:Nat),n - i=k->i<=n->ZS t u s.heap z P O c d p q i->SqAt t s.heap p xs->SqAt u s.heap q ys->s.heap.get? S=some {cls:=.type "list",dict:=none,data:=.seq acc e,slots:=#[]}->acc.size=i->Made s.heap lo xs ys 0 acc.toList->lo<=s.heap.objs.size->(∀T,.ref T∈acc.toList->T∉S::[z,P,O,c,d])->
  (∀s' acc' e',(∀b o,b∉S::[z,P,O,c,d]->s.heap.get? b=some o->s'.heap.get? b=some o)->s'.heap.get? S=some {cls:=.type "list",dict:=none,data:=.seq acc' e',slots:=#[]}->acc'.size=n->Made s'.heap lo xs ys 0 acc'.toList->(∃h' tk,s'={s with heap:=h',toks:=tk})->R (.ok (.ret res)) s')->
  codeAny (model prog w) A (.builtin "list.extend.loop" ⟨[.ref S,.ref z,res],[]⟩) R s:=by
 intro k
 induction k with
 |zero=>
  intro i s acc e hk hi Z hp hq hL ha hm hlo hT hR;have hin:i=n:=by lia
  subst hin;refine Yi F.entry_extend_loop ?_
  rw[Z3 YG _];show wpAny _ A.in1 (pyNext (.ref z) >>= _) _ _ s;refine Za (iZ (show A.in1.handled=none from hh) ap Z hp hq (fun x y hx hy=>?_) fun j h' kp=>?_)
  ·exfalso
   have a1:=(Array.getElem?_eq_some_iff.mp hx).1
   have a2:=(Array.getElem?_eq_some_iff.mp hy).1
   lia
  ·refine Zd (hR _ acc e (fun b o hb g=>kp b o (fun z=>hb (Ze _ z)) g) (kp S _ hS hL) ha (hm.to fun T hT' o g=>kp T o (fun z=>hT T hT' (Ze _ z)) g) ⟨h',s.toks,rfl⟩)
 |succ k ih=>
  intro i s acc e hk hi Z hp hq hL ha hm hlo hT hR;have hlt:i<n:=by lia
  refine Yi F.entry_extend_loop ?_
  rw[Z3 YG _];show wpAny _ A.in1 (pyNext (.ref z) >>= _) _ _ s;refine Za (iZ (show A.in1.handled=none from hh) ap Z hp hq (fun x y hx hy h' Z' new sz kp=>?_) fun hn' h' kp=>?_)
  ·have hL':=kp S _ hS hL
   have zlt:∀b∈S::[z,P,O,c,d],b≠s.heap.objs.size:=fun b hb e'=>by
    rcases ZA.mp hb with rfl|hb
    ·exact absurd (Zi hL) (by rw[e'];exact ZR _)
    ·have:b<s.heap.objs.size:=by
      rcases Z with⟨zz,pp,⟨a,b',oo⟩,cc,dd⟩|⟨T,bo,nT,⟨zz,⟨o,al⟩,pp,⟨a,b',oo⟩,cc,dd⟩⟩<;>
       (simp only[ZA,ZB,Z5]at hb
        rcases hb with rfl|rfl|rfl|rfl|rfl
        ·exact Zi zz
        ·exact Zi pp
        ·exact Zi oo
        ·obtain⟨o,e,_⟩:=cc.obj;exact Zi e
        ·obtain⟨o,e,_⟩:=dd.obj;exact Zi e)
     rw[e']at this;exact ZR _ this
   show wpAny _ A.in1 (updateSeq S (·.push (.ref s.heap.objs.size)) >>= _) _ _ _
   refine Za (Ys hL' rfl (Zd ⟨YF YG _,?_⟩) (by rw[ha];lia) (by show(acc.push _).size<=sizeLine+1;rw[Array.size_push,ha];lia))
   have sb:=ZI h' S (Obj.mapSeq (·.push (.ref s.heap.objs.size)))
   have oth:∀b o,b≠S->h'.get? b=some o->(h'.update S (Obj.mapSeq (·.push (.ref s.heap.objs.size)))).get? b=some o:=fun b o hb g=>(sb.2 b hb).trans g
   have gS:=ZD (Obj.mapSeq (·.push (Value.ref s.heap.objs.size))) hL' rfl
   refine ih (i+1) _ (acc.push (.ref s.heap.objs.size)) _ (by lia) hlt (Z'.to oth hS ⟨_,gS⟩) (hp.to fun o g=>oth _ o pS (kp _ o ap.p g)) (hq.to fun o g=>oth _ o qS (kp _ o ap.q g)) gS (by rw[Array.size_push,ha]) ?_ ?_ ?_ fun s' acc' e' k1 k2 k3 k4 k5=>?_
   ·rw[Array.toList_push]
    refine(hm.to fun T hT' o g=>oth _ o (fun z=>hT T hT' (by rw[z];exact Zg ..)) (kp T o (fun z=>hT T hT' (Ze _ z)) g)).snoc hlo ?_ ?_ (oth _ _ (Zz (zlt S (Zg ..))) new) fun v hv z=>?_
    ·rw[Array.length_toList,ha,Nat.zero_add];exact hx
    ·rw[Array.length_toList,ha,Nat.zero_add];exact hy
    ·obtain⟨T,rfl,lt,_⟩:=hm.lt v hv
     cases z;exact ZR _ lt
   ·show lo<=(Heap.update h' S _).objs.size
    rw[sb.1,sz];exact ZM hlo (YK _)
   ·intro T hT'
    rw[Array.toList_push]at hT'
    rcases List.mem_append.mp hT' with hT'|hT'
    ·exact hT T hT'
    ·have:T=s.heap.objs.size:=by simpa using hT'
     intro hm';exact zlt T hm' this
   ·refine hR s' acc' e' (fun b o hb g=>k1 b o hb (oth b o (fun z=>hb (by rw[z];exact Zg ..)) (kp b o (fun z=>hb (Ze _ z)) g))) k2 k3 k4 ?_
    obtain⟨h2,tk,e2⟩:=k5;exact⟨h2,tk,e2⟩
  ·exfalso
   rcases hn' with hn'|hn'
   ·rw[Array.getElem?_eq_none_iff]at hn';lia
   ·rw[Array.getElem?_eq_none_iff]at hn';lia
theorem iD:typeLookup (.type "zip") "__len__"=pure none:=by rw[typeLookup_type,YN];kernel_rfl
theorem ia:typeLookup (.type "zip") "__length_hint__"=pure none:=by rw[typeLookup_type,YN];kernel_rfl
theorem oa {R:Result->Shared->Prop}(hh:A.handled=none) {t u:Bool}{z P O c d p q S lo:Addr}{xs ys:Array Value}{c₀:Nat}(ap:Ap z P O c d p q) (hS:S∉[z,P,O,c,d]) (pS:p≠S) (qS:q≠S) (hn:min xs.size ys.size<=sizeLine) (bl:∀b∈[z,P,O,c,d],lo<=b) (bS:lo<=S) (res:Value)
  (Z:Zp t u s.heap z P O c d p q 0 .none) (hp:SqAt t s.heap p xs) (hq:SqAt u s.heap q ys) (hlo:lo<=s.heap.objs.size)
  (hL:s.heap.get? S=some {cls:=.type "list",data:=.seq #[] c₀})
  (hR:∀s' acc' e',(∀b o,b∉S::[z,P,O,c,d]->s.heap.get? b=some o->s'.heap.get? b=some o)->s'.heap.get? S=some {cls:=.type "list",dict:=none,data:=.seq acc' e',slots:=#[]}->acc'.size=min xs.size ys.size->Made s'.heap lo xs ys 0 acc'.toList->(∃h' tk,s'={s with heap:=h',toks:=tk})->R (.ok (.ret res)) s'):
  wpAny (model prog w) A.in1 (Builtin.List.listExtendWith (.ref S) (.ref z) res)
   (fun fin s'=>match fin with|.done f=>R (.ok f) s'|.again c'=>c'.quiet=true/\codeAny (model prog w) A c' R s') (fun e s'=>R (.error e) s') s:=by
 have ty:s.TypeIs (.ref z) "zip":=⟨_,Z.zz,rfl⟩;have nSz:S≠z:=fun e=>hS (by rw[e];simp)
 unfold Builtin.List.listExtendWith;refine Za (Y0 ty ?_)
 simp only[show Builtin.List.listSameRef (.ref S) (.ref z)=false by simp[Builtin.List.listSameRef,nSz],show(Value.type "zip"==Value.type "list")=false by decide,show(Value.type "zip"==Value.type "tuple")=false by decide,Bool.or_false,Zx,ZY]
 refine Za (wpAny_pyIter_zip Z.zz (Za (ZN ?_)))
 unfold Builtin.List.listLengthHint;refine Za (YA ty iD ?_)
 dsimp only;change wpAny _ _ (specialOf (.ref z) "__length_hint__" >>= _) _ _ _;refine Za (YA ty ia (Zd ?_))
 rw[Zm (by simp)]
 refine Za (Yj (Za ?_))
 change wpAny _ A.in1 (updateSeq S (·.push .none) >>= fun y=>updateSeq S (·.pop)) _ _ _
 have hS2:=ZD (Obj.mapSeq (·.push Value.none)) hL rfl
 refine Za (Ys hL rfl (Ys (hz:=by seq_fits) hS2 rfl ?_))
 have hS3:=ZD (Obj.mapSeq (·.pop)) hS2 rfl
 have oth:∀b o,b≠S->s.heap.get? b=some o->((s.heap.update S (Obj.mapSeq (·.push Value.none))).update S (Obj.mapSeq (·.pop))).get? b=some o:=
  fun b o hb e=>(ZC _ _ (Zz hb)).trans ((ZC _ _ (Zz hb)).trans e)
 refine Zd ⟨YF YG _,kU hh ap hS pS qS rfl hn bl bS _ 0 _ _ _ rfl (ZK _) ((show ZS t u s.heap z P O c d p q 0 from .inl Z).to oth hS ⟨_,hS3⟩) (hp.to fun o e=>oth _ o pS e) (hq.to fun o e=>oth _ o qS e) hS3 (by simp) (by simp[Made]) ?_ (by simp) fun s' acc' e' k1 k2 k3 k4 k5=>?_⟩
 ·show lo<=(Heap.update (Heap.update s.heap S _) S _).objs.size
  rw[YY,YY];exact hlo
 ·obtain⟨h',tk,e2⟩:=k5
  exact hR s' acc' e' (fun b o hb e=>k1 b o hb (oth b o (fun z=>hb (by rw[z];exact Zg ..)) e)) k2 k3 k4 ⟨h',tk,e2⟩
theorem iq {Q:Value->Shared->Prop}(hh:A.handled=none) {t u:Bool}{z P O c d p q:Addr}{xs ys:Array Value}(ap:Ap z P O c d p q) (hn:min xs.size ys.size<=sizeLine) {lo:Addr}(bl:∀b∈[z,P,O,c,d],lo<=b) (hlo:lo<=s.heap.objs.size)
  (Z:Zp t u s.heap z P O c d p q 0 .none) (hp:SqAt t s.heap p xs) (hq:SqAt u s.heap q ys)
  (hQ:∀h' tk acc' e',(∀b o,b∉[z,P,O,c,d]->s.heap.get? b=some o->h'.get? b=some o)->h'.get? s.heap.objs.size=some {cls:=.type "list",dict:=none,data:=.seq acc' e',slots:=#[]}->acc'.size=min xs.size ys.size->Made h' lo xs ys 0 acc'.toList->Q (.ref s.heap.objs.size) {s with heap:=h',toks:=tk}):
  wpAny (model prog w) A (call (.type "list") [.ref z]) Q E s:=by
 refine callType_codes (Q₁:=fun obj s₁=>obj=.ref s.heap.objs.size/\s₁={s with heap:=s.heap.push {cls:=.type "list",data:=.seq #[]}}) F.called_list (F.typeCall_list_1 _) F.entry_list_init (code_list_new _ ⟨rfl,rfl⟩) fun obj s₁ h₁=>?_
 obtain⟨rfl,rfl⟩:=h₁;have hS:(s.heap.push {cls:=.type "list",data:=.seq #[]}).get? s.heap.objs.size=some {cls:=.type "list",data:=.seq #[]}:=Zj _ rfl
 refine⟨⟨_,hS,rfl⟩,F.args_list_init_2 _ _,?_⟩
 change wpAny _ _ (do let old <-Builtin.List.listItems (.ref s.heap.objs.size);Builtin.List.listUpdate (.ref s.heap.objs.size) (fun y=>#[]);letGo old.toList.reverse;Builtin.List.listExtendWith (.ref s.heap.objs.size) (.ref z) .none) _ _ _
 refine Za ?_
 unfold Builtin.List.listItems;refine Za (Yf hS rfl (Zd ?_))
 change wpAny _ _ (updateSeq s.heap.objs.size (fun y=>#[]) >>= fun y=>letGo (#[]:Array Value).toList.reverse >>= fun y=>Builtin.List.listExtendWith (.ref s.heap.objs.size) (.ref z) .none) _ _ _
 have hS2:=ZD (Obj.mapSeq (fun y=>(#[]:Array Value))) hS rfl
 have up:∀b ob,s.heap.get? b=some ob->((s.heap.push {cls:=.type "list",data:=.seq #[]}).update s.heap.objs.size (Obj.mapSeq (fun y=>(#[]:Array Value)))).get? b=some ob:=fun b ob e=>(ZC _ _ (Zz (Zy (Zi e)))).trans (Zc _ e)
 have lts:∀b∈[z,P,O,c,d],b<s.heap.objs.size:=fun b hb=>by
  obtain⟨zz,pp,⟨a,b',oo⟩,cc,dd⟩:=Z;simp only[ZA,ZB,Z5]at hb
  rcases hb with rfl|rfl|rfl|rfl|rfl
  ·exact Zi zz
  ·exact Zi pp
  ·exact Zi oo
  ·obtain⟨o,e,_⟩:=cc.obj;exact Zi e
  ·obtain⟨o,e,_⟩:=dd.obj;exact Zi e
 have lp:p<s.heap.objs.size:=by cases t<;>(obtain⟨o,e,_⟩:=hp;exact Zi e)
 have lq:q<s.heap.objs.size:=by cases u<;>(obtain⟨o,e,_⟩:=hq;exact Zi e)
 refine Za (Ys hS rfl (Za (wpAny_letGo ?_)))
 obtain⟨zz,pp,⟨a,b',oo⟩,cc,dd⟩:=Z;refine oa (A:=A.in1) hh ap (fun hm=>ZR _ (lts _ hm)) (Zy lp) (Zy lq) hn bl hlo .none ⟨up _ _ zz,up _ _ pp,⟨a,b',up _ _ oo⟩,cc.to fun o e=>up _ o e,dd.to fun o e=>up _ o e⟩ (hp.to fun o e=>up _ o e) (hq.to fun o e=>up _ o e) ?_ hS2 fun s' acc' e' k1 k2 k3 k4 k5=>?_
 ·show lo<=(Heap.update (Heap.push s.heap _) _ _).objs.size
  rw[YY,Z1];exact ZM hlo (YK _)
 ·obtain⟨h',tk,rfl⟩:=k5
  exact⟨rfl,hQ h' tk acc' e' (fun b ob hb e=>k1 b ob (fun hm=>(ZA.mp hm).elim (fun z=>Zy (Zi e) z) hb) (up b ob e)) k2 k3 k4⟩
end
noncomputable def ZipV (H:Hp):List V->List V->List V->Prop
 |x::xs,y::ys,vs=>∃T r,vs=.ref T::r/\H T=some (.tup [x,y])/\ZipV H xs ys r
 |_,_,vs=>vs=[]
section
variable{X:Cx}{pins:List (Addr×Obj)}{σ:St}{s:Shared}
theorem gd {lo:Addr}{is js:List Value}(hlo:X.s₀.heap.objs.size<=lo):∀(l:List Value) (i:Nat) (H:Hp) (xs ys:List V),Inv X pins σ H s->Made s.heap lo is.toArray js.toArray i l->(∀T,.ref T∈l->dT X pins H T)->Vals xs (is.drop i)->Vals ys (js.drop i)->l.length=min xs.length ys.length->
  ∃H' vs,Inv X pins σ H' s/\Same H H'/\(∀c,.ref c∉l->H' c=H c)/\ZipV H' xs ys vs/\Vals vs l
 |[],i,H,xs,ys,I,m,f,vx,vy,hl=>by
  refine⟨H,[],I,Same.refl H,fun u u=>rfl,?_,.nil⟩
  cases xs with
  |nil=>exact rfl
  |cons x xs=>cases ys with
   |nil=>exact rfl
   |cons y ys=>simp at hl
 |v::r,i,H,xs,ys,I,hz,f,vx,vy,hl=>by
  obtain⟨T,x,y,e1,e2,e3,e4,e5,e6,e7⟩:=hz;subst e1;cases xs with
  |nil=>simp at hl
  |cons x' xs=>cases ys with
   |nil=>simp at hl
   |cons y' ys=>
    have hi:i<is.length:=by simpa using(Array.getElem?_eq_some_iff.mp e3).1
    have hj:i<js.length:=by simpa using(Array.getElem?_eq_some_iff.mp e4).1
    rw[ZV hi]at vx;rw[ZV hj]at vy;cases vx with
    |cons a1 a2=>cases vy with
     |cons b1 b2=>
      have ex:is[i]=x:=by simpa[hi]using e3
      have ey:js[i]=y:=by simpa[hj]using e4
      rw[ex]at a1;rw[ey]at b1;have fT:=f T (Zg ..);have I1:=I.track (o:=.tup [x',y']) fT (ZM hlo e2) ⟨by show 2<=sizeLine;rw[Z7];lia,[x,y],.cons a1 (.cons b1 .nil),⟨_,e5,rfl,_,rfl⟩⟩
      have ne:∀T',Value.ref T'∈r->T'≠T:=fun T' hT' z=>e6 _ hT' (by rw[z])
      obtain⟨H',vs,i1,i2,i3,i4,i5⟩:=gd hlo r (i+1) (upd H T (.tup [x',y'])) xs ys I1 e7 (fun T' hT'=>⟨by rw[ai (ne T' hT')];exact(f T' (Ze _ hT')).1,(f T' (Ze _ hT')).2⟩) a2 b2 (by simp at hl;lia)
      have sT:=am (o:=.tup [x',y']) fT.1;refine⟨H',.ref T::vs,i1,sT.trans i2,fun c hc=>?_,⟨T,vs,rfl,i2 T _ af,i4⟩,.cons rfl i5⟩
      rw[i3 c (fun z=>hc (Ze _ z)),ai (fun z=>hc (by rw[z];exact Zg ..))]
variable{t u:Bool}{a b:Expr}{ta:TA}{p pos p2 pos2:Pos}
noncomputable def tLZ (t u:Bool) (K:PySem.W.Frag) (ta:TA):TE:=fun σ H Q=>ta σ H fun vs H1=>∃p q xs ys,vs=[.ref p,.ref q]/\SqV t K H1 p xs/\SqV u K H1 q ys/\min xs.length ys.length<=sizeLine/\∀S H2,Same H1 H2->H1 S=none->(∃vs,H2 S=some (.lst vs)/\ZipV H2 xs ys vs)->Q (.ref S) H2
theorem ZipV.to {H H':Hp}(s:∀T xs,H T=some (.tup xs)->H' T=some (.tup xs)):∀{xs ys vs:List V},ZipV H xs ys vs->ZipV H' xs ys vs
 |[],ys,vs,h=>by cases ys<;>exact h
 |x::xs,[],vs,h=>h
 |x::xs,y::ys,vs,hz=>by obtain⟨T,r,h1,h2,h3⟩:=hz;exact⟨T,r,h1,s _ _ h2,h3.to s⟩
theorem oh (hc:X.calm=true) (gl:Gl X "list") (hl:X.mg "list"=none) (gz:Gl X "zip") (hz:X.mg "zip"=none) (ha:PA X [a,b] ta) (hs:starEach [a,b] X.env=[(false,eval a X.env),(false,eval b X.env)]:=by rfl) (hs2:starEach [b] X.env=[(false,eval b X.env)]:=by rfl)
  (hs0:starEach [.Call (.Name "zip" p2) [a,b] [] pos2] X.env=[(false,eval (.Call (.Name "zip" p2) [a,b] [] pos2) X.env)]:=by rfl):
  PE X (.Call (.Name "list" p) [.Call (.Name "zip" p2) [a,b] [] pos2] [] pos) (tLZ t u X.K ta):=by
 intro pins s σ H Q I h;refine YJ (c9 I gl hl l8 (Yb ?_ hs0 (by rfl)) (by decide) (by decide))
 rw[hs0];show wpAny _ _ (spliced ((false,eval (.Call (.Name "zip" p2) [a,b] [] pos2) X.env)::backTo pos (starEach [] X.env))) _ _ s;refine Calls.spliced_cons (YJ (c9 I gz hz boot_zip (Yb (thn (ha pos2 pins s σ H _ I h) fun us s1 hz9=>?_) (by rw[hs,hs2]) (by rw[hs2];rfl)) (by decide) (by decide)))
 obtain⟨vs,H1,I1,r1,q1⟩:=hz9;obtain⟨l1,l2,xs,ys,e,h1,h2,hm,q⟩:=q1;subst e;cases r1 with
 |cons r rr=>
  cases rr with
  |cons r' rr=>
   cases rr;cases r;cases r';obtain⟨is,ri,sp⟩:=I1.seqV h1;obtain⟨js,rj,sq⟩:=I1.seqV h2;refine mK sp sq fun z P O c d h' ap Z hi k=>Calls.spliced_nil ?_
   have up1:SqAt t h' l1 is.toArray:=sp.to fun o e=>k _ o e
   have uq1:SqAt u h' l2 js.toArray:=sq.to fun o e=>k _ o e
   have hsz:s1.heap.objs.size<=h'.objs.size:=ZM (hi z (by simp)) (Nat.le_of_lt (Zi Z.zz))
   refine iq (s:={s1 with heap:=h'}) (I1.ok.hd hc) ap (by rw[Zh,Zh,<-ri.length,<-rj.length];exact hm) (lo:=s1.heap.objs.size) hi hsz Z up1 uq1 fun h2 tk acc e' k1 k2 k3 k4=>?_
   have kk:∀b o,s1.heap.get? b=some o->h2.get? b=some o:=fun b o e=>k1 b o (fun hm=>absurd (Zr (Zi e) (hi b hm)) (ZR _)) (k b o e)
   have I2:Inv X pins σ H1 {s1 with heap:=h2,toks:=tk}:=I1.kept kk
   have nw:∀T,s1.heap.objs.size<=T->dT X pins H1 T:=fun T hT=>I1.fpOk hT (I1.hok.fresh hT)
   obtain⟨H3,vs,i1,i2,i3,i4,i5⟩:=gd (lo:=s1.heap.objs.size) (is:=is) (js:=js) (X:=X) I1.sz acc.toList 0 H1 xs ys I2 k4 (fun T hT=>by
    obtain⟨T',e,_,lo⟩:=k4.lt _ hT;cases e;exact nw T lo) (by simpa using ri) (by simpa using rj) (by rw[Array.length_toList,k3,Zh,Zh,<-ri.length,<-rj.length])
   have fS:=nw h'.objs.size hsz;have nS:Value.ref h'.objs.size∉acc.toList:=fun hm=>by
    have key:∀(l:List Value) (i:Nat),Made h2 s1.heap.objs.size is.toArray js.toArray i l->∀T,.ref T∈l->∃x y,IsPair h2 T x y:=by
     intro l
     induction l with
     |nil=>intro i _ T hT;contradiction
     |cons v l ih=>
      rintro i ⟨T',x,y,e1,e2,e3,e4,e5,e6,e7⟩ T hT
      rcases ZA.mp hT with e|hT
      ·rw[e1]at e;cases e;exact⟨x,y,e5⟩
      ·exact ih _ e7 T hT
    obtain⟨x,y,g⟩:=key _ _ k4 _ hm;have g':=Eq.trans (Eq.symm (show h2.get? h'.objs.size=_ from k2)) g
    have g2:=YV (fun o:Option Obj=>o.map (·.cls)) g'
    simp at g2
   have hS3:H3 h'.objs.size=none:=by rw[i3 _ nS];exact fS.1
   have lv:=i5.length;have I4:=i1.track (a:=h'.objs.size) (o:=.lst vs) ⟨hS3,fS.2⟩ (ZM I1.sz hsz) ⟨by rw[lv,Array.length_toList,k3,Zh,Zh,<-ri.length,<-rj.length];exact hm,acc.toList,e',i5,by simpa using k2⟩
   have s4:=am (o:=.lst vs) hS3;exact⟨.ref h'.objs.size,_,I4,rfl,q _ _ (i2.trans s4) fS.1 ⟨vs,af,i4.to fun T xs e=>s4 T _ e⟩⟩
end
section
variable{X:Cx}{t u:Bool}{a b:Expr}{fa fb:DEnv->Option D}{p pos p2 pos2:Pos}
noncomputable def oQ (t u:Bool) (x y:Option D):Option D:=match xh t u x y with|some ds=>if ds.length<=lim then some (.lst ds) else none|none=>none
theorem ZipV.reps {K:PySem.W.Frag}{B:Addr->Prop}{H:Hp}:∀{ds es:List D}{xs ys vs:List V},Reps K B H ds xs->Reps K B H es ys->ZipV H xs ys vs->Reps K B H (bY ds es) vs
 |[],es,xs,ys,vs,r1,r2,h=>by
  simp only[Reps]at r1;subst r1;cases ys<;>(rw[show vs=[] from h];exact Reps.nil)
 |d::ds,[],xs,ys,vs,r1,r2,h=>by
  simp only[Reps]at r1 r2;obtain⟨x,r,rfl,_⟩:=r1;subst r2;rw[show vs=[] from h];exact Reps.nil
 |d::ds,e::es,xs,ys,vs,r1,r2,h=>by
  simp only[Reps]at r1 r2;obtain⟨x,r,rfl,q1,q2⟩:=r1;obtain⟨y,r',rfl,q3,q4⟩:=r2;obtain⟨T,w,rfl,hT,z⟩:=h;exact Reps.cons (by simp only[Rep];exact⟨T,[x,y],rfl,hT,Reps.cons q1 (Reps.cons q3 Reps.nil)⟩) (ZipV.reps q2 q4 z)
set_option tactic.hygienic true in
theorem om (t u:Bool) (hc:X.calm=true) (gl:Gl X "list") (hl:X.mg "list"=none) (gz:Gl X "zip") (hz:X.mg "zip"=none) (h:DE X false a fa) (h':DE X false b fb) (hs:starEach [a,b] X.env=[(false,eval a X.env),(false,eval b X.env)]:=by rfl) (hs2:starEach [b] X.env=[(false,eval b X.env)]:=by rfl)
  (hs0:starEach [.Call (.Name "zip" p2) [a,b] [] pos2] X.env=[(false,eval (.Call (.Name "zip" p2) [a,b] [] pos2) X.env)]:=by rfl):
  DF X (.Call (.Name "list" p) [.Call (.Name "zip" p2) [a,b] [] pos2] [] pos) (fun δ=>oQ t u (fa δ) (fb δ)):=
 (oh (t:=t) (u:=u) hc gl hl gz hz (ar h (ar h' aH hs2) (by rw[hs,hs2])) hs hs2 hs0).imp fun σ H Q hz=>by
  obtain⟨B,Hk,δ,d,R,e,k⟩:=hz;unfold oQ at e;split at e
  ·rename_i ds e0
   split at e
   ·rename_i hlim
    obtain rfl:=Zb e;obtain⟨as,q1,e⟩:=ak e0;obtain⟨bs,q2,e⟩:=ak e;obtain rfl:=Zb e;obtain⟨d1,e1⟩:∃d,fa δ=some d:=by
     cases q:fa δ with
     |none=>rw[q]at q1;cases t<;>contradiction
     |some d=>exact⟨d,rfl⟩
    obtain⟨d2,e2⟩:∃d,fb δ=some d:=by
     cases q:fb δ with
     |none=>rw[q]at q2;cases u<;>contradiction
     |some d=>exact⟨d,rfl⟩
    refine two R e1 e2 fun v w H' s R' r1 r2=>?_
    obtain⟨l1,xs,rfl,rs1,sq1⟩:=dR q1 e1 r1;obtain⟨l2,ys,rfl,rs2,sq2⟩:=dR q2 e2 r2;refine⟨l1,l2,xs,ys,rfl,sq1 _ Ext.refl,sq2 _ Ext.refl,?_,fun S H2 s2 hS ⟨vs,hvs,zv⟩=>?_⟩
    ·rw[eM,rs1.length,rs2.length]at hlim
     exact aD hlim
    ·exact k S H2 (s.trans s2) (s.free hS) ⟨vs,hvs,ZipV.reps (rs1.same (m:=false) R' s2) (rs2.same (m:=false) R' s2) zv⟩
   ·contradiction
  ·contradiction
end
noncomputable def lL:Expr->Option D
 |.Constant (.int i) _ _=>some (.int i)
 |.Constant (.str x) _ _=>some (.str x)
 |.Constant .none _ _=>some .non
 |_=>none
section
variable{X:Cx}{m:Bool}
noncomputable def we (e:Expr) (d:D):Prop:=(∃i a b,e=.Constant (.int i) a b/\d=.int i)\/(∃i a b,e=.Constant (.str i) a b/\d=.str i)\/∃a b,e=.Constant .none a b/\d=.non
theorem mI {e:Expr}{d:D}(h:lL e=some d):we e d:=by
 cases e with
 |Constant c a b=>
  cases c with
  |int i=>exact .inl ⟨i,a,b,rfl,(Zb h).symm⟩
  |str i=>exact .inr (.inl ⟨i,a,b,rfl,(Zb h).symm⟩)
  |none=>exact .inr (.inr ⟨a,b,rfl,(Zb h).symm⟩)
  |_=>exact nS h
 |_=>exact nS h
theorem tZ {e:Expr}{d:D}(h:lL e=some d):DE X m e (fun y=>some d):=by
 rcases mI h with⟨i,a,b,rfl,rfl⟩|⟨i,a,b,rfl,rfl⟩|⟨a,b,rfl,rfl⟩
 ·exact jN
 ·exact u9
 ·exact mF
theorem nK {e:Expr}{es:List Expr}{d:D}{env:Env}(h:lL e=some d):starEach (e::es) env=(false,eval e env)::starEach es env:=by
 rcases mI h with⟨i,a,b,rfl,rfl⟩|⟨i,a,b,rfl,rfl⟩|⟨a,b,rfl,rfl⟩<;>rfl
theorem jl:∀{es:List Expr}{ds:List D},es.map lL=ds.map some->DA X m es (fun y=>some ds)
 |[],[],_=>eF
 |[],_::_,h=>by simp at h
 |_::_,[],h=>by simp at h
 |e::es,d::ds,h=>by
  rw[Zf,Zf,YC]at h;exact bR (tZ h.1) (jl h.2) (nK h.1)
end
noncomputable def leT (a b:Str):Bool:=!decide (b.cps.toList<a.cps.toList)
theorem cU (a b c:Str) (h1:leT a b=true) (h2:leT b c=true):leT a c=true:=by
 unfold leT at*;simp only[Yp,Ym]at*;exact List.le_trans h1 h2
theorem eT (a b:Str):(leT a b||leT b a)=true:=by
 unfold leT
 by_cases h:b.cps.toList<a.cps.toList
 ·have:¬a.cps.toList<b.cps.toList:=fun h'=>absurd (List.lt_trans h h') (List.lt_irrefl _)
  simp[this]
 ·simp[h]
theorem lW (a b:Str) (h1:leT a b=true) (h2:leT b a=true):a=b:=by
 unfold leT at*;simp only[Yp,Ym]at*;exact Str.ext' (Array.toList_inj.mp (List.le_antisymm h1 h2))
noncomputable def dO (ss:List Str):List Str:=ss.mergeSort leT
theorem cC (ss:List Str):(dO ss).Perm ss:=List.mergeSort_perm ss leT
theorem fv:∀(l:List Str) (p:Str),risingS p l=true->(p::l).Pairwise (fun a b=>leT a b=true)
 |[],p,_=>by simp
 |x::r,p,h=>by
  have h':(!ltCps x.cps.toList p.cps.toList&&risingS x r)=true:=h;rw[Zu,ltCps_eq]at h';have ih:=fv r x h'.2;refine List.pairwise_cons.mpr ⟨fun y hy=>?_,ih⟩
  rcases ZA.mp hy with rfl|hy
  ·exact h'.1
  ·exact cU _ _ _ h'.1 ((List.pairwise_cons.mp ih).1 y hy)
theorem j7:∀(l:List Str),sortedS l=true->l.Pairwise (fun a b=>leT a b=true)
 |[],_=>.nil
 |x::r,h=>fv r x h
theorem qF {ss ss':List Str}(hp:ss'.Perm ss) (hs:sortedS ss'=true):ss'=dO ss:=
 List.Perm.eq_of_pairwise (le:=fun a b=>leT a b=true) (fun a b y y h1 h2=>lW a b h1 h2) (j7 _ hs) (List.pairwise_mergeSort cU eT ss) (hp.trans (cC ss).symm)
theorem f7 {ss ss':List Str}(hp:ss'.Perm ss):dO ss'=dO ss:=
 List.Perm.eq_of_pairwise (le:=fun a b=>leT a b=true) (fun a b y y h1 h2=>lW a b h1 h2) (List.pairwise_mergeSort cU eT ss') (List.pairwise_mergeSort cU eT ss) ((cC ss').trans (hp.trans (cC ss).symm))
theorem eQ {ss:List Str}{us:List Value}(h:StrsAre us ss):Vals (ss.map V.str) us:=by
 induction h with
 |nil=>exact .nil
 |cons x t h ih=>exact .cons ⟨t,rfl⟩ ih
theorem jX {K:PySem.W.Frag}{B:Addr->Prop}{H:Hp}:∀ss:List Str,Reps K B H (ss.map D.str) (ss.map V.str)
 |[]=>Reps.nil
 |x::ss=>Reps.cons (by simp only[Rep]) (jX ss)
section
variable{X:Cx}
theorem iM {pins:List (Addr×Obj)}{σ:St}{H:Hp}{s:Shared}{ss:List Str}{us:List Value}{Q:VK}{h1:Heap}{t1:Nat}(I:Inv X pins σ H s) (k1:∀b o,s.heap.get? b=some o->h1.get? b=some o) (hsz:s.heap.objs.size<=h1.objs.size)
  (v:StrsAre us ss) (h64:us.length<64) (q:∀l,H l=none->Q (.ref l) (upd H l (.lst ((dO ss).map V.str)))):
  wpAny (model X.prog X.w) X.A.in1 (do
   let l <-newList us
   let _ <-holding [l] (call (.builtin "list.sort") [l] [])
   ret l) (fun fin s'=>∃w,fin=.done (.ret w)/\EP X pins σ Q w s') X.xe {s with heap:=h1,toks:=t1}:=by
 have hz:us.length<=sizeLine:=by rw[Z7];lia
 refine Za (wpAny_newList ?_ hz)
 have g0:(h1.push (seqObj "list" us.toArray 0)).get? h1.objs.size=some (seqObj "list" us.toArray 0):=Zj _ rfl
 have k2:∀b o,s.heap.get? b=some o->b≠h1.objs.size/\b<(h1.push (seqObj "list" us.toArray 0)).objs.size/\(h1.push (seqObj "list" us.toArray 0)).get? b=some o:=fun b o e=>
  ⟨Zy (Zi (k1 b o e)),Zi (Zc _ (k1 b o e)),Zc _ (k1 b o e)⟩
 refine Za (ZN (ZP slot_list_sort ⟨_,g0,rfl⟩ entry_list_sort ?_ (args_list_sort _)))
 refine list_sort_treeK (s:={s with heap:=h1.push (seqObj "list" us.toArray 0),toks:=t1}) strKind_oneLt g0 v.keysOf (fun v₁ v₂ rest e=>keyKind_strs (by rw[<-e];exact v)) h64 fun st' hp hs=>?_
 obtain⟨ss',a1,a2,a3⟩:=sorted_out_str v hp hs;have e:=qF a2 a3;subst e;obtain⟨c,hc⟩:=sortedHeap_at (vs:=us) (out:=(arrOf st').map (·.2)) g0
 have hfr:H h1.objs.size=none:=I.hok.fresh hsz;have hl:((dO ss).map V.str).length<=sizeLine:=by
  have h1:=eQ a1;have h2:=a2.length_eq;have h3:=(eQ v).length;rw[Zn]at h3⊢
  lia
 refine⟨_,rfl,Zd ⟨_,rfl,.ref h1.objs.size,_,I.laid (a:=h1.objs.size) (o:=.lst ((dO ss).map V.str)) (h':=sortedHeap (h1.push (seqObj "list" us.toArray 0)) h1.objs.size us ((arrOf st').map (·.2))) (t':=t1) (fun b o e=>(sortedHeap_old (k2 b o e).1 (k2 b o e).2.1).trans (k2 b o e).2.2) hsz ?_,rfl,q _ hfr⟩⟩
 exact⟨hl,_,c,eQ a1,by rw[Array.toArray_toList];exact hc⟩
theorem Ai:∀ts:List (Str×Tok),StrsAre (ts.map fun p=>.str p.1 p.2) (ts.map (·.1))
 |[]=>.nil
 |p::ts=>.cons p.1 p.2 (Ai ts)
theorem iA (hc:X.calm=true):cO X (.builtin "sorted") (fun xs H Q=>∃S us,xs=[.ref S]/\H S=some (uz X.w S us)/\us.length<64/\∀l,H l=none->Q (.ref l) (upd H l (.lst ((dO us).map V.str)))):=by
 intro pins s σ H xs us Q I r h;obtain⟨S,ss,rfl,hS,h64,q⟩:=h;obtain⟨u,rfl,rx⟩:=dP r;cases rx;obtain⟨⟨ts1,p1,o,ep,t,ho,hex,hd,hf,hled,hpl⟩,_,_⟩:=I.hok S _ hS;have hl1:=p1.length_eq;rw[Zn]at hl1;have st:SetIs s.heap S (ts1.map (tE X.w)) ep t:=⟨⟨o,ho,hex,hd⟩,by simpa using hf⟩
 refine Calls.call_function_entry kind_sorted plain_sorted entry_sorted (args_sorted1 _) ?_
 unfold Builtin.«sorted»;refine Za (m:=checkCount "sorted" 1 1 _) (Zd (Za (ly (by simp[I.ok.hd hc]) st hled (hpl.imp (fun h=>by simp[h]) id) (by rw[Zn];lia) fun vs h' d tk hp hkeep hsz=>?_)))
 rw[List.map_map]at hp;obtain⟨ts2,p2,rfl⟩:=cV (fun p:Str×Tok=>Value.str p.1 p.2) hp ts1 rfl
 have hl2:=p2.length_eq;refine iM (s:={s with drawn:=d}) (t1:=tk) (I.drawn d) hkeep hsz (Ai ts2) (by rw[Zn];lia) fun l hl'=>?_
 rw[f7 ((p2.map (·.1)).trans p1)]
 exact q l hl'
noncomputable def b9 (x:Option D):Option D:=match x with
 |some (.lst ds)=>(match cF ds with|some ss=>if ss.length<64 then some (.lst ((dO (uS ss)).map D.str)) else none|none=>none)
 |_=>none
variable{a:Expr}{fa:DEnv->Option D}{pos pos2 p p2:Pos}
theorem fj {K:PySem.W.Frag}{B:Addr->Prop}{H:Hp}:∀{ss:List Str}{ys:List V},Reps K B H (ss.map D.str) ys->ys=ss.map V.str
 |[],ys,r=>r
 |x::ss,ys,r=>by
  obtain⟨y,rr,rfl,r1,r2⟩:=r;simp only[Rep]at r1;rw[r1,fj r2];rfl
set_option tactic.hygienic true in
theorem gX (hc:X.calm=true) (g:Gl X "sorted") (hm:X.mg "sorted"=none) (g2:Gl X "set") (hm2:X.mg "set"=none) (ha:DE X false a fa) (hs:starEach [a] X.env=[(false,eval a X.env)]:=by rfl)
  (hs2:starEach [.Call (.Name "set" p2) [a] [] pos2] X.env=[(false,eval (.Call (.Name "set" p2) [a] [] pos2) X.env)]:=by rfl):
  DF X (.Call (.Name "sorted" p) [.Call (.Name "set" p2) [a] [] pos2] [] pos) (fun δ=>b9 (fa δ)):=
 (bM (iA hc) g hm c6 (ar (bH (pq hc) g2 hm2 AB (ar ha aH hs) (he:=hs)) aH hs2) (he:=hs2)).imp fun σ H Q hz=>by
  obtain⟨B,Hk,δ,d,R,e,k⟩:=hz;unfold b9 at e;split at e
  ·rename_i ds qd
   split at e
   ·rename_i us qu
    cases dl qu
    by_cases cc:us.length<64
    ·rw[Zm cc]at e;obtain rfl:=Zb e
     simp only[tCB,nH,tNil];refine⟨B,Hk,δ,_,R,qd,fun v H' s r=>?_⟩
     have R':=R.to s;simp only[Rep]at r;obtain⟨l,xs,rfl,hq,rs⟩:=r;cases fj rs;refine⟨l,us,rfl,hq.sq,cc,fun S ss hS hnd hmem hlen=>?_⟩
     have s2:=am (o:=uz X.w S ss) hS;refine⟨S,ss,rfl,af,by lia,fun l' hl'=>?_⟩
     rw[f7 ((List.perm_ext_iff_of_nodup hnd (dW us)).mpr fun x=>(hmem x).trans (jE x us).symm)]
     have s3:=am (o:=.lst ((dO (uS us)).map V.str)) hl';exact k l' _ (s.trans (s2.trans s3)) (s.free (s2.free hl')) ⟨_,af,jX _⟩
    ·rw[Zo cc]at e;contradiction
   ·contradiction
  ·contradiction
end
end L2
namespace L2
open PySem PySem.StrLaws
noncomputable def sU (ss:List Str):List D:=(dO (uS ss)).map D.str
theorem jV {ss:List Str}(hu:ss.length<64):b9 (some (.lst (ss.map D.str)))=some (.lst (sU ss)):=by
 unfold b9 sU;simp only[je,Zm hu]
theorem aF (x y:Str):eqO (some (.str x)) (some (.str y))=some (decide (x=y)):=by
 rw[j4 _ _ rfl];congr 1;simp
end L2
namespace L2
open PySem PySem.Spec PyProof.Rows
section
variable{X:Cx}{m m' mm:Bool}{a b:Expr}{fa fb:DEnv->Option D}{pos:Pos}
noncomputable def Ey (x y:Option D):Option Bool:=match x,y with|some (.bl a),some (.bl b)=>some (a==b)|_,_=>none
noncomputable def AN (x y:Option D):Option Bool:=match x,y with|some (.bl a),some (.bl b)=>some (!(a==b))|_,_=>none
noncomputable def rB (g:Bool->Bool->Bool):R2:=fun x y H Q=>∃a b,x=.bl a/\y=.bl b/\Q (.bl (g a b)) H
theorem yK:OpR X (compareOp .NotEq) (rB fun a b=>!(a==b)):=by
 intro pins s σ H x y v u Q I rx ry hz9;obtain⟨a,b,e1,e2,q⟩:=hz9;subst e1 e2;cases rx;cases ry;exact SeqAt.RcNeAt.bool_bool a b X.prog X.w X.xe _ ⟨.bl _,H,I,rfl,q⟩
set_option tactic.hygienic true in
theorem AI (ha:DE X m a fa) (hb:DE X m' b fb):DT X (.Compare a [.NotEq] [b] pos) (fun δ=>AN (fa δ) (fb δ)):=
 (bq yK ha hb (i6 _)).imp fun σ H Q hz=>by
  obtain⟨B,Hk,δ,d,R,e,k⟩:=hz;unfold AN at e;split at e
  ·rename_i a b q1 q2
   obtain rfl:=Zb e;exact two R q1 q2 fun v u H' s R' r1 r2=>by simp only[Rep]at r1 r2;exact⟨a,b,r1,r2,_,rfl,k H' s⟩
  ·contradiction
end
end L2
namespace L2
open PySem
noncomputable def ifV {α:Type}(c:Option Bool) (x y:Option α):Option α:=match c with|some true=>x|some false=>y|none=>none
noncomputable def s0 (x y:Option D):Option D:=match x with|some d=>some d|none=>y
noncomputable def neX (x:Option (D×DEnv)) (fb:DEnv->Option D):Option (Bool×DEnv):=ac x fun p=>match neO (some p.1) (fb p.2)with|some c=>some (c,p.2)|none=>none
section
variable{X:Cx}{m mm:Bool}{a b c:Expr}{rest:List Expr}{fa fb:DEnv->Option D}{fc:DEnv->Option Bool}{pos:Pos}
theorem AE (hc:DT X c fc) (ha:DE X mm a fa) (hb:DE X mm b fb):DE X mm (.IfExp c a b pos) (fun δ=>ifV (fc δ) (fa δ) (fb δ)):=tP hc ha hb
theorem sF {f1 f2:DEnv->Option D}(h1:DF X a f1) (h2:DF X a f2):DF X a (fun δ=>s0 (f1 δ) (f2 δ)):=BB h1 h2
theorem wm {ga:DEnv->Option (D×DEnv)}(hu:X.A.units+64<cLine) (ha:DX X a ga) (hb:DE X false b fb) (hm:behindInMarks .NotEq b=false:=by rfl):DTX X (.Compare a [.NotEq] [b] pos) (fun δ=>neX (ga δ) fb):=Az hu ha hb hm
end
noncomputable def Txb (bl:List Str) (mg:Str->Option Value):Prop:=∀x∈bl,mg x=none
theorem Txb.get {bl:List Str}{mg:Str->Option Value}{x:Str}(T:Txb bl mg) (h:decide (x∈bl)=true):mg x=none:=T x (ZF h)
theorem us0 {P:List Value->Prop}(h:P []) (us:List Value) (e:us.length=0):P us:=by
 cases us with
 |nil=>exact h
 |cons _ _=>contradiction
theorem usS {n:Nat}{P:List Value->Prop}(h:∀a us,us.length=n->P (a::us)) (us:List Value) (e:us.length=n+1):P us:=by
 cases us with
 |nil=>contradiction
 |cons a us=>exact h a us (Nat.succ.inj e)
noncomputable def Df (K:PySem.W.Frag) (mg:Str->Option Value) (x:Str) (st:Stmt):Prop:=∃f fd,Fun K x x st f fd/\mg x=some (.ref f)
noncomputable def DfC (K:PySem.W.Frag) (mg:Str->Option Value) (x:Str) (st:Stmt) (c:Addr):Prop:=∃f fd,Fun K x x st f fd/\mg x=some (.ref f)/\fd.code=.ref c
section
variable{P:Program}{w:World}{K:PySem.W.Frag}{mg:Str->Option Value}{base:Heap}{x:Str}{st:Stmt}{f:Addr}
theorem df_mk {h:Heap}{oc:Value}{od an:Option Addr}{sl:Array (Option Value)}{kV dc pm cd ct:Value}(X:K.In h) (G:h.Ns mainGlobals mg) (a:PySem.W.nsIn K mainGlobals x=some (some (.ref f)))
  (l:K.lookup f=some ⟨oc,od,.func (PySem.W.fnOf x x (bA st) (aM st) (aq st) .none kV dc pm an cd ct),sl⟩) (c:PySem.W.codeIn K cd x=true) (k:PySem.W.keepIn K (.ref f)=true):Df K mg x st:=
 ⟨f,_,rf l c k,PySem.W.mg_of X G a⟩
theorem dfC_mk {h:Heap}{oc:Value}{od an:Option Addr}{sl:Array (Option Value)}{kV dc pm ct:Value}{cc:Addr}(X:K.In h) (G:h.Ns mainGlobals mg) (a:PySem.W.nsIn K mainGlobals x=some (some (.ref f)))
  (l:K.lookup f=some ⟨oc,od,.func (PySem.W.fnOf x x (bA st) (aM st) (aq st) .none kV dc pm an (.ref cc) ct),sl⟩) (c:PySem.W.codeIn K (.ref cc) x=true) (k:PySem.W.keepIn K (.ref f)=true):DfC K mg x st cc:=
 ⟨f,_,rf l c k,PySem.W.mg_of X G a,rfl⟩
theorem mkF {fd:FuncData}{k:Nat}(n:Nat) (N:List Str) (g:DEnv->Option Out) (F:Fun K x x st f fd) (hm:mg x=some (.ref f)) (S:FnScope N (N.take n) (aq st))
  (hb:∀(kV doc pm:Value) (an:Option Addr) (cdv ct:Value) (us:List Value),us.length=(N.take n).length->bindArgs (PySem.W.fnOf x x (bA st) (aM st) (aq st) .none kV doc pm an cdv ct) ⟨us,[]⟩=pure ((N.take n).zip us))
  (body:∀X:Cx,X.prog=P->X.w=w->X.K=K->X.mg=mg->X.base=base->Has X N (aq st)->(∀x,X.fn x=true)->PassesOwn (model X.prog X.w) X.A X.env X.xe->Room k X.A->DSs X (aM st) g):
  FnOk P w K mg base CX0 (k+1) f fd (N.take n) (spM K (bp N.length (N.take n).length g))/\FnM P w K mg base (k+1) x (bp N.length (N.take n).length g):=
 zV (P:=P) (w:=w) (base:=base) (g:=g) F S (F.binds hb) hm (by rw[YX];exact Nat.min_le_right ..) fun cdv A outer s H E hr=>body _ rfl rfl rfl rfl rfl (AY S.nd) (fun y=>rfl) PassesOwn.never hr
theorem mk {k:Nat}(n:Nat) (N:List Str) (g:DEnv->Option Out) (D:Df K mg x st) (S:FnScope N (N.take n) (aq st))
  (hb:∀(kV doc pm:Value) (an:Option Addr) (cdv ct:Value) (us:List Value),us.length=(N.take n).length->bindArgs (PySem.W.fnOf x x (bA st) (aM st) (aq st) .none kV doc pm an cdv ct) ⟨us,[]⟩=pure ((N.take n).zip us))
  (body:∀X:Cx,X.prog=P->X.w=w->X.K=K->X.mg=mg->X.base=base->Has X N (aq st)->(∀x,X.fn x=true)->PassesOwn (model X.prog X.w) X.A X.env X.xe->Room k X.A->DSs X (aM st) g):FnM P w K mg base (k+1) x (bp N.length (N.take n).length g):=by
 obtain⟨f,fd,F,hm⟩:=D;exact(mkF n N g F hm S hb body).2
end
end L2
namespace JP
open PySem L2
inductive Ce where|nm (w:Str)|bk (n:Int)
inductive Te where|any (l:Str)|nm (w:Str)
noncomputable instance:Inhabited Ce:=⟨.bk 0⟩
noncomputable instance:DecidableEq Ce:=fun _ _=>Classical.propDecidable _
noncomputable instance:DecidableEq Te:=fun _ _=>Classical.propDecidable _
noncomputable def ceD:Ce->D|.nm w=>.tup [.str "name",.str w]|.bk n=>.tup [.str "blank",.int n]
noncomputable def teD:Te->D|.any l=>.tup [.str "any",.str l]|.nm w=>.tup [.str "name",.str w]
theorem kF {a b:Ce}(h:ceD a=ceD b):a=b:=by
 cases a<;>cases b<;>simp[ceD]at h
 ·rw[h]
 ·rw[h]
noncomputable abbrev Row:=Str×List Ce
noncomputable abbrev Pat:=Str×List Te
noncomputable def ax (r:Row):D:=.tup [.str r.1,.tup (r.2.map ceD)]
noncomputable def aG (p:Pat):D:=.tup [.str p.1,.tup (p.2.map teD)]
noncomputable abbrev Fit:=Str->Ce
noncomputable def ev (φ:Fit):Te->Ce|.any l=>φ l|.nm w=>.nm w
noncomputable def se (rows:List Row) (φ:Fit) (p:Pat):Prop:=∃r∈rows,r.1=p.1/\r.2=p.2.map (ev φ)
noncomputable def ans:List Te->List Str
 |[]=>[]
 |.any l::ts=>l::ans ts
 |.nm _::ts=>ans ts
theorem dS {φ ψ:Fit}:∀{ts:List Te},(∀l∈ans ts,φ l=ψ l)->ts.map (ev φ)=ts.map (ev ψ)
 |[],_=>rfl
 |.any l::ts,h=>by
  rw[Zf,Zf,dS (ts:=ts) fun l' hl=>h l' (Ze _ hl)]
  simp only[ev];rw[h l (Zg ..)]
 |.nm w::ts,h=>by rw[Zf,Zf,dS (ts:=ts) h];rfl
theorem mZ {rows:List Row}{φ ψ:Fit}{p:Pat}(h:∀l∈ans p.2,φ l=ψ l) (i:se rows φ p):se rows ψ p:=by
 obtain⟨r,h1,h2,h3⟩:=i;exact⟨r,h1,h2,by rw[h3,dS h]⟩
noncomputable abbrev Bi:=List (Str×Ce)
noncomputable def gt (b:Bi) (l:Str):Option Ce:=(b.find? fun q=>decide (q.1=l)).map (·.2)
theorem ck (b:Bi) (k:Str) (c:Ce) (l:Str):gt ((k,c)::b) l=if k=l then some c else gt b l:=by
 unfold gt;rw[List.find?_cons]
 by_cases h:k=l<;>simp[h]
theorem jh (l:Str):∀(b b':Bi),gt (b++b') l=(gt b l).or (gt b' l)
 |[],b'=>by simp[gt]
 |(k,c)::b,b'=>by
  rw[List.cons_append,ck,ck,jh l b b'];split<;>simp
noncomputable def bnd:List Te->List Ce->Bi->Option Bi
 |.any l::ts,c::cs,b=>(match gt b l with|some c'=>if c'=c then bnd ts cs b else none|none=>bnd ts cs (b++[(l,c)]))
 |.nm w::ts,c::cs,b=>if Ce.nm w=c then bnd ts cs b else none
 |_,_,b=>some b
theorem aR:∀{ts:List Te}{cs:List Ce}{b b':Bi},ts.length=cs.length->bnd ts cs b=some b'->(∀l c,gt b l=some c->gt b' l=some c)/\(∀l∈ans ts,∃c,gt b' l=some c)/\∀φ:Fit,(∀l∈ans ts,gt b' l=some (φ l))->cs=ts.map (ev φ)
 |[],[],b,b',_,h=>by simp only[bnd,ZG]at h;subst h;exact⟨fun y y h=>h,fun y h=>by simp[ans]at h,fun y y=>rfl⟩
 |.any l::ts,c::cs,b,b',hl,h=>by
  simp only[bnd]at h;have hl':ts.length=cs.length:=by simpa using hl
  cases e:gt b l with
  |some c'=>
    rw[e]at h;dsimp only at h;obtain⟨ec,h9⟩:=ifS h;subst ec;obtain⟨h1,h2,h3⟩:=aR hl' h9;refine⟨h1,fun l' hl'=>?_,fun φ hφ=>?_⟩
    ·rcases ZA.mp hl' with rfl|hm
     ·exact⟨_,h1 _ _ e⟩
     ·exact h2 l' hm
    ·have:=hφ l (Zg ..)
     rw[h1 _ _ e]at this;rw[Zf,<-h3 φ fun l' hm=>hφ l' (Ze _ hm)]
     simp only[ev];rw[Zb this]
  |none=>
   rw[e]at h;dsimp only at h;obtain⟨h1,h2,h3⟩:=aR hl' h;have hg:gt b' l=some c:=h1 l c (by rw[jh,e];simp[gt])
   refine⟨fun l' c' e'=>h1 l' c' (by rw[jh,e'];rfl),fun l' hl'=>?_,fun φ hφ=>?_⟩
   ·rcases ZA.mp hl' with rfl|hm
    ·exact⟨_,hg⟩
    ·exact h2 l' hm
   ·have:=hφ l (Zg ..)
    rw[hg]at this;rw[Zf,<-h3 φ fun l' hm=>hφ l' (Ze _ hm)]
    simp only[ev];rw[Zb this]
 |.nm w::ts,c::cs,b,b',hl,h=>by
  simp only[bnd]at h;split at h
  ·rename_i ec
   subst ec;obtain⟨h1,h2,h3⟩:=aR (by simpa using hl) h
   exact⟨h1,h2,fun φ hφ=>by rw[Zf,<-h3 φ hφ];rfl⟩
  ·contradiction
theorem bP {φ:Fit}:∀(ts:List Te) (b:Bi),(∀l c,gt b l=some c->φ l=c)->∃b',bnd ts (ts.map (ev φ)) b=some b'/\∀l c,gt b' l=some c->φ l=c
 |[],b,h=>⟨b,rfl,h⟩
 |.any l::ts,b,h=>by
  simp only[Zf,ev,bnd];cases e:gt b l with
  |some c=>
   simp only;rw[Zm (h l c e).symm];exact bP ts b h
  |none=>
   refine bP ts _ fun l' c hc=>?_
   rw[jh]at hc;cases e':gt b l' with
   |some c'=>rw[e']at hc;simp at hc;subst hc;exact h _ _ e'
   |none=>
    rw[e']at hc;simp only[Option.none_or]at hc;rw[ck]at hc;split at hc
    ·rename_i q;subst q;exact Zb hc
    ·simp[gt]at hc
 |.nm w::ts,b,h=>by
  simp only[Zf,ev,bnd,Z6];exact bP ts b h
noncomputable def eV (p:Pat) (r:Row):Option Bi:=if r.1=p.1/\r.2.length=p.2.length then bnd p.2 r.2 [] else none
noncomputable def binds (rows:List Row) (p:Pat):List Bi:=rows.filterMap (eV p)
theorem cR {rows:List Row}{p:Pat}{b:Bi}(h:b∈binds rows p):(∀l∈ans p.2,∃c,gt b l=some c)/\∀φ:Fit,(∀l∈ans p.2,gt b l=some (φ l))->se rows φ p:=by
 obtain⟨r,hr,e⟩:=List.mem_filterMap.mp h;unfold eV at e;split at e
 ·rename_i c
  obtain⟨_,h2,h3⟩:=aR c.2.symm e;exact⟨h2,fun φ hφ=>⟨r,hr,c.1,h3 φ hφ⟩⟩
 ·contradiction
theorem nO {rows:List Row}{p:Pat}{φ:Fit}(h:se rows φ p):∃b∈binds rows p,∀l∈ans p.2,gt b l=some (φ l):=by
 obtain⟨r,hr,h1,h2⟩:=h;obtain⟨b,e,hb⟩:=bP (φ:=φ) p.2 [] (fun l c e=>by simp[gt]at e)
 have hm:eV p r=some b:=by unfold eV;rw[Zm ⟨h1,by rw[h2];simp⟩,h2];exact e
 have hin:b∈binds rows p:=List.mem_filterMap.mpr ⟨r,hr,hm⟩;refine⟨b,hin,fun l hl=>?_⟩
 obtain⟨c,hc⟩:=(cR hin).1 l hl;rw[hc,hb l c hc]
noncomputable def vl (b:Bi) (ls:List Str):List Ce:=ls.map fun l=>(gt b l).getD default
noncomputable abbrev Gr:=List (List Ce×List (List Ce))
noncomputable def ki:Gr->List Ce->List Ce->Gr
 |[],k,e=>[(k,[e])]
 |p::r,k,e=>if p.1=k then(p.1,if e∈p.2 then p.2 else p.2++[e])::r else p::ki r k e
noncomputable def b7 (g:Gr) (k:List Ce):List (List Ce):=((g.find? fun q=>decide (q.1=k)).map (·.2)).getD []
theorem aN (g:Gr) (q:List Ce×List (List Ce)) (k:List Ce):b7 (q::g) k=if q.1=k then q.2 else b7 g k:=by
 unfold b7;rw[List.find?_cons]
 by_cases h:q.1=k<;>simp[h]
theorem lK:∀(g:Gr) (k e k' x:List Ce),x∈b7 (ki g k e) k'↔x∈b7 g k'\/(k'=k/\x=e)
 |[],k,e,k',x=>by
  unfold ki;rw[aN]
  by_cases h:k=k'
  ·simp[h,b7]
  ·simp[h,b7];intro z;exact absurd z.symm h
 |p::r,k,e,k',x=>by
  unfold ki
  by_cases h:p.1=k
  ·rw[Zm h,aN,aN]
   dsimp only
   by_cases h':p.1=k'
   ·rw[Zm h',Zm h']
    have hk:k'=k:=h'.symm.trans h;split
    ·rename_i m
     constructor
     ·exact .inl
     ·rintro(q|⟨_,rfl⟩)
      ·exact q
      ·exact m
    ·simp[hk]
   ·rw[Zo h',Zo h']
    constructor
    ·exact .inl
    ·rintro(q|⟨rfl,_⟩)
     ·exact q
     ·exact absurd h h'
  ·rw[Zo h,aN,aN]
   by_cases h':p.1=k'
   ·rw[Zm h',Zm h']
    constructor
    ·exact .inl
    ·rintro(q|⟨rfl,_⟩)
     ·exact q
     ·exact absurd h' h
   ·rw[Zo h',Zo h'];exact lK r k e k' x
noncomputable def grp (bs:List Bi) (sh ad:List Str):Gr:=bs.foldl (fun g b=>ki g (vl b sh) (vl b ad)) []
theorem lB (bs:List Bi) (sh ad:List Str) (k x:List Ce):x∈b7 (grp bs sh ad) k↔∃b∈bs,vl b sh=k/\vl b ad=x:=by
 have key:∀(bs:List Bi) (g:Gr),x∈b7 (bs.foldl (fun g b=>ki g (vl b sh) (vl b ad)) g) k↔x∈b7 g k\/∃b∈bs,vl b sh=k/\vl b ad=x:=by
  intro bs
  induction bs with
  |nil=>intro g;simp
  |cons b bs ih=>
   intro g;rw[List.foldl_cons,ih,lK];constructor
   ·rintro((q|⟨q1,q2⟩)|⟨b',m,q⟩)
    ·exact .inl q
    ·exact .inr ⟨b,Zg ..,q1.symm,q2.symm⟩
    ·exact .inr ⟨b',Ze _ m,q⟩
   ·rintro(q|⟨b',m,q1,q2⟩)
    ·exact .inl (.inl q)
    ·rcases ZA.mp m with rfl|m
     ·exact .inl (.inr ⟨q1.symm,q2.symm⟩)
     ·exact .inr ⟨b',m,q1,q2⟩
 rw[grp,key];simp[b7]
noncomputable def aQ (ls known:List Str):List Nat:=ls.map fun l=>known.idxOf l
noncomputable def pk (c:List Ce) (ps:List Nat):List Ce:=ps.map fun i=>c.getD i default
theorem bd {φ:Fit}{ls known:List Str}(h:∀l∈ls,l∈known):pk (known.map φ) (aQ ls known)=ls.map φ:=by
 unfold pk aQ;rw[List.map_map];refine Yd fun l hl=>?_
 have hi:=Yu (h l hl);simp[hi]
noncomputable def ins (x:List Ce) (l:List (List Ce)):List (List Ce):=if x∈l then l else l++[x]
theorem xP {x y:List Ce}{l:List (List Ce)}:y∈ins x l↔y∈l\/y=x:=by
 unfold ins;split
 ·constructor
  ·exact .inl
  ·rintro(h|rfl)<;>assumption
 ·simp
theorem zf {x:List Ce}{l:List (List Ce)}(h:l.Nodup):(ins x l).Nodup:=by
 unfold ins;split
 ·exact h
 ·rename_i n
  rw[List.nodup_append];exact⟨h,by simp,fun a ha b hb e=>n (by simp at hb;rw[<-hb,<-e];exact ha)⟩
noncomputable def m4 (g:Gr) (sp kp:List Nat) (l:List (List Ce)) (c:List Ce):List (List Ce):=(b7 g (pk c sp)).foldl (fun l a=>ins (pk c kp++a) l) l
noncomputable def ext (found:List (List Ce)) (sp kp:List Nat) (g:Gr):List (List Ce):=found.foldl (m4 g sp kp) []
theorem wI (g:Gr) (sp kp:List Nat) (c:List Ce) (l:List (List Ce)) (h:l.Nodup):(m4 g sp kp l c).Nodup/\∀x,x∈m4 g sp kp l c↔x∈l\/∃a∈b7 g (pk c sp),x=pk c kp++a:=by
 unfold m4;generalize b7 g (pk c sp)=as
 induction as generalizing l with
 |nil=>exact⟨h,fun x=>by simp⟩
 |cons a as ih=>
  rw[List.foldl_cons];obtain⟨h1,h2⟩:=ih _ (zf h);refine⟨h1,fun x=>?_⟩
  rw[h2,xP];simp only[ZA,exists_eq_or_imp];constructor
  ·rintro((q|q)|q)
   ·exact .inl q
   ·exact .inr (.inl q)
   ·exact .inr (.inr q)
  ·rintro(q|q|q)
   ·exact .inl (.inl q)
   ·exact .inl (.inr q)
   ·exact .inr q
theorem AL (found:List (List Ce)) (sp kp:List Nat) (g:Gr):(ext found sp kp g).Nodup/\∀x,x∈ext found sp kp g↔∃c∈found,∃a∈b7 g (pk c sp),x=pk c kp++a:=by
 have key:∀(found l:List (List Ce)),l.Nodup->(found.foldl (m4 g sp kp) l).Nodup/\∀x,x∈found.foldl (m4 g sp kp) l↔x∈l\/∃c∈found,∃a∈b7 g (pk c sp),x=pk c kp++a:=by
  intro found
  induction found with
  |nil=>intro l h;exact⟨h,fun x=>by simp⟩
  |cons c found ih=>
   intro l h;obtain⟨e1,e2⟩:=wI g sp kp c l h;obtain⟨h1,h2⟩:=ih _ e1;rw[List.foldl_cons];refine⟨h1,fun x=>?_⟩
   rw[h2,e2];simp only[ZA,exists_eq_or_imp];constructor
   ·rintro((q|q)|q)
    ·exact .inl q
    ·exact .inr (.inl q)
    ·exact .inr (.inr q)
   ·rintro(q|q|q)
    ·exact .inl (.inl q)
    ·exact .inl (.inr q)
    ·exact .inr q
 obtain⟨h1,h2⟩:=key found [] Yg;exact⟨h1,fun x=>by rw[ext,h2];simp⟩
structure Jn (rows:List Row) (wanted:List Str) (done rest:List Pat) (known:List Str) (found:List (List Ce)):Prop where
 nk:known.Nodup
 nf:found.Nodup
 mem:∀x,x∈found↔∃φ:Fit,x=known.map φ/\∀p∈done,se rows φ p
 has:∀l,(∃p∈done,l∈ans p.2)->(l∈wanted\/∃p∈rest,l∈ans p.2)->l∈known
 few:∀l∈known,l∈wanted\/∃p∈rest,l∈ans p.2
 old:∀l∈known,∃p∈done,l∈ans p.2
theorem uO (rows:List Row) (wanted:List Str) (rest:List Pat):Jn rows wanted [] rest [] [[]]:=
 ⟨Yg,by simp,fun x=>⟨fun h=>⟨fun y=>default,by simpa using h,fun p hp=>(by contradiction)⟩,fun hz=>by obtain⟨φ,e,_⟩:=hz;simpa using e⟩,fun l hz=>by obtain⟨p,hp,_⟩:=hz;exact(by contradiction),fun l h=>(by contradiction),fun l h=>(by contradiction)⟩
theorem wH {rows:List Row}{wanted:List Str}{done rest:List Pat}{p:Pat}{known own later:List Str}{found:List (List Ce)}(J:Jn rows wanted done (p::rest) known found)
  (hown:∀l,l∈own↔l∈ans p.2) (hno:own.Nodup) (hlat:∀l,l∈later↔l∈wanted\/∃q∈rest,l∈ans q.2):
  Jn rows wanted (done++[p]) rest (known.filter (fun l=>decide (l∈later))++own.filter fun l=>decide (l∈later)&&!decide (l∈known))
   (ext found (aQ (own.filter fun l=>decide (l∈known)) known) (aQ (known.filter fun l=>decide (l∈later)) known)
    (grp (binds rows p) (own.filter fun l=>decide (l∈known)) (own.filter fun l=>decide (l∈later)&&!decide (l∈known)))):=by
 obtain⟨e1,e2⟩:=AL found (aQ (own.filter fun l=>decide (l∈known)) known) (aQ (known.filter fun l=>decide (l∈later)) known) (grp (binds rows p) (own.filter fun l=>decide (l∈known)) (own.filter fun l=>decide (l∈later)&&!decide (l∈known)))
 have memS:∀l∈own.filter (fun l=>decide (l∈known)),l∈known:=fun l hl=>by simp at hl;exact hl.2
 have memK:∀l∈known.filter (fun l=>decide (l∈later)),l∈known:=fun l hl=>by simp at hl;exact hl.1
 refine⟨?_,e1,fun x=>?_,fun l hd hw=>?_,fun l hl=>?_,fun l hl=>?_⟩
 ·rw[List.nodup_append]
  refine⟨J.nk.filter _,hno.filter _,fun a ha b hb e=>?_⟩
  subst e;simp at ha hb;exact hb.2.2 ha.1
 ·rw[e2]
  constructor
  ·rintro⟨c,hc,a,ha,rfl⟩
   obtain⟨φ,rfl,hφ⟩:=(J.mem c).mp hc;rw[bd memS,lB]at ha;obtain⟨b,hb,h1,h2⟩:=ha;obtain⟨bs1,bs2⟩:=cR hb;have hv:∀l∈own,∃c,gt b l=some c:=fun l hl=>bs1 l ((hown l).mp hl)
   refine⟨fun l=>if l∈own then(gt b l).getD default else φ l,?_,fun q hq=>?_⟩
   ·rw[bd memK,Z4]
    congr 1
    ·refine Yd fun l hl=>?_
     split
     ·rename_i ho
      have hs:l∈own.filter (fun l=>decide (l∈known)):=by simp;exact⟨ho,memK l hl⟩
      have:=YV (fun z=>z) h1
      unfold vl at h1;exact((List.map_inj_left.mp h1) l hs).symm
     ·rfl
    ·rw[<-h2]
     unfold vl;refine Yd fun l hl=>?_
     simp at hl;rw[Zm hl.1]
   ·rcases List.mem_append.mp hq with hq|hq
    ·refine mZ (fun l hl=>?_) (hφ q hq)
     split
     ·rename_i ho
      have hk:l∈known:=J.has l ⟨q,hq,hl⟩ (.inr ⟨p,Zg ..,(hown l).mp ho⟩);have hs:l∈own.filter (fun l=>decide (l∈known)):=by simp;exact⟨ho,hk⟩
      unfold vl at h1;exact((List.map_inj_left.mp h1) l hs).symm
     ·rfl
    ·rw[List.mem_singleton.mp hq]
     refine bs2 _ fun l hl=>?_
     have ho:=(hown l).mpr hl;obtain⟨c,hc⟩:=hv l ho;rw[Zm ho,hc];rfl
  ·rintro⟨φ,rfl,hφ⟩
   obtain⟨b,hb,hbl⟩:=nO (hφ p (Zt _ (List.mem_singleton.mpr rfl)));refine⟨known.map φ,(J.mem _).mpr ⟨φ,rfl,fun q hq=>hφ q (Z2 _ hq)⟩,(own.filter fun l=>decide (l∈later)&&!decide (l∈known)).map φ,?_,?_⟩
   ·rw[bd memS,lB]
    refine⟨b,hb,?_,?_⟩
    ·unfold vl;refine Yd fun l hl=>?_
     rw[hbl l ((hown l).mp (List.mem_filter.mp hl).1)];rfl
    ·unfold vl;refine Yd fun l hl=>?_
     rw[hbl l ((hown l).mp (List.mem_filter.mp hl).1)];rfl
   ·rw[bd memK,Z4]
 ·have hla:l∈later:=(hlat l).mpr hw
  obtain⟨q,hq,hl⟩:=hd
  by_cases hk:l∈known
  ·exact Z2 _ (List.mem_filter.mpr ⟨hk,by simpa using hla⟩)
  ·rcases List.mem_append.mp hq with hq|hq
   ·exfalso
    refine hk (J.has l ⟨q,hq,hl⟩ ?_)
    rcases hw with hw|⟨q',hq',hl'⟩
    ·exact .inl hw
    ·exact .inr ⟨q',Ze _ hq',hl'⟩
   ·rw[List.mem_singleton.mp hq]at hl
    exact Zt _ (List.mem_filter.mpr ⟨(hown l).mpr hl,by simp[hla,hk]⟩)
 ·rcases List.mem_append.mp hl with hl|hl
  ·exact(hlat l).mp (by simpa using(List.mem_filter.mp hl).2)
  ·have:=(List.mem_filter.mp hl).2
   simp at this;exact(hlat l).mp this.1
 ·rcases List.mem_append.mp hl with hl|hl
  ·obtain⟨q,hq,h⟩:=J.old l (List.mem_filter.mp hl).1
   exact⟨q,Z2 _ hq,h⟩
  ·exact⟨p,Zt _ (List.mem_singleton.mpr rfl),(hown l).mp (List.mem_filter.mp hl).1⟩
theorem Ak {rows:List Row}{wanted:List Str}{done:List Pat}{known:List Str}{found:List (List Ce)}(J:Jn rows wanted done [] known found) (hw:∀l∈wanted,∃p∈done,l∈ans p.2):
  (found.map fun c=>pk c (aQ wanted known)).Nodup/\∀x,x∈found.map (fun c=>pk c (aQ wanted known))↔∃φ:Fit,x=wanted.map φ/\∀p∈done,se rows φ p:=by
 have wk:∀l∈wanted,l∈known:=fun l hl=>J.has l (hw l hl) (.inl hl)
 have kw:∀l∈known,l∈wanted:=fun l hl=>(J.few l hl).elim id fun hz=>by obtain⟨p,hp,_⟩:=hz;contradiction
 constructor
 ·rw[List.nodup_iff_pairwise_ne,List.pairwise_map]
  refine J.nf.imp_of_mem fun{c d} hc hd hne e=>hne ?_
  obtain⟨φ,rfl,_⟩:=(J.mem c).mp hc;obtain⟨ψ,rfl,_⟩:=(J.mem d).mp hd;rw[bd wk,bd wk]at e;exact Yd fun l hl=>(List.map_inj_left.mp e) l (kw l hl)
 ·intro x
  rw[List.mem_map];constructor
  ·rintro⟨c,hc,rfl⟩
   obtain⟨φ,rfl,hφ⟩:=(J.mem c).mp hc;exact⟨φ,bd wk,hφ⟩
  ·rintro⟨φ,rfl,hφ⟩
   exact⟨known.map φ,(J.mem _).mpr ⟨φ,rfl,hφ⟩,bd wk⟩
end JP
namespace K33
open PySem L2
local macro_rules| `(tactic|walk_at "z")=>do
 let a <-#[`nv,`jN,`u9,`sM,`mE,`xV,`AE,`AC,`zI,`xd,`sX,`wx,`tK,`zj,`AA,`yO,`zU,`zr,`ya,`pJ,`zC,`sC,`BX,`vB,`A0,`Bm,`ze,`Be,`mF,`xx,`wO,`t7,`iG,`gX,`ti,`mP,`lQ,`tQ,`qx,`om,`xR,`oE,`ox,`uZ,`sF,`vY,`uc,`pC,`uR,`xM,`AD,`yD,`Ab,`zD,`BP,`t9,`Bw,`BY,`oI,`vt,`AI,`rA,`mD,`wL,`xC,`tO,`hV,`nY,`fY,`wv,`Ax,`BN,`qL,`AF,`mr,`eF,`bR,`jl,`yc,`kI,`Ao,`wA,`wl,`yC,`yG,`gY,`t5,`wJ,`yf,`xA,`j6,`o8,`qE,`wm,`wQ,`Au,`B3,`Ag,`v7,`wf,`qD,`lA,`de,`DF.share,`vc,`Aw].mapM fun n=> `(Lean.Parser.Tactic.tacticSeq|refine' @$(Lean.mkIdent n) ..)
 `(tactic|first
 |fail_if_success refine(?_:(_:Prop))
 |rfl
 |assumption
 |(((with_reducible first $[| $a]* |refine' PW.pt ..)<;>walk_at "z");all_goals exact false)
 |(have h:=(by assumption:Has _ _ _);first|exact Has.nm h (by decide +kernel)|exact Has.nm (Has.comp h ..) (by decide +kernel)|exact Has.nm (Has.comp (Has.comp h ..) ..) (by decide +kernel))
 |(have h:=(by assumption:Has _ _ _);first|exact Has.lc h (by assumption) (by decide +kernel)|exact Has.lcl (Has.comp h ..) (by decide +kernel)|exact Has.lcl (Has.comp (Has.comp h ..) ..) (by decide +kernel))
 |(refine Gb.gl ?_;walk_at "z")
 |(have h:=(by assumption:Has _ _ _);first|exact Has.gb h (by decide +kernel)|exact Has.gb (Has.comp h ..) (by decide +kernel)|exact Has.gb (Has.comp (Has.comp h ..) ..) (by decide +kernel))
 |(have h:=(by assumption:Txb _ _);exact Txb.get h (by decide +kernel))
 |(have h:=(by assumption:Room _ _);exact Room.mono h (by decide))
 |(have h:=(by assumption:Has _ _ _);first|exact Has.calm h|exact Has.calm (Has.comp h ..)|exact Has.calm (Has.comp (Has.comp h ..) ..))
 |(have h:=(by assumption:Has _ _ _);first|exact Has.nd h|exact Has.nd (Has.comp h ..)|exact Has.nd (Has.comp (Has.comp h ..) ..))
 |(have h:=(by assumption:Has _ _ _);first|exact CompScope.of' h (by decide +kernel)|exact CompScope.of' (Has.comp h ..) (by decide +kernel))
 |exact fz _
 |exact qX _ _ (by decide)
 |exact BU
 |exact A9
 |exact Bs
 |exact A8
 |exact AK
 |exact xj
 |exact Ae
 |exact rU
 |exact mC
 |exact bi (bi fo)
 |exact bi fo
 |exact bi (bi (bi fo))
 |(have h:=(by assumption:Has _ _ _);exact dn h (by decide +kernel))
 |decide +kernel
 |decide
 |(simp;done)
 |(intros;rfl)
 |(intro _;walk_at "z"))
local macro_rules| `(tactic|walk_at "sc")=> `(tactic|first
 |exact⟨rfl,rfl,rfl,by decide +kernel,rfl,by decide +kernel,by decide +kernel⟩)
local macro_rules| `(tactic|walk_at "bi")=> `(tactic|first
 |exact fun _ _ _ _ _ _=>usS fun _=>us0 rfl
 |exact fun _ _ _ _ _ _=>usS fun _=>usS fun _=>us0 rfl
 |exact fun _ _ _ _ _ _=>usS fun _=>usS fun _=>usS fun _=>us0 rfl
 |exact fun _ _ _ _ _ _=>usS fun _=>usS fun _=>usS fun _=>usS fun _=>us0 rfl
 |exact fun _ _ _ _ _ _=>usS fun _=>usS fun _=>usS fun _=>usS fun _=>usS fun _=>us0 rfl)
local macro_rules| `(tactic|walk_at "mk")=> `(tactic|first
 |(intro X e1 e2 e3 e4 e5 h f p r;subst e1 e2 e3 e4 e5;have u:=r.units;(conv in aM _=>whnf);walk_at "z"))
noncomputable def top (i:Nat):Stmt:=PySem.Challenge.pw_mustrows_k33_keeps.main.body.getD i (.Pass ⟨0,0,0,0⟩)
noncomputable abbrev CN:Stmt:=top 1
noncomputable abbrev CL:Stmt:=top 3
noncomputable abbrev CG:Stmt:=top 4
noncomputable abbrev CB:Stmt:=top 10
noncomputable abbrev CM:Stmt:=top 9
noncomputable abbrev Cu:Stmt:=top 8
noncomputable abbrev ym:Stmt:=top 7
noncomputable abbrev CS:Stmt:=top 13
noncomputable abbrev Cj:Stmt:=top 11
noncomputable abbrev Cs:Stmt:=top 14
noncomputable abbrev CI:Stmt:=top 12
noncomputable abbrev Cn:Stmt:=top 6
noncomputable abbrev Cb:Stmt:=top 5
noncomputable abbrev Co:Stmt:=top 20
noncomputable abbrev Cl:Stmt:=top 17
noncomputable abbrev CK:Stmt:=top 19
noncomputable abbrev CT:Stmt:=top 21
noncomputable abbrev Cq:Stmt:=top 18
noncomputable abbrev CO:Stmt:=top 16
noncomputable abbrev Cm:Stmt:=top 23
noncomputable abbrev B7:Stmt:=top 24
noncomputable abbrev Ci:Stmt:=top 25
noncomputable abbrev Cg:Stmt:=top 26
noncomputable abbrev CA:Stmt:=top 27
noncomputable abbrev CD:Stmt:=top 28
noncomputable abbrev B9:Stmt:=top 29
noncomputable abbrev CC:Stmt:=top 30
noncomputable abbrev CP:Stmt:=top 31
noncomputable abbrev CU:Stmt:=top 32
noncomputable abbrev Ca:Stmt:=top 33
noncomputable abbrev lG:Stmt:=top 34
noncomputable abbrev Txt:(Str->Option Value)->Prop:=Txb (["any","bool","dict","enumerate","isinstance","len","list","range","set","sorted","sum","tuple","zip"]:List Str)
noncomputable abbrev Eo:List Str:=["row","cell_for","cell"]
noncomputable abbrev yR (δ:DEnv):Option D:=bX (rd false 1 δ) (rd false 2 δ) (rd false 2 δ)
noncomputable abbrev Bk (δ:DEnv):Option Out:=cQ (cY (aa (ixO (rd false 0 δ) (some (.int 0))) (aa (cj (ao (ac (qZ (ixO (rd false 0 δ) (some (.int 1)))) (bt false [false,true,false] (ae 2) (fun δ=>some true) yR δ)))) (some []))))
noncomputable def f_q0:List D->Option (D×Bool):=bp 3 2 Bk
noncomputable abbrev DC:List Str:=["patterns","fit","cell_for","pattern","cell","letter"]
noncomputable abbrev vI (δ:DEnv):Option D:=cY (aa (cY (aa (some (.str "any")) (aa (rd false 5 δ) (some [])))) (aa (rd false 4 δ) (some [])))
noncomputable abbrev AH (δ:DEnv):Option D:=shO (ac (aa (rd false 3 δ) (aa (rd false 2 δ) (some []))) f_q0)
noncomputable abbrev Bf (δ:DEnv):Option Out:=aC (bc 2 (fW (ao (ac (b8 (rd false 1 δ)) (bt false [false,false,false,false,false,false] (aP (aj (ae 5) (aj (ae 4) (toNil)))) (fun δ=>some true) vI δ)))) δ) (fun δ=>dJ (ao (ac (b8 (rd false 0 δ)) (bt false [false,false,true,false,false,false] (ae 3) (fun δ=>some true) AH δ))))
noncomputable def f_q1:List D->Option (D×Bool):=bp 6 2 Bf
noncomputable abbrev DZ:List Str:=["patterns","letters","table","terms","term"]
noncomputable abbrev mw (δ:DEnv):Option D:=ixO (rd false 4 δ) (some (.int 1))
noncomputable abbrev pj (δ:DEnv):Option Out:=xJ 1 (ao (ac (qZ (rd false 3 δ)) (bt false [false,false,false,false,false] (ae 4) (fun δ=>eqO (ixO (rd false 4 δ) (some (.int 0))) (some (.str "any"))) mw δ))) δ
noncomputable abbrev vi (δ:DEnv):Option Out:=dJ (b9 (rd false 1 δ))
noncomputable abbrev A2 (δ:DEnv):Option Out:=aC (dC 1 (ca (some [])) δ) (fun δ=>aC (ac (b8 (rd false 0 δ)) fun ds=>aw (fun d δ=>ac ((aP (aj (ae 2) (aj (ae 3) (toNil)))) d δ) pj) ds δ) (fun δ=>vi (frzE 1 δ)))
noncomputable def f_q2:List D->Option (D×Bool):=bp 5 1 A2
noncomputable abbrev Ec:List Str:=["terms","cells","binding","term","cell"]
noncomputable abbrev uX (δ:DEnv):Option (Bool×DEnv):=neX (sdO 2 (ixO (rd false 3 δ) (some (.int 1))) (rd false 4 δ) δ) (fun δ=>rd false 4 δ)
noncomputable abbrev jY (δ:DEnv):Option Out:=ifO (eqO (ixO (rd false 3 δ) (some (.int 0))) (some (.str "any"))) (ifX (uX δ) (fun δ=>cQ (some .non)) (fun δ=>nextO δ)) (ifO (neO (rd false 3 δ) (rd false 4 δ)) (cQ (some .non)) (nextO δ))
noncomputable abbrev Bc (δ:DEnv):Option Out:=aC (dC 2 (some (.dK [] [])) δ) (fun δ=>aC (ac (xh true true (rd false 0 δ) (rd false 1 δ)) fun ds=>aw (fun d δ=>ac ((aP (aj (ae 3) (aj (ae 4) (toNil)))) d δ) jY) ds δ) (fun δ=>dJ (bz 2 δ)))
noncomputable def f_q8:List D->Option (D×Bool):=bp 5 2 Bc
noncomputable abbrev Ea:List Str:=["rows","pattern","found","table","cells","binding"]
noncomputable abbrev fP (δ:DEnv):Option Out:=ifO (oB (eqO (rd false 3 δ) (ixO (rd false 1 δ) (some (.int 0)))) (eqO (dM (rd false 4 δ)) (dM (ixO (rd false 1 δ) (some (.int 1)))))) (aC (bc 5 (shO (ac (aa (ixO (rd false 1 δ) (some (.int 1))) (aa (rd false 4 δ) (some []))) f_q8)) δ) (fun δ=>ifO (eI (jZ (rd false 5 δ))) (kG 2 (rd false 5 δ) δ) (nextO δ))) (nextO δ)
noncomputable abbrev Bu (δ:DEnv):Option Out:=aC (dC 2 (ca (some [])) δ) (fun δ=>aC (ac (b8 (rd false 0 δ)) fun ds=>aw (fun d δ=>ac ((aP (aj (ae 3) (aj (ae 4) (toNil)))) d δ) fP) ds δ) (fun δ=>dJ (bz 2 δ)))
noncomputable def f_q7:List D->Option (D×Bool):=bp 6 2 Bu
noncomputable abbrev CW:List Str:=["pattern","known","letter"]
noncomputable abbrev u6 (δ:DEnv):Option D:=ofB (inO (rd false 2 δ) (rd false 1 δ))
noncomputable abbrev BI (δ:DEnv):Option Out:=cQ (AT (ao (ac (b8 (frO (ac (aa (ca (aa (rd false 0 δ) (some []))) (some [])) f_q2))) (bt false [false,true,false] (ae 2) (fun δ=>some true) u6 δ))))
noncomputable def f_q6:List D->Option (D×Bool):=bp 3 2 BI
noncomputable abbrev BJ:List Str:=["rows","body","known","rest","placed","bound","linked","taken","pattern","pair"]
noncomputable abbrev qU (δ:DEnv):Option D:=cY (aa (rd false 8 δ) (aa (frO (ac (aa (rd false 0 δ) (aa (rd false 8 δ) (some []))) f_q7)) (some [])))
noncomputable abbrev jd (δ:DEnv):Option D:=dM (ixO (rd false 0 δ) (some (.int 1)))
noncomputable abbrev zM (δ:DEnv):Option D:=ixO (rd false 9 δ) (some (.int 0))
noncomputable abbrev lU (δ:DEnv):Option Bool:=tyB (shO (ac (aa (ixO (rd false 9 δ) (some (.int 0))) (aa (rd false 5 δ) (some []))) f_q6))
noncomputable abbrev rP (δ:DEnv):Option Out:=kG 4 (rd false 7 δ) δ
noncomputable abbrev iH (δ:DEnv):Option Bool:=nV (rd true 3 δ)
noncomputable abbrev jS (δ:DEnv):Option Out:=aC (bc 5 (vh (rJ (rd false 2 δ)) (flO (ac (aa (ao (fX (ac (b8 (rd true 4 δ)) (bt true [false,false,false,false,false,false,false,false,false,false] (ae 9) (fun δ=>some true) zM δ)))) (some [])) f_q2))) δ) (fun δ=>rK 3 6 7 9 [false,false,false,false,false,true,false,false,false,false] lU δ rP)
noncomputable abbrev g_q5 (δ:DEnv):Option Out:=aC (dC 3 (f8 (ao (ac (b8 (rd false 1 δ)) (bt false [true,false,false,false,false,false,false,false,false,false] (ae 8) (fun δ=>some true) qU δ))) (fun d=>jd [some (d,false)])) δ) (fun δ=>aC (dC 4 (ca (some [])) δ) (fun δ=>aC (cK iH jS 1000 δ) (fun δ=>dJ (bz 4 δ))))
noncomputable def f_q5:List D->Option (D×Bool):=bp 10 3 g_q5
noncomputable abbrev Dk:List Str:=["letters","known","letter"]
noncomputable abbrev vD (δ:DEnv):Option D:=yp (rd false 1 δ) (rd false 2 δ)
noncomputable abbrev A3 (δ:DEnv):Option Out:=dJ (ao (ac (b8 (rd false 0 δ)) (bt false [false,true,false] (ae 2) (fun δ=>some true) vD δ)))
noncomputable def f_qb:List D->Option (D×Bool):=bp 3 2 A3
noncomputable abbrev Dx:List Str:=["found","shared","added","groups","binding","key","group","letter"]
noncomputable abbrev e_q9_1 (δ:DEnv):Option D:=wj (rd false 4 δ) (rd false 7 δ)
noncomputable abbrev vJ (δ:DEnv):Option D:=wj (rd false 4 δ) (rd false 7 δ)
noncomputable abbrev vV (δ:DEnv):Option (List D):=b8 (rd false 0 δ)
noncomputable abbrev mS (δ:DEnv):Option D:=cj (ao (ac (b8 (rd false 1 δ)) (bt false [false,false,false,false,true,false,false,false] (ae 7) (fun δ=>some true) e_q9_1 δ)))
noncomputable abbrev mT (δ:DEnv):Option D:=cj (ao (ac (b8 (rd false 2 δ)) (bt false [false,false,false,false,true,false,false,false] (ae 7) (fun δ=>some true) vJ δ)))
noncomputable abbrev BQ (δ:DEnv):Option Out:=Ar 3 4 5 6 vV mS mT δ
noncomputable def f_q9:List D->Option (D×Bool):=bp 8 3 BQ
noncomputable abbrev Ej:List Str:=["cells","places","place"]
noncomputable abbrev vw (δ:DEnv):Option D:=ixO (rd false 0 δ) (rd false 2 δ)
noncomputable abbrev Bv (δ:DEnv):Option Out:=cQ (cj (ao (ac (b8 (rd false 1 δ)) (bt false [true,false,false] (ae 2) (fun δ=>some true) vw δ))))
noncomputable def f_qc:List D->Option (D×Bool):=bp 3 2 Bv
noncomputable abbrev Ds:List Str:=["found","shared_places","kept_places","groups","longer","cells","kept","added"]
noncomputable abbrev qh (δ:DEnv):Option Out:=kn 4 (rm (rd false 6 δ) (rd false 7 δ)) (some (.bl true)) δ
noncomputable abbrev qY (δ:DEnv):Option Out:=aC (bc 6 (shO (ac (aa (rd false 5 δ) (aa (rd false 2 δ) (some []))) f_qc)) δ) (fun δ=>ac (uE (bX (rd false 3 δ) (shO (ac (aa (rd false 5 δ) (aa (rd false 1 δ) (some []))) f_qc)) (some (.dD [] [])))) fun ds=>aw (fun d δ=>ac ((ae 7) d δ) qh) ds δ)
noncomputable abbrev vL (δ:DEnv):Option Out:=dJ (lN (rd false 4 δ))
noncomputable abbrev A4 (δ:DEnv):Option Out:=aC (dC 4 (some (.dD [] [])) δ) (fun δ=>aC (ac (b8 (rd false 0 δ)) fun ds=>aw (fun d δ=>ac ((ae 5) d δ) qY) ds δ) (fun δ=>vL (frzE 4 δ)))
noncomputable def f_qa:List D->Option (D×Bool):=bp 8 4 A4
noncomputable abbrev Dv:List Str:=["rows","body","wanted","known","found","pairs","place","pair","later","own","shared","added","kept","groups","wanted_places","letter","cells","behind"]
noncomputable abbrev vQ (δ:DEnv):Option D:=ixO (rd false 17 δ) (some (.int 0))
noncomputable abbrev yW (δ:DEnv):Option D:=rd false 15 δ
noncomputable abbrev zY (δ:DEnv):Option D:=rd false 15 δ
noncomputable abbrev At (δ:DEnv):Option D:=rd false 15 δ
noncomputable abbrev uW (δ:DEnv):Option Out:=aC (bc 13 (frO (ac (aa (ixO (rd false 7 δ) (some (.int 1))) (aa (rd false 10 δ) (aa (rd false 11 δ) (some [])))) f_q9)) δ) (fun δ=>aC (bc 4 (frO (ac (aa (rd false 4 δ) (aa (frO (ac (aa (rd false 10 δ) (aa (rd false 3 δ) (some []))) f_qb)) (aa (frO (ac (aa (rd false 12 δ) (aa (rd false 3 δ) (some []))) f_qb)) (aa (rd false 13 δ) (some []))))) f_qa)) δ) (fun δ=>bc 3 (vh (rd false 12 δ) (rd false 11 δ)) δ))
noncomputable abbrev vC (δ:DEnv):Option Out:=aC (dC 12 (ao (ac (b8 (rd false 3 δ)) (bt false [false,false,false,false,false,false,false,false,true,false,false,false,false,false,false,false,false,false] (ae 15) (fun δ=>inO (rd false 15 δ) (rd false 8 δ)) At δ))) δ) (fun δ=>uW (frzE 12 δ))
noncomputable abbrev u0 (δ:DEnv):Option Out:=aC (dC 11 (ao (ac (b8 (rd false 9 δ)) (bt false [false,false,false,true,false,false,false,false,true,false,false,false,false,false,false,false,false,false] (ae 15) (fun δ=>oB (inO (rd false 15 δ) (rd false 8 δ)) (bU (rd false 15 δ) (rd false 3 δ))) zY δ))) δ) (fun δ=>vC (frzE 11 δ))
noncomputable abbrev mQ (δ:DEnv):Option Out:=aC (bc 8 (vh (rJ (rd false 2 δ)) (frO (ac (aa (ao (ac (b8 (lm (rd false 5 δ) (eX (g7 (rd false 6 δ) (some (.int 1)))) (some none))) (bt false [false,false,false,false,false,false,false,false,false,false,false,false,false,false,false,false,false,false] (ae 17) (fun δ=>some true) vQ δ))) (some [])) f_q2))) δ) (fun δ=>aC (bc 9 (frO (ac (aa (ca (aa (ixO (rd false 7 δ) (some (.int 0))) (some []))) (some [])) f_q2)) δ) (fun δ=>aC (dC 10 (ao (ac (b8 (rd false 9 δ)) (bt false [false,false,false,true,false,false,false,false,false,false,false,false,false,false,false,false,false,false] (ae 15) (fun δ=>inO (rd false 15 δ) (rd false 3 δ)) yW δ))) δ) (fun δ=>u0 (frzE 10 δ))))
noncomputable abbrev vG (δ:DEnv):Option D:=shO (ac (aa (rd false 16 δ) (aa (rd false 14 δ) (some []))) f_qc)
noncomputable abbrev Bj (δ:DEnv):Option Out:=aC (bc 5 (frO (ac (aa (rd false 0 δ) (aa (rd false 1 δ) (aa (rd false 3 δ) (some [])))) f_q5)) δ) (fun δ=>aC (ac (sr (rd false 5 δ)) fun ds=>aw (fun d δ=>ac ((aP (aj (ae 6) (aj (ae 7) (toNil)))) d δ) mQ) ds δ) (fun δ=>aC (bc 14 (frO (ac (aa (rd false 2 δ) (aa (rd false 3 δ) (some []))) f_qb)) δ) (fun δ=>dJ (s0 (fg (ao (ac (b8 (rd false 4 δ)) (bt false [false,false,false,false,false,false,false,false,false,false,false,false,false,false,true,false,false,false] (ae 16) (fun δ=>some true) vG δ)))) (i9 .tt (ao (ac (b8 (rd false 4 δ)) (bt false [false,false,false,false,false,false,false,false,false,false,false,false,false,false,true,false,false,false] (ae 16) (fun δ=>some true) vG δ))))))))
noncomputable def f_q4:List D->Option (D×Bool):=bp 18 5 Bj
noncomputable abbrev Dh:List Str:=["rows","body","wanted"]
noncomputable abbrev BS (δ:DEnv):Option Out:=dJ (frO (ac (aa (rd false 0 δ) (aa (rd false 1 δ) (aa (rd false 2 δ) (aa (ca (some [])) (aa (ca (aa (cY (some [])) (some []))) (some [])))))) f_q4))
noncomputable def f_q3:List D->Option (D×Bool):=bp 3 3 BS
noncomputable abbrev Ev:List Str:=["rule"]
noncomputable abbrev BH (δ:DEnv):Option Out:=cQ (cY (aa (some (.str "same")) (aa (cY (aa (ixO (rd false 0 δ) (some (.int 2))) (aa (ixO (rd false 0 δ) (some (.int 3))) (some [])))) (some []))))
noncomputable def f_qh:List D->Option (D×Bool):=bp 1 1 BH
noncomputable abbrev DH:List Str:=["rule","known","letter"]
noncomputable abbrev zo (δ:DEnv):Option D:=rd false 2 δ
noncomputable abbrev AR (δ:DEnv):Option Out:=aC (ifO (eqO (ixO (rd false 0 δ) (some (.int 0))) (some (.str "same"))) (dJ (frO (ac (aa (ca (aa (shO (ac (aa (rd false 0 δ) (some [])) f_qh)) (some []))) (some [])) f_q2))) (nextO δ)) (fun δ=>aC (bc 1 (frO (ac (aa (ixO (rd false 0 δ) (some (.int 1))) (some [])) f_q2)) δ) (fun δ=>dJ (ao (ac (b8 (frO (ac (aa (ixO (rd false 0 δ) (some (.int 2))) (some [])) f_q2))) (bt false [false,true,false] (ae 2) (fun δ=>inO (rd false 2 δ) (rd false 1 δ)) zo δ)))))
noncomputable def f_qe:List D->Option (D×Bool):=bp 3 1 AR
noncomputable abbrev D3:List Str:=["cells"]
noncomputable abbrev AZ (δ:DEnv):Option Out:=cQ (ofB (neO (ixO (rd false 0 δ) (some (.int 0))) (ixO (rd false 0 δ) (some (.int 1)))))
noncomputable def f_qg:List D->Option (D×Bool):=bp 1 1 AZ
noncomputable abbrev Dw:List Str:=["rule","fit"]
noncomputable abbrev B1 (δ:DEnv):Option Out:=cQ (ixO (ixO (frO (ac (aa (ca (aa (shO (ac (aa (rd false 0 δ) (some [])) f_qh)) (some []))) (aa (rd false 1 δ) (some []))) f_q1)) (some (.int 0))) (some (.int 1)))
noncomputable def f_qi:List D->Option (D×Bool):=bp 2 2 B1
noncomputable abbrev Dc:List Str:=["rows","rule","letters","found","kept","cells"]
noncomputable abbrev vT (δ:DEnv):Option D:=rd false 5 δ
noncomputable abbrev Aa (δ:DEnv):Option D:=cY (aa (rd false 5 δ) (aa (some (.bl true)) (some [])))
noncomputable abbrev yU (δ:DEnv):Option D:=rd false 5 δ
noncomputable abbrev AS (δ:DEnv):Option Out:=aC (bc 2 (frO (ac (aa (rd false 1 δ) (some [])) f_qe)) δ) (fun δ=>aC (bc 3 (frO (ac (aa (rd false 0 δ) (aa (ixO (rd false 1 δ) (some (.int 1))) (aa (rd false 2 δ) (some [])))) f_q3)) δ) (fun δ=>aC (ifO (eqO (ixO (rd false 1 δ) (some (.int 0))) (some (.str "same"))) (dJ (ao (ac (b8 (rd false 3 δ)) (bt false [false,true,true,false,false,false] (ae 5) (fun δ=>tyB (shO (ac (aa (shO (ac (aa (rd false 1 δ) (aa (oQ false true (rd false 2 δ) (rd false 5 δ)) (some []))) f_qi)) (some [])) f_qg))) vT δ)))) (nextO δ)) (fun δ=>aC (bc 4 (fW (ao (ac (b8 (frO (ac (aa (rd false 0 δ) (aa (ixO (rd false 1 δ) (some (.int 2))) (aa (rd false 2 δ) (some [])))) f_q3))) (bt false [false,false,false,false,false,false] (ae 5) (fun δ=>some true) Aa δ)))) δ) (fun δ=>dJ (ao (ac (b8 (rd false 3 δ)) (bt false [false,false,false,false,true,false] (ae 5) (fun δ=>eI (oA (rd false 5 δ) (rd false 4 δ))) yU δ)))))))
noncomputable def f_qf:List D->Option (D×Bool):=bp 6 2 AS
noncomputable abbrev C3:List Str:=["rows","rules","rule"]
noncomputable abbrev rN (δ:DEnv):Option Out:=ifO (nV (frO (ac (aa (rd false 0 δ) (aa (rd false 2 δ) (some []))) f_qf))) (cQ (some (.bl false))) (nextO δ)
noncomputable abbrev A5 (δ:DEnv):Option Out:=aC (ac (b8 (rd false 1 δ)) fun ds=>aw (fun d δ=>ac ((ae 2) d δ) rN) ds δ) (fun δ=>cQ (some (.bl true)))
noncomputable def f_qd:List D->Option (D×Bool):=bp 3 2 A5
noncomputable abbrev Di:List Str:=["_law_cell","_law_j","_law_number"]
noncomputable abbrev B6 (δ:DEnv):Option Out:=aC (bc 2 (cr (g7 (lS (rd false 0 δ) (g7 (lS (some (.int 2)) (rd false 1 δ)) (some (.int 3)))) (rd false 1 δ)) (some (.int 2147483629))) δ) (fun δ=>cQ (cr (lS (g7 (lS (rd false 2 δ) (rd false 2 δ)) (some (.int 1))) (some (.int 48271))) (some (.int 2147483629))))
noncomputable def f_qj:List D->Option (D×Bool):=bp 3 2 B6
noncomputable abbrev Ek:List Str:=["_law_cell","_law_letters_here","_law_size","_law_stem","_law_at","_law_found","_law_k","_law_sign"]
noncomputable abbrev pY (δ:DEnv):Option D:=vj (rd false 1 δ) (cr (shO (ac (aa (rd false 0 δ) (aa (g7 (some (.int 2)) (rd false 6 δ)) (some []))) f_qj)) (some (.int 26)))
noncomputable abbrev rM (δ:DEnv):Option Out:=aC (bc 7 (vj (rd false 1 δ) (cr (g7 (uq (rd false 1 δ) (vj (rd false 3 δ) (rd false 4 δ))) (lS (some (.int 7)) (rd false 6 δ))) (some (.int 26)))) δ) (fun δ=>kG 5 (yo (yo (mW (rd false 3 δ) (some none) (eX (rd false 4 δ))) (rd false 7 δ)) (mW (rd false 3 δ) (eX (g7 (rd false 4 δ) (some (.int 1)))) (some none))) δ)
noncomputable abbrev BM (δ:DEnv):Option Out:=aC (bc 1 (some (.str "abcdefghijklmnopqrstuvwxyz")) δ) (fun δ=>aC (bc 2 (g7 (some (.int 2)) (cr (shO (ac (aa (rd false 0 δ) (aa (some (.int 1)) (some []))) f_qj)) (some (.int 6)))) δ) (fun δ=>aC (bc 3 (oW (some (.str "")) (ao (ac (oM (rd false 2 δ)) (bt false [true,true,false,false,false,false,false,false] (ae 6) (fun δ=>some true) pY δ)))) δ) (fun δ=>aC (bc 4 (cr (shO (ac (aa (rd false 0 δ) (aa (some (.int 9)) (some []))) f_qj)) (rd false 2 δ)) δ) (fun δ=>aC (dC 5 (ca (some [])) δ) (fun δ=>aC (ac (oM (some (.int 4))) fun ds=>aw (fun d δ=>ac ((ae 6) d δ) rM) ds δ) (fun δ=>dJ (bz 5 δ)))))))
noncomputable def f_qk:List D->Option (D×Bool):=bp 8 1 BM
noncomputable abbrev D9:List Str:=["_law_cell"]
noncomputable abbrev Bg (δ:DEnv):Option Out:=cQ (cY (aa (frO (ac (aa (rd false 0 δ) (some [])) f_qk)) (aa (cr (shO (ac (aa (rd false 0 δ) (aa (some (.int 11)) (some []))) f_qj)) (some (.int 400000))) (aa (g7 (some (.int 1)) (cr (shO (ac (aa (rd false 0 δ) (aa (some (.int 12)) (some []))) f_qj)) (some (.int 150000)))) (some [])))))
noncomputable def f_ql:List D->Option (D×Bool):=bp 1 1 Bg
noncomputable abbrev Dp:List Str:=["_law_cell","_law_letters_here","_law_start","_law_step","_law_k"]
noncomputable abbrev ql (δ:DEnv):Option D:=vj (rd false 1 δ) (cr (g7 (rd false 2 δ) (lS (rd false 3 δ) (rd false 4 δ))) (some (.int 26)))
noncomputable abbrev BF (δ:DEnv):Option Out:=aC (bc 1 (some (.str "ABCDEFGHIJKLMNOPQRSTUVWXYZ")) δ) (fun δ=>aC (bc 2 (cr (shO (ac (aa (rd false 0 δ) (aa (some (.int 13)) (some []))) f_qj)) (some (.int 26))) δ) (fun δ=>aC (bc 3 (ixO (ca (some [(.int 1),(.int 3),(.int 5),(.int 7),(.int 9),(.int 11)])) (cr (shO (ac (aa (rd false 0 δ) (aa (some (.int 14)) (some []))) f_qj)) (some (.int 6)))) δ) (fun δ=>dJ (ao (ac (oM (some (.int 3))) (bt false [false,true,true,true,false] (ae 4) (fun δ=>some true) ql δ))))))
noncomputable def f_qm:List D->Option (D×Bool):=bp 5 1 BF
noncomputable abbrev Dj:List Str:=["_law_world_here","_law_number","_law_words_here","_law_start","_law_step"]
noncomputable abbrev AX (δ:DEnv):Option Out:=aC (si (rd false 0 δ) (aP (aj (ae 2) (aj (ae 3) (aj (ae 4) (toNil))))) δ) (fun δ=>aC (ifO (eqO (cr (rd false 1 δ) (some (.int 2))) (some (.int 0))) (cQ (cY (aa (some (.str "blank")) (aa (g7 (rd false 3 δ) (lS (rd false 4 δ) (cr (AJ (rd false 1 δ) (some (.int 2))) (some (.int 4))))) (some []))))) (nextO δ)) (fun δ=>cQ (cY (aa (some (.str "name")) (aa (ixO (rd false 2 δ) (cr (AJ (rd false 1 δ) (some (.int 2))) (some (.int 4)))) (some []))))))
noncomputable def f_qn:List D->Option (D×Bool):=bp 5 2 AX
noncomputable abbrev Dz:List Str:=["_law_world_here","_law_cell","_law_cells","_law_k"]
noncomputable abbrev oU (δ:DEnv):Option D:=shO (ac (aa (rd false 0 δ) (aa (shO (ac (aa (rd false 1 δ) (aa (g7 (some (.int 3)) (rd false 3 δ)) (some []))) f_qj)) (some []))) f_qn)
noncomputable abbrev vN (δ:DEnv):Option Out:=cQ (cY (aa (ixO (ixO (rd false 0 δ) (some (.int 0))) (cr (shO (ac (aa (rd false 1 δ) (aa (some (.int 2)) (some []))) f_qj)) (some (.int 2)))) (aa (cj (rd false 2 δ)) (some []))))
noncomputable abbrev Bb (δ:DEnv):Option Out:=aC (dC 2 (ao (ac (oM (g7 (some (.int 1)) (cr (shO (ac (aa (rd false 1 δ) (aa (some (.int 1)) (some []))) f_qj)) (some (.int 2))))) (bt false [true,true,false,false] (ae 3) (fun δ=>some true) oU δ))) δ) (fun δ=>vN (frzE 2 δ))
noncomputable def f_qo:List D->Option (D×Bool):=bp 4 2 Bb
noncomputable abbrev C7:List Str:=["_law_rows","_law_found","_law_row_here"]
noncomputable abbrev ma (δ:DEnv):Option Out:=ifO (bU (rd false 2 δ) (rd true 1 δ)) (kG 1 (rd false 2 δ) δ) (nextO δ)
noncomputable abbrev Bp (δ:DEnv):Option Out:=aC (dC 1 (ca (some [])) δ) (fun δ=>aC (ac (b8 (i9 .ts (rd false 0 δ))) fun ds=>aw (fun d δ=>ac ((ae 2) d δ) ma) ds δ) (fun δ=>dJ (bz 1 δ)))
noncomputable def f_qp:List D->Option (D×Bool):=bp 3 1 Bp
noncomputable abbrev Dl:List Str:=["_law_world_here","_law_letters_here","_law_rows","_law_cell","_law_table","_law_cells","_law_terms","_law_k","_law_drawn"]
noncomputable abbrev mL (δ:DEnv):Option Out:=aC (bc 8 (shO (ac (aa (rd false 3 δ) (aa (g7 (some (.int 17)) (rd false 7 δ)) (some []))) f_qj)) δ) (fun δ=>ifO (orO (eqO (ixO (ixO (rd false 5 δ) (rd false 7 δ)) (some (.int 0))) (some (.str "blank"))) (eqO (cr (rd false 8 δ) (some (.int 2))) (some (.int 1)))) (kG 6 (cY (aa (some (.str "any")) (aa (ixO (rd false 1 δ) (cr (AJ (rd false 8 δ) (some (.int 2))) (some (.int 3)))) (some [])))) δ) (kG 6 (ixO (rd false 5 δ) (rd false 7 δ)) δ))
noncomputable abbrev u8 (δ:DEnv):Option Out:=cQ (cY (aa (rd false 4 δ) (aa (cj (rd false 6 δ)) (some []))))
noncomputable abbrev Bl (δ:DEnv):Option Out:=aC (si (shO (ac (aa (rd false 0 δ) (aa (rd false 3 δ) (some []))) f_qo)) (aP (aj (ae 4) (aj (ae 5) (toNil)))) δ) (fun δ=>aC (ifO (neO (rd false 2 δ) (ca (some []))) (si (ixO (rd false 2 δ) (cr (shO (ac (aa (rd false 3 δ) (aa (some (.int 16)) (some []))) f_qj)) (dM (rd false 2 δ)))) (aP (aj (ae 4) (aj (ae 5) (toNil)))) δ) (nextO δ)) (fun δ=>aC (dC 6 (ca (some [])) δ) (fun δ=>aC (ac (oM (dM (rd false 5 δ))) fun ds=>aw (fun d δ=>ac ((ae 7) d δ) mL) ds δ) (fun δ=>u8 (frzE 6 δ)))))
noncomputable def f_qq:List D->Option (D×Bool):=bp 9 4 Bl
noncomputable abbrev DR:List Str:=["_law_world_here","_law_letters_here","_law_rows","_law_cell","_law_body","_law_some","_law_way","_law_head","_law_one","_law_other","_law_term"]
noncomputable abbrev zb (δ:DEnv):Option D:=rd false 10 δ
noncomputable abbrev pV (δ:DEnv):Option D:=ixO (ca (aa (rd false 10 δ) (aa (cY (aa (some (.str "any")) (aa (ixO (rd false 1 δ) (some (.int 0))) (some [])))) (some [])))) (cr (shO (ac (aa (rd false 3 δ) (aa (some (.int 25)) (some []))) f_qj)) (some (.int 2)))
noncomputable abbrev vR (δ:DEnv):Option Out:=aC (bc 6 (cr (shO (ac (aa (rd false 3 δ) (aa (some (.int 24)) (some []))) f_qj)) (some (.int 4))) δ) (fun δ=>aC (ifO (cI gLt (rd false 6 δ) (some (.int 2))) (aC (bc 7 (shO (ac (aa (rd false 0 δ) (aa (rd false 1 δ) (aa (rd false 2 δ) (aa (g7 (lS (rd false 3 δ) (some (.int 3))) (some (.int 1))) (some []))))) f_qq)) δ) (fun δ=>aC (ifO (eqO (rd false 6 δ) (some (.int 0))) (bc 7 (cY (aa (ixO (rd false 4 δ) (some (.int 0))) (aa (cj (ao (ac (qZ (ixO (rd false 4 δ) (some (.int 1)))) (bt false [false,true,false,true,false,false,false,false,false,false,false] (ae 10) (fun δ=>some true) pV δ)))) (some [])))) δ) (nextO δ)) (fun δ=>cQ (cY (aa (some (.str "must")) (aa (ca (aa (rd false 4 δ) (some []))) (aa (ca (aa (rd false 7 δ) (some []))) (some [])))))))) (nextO δ)) (fun δ=>aC (ifO (eqO (rd false 5 δ) (ca (some []))) (bc 5 (ca (aa (cY (aa (some (.str "name")) (aa (ixO (ixO (rd false 0 δ) (some (.int 0))) (some (.int 0))) (some [])))) (aa (cY (aa (some (.str "name")) (aa (ixO (ixO (rd false 0 δ) (some (.int 0))) (cr (shO (ac (aa (rd false 3 δ) (aa (some (.int 25)) (some []))) f_qj)) (some (.int 2)))) (some [])))) (some [])))) δ) (nextO δ)) (fun δ=>aC (bc 8 (ixO (rd false 5 δ) (cr (shO (ac (aa (rd false 3 δ) (aa (some (.int 26)) (some []))) f_qj)) (dM (rd false 5 δ)))) δ) (fun δ=>aC (bc 9 (ixO (rd false 5 δ) (cr (shO (ac (aa (rd false 3 δ) (aa (some (.int 27)) (some []))) f_qj)) (dM (rd false 5 δ)))) δ) (fun δ=>aC (ifO (oB (eqO (rd false 6 δ) (some (.int 3))) (eqO (cr (shO (ac (aa (rd false 3 δ) (aa (some (.int 28)) (some []))) f_qj)) (some (.int 3))) (some (.int 0)))) (bc 9 (cY (aa (some (.str "name")) (aa (ixO (ixO (rd false 0 δ) (some (.int 0))) (cr (shO (ac (aa (rd false 3 δ) (aa (some (.int 29)) (some []))) f_qj)) (some (.int 4)))) (some [])))) δ) (nextO δ)) (fun δ=>cQ (cY (aa (some (.str "same")) (aa (ca (aa (rd false 4 δ) (some []))) (aa (rd false 8 δ) (aa (rd false 9 δ) (some []))))))))))))
noncomputable abbrev BV (δ:DEnv):Option Out:=aC (bc 4 (shO (ac (aa (rd false 0 δ) (aa (rd false 1 δ) (aa (rd false 2 δ) (aa (rd false 3 δ) (some []))))) f_qq)) δ) (fun δ=>aC (dC 5 (ao (ac (qZ (ixO (rd false 4 δ) (some (.int 1)))) (bt false [false,false,false,false,false,false,false,false,false,false,false] (ae 10) (fun δ=>eqO (ixO (rd false 10 δ) (some (.int 0))) (some (.str "any"))) zb δ))) δ) (fun δ=>vR (frzE 5 δ)))
noncomputable def f_qr:List D->Option (D×Bool):=bp 11 4 BV
noncomputable abbrev D1:List Str:=["_law_fit_here","_law_pattern_here","_law_row_here","_law_found","_law_term","_law_cell"]
noncomputable abbrev jj (δ:DEnv):Option Out:=aC (ifO (oB (eqO (ixO (rd false 4 δ) (some (.int 0))) (some (.str "name"))) (neO (rd false 4 δ) (rd false 5 δ))) (cQ (some .non)) (nextO δ)) (fun δ=>ifO (eqO (ixO (rd false 4 δ) (some (.int 0))) (some (.str "any"))) (aC (ifO (oB (oA (ixO (rd false 4 δ) (some (.int 1))) (rd true 3 δ)) (neO (wj (rd true 3 δ) (ixO (rd false 4 δ) (some (.int 1)))) (rd false 5 δ))) (cQ (some .non)) (nextO δ)) (fun δ=>kn 3 (ixO (rd false 4 δ) (some (.int 1))) (rd false 5 δ) δ)) (nextO δ))
noncomputable abbrev BC (δ:DEnv):Option Out:=aC (ifO (orO (neO (ixO (rd false 2 δ) (some (.int 0))) (ixO (rd false 1 δ) (some (.int 0)))) (neO (dM (ixO (rd false 2 δ) (some (.int 1)))) (dM (ixO (rd false 1 δ) (some (.int 1)))))) (cQ (some .non)) (nextO δ)) (fun δ=>aC (dC 3 (iV (rd false 0 δ)) δ) (fun δ=>aC (ac (xh true true (ixO (rd false 1 δ) (some (.int 1))) (ixO (rd false 2 δ) (some (.int 1)))) fun ds=>aw (fun d δ=>ac ((aP (aj (ae 4) (aj (ae 5) (toNil)))) d δ) jj) ds δ) (fun δ=>dJ (bz 3 δ))))
noncomputable def f_qs:List D->Option (D×Bool):=bp 6 3 BC
noncomputable abbrev DK:List Str:=["_law_rows","_law_rule_here","_law_row_here","_law_fit_here","_law_ways","_law_term","_law_other"]
noncomputable abbrev rW (δ:DEnv):Option D:=ifV (eqO (ixO (rd false 5 δ) (some (.int 0))) (some (.str "any"))) (bX (rd false 3 δ) (ixO (rd false 5 δ) (some (.int 1))) (rd false 5 δ)) (rd false 5 δ)
noncomputable abbrev vA (δ:DEnv):Option Out:=ifO (neO (ixO (rd false 4 δ) (some (.int 0))) (ixO (rd false 4 δ) (some (.int 1)))) (cQ (some (.bl false))) (nextO δ)
noncomputable abbrev qB (δ:DEnv):Option D:=rd false 6 δ
noncomputable abbrev dY (δ:DEnv):Option Out:=aC (bc 3 (shO (ac (aa (some (.dK [] [])) (aa (ixO (ixO (rd false 1 δ) (some (.int 1))) (some (.int 0))) (aa (rd false 2 δ) (some [])))) f_qs)) δ) (fun δ=>aC (ifO (jZ (rd false 3 δ)) (some (.cont δ)) (nextO δ)) (fun δ=>ifO (eqO (ixO (rd false 1 δ) (some (.int 0))) (some (.str "same"))) (aC (dC 4 (ao (ac (qZ (sI (rd false 1 δ) (eX (some (.int 2))) (some none))) (bt false [false,false,false,true,false,false,false] (ae 5) (fun δ=>some true) rW δ))) δ) (fun δ=>vA (frzE 4 δ))) (ifO (eqO (ao (ac (b8 (rd false 0 δ)) (bt false [false,true,false,true,false,false,false] (ae 6) (fun δ=>eI (jZ (shO (ac (aa (rd false 3 δ) (aa (ixO (ixO (rd false 1 δ) (some (.int 2))) (some (.int 0))) (aa (rd false 6 δ) (some [])))) f_qs)))) qB δ))) (ca (some []))) (cQ (some (.bl false))) (nextO δ))))
noncomputable abbrev Ba (δ:DEnv):Option Out:=aC (ac (b8 (rd false 0 δ)) fun ds=>aw (fun d δ=>ac ((ae 2) d δ) dY) ds δ) (fun δ=>cQ (some (.bl true)))
noncomputable def f_qt:List D->Option (D×Bool):=bp 7 2 Ba
noncomputable abbrev N_law:List Str:=["_law_script","_law_cells","_law_total","_law_world_here","_law_letters_here","_law_rows","_law_rules","_law_kept_here","_law_good","_law_some","_law_found","_law_due","_law_k","_law_rule_here","_law_cell"]
noncomputable abbrev kH (δ:DEnv):Option D:=shO (ac (aa (rd false 3 δ) (aa (rd false 14 δ) (some []))) f_qo)
noncomputable abbrev km (δ:DEnv):Option D:=shO (ac (aa (rd false 3 δ) (aa (rd false 4 δ) (aa (rd false 5 δ) (aa (g7 (lS (rd false 2 δ) (some (.int 7))) (lS (rd false 12 δ) (rd false 12 δ))) (some []))))) f_qr)
noncomputable abbrev pb (δ:DEnv):Option D:=shO (ac (aa (rd false 3 δ) (aa (rd false 4 δ) (aa (rd false 5 δ) (aa (g7 (lS (rd false 2 δ) (some (.int 7))) (lS (rd false 12 δ) (rd false 12 δ))) (some []))))) f_qr)
noncomputable abbrev pH (δ:DEnv):Option D:=rd false 13 δ
noncomputable abbrev oY (δ:DEnv):Option D:=rd false 13 δ
noncomputable abbrev gM (δ:DEnv):Option Out:=aC (bc 10 (shO (ac (aa (rd false 5 δ) (aa (lm (rd false 9 δ) (some none) (eX (some (.int 8)))) (some []))) f_qd)) δ) (fun δ=>aC (bc 11 (ofB (eqO (dM (ao (ac (b8 (lm (rd false 9 δ) (some none) (eX (some (.int 8))))) (bt false [false,false,false,false,false,false,false,false,true,false,false,false,false,false,false] (ae 13) (fun δ=>bU (rd false 13 δ) (rd false 8 δ)) oY δ)))) (some (.int 0)))) δ) (fun δ=>ifO (orO (eI (tyB (AO "bool" (rd false 10 δ)))) (AN (rd false 10 δ) (rd false 11 δ))) (cQ (some (.bl false))) (nextO δ)))
noncomputable abbrev qA (δ:DEnv):Option Out:=aC (bc 7 (ca (aa (rJ (rd false 5 δ)) (aa (ao (ac (oM (dM (rd false 6 δ))) (bt false [false,false,true,true,true,true,false,false,false,false,false,false,false,false,false] (ae 12) (fun δ=>some true) pb δ))) (some [])))) δ) (fun δ=>aC (bc 8 (ao (ac (b8 (rd false 6 δ)) (bt false [false,false,false,false,false,true,false,false,false,false,false,false,false,false,false] (ae 13) (fun δ=>tyB (shO (ac (aa (rd false 5 δ) (aa (rd false 13 δ) (some []))) f_qt))) pH δ))) δ) (fun δ=>aC (ac (b8 (ca (aa (rd false 6 δ) (aa (rd false 8 δ) (aa (vh (rd false 8 δ) (rd false 6 δ)) (aa (ca (some [])) (some []))))))) fun ds=>aw (fun d δ=>ac ((ae 9) d δ) gM) ds δ) (fun δ=>cQ (ofB (eqO (ca (aa (rd false 5 δ) (aa (rd false 6 δ) (some [])))) (rd false 7 δ))))))
noncomputable abbrev v9 (δ:DEnv):Option Out:=aC (bc 1 (lm (rd false 0 δ) (some none) (eX (some (.int 24)))) δ) (fun δ=>aC (bc 2 (cr (zZ (rd false 1 δ)) (some (.int 1000003))) δ) (fun δ=>aC (bc 3 (shO (ac (aa (rd false 2 δ) (some [])) f_ql)) δ) (fun δ=>aC (bc 4 (frO (ac (aa (rd false 2 δ) (some [])) f_qm)) δ) (fun δ=>aC (bc 5 (frO (ac (aa (ao (ac (b8 (rd false 1 δ)) (bt false [false,false,false,true,false,false,false,false,false,false,false,false,false,false,false] (ae 14) (fun δ=>some true) kH δ))) (some [])) f_qp)) δ) (fun δ=>aC (dC 6 (ao (ac (oM (cr (shO (ac (aa (rd false 2 δ) (aa (some (.int 30)) (some []))) f_qj)) (some (.int 9)))) (bt false [false,false,true,true,true,true,false,false,false,false,false,false,false,false,false] (ae 12) (fun δ=>some true) km δ))) δ) (fun δ=>qA (frzE 6 δ)))))))
noncomputable def f_law:List D->Option (D×Bool):=bp 15 1 v9
section
variable{P:Program}{w:World}{K:PySem.W.Frag}{mg:Str->Option Value}{base:Heap}
theorem Dt (T:Txt mg) (D:Df K mg "exchanged" CN):FnM P w K mg base 1 "exchanged" f_q0:=
 mk 2 Eo Bk D (by walk_at "sc") (by walk_at "bi") (by walk_at "mk")
theorem DM (T:Txt mg) (D:Df K mg "filled" CL) (_:FnM P w K mg base 1 "exchanged" f_q0):FnM P w K mg base 2 "filled" f_q1:=
 mk 2 DC Bf D (by walk_at "sc") (by walk_at "bi") (by walk_at "mk")
theorem D6 (T:Txt mg) (D:Df K mg "letters_of" CG):FnM P w K mg base 1 "letters_of" f_q2:=
 mk 1 DZ A2 D (by walk_at "sc") (by walk_at "bi") (by walk_at "mk")
theorem Dq (T:Txt mg) (D:Df K mg "binding_of" CB):FnM P w K mg base 1 "binding_of" f_q8:=
 mk 2 Ec Bc D (by walk_at "sc") (by walk_at "bi") (by walk_at "mk")
theorem DV (T:Txt mg) (D:Df K mg "bindings" CM) (_:FnM P w K mg base 1 "binding_of" f_q8):FnM P w K mg base 2 "bindings" f_q7:=
 mk 2 Ea Bu D (by walk_at "sc") (by walk_at "bi") (by walk_at "mk")
theorem Dd (T:Txt mg) (D:Df K mg "is_linked" Cu) (_:FnM P w K mg base 1 "letters_of" f_q2):FnM P w K mg base 2 "is_linked" f_q6:=
 mk 2 CW BI D (by walk_at "sc") (by walk_at "bi") (by walk_at "mk")
theorem Ad:FnScope BJ (["rows","body","known"]:List Str) (aq ym):=⟨rfl,rfl,rfl,by decide +kernel,rfl,by decide +kernel,by decide +kernel⟩
theorem C8 {X:Cx}(hX:Has X BJ (aq ym)) (hf:∀x,X.fn x=true) (hp:PassesOwn (model X.prog X.w) X.A X.env X.xe) (hr:Room 3 X.A) (T:Txt X.mg) (P_ c_:Addr) (hLP:((P_,("search_order.<locals>.<lambda>":Str)):Addr×Str)∈Lams.tb) (hLq:X.env.qual++"<lambda>"=("search_order.<locals>.<lambda>":Str)) (hLC:PySem.W.CodeHd X.base c_ P_) (hLc:X.env.code=.ref c_) (F_q2:FnM X.prog X.w X.K X.mg X.base 1 "letters_of" f_q2) (F_q7:FnM X.prog X.w X.K X.mg X.base 2 "bindings" f_q7) (F_q6:FnM X.prog X.w X.K X.mg X.base 2 "is_linked" f_q6):
  DSs X (aM ym) g_q5:=by
 have hu:=hr.units;have n1:Nm X 1 "body":=hX.nm (by decide +kernel)
 have n2:Nm X 2 "known":=hX.nm (by decide +kernel)
 have n3:Nm X 3 "rest":=hX.nm (by decide +kernel)
 have l3:Lc X 3 "rest":=hX.lc hf (by decide +kernel)
 have n4:Nm X 4 "placed":=hX.nm (by decide +kernel)
 have l4:Lc X 4 "placed":=hX.lc hf (by decide +kernel)
 have l5:Lc X 5 "bound":=hX.lc hf (by decide +kernel)
 have n6:Nm X 6 "linked":=hX.nm (by decide +kernel)
 have n7:Nm X 7 "taken":=hX.nm (by decide +kernel)
 have l7:Lc X 7 "taken":=hX.lc hf (by decide +kernel)
 have gg_q2:Gb X "letters_of":=hX.gb (by decide +kernel)
 have gg_list:Gb X "list":=hX.gb (by decide +kernel)
 have gg_sorted:Gb X "sorted":=hX.gb (by decide +kernel)
 refine' de ?z1 ?_
 case z1=>
  refine' hV hX.nd l3 ?z2
  case z2=>
   refine' nI (k:=0) (x:="pair") (fb:=jd) (hr.mono (by decide)) gg_sorted.gl (Txb.get (x:="sorted") T (by decide +kernel)) hLP hLq hLC hLc rfl rfl ⟨rfl,rfl,rfl,by decide +kernel,rfl,by decide +kernel,by decide +kernel⟩ (fun y y y y y=>.of_eq rfl) ?z3 ?z4
   case z3=>
    intro _ _ _ _ _ _;exact pJ (mm:=false) ((AY (N:=["pair"]) (by decide +kernel)).gb (x:="len") (by decide +kernel)) (Txb.get (x:="len") T (by decide +kernel)) (sM (nv false ((AY (N:=["pair"]) (by decide +kernel)).nm (i:=0) (by decide +kernel))) (jN (m:=false)))
   case z4=>
    refine' DF.share (m:=false) ?z5
    case z5=>
     refine' pC hX.calm (fz 8) (kI (nv false n1)) (CompScope.of' hX (by decide +kernel)) (fun cl C s₂ H₂ ex pn=>gY (hX.comp _ cl C s₂ H₂ ex pn).nd ((hX.comp _ cl C s₂ H₂ ex pn).lcl (i:=8) (by decide +kernel))) (fun cl C s₂ H₂ ex pn=>j6) ?z6
     case z6=>
      intro cl C s₂ H₂ ex pn;refine' vB ?z7
      case z7=>
       refine' bR (nv false ((hX.comp _ cl C s₂ H₂ ex pn).nm (i:=8) (by decide +kernel))) ?z8
       case z8=>
        refine' bR ?z9 (eF)
        case z9=>
         refine' DF.share (m:=false) ?z10
         case z10=>
          refine' lQ F_q7 (hr.mono (by decide)) ((hX.comp _ cl C s₂ H₂ ex pn).gb (x:="bindings") (by decide +kernel)) ?z11
          case z11=>
           exact bR (nv false ((hX.comp _ cl C s₂ H₂ ex pn).nm (i:=0) (by decide +kernel))) (bR (nv false ((hX.comp _ cl C s₂ H₂ ex pn).nm (i:=8) (by decide +kernel))) (eF))
 refine' de ?z12 ?_
 case z12=>
  exact hV hX.nd l4 (uZ (eF))
 refine de (mr (ft:=iH) (gb:=jS) 1000 hp (vt (nv true n3)) ?_) ?_
 ·refine' de ?z13 ?_
  case z13=>
   refine' rA hX.nd l5 ?z14
   case z14=>
    refine' DF.share (m:=false) ?z15
    case z15=>
     refine' vY ?z16 ?z17
     case z16=>
      exact DF.share (m:=false) (qx gg_list.gl (Txb.get (x:="list") T (by decide +kernel)) (nv false n2))
     case z17=>
      refine' DF.share (m:=false) ?z18
      case z18=>
       refine' iG F_q2 (hr.mono (by decide)) gg_q2 ?z19
       case z19=>
        refine' bR ?z20 (eF)
        case z20=>
         refine' DF.share (m:=true) ?z21
         case z21=>
          refine' mP hX.calm (fz 9) (kI (nv true n4)) (CompScope.of' hX (by decide +kernel)) (fun cl C s₂ H₂ ex pn=>gY (hX.comp _ cl C s₂ H₂ ex pn).nd ((hX.comp _ cl C s₂ H₂ ex pn).lcl (i:=9) (by decide +kernel))) (fun cl C s₂ H₂ ex pn=>j6) ?z22
          case z22=>
           intro cl C s₂ H₂ ex pn;exact sM (nv false ((hX.comp _ cl C s₂ H₂ ex pn).nm (i:=9) (by decide +kernel))) (jN (m:=false))
  refine' uC (r:=3) (j:=9) (iL:=6) (iT:=7) (bs:=[false,false,false,false,false,true,false,false,false,false]) (ft:=lU) (gr:=rP) hX.nd hX.calm n3 n6 n7 l7 (iI hX (by decide +kernel)) (by decide) (by decide) (by decide) (CompScope.of' hX (by decide +kernel)) (fun cl C s₂ H₂ ex pn=>lD (hX.comp _ cl C s₂ H₂ ex pn).nd ((hX.comp _ cl C s₂ H₂ ex pn).lcl (i:=9) (x:="pair") (by decide +kernel)).at' ((hX.comp _ cl C s₂ H₂ ex pn).lcl (i:=9) (x:="pair") (by decide +kernel)).loc ((hX.comp _ cl C s₂ H₂ ex pn).lcl (i:=9) (x:="pair") (by decide +kernel)).fnl) ?z23 (fun cl C s₂ H₂ ex pn=>be ((hX.comp _ cl C s₂ H₂ ex pn).nm (i:=9) (x:="pair") (by decide +kernel)).at' ((hX.comp _ cl C s₂ H₂ ex pn).nm (i:=9) (x:="pair") (by decide +kernel)).vis (by decide) (by decide)) ?_ (dn hX (by decide +kernel)) (by intro _;rfl) (by rfl) (by intro _;rfl) (fun y y=>rfl) (fun y y=>rfl) (by rfl) (by rfl) (by rfl) (by rfl) (by rfl)
  case z23=>
   intro cl C s₂ H₂ ex pn;refine' o8 ?z24
   case z24=>
    refine' vc ?z25
    case z25=>
     refine' mE F_q6 (hr.mono (by decide)) ((hX.comp _ cl C s₂ H₂ ex pn).gb (x:="is_linked") (by decide +kernel)) ?z26
     case z26=>
      exact bR (sM (nv false ((hX.comp _ cl C s₂ H₂ ex pn).nm (i:=9) (by decide +kernel))) (jN (m:=false))) (bR (nv false ((hX.comp _ cl C s₂ H₂ ex pn).nm (i:=5) (by decide +kernel))) (eF))
  refine lA (fY n4 (nv false n7))
 refine lA (mD n4)
theorem Es {c_ P_:Addr}(D:DfC K mg "search_order" ym c_) (T:Txt mg) (hLP:((P_,("search_order.<locals>.<lambda>":Str)):Addr×Str)∈Lams.tb) (hLC:PySem.W.CodeHd base c_ P_) (F_q2:FnM P w K mg base 1 "letters_of" f_q2) (F_q7:FnM P w K mg base 2 "bindings" f_q7) (F_q6:FnM P w K mg base 2 "is_linked" f_q6):
  FnM P w K mg base 4 "search_order" f_q5:=by
 obtain⟨f,fd,F,hm,hcode⟩:=D;have hb:=F.binds (ps:=["rows","body","known"]) (by walk_at "bi")
 have h:=wz (P:=P) (w:=w) (base:=base) (k:=3) (g:=g_q5) F hcode Ad hb hm (by decide) fun A outer s H E hr=>by
  exact @C8 ((kD CX0 P w K mg base BJ "search_order" (aq ym) f (.ref c_) A outer s H E).nox) (AY Ad.nd) (fun y=>rfl) PassesOwn.never hr T P_ c_ hLP rfl hLC rfl F_q2 F_q7 F_q6
 exact h.2
theorem C2 (T:Txt mg) (D:Df K mg "places_of" CS):FnM P w K mg base 1 "places_of" f_qb:=
 mk 2 Dk A3 D (by walk_at "sc") (by walk_at "bi") (by walk_at "mk")
theorem C9 (T:Txt mg) (D:Df K mg "grouped" Cj):FnM P w K mg base 1 "grouped" f_q9:=
 mk 3 Dx BQ D (by walk_at "sc") (by walk_at "bi") (by walk_at "mk")
theorem Dg (T:Txt mg) (D:Df K mg "picked" Cs):FnM P w K mg base 1 "picked" f_qc:=
 mk 2 Ej Bv D (by walk_at "sc") (by walk_at "bi") (by walk_at "mk")
theorem DB (T:Txt mg) (D:Df K mg "extended" CI) (_:FnM P w K mg base 1 "picked" f_qc):FnM P w K mg base 2 "extended" f_qa:=
 mk 4 Ds A4 D (by walk_at "sc") (by walk_at "bi") (by walk_at "mk")
theorem D7 (T:Txt mg) (D:Df K mg "joined_from" Cn) (_:FnM P w K mg base 1 "letters_of" f_q2) (_:FnM P w K mg base 4 "search_order" f_q5) (_:FnM P w K mg base 1 "places_of" f_qb) (_:FnM P w K mg base 1 "grouped" f_q9) (_:FnM P w K mg base 1 "picked" f_qc) (_:FnM P w K mg base 2 "extended" f_qa):FnM P w K mg base 5 "joined_from" f_q4:=
 mk 5 Dv Bj D (by walk_at "sc") (by walk_at "bi") (by walk_at "mk")
theorem Ee (T:Txt mg) (D:Df K mg "joined" Cb) (_:FnM P w K mg base 5 "joined_from" f_q4):FnM P w K mg base 6 "joined" f_q3:=
 mk 3 Dh BS D (by walk_at "sc") (by walk_at "bi") (by walk_at "mk")
theorem Eh (T:Txt mg) (D:Df K mg "two_terms" Co):FnM P w K mg base 1 "two_terms" f_qh:=
 mk 1 Ev BH D (by walk_at "sc") (by walk_at "bi") (by walk_at "mk")
theorem Ep (T:Txt mg) (D:Df K mg "deciding_letters" Cl) (_:FnM P w K mg base 1 "letters_of" f_q2) (_:FnM P w K mg base 1 "two_terms" f_qh):FnM P w K mg base 2 "deciding_letters" f_qe:=
 mk 1 DH AR D (by walk_at "sc") (by walk_at "bi") (by walk_at "mk")
theorem C1 (T:Txt mg) (D:Df K mg "is_unlike" CK):FnM P w K mg base 1 "is_unlike" f_qg:=
 mk 1 D3 AZ D (by walk_at "sc") (by walk_at "bi") (by walk_at "mk")
theorem C5 (T:Txt mg) (D:Df K mg "two_cells" CT) (_:FnM P w K mg base 2 "filled" f_q1) (_:FnM P w K mg base 1 "two_terms" f_qh):FnM P w K mg base 3 "two_cells" f_qi:=
 mk 2 Dw B1 D (by walk_at "sc") (by walk_at "bi") (by walk_at "mk")
theorem Du (T:Txt mg) (D:Df K mg "broken_cells" Cq) (_:FnM P w K mg base 6 "joined" f_q3) (_:FnM P w K mg base 2 "deciding_letters" f_qe) (_:FnM P w K mg base 1 "is_unlike" f_qg) (_:FnM P w K mg base 3 "two_cells" f_qi):FnM P w K mg base 7 "broken_cells" f_qf:=
 mk 2 Dc AS D (by walk_at "sc") (by walk_at "bi") (by walk_at "mk")
theorem DU (T:Txt mg) (D:Df K mg "keeps" CO) (_:FnM P w K mg base 7 "broken_cells" f_qf):FnM P w K mg base 8 "keeps" f_qd:=
 mk 2 C3 A5 D (by walk_at "sc") (by walk_at "bi") (by walk_at "mk")
theorem D2 (T:Txt mg) (D:Df K mg "_law_mix" Cm):FnM P w K mg base 1 "_law_mix" f_qj:=
 mk 2 Di B6 D (by walk_at "sc") (by walk_at "bi") (by walk_at "mk")
theorem De (T:Txt mg) (D:Df K mg "_law_words" B7) (_:FnM P w K mg base 1 "_law_mix" f_qj):FnM P w K mg base 2 "_law_words" f_qk:=
 mk 1 Ek BM D (by walk_at "sc") (by walk_at "bi") (by walk_at "mk")
theorem DL (T:Txt mg) (D:Df K mg "_law_world" Ci) (_:FnM P w K mg base 1 "_law_mix" f_qj) (_:FnM P w K mg base 2 "_law_words" f_qk):FnM P w K mg base 3 "_law_world" f_ql:=
 mk 1 D9 Bg D (by walk_at "sc") (by walk_at "bi") (by walk_at "mk")
theorem DD (T:Txt mg) (D:Df K mg "_law_letters" Cg) (_:FnM P w K mg base 1 "_law_mix" f_qj):FnM P w K mg base 2 "_law_letters" f_qm:=
 mk 1 Dp BF D (by walk_at "sc") (by walk_at "bi") (by walk_at "mk")
theorem D4 (T:Txt mg) (D:Df K mg "_law_cell_by" CA):FnM P w K mg base 1 "_law_cell_by" f_qn:=
 mk 2 Dj AX D (by walk_at "sc") (by walk_at "bi") (by walk_at "mk")
theorem Da (T:Txt mg) (D:Df K mg "_law_row" CD) (_:FnM P w K mg base 1 "_law_mix" f_qj) (_:FnM P w K mg base 1 "_law_cell_by" f_qn):FnM P w K mg base 2 "_law_row" f_qo:=
 mk 2 Dz Bb D (by walk_at "sc") (by walk_at "bi") (by walk_at "mk")
theorem Eu (T:Txt mg) (D:Df K mg "_law_stand" B9):FnM P w K mg base 1 "_law_stand" f_qp:=
 mk 1 C7 Bp D (by walk_at "sc") (by walk_at "bi") (by walk_at "mk")
theorem D0 (T:Txt mg) (D:Df K mg "_law_pattern" CC) (_:FnM P w K mg base 1 "_law_mix" f_qj) (_:FnM P w K mg base 2 "_law_row" f_qo):FnM P w K mg base 3 "_law_pattern" f_qq:=
 mk 4 Dl Bl D (by walk_at "sc") (by walk_at "bi") (by walk_at "mk")
theorem Ed (T:Txt mg) (D:Df K mg "_law_rule" CP) (_:FnM P w K mg base 1 "_law_mix" f_qj) (_:FnM P w K mg base 3 "_law_pattern" f_qq):FnM P w K mg base 4 "_law_rule" f_qr:=
 mk 4 DR BV D (by walk_at "sc") (by walk_at "bi") (by walk_at "mk")
theorem CZ (T:Txt mg) (D:Df K mg "_law_fit" CU):FnM P w K mg base 1 "_law_fit" f_qs:=
 mk 3 D1 BC D (by walk_at "sc") (by walk_at "bi") (by walk_at "mk")
theorem D8 (T:Txt mg) (D:Df K mg "_law_kept" Ca) (_:FnM P w K mg base 1 "_law_fit" f_qs):FnM P w K mg base 2 "_law_kept" f_qt:=
 mk 2 DK Ba D (by walk_at "sc") (by walk_at "bi") (by walk_at "mk")
theorem Bo {f:Addr}{fd:FuncData}(F:Fun K "law" "law" lG f fd) (hm:mg "law"=some (.ref f)) (T:Txt mg) (_:FnM P w K mg base 8 "keeps" f_qd) (_:FnM P w K mg base 1 "_law_mix" f_qj) (_:FnM P w K mg base 3 "_law_world" f_ql) (_:FnM P w K mg base 2 "_law_letters" f_qm) (_:FnM P w K mg base 2 "_law_row" f_qo) (_:FnM P w K mg base 1 "_law_stand" f_qp) (_:FnM P w K mg base 4 "_law_rule" f_qr) (_:FnM P w K mg base 2 "_law_kept" f_qt):FnOk P w K mg base CX0 9 f fd (N_law.take 1) (spM K f_law):=
 (mkF 1 N_law v9 F hm (by walk_at "sc") (by walk_at "bi") (by walk_at "mk")).1
end
theorem all_mk {l:PySem.W.OpenLaw}{w:World}{K:PySem.W.Frag}{h:Heap}{mg:Str->Option Value}{fa f c_ P_:Addr}(X:K.In h) (G:h.Ns mainGlobals mg) (hfa:mg "law"=some (.ref fa)) {od an:Option Addr}{sl:Array (Option Value)}{oc kV dc pm cd ct:Value}
  (a:PySem.W.nsIn K mainGlobals "law"=some (some (.ref f))) (l0:K.lookup f=some ⟨oc,od,.func (PySem.W.fnOf "law" "law" (bA lG) (aM lG) (aq lG) .none kV dc pm an cd ct),sl⟩) (c0:PySem.W.codeIn K cd "law"=true) (k0:PySem.W.keepIn K (.ref f)=true) (T:Txt mg)
  (D_exchanged:Df K mg "exchanged" CN) (D_filled:Df K mg "filled" CL) (D_letters_of:Df K mg "letters_of" CG) (D_binding_of:Df K mg "binding_of" CB) (D_bindings:Df K mg "bindings" CM) (D_is_linked:Df K mg "is_linked" Cu) (D_search_order:DfC K mg "search_order" ym c_) (D_places_of:Df K mg "places_of" CS) (D_grouped:Df K mg "grouped" Cj) (D_picked:Df K mg "picked" Cs) (D_extended:Df K mg "extended" CI) (D_joined_from:Df K mg "joined_from" Cn) (D_joined:Df K mg "joined" Cb) (D_two_terms:Df K mg "two_terms" Co) (D_deciding_letters:Df K mg "deciding_letters" Cl) (D_is_unlike:Df K mg "is_unlike" CK) (D_two_cells:Df K mg "two_cells" CT) (D_broken_cells:Df K mg "broken_cells" Cq) (D_keeps:Df K mg "keeps" CO) (D__law_mix:Df K mg "_law_mix" Cm) (D__law_words:Df K mg "_law_words" B7) (D__law_world:Df K mg "_law_world" Ci) (D__law_letters:Df K mg "_law_letters" Cg) (D__law_cell_by:Df K mg "_law_cell_by" CA) (D__law_row:Df K mg "_law_row" CD) (D__law_stand:Df K mg "_law_stand" B9) (D__law_pattern:Df K mg "_law_pattern" CC) (D__law_rule:Df K mg "_law_rule" CP) (D__law_fit:Df K mg "_law_fit" CU) (D__law_kept:Df K mg "_law_kept" Ca) (hLP:((P_,("search_order.<locals>.<lambda>":Str)):Addr×Str)∈Lams.tb) (hLC:PySem.W.codeHdIn K c_ P_=true):
  ∃fd:FuncData,(∀(s:Shared) (v:Value),BindsTo s fd ⟨[v],[]⟩ [("_law_script",v)])/\∀base:Heap,K.In base->base.Ns mainGlobals mg->FnOk l.prog w K mg base CX0 9 fa fd ["_law_script"] (spM K f_law):=by
 cases hfa.symm.trans (PySem.W.mg_of X G a);refine⟨PySem.W.fnOf "law" "law" (bA lG) (aM lG) (aq lG) .none kV dc pm an cd ct,fun s v=>.of_eq rfl,fun base KB y=>?_⟩
 have M_exchanged:=@Dt l.prog w K mg base T D_exchanged;have M_filled:=@DM l.prog w K mg base T D_filled M_exchanged;have M_letters_of:=@D6 l.prog w K mg base T D_letters_of;have M_binding_of:=@Dq l.prog w K mg base T D_binding_of;have M_bindings:=@DV l.prog w K mg base T D_bindings M_binding_of;have M_is_linked:=@Dd l.prog w K mg base T D_is_linked M_letters_of;have M_search_order:=@Es l.prog w K mg base c_ P_ D_search_order T hLP (PySem.W.codeHd_of_K KB hLC) M_letters_of M_bindings M_is_linked;have M_places_of:=@C2 l.prog w K mg base T D_places_of;have M_grouped:=@C9 l.prog w K mg base T D_grouped;have M_picked:=@Dg l.prog w K mg base T D_picked;have M_extended:=@DB l.prog w K mg base T D_extended M_picked;have M_joined_from:=@D7 l.prog w K mg base T D_joined_from M_letters_of M_search_order M_places_of M_grouped M_picked M_extended;have M_joined:=@Ee l.prog w K mg base T D_joined M_joined_from;have M_two_terms:=@Eh l.prog w K mg base T D_two_terms;have M_deciding_letters:=@Ep l.prog w K mg base T D_deciding_letters M_letters_of M_two_terms;have M_is_unlike:=@C1 l.prog w K mg base T D_is_unlike;have M_two_cells:=@C5 l.prog w K mg base T D_two_cells M_filled M_two_terms;have M_broken_cells:=@Du l.prog w K mg base T D_broken_cells M_joined M_deciding_letters M_is_unlike M_two_cells;have M_keeps:=@DU l.prog w K mg base T D_keeps M_broken_cells;have M__law_mix:=@D2 l.prog w K mg base T D__law_mix;have M__law_words:=@De l.prog w K mg base T D__law_words M__law_mix;have M__law_world:=@DL l.prog w K mg base T D__law_world M__law_mix M__law_words;have M__law_letters:=@DD l.prog w K mg base T D__law_letters M__law_mix;have M__law_cell_by:=@D4 l.prog w K mg base T D__law_cell_by;have M__law_row:=@Da l.prog w K mg base T D__law_row M__law_mix M__law_cell_by;have M__law_stand:=@Eu l.prog w K mg base T D__law_stand;have M__law_pattern:=@D0 l.prog w K mg base T D__law_pattern M__law_mix M__law_row;have M__law_rule:=@Ed l.prog w K mg base T D__law_rule M__law_mix M__law_pattern;have M__law_fit:=@CZ l.prog w K mg base T D__law_fit;have M__law_kept:=@D8 l.prog w K mg base T D__law_kept M__law_fit;exact Bo (rf l0 c0 k0) hfa T M_keeps M__law_mix M__law_world M__law_letters M__law_row M__law_stand M__law_rule M__law_kept
end K33
namespace K33
open PySem L2 JP
theorem vH {τ:D->DEnv->Option DEnv}{t:DEnv->Option Bool}{e:DEnv->Option D}{δ:DEnv}{d y:D}{b:Bool}(h:ac (τ d δ) t=some b) (h':ac (τ d δ) e=some y):aI τ t e δ d=some (if b=true then some y else none):=by
 unfold aI ac at*
 revert h h'
 cases τ d δ with
 |none=>intro h;contradiction
 |some ε=>intro h h';dsimp only at h h'⊢;rw[h,h'];cases b<;>rfl
theorem pB {τ:D->DEnv->Option DEnv}{e:DEnv->Option D}{δ:DEnv}{d y:D}(h:ac (τ d δ) e=some y):aI τ (fun u=>some true) e δ d=some (some y):=vH (b:=true) (by revert h;unfold ac;cases τ d δ<;>intro h<;>first|rfl|contradiction) h
theorem yL {x y:Option Bool}{a b:Bool}(h:x=some a) (h':y=some b):oB x y=some (a&&b):=by rw[h,h'];cases a<;>rfl
theorem B0 {x:Option Bool}{b:Bool}(h:x=some b):eI x=some (!b):=by rw[h];rfl
theorem Ct {x:Option (D×Bool)}{d:D}{b:Bool}(h:x=some (d,b)):shO x=some d:=by rw[h];exact shO_s ..
theorem na:(("name":Str)="any")=False:=by simp;decide +kernel
theorem at0 (a b:D):atI [a,b] 0=some a:=rfl
theorem at1 (a b:D):atI [a,b] 1=some b:=rfl
theorem Ez (a:D) (r:List D):atI (a::r) 0=some a:=by unfold atI ixN;simp
theorem gR:∀ts:List Te,(ans ts).length<=ts.length
 |[]=>Zk _
 |.any m::ts=>by have:=gR ts;simp[ans];lia
 |.nm w::ts=>by have:=gR ts;simp[ans];lia
noncomputable def fH (ps:List Pat):List Str:=(ps.map fun p=>ans p.2).flatten
theorem gH {ps:List Pat}{l:Str}:l∈fH ps↔∃p∈ps,l∈ans p.2:=by
 unfold fH;rw[List.mem_flatten];constructor
 ·rintro⟨x,hx,hl⟩
  obtain⟨p,hp,rfl⟩:=List.mem_map.mp hx;exact⟨p,hp,hl⟩
 ·rintro⟨p,hp,hl⟩
  exact⟨_,List.mem_map.mpr ⟨p,hp,rfl⟩,hl⟩
theorem cA:∀{ps:List Pat},(∀p∈ps,p.2.length<=4)->(fH ps).length<=4*ps.length
 |[],_=>Zk _
 |p::ps,h=>by
  have h1:=cA fun q hq=>h q (Ze _ hq)
  have h2:=gR p.2;have h3:=h p (Zg ..);have:fH (p::ps)=ans p.2++fH ps:=by simp[fH]
  rw[this,ZO,List.length_cons]
  lia
theorem uB (ts:List Te):aX (aI (ae 4) (fun δ=>eqO (ixO (rd false 4 δ) (some (.int 0))) (some (.str "any"))) mw [none,none,none,none,none]) (ts.map teD)=some ((ans ts).map D.str):=by
 induction ts with
 |nil=>rfl
 |cons c ts ih=>
  rw[Zf];unfold aX;rw[ih];cases c with
  |any n=>simp[aI,teD,mw,at0,at1,aF,ans]
  |nm w=>simp[aI,teD,mw,at0,at1,aF,na,ans]
theorem jU:∀(rs:List Pat) (acc:List Str) (a0 x2 x3 x4:Option (D×Bool)),(∀r∈rs,r.2.length<=4)->acc.length+4*rs.length<=1000->∃y2 y3,
  aw (fun d δ=>ac ((aP (aj (ae 2) (aj (ae 3) (toNil)))) d δ) pj) (rs.map aG) [a0,some (.lst (acc.map D.str),true),x2,x3,x4]=some (.next [a0,some (.lst ((acc++fH rs).map D.str),true),y2,y3,x4])
 |[],acc,a0,x2,x3,x4,_,_=>⟨x2,x3,by simp[aw,fH]⟩
 |r::rs,acc,a0,x2,x3,x4,h4,hl=>by
  have hr:=h4 r (Zg ..);have hb:=gR r.2;rw[List.length_cons]at hl;obtain⟨y2,y3,e⟩:=jU rs (acc++ans r.2) a0 (some (.str r.1,false)) (some (.tup (r.2.map teD),false)) x4 (fun q hq=>h4 q (Ze _ hq)) (by simp;lia)
  refine⟨y2,y3,?_⟩
  have en:acc++fH (r::rs)=acc++ans r.2++fH rs:=by simp[fH]
  rw[en,<-e,Zf]
  conv=>lhs;unfold aw
  simp[aG,pj];rw[aA (by simp;lia)]
  simp[aB];have:=uB r.2;rw[this];simp[Ah];rw[Zm (by lia)]
theorem aY {ps:List Pat}(hl:ps.length<=4) (h4:∀p∈ps,p.2.length<=4):f_q2 [.lst (ps.map aG)]=some (.lst (sU (fH ps)),true):=by
 obtain⟨y2,y3,e⟩:=jU ps [] (some (.lst (ps.map aG),false)) none none none h4 (by simp;lia)
 have:=cA h4;rw[au (f:=f_q2) (δ:=[some (.lst (ps.map aG),false),none,none,none,none]) rfl rfl rfl];rw[ZX]at e;simp[A2];rw[e];simp[vi];rw[jV (by lia)]
 simp
theorem fy (ss:List Str):∃us:List Str,sU ss=us.map D.str/\us.Nodup/\(∀x,x∈us↔x∈ss)/\us.length<=ss.length:=by
 have hp:=cC (uS ss);exact⟨dO (uS ss),rfl,hp.nodup_iff.mpr (dW ss),fun x=>hp.mem_iff.trans (jE x ss),hp.length_eq▸vv ss⟩
noncomputable def bD (b:Bi):D:=.dK (b.map fun q=>.inr q.1) (b.map fun q=>ceD q.2)
theorem rO (l:Str):∀b:Bi,bF (.inr l:Key) (b.map fun q=>(.inr q.1:Key)) (b.map fun q=>ceD q.2)=(gt b l).map ceD
 |[]=>rfl
 |(k,c)::b=>by
  rw[Zf,Zf,bF,ck,rO l b]
  by_cases h:k=l
  ·subst h;simp
  ·rw[Zo (fun z=>h (by cases z;rfl)),Zo h]
theorem ij (b:Bi) (l:Str):br (some (bD b)) (some (.str l))=some ((gt b l).map ceD):=by
 unfold bD br;simp only[dG,rO]
theorem pT {b:Bi}{l:Str}(h:gt b l=none):l∉b.map (·.1):=by
 induction b with
 |nil=>simp
 |cons q b ih=>
  obtain⟨k,c⟩:=q;rw[ck]at h;split at h
  ·contradiction
  ·rename_i n
   simp only[Zf,ZA,not_or];exact⟨fun z=>n z.symm,ih h⟩
theorem qb {b:Bi}{l:Str}{c:Ce}(h:gt b l=none) (hl:b.length<1000000):fB (bD b) (.str l) (ceD c)=some (bD (b++[(l,c)])):=by
 unfold bD fB;have hm:(.inr l:Key)∉b.map fun q=>(.inr q.1:Key):=fun z=>by
  obtain⟨q,hq,e⟩:=List.mem_map.mp z;exact pT h (List.mem_map.mpr ⟨q,hq,by cases e;rfl⟩)
 simp only[dG,Zn];rw[Zm (by rw[lim_eq];exact hl)]
 unfold dr sf;rw[Zo hm,Zo hm];simp
theorem sN (c:Ce):okD 16 (ceD c)=true:=by cases c<;>rfl
theorem CY (t:Te):okD 16 (teD t)=true:=by cases t<;>rfl
theorem fV (a b:Ce):neO (some (ceD a)) (some (ceD b))=some (!decide (a=b)):=by
 rw[y0 _ _ (by unfold ok2;rw[sN,sN];rfl)]
 congr 2;exact decide_eq_decide.mpr ⟨kF,fun h=>by rw[h]⟩
theorem Cr (a b:Ce):eqO (some (ceD a)) (some (ceD b))=some (decide (a=b)):=by
 rw[j4 _ _ (by unfold ok2;rw[sN,sN];rfl)]
 congr 1;exact decide_eq_decide.mpr ⟨kF,fun h=>by rw[h]⟩
theorem vS (w:Str) (c:Ce):neO (some (teD (.nm w))) (some (ceD c))=some (!decide (Ce.nm w=c)):=fV (.nm w) c
theorem eO:∀(ts:List Te) (cs:List Ce),bY (ts.map teD) (cs.map ceD)=(ts.zip cs).map fun q=>.tup [teD q.1,ceD q.2]
 |[],cs=>by simp[bY]
 |t::ts,[]=>by simp[bY]
 |t::ts,c::cs=>by simp[bY,eO ts cs]
theorem eK:∀(ts:List Te) (cs:List Ce) (b:Bi) (a0 a1 x3 x4:Option (D×Bool)),b.length+ts.length<1000->
  (match bnd ts cs b with
  |some b'=>∃y3 y4,aw (fun d δ=>ac ((aP (aj (ae 3) (aj (ae 4) (toNil)))) d δ) jY) ((ts.zip cs).map fun q=>.tup [teD q.1,ceD q.2]) [a0,a1,some (bD b,true),x3,x4]=some (.next [a0,a1,some (bD b',true),y3,y4])
  |none=>aw (fun d δ=>ac ((aP (aj (ae 3) (aj (ae 4) (toNil)))) d δ) jY) ((ts.zip cs).map fun q=>.tup [teD q.1,ceD q.2]) [a0,a1,some (bD b,true),x3,x4]=some (.ret .non false))
 |[],cs,b,a0,a1,x3,x4,_=>⟨x3,x4,by simp[aw]⟩
 |.any l::ts,[],b,a0,a1,x3,x4,_=>⟨x3,x4,by simp[aw]⟩
 |.nm l::ts,[],b,a0,a1,x3,x4,_=>⟨x3,x4,by simp[aw]⟩
 |.any l::ts,c::cs,b,a0,a1,x3,x4,hl=>by
  have ih:=fun b hb=>eK ts cs b a0 a1 (some (teD (.any l),false)) (some (ceD c,false)) hb
  rw[List.length_cons]at hl;rw[List.zip_cons_cons,Zf];unfold aw;have e0:eqO (ixO (rd false 3 [a0,a1,some (bD b,true),some (teD (.any l),false),some (ceD c,false)]) (some (.int 0))) (some (.str "any"))=some true:=by simp[teD,at0,aF]
  have e1:ixO (rd false 3 [a0,a1,some (bD b,true),some (teD (.any l),false),some (ceD c,false)]) (some (.int 1))=some (.str l):=by simp[teD,at1]
  have e2:rd false 4 [a0,a1,some (bD b,true),some (teD (.any l),false),some (ceD c,false)]=some (ceD c):=by simp
  simp only[toTup_s,toCons_s,toNil_s,toName_s,ZJ,List.length_cons,List.length_nil,bindO_s,List.set_cons_succ,List.set_cons_zero,Nat.reduceAdd,Nat.reduceLT];simp only[jY,e0,ifO_t,uX,e1,e2,sdO,rdOwn_1,rdOwn_0,ij,bnd];cases eg:gt b l with
  |some c'=>
   simp only[Option.map_some,neX,bindO_s,e2,fV]
   by_cases hc:c'=c
   ·simp only[hc,Yr,Yl,ifX,nextO_s,Z6]
    have:=ih b (by lia)
    cases eb:bnd ts cs b with
    |some b'=>rw[eb]at this;exact this
    |none=>rw[eb]at this;exact this
   ·simp only[hc,YE,Bool.not_false,ifX,retO_s,ZY]
  |none=>
   simp only[Option.map_none,qb eg (show b.length<1000000 by lia)]
   simp only[neX,bindO_s,List.set_cons_succ,List.set_cons_zero];have e3:rd false 4 [a0,a1,some (bD (b++[(l,c)]),true),some (teD (.any l),false),some (ceD c,false)]=some (ceD c):=by simp
   simp only[e3,fV,Yr,Yl,ifX,nextO_s];have:=ih (b++[(l,c)]) (by simp;lia)
   cases eb:bnd ts cs (b++[(l,c)])with
   |some b'=>rw[eb]at this;exact this
   |none=>rw[eb]at this;exact this
 |.nm w::ts,c::cs,b,a0,a1,x3,x4,hl=>by
  have ih:=eK ts cs b a0 a1 (some (teD (.nm w),false)) (some (ceD c,false)) (by simp at hl;lia)
  rw[List.zip_cons_cons,Zf];unfold aw;have e0:eqO (ixO (rd false 3 [a0,a1,some (bD b,true),some (teD (.nm w),false),some (ceD c,false)]) (some (.int 0))) (some (.str "any"))=some false:=by simp[teD,at0,aF,na]
  have e1:rd false 3 [a0,a1,some (bD b,true),some (teD (.nm w),false),some (ceD c,false)]=some (teD (.nm w)):=by simp
  have e2:rd false 4 [a0,a1,some (bD b,true),some (teD (.nm w),false),some (ceD c,false)]=some (ceD c):=by simp
  simp only[toTup_s,toCons_s,toNil_s,toName_s,ZJ,List.length_cons,List.length_nil,bindO_s,List.set_cons_succ,List.set_cons_zero,Nat.reduceAdd,Nat.reduceLT];have e00:eqO (ixO (some (teD (.nm w))) (some (.int 0))) (some (.str "any"))=some false:=by simp[teD,at0,aF,na]
  simp only[jY,e0,e00,ifO_f,e1,e2,vS,bnd]
  by_cases hc:Ce.nm w=c
  ·simp only[hc,Yr,Yl,ifO_f,nextO_s,Z6]
   exact ih
  ·rw[Zo hc]
   simp only[hc,YE,Bool.not_false,ifO_t,retO_s]
theorem gC (ts:List Te) (cs:List Ce) (hl:ts.length<=4):f_q8 [.tup (ts.map teD),.tup (cs.map ceD)]=some (match bnd ts cs []with|some b=>(bD b,true)|none=>(.non,false)):=by
 rw[au (f:=f_q8) (δ:=[some (.tup (ts.map teD),false),some (.tup (cs.map ceD),false),none,none,none]) rfl rfl rfl];have:=eK ts cs [] (some (.tup (ts.map teD),false)) (some (.tup (cs.map ceD),false)) none none (by simp;lia)
 have e0:(.dK [] []:D)=bD []:=rfl;simp only[Bc,setF_s,List.length_cons,List.length_nil,Nat.reduceAdd,Nat.reduceLT,List.set_cons_succ,List.set_cons_zero,seqO_n,rd_0,rd_1,xh,yq,Z6,tupL_s,bindO_s,eO,e0];cases eb:bnd ts cs []with
 |some b=>
  rw[eb]at this;obtain⟨y3,y4,e⟩:=this;rw[e];simp
 |none=>
  rw[eb]at this;rw[this];simp
end K33
namespace K33
open PySem L2 JP
theorem mz (b:Bi):jZ (some (bD b))=some false:=by simp[jZ,bD]
theorem fJ {p:Pat}(h4:p.2.length<=4):∀(rs:List Row) (acc:List Bi) (a0 x3 x4 x5:Option (D×Bool)),acc.length+rs.length<=100000->∃y3 y4 y5,
  aw (fun d δ=>ac ((aP (aj (ae 3) (aj (ae 4) (toNil)))) d δ) fP) (rs.map ax) [a0,some (aG p,false),some (.lst (acc.map bD),true),x3,x4,x5]=some (.next [a0,some (aG p,false),some (.lst ((acc++binds rs p).map bD),true),y3,y4,y5])
 |[],acc,a0,x3,x4,x5,_=>⟨x3,x4,x5,by simp[aw,binds]⟩
 |r::rs,acc,a0,x3,x4,x5,hl=>by
  rw[List.length_cons]at hl;rw[Zf];have e1:eqO (some (.str r.1)) (ixO (some (aG p)) (some (.int 0)))=some (decide (r.1=p.1)):=by simp[aG,at0,aF]
  have e2:eqO (dM (some (.tup (r.2.map ceD)))) (dM (ixO (some (aG p)) (some (.int 1))))=some (decide (r.2.length=p.2.length)):=by
   simp only[aG,ixO_t,at1,lenL_t,Zn,eqO_int];congr 1;exact decide_eq_decide.mpr (by lia)
  have e3:ixO (some (aG p)) (some (.int 1))=some (.tup (p.2.map teD)):=by simp[aG,at1]
  have body:∃y5,fP [a0,some (aG p,false),some (.lst (acc.map bD),true),some (.str r.1,false),some (.tup (r.2.map ceD),false),x5]=some (.next [a0,some (aG p,false),some (.lst ((acc++(eV p r).toList).map bD),true),some (.str r.1,false),some (.tup (r.2.map ceD),false),y5]):=by
   simp only[fP,rd_0,rd_1,e1,e2];unfold eV
   by_cases c1:r.1=p.1
   ·by_cases c2:r.2.length=p.2.length
    ·rw[Zm ⟨c1,c2⟩]
     simp only[c1,c2,Yr,andO_t,ifO_t,e3,consO_s,bindO_s,gC p.2 r.2 h4];cases eb:bnd p.2 r.2 []with
     |some b=>
      refine⟨some (bD b,false),?_⟩
      simp[mz];rw[mt (ds:=acc.map bD) (bD b) rfl (by simp;lia)]
      simp
     |none=>
      refine⟨some (.non,false),?_⟩
      simp[jZ]
    ·rw[Zo (fun z=>c2 z.2)]
     exact⟨x5,by simp[c1,c2]⟩
   ·rw[Zo (fun z=>c1 z.1)]
    exact⟨x5,by simp[c1]⟩
  obtain⟨y5',eb⟩:=body;have hle:(eV p r).toList.length<=1:=by cases eV p r<;>simp
  obtain⟨y3,y4,y5,e⟩:=fJ h4 rs (acc++(eV p r).toList) a0 (some (.str r.1,false)) (some (.tup (r.2.map ceD),false)) y5' (by simp;lia)
  refine⟨y3,y4,y5,?_⟩
  have en:acc++binds (r::rs) p=acc++(eV p r).toList++binds rs p:=by
   unfold binds;rw[List.filterMap_cons];cases eV p r<;>simp
  rw[en,<-e]
  conv=>lhs;unfold aw
  have et:ac ((aP (aj (ae 3) (aj (ae 4) (toNil)))) (ax r) [a0,some (aG p,false),some (.lst (acc.map bD),true),x3,x4,x5]) fP=fP [a0,some (aG p,false),some (.lst (acc.map bD),true),some (.str r.1,false),some (.tup (r.2.map ceD),false),x5]:=by
   simp[ax]
  rw[et,eb]
theorem kE {p:Pat}(h4:p.2.length<=4) {rs:List Row}(hl:rs.length<=1000):f_q7 [.lst (rs.map ax),aG p]=some (.lst ((binds rs p).map bD),true):=by
 rw[au (f:=f_q7) (δ:=[some (.lst (rs.map ax),false),some (aG p,false),none,none,none,none]) rfl rfl rfl];obtain⟨y3,y4,y5,e⟩:=fJ h4 rs [] (some (.lst (rs.map ax),false)) none none none (by simp;lia)
 simp[Bu];rw[ZX]at e;rw[e];simp
theorem iC (rs:List Row) (p:Pat):(binds rs p).length<=rs.length:=List.length_filterMap_le ..
noncomputable def prD (rs:List Row) (p:Pat):D:=.tup [aG p,.lst ((binds rs p).map bD)]
theorem dw (l:Str) (ss:List Str):inO (some (.str l)) (some (.lst (ss.map D.str)))=some (decide (l∈ss)):=by
 unfold inO;simp only[aK];rw[Zm]
 ·congr 1
  apply decide_eq_decide.mpr;simp
 ·rw[Zu,ZH]
  refine⟨rfl,fun x hx=>?_⟩
  obtain⟨c,_,rfl⟩:=List.mem_map.mp hx;rfl
theorem ua (bs:List Bool):dy (bs.map D.bl)=some bs:=by
 induction bs with
 |nil=>rfl
 |cons b bs ih=>simp[dy,ih]
theorem sa (p:Pat) (h4:p.2.length<=4) (ks:List Str):∃c,f_q6 [aG p,.lst (ks.map D.str)]=some (.bl c,false):=by
 rw[au (f:=f_q6) (δ:=[some (aG p,false),some (.lst (ks.map D.str),false),none]) rfl rfl rfl];have el:=aY (ps:=[p]) (by simp) (by simpa using h4)
 obtain⟨us,e1,_,e3,e4⟩:=fy (fH [p]);rw[e1]at el;have hul:us.length<=1000:=by
  have:=cA (ps:=[p]) (by simpa using h4)
  simp at this;lia
 simp only[BI,rd_0,rd_1,consO_s,bindO_s];rw[lstO_s _ (by simp)]
 simp only[Zf,ZX]at el;simp only[consO_s,bindO_s,el,frO_s,lstL_s];rw[aA (by simp;lia)]
 have hc:aX (aI (ae 2) (fun δ=>some true) u6 (aB false [false,true,false] [some (aG p,false),some (.lst (ks.map D.str),false),none])) (us.map D.str)=some ((us.map fun l=>decide (l∈ks)).map D.bl):=by
  rw[iQ (g:=fun d=>match d with|.str l=>.bl (decide (l∈ks))|d=>d)]
  ·simp
  ·intro d hd
   obtain⟨l,_,rfl⟩:=List.mem_map.mp hd;exact pB ((YV ofB (dw l ks)).trans rfl)
 rw[hc];simp only[lstLim_s,AT,ua,retO_s,outF_r];exact⟨_,rfl⟩
theorem rX {a b:Te}(h:teD a=teD b):a=b:=by
 cases a<;>cases b<;>simp[teD]at h
 ·rw[h]
 ·exact absurd h.1 (by decide +kernel)
 ·exact absurd h.1 (by decide +kernel)
 ·rw[h]
theorem oV {α:Type}{f:α->D}(hf:∀a b,f a=f b->a=b):∀{l m:List α},l.map f=m.map f->l=m
 |[],[],_=>rfl
 |[],_::_,h=>by simp at h
 |_::_,[],h=>by simp at h
 |a::l,b::m,h=>by
  simp only[Zf,YC]at h;rw[hf _ _ h.1,oV hf h.2]
theorem gn {p q:Pat}(h:aG p=aG q):p=q:=by
 simp[aG]at h;exact Prod.ext h.1 (oV (fun y y=>rX) h.2)
theorem yn (ss:List Str):D.flats (ss.map D.str)=true:=by
 rw[D.flats_all,ZH];intro x hx;obtain⟨t,_,rfl⟩:=List.mem_map.mp hx;rfl
end K33
namespace K33
open PySem L2 JP
theorem dZ (rs:List Row) (hrs:rs.length<=1000) (ks:List Str) (hk:ks.length<=1000) {p:Pat}(h4:p.2.length<=4):
  f_q5 [.lst (rs.map ax),.lst [aG p],.lst (ks.map D.str)]=some (.lst [prD rs p],true):=by
 rw[au (f:=f_q5) (δ:=[some (.lst (rs.map ax),false),some (.lst [aG p],false),some (.lst (ks.map D.str),false),none,none,none,none,none,none,none]) rfl rfl rfl];have hc:aX (aI (ae 8) (fun δ=>some true) qU (aB false [true,false,false,false,false,false,false,false,false,false] [some (.lst (rs.map ax),false),some (.lst [aG p],false),some (.lst (ks.map D.str),false),none,none,none,none,none,none,none])) [aG p]=some [prD rs p]:=by
  unfold aX;have:aI (ae 8) (fun δ=>some true) qU (aB false [true,false,false,false,false,false,false,false,false,false] [some (.lst (rs.map ax),false),some (.lst [aG p],false),some (.lst (ks.map D.str),false),none,none,none,none,none,none,none]) (aG p)=some (some (prD rs p)):=by
   refine pB (show cY (aa (some (aG p)) (aa (frO (f_q7 [.lst (rs.map ax),aG p])) (some [])))=_ from ?_)
   rw[kE h4 hrs];rfl
  rw[this];rfl
 simp only[g_q5,rd_1,rd_0,lstL_s,bindO_s];rw[aA (by simp),hc]
 have hs:f8 (ao (some [prD rs p])) (fun d=>jd [some (d,false)])=some (.lst [prD rs p]):=by
  have:jd [some (prD rs p,false)]=some (.int (binds rs p).length):=by simp[jd,prD,at1]
  unfold f8;simp only[lstLim_s,this]
 rw[hs,setF_s _ _ _ (by simp)]
 simp only[seqO_n,List.set_cons_succ,List.set_cons_zero];rw[lstO_s _ (by simp),setF_s _ _ _ (by simp)]
 simp only[seqO_n,List.set_cons_succ,List.set_cons_zero];have el:=aY (ps:=[]) (by simp) (by simp)
 have e1:sU (fH [])=[]:=by
  obtain⟨us,e,_,m,l⟩:=fy (fH []);have h0:us=[]:=by simp[fH]at l;exact l
  rw[e,h0];rfl
 rw[e1,ZX]at el;obtain⟨c,ec⟩:=sa p h4 ks;have hb:∀(a0 a1 x5 x6 x7 x8 x9:Option (D×Bool)),∃y6 y7,jS [a0,a1,some (.lst (ks.map D.str),false),some (.lst [prD rs p],true),some (.lst [],true),x5,x6,x7,x8,x9]=some (.next [a0,a1,some (.lst (ks.map D.str),false),some (.lst [],true),some (.lst [prD rs p],true),some (.lst (ks.map D.str),false),y6,y7,x8,x9]):=fun a0 a1 x5 x6 x7 x8 x9=>by
  have hrd:rd true 4 [a0,a1,some (.lst (ks.map D.str),false),some (.lst [prD rs p],true),some (.lst [],true),x5,x6,x7,x8,x9]=some (.lst []):=rfl;refine⟨some (.lst (if c=true then[prD rs p] else[]),true),some (prD rs p,false),?_⟩
  simp only[jS,hrd,rd_1,rd_0,lstL_s,bindO_s];rw[aA (by simp)]
  simp only[aX,fX,D.flats,Z6,lstLim_s,consO_s,bindO_s,el,flO,listO_l];rw[catO_s _ _ (by simp;omega),Yt,setO_s _ _ _ (by simp)]
  simp only[seqO_n,List.set_cons_succ,List.set_cons_zero];have ht:lU ((aB true [false,false,false,false,false,true,false,false,false,false] [a0,a1,some (.lst (ks.map D.str),false),some (.lst [prD rs p],true),some (.lst [],true),some (.lst (ks.map D.str),false),x6,x7,x8,x9]).set 9 (some (prD rs p,false)))=some c:=by
   simp only[lU,aB,List.zipWith,List.set_cons_succ,List.set_cons_zero,rd_1,rd_0];have e9:∀(x:Option D),x=some (.lst (ks.map D.str))->tyB (shO (ac (aa (ixO (some (prD rs p)) (some (.int 0))) (aa x (some []))) f_q6))=some c:=fun x hx=>by rw[hx];simp only[prD,ixO_t,at0,consO_s,bindO_s,ec,shO_s,tyB_s]
   exact e9 _ rfl
  have hq:∃ts,prD rs p=.tup ts:=⟨_,rfl⟩;obtain⟨ts,hts⟩:=hq;rw[hts]at ht⊢;unfold rK;simp only[List.getElem?_cons_succ,List.getElem?_cons_zero,ht]
  rw[Zm (by simp)]
  simp only[rP,List.set_cons_succ,List.set_cons_zero,rd_1,rd_0];rw[mt (ds:=[]) _ rfl (by simp)]
  rfl
 obtain⟨y6,y7,e⟩:=hb (some (.lst (rs.map ax),false)) (some (.lst [aG p],false)) none none none none none;have hw:∀n,cK iH jS (n+2) [some (.lst (rs.map ax),false),some (.lst [aG p],false),some (.lst (ks.map D.str),false),some (.lst [prD rs p],true),some (.lst [],true),none,none,none,none,none]=some (.next [some (.lst (rs.map ax),false),some (.lst [aG p],false),some (.lst (ks.map D.str),false),some (.lst [],true),some (.lst [prD rs p],true),some (.lst (ks.map D.str),false),y6,y7,none,none]):=fun n=>by
  unfold cK;have t1:iH [some (.lst (rs.map ax),false),some (.lst [aG p],false),some (.lst (ks.map D.str),false),some (.lst [prD rs p],true),some (.lst [],true),none,none,none,none,none]=some true:=rfl;rw[t1];simp only[e];unfold cK;have t2:iH [some (.lst (rs.map ax),false),some (.lst [aG p],false),some (.lst (ks.map D.str),false),some (.lst [],true),some (.lst [prD rs p],true),some (.lst (ks.map D.str),false),y6,y7,none,none]=some false:=rfl;rw[t2]
 rw[hw 998];rfl
end K33
namespace K33
open PySem L2 JP
theorem bg {α:Type}{f:α->D}{h:α->D}{p:α->Bool}{F:D->Option (Option D)}:∀{xs:List α},(∀x∈xs,F (f x)=some (if p x=true then some (h x) else none))->aX F (xs.map f)=some ((xs.filter p).map h)
 |[],_=>rfl
 |x::xs,H=>by
  rw[Zf];unfold aX;rw[H x (Zg ..),bg fun y hy=>H y (Ze _ hy),List.filter_cons]
  cases p x<;>rfl
theorem aZ {α:Type}{f:α->D}{h:α->D}{F:D->Option (Option D)}{xs:List α}(H:∀x∈xs,F (f x)=some (some (h x))):aX F (xs.map f)=some (xs.map h):=by
 have:=bg (f:=f) (h:=h) (p:=fun y=>true) (F:=F) (xs:=xs) fun x hx=>by rw[H x hx];rfl
 rwa[List.filter_eq_self.mpr fun y y=>rfl]at this
noncomputable def ii (ns:List Nat):D:=.lst (ns.map fun n:Nat=>D.int n)
noncomputable def cD (c:List Ce):D:=.tup (c.map ceD)
theorem iB {a b:List Ce}(h:cD a=cD b):a=b:=by
 unfold cD at h;injection h with h
 induction a generalizing b with
 |nil=>cases b with
  |nil=>rfl
  |cons=>simp at h
 |cons x a ih=>cases b with
  |nil=>simp at h
  |cons y b=>simp only[Zf,YC]at h;rw[kF h.1,ih h.2]
theorem jQ (c:List Ce):bf 8 (cD c)=true:=by
 unfold cD;simp only[bf];rw[ZH];intro d hd;obtain⟨x,_,rfl⟩:=List.mem_map.mp hd;cases x<;>rfl
theorem jP (c:List Ce):la (cD c)=true:=rfl
theorem DJ (c:List Ce):okD 15 (cD c)=true:=by
 unfold cD;simp only[okD];rw[ZH];intro d hd;obtain⟨x,_,rfl⟩:=List.mem_map.mp hd;cases x<;>rfl
theorem oS (l:Str):∀known:List Str,(known.map D.str).idxOf (.str l)=known.idxOf l
 |[]=>rfl
 |k::known=>by
  rw[Zf,List.idxOf_cons,List.idxOf_cons,oS l known];have:((D.str k==D.str l):Bool)=(k==l):=by
   by_cases h:k=l
   ·subst h;rw[YH,YH]
   ·have h':¬D.str k=D.str l:=fun z=>h (by injection z)
    rw[beq_false_of_ne h,beq_false_of_ne h']
  rw[this]
theorem tq {l:Str}{known:List Str}(h:l∈known) (hk:known.length<=1000):yp (some (.lst (known.map D.str))) (some (.str l))=some (.int (known.idxOf l)):=by
 unfold yp;simp only[oS];rw[Zm];refine⟨rfl,?_,by rw[Zn];exact Yu h,by simp;lia⟩
 rw[ZH];intro d hd;obtain⟨x,_,rfl⟩:=List.mem_map.mp hd;rfl
theorem cf {ls known:List Str}(h:∀l∈ls,l∈known) (hl:ls.length<=1000) (hk:known.length<=1000):f_qb [.lst (ls.map D.str),.lst (known.map D.str)]=some (ii (aQ ls known),true):=by
 rw[au (f:=f_qb) (δ:=[some (.lst (ls.map D.str),false),some (.lst (known.map D.str),false),none]) rfl rfl rfl];simp only[A3,rd_0,lstL_s,bindO_s];rw[aA (by simp;lia)]
 have:=aZ (f:=D.str) (h:=fun l=>D.int (known.idxOf l)) (xs:=ls) (F:=aI (ae 2) (fun δ=>some true) vD (aB false [false,true,false] [some (.lst (ls.map D.str),false),some (.lst (known.map D.str),false),none])) fun l hm=>pB (tq (h l hm) hk)
 rw[this];simp[ii,aQ]
theorem eJ {c:List Ce}{ps:List Nat}(h:∀i∈ps,i<c.length) (hl:ps.length<=1000):f_qc [cD c,ii ps]=some (cD (pk c ps),false):=by
 rw[au (f:=f_qc) (δ:=[some (cD c,false),some (ii ps,false),none]) rfl rfl rfl];simp only[Bv,rd_0,rd_1,ii,lstL_s,bindO_s];rw[aA (by simp;lia)]
 have:=aZ (f:=fun n:Nat=>D.int n) (h:=fun n=>ceD (c.getD n default)) (xs:=ps) (F:=aI (ae 2) (fun δ=>some true) vw (aB false [true,false,false] [some (cD c,false),some (.lst (ps.map fun n:Nat=>D.int n),false),none])) fun n hm=>by
  have hn:=h n hm;have:atI (c.map ceD) (n:Int)=some (ceD (c.getD n default)):=u7 (by lia) (by simp[hn])
  exact pB this
 rw[this];simp[cD,pk]
noncomputable def gD (g:Gr):List (D×List D):=g.map fun q=>(cD q.1,q.2.map cD)
theorem vU (k e:List Ce):∀g:Gr,aW (gD g) (cD k) (cD e)=gD (ki g k e)
 |[]=>rfl
 |q::g=>by
  have ih:=vU k e g;unfold gD at ih⊢;rw[Zf];unfold aW ki;have h1:(cD q.1=cD k)=(q.1=k):=propext ⟨iB,fun h=>by rw[h]⟩
  have h2:(cD e∈q.2.map cD)=(e∈q.2):=propext ⟨fun h=>by
   obtain⟨x,hx,he⟩:=List.mem_map.mp h;rwa[<-iB he],fun h=>List.mem_map.mpr ⟨e,h,rfl⟩⟩
  simp only[h1,h2,ih];split
  ·split<;>simp
  ·simp
theorem vm {b:Bi}{l:Str}{c:Ce}(h:gt b l=some c):wj (some (bD b)) (some (.str l))=some (ceD c):=by
 unfold wj;rw[ij,h];rfl
theorem o0 {b:Bi}{sh:List Str}(h:∀l∈sh,∃c,gt b l=some c) (ε:DEnv) (hm:ε=[none,none,none,none,some (bD b,false),none,none,none]):
  aX (aI (ae 7) (fun δ=>some true) e_q9_1 ε) (sh.map D.str)=some ((vl b sh).map ceD):=by
 subst hm;have:=aZ (f:=D.str) (h:=fun l=>ceD ((gt b l).getD default)) (xs:=sh) (F:=aI (ae 7) (fun δ=>some true) e_q9_1 [none,none,none,none,some (bD b,false),none,none,none]) fun l hm=>by
  obtain⟨c,hc⟩:=h l hm;exact pB ((vm hc).trans (by rw[hc];rfl))
 rw[this];simp[vl]
theorem mN {sh ad:List Str}(h1:sh.length<=1000) (h2:ad.length<=1000) (a0:D):∀(bs:List Bi) (g:Gr) (a4 a5:Option (D×Bool)),(∀b∈bs,∀l∈sh++ad,∃c,gt b l=some c)->
  bT 4 5 6 mS mT (bs.map bD) [some (a0,false),some (.lst (sh.map D.str),false),some (.lst (ad.map D.str),false),none,a4,a5,none,none] (gD g)=some (gD (bs.foldl (fun g b=>ki g (vl b sh) (vl b ad)) g))
 |[],g,a4,a5,_=>rfl
 |b::bs,g,a4,a5,h=>by
  have hb:=h b (Zg ..);have ih:=mN h1 h2 a0 bs (ki g (vl b sh) (vl b ad)) (some (bD b,false)) (some (cD (vl b sh),false)) fun b' hb'=>h b' (Ze _ hb')
  rw[Zf,List.foldl_cons,<-ih]
  conv=>lhs;unfold bT
  have e1:mS [some (a0,false),some (.lst (sh.map D.str),false),some (.lst (ad.map D.str),false),none,some (bD b,false),a5,none,none]=some (cD (vl b sh)):=by
   simp only[mS,rd_1,rd_0,lstL_s,bindO_s];rw[aA (by simp;lia)]
   exact YV (fun z=>cj (ao z)) (o0 (fun l hl=>hb l (Z2 _ hl)) _ rfl)
  have e2:mT [some (a0,false),some (.lst (sh.map D.str),false),some (.lst (ad.map D.str),false),none,some (bD b,false),some (cD (vl b sh),false),none,none]=some (cD (vl b ad)):=by
   simp only[mT,rd_1,rd_0,lstL_s,bindO_s];rw[aA (by simp;lia)]
   have:=o0 (fun l hl=>hb l (Zt _ hl)) _ rfl
   have hh:(vJ:DEnv->Option D)=e_q9_1:=rfl;rw[hh];exact YV (fun z=>cj (ao z)) this
  simp only[List.set_cons_succ,List.set_cons_zero,e1,e2,jQ,jP,Bool.and_self,Z6,vU]
theorem mY {bs:List Bi}{sh ad:List Str}(h1:sh.length<=1000) (h2:ad.length<=1000) (hl:bs.length<=1000) (h:∀b∈bs,∀l∈sh++ad,∃c,gt b l=some c):
  f_q9 [.lst (bs.map bD),.lst (sh.map D.str),.lst (ad.map D.str)]=some (mn (gD (grp bs sh ad)),true):=by
 rw[au (f:=f_q9) (δ:=[some (.lst (bs.map bD),false),some (.lst (sh.map D.str),false),some (.lst (ad.map D.str),false),none,none,none,none,none]) rfl rfl rfl];unfold BQ Ar;rw[Zm ⟨rfl,by simp,by simp,by simp,by simp⟩]
 have e0:vV ([some (.lst (bs.map bD),false),some (.lst (sh.map D.str),false),some (.lst (ad.map D.str),false),none,none,none,none,none].set 3 none)=some (bs.map bD):=rfl;simp only[e0];rw[Zm (by simp;lia)]
 have:=mN h1 h2 (.lst (bs.map bD)) bs [] none none h;simp only[List.set_cons_succ,List.set_cons_zero];have hg:gD []=[]:=rfl;rw[hg]at this;rw[this];rfl
theorem uY (k:List Ce):∀g:Gr,(bF (cD k) ((gD g).map (·.1)) ((gD g).map fun p=>(.dD p.2 (p.2.map fun y=>.bl true):D))).getD (.dD [] [])=.dD ((b7 g k).map cD) ((b7 g k).map fun y=>.bl true)
 |[]=>rfl
 |q::g=>by
  have ih:=uY k g;rw[aN];show(bF (cD k) (cD q.1::(gD g).map (·.1)) ((.dD (q.2.map cD) ((q.2.map cD).map fun y=>.bl true):D)::_)).getD _=_
  unfold bF
  by_cases h:q.1=k
  ·rw[Zm (by rw[h]),Zm h];simp
  ·rw[Zo fun z=>h (iB z),Zo h];exact ih
theorem Bh (g:Gr) (k:List Ce):bX (some (mn (gD g))) (some (cD k)) (some (.dD [] []))=some (.dD ((b7 g k).map cD) ((b7 g k).map fun y=>.bl true)):=by
 unfold bX br mn;simp only[jQ,jP,Bool.and_self,Z6,uY]
noncomputable def tL (l:List (List Ce)):D:=.dD (l.map cD) (l.map fun y=>.bl true)
theorem nE {ks:List D}(k:D):∀{n:List (List Ce)},ks.length=n.length->d9 k (.bl true) ks (n.map fun y=>(.bl true:D))=n.map fun y=>.bl true:=by
 induction ks with
 |nil=>intro n h;cases n with
  |nil=>rfl
  |cons=>simp at h
 |cons a ks ih=>intro n h;cases n with
  |nil=>simp at h
  |cons b n=>simp only[Zf,d9,ite_self,ih (by simpa using h)]
theorem yd (x:List Ce) (l:List (List Ce)) (hl:l.length<100000):fB (tL l) (cD x) (.bl true)=some (tL (ins x l)):=by
 unfold tL fB;have hm:(cD x∈l.map cD)=(x∈l):=propext ⟨fun h=>by
   obtain⟨y,hy,he⟩:=List.mem_map.mp h;rwa[<-iB he],fun h=>List.mem_map.mpr ⟨x,h,rfl⟩⟩
 simp only[jQ,jP,Bool.and_self,Bool.true_and];rw[Zm (by simp;lia)]
 unfold dr sf ins;simp only[hm];split
 ·rw[nE _ (by simp)]
 ·simp
theorem kZ (x:List Ce) (l:List (List Ce)):(ins x l).length<=l.length+1:=by unfold ins;split<;>simp
theorem vo (kc:List Ce) (hk:kc.length<=1000) (a0 a1 a2 a3 a5:Option (D×Bool)):∀(as:List (List Ce)) (l:List (List Ce)) (a7:Option (D×Bool)),(∀a∈as,a.length<=1000)->l.length+as.length<=50000->∃y7,
  aw (fun d δ=>ac ((ae 7) d δ) qh) (as.map cD) [a0,a1,a2,a3,some (tL l,true),a5,some (cD kc,false),a7]=some (.next [a0,a1,a2,a3,some (tL (as.foldl (fun l a=>ins (kc++a) l) l),true),a5,some (cD kc,false),y7])
 |[],l,a7,_,_=>⟨a7,rfl⟩
 |a::as,l,a7,ha,hl=>by
  rw[List.length_cons]at hl;have hi:=kZ (kc++a) l;obtain⟨y7,e⟩:=vo kc hk a0 a1 a2 a3 a5 as (ins (kc++a) l) (some (cD a,false)) (fun x hx=>ha x (Ze _ hx)) (by lia)
  refine⟨y7,?_⟩
  rw[List.foldl_cons,<-e,Zf]
  conv=>lhs;unfold aw
  have hc:rm (some (cD kc)) (some (cD a))=some (cD (kc++a)):=by
   unfold rm cD;have:=ha a (Zg ..);simp only[Zn,lim_eq];rw[Zm (by lia),Z4]
  simp[qh,kn,hc,yd _ _ (show l.length<100000 by lia)]
theorem mR {sp kp:List Nat}{g:Gr}(h1:sp.length<=1000) (h2:kp.length<=1000) (hg:∀k,((b7 g k).length<=500)/\∀a∈b7 g k,a.length<=1000) (a0:Option (D×Bool)):∀(found l:List (List Ce)) (a5 a6 a7:Option (D×Bool)),(∀c∈found,∀i∈sp++kp,i<c.length)->l.length+500*found.length<=50000->∃y5 y6 y7,
  aw (fun d δ=>ac ((ae 5) d δ) qY) (found.map cD) [a0,some (ii sp,false),some (ii kp,false),some (mn (gD g),false),some (tL l,true),a5,a6,a7]=some (.next [a0,some (ii sp,false),some (ii kp,false),some (mn (gD g),false),some (tL (found.foldl (m4 g sp kp) l),true),y5,y6,y7])
 |[],l,a5,a6,a7,_,_=>⟨a5,a6,a7,rfl⟩
 |c::found,l,a5,a6,a7,hc,hl=>by
  rw[List.length_cons]at hl;have hc0:=hc c (Zg ..);have g1:=(hg (pk c sp)).1;obtain⟨z7,e1⟩:=vo (pk c kp) (by unfold pk;simpa using h2) a0 (some (ii sp,false)) (some (ii kp,false)) (some (mn (gD g),false)) (some (cD c,false)) (b7 g (pk c sp)) l a7 (hg _).2 (by lia)
  have hx:(m4 g sp kp l c).length<=l.length+500:=by
   unfold m4;have key:∀(as l:List (List Ce)),(as.foldl (fun l a=>ins (pk c kp++a) l) l).length<=l.length+as.length:=by
    intro as
    induction as with
    |nil=>intro l;simp
    |cons a as ih=>intro l;rw[List.foldl_cons];have:=ih (ins (pk c kp++a) l);have:=kZ (pk c kp++a) l;simp;lia
   have:=key (b7 g (pk c sp)) l
   lia
  obtain⟨y5,y6,y7,e⟩:=mR h1 h2 hg a0 found (m4 g sp kp l c) (some (cD c,false)) (some (cD (pk c kp),false)) z7 (fun x hx=>hc x (Ze _ hx)) (by lia)
  refine⟨y5,y6,y7,?_⟩
  rw[List.foldl_cons,<-e,Zf]
  conv=>lhs;unfold aw
  simp only[toName_s,List.length_cons,List.length_nil,Nat.reduceAdd,Nat.reduceLT,bindO_s,List.set_cons_succ,List.set_cons_zero];simp only[qY,rd_1,rd_0,consO_s,bindO_s,eJ (fun i hi=>hc0 i (Zt _ hi)) h2,shO_s,setO_s,List.length_cons,List.length_nil,Nat.reduceAdd,Nat.reduceLT,seqO_n,List.set_cons_succ,List.set_cons_zero,eJ (fun i hi=>hc0 i (Z2 _ hi)) h1,Bh,uE]
  rw[e1];rfl
theorem kB {found:List (List Ce)}{sp kp:List Nat}{g:Gr}(h1:sp.length<=1000) (h2:kp.length<=1000) (hg:∀k,((b7 g k).length<=500)/\∀a∈b7 g k,a.length<=1000) (hf:found.length<=100) (h:∀c∈found,∀i∈sp++kp,i<c.length):
  f_qa [.lst (found.map cD),ii sp,ii kp,mn (gD g)]=some (.lst ((ext found sp kp g).map cD),true):=by
 rw[au (f:=f_qa) (δ:=[some (.lst (found.map cD),false),some (ii sp,false),some (ii kp,false),some (mn (gD g),false),none,none,none,none]) rfl rfl rfl];obtain⟨y5,y6,y7,e⟩:=mR h1 h2 hg (some (.lst (found.map cD),false)) found [] none none none h (by simp;lia)
 have e0:tL []=.dD [] []:=rfl;rw[e0]at e;simp only[A4,setF_s,List.length_cons,List.length_nil,Nat.reduceAdd,Nat.reduceLT,seqO_n,List.set_cons_succ,List.set_cons_zero,rd_0,lstL_s,bindO_s];rw[e];simp[vL,tL,lN,ext]
end K33
namespace K33
open PySem L2 JP
theorem sL (g:Gr) (k e k':List Ce):(b7 (ki g k e) k').length<=(b7 g k').length+1:=by
 induction g with
 |nil=>
  unfold ki;rw[aN];split<;>simp[b7]
 |cons q g ih=>
  unfold ki
  by_cases h:q.1=k
  ·rw[Zm h,aN,aN]
   dsimp only
   by_cases h':q.1=k'
   ·rw[Zm h',Zm h'];split<;>simp
   ·rw[Zo h',Zo h'];lia
  ·rw[Zo h,aN,aN]
   by_cases h':q.1=k'
   ·rw[Zm h',Zm h'];lia
   ·rw[Zo h',Zo h'];exact ih
theorem xv (sh ad:List Str) (k:List Ce) (bs:List Bi):(b7 (grp bs sh ad) k).length<=bs.length:=by
 have key:∀(bs:List Bi) (g:Gr),(b7 (bs.foldl (fun g b=>ki g (vl b sh) (vl b ad)) g) k).length<=(b7 g k).length+bs.length:=by
  intro bs
  induction bs with
  |nil=>intro g;simp
  |cons b bs ih=>intro g;rw[List.foldl_cons];have:=ih (ki g (vl b sh) (vl b ad));have:=sL g (vl b sh) (vl b ad) k;simp;lia
 have:=key bs []
 simpa[b7,grp]using this
theorem xD {found:List (List Ce)}{sp kp:List Nat}{g:Gr}{n:Nat}(h:∀k,(b7 g k).length<=n):(ext found sp kp g).length<=found.length*n:=by
 have kin:∀(c:List Ce) (as l:List (List Ce)),(as.foldl (fun l a=>ins (pk c kp++a) l) l).length<=l.length+as.length:=by
  intro c as
  induction as with
  |nil=>intro l;simp
  |cons a as ih=>intro l;rw[List.foldl_cons];have:=ih (ins (pk c kp++a) l);have:=kZ (pk c kp++a) l;simp;lia
 have key:∀(found l:List (List Ce)),(found.foldl (m4 g sp kp) l).length<=l.length+found.length*n:=by
  intro found
  induction found with
  |nil=>intro l;simp
  |cons c found ih=>
   intro l;rw[List.foldl_cons];have h1:=ih (m4 g sp kp l c);have h2:=kin c (b7 g (pk c sp)) l;have h3:=h (pk c sp);unfold m4 at h1⊢;rw[List.length_cons,Nat.add_mul]
   lia
 have:=key found []
 simpa[ext]using this
theorem nQ {α:Type}(f:α->D) (a:List α) (x:α) (b:List α):oD ((a++x::b).map f) (some ((a.length:Int)+1)) none=b.map f:=by
 unfold oD;have e:((a.length:Int)+1)=((a.length+1:Nat):Int):=by lia
 rw[e,HT.sIx_nat,HT.sIx_none];simp only[Zn,ZO,List.length_cons];rw[Nat.min_eq_left (by lia)]
 rw[List.take_of_length_le (by simp)]
 rw[<-List.map_drop];congr 1;rw[List.drop_append];simp
theorem Bq (l:Str) (ss:List Str):bU (some (.str l)) (some (.lst (ss.map D.str)))=some (!decide (l∈ss)):=by
 unfold bU;rw[dw];rfl
theorem dQ {own:List Str}{P:Str->Bool}{F:D->Option (Option D)}(h:∀l∈own,F (.str l)=some (if P l=true then some (.str l) else none)):aX F (own.map D.str)=some ((own.filter P).map D.str):=bg h
theorem fw {α:Type}(P:α->Bool) (l:List α):(l.filter P).length<=l.length:=List.length_filter_le ..
theorem wc {rs:List Row}(hrs:rs.length<=500) {wanted:List Str}(hw:wanted.length<=100) {done rest:List Pat}{p:Pat}{known:List Str}{found:List (List Ce)}(J:Jn rs wanted done (p::rest) known found) (hk:known.length<=100) (hf:found.length<=100)
  (h4:∀q∈p::rest,q.2.length<=4) (hl:(p::rest).length<=4) (a0 a1 x8 x9 x10 x11 x12 x13 x14 x15 x16 x17:Option (D×Bool)):∃known' found' y8 y9 y10 y11 y12 y13,Jn rs wanted (done++[p]) rest known' found'/\known'.length<=known.length+4/\found'.length<=found.length*rs.length/\
  mQ [a0,a1,some (.lst (wanted.map D.str),false),some (.lst (known.map D.str),false),some (.lst (found.map cD),false),some (.lst ((done++p::rest).map (prD rs)),false),some (.int done.length,false),some (prD rs p,false),x8,x9,x10,x11,x12,x13,x14,x15,x16,x17]=
   some (.next [a0,a1,some (.lst (wanted.map D.str),false),some (.lst (known'.map D.str),false),some (.lst (found'.map cD),false),some (.lst ((done++p::rest).map (prD rs)),false),some (.int done.length,false),some (prD rs p,false),y8,y9,y10,y11,y12,y13,x14,x15,x16,x17]):=by
 obtain⟨ls,els,_,mls,lls⟩:=fy (fH rest);obtain⟨own,eown,nown,mown,lown⟩:=fy (fH [p]);have hp4:=h4 p (Zg ..);have hr4:∀q∈rest,q.2.length<=4:=fun q hq=>h4 q (Ze _ hq)
 have hrl:rest.length<=3:=by simp at hl;lia
 have lr:=cA hr4;have lp:(fH [p]).length<=4:=by
  have:=cA (ps:=[p]) fun q hq=>by rw[List.mem_singleton.mp hq];exact hp4
  simpa using this
 have mo:∀l,l∈own↔l∈ans p.2:=fun l=>by rw[mown,gH];simp
 have ml:∀l,l∈wanted++ls↔l∈wanted\/∃q∈rest,l∈ans q.2:=fun l=>by rw[List.mem_append,mls,gH]
 have hol:own.length<=4:=by lia
 generalize hlat:wanted++ls=later at ml;have hll:later.length<=200:=by rw[<-hlat,ZO];lia
 have J':=wH J mo nown ml;have f1:=fw (fun l=>decide (l∈known)) own
 have f2:=fw (fun l=>decide (l∈later)&&!decide (l∈known)) own
 have f3:=fw (fun l=>decide (l∈later)) known
 have memS:∀l∈own.filter (fun l=>decide (l∈known)),l∈known:=fun l hl=>by simp at hl;exact hl.2
 have memK:∀l∈known.filter (fun l=>decide (l∈later)),l∈known:=fun l hl=>by simp at hl;exact hl.1
 have hin:∀b∈binds rs p,∀l∈own,∃c,gt b l=some c:=fun b hb l hl=>(cR hb).1 l ((mo l).mp hl)
 have hsub:∀l∈own.filter (fun l=>decide (l∈known))++own.filter (fun l=>decide (l∈later)&&!decide (l∈known)),l∈own:=fun l hl=>(List.mem_append.mp hl).elim (fun h=>(List.mem_filter.mp h).1) fun h=>(List.mem_filter.mp h).1
 have eg:=mY (bs:=binds rs p) (sh:=own.filter (fun l=>decide (l∈known))) (ad:=own.filter (fun l=>decide (l∈later)&&!decide (l∈known))) (by lia) (by lia) (by have:=iC rs p;lia) fun b hb l hl=>hin b hb l (hsub l hl)
 generalize hsh:own.filter (fun l=>decide (l∈known))=sh at*
 generalize had:own.filter (fun l=>decide (l∈later)&&!decide (l∈known))=ad at*
 generalize hkp:known.filter (fun l=>decide (l∈later))=kept at*
 have hgl:∀k,(b7 (grp (binds rs p) sh ad) k).length<=rs.length:=fun k=>ZM (xv sh ad k _) (iC rs p)
 have ee:=kB (found:=found) (sp:=aQ sh known) (kp:=aQ kept known) (g:=grp (binds rs p) sh ad) (by unfold aQ;simp;lia) (by unfold aQ;simp;lia) (fun k=>⟨by have:=hgl k;lia,fun a ha=>by
   obtain⟨b,_,_,e⟩:=(lB _ _ _ _ _).mp ha;rw[<-e];unfold vl;simp;lia⟩) hf fun c hc i hi=>by
  obtain⟨φ,rfl,_⟩:=(J.mem c).mp hc;rw[Zn];have:∃l∈sh++kept,i=known.idxOf l:=by
   unfold aQ at hi;rw[<-Z4]at hi;obtain⟨l,h1,h2⟩:=List.mem_map.mp hi;exact⟨l,h1,h2.symm⟩
  obtain⟨l,h1,rfl⟩:=this;exact Yu ((List.mem_append.mp h1).elim (memS l) (memK l))
 have ep1:=cf memS (by lia) (by lia)
 have ep2:=cf memK (by lia) (by lia)
 refine⟨_,_,some (.lst (later.map D.str),false),some (.lst (own.map D.str),false),some (.lst (sh.map D.str),false),some (.lst (ad.map D.str),false),some (.lst (kept.map D.str),false),some (mn (gD (grp (binds rs p) sh ad)),false),J',by rw[ZO];lia,xD hgl,?_⟩
 have c1:aX (aI (ae 17) (fun δ=>some true) vQ (aB false [false,false,false,false,false,false,false,false,false,false,false,false,false,false,false,false,false,false] [a0,a1,some (.lst (wanted.map D.str),false),some (.lst (known.map D.str),false),some (.lst (found.map cD),false),some (.lst ((done++p::rest).map (prD rs)),false),some (.int done.length,false),some (prD rs p,false),x8,x9,x10,x11,x12,x13,x14,x15,x16,x17])) (rest.map (prD rs))=some (rest.map aG):=aZ fun q hq=>pB rfl
 have l1:=aY (ps:=rest) (by lia) hr4
 have l2:=aY (ps:=[p]) (by simp) fun q hq=>by rw[List.mem_singleton.mp hq];exact hp4
 have e0:ixO (some (prD rs p)) (some (.int 0))=some (aG p):=by simp[prD,at0]
 have e1:ixO (some (prD rs p)) (some (.int 1))=some (.lst ((binds rs p).map bD)):=by simp[prD,at1]
 rw[els]at l1;rw[eown,Zf,ZX]at l2;simp only[mQ,rd_1,rd_0,listO_l,addI_s,partI_s,cutLO_s,nQ,lstL_s,bindO_s];rw[aA (by simp;lia),c1]
 simp only[lstLim_s,consO_s,bindO_s,l1,frO_s];rw[catO_s _ _ (by simp;lia),<-Z4,hlat,setO_s _ _ _ (by simp)]
 simp only[seqO_n,List.set_cons_succ,List.set_cons_zero,rd_1,rd_0,e0,consO_s];rw[lstO_s _ (by simp)]
 simp only[consO_s,bindO_s,l2,frO_s];rw[setO_s _ _ _ (by simp)]
 simp only[seqO_n,List.set_cons_succ,List.set_cons_zero,rd_1,rd_0,lstL_s,bindO_s];rw[aA (by simp;lia),dQ (P:=fun l=>decide (l∈known)) fun l hl=>by exact vH (dw l known) rfl]
 rw[hsh,lstLim_s,setF_s _ _ _ (by simp)]
 simp only[seqO_n,List.set_cons_succ,List.set_cons_zero,frzE_1,frzE_0,u0,rd_1,rd_0,lstL_s,bindO_s];rw[aA (by simp;lia),dQ (P:=fun l=>decide (l∈later)&&!decide (l∈known)) fun l hl=>by exact vH (yL (dw l later) (Bq l known)) rfl]
 rw[had,lstLim_s,setF_s _ _ _ (by simp)]
 simp only[seqO_n,List.set_cons_succ,List.set_cons_zero,frzE_1,frzE_0,vC,rd_1,rd_0,lstL_s,bindO_s];rw[aA (by simp;lia),dQ (P:=fun l=>decide (l∈later)) fun l hl=>by exact vH (dw l later) rfl]
 rw[hkp,lstLim_s,setF_s _ _ _ (by simp)]
 simp only[seqO_n,List.set_cons_succ,List.set_cons_zero,frzE_1,frzE_0,uW,rd_1,rd_0,e1,consO_s,bindO_s,eg];have efr:frO (some (mn (gD (grp (binds rs p) sh ad)),true))=some (mn (gD (grp (binds rs p) sh ad))):=rfl;rw[efr,setO_s _ _ _ (by simp)]
 have efn:∀ns,frO (some (ii ns,true))=some (ii ns):=fun y=>rfl
 simp only[seqO_n,List.set_cons_succ,List.set_cons_zero,rd_1,rd_0,consO_s,bindO_s,ep1,ep2,efn,ee,frO_s];rw[setO_s _ _ _ (by simp)]
 simp only[seqO_n,List.set_cons_succ,List.set_cons_zero,rd_1,rd_0];rw[catO_s _ _ (by simp;lia),setO_s _ _ _ (by simp),<-Z4]
 rfl
theorem eC {lt:D->D->Option Bool}:∀{xs ys:List D},(∀x∈xs,∀y∈ys,(lt x y).isSome=true)->(bZ lt xs ys).isSome=true
 |[],[],_=>rfl
 |[],_::_,_=>rfl
 |_::_,[],_=>rfl
 |x::xs,y::ys,h=>by
  unfold bZ;split
  ·exact eC fun a ha b hb=>h a (Ze _ ha) b (Ze _ hb)
  ·exact h x (Zg ..) y (Zg ..)
theorem bn:¬(Str.ofString "blank")=(Str.ofString "name"):=by decide +kernel
theorem nb:¬(Str.ofString "name")=(Str.ofString "blank"):=by decide +kernel
theorem yA (n:Nat) (c e:Ce):(ltD (n+1) (ceD c) (ceD e)).isSome=true:=by
 cases c<;>cases e<;>simp[ceD,ltD,bZ,bn,nb]<;>split<;>rfl
theorem BW (fs:List (List Ce)):fF (fs.map cD)=true:=by
 unfold fF;rw[ZH];intro x hx;obtain⟨r,_,rfl⟩:=List.mem_map.mp hx;rw[Zu];refine⟨DJ r,?_⟩
 rw[ZH];intro y hy;obtain⟨q,_,rfl⟩:=List.mem_map.mp hy;show(bZ (ltD 14) (r.map ceD) (q.map ceD)).isSome=true;refine eC fun x hx y hy=>?_
 obtain⟨c,_,rfl⟩:=List.mem_map.mp hx;obtain⟨e,_,rfl⟩:=List.mem_map.mp hy;exact yA 13 c e
theorem cV {α:Type}{f:α->D}:∀{l:List D}{fs:List α},l.Perm (fs.map f)->∃gs:List α,gs.Perm fs/\l=gs.map f:=by
 intro l fs h;generalize hm:fs.map f=m at h
 induction h generalizing fs with
 |nil=>exact⟨[],by simp at hm;rw[hm],rfl⟩
 |cons x h ih=>
  cases fs with
  |nil=>simp at hm
  |cons a fs=>
   simp only[Zf,YC]at hm;obtain⟨gs,p,e⟩:=ih hm.2;exact⟨a::gs,p.cons a,by rw[e,<-hm.1];rfl⟩
 |swap x y l=>
  cases fs with
  |nil=>simp at hm
  |cons a fs=>
   cases fs with
   |nil=>simp at hm
   |cons b fs=>
    simp only[Zf,YC]at hm;exact⟨b::a::fs,List.Perm.swap ..,by rw[<-hm.1,<-hm.2.1,<-hm.2.2];rfl⟩
 |trans h1 h2 ih1 ih2=>
  obtain⟨gs,p,e⟩:=ih2 hm;obtain⟨gs',p',e'⟩:=ih1 e.symm;exact⟨gs',p'.trans p,e'⟩
theorem zN {fs:List (List Ce)}(nd:fs.Nodup) {n:Nat}(hn:∀c∈fs,c.length=n) (hl:fs.length<64):∃gs:List (List Ce),gs.Perm fs/\s0 (fg (some (.lst (fs.map cD)))) (i9 .tt (some (.lst (fs.map cD))))=some (.lst (gs.map cD)):=by
 by_cases h1:fs.length<=1
 ·refine⟨fs,Yo _,?_⟩
  unfold fg;simp only[Zn,h1,Z6,s0]
 ·have hn0:n≠0:=fun z=>by
   subst z
   match fs,nd,hn,h1 with
   |[],_,_,h=>simp at h
   |[_],_,_,h=>simp at h
   |a::b::r,nd,hn,_=>
    have ha:=List.length_eq_zero_iff.mp (hn a (by simp))
    have hb:=List.length_eq_zero_iff.mp (hn b (by simp))
    simp[ha,hb]at nd
  obtain⟨gs,p,e⟩:=cV (f:=cD) (cu (fs.map cD));refine⟨gs,p,?_⟩
  have e1:fg (some (.lst (fs.map cD)))=none:=by
   unfold fg;simp only[Zn,h1,ZY]
  rw[e1,l6 (by simpa using hl) (BW fs),e]
  ·rfl
  ·rw[ZH]
   intro d hd;obtain⟨c,hc,rfl⟩:=List.mem_map.mp hd;have:=hn c hc;cases c with
   |nil=>exact absurd this.symm hn0
   |cons x c=>cases x<;>rfl
theorem du {rs:List Row}(hrs:rs.length<=63) {p:Pat}(h4:p.2.length<=4) {wanted:List Str}(hw:wanted.length<=100) (hwp:∀l∈wanted,l∈ans p.2):∃fs:List (List Ce),(∀x,x∈fs↔∃φ:Fit,x=wanted.map φ/\se rs φ p)/\
  fs.length<=63/\f_q3 [.lst (rs.map ax),.lst [aG p],.lst (wanted.map D.str)]=some (.lst (fs.map cD),true):=by
 have hp4:∀q∈[p],q.2.length<=4:=fun q hq=>by rw[List.mem_singleton.mp hq];exact h4
 have eo:=dZ rs (by lia) [] (by simp) h4
 obtain⟨known,found,y8,y9,y10,y11,y12,y13,J,hk,hf,e⟩:=wc (rs:=rs) (by lia) hw (done:=[]) (rest:=[]) (p:=p) (known:=[]) (found:=[[]]) (uO rs wanted [p]) (by simp) (by simp) hp4 (by simp) (some (.lst (rs.map ax),false)) (some (.lst [aG p],false)) none none none none none none none none none none
 have hwk:∀l∈wanted,l∈known:=fun l hl=>J.has l ⟨p,by simp,hwp l hl⟩ (.inl hl)
 obtain⟨nd,mem⟩:=Ak J fun l hl=>⟨p,by simp,hwp l hl⟩
 simp only[List.length_cons,List.length_nil,Nat.zero_add,Nat.one_mul]at hk hf;obtain⟨gs,pg,es⟩:=zN nd (n:=wanted.length) (fun c hc=>by
  obtain⟨d,_,rfl⟩:=List.mem_map.mp hc;unfold pk aQ;simp) (by simp;lia)
 refine⟨gs,fun x=>?_,by rw[pg.length_eq];simp;lia,?_⟩
 ·rw[pg.mem_iff,mem]
  simp
 ·have ej:f_q4 [.lst (rs.map ax),.lst [aG p],.lst (wanted.map D.str),.lst [],.lst [.tup []]]=some (.lst (gs.map cD),true):=by
   rw[au (f:=f_q4) (δ:=[some (.lst (rs.map ax),false),some (.lst [aG p],false),some (.lst (wanted.map D.str),false),some (.lst [],false),some (.lst [.tup []],false),none,none,none,none,none,none,none,none,none,none,none,none,none]) rfl rfl rfl];simp only[Zf,ZX]at eo;simp only[Bj,rd_1,rd_0,consO_s,bindO_s,eo,frO_s];rw[setO_s _ _ _ (by simp)]
   simp only[seqO_n,List.set_cons_succ,List.set_cons_zero,rd_1,rd_0,sr,gF,bindO_s];simp only[List.nil_append,Zf,ZX,List.length_nil]at e;have ec:cD []=.tup []:=rfl;rw[ec]at e;unfold aw;have et:∀(δ:DEnv) (x:Option (D×Bool)),(ac ((aP (aj (ae 6) (aj (ae 7) (toNil)))) (.tup [.int ((0:Nat):Int),prD rs p]) [some (.lst (rs.map ax),false),some (.lst [aG p],false),some (.lst (wanted.map D.str),false),some (.lst [],false),some (.lst [.tup []],false),some (.lst [prD rs p],false),none,none,none,none,none,none,none,none,none,none,none,none]) mQ)=some (.next [some (.lst (rs.map ax),false),some (.lst [aG p],false),some (.lst (wanted.map D.str),false),some (.lst (known.map D.str),false),some (.lst (found.map cD),false),some (.lst [prD rs p],false),some (.int ((0:Nat):Int),false),some (prD rs p,false),y8,y9,y10,y11,y12,y13,none,none,none,none]):=fun y y=>by
    rw[<-e];simp only[toTup_s,toCons_s,toNil_s,toName_s,ZJ,List.length_cons,List.length_nil,bindO_s,List.set_cons_succ,List.set_cons_zero,Nat.reduceAdd,Nat.reduceLT]
   rw[et [] none];simp only[aw,seqO_n,rd_1,rd_0,consO_s,bindO_s];rw[cf hwk (by lia) (by lia)]
   have efn:∀ns,frO (some (ii ns,true))=some (ii ns):=fun y=>rfl
   rw[efn,setO_s _ _ _ (by simp)]
   simp only[seqO_n,List.set_cons_succ,List.set_cons_zero,rd_1,rd_0,lstL_s,bindO_s];rw[aA (by simp;lia),aZ (f:=cD) (h:=fun c=>cD (pk c (aQ wanted known))) fun c hc=>by
    obtain⟨φ,rfl,_⟩:=(J.mem c).mp hc;have:=eJ (c:=known.map φ) (ps:=aQ wanted known) (fun i hi=>by
     unfold aQ at hi;obtain⟨l,h1,rfl⟩:=List.mem_map.mp hi;rw[Zn];exact Yu (hwk l h1)) (by unfold aQ;simp;lia)
    exact pB (Ct this)]
   have em:found.map (fun c=>cD (pk c (aQ wanted known)))=(found.map fun c=>pk c (aQ wanted known)).map cD:=by simp
   rw[lstLim_s,em,es];rfl
  rw[au (f:=f_q3) (δ:=[some (.lst (rs.map ax),false),some (.lst [aG p],false),some (.lst (wanted.map D.str),false)]) rfl rfl rfl];simp only[BS,rd_1,rd_0];rw[lstO_s [] (by simp),tupO_s [] (by simp)]
  simp only[consO_s];rw[lstO_s _ (by simp)]
  simp only[consO_s,bindO_s,ej,frO_s,retF_s,outF_r]
end K33
namespace K33
open PySem L2 JP
theorem jH {F:D->D}(k:D):∀ks:List D,d9 k (F k) ks (ks.map F)=ks.map F
 |[]=>rfl
 |x::ks=>by
  rw[Zf,d9,jH k ks];split
  ·rename_i h;rw[h]
  ·rfl
theorem uQ {F:D->D}(k:D) (ks:List D):sf k (F k) ks (ks.map F)=(dr k ks).map F:=by
 unfold sf dr;split
 ·exact jH k ks
 ·simp
theorem jn {F:D->D}:∀(kl ks:List D),∃ks',(∀x,x∈ks'↔x∈ks\/x∈kl)/\jA ks (ks.map F) (kl.map fun k=>(k,F k))=(ks',ks'.map F)
 |[],ks=>⟨ks,by simp,rfl⟩
 |k::kl,ks=>by
  obtain⟨ks',h1,h2⟩:=jn (F:=F) kl (dr k ks);refine⟨ks',fun x=>?_,?_⟩
  ·rw[h1]
   unfold dr;split
   ·rename_i hk
    constructor
    ·rintro(h|h)
     ·exact .inl h
     ·exact .inr (Ze _ h)
    ·rintro(h|h)
     ·exact .inl h
     ·rcases ZA.mp h with rfl|h
      ·exact .inl hk
      ·exact .inr h
   ·simp[or_assoc]
  ·rw[Zf,jA,uQ]
   exact h2
theorem eS {F:D->D}:∀{kl:List D},(∀k∈kl,(bf 8 k&&la k)=true)->dj (kl.map fun k=>.tup [k,F k])=some (kl.map fun k=>(k,F k))
 |[],_=>rfl
 |k::kl,h=>by
  rw[Zf,dj,eS fun x hx=>h x (Ze _ hx)]
  have:my (.tup [k,F k])=some (k,F k):=by
   unfold my;simp only[h k (Zg ..),Z6]
  rw[this];rfl
theorem lY {F:D->D}{kl:List D}(h:∀k∈kl,(bf 8 k&&la k)=true) (hl:kl.length<=1000):∃ks,(∀x,x∈ks↔x∈kl)/\fW (some (.lst (kl.map fun k=>.tup [k,F k])))=some (.dD ks (ks.map F)):=by
 obtain⟨ks,h1,h2⟩:=jn (F:=F) kl [];refine⟨ks,fun x=>by rw[h1];simp,?_⟩
 unfold fW;simp only[eS h,Zn];rw[Zm (by rw[lim_eq];omega)]
 rw[ZX]at h2;rw[h2]
theorem gQ {F:D->D}(k:D):∀ks:List D,bF k ks (ks.map F)=if k∈ks then some (F k) else none
 |[]=>rfl
 |x::ks=>by
  rw[Zf,bF,gQ k ks]
  by_cases h:x=k
  ·subst h;simp
  ·have h':¬k=x:=fun z=>h z.symm
   simp[h,h']
theorem xm {F:D->D}{k:D}{ks:List D}(h:(bf 8 k&&la k)=true):oA (some k) (some (.dD ks (ks.map F)))=some (decide (k∈ks)):=by
 unfold oA br;simp only[h,Z6,gQ];split<;>simp[*]
theorem q5 {F:D->D}{k y:D}{ks:List D}(h:(bf 8 k&&la k)=true):bX (some (.dD ks (ks.map F))) (some k) (some y)=some (if k∈ks then F k else y):=by
 unfold bX br;simp only[h,Z6,gQ];split<;>rfl
inductive Ru where|must (b h:Pat)|same (b:Pat) (s t:Te)
noncomputable def ruD:Ru->D
 |.must b h=>.tup [.str "must",.lst [aG b],.lst [aG h]]
 |.same b s t=>.tup [.str "same",.lst [aG b],teD s,teD t]
noncomputable def kz:Ru->Prop
 |.must b h=>b.2.length<=4/\h.2.length<=4
 |.same b s t=>b.2.length<=4/\∀l∈ans [s,t],l∈ans b.2
noncomputable def Kp (rs:List Row):Ru->Prop
 |.must b h=>∀φ:Fit,se rs φ b->∃ψ:Fit,(∀l,l∈ans b.2->l∈ans h.2->φ l=ψ l)/\se rs ψ h
 |.same b s t=>∀φ:Fit,se rs φ b->ev φ s=ev φ t
theorem ms:(("must":Str)="same")=False:=by simp;decide +kernel
theorem gu {p:Pat}(h:p.2.length<=4):∃us:List Str,us.Nodup/\(∀l,l∈us↔l∈ans p.2)/\us.length<=4/\f_q2 [.lst [aG p]]=some (.lst (us.map D.str),true):=by
 have hp:∀q∈[p],q.2.length<=4:=fun q hq=>by rw[List.mem_singleton.mp hq];exact h
 obtain⟨us,e,nd,m,l⟩:=fy (fH [p]);have h1:=cA hp;have h2:=aY (ps:=[p]) (by simp) hp
 rw[e,Zf,ZX]at h2;refine⟨us,nd,fun x=>by rw[m,gH];simp,?_,h2⟩
 simp only[List.length_cons,List.length_nil]at h1;omega
theorem dF (b:Pat) (s t:Te):f_qh [ruD (.same b s t)]=some (aG ("same",[s,t]),false):=by
 rw[au (f:=f_qh) (δ:=[some (ruD (.same b s t),false)]) rfl rfl rfl];have e2:ixO (some (ruD (.same b s t))) (some (.int 2))=some (teD s):=rfl;have e3:ixO (some (ruD (.same b s t))) (some (.int 3))=some (teD t):=rfl;simp only[BH,rd_0,e2,e3,consO_s];rw[tupO_s _ (by simp)]
 simp only[consO_s];rw[tupO_s _ (by simp)]
 rfl
theorem gw {b h:Pat}(hb:b.2.length<=4) (hh:h.2.length<=4):∃us:List Str,(∀l,l∈us↔l∈ans b.2/\l∈ans h.2)/\us.length<=4/\f_qe [ruD (.must b h)]=some (.lst (us.map D.str),true):=by
 obtain⟨ub,_,mb,lb,eb⟩:=gu hb;obtain⟨uh,_,mh,lh,eh⟩:=gu hh;have hf:=fw (fun l=>decide (l∈ub)) uh
 refine⟨uh.filter fun l=>decide (l∈ub),fun l=>by simp[mb,mh,and_comm],by omega,?_⟩
 rw[au (f:=f_qe) (δ:=[some (ruD (.must b h),false),none,none]) rfl rfl rfl];have e0:ixO (some (ruD (.must b h))) (some (.int 0))=some (.str "must"):=rfl;have e1:ixO (some (ruD (.must b h))) (some (.int 1))=some (.lst [aG b]):=rfl;have e2:ixO (some (ruD (.must b h))) (some (.int 2))=some (.lst [aG h]):=rfl;simp only[AR,rd_0,e0,e1,e2,aF,ms,YE,ifO_f,nextO_s,seqO_n,consO_s,bindO_s,eb,eh,frO_s];rw[setO_s _ _ _ (by simp)]
 simp only[seqO_n,List.set_cons_succ,List.set_cons_zero,rd_0,e2,consO_s,bindO_s,eh,frO_s,lstL_s];rw[aA (by simp;omega),dQ (P:=fun l=>decide (l∈ub)) fun l hl=>by exact vH (dw l ub) rfl]
 rfl
theorem gx {b:Pat}{s t:Te}:∃us:List Str,us.Nodup/\(∀l,l∈us↔l∈ans [s,t])/\us.length<=4/\f_qe [ruD (.same b s t)]=some (.lst (us.map D.str),true):=by
 obtain⟨us,nd,m,l,e⟩:=gu (p:=("same",[s,t])) (by simp)
 refine⟨us,nd,m,l,?_⟩
 rw[au (f:=f_qe) (δ:=[some (ruD (.same b s t),false),none,none]) rfl rfl rfl];have e0:ixO (some (ruD (.same b s t))) (some (.int 0))=some (.str "same"):=rfl;simp only[AR,rd_0,e0,aF,Yr,ifO_t,consO_s,bindO_s,dF,shO_s];rw[lstO_s _ (by simp)]
 simp only[consO_s,bindO_s,e,frO_s,retF_s,seqO_r,outF_r]
theorem yE (t:Te):(bf 8 (teD t)&&la (teD t))=true:=by cases t<;>rfl
theorem oX {us:List Str}{φ:Fit}(hu:us.length<=4) {p:Pat}(h4:p.2.length<=4) (hs:∀l∈ans p.2,l∈us):
  f_q1 [.lst [aG p],.lst (us.map fun l=>.tup [.str l,ceD (φ l)])]=some (.lst [.tup [.str p.1,.tup (p.2.map fun t=>ceD (ev φ t))]],true):=by
 rw[au (f:=f_q1) (δ:=[some (.lst [aG p],false),some (.lst (us.map fun l=>.tup [.str l,ceD (φ l)]),false),none,none,none,none]) rfl rfl rfl]
 let F:D->D:=fun d=>match d with|.tup [_,.str l]=>ceD (φ l)|_=>.non
 obtain⟨ks,mk,ek⟩:=lY (F:=F) (kl:=us.map fun l=>teD (.any l)) (fun k hk=>by
  obtain⟨l,_,rfl⟩:=List.mem_map.mp hk;exact yE _) (by simp;omega)
 have ec:aX (aI (aP (aj (ae 5) (aj (ae 4) (toNil)))) (fun δ=>some true) vI (aB false [false,false,false,false,false,false] [some (.lst [aG p],false),some (.lst (us.map fun l=>.tup [.str l,ceD (φ l)]),false),none,none,none,none])) (us.map fun l=>.tup [.str l,ceD (φ l)])=some (us.map fun l=>.tup [teD (.any l),ceD (φ l)]):=aZ fun l hl=>pB rfl
 have el:(us.map fun l=>(.tup [teD (.any l),ceD (φ l)]:D))=(us.map fun l=>teD (.any l)).map fun k=>.tup [k,F k]:=by
  rw[List.map_map];rfl
 simp only[Bf,rd_1,rd_0,lstL_s,bindO_s];rw[aA (by simp;omega),ec,lstLim_s,el,ek,setO_s _ _ _ (by simp)]
 simp only[seqO_n,List.set_cons_succ,List.set_cons_zero,rd_0,lstL_s,bindO_s];have ex:f_q0 [aG p,.dD ks (ks.map F)]=some (.tup [.str p.1,.tup (p.2.map fun t=>ceD (ev φ t))],false):=by
  rw[au (f:=f_q0) (δ:=[some (aG p,false),some (.dD ks (ks.map F),false),none]) rfl rfl rfl];have e0:ixO (some (aG p)) (some (.int 0))=some (.str p.1):=by simp[aG,at0]
  have e1:ixO (some (aG p)) (some (.int 1))=some (.tup (p.2.map teD)):=by simp[aG,at1]
  simp only[Bk,rd_0,rd_1,e0,e1,tupL_s,bindO_s];rw[aA (by simp;omega),aZ (f:=teD) (h:=fun t=>ceD (ev φ t)) fun t ht=>by
   have hd:bX (some (.dD ks (ks.map F))) (some (teD t)) (some (teD t))=some (ceD (ev φ t)):=by
    rw[q5 (yE t)];cases t with
    |any l=>
     have hl:l∈us:=hs l (by
      have key:∀ts:List Te,.any l∈ts->l∈ans ts:=by
       intro ts
       induction ts with
       |nil=>intro h;contradiction
       |cons a ts ih=>
        intro h
        rcases ZA.mp h with rfl|h'
        ·exact Zg ..
        ·clear h
         cases a with
         |any m=>exact Ze _ (ih h')
         |nm w=>exact ih h'
      exact key _ ht)
     rw[Zm ((mk _).mpr (List.mem_map.mpr ⟨l,hl,rfl⟩))];rfl
    |nm w=>
     rw[Zo]
     ·rfl
     ·intro z
      obtain⟨l,_,e⟩:=List.mem_map.mp ((mk _).mp z);simp only[teD,D.tup.injEq,YC,D.str.injEq]at e;have:=na;rw[<-e.1]at this;simp at this
   exact pB hd]
  rw[lstLim_s,tupleO_l];simp only[consO_s];rw[tupO_s _ (by simp)]
  rfl
 rw[aA (by simp),show([aG p]:List D)=[p].map aG from rfl,aZ (f:=aG) (h:=fun y=>.tup [.str p.1,.tup (p.2.map fun t=>ceD (ev φ t))]) fun q hq=>by
  rw[List.mem_singleton.mp hq];exact pB (Ct ex)]
 rfl
theorem iR {us:List Str}{φ:Fit}(hu:us.length<=4) {b:Pat}{s t:Te}(hs:∀l∈ans [s,t],l∈us):
  f_qi [ruD (.same b s t),.lst (us.map fun l=>.tup [.str l,ceD (φ l)])]=some (.tup [ceD (ev φ s),ceD (ev φ t)],false):=by
 rw[au (f:=f_qi) (δ:=[some (ruD (.same b s t),false),some (.lst (us.map fun l=>.tup [.str l,ceD (φ l)]),false)]) rfl rfl rfl]
 simp only[B1,rd_1,rd_0,consO_s,bindO_s,dF,shO_s];rw[lstO_s _ (by simp)]
 simp only[consO_s,bindO_s,oX hu (p:=("same",[s,t])) (by simp) hs,frO_s]
 rfl
theorem jG (a b:Ce):f_qg [.tup [ceD a,ceD b]]=some (.bl (!decide (a=b)),false):=by
 rw[au (f:=f_qg) (δ:=[some (.tup [ceD a,ceD b],false)]) rfl rfl rfl];simp only[AZ,rd_0,ixO_t,at0,at1,fV,ofB_s,retO_s,outF_r]
noncomputable def vM (us:List Str) (x:List Ce):Fit:=fun l=>x.getD (us.idxOf l) default
theorem qq {us:List Str}{φ:Fit}{l:Str}(h:l∈us):vM us (us.map φ) l=φ l:=by
 unfold vM;have hi:=Yu h;simp[hi]
theorem uK {φ ψ:Fit}{t:Te}(h:∀l∈ans [t],φ l=ψ l):ev φ t=ev ψ t:=by
 cases t with
 |any l=>exact h l (by simp[ans])
 |nm w=>rfl
theorem yk (s t:Te):ans [s,t]=ans [s]++ans [t]:=by cases s<;>cases t<;>rfl
open Classical in
theorem kh {rs:List Row}(hrs:rs.length<=63) {b h:Pat}(ok:kz (.must b h)):∃out:List (List Ce),(out=[]↔Kp rs (.must b h))/\f_qf [.lst (rs.map ax),ruD (.must b h)]=some (.lst (out.map cD),true):=by
 obtain⟨hb,hh⟩:=ok;obtain⟨us,mu,lu,eu⟩:=gw hb hh;obtain⟨fs,mf,lf,ef⟩:=du hrs hb (wanted:=us) (by omega) fun l hl=>((mu l).mp hl).1
 obtain⟨gs,mg,lg,eg⟩:=du hrs hh (wanted:=us) (by omega) fun l hl=>((mu l).mp hl).2
 refine⟨fs.filter fun x=>!decide (x∈gs),?_,?_⟩
 ·rw[List.filter_eq_nil_iff]
  constructor
  ·intro H φ hφ
   have hx:=(mf (us.map φ)).mpr ⟨φ,rfl,hφ⟩;have:=H _ hx;simp only[Yp,Ym,Classical.not_not]at this;obtain⟨ψ,e,hψ⟩:=(mg _).mp this;exact⟨ψ,fun l h1 h2=>(List.map_inj_left.mp e) l ((mu l).mpr ⟨h1,h2⟩),hψ⟩
  ·intro H x hx
   obtain⟨φ,rfl,hφ⟩:=(mf x).mp hx;obtain⟨ψ,hl,hψ⟩:=H φ hφ;simp only[Yp,Ym,Classical.not_not];refine(mg _).mpr ⟨ψ,Yd fun l hm=>hl l ((mu l).mp hm).1 ((mu l).mp hm).2,hψ⟩
 ·rw[au (f:=f_qf) (δ:=[some (.lst (rs.map ax),false),some (ruD (.must b h),false),none,none,none,none]) rfl rfl rfl]
  have e0:ixO (some (ruD (.must b h))) (some (.int 0))=some (.str "must"):=rfl;have e1:ixO (some (ruD (.must b h))) (some (.int 1))=some (.lst [aG b]):=rfl;have e2:ixO (some (ruD (.must b h))) (some (.int 2))=some (.lst [aG h]):=rfl;obtain⟨ks,mk,ek⟩:=lY (F:=fun u=>.bl true) (kl:=gs.map cD) (fun k hk=>by
   obtain⟨c,_,rfl⟩:=List.mem_map.mp hk;rw[jQ,jP];rfl) (by simp;omega)
  simp only[AS,rd_1,rd_0,consO_s,bindO_s,eu,frO_s];rw[setO_s _ _ _ (by simp)]
  simp only[seqO_n,List.set_cons_succ,List.set_cons_zero,rd_1,rd_0,e1,consO_s,bindO_s,ef,frO_s];rw[setO_s _ _ _ (by simp)]
  simp only[seqO_n,List.set_cons_succ,List.set_cons_zero,rd_1,rd_0,e0,e2,aF,ms,YE,ifO_f,nextO_s,consO_s,bindO_s,eg,frO_s,lstL_s];rw[aA (by simp;omega),aZ (f:=cD) (h:=fun c=>.tup [cD c,.bl true]) fun c hc=>by exact pB rfl]
  have el:(gs.map fun c=>(.tup [cD c,.bl true]:D))=(gs.map cD).map fun k=>.tup [k,(fun u=>.bl true) k]:=by rw[List.map_map];rfl
  rw[lstLim_s,el,ek,setO_s _ _ _ (by simp)]
  simp only[seqO_n,List.set_cons_succ,List.set_cons_zero,rd_1,rd_0,lstL_s,bindO_s];rw[aA (by simp;omega),bg (f:=cD) (h:=cD) (p:=fun x=>!decide (x∈gs)) fun x hx=>by
   have hd:oA (some (cD x)) (some (.dD ks (ks.map fun u=>.bl true)))=some (decide (x∈gs)):=by
    rw[xm (by rw[jQ,jP];rfl)]
    congr 1;refine decide_eq_decide.mpr ?_
    rw[mk];constructor
    ·intro z
     obtain⟨y,hy,e⟩:=List.mem_map.mp z;rwa[<-iB e]
    ·intro z;exact List.mem_map.mpr ⟨x,z,rfl⟩
   exact vH (B0 hd) rfl]
  rfl
open Classical in
theorem j9 {rs:List Row}(hrs:rs.length<=63) {b:Pat}{s t:Te}(ok:kz (.same b s t)):∃out:List (List Ce),(out=[]↔Kp rs (.same b s t))/\f_qf [.lst (rs.map ax),ruD (.same b s t)]=some (.lst (out.map cD),true):=by
 obtain⟨hb,hs⟩:=ok;obtain⟨us,nu,mu,lu,eu⟩:=gx (b:=b) (s:=s) (t:=t);obtain⟨fs,mf,lf,ef⟩:=du hrs hb (wanted:=us) (by omega) fun l hl=>hs l ((mu l).mp hl)
 have key:∀φ:Fit,ev (vM us (us.map φ)) s=ev φ s/\ev (vM us (us.map φ)) t=ev φ t:=fun φ=>
  ⟨uK fun l hl=>qq ((mu l).mpr (by rw[yk];exact Z2 _ hl)),uK fun l hl=>qq ((mu l).mpr (by rw[yk];exact Zt _ hl))⟩
 refine⟨fs.filter fun x=>!decide (ev (vM us x) s=ev (vM us x) t),?_,?_⟩
 ·rw[List.filter_eq_nil_iff]
  constructor
  ·intro H φ hφ
   have:=H _ ((mf (us.map φ)).mpr ⟨φ,rfl,hφ⟩);simp only[Yp,Ym,Classical.not_not]at this;rw[(key φ).1,(key φ).2]at this;exact this
  ·intro H x hx
   obtain⟨φ,rfl,hφ⟩:=(mf x).mp hx;simp only[Yp,Ym,Classical.not_not];rw[(key φ).1,(key φ).2];exact H φ hφ
 ·rw[au (f:=f_qf) (δ:=[some (.lst (rs.map ax),false),some (ruD (.same b s t),false),none,none,none,none]) rfl rfl rfl]
  have e0:ixO (some (ruD (.same b s t))) (some (.int 0))=some (.str "same"):=rfl;have e1:ixO (some (ruD (.same b s t))) (some (.int 1))=some (.lst [aG b]):=rfl;simp only[AS,rd_1,rd_0,consO_s,bindO_s,eu,frO_s];rw[setO_s _ _ _ (by simp)]
  simp only[seqO_n,List.set_cons_succ,List.set_cons_zero,rd_1,rd_0,e1,consO_s,bindO_s,ef,frO_s];rw[setO_s _ _ _ (by simp)]
  simp only[seqO_n,List.set_cons_succ,List.set_cons_zero,rd_1,rd_0,e0,aF,Yr,ifO_t,lstL_s,bindO_s];rw[aA (by simp;omega),bg (f:=cD) (h:=cD) (p:=fun x=>!decide (ev (vM us x) s=ev (vM us x) t)) fun x hx=>by
   obtain⟨φ,rfl,_⟩:=(mf x).mp hx;have hz:oQ false true (some (.lst (us.map D.str))) (some (cD (us.map φ)))=some (.lst (us.map fun l=>.tup [.str l,ceD (φ l)])):=by
    have zl:∀vs:List Str,bY (vs.map D.str) ((vs.map φ).map ceD)=vs.map fun l=>.tup [.str l,ceD (φ l)]:=by
     intro vs
     induction vs with
     |nil=>rfl
     |cons v vs ih=>simp only[Zf,bY,ih]
    unfold oQ xh yq cD;simp only[Zx,ZY,Z6,lstL_s,tupL_s,bindO_s,zl,Zn];rw[Zm (by rw[lim_eq];omega)]
   have hc:=iR (φ:=φ) (us:=us) (by omega) (b:=b) (s:=s) (t:=t) fun l hl=>(mu l).mpr hl
   rw[(key φ).1,(key φ).2]
   by_cases hm:ev φ s=ev φ t<;>simp[aI,aB,vT,hz,hc,jG,hm]]
  rfl
open Classical in
theorem rF {rs:List Row}(hrs:rs.length<=63) (r:Ru) (ok:kz r):∃out:List (List Ce),(out=[]↔Kp rs r)/\f_qf [.lst (rs.map ax),ruD r]=some (.lst (out.map cD),true):=by
 cases r with
 |must b h=>exact kh hrs ok
 |same b s t=>exact j9 hrs ok
open Classical in
theorem uM {rs:List Row}(hrs:rs.length<=63) (ru:List Ru) (ok:∀r∈ru,kz r):f_qd [.lst (rs.map ax),.lst (ru.map ruD)]=some (.bl (decide (∀r∈ru,Kp rs r)),false):=by
 rw[au (f:=f_qd) (δ:=[some (.lst (rs.map ax),false),some (.lst (ru.map ruD),false),none]) rfl rfl rfl];have loop:∀(qs:List Ru) (a1 x2:Option (D×Bool)),(∀r∈qs,kz r)->∃y2,aw (fun d δ=>ac ((ae 2) d δ) rN) (qs.map ruD) [some (.lst (rs.map ax),false),a1,x2]=(if(∀r∈qs,Kp rs r) then some (.next [some (.lst (rs.map ax),false),a1,y2]) else some (.ret (.bl false) false)):=by
  intro qs
  induction qs with
  |nil=>intro a1 x2 _;exact⟨x2,by simp[aw]⟩
  |cons q qs ih=>
   intro a1 x2 h;obtain⟨out,ho,e⟩:=rF hrs q (h q (Zg ..));obtain⟨y2,ey⟩:=ih a1 (some (ruD q,false)) fun r hr=>h r (Ze _ hr)
   refine⟨y2,?_⟩
   rw[Zf];unfold aw;simp only[toName_s,List.length_cons,List.length_nil,Nat.reduceAdd,Nat.reduceLT,bindO_s,List.set_cons_succ,List.set_cons_zero,rN,rd_1,rd_0,consO_s,e,frO_s]
   by_cases hq:Kp rs q
   ·have h0:=ho.mpr hq
    subst h0;have:nV (some (.lst (([]:List (List Ce)).map cD)))=some false:=rfl;rw[this,ifO_f,nextO_s];simp only[ey];have:(∀r∈q::qs,Kp rs r)↔∀r∈qs,Kp rs r:=⟨fun z r hr=>z r (Ze _ hr),fun z r hr=>(ZA.mp hr).elim (fun e=>by rw[e];exact hq) (z r)⟩
    simp only[this]
   ·have h0:out≠[]:=fun z=>hq (ho.mp z)
    have:nV (some (.lst (out.map cD)))=some true:=by
     cases out with
     |nil=>exact absurd rfl h0
     |cons a out=>rfl
    rw[this,ifO_t,retO_s];rw[Zo fun z=>hq (z q (Zg ..))]
 obtain⟨y2,e⟩:=loop ru (some (.lst (ru.map ruD),false)) none ok;simp only[A5,rd_1,rd_0,lstL_s,bindO_s];rw[e]
 by_cases h:∀r∈ru,Kp rs r
 ·rw[Zm h,Zw h];rfl
 ·rw[Zo h,Zv h];rfl
end K33
namespace K33
open PySem L2 JP
noncomputable def nk (b:Bi):Prop:=(b.map (·.1)).Nodup
theorem vp {b:Bi}{l:Str}{c:Ce}(h:nk b) (hg:gt b l=none):nk (b++[(l,c)]):=by
 unfold nk at*;rw[Z4,List.nodup_append];refine⟨h,by simp,fun a ha d hd e=>?_⟩
 simp at hd;subst hd;exact pT hg (by rw[<-e];exact ha)
theorem fR {l:Str}{c:Ce}:∀{b:Bi},nk b->gt b l=some c->d9 (.inr l:Key) (ceD c) (b.map fun q=>(.inr q.1:Key)) (b.map fun q=>ceD q.2)=b.map fun q=>ceD q.2
 |[],_,_=>rfl
 |(k,e)::b,hn,h=>by
  rw[Zf,Zf,d9];rw[ck]at h
  by_cases hk:k=l
  ·subst hk
   rw[Zm rfl]at h;have:e=c:=Zb h;subst this;rw[Zm rfl];congr 1;have nm:k∉b.map (·.1):=by unfold nk at hn;rw[Zf,YB]at hn;exact hn.1
   clear hn h
   induction b with
   |nil=>rfl
   |cons q b ih=>
    simp only[Zf,ZA,not_or]at nm;rw[Zf,Zf,d9,Zo (fun z=>nm.1 (by cases z;rfl)),ih nm.2]
  ·rw[Zo hk]at h
   rw[Zo (fun z=>hk (by cases z;rfl)),fR (b:=b) (by unfold nk at*;rw[Zf,YB]at hn;exact hn.2) h]
theorem rQ {b:Bi}{l:Str}{c:Ce}(hn:nk b) (h:gt b l=some c) (hl:b.length<1000000):fB (bD b) (.str l) (ceD c)=some (bD b):=by
 unfold bD fB;have hm:(.inr l:Key)∈b.map fun q=>(.inr q.1:Key):=by
  have:l∈b.map (·.1):=Classical.byContradiction fun z=>by
   have:gt b l=none:=by
    clear hn hl h
    induction b with
    |nil=>rfl
    |cons q b ih=>
     obtain⟨k,e⟩:=q;simp only[Zf,ZA,not_or]at z;rw[ck,Zo fun y=>z.1 y.symm]
     exact ih z.2
   rw[this]at h;contradiction
  obtain⟨q,hq,e⟩:=List.mem_map.mp this;exact List.mem_map.mpr ⟨q,hq,by rw[e]⟩
 simp only[dG,Zn];rw[Zm (by rw[lim_eq];exact hl)]
 unfold dr sf;rw[Zm hm,Zm hm,fR hn h]
theorem an:(("any":Str)="name")=False:=by simp;decide +kernel
theorem yP (b:Bi) (l:Str):oA (some (.str l)) (some (bD b))=some (gt b l).isSome:=by
 unfold oA;rw[ij];cases gt b l<;>rfl
theorem gP:∀(ts:List Te) (cs:List Ce) (b:Bi) (a0 a1 a2 x4 x5:Option (D×Bool)),nk b->b.length+ts.length<1000->
  (match bnd ts cs b with
  |some b'=>∃y4 y5,aw (fun d δ=>ac ((aP (aj (ae 4) (aj (ae 5) (toNil)))) d δ) jj) ((ts.zip cs).map fun q=>.tup [teD q.1,ceD q.2]) [a0,a1,a2,some (bD b,true),x4,x5]=some (.next [a0,a1,a2,some (bD b',true),y4,y5])
  |none=>aw (fun d δ=>ac ((aP (aj (ae 4) (aj (ae 5) (toNil)))) d δ) jj) ((ts.zip cs).map fun q=>.tup [teD q.1,ceD q.2]) [a0,a1,a2,some (bD b,true),x4,x5]=some (.ret .non false))
 |[],cs,b,a0,a1,a2,x4,x5,_,_=>⟨x4,x5,by simp[aw]⟩
 |.any l::ts,[],b,a0,a1,a2,x4,x5,_,_=>⟨x4,x5,by simp[aw]⟩
 |.nm l::ts,[],b,a0,a1,a2,x4,x5,_,_=>⟨x4,x5,by simp[aw]⟩
 |.any l::ts,c::cs,b,a0,a1,a2,x4,x5,hn,hl=>by
  have ih:=fun b hn hb=>gP ts cs b a0 a1 a2 (some (teD (.any l),false)) (some (ceD c,false)) hn hb
  rw[List.length_cons]at hl;rw[List.zip_cons_cons,Zf];unfold aw;have e0:ixO (some (teD (.any l))) (some (.int 0))=some (.str "any"):=by simp[teD,at0]
  have e1:ixO (some (teD (.any l))) (some (.int 1))=some (.str l):=by simp[teD,at1]
  have eo:∀b',rd true 3 [a0,a1,a2,some (bD b',true),some (teD (.any l),false),some (ceD c,false)]=some (bD b'):=fun y=>rfl
  simp only[toTup_s,toCons_s,toNil_s,toName_s,ZJ,List.length_cons,List.length_nil,bindO_s,List.set_cons_succ,List.set_cons_zero,Nat.reduceAdd,Nat.reduceLT];simp only[jj,rd_1,rd_0,rd_0o,e0,e1,aF,an,YE,Yr,andO_f,ifO_f,ifO_t,nextO_s,seqO_n,yP,bnd];cases eg:gt b l with
  |some c'=>
   simp only[Option.isSome_some,andO_t,vm eg,fV]
   by_cases hc:c'=c
   ·subst hc
    simp only[Yr,Yl,ifO_f,seqO_n,Z6,kn,rdOwn_1,rdOwn_0,rQ hn eg (show b.length<1000000 by lia),List.set_cons_succ,List.set_cons_zero,rd_1,rd_0,e1]
    have:=ih b hn (by lia)
    cases eb:bnd ts cs b with
    |some b'=>rw[eb]at this;exact this
    |none=>rw[eb]at this;exact this
   ·simp only[hc,YE,Bool.not_false,ifO_t,retO_s,seqO_r,ZY]
  |none=>
   simp only[Option.isSome_none,andO_f,ifO_f,seqO_n,kn,rdOwn_1,rdOwn_0,rd_1,rd_0,e1,qb eg (show b.length<1000000 by lia),List.set_cons_succ,List.set_cons_zero]
   have:=ih (b++[(l,c)]) (vp hn eg) (by simp;lia)
   cases eb:bnd ts cs (b++[(l,c)])with
   |some b'=>rw[eb]at this;exact this
   |none=>rw[eb]at this;exact this
 |.nm w::ts,c::cs,b,a0,a1,a2,x4,x5,hn,hl=>by
  have ih:=gP ts cs b a0 a1 a2 (some (teD (.nm w),false)) (some (ceD c,false)) hn (by simp at hl;lia)
  rw[List.zip_cons_cons,Zf];unfold aw;have e0:ixO (some (teD (.nm w))) (some (.int 0))=some (.str "name"):=by simp[teD,at0]
  simp only[toTup_s,toCons_s,toNil_s,toName_s,ZJ,List.length_cons,List.length_nil,bindO_s,List.set_cons_succ,List.set_cons_zero,Nat.reduceAdd,Nat.reduceLT];simp only[jj,rd_1,rd_0,e0,aF,na,YE,Yr,andO_t,vS,bnd]
  by_cases hc:Ce.nm w=c
  ·simp only[hc,Yr,Yl,ifO_f,nextO_s,seqO_n,rd_1,rd_0,e0,aF,na,YE,Z6]
   exact ih
  ·rw[Zo hc]
   simp only[hc,YE,Bool.not_false,ifO_t,retO_s,seqO_r]
noncomputable def hZ (b:Bi) (p:Pat) (r:Row):Option Bi:=if r.1=p.1/\r.2.length=p.2.length then bnd p.2 r.2 b else none
theorem uk {b:Bi}(hl:b.length<1000):iV (some (bD b))=some (bD b):=rfl
theorem dA {b:Bi}(hn:nk b) (hb:b.length<=4) {p:Pat}(h4:p.2.length<=4) (r:Row):f_qs [bD b,aG p,ax r]=some (match hZ b p r with|some b'=>(bD b',true)|none=>(.non,false)):=by
 rw[au (f:=f_qs) (δ:=[some (bD b,false),some (aG p,false),some (ax r,false),none,none,none]) rfl rfl rfl];have p0:ixO (some (aG p)) (some (.int 0))=some (.str p.1):=by simp[aG,at0]
 have p1:ixO (some (aG p)) (some (.int 1))=some (.tup (p.2.map teD)):=by simp[aG,at1]
 have r0:ixO (some (ax r)) (some (.int 0))=some (.str r.1):=by simp[ax,at0]
 have r1:ixO (some (ax r)) (some (.int 1))=some (.tup (r.2.map ceD)):=by simp[ax,at1]
 have n1:neO (some (.str r.1)) (some (.str p.1))=some (!decide (r.1=p.1)):=by unfold neO;rw[aF];rfl
 have n2:neO (dM (some (.tup (r.2.map ceD)))) (dM (some (.tup (p.2.map teD))))=some (!decide (r.2.length=p.2.length)):=by
  simp only[lenL_t,Zn];unfold neO;rw[eqO_int];show some (!decide ((r.2.length:Int)=p.2.length))=_;congr 2;exact decide_eq_decide.mpr (by lia)
 simp only[BC,rd_1,rd_0,p0,p1,r0,r1,n1,n2];unfold hZ
 by_cases c1:r.1=p.1
 ·by_cases c2:r.2.length=p.2.length
  ·rw[Zm ⟨c1,c2⟩]
   simp only[c1,c2,Yr,Yl,orO_f,ifO_f,nextO_s,seqO_n,rd_0,uk (show b.length<1000 by lia)]
   rw[setF_s _ _ _ (by simp)]
   have:=gP p.2 r.2 b (some (bD b,false)) (some (aG p,false)) (some (ax r,false)) none none hn (by lia)
   simp only[seqO_n,List.set_cons_succ,List.set_cons_zero,rd_1,rd_0,p1,r1,xh,yq,Z6,tupL_s,bindO_s,eO];cases eb:bnd p.2 r.2 b with
   |some b'=>
    rw[eb]at this;obtain⟨y4,y5,e⟩:=this;rw[e];simp
   |none=>
    rw[eb]at this;rw[this];simp
  ·rw[Zo (fun z=>c2 z.2)]
   simp[c1,c2]
 ·rw[Zo (fun z=>c1 z.1)]
  simp[c1]
end K33
namespace K33
open PySem L2 JP
theorem cW:∀{ts:List Te}{cs:List Ce}{b b':Bi},bnd ts cs b=some b'->nk b->nk b'/\b'.length<=b.length+ts.length/\∀l c,gt b' l=some c->gt b l=some c\/l∈ans ts
 |[],cs,b,b',h,hn=>by
  have:b=b':=by cases cs<;>(simp only[bnd,ZG]at h;exact h)
  subst this;exact⟨hn,by simp,fun l c e=>.inl e⟩
 |.any l::ts,[],b,b',h,hn=>by simp only[bnd,ZG]at h;subst h;exact⟨hn,by simp,fun l c e=>.inl e⟩
 |.nm l::ts,[],b,b',h,hn=>by simp only[bnd,ZG]at h;subst h;exact⟨hn,by simp,fun l c e=>.inl e⟩
 |.any l::ts,c::cs,b,b',h,hn=>by
  simp only[bnd]at h;split at h
  ·split at h
   ·obtain⟨h1,h2,h3⟩:=cW h hn
    refine⟨h1,by simp;lia,fun l' c' e=>?_⟩
    rcases h3 l' c' e with q|q
    ·exact .inl q
    ·exact .inr (Ze _ q)
   ·contradiction
  ·rename_i eg
   obtain⟨h1,h2,h3⟩:=cW h (vp hn eg);refine⟨h1,by simp at h2⊢;lia,fun l' c' e=>?_⟩
   rcases h3 l' c' e with q|q
   ·rw[jh]at q
    cases e':gt b l' with
    |some c''=>rw[e']at q;simp at q;exact .inl (by rw[q])
    |none=>
     rw[e',Option.none_or,ck]at q;split at q
     ·rename_i hh;subst hh;exact .inr (Zg ..)
     ·simp[gt]at q
   ·exact .inr (Ze _ q)
 |.nm w::ts,c::cs,b,b',h,hn=>by
  simp only[bnd]at h;split at h
  ·obtain⟨h1,h2,h3⟩:=cW h hn
   exact⟨h1,by simp;lia,h3⟩
  ·contradiction
noncomputable def jC (b:Bi):Fit:=fun l=>(gt b l).getD default
theorem gZ {b:Bi}{l:Str}(h:∃c,gt b l=some c):gt b l=some (jC b l):=by
 obtain⟨c,e⟩:=h;unfold jC;rw[e];rfl
noncomputable def Kr (rs:List Row) (r:Row):Ru->Prop
 |.must b h=>∀β,hZ [] b r=some β->∃o∈rs,(hZ β h o).isSome=true
 |.same b s t=>∀β,hZ [] b r=some β->ev (jC β) s=ev (jC β) t
theorem cb {b:Bi}{p:Pat}{r:Row}{β:Bi}(h:hZ b p r=some β):r.1=p.1/\r.2.length=p.2.length/\bnd p.2 r.2 b=some β:=by
 unfold hZ at h;split at h
 ·rename_i c;exact⟨c.1,c.2,h⟩
 ·contradiction
theorem mx:nk []:=Yg
theorem Af (rs:List Row) (u:Ru) (ok:kz u):Kp rs u↔∀r∈rs,Kr rs r u:=by
 cases u with
 |must b h=>
  constructor
  ·intro H r hr β e
   obtain⟨e1,e2,e3⟩:=cb e;obtain⟨s1,s2,s3⟩:=aR e2.symm e3;obtain⟨_,_,m3⟩:=cW e3 mx;obtain⟨ψ,ag,o,ho,o1,o2⟩:=H (jC β) ⟨r,hr,e1,s3 _ fun l hl=>gZ (s2 l hl)⟩
   refine⟨o,ho,?_⟩
   obtain⟨β',eβ,_⟩:=bP (φ:=fun l=>(gt β l).getD (ψ l)) h.2 β fun l c e=>by rw[e];rfl
   have ec:h.2.map (ev fun l=>(gt β l).getD (ψ l))=h.2.map (ev ψ):=dS fun l hl=>by
    cases eg:gt β l with
    |none=>rfl
    |some c=>
     have hb:l∈ans b.2:=(m3 l c eg).elim (fun z=>by simp[gt]at z) id
     have:=ag l hb hl;rw[<-this];unfold jC;rw[eg];rfl
   unfold hZ;rw[Zm ⟨o1,by rw[o2];simp⟩,o2,<-ec,eβ]
   rfl
  ·intro H φ hφ
   obtain⟨r,hr,e1,e2⟩:=hφ;obtain⟨β,eβ,bβ⟩:=bP (φ:=φ) b.2 [] (fun l c e=>by simp[gt]at e)
   have ef:hZ [] b r=some β:=by unfold hZ;rw[Zm ⟨e1,by rw[e2];simp⟩,e2];exact eβ
   obtain⟨o,ho,hs⟩:=H r hr β ef;obtain⟨β',e'⟩:=Option.isSome_iff_exists.mp hs;obtain⟨o1,o2,o3⟩:=cb e';obtain⟨t1,t2,t3⟩:=aR o2.symm o3;obtain⟨_,s2,_⟩:=aR (by simp) eβ
   refine⟨jC β',fun l h1 h2=>?_,o,ho,o1,t3 _ fun l hl=>gZ (t2 l hl)⟩
   obtain⟨c,hc⟩:=s2 l h1;have:=t1 l c hc;unfold jC;rw[this,bβ l c hc];rfl
 |same b s t=>
  constructor
  ·intro H r hr β e
   obtain⟨e1,e2,e3⟩:=cb e;obtain⟨s1,s2,s3⟩:=aR e2.symm e3;exact H (jC β) ⟨r,hr,e1,s3 _ fun l hl=>gZ (s2 l hl)⟩
  ·intro H φ hφ
   obtain⟨r,hr,e1,e2⟩:=hφ;obtain⟨β,eβ,bβ⟩:=bP (φ:=φ) b.2 [] (fun l c e=>by simp[gt]at e)
   have ef:hZ [] b r=some β:=by unfold hZ;rw[Zm ⟨e1,by rw[e2];simp⟩,e2];exact eβ
   obtain⟨_,s2,_⟩:=aR (by simp) eβ
   have ag:∀l∈ans b.2,jC β l=φ l:=fun l hl=>by
    obtain⟨c,hc⟩:=s2 l hl;unfold jC;rw[hc,bβ l c hc];rfl
   have:=H r hr β ef;rw[uK (φ:=jC β) (ψ:=φ) fun l hl=>ag l (ok.2 l (by rw[yk];exact Z2 _ hl)),uK (φ:=jC β) (ψ:=φ) (t:=t) fun l hl=>ag l (ok.2 l (by rw[yk];exact Zt _ hl))]at this
   exact this
theorem jJ (r:Row) (n:Nat):okD (n+3) (ax r)=true:=by
 simp only[ax,okD,List.all_cons,List.all_nil,Bool.and_true,Bool.true_and,List.all_map,ZH];intro c _;cases c<;>simp[ceD,okD]
theorem o6 (rs:List Row):okD 16 (.lst (rs.map ax))=true:=by
 simp only[okD,List.all_map,ZH];intro r _;exact jJ r 12
open Classical in
theorem uv {rs:List Row}(hrs:rs.length<=63) (u:Ru) (ok:kz u) (r:Row) (x2 x3 x4 x5 x6:Option (D×Bool)):(¬Kr rs r u->dY [some (.lst (rs.map ax),false),some (ruD u,false),some (ax r,false),x3,x4,x5,x6]=some (.ret (.bl false) false))/\
  (Kr rs r u->∃y3 y4,dY [some (.lst (rs.map ax),false),some (ruD u,false),some (ax r,false),x3,x4,x5,x6]=some (.next [some (.lst (rs.map ax),false),some (ruD u,false),some (ax r,false),y3,y4,x5,x6])\/dY [some (.lst (rs.map ax),false),some (ruD u,false),some (ax r,false),x3,x4,x5,x6]=some (.cont [some (.lst (rs.map ax),false),some (ruD u,false),some (ax r,false),y3,y4,x5,x6])):=by
 have ebd:(.dK [] []:D)=bD []:=rfl;cases u with
 |must b h=>
  have e0:ixO (some (ruD (.must b h))) (some (.int 0))=some (.str "must"):=rfl;have e1:ixO (ixO (some (ruD (.must b h))) (some (.int 1))) (some (.int 0))=some (aG b):=rfl;have e2:ixO (ixO (some (ruD (.must b h))) (some (.int 2))) (some (.int 0))=some (aG h):=rfl;simp only[dY,rd_1,rd_0,e1,ebd,consO_s,bindO_s,dA mx (by simp) ok.1 r]
  cases ef:hZ [] b r with
  |none=>
   refine⟨fun hn=>absurd (fun β e=>by rw[ef]at e;contradiction) hn,fun v=>⟨some (.non,false),x4,.inr ?_⟩⟩
   simp only[shO_s];rw[setO_s _ _ _ (by simp)]
   have en:jZ (some .non)=some true:=by simp[jZ]
   simp only[seqO_n,List.set_cons_succ,List.set_cons_zero,rd_1,rd_0,en,ifO_t];rfl
  |some β=>
   obtain⟨_,f2,f3⟩:=cb ef;obtain⟨nb',lb',_⟩:=cW f3 mx;have hlb:β.length<=4:=by have:=ok.1;simp at lb';lia
   have hx:∀(F:D->Option (Option D)),(∀o∈rs,F (ax o)=some (if(hZ β h o).isSome=true then some (ax o) else none))->eqO (ao (aX F (rs.map ax))) (ca (some []))=some (decide (¬∃o∈rs,(hZ β h o).isSome=true)):=fun F hF=>by
    rw[bg hF,lstLim_s,lstO_s _ (by simp),j4 _ _ (by unfold ok2;rw[o6];rfl)]
    congr 1;refine decide_eq_decide.mpr ?_
    simp[List.filter_eq_nil_iff]
   simp only[shO_s];rw[setO_s _ _ _ (by simp)]
   simp only[seqO_n,List.set_cons_succ,List.set_cons_zero,rd_1,rd_0,mz,ifO_f,nextO_s,e0,aF,ms,YE,lstL_s,bindO_s];rw[aA (by simp;lia),hx _ fun o ho=>by
    have:=dA nb' hlb ok.2 o;cases eo:hZ β h o with
    |none=>rw[eo]at this;simp[aI,aB,qB,e2,this,jZ]
    |some β'=>rw[eo]at this;simp[aI,aB,qB,e2,this,mz]]
   constructor
   ·intro hn
    have:¬∃o∈rs,(hZ β h o).isSome=true:=fun z=>hn fun β' e=>by rw[ef]at e;obtain rfl:=Zb e;exact z
    rw[Zw this];simp
   ·intro hk
    have:¬¬∃o∈rs,(hZ β h o).isSome=true:=fun z=>z (hk β ef)
    rw[Zv this];exact⟨some (bD β,false),x4,.inl (by simp)⟩
 |same b s t=>
  have e0:ixO (some (ruD (.same b s t))) (some (.int 0))=some (.str "same"):=rfl;have e1:ixO (ixO (some (ruD (.same b s t))) (some (.int 1))) (some (.int 0))=some (aG b):=rfl;simp only[dY,rd_1,rd_0,e1,ebd,consO_s,bindO_s,dA mx (by simp) ok.1 r]
  cases ef:hZ [] b r with
  |none=>
   refine⟨fun hn=>absurd (fun β e=>by rw[ef]at e;contradiction) hn,fun v=>⟨some (.non,false),x4,.inr ?_⟩⟩
   simp only[shO_s];rw[setO_s _ _ _ (by simp)]
   have en:jZ (some .non)=some true:=by simp[jZ]
   simp only[seqO_n,List.set_cons_succ,List.set_cons_zero,rd_1,rd_0,en,ifO_t];rfl
  |some β=>
   obtain⟨_,f2,f3⟩:=cb ef;obtain⟨s1,s2,_⟩:=aR f2.symm f3;have ec:qZ (sI (some (ruD (.same b s t))) (eX (some (.int 2))) (some none))=some ([s,t].map teD):=rfl;simp only[shO_s];rw[setO_s _ _ _ (by simp)]
   simp only[seqO_n,List.set_cons_succ,List.set_cons_zero,rd_1,rd_0,mz,ifO_f,nextO_s,e0,aF,Yr,ifO_t,ec,bindO_s];rw[aA (by simp),aZ (f:=teD) (h:=fun t=>ceD (ev (jC β) t)) fun u hu=>by
    cases u with
    |nm w=>simp[aI,aB,rW,teD,at0,aF,na,ifV,ev,ceD]
    |any l=>
     have hl:l∈ans b.2:=ok.2 l (by
      rcases ZA.mp hu with q|q
      ·rw[<-q];exact Zg ..
      ·rw[List.mem_singleton]at q;rw[<-q,yk];exact Zt _ (Zg ..))
     have hd:∀y,bX (some (bD β)) (some (.str l)) (some y)=some (ceD (jC β l)):=fun y=>by
      unfold bX;rw[ij,gZ (s2 l hl)];rfl
     have t0:ixO (some (teD (.any l))) (some (.int 0))=some (.str "any"):=by simp[teD,at0]
     have t1:ixO (some (teD (.any l))) (some (.int 1))=some (.str l):=by simp[teD,at1]
     simp[aI,aB,rW,t0,t1,aF,ifV,hd,ev]]
   rw[lstLim_s,setF_s _ _ _ (by simp)]
   simp only[seqO_n,List.set_cons_succ,List.set_cons_zero,frzE_1,frzE_0,vA,rd_1,rd_0,Zf,ZX,ixO_l,at0,at1,fV];constructor
   ·intro hn
    have:¬ev (jC β) s=ev (jC β) t:=fun z=>hn fun β' e=>by rw[ef]at e;obtain rfl:=Zb e;exact z
    rw[Zv this];rfl
   ·intro hk
    rw[Zw (hk β ef)];exact⟨_,_,.inl rfl⟩
open Classical in
theorem kX {rs:List Row}(hrs:rs.length<=63) (u:Ru) (ok:kz u):f_qt [.lst (rs.map ax),ruD u]=some (.bl (decide (Kp rs u)),false):=by
 rw[au (f:=f_qt) (δ:=[some (.lst (rs.map ax),false),some (ruD u,false),none,none,none,none,none]) rfl rfl rfl];have loop:∀(qs:List Row) (x2 x3 x4 x5 x6:Option (D×Bool)),∃y2 y3 y4,aw (fun d δ=>ac ((ae 2) d δ) dY) (qs.map ax) [some (.lst (rs.map ax),false),some (ruD u,false),x2,x3,x4,x5,x6]=(if ∀r∈qs,Kr rs r u then some (.next [some (.lst (rs.map ax),false),some (ruD u,false),y2,y3,y4,x5,x6]) else some (.ret (.bl false) false)):=by
  intro qs
  induction qs with
  |nil=>intro x2 x3 x4 x5 x6;exact⟨x2,x3,x4,by simp[aw]⟩
  |cons q qs ih=>
   intro x2 x3 x4 x5 x6;obtain⟨h1,h2⟩:=uv hrs u ok q x2 x3 x4 x5 x6
   by_cases hq:Kr rs q u
   ·obtain⟨z3,z4,hz⟩:=h2 hq
    obtain⟨y2,y3,y4,e⟩:=ih (some (ax q,false)) z3 z4 x5 x6;refine⟨y2,y3,y4,?_⟩
    have:(∀r∈q::qs,Kr rs r u)↔∀r∈qs,Kr rs r u:=⟨fun z r hr=>z r (Ze _ hr),fun z r hr=>(ZA.mp hr).elim (fun e=>by rw[e];exact hq) (z r)⟩
    simp only[this];rw[<-e,Zf]
    conv=>lhs;unfold aw
    simp only[toName_s,List.length_cons,List.length_nil,Nat.reduceAdd,Nat.reduceLT,bindO_s,List.set_cons_succ,List.set_cons_zero]
    rcases hz with hz|hz
    ·rw[hz]
    ·rw[hz]
   ·refine⟨x2,x3,x4,?_⟩
    rw[Zo fun z=>hq (z q (Zg ..)),Zf]
    unfold aw;simp only[toName_s,List.length_cons,List.length_nil,Nat.reduceAdd,Nat.reduceLT,bindO_s,List.set_cons_succ,List.set_cons_zero];rw[h1 hq]
 obtain⟨y2,y3,y4,e⟩:=loop rs none none none none none;simp only[Ba,rd_1,rd_0,lstL_s,bindO_s];rw[e];have hk:=Af rs u ok
 by_cases h:∀r∈rs,Kr rs r u
 ·rw[Zm h,Zw (hk.mpr h)];rfl
 ·rw[Zo h,Zv fun z=>h (hk.mp z)];rfl
end K33
namespace K33
open PySem L2 JP
noncomputable def bN (c j:Int):Int:=((c*(2*j+3)+j)%2147483629*((c*(2*j+3)+j)%2147483629)+1)*48271%2147483629
theorem aL (c j:Int):0<=bN c j:=by unfold bN;lia
theorem By (c j:Int):bN c j<2147483629:=by unfold bN;lia
theorem aS (c j:Int) (h0: -1000<=j) (h1:j<=1000):f_qj [.int c,.int j]=some (.int (bN c j),false):=by
 rw[au (f:=f_qj) (δ:=[some (.int c,false),some (.int j,false),none]) rfl rfl rfl];have e1:(0:Int)<=(c*(2*j+3)+j)%2147483629:=by lia
 have e2:(c*(2*j+3)+j)%2147483629<2147483629:=by lia
 simp[B6,mulI_s c (2*j+3) (by lia),mulI_s ((c*(2*j+3)+j)%2147483629) ((c*(2*j+3)+j)%2147483629) (by lia),bN]
theorem iy:Str.length "abcdefghijklmnopqrstuvwxyz"=26:=by decide +kernel
theorem sR (c:Int):∃ws:List Str,ws.length=4/\f_qk [.int c]=some (.lst (ws.map .str),true):=by
 have m1:=aL c 1;generalize hsz:2+bN c 1%6=sz;have hs2:2<=sz:=by lia
 have hs7:sz<=7:=by lia
 obtain⟨g,eg,gl,gp⟩:=cz (ds:=f9 0 sz.toNat) (P:=fun u y=>∃x:Str,x.length=1/\y=.str x)
  (h:=aI (ae 6) (fun δ=>some true) pY [some (.int c,false),some (.str "abcdefghijklmnopqrstuvwxyz",false),none,none,none,none,none,none]) fun d hd=>by
   obtain⟨i,hi,rfl⟩:=cw hd;have h0:=aL c (2+(0+(i:Int)));obtain⟨x,hx,ex⟩:=gU "abcdefghijklmnopqrstuvwxyz" (bN c (2+(0+(i:Int)))%26) (by rw[iy];decide) (by lia) (by rw[iy];lia)
   refine⟨.str x,?_,x,hx,rfl⟩
   simp[aI,pY];rw[aS c _ (by lia) (by lia),shO_s,modI_s _ _ (by decide)]
   have e0:(0:Int)+(i:Int)=i:=by lia
   rw[e0]at ex;rw[ex]
 obtain⟨ss,rfl,hss⟩:=rL (Q:=fun x=>x.length=1) gl gp fun d y hz=>by obtain⟨x,hx,e⟩:=hz;exact⟨x,e,hx⟩
 rw[aO,Zn]at gl;have hj:=yb "" ss (by rw[mH hss,show Str.length ""=0 by decide +kernel];lia)
 have hjl:(Txt.join "" ss).length=ss.length:=by rw[pM,mH hss]
 generalize Txt.join "" ss=stem at hj hjl;have m9:=aL c 9;generalize hat:bN c 9%sz=at';have ha0:0<=at':=by rw[<-hat];exact Int.emod_nonneg _ (by lia)
 have ha1:at'<sz:=by rw[<-hat];exact Int.emod_lt_of_pos _ (by lia)
 have hstem:stem.length<=7:=by lia
 obtain⟨δ',el,fs,hfl,x6,x7,rfl⟩:=eP (body:=fun d δ=>ac ((ae 6) d δ) rM) (fun pre δ=>∃fs:List Str,fs.length=pre.length/\∃x6 x7,
   δ=[some (.int c,false),some (.str "abcdefghijklmnopqrstuvwxyz",false),some (.int sz,false),some (.str stem,false),some (.int at',false),some (.lst (fs.map D.str),true),x6,x7]) (f9 0 4) []
  [some (.int c,false),some (.str "abcdefghijklmnopqrstuvwxyz",false),some (.int sz,false),some (.str stem,false),some (.int at',false),some (.lst [],true),none,none] ⟨[],rfl,none,none,rfl⟩
  fun p d q δ hpq hz=>by
   obtain⟨fs,hfs,x6,x7,e⟩:=hz;have hd:d∈f9 0 4:=by
    rw[List.nil_append]at hpq;rw[<-hpq];simp
   have hp:p.length<4:=by
    have:=YV List.length hpq;rw[List.nil_append,aO]at this;simp at this;lia
   obtain⟨i,hi,rfl⟩:=cw hd;subst e;obtain⟨y,hy,ey⟩:=gU stem at' (by have:lim=1000000:=rfl;lia) ha0 (by lia)
   obtain⟨z,hz,ez⟩:=gU "abcdefghijklmnopqrstuvwxyz" ((Txt.find "abcdefghijklmnopqrstuvwxyz" y+7*(0+(i:Int)))%26) (by rw[iy];decide) (by lia) (by rw[iy];lia)
   have c1:=g8 stem none (some at');have c2:=g8 stem (some (at'+1)) none;have hlim:lim=1000000:=rfl;refine⟨_,.inl ?_,fs++[sj stem none (some at')++z++sj stem (some (at'+1)) none],by simp[hfs],some (.int (0+(i:Int)),false),some (.str z,false),rfl⟩
   have e0:(0:Int)+(i:Int)=i:=by lia
   rw[e0]at ez⊢;simp[rM,ey,ez];rw[cutSO_s _ _ _ (by lia),cutSO_s _ _ _ (by lia),addS_s _ _ (by lia),addS_s _ _ (by rw[Str.length_append];lia)]
   rw[mt (ds:=fs.map D.str) _ (by rfl) (by rw[Zn];lia)]
   simp
 rw[List.nil_append,aO]at hfl;refine⟨fs,by simp[hfl],?_⟩
 rw[au (f:=f_qk) (δ:=[some (.int c,false),none,none,none,none,none,none,none]) rfl rfl rfl];simp[BM];rw[aS c 1 (by lia) (by lia),shO_s,modI_s _ _ (by decide),addI_s,hsz]
 simp;rw[eG sz (by lia),bindO_s,aA (by rw[aO,lim_eq];lia)]
 simp[aB];rw[eg,lstLim_s,hj];simp;rw[aS c 9 (by lia) (by lia),shO_s,modI_s _ _ (by lia),hat]
 simp;rw[eG 4 (by lia),bindO_s]
 rw[show(4:Int).toNat=4 from rfl]
 rw[el];simp
theorem rZ:Str.length "ABCDEFGHIJKLMNOPQRSTUVWXYZ"=26:=by decide +kernel
theorem oz (c:Int):∃ws:List Str,ws.length=3/\f_qm [.int c]=some (.lst (ws.map .str),true):=by
 have m1:=aL c 13;have m2:=aL c 14;obtain⟨st,hst,_,est⟩:=jO (xs:=[D.int 1,.int 3,.int 5,.int 7,.int 9,.int 11]) (i:=bN c 14%6) (by lia) (by simp;lia)
 obtain⟨sp,hs0,hs1,rfl⟩:∃sp:Int,0<=sp/\sp<=11/\st=.int sp:=by
  simp at hst
  rcases hst with rfl|rfl|rfl|rfl|rfl|rfl<;>exact⟨_,by lia,by lia,rfl⟩
 obtain⟨g,eg,gl,gp⟩:=cz (ds:=f9 0 3) (P:=fun u y=>∃x:Str,x.length=1/\y=.str x)
  (h:=aI (ae 4) (fun δ=>some true) ql [none,some (.str "ABCDEFGHIJKLMNOPQRSTUVWXYZ",false),some (.int (bN c 13%26),false),some (.int sp,false),none]) fun d hd=>by
   obtain⟨i,hi,rfl⟩:=cw hd;obtain⟨x,hx,ex⟩:=gU "ABCDEFGHIJKLMNOPQRSTUVWXYZ" ((bN c 13%26+sp*(0+(i:Int)))%26) (by rw[rZ];decide) (by lia) (by rw[rZ];lia)
   refine⟨.str x,?_,x,hx,rfl⟩
   have e0:(0:Int)+(i:Int)=i:=by lia
   rw[e0]at ex;simp[aI,ql];rw[mulI_s _ _ (by lia),addI_s,modI_s _ _ (by decide),ex]
 obtain⟨ss,rfl,hss⟩:=rL (Q:=fun x=>x.length=1) gl gp fun d y hz=>by obtain⟨x,hx,e⟩:=hz;exact⟨x,e,hx⟩
 rw[aO,Zn]at gl;refine⟨ss,by lia,?_⟩
 rw[au (f:=f_qm) (δ:=[some (.int c,false),none,none,none,none]) rfl rfl rfl];have hlim:lim=1000000:=rfl;simp[BF,hlim];rw[aS c 13 (by lia) (by lia),shO_s,modI_s _ _ (by decide)]
 simp;rw[aS c 14 (by lia) (by lia),shO_s,modI_s _ _ (by decide)]
 simp;rw[est];simp;rw[eG 3 (by lia),bindO_s,aA (by rw[aO];decide)]
 simp[aB];rw[eg];simp
theorem lP (x:D):∀l:List D,(lE x l).length=l.length+1
 |[]=>rfl
 |y::ys=>by
  unfold lE;split
  ·simp[lP x ys]
  ·simp
theorem l9 {x z:D}:∀{l:List D},z∈lE x l->z=x\/z∈l
 |[],h=>by simpa[lE]using h
 |y::ys,h=>by
  unfold lE at h;split at h
  ·rcases ZA.mp h with h|h
   ·exact .inr (ZA.mpr (.inl h))
   ·rcases l9 h with h|h
    ·exact .inl h
    ·exact .inr (Ze _ h)
  ·rcases ZA.mp h with h|h
   ·exact .inl h
   ·exact .inr h
theorem iJ:∀l:List D,(cP l).length=l.length
 |[]=>rfl
 |x::l=>by show(lE x (cP l)).length=_;rw[lP,iJ l];rfl
theorem jb {z:D}:∀{l:List D},z∈cP l->z∈l
 |[],h=>h
 |x::l,h=>by
  rcases l9 (show z∈lE x (cP l) from h)with h|h
  ·exact ZA.mpr (.inl h)
  ·exact Ze _ (jb h)
theorem d8 {ws:List Str}{i:Int}(h0:0<=i) (h1:i<ws.length):∃w,atI (ws.map D.str) i=some (.str w):=by
 obtain⟨v,hv,_,e⟩:=jO (xs:=ws.map D.str) h0 (by simpa using h1)
 obtain⟨w,_,rfl⟩:=List.mem_map.mp hv;exact⟨w,e⟩
theorem kf {α:Type}{F:α->D}{P:D->D->Prop}{ds g:List D}{Q:α->Prop}(hl:g.length=ds.length) (h:∀(i:Nat) d,ds[i]?=some d->∃y,g[i]?=some y/\P d y) (hP:∀d y,P d y->∃x,y=F x/\Q x):∃ss:List α,g=ss.map F/\∀x∈ss,Q x:=by
 have hy:∀y∈g,∃x,y=F x/\Q x:=fun y hy=>by
  obtain⟨i,hi,e⟩:=List.mem_iff_getElem.mp hy;obtain⟨z,ez,p⟩:=h i (ds[i]'(by lia)) (by simp[show i<ds.length by lia])
  rw[Yk hi]at ez
  obtain rfl:=Zb ez;rw[<-e];exact hP _ _ p
 clear h hl
 induction g with
 |nil=>exact⟨[],rfl,by simp⟩
 |cons y g ih=>
  obtain⟨x,e,q⟩:=hy y (Zg ..);obtain⟨ss,e2,q2⟩:=ih fun z hz=>hy z (Ze _ hz)
  refine⟨x::ss,by rw[e,e2];rfl,fun z hz=>?_⟩
  rcases ZA.mp hz with hz|hz
  ·rw[hz];exact q
  ·exact q2 z hz
theorem uJ (ns:List Int) (l u:Option Int):∃cs:List Int,oD (ns.map D.int) l u=cs.map D.int/\cs.length<=ns.length:=by
 unfold oD;refine⟨_,by rw[<-List.map_drop,<-List.map_take],?_⟩
 rw[YX,List.length_drop];exact ZM (Nat.min_le_right _ _) (Nat.sub_le _ _)
theorem Av (n:Nat) (r q:Row):(ltD (n+3) (ax r) (ax q)).isSome=true:=by
 show(bZ (ltD (n+2)) [.str r.1,.tup (r.2.map ceD)] [.str q.1,.tup (q.2.map ceD)]).isSome=true;unfold bZ;split
 ·unfold bZ
  split
  ·rfl
  ·show(bZ (ltD (n+1)) (r.2.map ceD) (q.2.map ceD)).isSome=true
   refine eC fun x hx y hy=>?_
   obtain⟨c,_,rfl⟩:=List.mem_map.mp hx;obtain⟨e,_,rfl⟩:=List.mem_map.mp hy;exact yA n c e
 ·rfl
theorem sK (rs:List Row):fF (rs.map ax)=true:=by
 unfold fF;rw[ZH];intro x hx;obtain⟨r,_,rfl⟩:=List.mem_map.mp hx;rw[Zu];refine⟨jJ r 12,?_⟩
 rw[ZH];intro y hy;obtain⟨q,_,rfl⟩:=List.mem_map.mp hy;exact Av 12 r q
theorem wX (rs:List Row):(rs.map ax).all (li .ts)=true:=by
 rw[ZH];intro x hx;obtain⟨r,_,rfl⟩:=List.mem_map.mp hx;rfl
theorem uT {α:Type}{F:α->D}{l:List D}{P:α->Prop}(h:∀x∈l,∃a,P a/\x=F a):∃as:List α,l=as.map F/\∀a∈as,P a:=by
 induction l with
 |nil=>exact⟨[],rfl,by simp⟩
 |cons x l ih=>
  obtain⟨a,pa,e⟩:=h x (Zg ..);obtain⟨as,e2,pas⟩:=ih fun y hy=>h y (Ze _ hy)
  refine⟨a::as,by rw[e,e2];rfl,fun b hb=>?_⟩
  rcases ZA.mp hb with rfl|hb
  ·exact pa
  ·exact pas b hb
theorem uw (rs:List Row) (h:rs.length<64):∃fs:List Row,(∀r∈fs,r∈rs)/\fs.length<=rs.length/\f_qp [.lst (rs.map ax)]=some (.lst (fs.map ax),true):=by
 obtain⟨ss,es,hss⟩:=uT (F:=ax) (l:=cP (rs.map ax)) (P:=fun r=>r∈rs) fun x hx=>by
  obtain⟨r,hr,e⟩:=List.mem_map.mp (jb hx);exact⟨r,hr,e.symm⟩
 have hsl:ss.length=rs.length:=by have:=YV List.length es;rw[iJ]at this;simpa using this.symm
 have loop:∀(qs fs:List Row) (x2:Option (D×Bool)),fs.length+qs.length<64->∃(fs':List Row) (y2:Option (D×Bool)),(∀r∈fs',r∈fs\/r∈qs)/\fs'.length<=fs.length+qs.length/\
   aw (fun d δ=>ac ((ae 2) d δ) ma) (qs.map ax) [some (.lst (rs.map ax),false),some (.lst (fs.map ax),true),x2]=some (.next [some (.lst (rs.map ax),false),some (.lst (fs'.map ax),true),y2]):=by
  intro qs
  induction qs with
  |nil=>intro fs x2 _;exact⟨fs,x2,fun r hr=>.inl hr,by simp,rfl⟩
  |cons q qs ih=>
   intro fs x2 hl;rw[List.length_cons]at hl;have hin:inO (some (ax q)) (some (.lst (fs.map ax)))=some (decide (ax q∈fs.map ax)):=by
    unfold inO;simp only[aK];rw[Zm];rw[jJ q 13,Bool.true_and,ZH];intro x hx;obtain⟨r,_,rfl⟩:=List.mem_map.mp hx;exact jJ r 13
   by_cases hm:ax q∈fs.map ax
   ·obtain⟨fs',y2,h1,h2,h3⟩:=ih fs (some (ax q,false)) (by lia)
    refine⟨fs',y2,fun r hr=>(h1 r hr).imp id fun z=>Ze _ z,by rw[List.length_cons];lia,?_⟩
    rw[Zf,<-h3]
    conv=>lhs;unfold aw
    simp[ma,bU,hin,hm]
   ·obtain⟨fs',y2,h1,h2,h3⟩:=ih (fs++[q]) (some (ax q,false)) (by simp;lia)
    refine⟨fs',y2,fun r hr=>?_,by simp at h2⊢;lia,?_⟩
    ·rcases h1 r hr with z|z
     ·rcases List.mem_append.mp z with z|z
      ·exact .inl z
      ·rw[List.mem_singleton.mp z];exact .inr (Zg ..)
     ·exact .inr (Ze _ z)
    ·rw[Zf,<-h3]
     conv=>lhs;unfold aw
     have hm':decide (ax q∈fs.map ax)=false:=Zv hm;simp only[ma,bU,toName_s,rd_1,rd_0,rd_0o,List.length_cons,List.length_nil,List.set_cons_succ,List.set_cons_zero,bindO_s,Nat.zero_add,Nat.reduceAdd,Nat.reduceLT,hin,hm',notO_s,Bool.not_false,ifO_t,zQ,rdOwn_0,rdOwn_1];rw[Zm (by rw[Zn,lim_eq];lia)]
     simp
 obtain⟨fs,y2,h1,h2,h3⟩:=loop ss [] none (by simp;lia)
 refine⟨fs,fun r hr=>?_,by simp at h2;lia,?_⟩
 ·rcases h1 r hr with z|z
  ·simp at z
  ·exact hss r z
 ·rw[au (f:=f_qp) (δ:=[some (.lst (rs.map ax),false),none,none]) rfl rfl rfl]
  have hso:i9 .ts (some (.lst (rs.map ax)))=some (.lst (ss.map ax)):=by
   rw[l6 (by simpa using h) (sK rs) (wX rs),es]
  rw[ZX]at h3;simp[Bp,hso];rw[h3];simp
noncomputable def aE (ws:List Str) (st sp:Int):D:=.tup [.lst (ws.map .str),.int st,.int sp]
theorem uN (c:Int):∃ws st sp,ws.length=4/\0<=st/\st<400000/\0<=sp/\sp<=150000/\f_ql [.int c]=some (aE ws st sp,false):=by
 obtain⟨ws,hw,ew⟩:=sR c;have m1:=aL c 11;have m2:=aL c 12;refine⟨ws,bN c 11%400000,1+bN c 12%150000,hw,by lia,by lia,by lia,by lia,?_⟩
 rw[au (f:=f_ql) (δ:=[some (.int c,false)]) rfl rfl rfl];simp[Bg,ew];rw[aS c 11 (by lia) (by lia),aS c 12 (by lia) (by lia)]
 simp[aE]
theorem xZ {ws:List Str}{st sp:Int}(hw:ws.length=4) (h0:0<=st) (h1:st<400000) (h2:0<=sp) (h3:sp<=150000) (c:Int) (hc:0<=c):∃e:Ce,f_qn [aE ws st sp,.int c]=some (ceD e,false):=by
 obtain⟨w,ew⟩:=d8 (ws:=ws) (i:=c / 2%4) (by lia) (by lia)
 by_cases hm:c%2=0
 ·refine⟨.bk (st+sp*(c / 2%4)),?_⟩
  rw[au (f:=f_qn) (δ:=[some (aE ws st sp,false),some (.int c,false),none,none,none]) rfl rfl rfl];simp[AX,aE,hm];rw[mulI_s sp _ (by lia)]
  simp[ceD]
 ·refine⟨.nm w,?_⟩
  rw[au (f:=f_qn) (δ:=[some (aE ws st sp,false),some (.int c,false),none,none,none]) rfl rfl rfl];simp[AX,aE,hm,ew,ceD]
theorem uV {ws:List Str}{st sp:Int}(hw:ws.length=4) (h0:0<=st) (h1:st<400000) (h2:0<=sp) (h3:sp<=150000) (c:Int):∃r:Row,r.2.length<=4/\f_qo [aE ws st sp,.int c]=some (ax r,false):=by
 have m1:=aL c 1;have m2:=aL c 2;generalize hsz:1+bN c 1%2=sz;obtain⟨t,et⟩:=d8 (ws:=ws) (i:=bN c 2%2) (by lia) (by lia)
 have ew0:atI [D.lst (ws.map .str),.int st,.int sp] 0=some (.lst (ws.map .str)):=rfl;obtain⟨g,eg,gl,gp⟩:=cz (ds:=f9 0 sz.toNat) (P:=fun u y=>∃e:Ce,True/\y=ceD e)
  (h:=aI (ae 3) (fun δ=>some true) oU [some (aE ws st sp,false),some (.int c,false),none,none]) fun d hd=>by
   obtain⟨i,hi,rfl⟩:=cw hd;obtain⟨e,ee⟩:=xZ hw h0 h1 h2 h3 (bN c (3+(0+(i:Int)))) (aL _ _);refine⟨ceD e,?_,e,trivial,rfl⟩
   have e0:(0:Int)+(i:Int)=i:=by lia
   rw[e0]at ee⊢;simp[aI,oU];rw[aS c _ (by lia) (by lia)]
   simp[ee]
 obtain⟨cs,rfl,hcs⟩:=kf (F:=ceD) (Q:=fun u=>True) gl gp fun d y hz=>by obtain⟨e,a,b⟩:=hz;exact⟨e,b,a⟩
 rw[aO,Zn]at gl;refine⟨(t,cs),by simp only;lia,?_⟩
 rw[au (f:=f_qo) (δ:=[some (aE ws st sp,false),some (.int c,false),none,none]) rfl rfl rfl];simp[Bb];rw[aS c 1 (by lia) (by lia),shO_s,modI_s _ _ (by decide),addI_s,hsz]
 rw[eG sz (by lia),bindO_s,aA (by rw[aO,lim_eq];lia)]
 simp[aB];rw[eg];simp[vN,aE,ew0];rw[aS c 2 (by lia) (by lia),shO_s,modI_s _ _ (by decide),ixO_l,et]
 simp[ax]
end K33
namespace K33
open PySem L2 JP
theorem CQ (a b:D) (i j:Nat) (δ:DEnv) (hi:i<δ.length) (hj:j<δ.length):si (some (.tup [a,b])) (aP (aj (ae i) (aj (ae j) (toNil)))) δ=some (.next ((δ.set i (some (a,false))).set j (some (b,false)))):=by
 unfold si;simp only[toTup_s,toCons_s,toNil_s,toName_s i a δ hi,bindO_s];rw[toName_s j b _ (by simpa using hj)]
 rfl
theorem Cz:¬(Str.ofString "blank")=(Str.ofString "any"):=by decide +kernel
noncomputable def AV (c:Ce) (d:Int) (l:Str):Te:=match c with|.bk _=>.any l|.nm w=>if d%2=1 then .any l else .nm w
noncomputable def Wd (w:D):Prop:=∃ws st sp,ws.length=4/\0<=st/\st<400000/\0<=sp/\sp<=150000/\w=aE ws st sp
theorem sJ {ls:List Str}(hl:ls.length=3) (c:Int) (a0 a2 a4:Option (D×Bool)) (cs:List Ce) (hcs:cs.length<=4):∃ts:List Te,ts.length=cs.length/\∃x7 x8,
  aw (fun d δ=>ac ((ae 7) d δ) mL) (f9 0 cs.length) [a0,some (.lst (ls.map .str),false),a2,some (.int c,false),a4,some (.tup (cs.map ceD),false),some (.lst [],true),none,none]=
   some (.next [a0,some (.lst (ls.map .str),false),a2,some (.int c,false),a4,some (.tup (cs.map ceD),false),some (.lst (ts.map teD),true),x7,x8]):=by
 obtain⟨δ',el,ts,hpl,x7,x8,rfl⟩:=eP (body:=fun d δ=>ac ((ae 7) d δ) mL) (fun pre δ=>∃ts:List Te,ts.length=pre.length/\∃x7 x8,
   δ=[a0,some (.lst (ls.map .str),false),a2,some (.int c,false),a4,some (.tup (cs.map ceD),false),some (.lst (ts.map teD),true),x7,x8]) (f9 0 cs.length) []
  [a0,some (.lst (ls.map .str),false),a2,some (.int c,false),a4,some (.tup (cs.map ceD),false),some (.lst [],true),none,none] ⟨[],rfl,none,none,rfl⟩
  fun p d q δ hpq hz=>by
   obtain⟨ts,hps,x7,x8,e⟩:=hz;have hd:d∈f9 0 cs.length:=by
    rw[List.nil_append]at hpq;rw[<-hpq];simp
   have hp:p.length<4:=by
    have:=YV List.length hpq;rw[List.nil_append,aO]at this;simp at this;lia
   obtain⟨i,hi,rfl⟩:=cw hd;subst e;have e0:(0:Int)+(i:Int)=i:=by lia
   rw[e0];have h0:=aL c (17+(i:Int));obtain⟨l,el⟩:=d8 (ws:=ls) (i:=bN c (17+(i:Int)) / 2%3) (by lia) (by lia)
   have hc:atI (cs.map ceD) (i:Int)=some (ceD cs[i]):=u7 (by lia) (by simp[hi])
   have hm:=aS c (17+(i:Int)) (by lia) (by lia)
   have ap:∀(t:Te) (x7 x8:Option (D×Bool)),kG 6 (some (teD t)) [a0,some (.lst (ls.map .str),false),a2,some (.int c,false),a4,some (.tup (cs.map ceD),false),some (.lst (ts.map teD),true),x7,x8]=some (.next [a0,some (.lst (ls.map .str),false),a2,some (.int c,false),a4,some (.tup (cs.map ceD),false),some (.lst ((ts++[t]).map teD),true),x7,x8]):=fun t x7 x8=>by
    rw[mt (ds:=ts.map teD) _ (by rfl) (by rw[Zn,lim_eq];lia)]
    simp
   refine⟨_,.inl ?_,ts++[AV cs[i] (bN c (17+(i:Int))) l],by simp[hps],some (.int i,false),some (.int (bN c (17+(i:Int))),false),rfl⟩
   simp only[toName_s,List.length_cons,List.length_nil,Nat.reduceAdd,Nat.reduceLT,bindO_s,List.set_cons_succ,List.set_cons_zero,mL,rd_1,rd_0,addI_s,consO_s,hm,shO_s,setO_s,seqO_n,ixO_t,hc,ixO_l,modI_s _ _ (show(0:Int)<2 by lia),modI_s _ _ (show(0:Int)<3 by lia),divI_s _ _ (show(0:Int)<2/\(2:Int)<1073741824 by lia),el]
   rw[tupO_s _ (by simp)]
   have ta:(.tup [.str "any",.str l]:D)=teD (.any l):=rfl;rw[ta,ap];cases hci:cs[i]with
   |bk n=>
    have:eqO (ixO (some (ceD (.bk n))) (some (.int 0))) (some (.str "blank"))=some true:=by simp[ceD,at0,aF]
    rw[this];simp[AV]
   |nm w=>
    have:eqO (ixO (some (ceD (.nm w))) (some (.int 0))) (some (.str "blank"))=some false:=by simp[ceD,at0,aF,nb]
    rw[this];have tn:ceD (.nm w)=teD (.nm w):=rfl;rw[tn,ap]
    by_cases hm:bN c (17+(i:Int))%2=1
    ·simp[hm,AV]
    ·simp[hm,AV]
 rw[List.nil_append,aO]at hpl;exact⟨ts,hpl,x7,x8,el⟩
theorem fU {w:D}(hw:Wd w) {ls:List Str}(hl:ls.length=3) {rs:List Row}(hrs:rs.length<=63) (h4:∀r∈rs,r.2.length<=4) (c:Int):∃p:Pat,p.2.length<=4/\f_qq [w,.lst (ls.map .str),.lst (rs.map ax),.int c]=some (aG p,false):=by
 obtain⟨ws,st,sp,w1,w2,w3,w4,w5,rfl⟩:=hw;obtain⟨r0,hr0,er0⟩:=uV w1 w2 w3 w4 w5 c;have m16:=aL c 16;have mG:∃r:Row,r.2.length<=4/\ifO (neO (some (.lst (rs.map ax))) (ca (some []))) (si (ixO (some (.lst (rs.map ax))) (cr (shO (ac (aa (some (.int c)) (aa (some (.int 16)) (some []))) f_qj)) (dM (some (.lst (rs.map ax)))))) (aP (aj (ae 4) (aj (ae 5) (toNil)))) [some (aE ws st sp,false),some (.lst (ls.map .str),false),some (.lst (rs.map ax),false),some (.int c,false),some (.str r0.1,false),some (.tup (r0.2.map ceD),false),none,none,none]) (nextO [some (aE ws st sp,false),some (.lst (ls.map .str),false),some (.lst (rs.map ax),false),some (.int c,false),some (.str r0.1,false),some (.tup (r0.2.map ceD),false),none,none,none])=
   some (.next [some (aE ws st sp,false),some (.lst (ls.map .str),false),some (.lst (rs.map ax),false),some (.int c,false),some (.str r.1,false),some (.tup (r.2.map ceD),false),none,none,none]):=by
  have en:neO (some (.lst (rs.map ax))) (ca (some []))=some (!decide (rs=[])):=by
   rw[lstO_s _ (by simp),y0 _ _ (by unfold ok2;rw[o6];rfl)]
   congr 2;exact decide_eq_decide.mpr (by simp)
  rw[en]
  by_cases hn:rs=[]
  ·refine⟨r0,hr0,?_⟩
   rw[Zw hn];rfl
  ·have hpos:0<rs.length:=List.length_pos_iff.mpr hn
   have a0:(0:Int)<=bN c 16%(rs.length:Int):=Int.emod_nonneg _ (by lia)
   have a1:bN c 16%(rs.length:Int)<rs.length:=Int.emod_lt_of_pos _ (by lia)
   obtain⟨v,hv,_,ev⟩:=jO (xs:=rs.map ax) a0 (by simpa using a1)
   obtain⟨r,hr,rfl⟩:=List.mem_map.mp hv;refine⟨r,h4 r hr,?_⟩
   rw[Zv hn];simp only[Bool.not_false,ifO_t,consO_s,bindO_s,aS c 16 (by lia) (by lia),shO_s,lenL_l,Zn,modI_s _ _ (show(0:Int)<rs.length by lia),ixO_l,ev]
   unfold ax;rw[CQ _ _ _ _ _ (by simp) (by simp)]
   rfl
 obtain⟨r,hr,er⟩:=mG;obtain⟨ts,ht,x7,x8,el⟩:=sJ hl c (some (aE ws st sp,false)) (some (.lst (rs.map ax),false)) (some (.str r.1,false)) r.2 hr;refine⟨(r.1,ts),by simp only;lia,?_⟩
 rw[au (f:=f_qq) (δ:=[some (aE ws st sp,false),some (.lst (ls.map .str),false),some (.lst (rs.map ax),false),some (.int c,false),none,none,none,none,none]) rfl rfl rfl];simp only[Bl,rd_1,rd_0,consO_s,bindO_s,er0,shO_s];have e1:ax r0=.tup [.str r0.1,.tup (r0.2.map ceD)]:=rfl;rw[e1,CQ _ _ _ _ _ (by simp) (by simp)]
 simp only[seqO_n,List.set_cons_succ,List.set_cons_zero,rd_1,rd_0];simp only[consO_s,bindO_s]at er;simp only[consO_s,bindO_s];rw[er];simp only[seqO_n];rw[lstO_s _ (by simp),setF_s _ _ _ (by simp)]
 simp only[seqO_n,List.set_cons_succ,List.set_cons_zero,rd_1,rd_0,lenL_t,Zn];rw[eG _ (by lia),bindO_s,Int.toNat_natCast,el]
 simp only[seqO_n,frzE_1,frzE_0,u8,rd_1,rd_0,tupleO_l,consO_s];rw[tupO_s _ (by simp)]
 rfl
end K33
namespace K33
open PySem L2 JP
noncomputable def isA:Te->Bool|.any _=>true|.nm _=>false
theorem mj (t:Te) (n:Nat):okD (n+1) (teD t)=true:=by cases t<;>simp[teD,okD]
theorem xI {t:Te}{ts:List Te}(h:t∈ts):∀l∈ans [t],l∈ans ts:=by
 intro l hl
 induction ts with
 |nil=>contradiction
 |cons a ts ih=>
  rcases ZA.mp h with rfl|h'
  ·cases t with
   |any m=>simp[ans]at hl⊢;exact .inl hl
   |nm w=>simp[ans]at hl
  ·cases a with
   |any m=>exact Ze _ (ih h')
   |nm w=>exact ih h'
theorem yT {sm:List Te}{i:Int}(h0:0<=i) (h1:i<sm.length):∃t∈sm,atI (sm.map teD) i=some (teD t):=by
 obtain⟨v,hv,_,e⟩:=jO (xs:=sm.map teD) h0 (by simpa using h1)
 obtain⟨t,ht,rfl⟩:=List.mem_map.mp hv;exact⟨t,ht,e⟩
theorem ji {ws:List Str}{st sp:Int}(hw:ws.length=4) (c way:Int) {p:Pat}(hp:p.2.length<=4) (a1 a2 x7 x8 x9 x10:Option (D×Bool)) (sm:List Te) (hs:sm≠[]) (hl:sm.length<=4) (ha:∀t∈sm,∀l∈ans [t],l∈ans p.2):
  ∃u,kz u/\nW ((fun δ=>aC (bc 8 (ixO (rd false 5 δ) (cr (shO (ac (aa (rd false 3 δ) (aa (some (.int 26)) (some []))) f_qj)) (dM (rd false 5 δ)))) δ) (fun δ=>aC (bc 9 (ixO (rd false 5 δ) (cr (shO (ac (aa (rd false 3 δ) (aa (some (.int 27)) (some []))) f_qj)) (dM (rd false 5 δ)))) δ) (fun δ=>aC (ifO (oB (eqO (rd false 6 δ) (some (.int 3))) (eqO (cr (shO (ac (aa (rd false 3 δ) (aa (some (.int 28)) (some []))) f_qj)) (some (.int 3))) (some (.int 0)))) (bc 9 (cY (aa (some (.str "name")) (aa (ixO (ixO (rd false 0 δ) (some (.int 0))) (cr (shO (ac (aa (rd false 3 δ) (aa (some (.int 29)) (some []))) f_qj)) (some (.int 4)))) (some [])))) δ) (nextO δ)) (fun δ=>cQ (cY (aa (some (.str "same")) (aa (ca (aa (rd false 4 δ) (some []))) (aa (rd false 8 δ) (aa (rd false 9 δ) (some [])))))))))) [some (aE ws st sp,false),a1,a2,some (.int c,false),some (aG p,false),some (.lst (sm.map teD),false),some (.int way,false),x7,x8,x9,x10])=some (ruD u,false):=by
 have hpos:0<sm.length:=List.length_pos_iff.mpr hs;have m26:=aL c 26;have m27:=aL c 27;have m29:=aL c 29;obtain⟨t1,ht1,e1⟩:=yT (sm:=sm) (i:=bN c 26%(sm.length:Int)) (Int.emod_nonneg _ (by lia)) (Int.emod_lt_of_pos _ (by lia))
 obtain⟨t2,ht2,e2⟩:=yT (sm:=sm) (i:=bN c 27%(sm.length:Int)) (Int.emod_nonneg _ (by lia)) (Int.emod_lt_of_pos _ (by lia))
 obtain⟨w,ew⟩:=d8 (ws:=ws) (i:=bN c 29%4) (by lia) (by lia)
 have ew0:ixO (some (aE ws st sp)) (some (.int 0))=some (.lst (ws.map .str)):=rfl;simp only[rd_1,rd_0,consO_s,bindO_s,aS c 26 (by lia) (by lia),shO_s,lenL_l,Zn,modI_s _ _ (show(0:Int)<sm.length by lia),ixO_l,e1]
 rw[setO_s _ _ _ (by simp)]
 simp only[seqO_n,List.set_cons_succ,List.set_cons_zero,rd_1,rd_0,consO_s,bindO_s,aS c 27 (by lia) (by lia),shO_s,lenL_l,Zn,modI_s _ _ (show(0:Int)<sm.length by lia),ixO_l,e2]
 rw[setO_s _ _ _ (by simp)]
 simp only[seqO_n,List.set_cons_succ,List.set_cons_zero,rd_1,rd_0,consO_s,bindO_s,aS c 28 (by lia) (by lia),aS c 29 (by lia) (by lia),shO_s,modI_s _ _ (show(0:Int)<3 by lia),modI_s _ _ (show(0:Int)<4 by lia),eqO_int,ew0,ixO_l,ew]
 rw[tupO_s _ (by simp)]
 have fin:∀t:Te,(∀l∈ans [t],l∈ans p.2)->kz (.same p t1 t):=fun t ht=>⟨hp,fun l hl=>by
  rw[yk]at hl
  rcases List.mem_append.mp hl with q|q
  ·exact ha t1 ht1 l q
  ·exact ht l q⟩
 by_cases h3:way=3/\bN c 28%3=0
 ·refine⟨.same p t1 (.nm w),fin _ fun l hl=>(by simp[ans]at hl),?_⟩
  simp only[h3.1,h3.2,Yr,andO_t,ifO_t];rw[setO_s _ _ _ (by simp)]
  simp only[seqO_n,List.set_cons_succ,List.set_cons_zero,rd_1,rd_0,consO_s];rw[lstO_s _ (by simp)]
  simp only[consO_s];rw[tupO_s _ (by simp)]
  rfl
 ·refine⟨.same p t1 t2,fin t2 (ha t2 ht2),?_⟩
  have:oB (some (decide (way=3))) (some (decide (bN c 28%3=0)))=some false:=by
   by_cases q:way=3
   ·have q':¬bN c 28%3=0:=fun z=>h3 ⟨q,z⟩
    simp[q,q']
   ·simp[q]
  rw[this];simp only[ifO_f,nextO_s,seqO_n,rd_1,rd_0,consO_s];rw[lstO_s _ (by simp)]
  simp only[consO_s];rw[tupO_s _ (by simp)]
  rfl
theorem xq {w:D}(hw:Wd w) {ls:List Str}(hl:ls.length=3) {rs:List Row}(hrs:rs.length<=63) (h4:∀r∈rs,r.2.length<=4) (c:Int):∃u:Ru,kz u/\f_qr [w,.lst (ls.map .str),.lst (rs.map ax),.int c]=some (ruD u,false):=by
 obtain⟨p,hp,ep⟩:=fU hw hl hrs h4 c;obtain⟨q,hq,eq⟩:=fU hw hl hrs h4 (c*3+1);obtain⟨ws,st,sp,w1,w2,w3,w4,w5,rfl⟩:=hw;have m24:=aL c 24;have m25:=aL c 25;obtain⟨l0,el0⟩:=d8 (ws:=ls) (i:=0) (by lia) (by lia)
 obtain⟨v0,ev0⟩:=d8 (ws:=ws) (i:=0) (by lia) (by lia)
 obtain⟨v1,ev1⟩:=d8 (ws:=ws) (i:=bN c 25%2) (by lia) (by lia)
 have ew0:ixO (some (aE ws st sp)) (some (.int 0))=some (.lst (ws.map .str)):=rfl;have p0:ixO (some (aG p)) (some (.int 0))=some (.str p.1):=by simp[aG,at0]
 have p1:ixO (some (aG p)) (some (.int 1))=some (.tup (p.2.map teD)):=by simp[aG,at1]
 have hfl:=fw isA p.2;have efl:∀F:D->Option (Option D),(∀t∈p.2,F (teD t)=some (if isA t=true then some (teD t) else none))->aX F (p.2.map teD)=some ((p.2.filter isA).map teD):=fun F h=>bg h
 generalize hF:f_qr _=F0;rw[au (f:=f_qr) (δ:=[some (aE ws st sp,false),some (.lst (ls.map .str),false),some (.lst (rs.map ax),false),some (.int c,false),none,none,none,none,none,none,none]) rfl rfl rfl]at hF;simp only[BV,rd_1,rd_0,consO_s,bindO_s,ep,shO_s]at hF;rw[setO_s _ _ _ (by simp)]at hF
 simp only[seqO_n,List.set_cons_succ,List.set_cons_zero,rd_1,rd_0,p1,tupL_s,bindO_s]at hF;rw[aA (by simp;lia),efl _ fun t ht=>by
  cases t with
  |any l=>exact vH ((aF _ _).trans (YV some (Zw rfl))) rfl
  |nm w=>exact vH ((aF _ _).trans (YV some (Zv (by rw[na];exact id)))) rfl]at hF
 rw[lstLim_s,setF_s _ _ _ (by simp)]at hF
 simp only[seqO_n,List.set_cons_succ,List.set_cons_zero,frzE_1,frzE_0,vR,rd_1,rd_0,consO_s,bindO_s,aS c 24 (by lia) (by lia),shO_s,modI_s _ _ (show(0:Int)<4 by lia)]at hF
 rw[setO_s _ _ _ (by simp)]at hF
 simp only[seqO_n,List.set_cons_succ,List.set_cons_zero,rd_1,rd_0,cI_s]at hF
 by_cases h2:bN c 24%4<2
 ·have:gLt (bN c 24%4) 2=true:=Zw h2
  rw[this,ifO_t]at hF;simp only[mulI_s c 3 (by lia),addI_s,consO_s,bindO_s,eq,shO_s]at hF
  rw[setO_s _ _ _ (by simp)]at hF
  simp only[seqO_n,List.set_cons_succ,List.set_cons_zero,rd_1,rd_0,eqO_int,p0,p1,tupL_s,bindO_s]at hF
  by_cases hz:bN c 24%4=0
  ·subst hF;refine⟨.must p (p.1,p.2.map fun t=>if bN c 25%2=0 then t else .any l0),⟨hp,by simpa using hp⟩,?_⟩
   rw[Zw hz,ifO_t,aA (by simp;lia),aZ (f:=teD) (h:=fun t=>teD (if bN c 25%2=0 then t else .any l0)) fun t ht=>by
    have ha:ixO (some (.lst (ls.map .str))) (some (.int 0))=some (.str l0):=el0
    by_cases hm:bN c 25%2=0
    ·simp[aI,aB,pV,aS c 25 (by lia) (by lia),el0,hm,at0]
    ·have hm':bN c 25%2=1:=by lia
     simp[aI,aB,pV,aS c 25 (by lia) (by lia),el0,hm',at1,teD]]
   rw[lstLim_s,tupleO_l];simp only[consO_s];rw[tupO_s _ (by simp),setO_s _ _ _ (by simp)]
   simp only[seqO_n,List.set_cons_succ,List.set_cons_zero,rd_1,rd_0,consO_s];rw[lstO_s _ (by simp),lstO_s _ (by simp)]
   simp only[consO_s];rw[tupO_s _ (by simp)]
   simp[ruD,aG]
  ·subst hF;refine⟨.must p q,⟨hp,hq⟩,?_⟩
   rw[Zv hz,ifO_f,nextO_s];simp only[seqO_n,rd_1,rd_0,consO_s];rw[lstO_s _ (by simp),lstO_s _ (by simp)]
   simp only[consO_s];rw[tupO_s _ (by simp)]
   rfl
 ·have:gLt (bN c 24%4) 2=false:=Zv h2
  rw[this,ifO_f,nextO_s]at hF;simp only[seqO_n,rd_1,rd_0]at hF;have en:eqO (some (.lst ((p.2.filter isA).map teD))) (ca (some []))=some (decide (p.2.filter isA=[])):=by
   rw[lstO_s _ (by simp),j4 _ _ ?_]
   ·congr 1
    exact decide_eq_decide.mpr (by simp)
   ·unfold ok2
    have:okD 16 (.lst ((p.2.filter isA).map teD))=true:=by
     simp only[okD,List.all_map,ZH];intro t _;exact mj t 14
    rw[this];rfl
  rw[en]at hF
  by_cases hn:p.2.filter isA=[]
  ·rw[Zw hn,ifO_t]at hF
   simp only[ew0,ixO_l,ev0,consO_s,bindO_s,aS c 25 (by lia) (by lia),shO_s,modI_s _ _ (show(0:Int)<2 by lia),ev1]at hF
   rw[tupO_s _ (by simp),tupO_s _ (by simp)]at hF
   simp only[consO_s]at hF;rw[lstO_s _ (by simp),setO_s _ _ _ (by simp)]at hF
   simp only[seqO_n,List.set_cons_succ,List.set_cons_zero]at hF;subst hF;exact ji (st:=st) (sp:=sp) w1 c _ hp _ _ _ _ _ _ [.nm v0,.nm v1] (by simp) (by simp) fun t ht l hl=>by
    simp at ht
    rcases ht with rfl|rfl<;>simp[ans]at hl
  ·rw[Zv hn,ifO_f,nextO_s]at hF
   simp only[seqO_n]at hF;subst hF;exact ji (st:=st) (sp:=sp) w1 c _ hp _ _ _ _ _ _ _ hn (by lia) fun t ht=>xI (List.mem_filter.mp ht).1
end K33
namespace K33
open PySem L2 JP
theorem vO {a b:Te}(h:teD a=teD b):a=b:=rX h
theorem wp {a b:Ru}(h:ruD a=ruD b):a=b:=by
 cases a with
 |must p q=>
  cases b with
  |must p' q'=>simp[ruD]at h;rw[gn h.1,gn h.2]
  |same p' s t=>simp[ruD]at h
 |same p s t=>
  cases b with
  |must p' q'=>simp[ruD]at h
  |same p' s' t'=>simp[ruD]at h;rw[gn h.1,vO h.2.1,vO h.2.2]
theorem lw (p:Pat) (n:Nat):okD (n+3) (aG p)=true:=by
 simp only[aG,okD,List.all_cons,List.all_nil,Bool.and_true,Bool.true_and,List.all_map,ZH];intro t _;exact mj t n
theorem wE (u:Ru) (n:Nat):okD (n+5) (ruD u)=true:=by
 cases u with
 |must p q=>simp[ruD,okD,lw p n,lw q n]
 |same p s t=>simp[ruD,okD,lw p n,mj s (n+3),mj t (n+3)]
open Classical in
noncomputable def j0 (rs:List Row) (us:List Ru):List Ru:=us.filter fun u=>decide (Kp rs u)
open Classical in
theorem yh {rs:List Row}{us:List Ru}{u:Ru}(hu:u∈us):bU (some (ruD u)) (some (.lst ((j0 rs us).map ruD)))=some (!decide (Kp rs u)):=by
 unfold bU inO;simp only[aK];rw[Zm]
 ·have:decide (ruD u∈(j0 rs us).map ruD)=decide (Kp rs u):=decide_eq_decide.mpr ⟨fun h=>by
   obtain⟨v,hv,e⟩:=List.mem_map.mp h;rw[wp e]at hv
   simpa[j0]using(List.mem_filter.mp hv).2,fun h=>List.mem_map.mpr ⟨u,List.mem_filter.mpr ⟨hu,by simpa using h⟩,rfl⟩⟩
  rw[this];rfl
 ·rw[Zu,ZH]
  refine⟨wE u 11,fun x hx=>?_⟩
  obtain⟨v,_,rfl⟩:=List.mem_map.mp hx;exact wE v 11
theorem Ck (xs:List Ru):oD (xs.map ruD) none (some 8)=(xs.take 8).map ruD:=by
 unfold oD;have:HT.sIx (xs.map ruD).length (xs.map ruD).length (some 8)=min 8 (xs.map ruD).length:=HT.sIx_nat _ _ 8;rw[this,HT.sIx_none];rw[List.drop_zero,Nat.sub_zero,<-List.map_take,Zn];congr 1;rw[Nat.min_comm]
 by_cases h:xs.length<=8
 ·rw[Nat.min_eq_left h,List.take_of_length_le h,List.take_of_length_le (Zk _)]
 ·rw[Nat.min_eq_right (by lia)]
open Classical in
theorem ue {rs:List Row}(hrs:rs.length<=63) {us:List Ru}(ok:∀u∈us,kz u) (xs:List Ru) (hx:∀u∈xs,u∈us) (a0 a1 a2 a3 a4 a6 a7 x9 x10 x11 x12 x13 x14:Option (D×Bool)):∃y10 y11,
  gM [a0,a1,a2,a3,a4,some (.lst (rs.map ax),false),a6,a7,some (.lst ((j0 rs us).map ruD),false),some (.lst (xs.map ruD),false),x10,x11,x12,x13,x14]=some (.next [a0,a1,a2,a3,a4,some (.lst (rs.map ax),false),a6,a7,some (.lst ((j0 rs us).map ruD),false),some (.lst (xs.map ruD),false),y10,y11,x12,x13,x14]):=by
 have h8:∀u∈xs.take 8,u∈us:=fun u hu=>hx u (List.mem_of_mem_take hu)
 have hl8:(xs.take 8).length<=8:=by simp;lia
 have ek:=uM hrs (xs.take 8) fun u hu=>ok u (h8 u hu)
 have ef:∀F:D->Option (Option D),(∀u∈xs.take 8,F (ruD u)=some (if(!decide (Kp rs u))=true then some (ruD u) else none))->aX F ((xs.take 8).map ruD)=some (((xs.take 8).filter fun u=>!decide (Kp rs u)).map ruD):=fun F h=>bg h
 refine⟨some (.bl (decide (∀u∈xs.take 8,Kp rs u)),false),some (.bl (decide (∀u∈xs.take 8,Kp rs u)),false),?_⟩
 simp only[gM,rd_1,rd_0,partI_s,cutLO_s,Ck,consO_s,bindO_s,ek,shO_s];rw[setO_s _ _ _ (by simp)]
 simp only[seqO_n,List.set_cons_succ,List.set_cons_zero,rd_1,rd_0,cutLO_s,Ck,lstL_s,bindO_s];rw[aA (by simp;lia),ef _ fun u hu=>by
  have:=yh (rs:=rs) (h8 u hu)
  by_cases hk:Kp rs u<;>simp[aI,aB,oY,this,hk]]
 have ed:ofB (eqO (dM (ao (some (((xs.take 8).filter fun u=>!decide (Kp rs u)).map ruD)))) (some (.int 0)))=some (.bl (decide (∀u∈xs.take 8,Kp rs u))):=by
  rw[lstLim_s,lenL_l,eqO_int,ofB_s];congr 2;refine decide_eq_decide.mpr ?_
  rw[Zn];constructor
  ·intro h u hu
   have h0:(xs.take 8).filter (fun u=>!decide (Kp rs u))=[]:=List.length_eq_zero_iff.mp (by lia)
   have:=(List.filter_eq_nil_iff.mp h0) u hu
   simpa using this
  ·intro h
   have:(xs.take 8).filter (fun u=>!decide (Kp rs u))=[]:=List.filter_eq_nil_iff.mpr fun u hu=>by simpa using h u hu
   rw[this];rfl
 rw[ed,setO_s _ _ _ (by simp)]
 simp only[seqO_n,List.set_cons_succ,List.set_cons_zero,rd_1,rd_0];have ei:∀b,AO "bool" (some (.bl b))=some (.bl true):=fun y=>rfl
 rw[ei];simp only[tyB_s,notO_s,Yl,orO_f,AN,BEq.rfl,ifO_f,nextO_s]
open Classical in
theorem me {rs:List Row}(hrs:rs.length<=63) {us:List Ru}(ok:∀u∈us,kz u) (a0 a1 a2 a3 a4 a6 a7 x12 x13 x14:Option (D×Bool)):∀(xss:List (List Ru)) (x9 x10 x11:Option (D×Bool)),(∀xs∈xss,∀u∈xs,u∈us)->∃y9 y10 y11,
  aw (fun d δ=>ac ((ae 9) d δ) gM) (xss.map fun xs=>.lst (xs.map ruD)) [a0,a1,a2,a3,a4,some (.lst (rs.map ax),false),a6,a7,some (.lst ((j0 rs us).map ruD),false),x9,x10,x11,x12,x13,x14]=some (.next [a0,a1,a2,a3,a4,some (.lst (rs.map ax),false),a6,a7,some (.lst ((j0 rs us).map ruD),false),y9,y10,y11,x12,x13,x14])
 |[],x9,x10,x11,_=>⟨x9,x10,x11,rfl⟩
 |xs::xss,x9,x10,x11,h=>by
  obtain⟨y10,y11,e⟩:=ue hrs ok xs (h xs (Zg ..)) a0 a1 a2 a3 a4 a6 a7 x9 x10 x11 x12 x13 x14;obtain⟨z9,z10,z11,e'⟩:=me hrs ok a0 a1 a2 a3 a4 a6 a7 x12 x13 x14 xss (some (.lst (xs.map ruD),false)) y10 y11 fun ys hy=>h ys (Ze _ hy)
  refine⟨z9,z10,z11,?_⟩
  rw[<-e',Zf]
  conv=>lhs;unfold aw
  simp only[toName_s,List.length_cons,List.length_nil,Nat.reduceAdd,Nat.reduceLT,bindO_s,List.set_cons_succ,List.set_cons_zero];rw[e]
open Classical in
theorem pure (ns:List Int) (hn:ns.length<=63):f_law [.lst (ns.map D.int)]=some (.bl true,false):=by
 obtain⟨cs,ec,lc⟩:=uJ ns none (some 24);generalize htot:cs.sum%1000003=tot;obtain⟨ws,st,sp,w1,w2,w3,w4,w5,ew⟩:=uN tot;obtain⟨ls,hl,el⟩:=oz tot;obtain⟨g,eg,gl,gp⟩:=cz (ds:=cs.map D.int) (P:=fun v y=>∃r:Row,r.2.length<=4/\y=ax r)
  (h:=aI (ae 14) (fun δ=>some true) kH [none,none,none,some (aE ws st sp,false),none,none,none,none,none,none,none,none,none,none,none]) fun d hd=>by
   obtain⟨c,_,rfl⟩:=List.mem_map.mp hd;obtain⟨r,hr,er⟩:=uV w1 w2 w3 w4 w5 c;exact⟨ax r,by simp[aI,kH,er],r,hr,rfl⟩
 obtain⟨qs,rfl,hqs⟩:=kf (F:=ax) (Q:=fun r=>r.2.length<=4) gl gp fun d y hz=>by obtain⟨e,a,b⟩:=hz;exact⟨e,b,a⟩
 rw[Zn,Zn]at gl;obtain⟨rs,mrs,lrs,ers⟩:=uw qs (by lia)
 have hrs:rs.length<=63:=by lia
 have h4:∀r∈rs,r.2.length<=4:=fun r hr=>hqs r (mrs r hr)
 have m30:=aL tot 30;have hW:Wd (aE ws st sp):=⟨ws,st,sp,w1,w2,w3,w4,w5,rfl⟩;obtain⟨g2,eg2,gl2,gp2⟩:=cz (ds:=f9 0 (bN tot 30%9).toNat) (P:=fun v y=>∃u:Ru,kz u/\y=ruD u)
  (h:=aI (ae 12) (fun δ=>some true) km [none,none,some (.int tot,false),some (aE ws st sp,false),some (.lst (ls.map .str),false),some (.lst (rs.map ax),false),none,none,none,none,none,none,none,none,none]) fun d hd=>by
   obtain⟨i,hi,rfl⟩:=cw hd;obtain⟨u,hu,eu⟩:=xq hW hl hrs h4 (tot*7+(0+(i:Int))*(0+(i:Int)));refine⟨ruD u,?_,u,hu,rfl⟩
   have e0:(0:Int)+(i:Int)=i:=by lia
   rw[e0]at eu⊢;simp[aI,km,mulI_s (tot) 7 (by lia),mulI_s (i:Int) (i:Int) (by lia),eu]
 obtain⟨us,rfl,hus⟩:=kf (F:=ruD) (Q:=kz) gl2 gp2 fun d y hz=>by obtain⟨e,a,b⟩:=hz;exact⟨e,b,a⟩
 rw[aO,Zn]at gl2;have hul:us.length<=8:=by lia
 have hgl:(j0 rs us).length<=us.length:=List.length_filter_le ..;have hsub:∀u∈j0 rs us,u∈us:=fun u hu=>(List.mem_filter.mp hu).1
 have eg3:aX (aI (ae 12) (fun δ=>some true) pb [none,none,some (.int tot,false),some (aE ws st sp,false),some (.lst (ls.map .str),false),some (.lst (rs.map ax),false),none,none,none,none,none,none,none,none,none]) (f9 0 us.length)=some (us.map ruD):=by
  rw[gl2];exact eg2
 have efl:∀F:D->Option (Option D),(∀u∈us,F (ruD u)=some (if decide (Kp rs u)=true then some (ruD u) else none))->aX F (us.map ruD)=some ((j0 rs us).map ruD):=fun F h=>bg h
 rw[au (f:=f_law) (δ:=[some (.lst (ns.map D.int),false),none,none,none,none,none,none,none,none,none,none,none,none,none,none]) rfl rfl rfl];simp only[v9,rd_0,partI_s,cutLO_s,ec];rw[setO_s _ _ _ (by simp)]
 simp only[seqO_n,List.set_cons_succ,List.set_cons_zero,rd_1,rd_0,Al,modI_s _ _ (show(0:Int)<1000003 by lia),htot]
 rw[setO_s _ _ _ (by simp)]
 simp only[seqO_n,List.set_cons_succ,List.set_cons_zero,rd_1,rd_0,consO_s,bindO_s,ew,shO_s];rw[setO_s _ _ _ (by simp)]
 simp only[seqO_n,List.set_cons_succ,List.set_cons_zero,rd_1,rd_0,consO_s,bindO_s,el,frO_s];rw[setO_s _ _ _ (by simp)]
 simp only[seqO_n,List.set_cons_succ,List.set_cons_zero,rd_1,rd_0,lstL_s,bindO_s];rw[aA (by simp;lia)]
 have hm1:∀(x y z:Option (D×Bool)),aB false [false,false,false,true,false,false,false,false,false,false,false,false,false,false,false] [x,y,z,some (aE ws st sp,false),some (.lst (ls.map .str),false),none,none,none,none,none,none,none,none,none,none]=[none,none,none,some (aE ws st sp,false),none,none,none,none,none,none,none,none,none,none,none]:=fun v v v=>rfl
 rw[hm1,eg,lstLim_s];simp only[consO_s,bindO_s,ers,frO_s];rw[setO_s _ _ _ (by simp)]
 simp only[seqO_n,List.set_cons_succ,List.set_cons_zero,rd_1,rd_0,consO_s,bindO_s,aS tot 30 (by lia) (by lia),shO_s,modI_s _ _ (show(0:Int)<9 by lia)]
 rw[eG _ (by lia),bindO_s,aA (by rw[aO,lim_eq];lia)]
 have hm2:∀(x y z6 z7:Option (D×Bool)),aB false [false,false,true,true,true,true,false,false,false,false,false,false,false,false,false] [x,y,some (.int tot,false),some (aE ws st sp,false),some (.lst (ls.map .str),false),some (.lst (rs.map ax),false),z6,z7,none,none,none,none,none,none,none]=[none,none,some (.int tot,false),some (aE ws st sp,false),some (.lst (ls.map .str),false),some (.lst (rs.map ax),false),none,none,none,none,none,none,none,none,none]:=fun v v v v=>rfl
 rw[hm2,eg2,lstLim_s,setF_s _ _ _ (by simp)]
 simp only[seqO_n,List.set_cons_succ,List.set_cons_zero,frzE_1,frzE_0,qA,rd_1,rd_0,listO_l,lenL_l,Zn];rw[eG _ (by lia),bindO_s,Int.toNat_natCast,aA (by rw[aO,lim_eq];lia),hm2,eg3,lstLim_s]
 simp only[consO_s];rw[lstO_s _ (by simp),setO_s _ _ _ (by simp)]
 simp only[seqO_n,List.set_cons_succ,List.set_cons_zero,rd_1,rd_0,lstL_s,bindO_s];rw[aA (by simp;lia),efl _ fun u hu=>by
  have:=kX hrs u (hus u hu)
  by_cases hk:Kp rs u<;>simp[aI,aB,pH,this,hk]]
 rw[lstLim_s,setO_s _ _ _ (by simp)]
 simp only[seqO_n,List.set_cons_succ,List.set_cons_zero,rd_1,rd_0];rw[catO_s _ _ (by simp;lia),<-Z4,lstO_s [] (by simp)]
 simp only[consO_s];rw[lstO_s _ (by simp),lstL_s,bindO_s]
 have e4:([.lst (us.map ruD),.lst ((j0 rs us).map ruD),.lst ((j0 rs us++us).map ruD),.lst []]:List D)=[us,j0 rs us,j0 rs us++us,[]].map fun xs=>.lst (xs.map ruD):=rfl
 rw[e4];obtain⟨y9,y10,y11,e⟩:=me hrs hus (some (.lst (ns.map D.int),false)) (some (.lst (cs.map D.int),false)) (some (.int tot,false)) (some (aE ws st sp,false)) (some (.lst (ls.map .str),false)) (some (.lst (us.map ruD),false)) (some (.lst [.lst (rs.map ax),.lst (us.map ruD)],false)) none none none [us,j0 rs us,j0 rs us++us,[]] none none none fun xs hx u hu=>by
  simp only[ZA,ZB,Z5]at hx
  rcases hx with rfl|rfl|rfl|rfl
  ·exact hu
  ·exact hsub u hu
  ·exact(List.mem_append.mp hu).elim (hsub u) id
  ·contradiction
 rw[e];simp only[seqO_n,rd_1,rd_0,consO_s];rw[lstO_s _ (by simp),j4 _ _ ?_]
 ·simp
 ·have o1:okD 16 (.lst [.lst (rs.map ax),.lst (us.map ruD)])=true:=by
   have h1:okD 15 (.lst (rs.map ax))=true:=by
    simp only[okD,List.all_map,ZH];intro r _;exact jJ r 11
   have h2:okD 15 (.lst (us.map ruD))=true:=by
    simp only[okD,List.all_map,ZH];intro r _;exact wE r 9
   show(List.all [.lst (rs.map ax),.lst (us.map ruD)] (okD 15))=true;simp only[List.all_cons,h1,h2,List.all_nil,Bool.and_self]
  unfold ok2;rw[o1];rfl
end K33
set_option maxRecDepth 100000 in
set_option maxHeartbeats 0 in
theorem PySem.Challenge.cw_mustrows_k33_keeps_holds : PySem.Challenge.rw_mustrows_k33_keeps.Holds := by
 w_on;o_law;k_head;(case hw=>w_witness2)
 k_fill
 skip
 refine L2.walk_ofK (l:=PySem.Challenge.rw_mustrows_k33_keeps) (n:=63) (k:=9) (x:="_law_script") (CX:=L2.CX0) (sp:=fun K=>L2.spM K K33.f_law) rfl (by decide) rfl ⟨rfl,by decide,by decide⟩ (fun w h Y=>⟨PySem.W.km_in_of Y,fun q hq=>PySem.W.km_tabs_of Y q.1 (by rw[List.mem_singleton.mp hq];exact List.mem_singleton.mpr rfl)⟩) ?F ?S ?C ?L ?U
 case L=>exact fun w q hq=>by obtain rfl:=List.mem_singleton.mp hq;exact⟨by kernel_rfl,45,by kernel_rfl⟩
 case U=>exact fun q hq r hr _=>by rw[List.mem_singleton.mp hq,List.mem_singleton.mp hr]
 case F=>
  intro w mg fa h KX G hmg;have Q:∃fd:FuncData,(∀(s:Shared) (v:Value),BindsTo s fd ⟨[v],[]⟩ [("_law_script",v)])/\∀base:Heap,(L2.KOf KX).In base->base.Ns mainGlobals mg->L2.FnOk PySem.Challenge.rw_mustrows_k33_keeps.prog w (L2.KOf KX) mg base L2.CX0 9 fa fd ["_law_script"] (L2.spM (L2.KOf KX) K33.f_law):=by
   dsimp only[L2.KOf];refine' K33.all_mk KX G hmg ?za ?zl ?zc ?zk ?zT ?_ ?_ ?_ ?_ ?_ ?_ ?_ ?_ ?_ ?_ ?_ ?_ ?_ ?_ ?_ ?_ ?_ ?_ ?_ ?_ ?_ ?_ ?_ ?_ ?_ ?_ ?_ ?_ ?_ ?_ ?zp ?zq
   (case za=>k_is)
   (case zl=>k_is)
   (case zc=>k_is)
   (case zk=>k_is)
   (case zT=>intro x hx;refine PySem.W.mg_none_of KX G ?_;simp only[ZA,ZB,Z5]at hx;rcases hx with rfl|rfl|rfl|rfl|rfl|rfl|rfl|rfl|rfl|rfl|rfl|rfl|rfl<;>k_is)
   all_goals try (first|exact L2.df_mk KX G (by k_is) (by k_is) (by k_is) (by k_is)|exact L2.dfC_mk KX G (by k_is) (by k_is) (by k_is) (by k_is))
   (case zp=>exact .head _)
   (case zq=>kernel_rfl)
  exact Q
 case S=>exact fun K H a ns hl hO hS=>L2.spM_law hS (K33.pure ns hl)
 case C=>exact fun _ _ _ _ h=>h
