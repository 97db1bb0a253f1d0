import PyProof.Rows.All
import PyProof.ZipIter
import Wide.All
import OpenK.AllK
import Wide.FinOn
import Lean
import PyProof.EqAt
import PyProof.EqKinds
import PyProof.TupleCall
import PyProof.DictRoadsH
import KE.KLam
import KE.KNestM
import PyProof.NeKinds
import PyProof.Rows.SortRuns
import KE.KSortTup
import KE.KSortKey
import PyProof.Conv_int_bool
import PyProof.EnumStmt
import PyProof.DictIter
import PyProof.DictWalks
import PyProof.ConsumeWalk
import PyProof.ListStr
import KE.KIntText
import KE.KDictOf
import KE.IntTextLaws
import PyProof.Rows.SortStr
import PyProof.StrLawsTight
import PyProof.StrLawsOcc
import PySem.Challenge.RW_mustrows_k11_fits
set_option Elab.async false
set_option linter.all false
set_option genSizeOf false
set_option maxRecDepth 100000
set_option maxHeartbeats 4000000
local macro_rules | `(tactic| obtain $p:rcasesPatMed := $e:term) => do
  let n := (p.raw.reprint.getD "").foldl (λn c => if c == ',' then n + 1 else n) 0
  let q := Lean.mkIdent `hzz
  if n < 2 then `(tactic| rcases $e:term with $p:rcasesPatMed) else `(tactic| (refine Classical.byContradiction fun $q => ?_; rcases $e:term with $p:rcasesPatMed; refine $q ?_; clear $q))
local macro_rules| `(tactic|trivial)=> `(tactic|contradiction)
abbrev Z_:=@PySem.wpAny_bind
abbrev Z9:=@Option
abbrev Z8:=@List
abbrev Z7:=@Option.some.inj
abbrev Z6:=@PySem.W.Frag
abbrev Z5:=@PySem.Heap.get?_push_of_some
abbrev Z4:=@PySem.wpAny_pure
abbrev Z3:=@PySem.Value
abbrev Z2:=@List.mem_cons_of_mem
abbrev Z1:=@List.map_cons
abbrev Z0:=@if_pos
abbrev ZZ:=@List.mem_cons
abbrev ZY:=@if_neg
abbrev ZX:=@List.mem_cons_self
abbrev ZW:=@List.getElem?_set_ne
abbrev ZV:=@List.getElem?_eq_some_iff
abbrev ZU:=@List.size_toArray
abbrev ZT:=@PySem.Heap.lt_size
abbrev ZR:=@List.getElem?_set_self
abbrev ZQ:=@Nat.le_refl
abbrev ZP:=@PySem.Shared
abbrev ZO:=@List.all_eq_true
abbrev ZN:=@PySem.Addr
abbrev ZM:=@Option.some.injEq
abbrev ZL:=@List.mem_map
abbrev ZK:=@PySem.Heap.get?_push_size
abbrev ZJ:=@Bool.false_eq_true
abbrev ZI:=@List.length_map
abbrev ZH:=@Bool.and_eq_true
abbrev ZG:=@List.mem_append_right
abbrev ZF:=@PyProof.Rows.wpS_bind
abbrev ZE:=@List.mem_singleton
abbrev ZD:=@Ne.symm
abbrev ZC:=@decide_eq_false
abbrev ZA:=@Nat.lt_of_lt_of_le
abbrev Zz:=@PyProof.Rows.wpS_pure
abbrev Zy:=@List.length_append
abbrev Zx:=@beq_iff_eq
abbrev Zw:=@Nat.ne_of_lt
abbrev Zv:=@List.mem_append
abbrev Zu:=@List.not_mem_nil
abbrev Zt:=@decide_eq_true
abbrev Zs:=@Nat.zero_le
abbrev Zr:=@Nat.le_trans
abbrev Zo:=@List.drop_eq_getElem_cons
abbrev Zn:=@Bool.false_ne_true
abbrev Zm:=@PySem.Heap.get?_update_other
abbrev Zl:=@List.length_set
abbrev Zk:=@Array.toList_append
abbrev Zj:=@PySem.Heap.get?_update_self
abbrev Zi:=@decide_eq_true_eq
abbrev Zh:=@List.append_assoc
abbrev Zg:=@List.mem_of_getElem?
abbrev Zf:=@of_decide_eq_true
abbrev Ze:=@PySem.Heap.SameBut.update
abbrev Zd:=@Nat.lt_irrefl
abbrev Zc:=@if_false
abbrev Zb:=@PySem.Obj.data_mapFields
abbrev Za:=@PySem.Around
abbrev Y_:=@List.append_nil
abbrev Y9:=@decide_eq_true_iff
abbrev Y8:=@PySem.wpAny_call_entry
abbrev Y7:=@PySem.wpAny_newObj_type
abbrev Y6:=@List.map_nil
abbrev Y5:=@List.getElem?_eq_getElem
abbrev Y4:=@PySem.Around.under_plainId
abbrev Y3:=@PySem.wpAny_holding
abbrev Y2:=@if_true
abbrev Y1:=@PySem.Program
abbrev Y0:=@List.map_append
abbrev YZ:=@List.mem_append_left
abbrev YY:=@Array.getElem?_eq_getElem
abbrev YX:=@List.nodup_nil
abbrev YW:=@List.Perm.refl
abbrev YV:=@PySem.wpAny_rule
abbrev YU:=@PySem.wpAny_mono
abbrev YT:=@Bool.not_true
abbrev YS:=@PySem.mem_of_lookup
abbrev YR:=@List.getElem?_eq_none
abbrev YQ:=@or_false
abbrev YO:=@PySem.World
abbrev YN:=@List.idxOf_lt_length_of_mem
abbrev YM:=@PySem.Heap.size_push
abbrev YL:=@List.length_eq_zero_iff
abbrev YK:=@List.getD_eq_getElem?_getD
abbrev YJ:=@List.nodup_cons
abbrev YI:=@List.mem_filter
abbrev YG:=@Bool.eq_iff_iff
abbrev YF:=@PySem.wpAny_callSpecial?_slot
abbrev YE:=@List.take_of_length_le
abbrev YD:=@PyProof.Rows.wpS_forRange
abbrev YC:=@PySem.codeAny_builtin
abbrev YB:=@List.map_congr_left
abbrev YA:=@Array.toList_push
abbrev Yz:=@PySem.W.kia_one
abbrev Yy:=@PySem.F.plainAttrs_list
abbrev Yx:=@List.pairwise_append
abbrev Yw:=@PyProof.Rows.callWith_type1
abbrev Yv:=@List.getElem?_map
abbrev Yu:=@Bool.not_eq_true'
abbrev Yt:=@List.getElem?_append_left
abbrev Ys:=@PySem.wpAny_seqItems
abbrev Yr:=@Nat.lt_succ_self
abbrev Yq:=@List.mem_range
abbrev Yp:=@PySem.plainId_quiet
abbrev Yo:=@PySem.Paired.length
abbrev Yn:=@PySem.wpAny_setField
abbrev Ym:=@PySem.wpAny_updateSeq
abbrev Yl:=@decide_eq_decide
abbrev Yk:=@List.pairwise_cons
abbrev Yj:=@List.mem_filterMap
abbrev Yi:=@List.getElem?_append_right
abbrev Yh:=@PySem.wpAny_isInstance
abbrev Yg:=@List.cons.injEq
abbrev Ye:=@PySem.wpAny_setField_rec
abbrev Yd:=@PySem.MeetsSeq.plain_remove_loop
abbrev Yc:=@List.pairwise_map
abbrev Yb:=@List.nodup_append
abbrev X_:=@List.getElem?_of_mem
abbrev X9:=@Array.toList_reverse
abbrev X8:=@PySem.Obj.isFreed_of_fields
abbrev X7:=@Bool.true_and
abbrev X6:=@PySem.wpAny_specialOf
abbrev X5:=@List.reverse_append
abbrev X4:=@PySem.wpAny_truthy_bool
abbrev X3:=@PySem.sizeLine_eq
abbrev X2:=@beq_self_eq_true
abbrev X1:=@List.mem_reverse
abbrev X0:=@List.any_eq_true
abbrev XZ:=@Bool.not_false
abbrev XY:=@PyProof.Rows.wpS_modify
abbrev XX:=@PySem.wpAny_attempt
abbrev XW:=@decide_true
abbrev XU:=@decide_false
abbrev XT:=@Nat.zero_add
abbrev XS:=@List.set_set
abbrev XR:=@Array.getElem?_eq_none
abbrev XQ:=@PySem.F.plain_extend_loop
abbrev XO:=@PyProof.Rows.wpS_mono
abbrev XN:=@List.take_append_drop
abbrev XM:=@PySem.wpAny_field
abbrev XJ:=@PySem.wpAny_Call_Name_kw
abbrev XI:=@PySem.wpAny_passesOwn
abbrev XH:=@List.perm_ext_iff_of_nodup
abbrev XG:=@Array.toList_extract
abbrev XF:=@Array.getElem?_eq_some_iff
abbrev XE:=@List.length_take
abbrev XD:=@List.getElem_mem
abbrev XC:=@PySem.wpAny_setState_of
abbrev XB:=@List.mem_map_of_mem
abbrev XA:=@Prod.mk.injEq
abbrev Xz:=@PySem.wpAny_askSetting
abbrev Xy:=@PySem.Heap.size_update
abbrev Xx:=@PySem.F.called_set
abbrev Xw:=@decide_eq_false_iff_not
abbrev Xv:=@List.pairwise_mergeSort
abbrev Xu:=@PySem.wpAny_setEntries_of
abbrev Xs:=@not_or
abbrev Xr:=@Option.map_eq_some_iff
abbrev Xq:=@List.length_range
abbrev Xp:=@List.ext_getElem?
abbrev Xo:=@List.eraseIdx_eq_take_drop_succ
abbrev Xn:=@Array.getElem?_toList
abbrev Xm:=@List.drop_length
abbrev Xl:=@Bool.and_true
abbrev Xk:=@PySem.Obj.cls_mapFields
abbrev Xj:=@Nat.le_succ
abbrev Xi:=@List.reverse_reverse
abbrev Xh:=@PyProof.Rows.listUpdate_at
abbrev Xg:=@PySem.builtinLookup_eq_fast
abbrev Xf:=@PySem.wpAny_forIn_list
abbrev Xe:=@List.map_map
abbrev Xd:=@PySem.wpAny_typeNameOfWhole_keyiter
abbrev Xc:=@PySem.Obj.data_mapDictKeys
abbrev Xb:=@Array.append_empty
abbrev Xa:=@PySem.size_of_entries
abbrev W_:=@List.mem_of_find?_eq_some
abbrev W9:=@PySem.F.slot_dict_keyiterator_next
abbrev W8:=@not_false_eq_true
abbrev W7:=@PySem.codeAny_mono
abbrev W6:=@PySem.F.type_list_append
abbrev W5:=@PySem.F.slot_list_append
abbrev W4:=@PySem.F.args_tuple_add_2
abbrev W3:=@List.length_filterMap_le
abbrev W2:=@PySem.wpAny_fieldsOf
abbrev W0:=@PySem.isSubtype_stop
abbrev WZ:=@PySem.F.entry_tuple_add
abbrev WY:=@PySem.W.cellsFrom_some
abbrev WX:=@PySem.F.slot_tuple_add
abbrev WW:=@Nat.le_of_lt
abbrev WV:=@List.drop_eq_nil_of_le
abbrev WU:=@PySem.wpAny_pyIter_list
abbrev WT:=@PySem.wpAny_dictEntries
abbrev WR:=@PyProof.Rows.get?_update_seq
abbrev WQ:=@List.of_mem_zip
abbrev WO:=@List.forIn_cons
abbrev WN:=@PySem.F.slot_tuple_hash
abbrev WM:=@PySem.wpAny_typeNameOf_keyiter
abbrev WL:=@PySem.wpAny_newList
abbrev WK:=@PySem.F.slot_dict_get
abbrev WJ:=@List.getElem?_zipWith
abbrev WI:=@PySem.AutoSeq1.sub_tuple_tuple
abbrev WH:=@PySem.F.slot_list_lt
abbrev WG:=@List.mem_iff_getElem
abbrev WE:=@Bool.and_false
abbrev WD:=@PySem.wpAny_typeOf
abbrev WB:=@PySem.richCompare_meets_room
abbrev WA:=@PySem.call_meets
abbrev Wz:=@PySem.Calls.callWith_builtin
abbrev Wy:=@PySem.wpAny_execs_nil
abbrev Wx:=@PySem.typeLookup_type
abbrev Ww:=@PySem.F.slot_zip_next
abbrev Wv:=@PyProof.Rows.wpS_get
abbrev Wu:=@PySem.wpAny_of_eq
abbrev Wt:=@PySem.wpAny_newTuple
abbrev Ws:=@PySem.wpAny_letGo
abbrev Wr:=@PySem.isSubtype_type
abbrev Wq:=@PyProof.Rows.F.plain_set_update_loop
abbrev Wp:=@PyProof.Rows.listItems_at
noncomputable section
namespace L2
open PySem PySem.Spec PyProof.Rows PySem.W
class Lams where
 tb:Z8 (ZN×Str)
variable[Lams]
noncomputable def defArgs(s:Stmt):Arguments:=match s with
 |.FunctionDef _ a _ _ _ _ _ _ _ _=>a
 |_=>{posonlyargs:=[],args:=[],vararg:=none,kwonlyargs:=[],kw_defaults:=[],kwarg:=none,defaults:=[]}
def defBody(s:Stmt):Z8 Stmt:=match s with
 |.FunctionDef _ _ b _ _ _ _ _ _ _=>b
 |_=>[]
noncomputable def defScope(s:Stmt):Scope:=match s with
 |.FunctionDef _ _ _ _ _ _ sc _ _ _=>sc
 |_=>{kind:=.function,names:=[],isGenerator:=false,isCoroutine:=false}
def zC(h:Heap):Frag:=(List.range h.objs.size).filterMap λa=>(h.get? a).bind λo=>if o.cls != .none||a==mainGlobals then some (a,o) else none
abbrev FSig:=Str×Str×Arguments×FuncBody×Scope×ZN×Z8 (Str×ZN)×Z3×ZN
def A0(fd:FuncData):FSig:=(fd.name,fd.qualname,fd.params,fd.body,fd.scope,fd.globals,fd.closure,fd.defaults,fd.builtins)
noncomputable def B9(K:Frag)(x:Str):Z9 FSig:=match nsIn K mainGlobals x with
 |some (some (.ref f))=>(match K.lookup f with
  |some ⟨_,_,.func fd,_⟩=>if codeIn K fd.code x then some (A0 fd) else none
  |_=>none)
 |_=>none
def ur(x:Str)(st:Stmt):FSig:=(x,x,defArgs st,.stmts (defBody st),defScope st,mainGlobals,[],.none,builtinsNs)
noncomputable def mq(K:Frag)(x:Str):Z9 Z3:=match nsIn K mainGlobals x with
 |some (some (.ref f))=>(match K.lookup f with
  |some ⟨_,_,.func fd,_⟩=>some fd.code
  |_=>none)
 |_=>none
def EA:Obj:={cls:=.none,data:=.fields #[]}
noncomputable def YfH(defs:Z8 (Str×Stmt))(bl:Z8 Str)(cs:Z8 (Str×ZN))(s:ZP):=
 (λ(h:Heap) (K:Frag)=>(defs.map (λp=>B9 K p.1),bl.map (nsIn K mainGlobals),cs.map (λp=>mq K p.1),Lams.tb.map (λq=>h.get? q.1),(Lams.tb.zip cs).map (λq=>codeHdIn K q.2.2 q.1.1),Lams.tb.map (λq=>K.lookup q.1))) s.heap (zC s.heap)
noncomputable def YaH(defs:Z8 (Str×Stmt))(bl:Z8 Str)(cs:Z8 (Str×ZN))(_:YO):=
 (defs.map (λp=>some (ur p.1 p.2)),bl.map (λ_=>some (none:Z9 Z3)),cs.map (λp=>some (Value.ref p.2)),Lams.tb.map (λ_=>some EA),(Lams.tb.zip cs).map (λ_=>true),Lams.tb.map (λ_=>(none:Z9 Obj)))
end L2
namespace K11
open PySem L2
def top(i:Nat):Stmt:=PySem.Challenge.pw_mustrows_k11_fits.main.body.getD i (.Pass ⟨0,0,0,0⟩)
abbrev Ed:Stmt:=top 2
abbrev D0:Stmt:=top 8
abbrev Et:Stmt:=top 7
abbrev Ev:Stmt:=top 6
abbrev zV:Stmt:=top 5
abbrev Ea:Stmt:=top 11
abbrev D9:Stmt:=top 9
abbrev Eg:Stmt:=top 12
abbrev D8:Stmt:=top 10
abbrev EB:Stmt:=top 4
abbrev Cs:Stmt:=top 3
abbrev Dz:Stmt:=top 1
abbrev Ee:Stmt:=top 14
abbrev Em:Stmt:=top 15
abbrev DR:Stmt:=top 16
abbrev Ej:Stmt:=top 17
abbrev Es:Stmt:=top 18
abbrev Ew:Stmt:=top 19
abbrev D7:Stmt:=top 20
abbrev Ex:Stmt:=top 21
abbrev Ep:Stmt:=top 22
abbrev DQ:Stmt:=top 23
abbrev DN:Stmt:=top 24
abbrev s_law:Stmt:=top 25
abbrev blK:Z8 Str:=["any","bool","enumerate","isinstance","len","list","range","set","sorted","sum","tuple","zip"]
noncomputable def defsK:Z8 (Str×Stmt):=[("letters_of",Ed),("binding_of",D0),("bindings",Et),("is_linked",Ev),("search_order",zV),("places_of",Ea),("grouped",D9),("picked",Eg),("extended",D8),("joined_from",EB),("fits_from",Cs),("fits",Dz),("_law_mix",Ee),("_law_words",Em),("_law_world",DR),("_law_letters",Ej),("_law_cell_by",Es),("_law_row",Ew),("_law_stand",D7),("_law_pattern",Ex),("_law_joined",Ep),("_law_due",DQ),("_law_is_fits",DN),("law",s_law)]
end K11
noncomputable def CQ:Z8 Nat:=((PySem.Challenge.pw_mustrows_k11_fits.main.body.zipIdx.filter λp=>match p.1 with|.FunctionDef .. =>true|_=>false).map (·.2))
set_option maxHeartbeats 0 in
theorem K11.hl0:PySem.W.LeftO PySem.Challenge.rw_mustrows_k11_fits.row.prog (PySem.W.view PySem.Challenge.pw_mustrows_k11_fits CQ) [] (fun _=>true) (@L2.YfH ⟨[(38,"search_order.<locals>.<lambda>")]⟩ K11.defsK K11.blK [("search_order",40)]) (@L2.YaH ⟨[(38,"search_order.<locals>.<lambda>")]⟩ K11.defsK K11.blK [("search_order",40)]) 2000:=fun w=>by kernel_rfl
set_option maxHeartbeats 0 in
theorem K11.hl1:PySem.Challenge.rw_mustrows_k11_fits.wellSaid=true:=by kernel_rfl
set_option maxHeartbeats 0 in
theorem K11.hl7:(PySem.W.chainsOk (PySem.W.view PySem.Challenge.pw_mustrows_k11_fits CQ)&&PySem.W.opensWell PySem.Challenge.rw_mustrows_k11_fits.row.prog&&(PySem.W.frees PySem.Challenge.rw_mustrows_k11_fits.row.toRowW&&PySem.Challenge.rw_mustrows_k11_fits.row.within.isEmpty))=true:=by kernel_rfl
namespace L2
open PySem PySem.Spec PyProof.Rows
abbrev Key:=Sum Int Str
inductive D where
 |non|bl (b:Bool)|int (i:Int)|str (x:Str)|tup (ds:List D)|lst (ds:List D)|dK (ks:List Key) (vs:List D)
 |dD (ks vs:List D)
noncomputable instance:DecidableEq D:=λ_ _=>Classical.propDecidable _
def bP:Nat->D->Bool
 |_,.int _=>true
 |_,.str _=>true
 |n+1,.tup ds=>ds.all (bP n)
 |_,_=>false
mutual
def eN(w:YO):D->Int
 |.int i=>hashInt i
 |.str x=>hashStr w x
 |.tup ds=>reduceHash (Builtin.Tuple.tupleHashOf (jh w ds))
 |_=>0
def jh(w:YO):Z8 D->Z8 Int
 |[]=>[]
 |d::ds=>eN w d::jh w ds
end
theorem gO(w:YO):∀ds:Z8 D,jh w ds=ds.map (eN w)
 |[]=>by simp[jh]
 |d::ds=>by simp[jh,gO w ds]
def du(h:bP n (.tup ds)=true):∃k,n=k+1/\ds.all (bP k)=true:=by
 cases n with
 |zero=>simp[bP]at h
 |succ n=>exact⟨n,rfl,by simpa[bP]using h⟩
mutual
def eE:D->Nat
 |.int _=>1
 |.str _=>1
 |.tup ds=>bT ds+1
 |_=>0
def bT:Z8 D->Nat
 |[]=>0
 |d::ds=>eE d+bT ds
end
theorem fJ(d:D):∀ds:Z8 D,bT (ds++[d])=bT ds+eE d
 |[]=>by simp[bT]
 |x::ds=>by rw[List.cons_append];simp only[bT];rw[fJ d ds];lia
mutual
def RH(h:Heap):D->Z3->Prop
 |.int i,v=>∃t,v=.int i t
 |.str x,v=>∃t,v=.str x t
 |.tup ds,v=>∃a its,v=.ref a/\IsTup h a its.toArray/\RHs h ds its
 |_,_=>False
def RHs(h:Heap):Z8 D->Z8 Z3->Prop
 |[],vs=>vs=[]
 |d::ds,vs=>∃v r,vs=v::r/\RH h d v/\RHs h ds r
end
theorem RHs.length:∀{ds:Z8 D}{vs:Z8 Z3},RHs h ds vs->ds.length=vs.length
 |[],vs,r=>by simp only[RHs]at r;subst r;rfl
 |d::ds,vs,r=>by
  simp only[RHs]at r;obtain⟨v,q,rfl,_,r2⟩:=r;simp[RHs.length r2]
theorem RHs.get:∀{ds:Z8 D}{vs:Z8 Z3}{i:Nat}{d:D},RHs h ds vs->ds[i]?=some d->∃v,vs[i]?=some v/\RH h d v
 |[],vs,i,d,_,e=>by simp at e
 |x::ds,vs,0,d,r,e=>by
  simp only[RHs]at r;obtain⟨v,q,rfl,r1,_⟩:=r;simp at e;subst e;exact⟨v,rfl,r1⟩
 |x::ds,vs,i+1,d,r,e=>by
  simp only[RHs]at r;obtain⟨v,q,rfl,_,r2⟩:=r;obtain⟨u,h1,h2⟩:=RHs.get (i:=i) (d:=d) r2 (by simpa using e)
  exact⟨u,by simpa using h1,h2⟩
mutual
theorem RH.inj:∀{d e:D}{v:Z3},RH h d v->RH h e v->d=e
 |.int i,e,v,r,q=>by
  simp only[RH]at r;obtain⟨t,rfl⟩:=r;cases e<;>simp only[RH]at q<;>first
   |(obtain⟨t',z⟩:=q;cases z;rfl)
   |(obtain⟨t',z⟩:=q;cases z;done)
   |(obtain⟨a,its,z,_⟩:=q;cases z)
   |cases q
 |.str i,e,v,r,q=>by
  simp only[RH]at r;obtain⟨t,rfl⟩:=r;cases e<;>simp only[RH]at q<;>first
   |(obtain⟨t',z⟩:=q;cases z;rfl)
   |(obtain⟨t',z⟩:=q;cases z;done)
   |(obtain⟨a,its,z,_⟩:=q;cases z)
   |cases q
 |.tup ds,e,v,r,q=>by
  simp only[RH]at r;obtain⟨a,its,rfl,⟨o,g,_,n,hd⟩,rs⟩:=r;cases e with
  |tup es=>
   simp only[RH]at q;obtain⟨b,OW,z,⟨o',g',_,n',D_⟩,qs⟩:=q;cases z;rw[g]at g';obtain rfl:=Z7 g';rw[hd]at D_;have:its.toArray=OW.toArray:=by injection D_
   have e2:its=OW:=by simpa using this
   subst e2;rw[RHs.inj rs qs]
  |int _=>simp only[RH]at q;obtain⟨t',z⟩:=q;trivial
  |str _=>simp only[RH]at q;obtain⟨t',z⟩:=q;trivial
  |_=>simp only[RH]at q
 |.non,e,v,r,q=>by simp only[RH]at r
 |.bl _,e,v,r,q=>by simp only[RH]at r
 |.lst _,e,v,r,q=>by simp only[RH]at r
 |.dK _ _,e,v,r,q=>by simp only[RH]at r
 |.dD _ _,e,v,r,q=>by simp only[RH]at r
theorem RHs.inj:∀{ds es:Z8 D}{vs:Z8 Z3},RHs h ds vs->RHs h es vs->ds=es
 |[],es,vs,r,q=>by
  simp only[RHs]at r;subst r;cases es with
  |nil=>rfl
  |cons e es=>simp only[RHs]at q;obtain⟨v,z,e,_⟩:=q;trivial
 |d::ds,es,vs,r,q=>by
  simp only[RHs]at r;obtain⟨v,z,rfl,r1,r2⟩:=r;cases es with
  |nil=>simp only[RHs]at q;trivial
  |cons e es=>
   simp only[RHs]at q;obtain⟨v',z',e',q1,q2⟩:=q;cases e';rw[RH.inj r1 q1,RHs.inj r2 q2]
end
mutual
theorem RH.to(k:∀a o,h.get? a=some o->o.cls=.type "tuple"->(∃its n,o.data=.seq its n)->h'.get? a=some o):∀{d:D}{v:Z3},RH h d v->RH h' d v
 |.int i,v,r=>by simp only[RH]at r⊢;exact r
 |.str i,v,r=>by simp only[RH]at r⊢;exact r
 |.tup ds,v,r=>by
  simp only[RH]at r⊢;obtain⟨a,its,e,⟨o,g,hc,n,hd⟩,rs⟩:=r;exact⟨a,its,e,⟨o,k a o g hc ⟨_,_,hd⟩,hc,n,hd⟩,RHs.to k rs⟩
 |.non,v,r=>by simp only[RH]at r
 |.bl _,v,r=>by simp only[RH]at r
 |.lst _,v,r=>by simp only[RH]at r
 |.dK _ _,v,r=>by simp only[RH]at r
 |.dD _ _,v,r=>by simp only[RH]at r
theorem RHs.to(k:∀a o,h.get? a=some o->o.cls=.type "tuple"->(∃its n,o.data=.seq its n)->h'.get? a=some o):∀{ds:Z8 D}{vs:Z8 Z3},RHs h ds vs->RHs h' ds vs
 |[],vs,r=>by simp only[RHs]at r⊢;exact r
 |d::ds,vs,r=>by
  simp only[RHs]at r⊢;obtain⟨v,z,e,r1,r2⟩:=r;exact⟨v,z,e,RH.to k r1,RHs.to k r2⟩
end
def B3:∀(n:Nat)(d:D)(u:Z3)(A:Za)(s:ZP)(Q:Int->ZP->Prop)(E:Z3->ZP->Prop),bP n d=true->A.units+2*n+2<cLine->RH s.heap d u->
  Q (eN w d) {s with toks:=s.toks+eE d}->wpAny (model P w) A (pyHash u) Q E s:=by
 intro n
 induction n using Nat.strongRecOn with
 |ind n ih=>
 intro d u A s Q E hd hA rd hQ;cases d with
 |int i=>
  simp only[RH]at rd;obtain⟨t,rfl⟩:=rd;simp only[eN,eE]at hQ;exact wpAny_pyHash_int hQ
 |str i=>
  simp only[RH]at rd;obtain⟨t,rfl⟩:=rd;simp only[eN,eE]at hQ;exact wpAny_pyHash_str hQ
 |tup ds=>
  simp only[RH]at rd;obtain⟨a,its,rfl,⟨o,ho,hc,m,A_⟩,hr⟩:=rd;obtain⟨k,rfl,D_⟩:=du hd;have hT:s.TypeIs (.ref a) "tuple":=⟨o,ho,hc⟩;unfold pyHash;unfold pyHashByItsType;refine Z_ (wpAny_cRoomFor_or (.inr (by lia)) (Z_ (X6 hT WN.lookup ?_)))
  show wpAny _ _ (if(some (Value.builtin "tuple.__hash__")==some Value.none)=true then _ else _) Q E _
  rw[ZY (by rw[beq_builtin_none];exact Zn)]
  refine Z_ (X6 hT WN.lookup ?_)
  show wpAny _ _ (callSpecialIfBoundUnlessNone? (.ref a) "__hash__" _ >>= _) Q E _;refine Z_ (wpAny_callSpecialIfBoundUnlessNone?_slot hT WN (Y8 WN hT F.entry_tuple_hash ?_ (F.args_tuple_hash_1 _)))
  show wpAny _ _ (Builtin.Tuple.tupleItemsOf (.ref a) >>= _) _ _ _;refine Z_ (wpAny_tupleItemsOf ho A_ (Z_ ?_))
  rw[<-Array.forIn_toList];refine Xf _
   (λam (b:Array Int) s'=>∃done left,ds=done++left/\RHs s.heap left am/\b.toList=done.map (eN w)/\s'={s with toks:=s.toks+bT done})
   _ ?_ ?_ _ _ ⟨[],ds,rfl,by simpa using hr,rfl,rfl⟩
  .intro v am b s' hz;obtain⟨done,left,rfl,hl,hb,rfl⟩:=hz
   cases left with
   |nil=>simp only[RHs]at hl;trivial
   |cons d' Hg=>
    simp only[RHs]at hl;obtain⟨v',r',e',r1,r2⟩:=hl;cases e';have G0:bP k d'=true:=by
     rw[List.all_append,ZH,List.all_cons,ZH]at D_;exact D_.2.1
    refine Z_ (ih k (by lia) d' v _ _ _ _ G0 ?_ r1 ?_)
    .show A.units+1+2*k+2<cLine;lia
    .have et:({s with toks:=s.toks+bT done+eE d'}:ZP)={s with toks:=s.toks+bT (done++[d'])}:=by rw[fJ,Nat.add_assoc]
     first
      |exact Z4 ⟨done++[d'],Hg,by simp,r2,by simp[hb],et⟩
      |exact Z_ (Z4 (Z4 ⟨done++[d'],Hg,by simp,r2,by simp[hb],et⟩))
  .intro b s' hz;obtain⟨done,left,rfl,hl,hb,rfl⟩:=hz
   have LX:left=[]:=by
    have:=hl.length;cases left with
    |nil=>rfl
    |cons _ _=>simp at this
   subst LX;rw[Y_]at hQ;simp only[eN,gO,eE]at hQ;show wpAny _ _ (retInt (Builtin.Tuple.tupleHashOf b.toList)) _ _ _;rw[hb];refine wpAny_ret_mkInt ?_
   show wpAny _ _ (if(decide (-(2:Int) ^ 63<=Builtin.Tuple.tupleHashOf (done.map (eN w)))&&decide (Builtin.Tuple.tupleHashOf (done.map (eN w))<2 ^ 63))=true then _ else _) Q E _
   unfold reduceHash at hQ
   by_cases hr:(decide (-(2:Int) ^ 63<=Builtin.Tuple.tupleHashOf (done.map (eN w)))&&decide (Builtin.Tuple.tupleHashOf (done.map (eN w))<2 ^ 63))=true
   .rw[Z0 hr]
    rw[Z0 hr]at hQ;exact Z4 hQ
   .rw[ZY hr]
    rw[ZY hr]at hQ;exact Z_ (YV (Z4 hQ))
 |_=>simp[bP]at hd
def xI:∀(n:Nat)(d:D)(u:Z3)(A:Za)(s:ZP)(Q:Bool->ZP->Prop)(E:Z3->ZP->Prop),bP n d=true->RH s.heap d u->Q true s->wpAny (model P w) A (eqIsQuiet n u) Q E s:=by
 intro n
 induction n using Nat.strongRecOn with
 |ind n ih=>
 intro d u A s Q E hd rd hQ;cases d with
 |int i=>simp only[RH]at rd;obtain⟨t,rfl⟩:=rd;unfold eqIsQuiet;exact Z4 hQ
 |str i=>simp only[RH]at rd;obtain⟨t,rfl⟩:=rd;unfold eqIsQuiet;exact Z4 hQ
 |tup ds=>
  simp only[RH]at rd;obtain⟨a,its,rfl,⟨o,ho,hc,m,A_⟩,hr⟩:=rd;obtain⟨k,rfl,D_⟩:=du hd;have hT:s.TypeIs (.ref a) "tuple":=⟨o,ho,hc⟩;unfold eqIsQuiet;refine Z_ (X6 hT F.slot_tuple_eq.lookup ?_)
  dsimp only;refine Z_ (Yh hT isSubtype_tuple_tuple ?_)
  simp only[YT,ZJ,Zc];refine Z_ (Ys ho A_ (Z_ ?_))
  simp only[Option.getD_some];rw[<-Array.forIn_toList];refine Xf _ (λam b s'=>b.1=none/\s'=s/\∃left,left.all (bP k)=true/\RHs s.heap left am) _ ?_ ?_ _ _ ⟨rfl,rfl,ds,D_,by simpa using hr⟩
  .intro v am b s' hz;obtain⟨hb,rfl,left,GQ,hl⟩:=hz
   cases left with
   |nil=>simp only[RHs]at hl;trivial
   |cons d' Hg=>
    simp only[RHs]at hl;obtain⟨v',r',e',r1,r2⟩:=hl;cases e';rw[List.all_cons,ZH]at GQ;refine Z_ (ih k (by lia) d' v _ _ _ _ GQ.1 r1 ?_)
    simp only[YT,ZJ,Zc];exact Z4 ⟨rfl,rfl,Hg,GQ.2,r2⟩
  .rintro⟨b1,b2⟩ s' ⟨hb,rfl,_⟩
   simp only at hb;subst hb;exact Z4 hQ
 |_=>simp[bP]at hd
def A4:∀(ds es:Z8 D),ds.length=es.length->((List.range ds.length).all λj=>decide (ds[j]?=es[j]?))=decide (ds=es):=by
 intro ds es hl;rw[YG,ZO,Y9];constructor
 .intro h
  refine Xp λj=>?_
  by_cases hj:j<ds.length
  .exact Zf (h j (Yq.mpr hj))
  .rw[YR (by lia),YR (by lia)]
 .rintro rfl j _
  exact Zt rfl
def ze(ds es:Z8 D):(((List.range (min ds.length es.length)).all λj=>decide (ds[j]?=es[j]?))&&ds.length==es.length)=decide (ds=es):=by
 by_cases hl:ds.length=es.length
 .rw[hl,Nat.min_self,X2,Xl,<-hl,A4 ds es hl]
 .rw[show(ds.length==es.length)=false by simpa using hl,WE,ZC λz=>hl (by rw[z])]
open SeqAt in
def E6:∀(n:Nat)(d e:D)(u w:Z3)(A:Za),bP n d=true->bP n e=true->A.units+n+1<cLine->RH s.heap d u->RH s.heap e w->EqAt A s u w (decide (d=e)):=by
 intro n
 induction n using Nat.strongRecOn with
 |ind n ih=>
 intro d e u w A hd he hA rd re;have hu:A.units<cLine:=by lia
 cases d with
 |int i=>
  simp only[RH]at rd;obtain⟨t',rfl⟩:=rd;cases e with
  |int j=>
   simp only[RH]at re;obtain⟨t,rfl⟩:=re;rw[show decide (D.int i=D.int j)=(i==j) by rw[YG,Y9,Zx,D.int.injEq]]
   exact EqAt.int_int i t' j t
  |str j=>simp only[RH]at re;obtain⟨t,rfl⟩:=re;rw[ZC nofun];exact EqAt.int_str i t' j t
  |tup es=>simp only[RH]at re;obtain⟨b,its,rfl,ht,_⟩:=re;rw[ZC nofun];exact EqAt.int_tuple i t' ht hu
  |_=>simp[bP]at he
 |str i=>
  simp only[RH]at rd;obtain⟨t',rfl⟩:=rd;cases e with
  |int j=>simp only[RH]at re;obtain⟨t,rfl⟩:=re;rw[ZC nofun];exact EqAt.str_int i t' j t
  |str j=>
   simp only[RH]at re;obtain⟨t,rfl⟩:=re;rw[show decide (D.str i=D.str j)=(i==j) by rw[YG,Y9,Zx,D.str.injEq]]
   exact EqAt.str_str i t' j t
  |tup es=>simp only[RH]at re;obtain⟨b,its,rfl,ht,_⟩:=re;rw[ZC nofun];exact EqAt.str_tuple i t' ht hu
  |_=>simp[bP]at he
 |tup ds=>
  have QG:=rd;simp only[RH]at rd;obtain⟨a,its,rfl,B_,hr⟩:=rd;obtain⟨k,rfl,D_⟩:=du hd;cases e with
  |int j=>simp only[RH]at re;obtain⟨t,rfl⟩:=re;rw[ZC nofun];exact EqAt.tuple_int j t B_ hu
  |str j=>simp only[RH]at re;obtain⟨t,rfl⟩:=re;rw[ZC nofun];exact EqAt.tuple_str j t B_ hu
  |tup es=>
   have QF:=re;simp only[RH]at re;obtain⟨b,l_,rfl,z_,GZ⟩:=re;obtain⟨k',e',IT⟩:=du he;cases e';have l1:=hr.length;have l2:=GZ.length
   by_cases IE:a=b
   .subst IE
    rw[Zt (RH.inj QG QF)];exact EqAt.same _
   .have el:∀j (h1:j<its.toArray.size) (h2:j<l_.toArray.size),EqAt A.in1 s its.toArray[j] l_.toArray[j] (decide (ds[j]?=es[j]?)):=λj h1 h2=>by
     simp only[ZU]at h1 h2;obtain⟨d',G0⟩:∃d',ds[j]?=some d':=⟨ds[j]'(by lia),by simp⟩
     obtain⟨e',JI⟩:∃e',es[j]?=some e':=⟨es[j]'(by lia),by simp⟩
     obtain⟨u',HQ,MS⟩:=hr.get G0;obtain⟨w',K5,E_⟩:=GZ.get JI;have q:=ih k (Yr k) d' e' u' w' A.in1 ((ZO.mp D_) d' (Zg G0)) ((ZO.mp IT) e' (Zg JI)) (by show A.units+1+k+1<cLine;lia) MS E_
     have g1:its.toArray[j]=u':=by simpa using(ZV.mp HQ).2
     have g2:l_.toArray[j]=w':=by simpa using(ZV.mp K5).2
     rw[g1,g2,G0,JI,show decide (some d'=some e')=decide (d'=e') by simp]
     exact q
    have key:((List.range (min its.toArray.size l_.toArray.size)).all (λj=>decide (ds[j]?=es[j]?))&&its.toArray.size==l_.toArray.size)=decide (D.tup ds=D.tup es):=by
     rw[ZU,ZU,<-l1,<-l2,ze];simp only[D.tup.injEq]
    have rc:=RcAt.tuples B_ z_ hu el;rw[key]at rc;exact EqAt.of_refs IE rc
  |_=>simp[bP]at he
 |_=>simp[bP]at hd
noncomputable def br(P:Y1)(w:YO):HeapKind P w D where
 is h d a:=bP 8 d=true/\RH h d (.ref a)
 hash:=eN w
 draws:=eE
 room A:=A.units+30<cLine
 inj hx hy:=RH.inj hx.2 hy.2
 keeps:=λ{h h' k a d o es ep} hk ho hd hs=>⟨hk.1,hk.2.to λb u g _ ⟨its,n,q⟩=>((hs.2 b (λe=>by subst e;rw[ho]at g;obtain rfl:=Z7 g;rw[hd]at q;trivial)).trans g)⟩
 pyHash:=λ{A E s k a Q} hr hk h=>B3 8 k _ A s Q E hk.1 (by lia) hk.2 h
 eqBool:=λ{A E s x y a b Q} hr hx hy h=>E6 8 x y _ _ A hx.1 hy.1 (by lia) hx.2 hy.2 P w E Q h
 quiet:=λ{A E s k a Q} hk h=>xI 8 k _ A s Q E hk.1 hk.2 h
def ot:Key->Z3->Bool
 |.inl k,v=>Value.isInt k v
 |.inr x,v=>Value.isStrOf x v
def Fp(w:YO):Key->Int
 |.inl k=>hashInt k
 |.inr x=>hashStr w x
def aK:∀{k:Key}{v:Z3},ot k v=true->(∃i t,k=Sum.inl i/\v=Value.int i t)\/(∃x t,k=Sum.inr x/\v=Value.str x t)
 |.inl i,v,h=>by
  obtain⟨t,e⟩:=Value.isInt_shape (k:=i) (v:=v) h;exact .inl ⟨i,t,rfl,e⟩
 |.inr x,v,h=>by
  obtain⟨t,e⟩:=Value.isStrOf_shape (x:=x) (v:=v) h;exact .inr ⟨x,t,rfl,e⟩
def rB(i:Int)(t:Tok):ot (.inl i) (.int i t)=true:=by simp[ot,Value.isInt]
def qL(x:Str)(t:Tok):ot (.inr x) (.str x t)=true:=by simp[ot,Value.isStrOf]
def AV(a b:Int):decide ((Sum.inl a:Key)=Sum.inl b)=(a==b):=by
 by_cases e:a=b
 .subst e;simp
 .have h:¬(Sum.inl a:Key)=Sum.inl b:=λq=>e (Sum.inl.inj q)
  rw[ZC h];exact(beq_eq_false_iff_ne.mpr e).symm
def B5(a b:Str):decide ((Sum.inr a:Key)=Sum.inr b)=decide (a=b):=by
 by_cases e:a=b
 .subst e;simp
 .have h:¬(Sum.inr a:Key)=Sum.inr b:=λq=>e (Sum.inr.inj q)
  rw[ZC h,ZC e]
def B6(a:Int)(b:Str):decide ((Sum.inl a:Key)=Sum.inr b)=false:=ZC (λq=>nomatch q)
def Az(a:Str)(b:Int):decide ((Sum.inr a:Key)=Sum.inl b)=false:=ZC (λq=>nomatch q)
noncomputable def bA(prog:Y1)(w:YO):PySem.KeyKind prog w Key where
 is:=ot
 hash:=Fp w
 inj:=λv a b ha hb=>by
  rcases aK ha with⟨i,t,rfl,rfl⟩|⟨x,t,rfl,rfl⟩
  .rcases aK hb with⟨j,u,rfl,e⟩|⟨y,u,rfl,e⟩
   .injection e with e1 _;rw[e1]
   .exact nomatch e
  .rcases aK hb with⟨j,u,rfl,e⟩|⟨y,u,rfl,e⟩
   .exact nomatch e
   .injection e with e1 _;rw[e1]
 byValue:=λk v h=>by
  rcases aK h with⟨i,t,rfl,rfl⟩|⟨x,t,rfl,rfl⟩<;>rfl
 pyHash:=λhv h=>by
  rcases aK hv with⟨i,t,rfl,rfl⟩|⟨x,t,rfl,rfl⟩
  .exact wpAny_pyHash_int h
  .exact wpAny_pyHash_str h
 eqBool:=λhu hv h=>by
  rcases aK hu with⟨i,t,rfl,rfl⟩|⟨x,t,rfl,rfl⟩
  .rcases aK hv with⟨j,u,rfl,rfl⟩|⟨y,u,rfl,rfl⟩
   .rw[AV]at h;exact wpAny_eqBool_int h
   .rw[B6]at h;exact SeqAt.EqAt.int_str i t y u _ _ _ _ h
  .rcases aK hv with⟨j,u,rfl,rfl⟩|⟨y,u,rfl,rfl⟩
   .rw[Az]at h;exact SeqAt.EqAt.str_int x t j u _ _ _ _ h
   .rw[B5]at h;exact wpAny_eqBool_str h
 «strs»:=λk x t v h=>by
  rcases aK h with⟨i,u,rfl,e⟩|⟨y,u,rfl,e⟩
  .exact nomatch e
  .injection e with e1 _
   subst e1;cases v<;>rfl
def lN(prog:Y1)(w:YO)(i:Int)(t:Tok):(bA prog w).is (.inl i) (.int i t)=true:=rB i t
def lP(prog:Y1)(w:YO)(x:Str)(t:Tok):(bA prog w).is (.inr x) (.str x t)=true:=qL x t
inductive V where
 |non|bl (b:Bool)|int (i:Int)|str (x:Str)|byt (b:Array UInt8)|flt (b:UInt64)|ref (a:ZN)|ty (n:String)
 deriving DecidableEq
def RelV:V->Z3->Prop
 |.non,u=>u=Value.none
 |.bl b,u=>u=Value.bool b
 |.int i,u=>∃t,u=Value.int i t
 |.str x,u=>∃t,u=Value.str x t
 |.byt b,u=>∃t,u=Value.bytes b t
 |.flt b,u=>∃t,u=Value.float b t
 |.ref a,u=>u=Value.ref a
 |.ty n,u=>u=Value.type n
abbrev Vals:Z8 V->Z8 Z3->Prop:=Paired RelV
theorem Vals.length(r:Vals xs us):xs.length=us.length:=Yo r
theorem Vals.get:∀{xs:Z8 V}{us:Z8 Z3}{i:Nat}{x:V},Vals xs us->xs[i]?=some x->∃u,us[i]?=some u/\RelV x u
 |_,_,_,_,.nil,e=>by simp at e
 |_,_,0,_,.cons r _,e=>by simp at e;subst e;exact⟨_,rfl,r⟩
 |_,_,i+1,x,.cons _ t,e=>by
  obtain⟨u,h1,h2⟩:=Vals.get (i:=i) (x:=x) t (by simpa using e)
  exact⟨u,by simpa using h1,h2⟩
theorem Vals.append:∀{xs ys:Z8 V}{us ws:Z8 Z3},Vals xs us->Vals ys ws->Vals (xs++ys) (us++ws)
 |_,_,_,_,.nil,s=>s
 |_,_,_,_,.cons r t,s=>.cons r (Vals.append t s)
theorem Vals.take:∀{xs:Z8 V}{us:Z8 Z3}(n:Nat),Vals xs us->Vals (xs.take n) (us.take n)
 |_,_,0,_=>.nil
 |_,_,_+1,.nil=>.nil
 |_,_,n+1,.cons r t=>.cons r (Vals.take n t)
theorem Vals.drop:∀{xs:Z8 V}{us:Z8 Z3}(n:Nat),Vals xs us->Vals (xs.drop n) (us.drop n)
 |_,_,0,r=>r
 |_,_,_+1,.nil=>.nil
 |_,_,n+1,.cons _ t=>Vals.drop n t
def RelO:Z9 V->Z9 Z3->Prop
 |some v,some u=>RelV v u
 |none,none=>True
 |_,_=>False
def KV{κ:Type}:Z8 (κ×V)->Z8 (κ×Z3)->Prop:=Paired λ(p:κ×V) (q:κ×Z3)=>p.1=q.1/\RelV p.2 q.2
def kV:Key->V
 |.inl i=>.int i
 |.inr x=>.str x
inductive HO where
 |lst (xs:List V)
 |tup (xs:List V)
 |dK (b_:List (Key×V))|dD (b_:List (D×V)) (ep:Nat)
 |own (x:ZN)
 |rng (lo hi:Int)
 |frz (o:Obj) (u:HO)
 |tbl (lq:Str) (ps:Array Z3)
 |ext (φ:Heap->Prop)
abbrev Hp:=ZN->Z9 HO
def upd(H:Hp)(a:ZN)(o:HO):Hp:=λb=>if b=a then some o else H b
def ah:upd H a o a=some o:=by unfold upd;rw[Z0 rfl]
def ai(h:b≠a):upd H a o b=H b:=by unfold upd;rw[ZY h]
def B7{H:Hp}(h:H a=some o)(h':H b=some u)(d:o≠u):a≠b:=by
 intro e;subst e;rw[h]at h';exact d (Z7 h')
def ar{H:Hp}(h:H a=some o)(h':H b=none):a≠b:=by
 intro e;subst e;rw[h]at h';trivial
mutual
def KR(H:Hp):D->V->Prop
 |.int i,v=>v=.int i
 |.str x,v=>v=.str x
 |.tup ds,v=>∃a xs,v=.ref a/\H a=some (.tup xs)/\KRs H ds xs
 |_,_=>False
def KRs(H:Hp):Z8 D->Z8 V->Prop
 |[],xs=>xs=[]
 |d::ds,xs=>∃x r,xs=x::r/\KR H d x/\KRs H ds r
end
mutual
theorem KR.to(t:∀a xs,H a=some (.tup xs)->H' a=some (.tup xs)):∀{d:D}{v:V},KR H d v->KR H' d v
 |.int i,v,r=>by simp only[KR]at r⊢;exact r
 |.str i,v,r=>by simp only[KR]at r⊢;exact r
 |.tup ds,v,r=>by
  simp only[KR]at r⊢;obtain⟨a,xs,e,g,rs⟩:=r;exact⟨a,xs,e,t a xs g,KRs.to t rs⟩
 |.non,v,r=>by simp only[KR]at r
 |.bl _,v,r=>by simp only[KR]at r
 |.lst _,v,r=>by simp only[KR]at r
 |.dK _ _,v,r=>by simp only[KR]at r
 |.dD _ _,v,r=>by simp only[KR]at r
theorem KRs.to(t:∀a xs,H a=some (.tup xs)->H' a=some (.tup xs)):∀{ds:Z8 D}{xs:Z8 V},KRs H ds xs->KRs H' ds xs
 |[],xs,r=>by simp only[KRs]at r⊢;exact r
 |d::ds,xs,r=>by
  simp only[KRs]at r⊢;obtain⟨x,q,e,r1,r2⟩:=r;exact⟨x,q,e,KR.to t r1,KRs.to t r2⟩
end
def DPairs(H:Hp):Z8 (D×V)->Z8 (D×ZN×Z3)->Prop:=Paired λp q=>p.1=q.1/\bP 8 p.1=true/\KR H p.1 (.ref q.2.1)/\RelV p.2 q.2.2
section
variable(P:Y1)(w:YO)
def ObjOk(H:Hp)(h:Heap)(a:ZN):HO->Prop
 |.lst xs=>xs.length<=sizeLine/\∃(its:Z8 Z3)(n:Nat),Vals xs its/\h.get? a=some {cls:=.type "list",data:=.seq its.toArray n}
 |.tup xs=>xs.length<=sizeLine/\∃its:Z8 Z3,Vals xs its/\IsTup h a its.toArray
 |.dK b_=>b_.length<=sizeLine/\(a==sysModules)=false/\∃vs,KV b_ vs/\h.DictOf (bA P w) a vs
 |.dD b_ ep=>b_.length<=sizeLine/\(a==sysModules)=false/\∃xs,DPairs H b_ xs/\
   ∃o es,h.get? a=some o/\o.ExactDict/\o.data=.dict es ep/\es.toList=xs.map (entryOfKey (br P w))/\(xs.map (·.1)).Nodup
 |.own _=>∃o,h.get? a=some o
 |.rng lo hi=>∃t u v,h.get? a=some {cls:=.type "range",data:=.fields #[.int lo t,.int hi u,.int 1 v]}
 |.frz o u=>h.get? a=some o/\ObjOk H h a u
 |.tbl lq ps=>h.get? a=some {cls:=.none,data:=.fields ps}/\TriplesOk ps.toList/\∀pos cv,codeAmong pos ps.toList=some cv->
   ∃c' oc vs t,cv=.ref c'/\H c'=some (.own a)/\h.get? c'=some oc/\oc.data=.fields vs/\vs[1]?=some (.str lq t)
 |.ext φ=>φ h/\(∃o,h.get? a=some o)/\∀h1 h2:Heap,φ h1->(∀o,h1.get? a=some o->h2.get? a=some o)->φ h2
def HOk(H:Hp)(h:Heap):Prop:=∀a o,H a=some o->ObjOk P w H h a o
end
section
variable{H':Hp}{h':Heap}{a:ZN}{o:HO}
theorem ObjOk.lt(x:ObjOk P w H h a o):a<h.objs.size:=by
 cases o with
 |lst xs=>obtain⟨_,_,_,_,e⟩:=x;exact ZT e
 |tup xs=>obtain⟨_,_,_,p⟩:=x;exact p.lt
 |dK b_=>obtain⟨_,_,_,_,o,_,_,e,_⟩:=x;exact ZT e
 |dD b_ ep=>obtain⟨_,_,_,_,o,_,e,_⟩:=x;exact ZT e
 |own y=>obtain⟨_,e⟩:=x;exact ZT e
 |rng lo hi=>obtain⟨_,_,_,e⟩:=x;exact ZT e
 |frz ob u=>obtain⟨e,_⟩:=x;exact ZT e
 |tbl lq ps=>exact ZT x.1
 |ext φ=>obtain⟨_,⟨_,e⟩,_⟩:=x;exact ZT e
theorem Paired.mapP{α β:Type}{F G:α->β->Prop}:∀{LH:Z8 α}{LG:Z8 β},Paired F LH LG->(∀a b,F a b->G a b)->Paired G LH LG
 |_,_,.nil,_=>.nil
 |_,_,.cons r t,f=>.cons (f _ _ r) (Paired.mapP t f)
def ObjOk.stay(x:ObjOk P w H h a o)(k:∀b u,(b=a\/H b=some (.own a))->h.get? b=some u->h'.get? b=some u)(ho:∀b,H b=some (.own a)->H' b=some (.own a))(ht:∀b xs,H b=some (.tup xs)->H' b=some (.tup xs)):ObjOk P w H' h' a o:=by
 induction o with
 |lst xs=>obtain⟨z,its,n,r,e⟩:=x;exact⟨z,its,n,r,k _ _ (.inl rfl) e⟩
 |tup xs=>obtain⟨z,its,r,ob,e,c⟩:=x;exact⟨z,its,r,ob,k _ _ (.inl rfl) e,c⟩
 |dK b_=>obtain⟨z,y,vs,r,ob,es,ep,e,c⟩:=x;exact⟨z,y,vs,r,ob,es,ep,k _ _ (.inl rfl) e,c⟩
 |dD b_ ep=>
  obtain⟨z,y,xs,r,ob,es,e,c⟩:=x;exact⟨z,y,xs,Paired.mapP r λp q z=>⟨z.1,z.2.1,KR.to ht z.2.2.1,z.2.2.2⟩,ob,es,k _ _ (.inl rfl) e,c⟩
 |own y=>obtain⟨ob,e⟩:=x;exact⟨ob,k _ _ (.inl rfl) e⟩
 |rng lo hi=>obtain⟨t,u,v,e⟩:=x;exact⟨t,u,v,k _ _ (.inl rfl) e⟩
 |frz ob u ih=>obtain⟨e,q⟩:=x;exact⟨k _ _ (.inl rfl) e,ih q⟩
 |tbl lq ps=>
  obtain⟨e,tr,r⟩:=x;refine⟨k _ _ (.inl rfl) e,tr,λpos cv q=>?_⟩
  obtain⟨c',oc,vs,t,e1,e2,e3,e4⟩:=r pos cv q;exact⟨c',oc,vs,t,e1,ho _ e2,k _ _ (.inr e2) e3,e4⟩
 |ext φ=>obtain⟨p,⟨o,e⟩,st⟩:=x;exact⟨st _ _ p λo q=>k _ _ (.inl rfl) q,⟨o,k _ _ (.inl rfl) e⟩,st⟩
theorem HOk.lt(x:HOk P w H h)(e:H a=some o):a<h.objs.size:=(x a o e).lt
def HOk.fresh(x:HOk P w H h)(e:h.objs.size<=a):H a=none:=by
 cases q:H a with
 |none=>rfl
 |some u=>exact absurd (ZA (x.lt q) e) (Zd _)
def HOk.kept(x:HOk P w H h)(k:∀b u,h.get? b=some u->h'.get? b=some u):HOk P w H h':=λa o e=>
 (x a o e).stay (λb u _ q=>k b u q) (λ_ q=>q) λ_ _ q=>q
def HOk.laid(x:HOk P w H h)(k:∀b u,h.get? b=some u->h'.get? b=some u)(hp:h.objs.size<=a)(new:ObjOk P w (upd H a o) h' a o):HOk P w (upd H a o) h':=λb u e=>by
 have hn:=x.fresh hp
 by_cases hb:b=a
 .subst hb;rw[ah]at e;obtain rfl:=Z7 e;exact new
 .rw[ai hb]at e
  exact(x b u e).stay (λc v _ q=>k c v q) (λc q=>by rw[ai (ar q hn)];exact q) λc xs q=>by rw[ai (ar q hn)];exact q
end
def Rd(H:Hp)(a:ZN)(u:HO):Prop:=H a=some u\/∃o,H a=some (.frz o u)
def Rd.ok(r:Rd H a u)(x:HOk P w H h):ObjOk P w H h a u:=by
 rcases r with r|⟨o,r⟩
 .exact x a u r
 .obtain⟨_,q⟩:=x a _ r
  exact q
def Mut:Z9 HO->Prop
 |some (.lst _)=>True
 |some (.dK _)=>True
 |some (.dD _ _)=>True
 |some (.ext _)=>True
 |_=>False
section
variable{h':Heap}
def HOk.write(ok:HOk P w H h)(mu:Mut (H x))(he:e=x\/H e=some (.own x))(k:∀b u,b≠e->h.get? b=some u->h'.get? b=some u)(Jp:∃u,h'.get? e=some u)(new:ObjOk P w (upd H x o') h' x o'):HOk P w (upd H x o') h':=λb u q=>by
 have Hw:∀c y,H c=some (.own y)->c≠x:=λc y r z=>by subst z;rw[r]at mu;exact mu
 have JU:∀c xs,H c=some (.tup xs)->c≠x:=λc xs r z=>by subst z;rw[r]at mu;exact mu
 by_cases hb:b=x
 .subst hb;rw[ah]at q;obtain rfl:=Z7 q;exact new
 .rw[ai hb]at q
  by_cases JK:b=e
  .have q':H b=some (.own x):=by
    rcases he with z|z
    .exact absurd (JK.trans z) hb
    .rw[JK];exact z
   rw[q]at q';obtain rfl:=Z7 q';obtain⟨v,hv⟩:=Jp;exact⟨v,by rw[JK];exact hv⟩
  .refine(ok b u q).stay (λc v hc r=>k c v ?_ r) (λc r=>by rw[ai (Hw c b r)];exact r) λc xs r=>by rw[ai (JU c xs r)];exact r
   rcases hc with rfl|hc
   .exact JK
   .rintro rfl
    rcases he with z|z
    .exact Hw c b hc z
    .rw[hc]at z;cases z;exact hb rfl
end
structure Un (fs ex:List ZN)(H H':Hp)(h h':Heap):Prop where
 keep:∀b o,h.get? b=some o->H b=none->b∉fs->b∉ex->h'.get? b=some o
 slot:∀b o,h.get? b=some o->H b=none->b∈fs->b∉ex->∃sl,h'.get? b=some {o with slots:=sl}
 free:∀b o,h.get? b=some o->H b=none->b∉ex->H' b=none
 there:∀b o,h.get? b=some o->b∉ex->∃o',h'.get? b=some o'
 tups:∀b xs,H b=some (.tup xs)->H' b=some (.tup xs)
 frzs:∀b o u,H b=some (.frz o u)->H' b=some (.frz o u)
 tbls:∀b lq ps,H b=some (.tbl lq ps)->∃more,H' b=some (.tbl lq (ps++more))
section
variable{H:Hp}{h h':Heap}
def Un.any(u:Un fs ex H H1 h h1)(q:h.get? b=some ob)(n:H b=none)(hx:b∉ex):∃sl,h1.get? b=some {ob with slots:=sl}:=by
 by_cases hb:b∈fs
 .exact u.slot b ob q n hb hx
 .exact⟨ob.slots,u.keep b ob q n hb hx⟩
def Un.kept(k:∀b u,h.get? b=some u->h'.get? b=some u):Un fs ex H H h h':=
 ⟨λb ob q _ _ _=>k b ob q,λb ob q _ _ _=>⟨ob.slots,k b ob q⟩,λ_ _ _ n _=>n,λb ob q _=>⟨ob,k b ob q⟩,λ_ _ q=>q,λ_ _ _ q=>q,λ_ lq ps q=>⟨#[],by rw[q];simp⟩⟩
def Un.refl:Un fs ex H H h h:=Un.kept λ_ _ q=>q
def Un.laid(k:∀b u,h.get? b=some u->h'.get? b=some u)(hp:h.objs.size<=a)(hn:H a=none):Un fs ex H (upd H a o) h h' where
 keep:=λb u q _ _ _=>k b u q
 slot:=λb u q _ _ _=>⟨u.slots,k b u q⟩
 free:=λb u q n _=>by rw[ai (Zw (ZA (ZT q) hp))];exact n
 there:=λb u q _=>⟨u,k b u q⟩
 tups:=λb xs q=>by rw[ai (ar q hn)];exact q
 frzs:=λb u xs q=>by rw[ai (ar q hn)];exact q
 tbls:=λb lq ps q=>⟨#[],by rw[ai (ar q hn),q];simp⟩
def Un.write(mu:Mut (H x))(he:e=x\/H e=some (.own x))(k:∀b u,b≠e->h.get? b=some u->h'.get? b=some u)(Jp:∃u,h'.get? e=some u):Un fs ex H (upd H x o) h h':=by
 have hx:∀b,H b=none->b≠x:=λb n z=>by subst z;rw[n]at mu;exact mu
 have hb:∀b,H b=none->b≠e:=λb n z=>by
  subst z
  rcases he with r|r
  .exact hx b n r
  .rw[n]at r;trivial
 have hm:∀b u,H b=some u->¬Mut (some u)->b≠x:=λb u q nm z=>by subst z;rw[q]at mu;exact nm mu
 refine⟨λb u q n _ _=>k b u (hb b n) q,λb u q n _ _=>⟨u.slots,k b u (hb b n) q⟩,λb u q n _=>by rw[ai (hx b n)];exact n,λb u q _=>?_,
  λb xs q=>by rw[ai (hm b _ q λz=>z)];exact q,λb u xs q=>by rw[ai (hm b _ q λz=>z)];exact q,λb lq ps q=>⟨#[],by rw[ai (hm b _ q λz=>z),q];simp⟩⟩
 by_cases JK:b=e
 .subst JK;exact Jp
 .exact⟨u,k b u JK q⟩
end
def trk(h:Heap)(H:Hp):Z8 ZN:=(List.range h.objs.size).filter λa=>(H a).isSome
def uR(h:Heap)(H:Hp):Heap:=PySem.W.hideAll h (trk h H)
def rQ(h:Heap)(H:Hp):(uR h H).objs.size=h.objs.size:=PySem.W.hideAll_size _ _
def uE(e:h.get? b=some o)(n:H b=none):(uR h H).get? b=some o:=
 PySem.W.hideAll_get _ e λhm=>by
  have q:(H b).isSome=true:=(YI.mp hm).2;rw[n]at q;simp at q
def zI(e:(uR h H).get? b=some o):h.get? b=some o/\H b=none:=by
 have e':h.get? b=some o:=PySem.W.of_hideAll (trk h H) e;refine⟨e',?_⟩
 cases q:H b with
 |none=>rfl
 |some x=>
  have hm:b∈trk h H:=YI.mpr ⟨Yq.mpr (ZT e'),by simp[q]⟩
  have z:(uR h H).get? b=none:=PySem.W.hideAll_none (trk h H) hm;rw[z]at e;trivial
noncomputable def zf(g h:Heap)(L:ZN):Z8 (ZN×Obj):=(List.range h.objs.size).filterMap λa=>if a=L\/(g.get? a).isSome=true then none else(h.get? a).map λo=>(a,o)
def am(g h:Heap)(L d:ZN):Z8 (ZN×Obj):=(zf g h L).filter λp=>decide (p.1≠d)
section
structure Mod (K:Z6)(mg:Str->Z9 Z3)(base:Heap):Prop where
 kin:K.In base
 glob:base.Ns mainGlobals mg
 blt:∃mb,base.Ns builtinsNs mb/\∀x:Str,x≠"__name__"->mb x=bootBuiltins x
 nolimit:base.NoLimit
 bmain:∃bm ob,mg "__builtins__"=some (.ref bm)/\bm≠builtinsNs/\base.get? bm=some ob/\ob.cls=.type "module"/\ob.dict=some builtinsNs/\ob.data=.plain
structure Cx where
 prog:Y1
 w:YO
 K:Z6
 mg:Str->Z9 Z3
 base:Heap
 A:Za
 N:List Str
 o_:ZP
 HE:Hp
 env:Env
 outer:List Env
 stack:List Env
 ex:List ZN
 fn:Str->Bool
 calm:Bool
 pn:List (ZN×Obj)
 xe:Z3->ZP->Prop
def frs(l:Z8 Env):Z8 ZN:=l.filterMap (·.frame)
abbrev Cx.fs(X:Cx):Z8 ZN:=frs X.outer
def Vis(sc:Scope)(x:Str):Prop:=sc.names.lookup x=some .local\/sc.names.lookup x=some .cell\/sc.names.lookup x=some .free
def Loc(sc:Scope)(x:Str):Prop:=sc.names.lookup x=some .local\/sc.names.lookup x=some .cell
def EM(env:Env)(h:Heap)(m:Str->Z9 Z3)(x:Str)(u:Z3):Prop:=
 (env.kindOf x=some .local/\m x=some u)\/((env.kindOf x=some .cell\/env.kindOf x=some .free)/\∃c,env.cells.lookup x=some c/\h.IsCell c (some u))
variable[Lams]
def TabH(H:Hp):Prop:=∀q∈Lams.tb,∃ps,H q.1=some (.tbl q.2 ps)
def TabH.to(h:TabH H)(tb:∀b lq ps,H b=some (.tbl lq ps)->∃more,H' b=some (.tbl lq (ps++more))):TabH H':=λq hq=>by
 obtain⟨ps,e⟩:=h q hq;obtain⟨m,e'⟩:=tb _ _ _ e;exact⟨_,e'⟩
structure Cx.Ok (X:Cx):Prop where
 mod:Mod X.K X.mg X.base
 kind:X.env.scope.kind=.function
 glob:X.env.globals=mainGlobals
 blt:X.env.builtins=builtinsNs
 above:X.o_.heap.objs.size<=X.env.locals
 inj:∀x y c,X.env.cells.lookup x=some c->X.env.cells.lookup y=some c->x=y
 has:∀x,(X.env.kindOf x=some .cell\/X.env.kindOf x=some .free)->∃c,X.env.cells.lookup x=some c
 cab:∀x c,X.fn x=true->X.env.cells.lookup x=some c->X.o_.heap.objs.size<=c
 hd:X.calm=true->X.A.handled=none
 frames:X.A.frames=some X.stack
 stk:X.stack=X.outer\/(X.stack=X.env::X.outer/\X.env.frame=some X.env.locals)
 exf:∀b∈X.ex,b≠X.env.locals/\∀x c,X.env.cells.lookup x=some c->c≠b
 bs:∀b o,X.base.get? b=some o->X.o_.heap.get? b=some o/\X.HE b=none
 bsz:X.base.objs.size<=X.o_.heap.objs.size
 noex:∀b o,X.base.get? b=some o->b∉X.ex
 exfs:∀b∈X.ex,b∉X.fs
 funs:X.o_.heap.FunFrames X.base X.outer
 frf:∀b∈X.fs,X.HE b=none
 tabs:TabH X.HE
structure Inv (X:Cx)(a_:List (ZN×Obj))(σ:List (Z9 V))(H:Hp)(s:ZP):Prop where
 ok:X.Ok
 os:s.os=X.o_.os
 bare:AllBare s.gens
 base:Un X.fs X.ex X.HE H X.o_.heap s.heap
 loc:∃m,s.heap.Ns X.env.locals m/\∀(i:Nat)(x:Str)(v:V),X.N[i]?=some x->σ[i]?=some (some v)->Vis X.env.scope x->∃u,RelV v u/\EM X.env s.heap m x u
 cell:∀x c,X.env.cells.lookup x=some c->∃v,s.heap.IsCell c v
 free:H X.env.locals=none
 freeC:∀x c,X.env.cells.lookup x=some c->H c=none
 pin:∀p∈X.pn++a_,s.heap.get? p.1=some p.2/\H p.1=none/\p.1≠X.env.locals/\p.1∉X.fs/\∀v,p.2.data≠.cell v
 hok:HOk X.prog X.w H s.heap
 len:σ.length=X.N.length
section
variable{X:Cx}{H':Hp}{h':Heap}
def Cx.Ok.nofr(ok:X.Ok)(e:X.base.get? b=some o):b∉X.fs:=λhb=>by
 have:=(ok.funs.mem hb).1;rw[e]at this;trivial
theorem Inv.bs(I:Inv X a_ σ H s):∀b o,X.base.get? b=some o->s.heap.get? b=some o/\H b=none:=λb o e=>
 ⟨I.base.keep b o (I.ok.bs b o e).1 (I.ok.bs b o e).2 (I.ok.nofr e) (I.ok.noex b o e),I.base.free b o (I.ok.bs b o e).1 (I.ok.bs b o e).2 (I.ok.noex b o e)⟩
def Inv.bk(I:Inv X a_ σ H s):∀b o,X.base.get? b=some o->s.heap.get? b=some o:=λb o e=>(I.bs b o e).1
theorem Inv.mod(I:Inv X a_ σ H s):Mod X.K X.mg X.base:=I.ok.mod
def Inv.kIn(I:Inv X a_ σ H s):X.K.In s.heap:=I.ok.mod.kin.keeps I.bk
theorem Inv.lt(I:Inv X a_ σ H s):X.env.locals<s.heap.objs.size:=let ⟨_,hn,_⟩:=I.loc;hn.lt
def Inv.sz(I:Inv X a_ σ H s):X.o_.heap.objs.size<=s.heap.objs.size:=Zr I.ok.above (WW I.lt)
def Inv.nofs(I:Inv X a_ σ H s)(h:s.heap.objs.size<=a):a∉X.fs:=λhb=>by
 obtain⟨_,o,ho,_⟩:=I.ok.funs.mem hb;exact absurd (ZA (ZT ho) (Zr I.sz h)) (Zd _)
def Inv.cne(I:Inv X a_ σ H s):∀x c,X.env.cells.lookup x=some c->c≠X.env.locals:=λx c e z=>by
 obtain⟨v,o,ho,hd⟩:=I.cell x c e;obtain⟨m,⟨o',es,ep,JC,D_,_⟩,_⟩:=I.loc;rw[z,JC]at ho;obtain rfl:=Z7 ho;rw[D_]at hd;trivial
theorem Inv.funs(I:Inv X a_ σ H s):s.heap.FunFrames X.base X.outer:=by
 have all:∀(l:Z8 Env),(∀b∈frs l,b∈X.fs)->X.o_.heap.FunFrames X.base l->s.heap.FunFrames X.base l:=by
  intro l
  induction l with
  |nil=>intro _ _;trivial
  |cons env r ih=>
   intro hs hl;obtain⟨hk,⟨L,o,hf,hn,ho,hd⟩,hr⟩:=hl;have hL:L∈X.fs:=hs L (by unfold frs;rw[List.filterMap_cons,hf];exact ZX)
   obtain⟨sl,e⟩:=I.base.slot L o ho (I.ok.frf L hL) hL λz=>I.ok.exfs L z hL
   exact⟨hk,⟨L,_,hf,hn,e,hd⟩,ih (λb hb=>hs b (by unfold frs;rw[List.filterMap_cons,hf];exact Z2 _ hb)) hr⟩
 exact all X.outer (λ_ hb=>hb) I.ok.funs
theorem Inv.stack(I:Inv X a_ σ H s):s.heap.FunFrames X.base X.stack:=by
 rcases I.ok.stk with e|⟨e,hf⟩
 .rw[e];exact I.funs
 .rw[e]
  obtain⟨m,hn,_⟩:=I.loc;refine .cons (by rw[I.ok.kind];decide) hf hn ?_ I.funs
  exact Heap.get?_none_of_le (Zr I.ok.bsz I.ok.above)
def Inv.stkSub(I:Inv X a_ σ H s):∀b∈frs X.stack,b∈X.env.locals::X.fs:=λb hb=>by
 rcases I.ok.stk with e|⟨e,hf⟩
 .rw[e]at hb;exact Z2 _ hb
 .rw[e]at hb
  unfold frs at hb;rw[List.filterMap_cons,hf]at hb;exact hb
def Inv.stkFree(I:Inv X a_ σ H s):∀b∈frs X.stack,H b=none:=λb hb=>by
 rcases ZZ.mp (I.stkSub b hb)with e|hb
 .rw[e];exact I.free
 .obtain⟨_,o,ho,_⟩:=I.ok.funs.mem hb
  exact I.base.free b o ho (I.ok.frf b hb) λz=>I.ok.exfs b z hb
def Inv.step{g':Array GenState}{t':Nat}{d':Drawn}{ch:Z8 ZN}(I:Inv X a_ σ H s)
  (ID:∀b∈ch,(b∈X.ex\/X.o_.heap.objs.size<=b)/\b≠X.env.locals/\(∀x c,X.env.cells.lookup x=some c->c≠b)/\∀p∈X.pn++a_,p.1≠b)
  (keep:∀b o,b≠X.env.locals->b∉X.fs->b∉ch->s.heap.get? b=some o->H b=none->h'.get? b=some o)
  (slot:∀b o,b≠X.env.locals->b∈X.fs->b∉ch->s.heap.get? b=some o->H b=none->∃sl,h'.get? b=some {o with slots:=sl}) (free:∀b o,b∉ch->s.heap.get? b=some o->H b=none->H' b=none)
  (there:∀b o,b∉ch->s.heap.get? b=some o->∃o',h'.get? b=some o')
  (tups:∀b xs,H b=some (.tup xs)->H' b=some (.tup xs)) (frzs:∀b o u,H b=some (.frz o u)->H' b=some (.frz o u)) (tbls:∀b lq ps,H b=some (.tbl lq ps)->∃more,H' b=some (.tbl lq (ps++more)))
  (ns:∀m,s.heap.Ns X.env.locals m->h'.Ns X.env.locals m)(hok:HOk X.prog X.w H' h')(hg:AllBare g'):
  Inv X a_ σ H' {s with heap:=h',gens:=g',drawn:=d',toks:=t'}:=by
 have OM:∀b o,X.o_.heap.get? b=some o->b≠X.env.locals:=λb o e=>Zw (ZA (ZT e) I.ok.above)
 have Mp:∀b o,X.o_.heap.get? b=some o->b∉X.ex->b∉ch:=λb o e hx hb=>by
  rcases(ID b hb).1 with z|z
  .exact hx z
  .exact absurd (ZA (ZT e) z) (Zd _)
 have cellK:∀x c,X.env.cells.lookup x=some c->∀v,s.heap.IsCell c v->h'.IsCell c v:=λx c e v hz=>by
  obtain⟨o,ho,hd⟩:=hz;have K2:c∉ch:=λz=>(ID c z).2.2.1 x c e rfl
  by_cases hc:c∈X.fs
  .obtain⟨sl,q⟩:=slot c o (I.cne x c e) hc K2 ho (I.freeC x c e)
   exact⟨_,q,hd⟩
  .exact⟨o,keep c o (I.cne x c e) hc K2 ho (I.freeC x c e),hd⟩
 refine⟨I.ok,I.os,hg,⟨λb o e n hb hx=>?_,λb o e n hb hx=>?_,λb o e n hx=>?_,λb o e hx=>?_,λb xs e=>tups b xs (I.base.tups b xs e),λb o xs e=>frzs b o xs (I.base.frzs b o xs e),λb lq ps e=>?_⟩,?_,λx c e=>?_,?_,λx c e=>?_,λp hp=>?_,hok,I.len⟩
 .exact keep b o (OM b o e) hb (Mp b o e hx) (I.base.keep b o e n hb hx) (I.base.free b o e n hx)
 .obtain⟨sl,e1⟩:=I.base.slot b o e n hb hx
  obtain⟨Qz,e2⟩:=slot b _ (OM b o e) hb (Mp b o e hx) e1 (I.base.free b o e n hx);exact⟨Qz,e2⟩
 .obtain⟨o',e1⟩:=I.base.there b o e hx
  exact free b o' (Mp b o e hx) e1 (I.base.free b o e n hx)
 .obtain⟨o',e1⟩:=I.base.there b o e hx
  exact there b o' (Mp b o e hx) e1
 .obtain⟨m1,e1⟩:=I.base.tbls b lq ps e
  obtain⟨m2,e2⟩:=tbls b lq _ e1;exact⟨m1++m2,by rw[e2,Array.append_assoc]⟩
 .obtain⟨m,hn,hl⟩:=I.loc
  refine⟨m,ns m hn,λi x v e1 e2 e3=>?_⟩
  obtain⟨u,r,l⟩:=hl i x v e1 e2 e3;refine⟨u,r,?_⟩
  rcases l with l|⟨k,c,e,z⟩
  .exact .inl l
  .exact .inr ⟨k,c,e,cellK x c e _ z⟩
 .obtain⟨v,z⟩:=I.cell x c e
  exact⟨v,cellK x c e v z⟩
 .obtain⟨m,⟨o,_,_,ho,_⟩,_⟩:=I.loc
  exact free _ o (λz=>(ID _ z).2.1 rfl) ho I.free
 .obtain⟨v,o,ho,hd⟩:=I.cell x c e
  exact free c o (λz=>(ID c z).2.2.1 x c e rfl) ho (I.freeC x c e)
 .obtain⟨e,n,ne,nf,d⟩:=I.pin p hp
  have K2:p.1∉ch:=λz=>(ID p.1 z).2.2.2 p hp rfl
  exact⟨keep p.1 p.2 ne nf K2 e n,free p.1 p.2 K2 e n,ne,nf,d⟩
def Inv.un(I:Inv X a_ σ H s)(u:Un X.fs [] H H' s.heap h')(hok:HOk X.prog X.w H' h'):Inv X a_ σ H' {s with heap:=h',toks:=t'}:=by
 obtain⟨m,⟨o,es,ep,ho,r⟩,_⟩:=id I.loc;obtain⟨sl,hL⟩:=u.any ho I.free (by simp)
 exact I.step (g':=s.gens) (d':=s.drawn) (ch:=[]) (λ_ z=>nomatch z) (λb o _ hb _ e n=>u.keep b o e n hb (by simp)) (λb o _ hb _ e n=>u.slot b o e n hb (by simp)) (λb o _ e n=>u.free b o e n (by simp)) (λb o _ e=>u.there b o e (by simp)) u.tups u.frzs u.tbls (λm' hm=>by
  obtain⟨o',NN,FX,JC,r'⟩:=hm;rw[ho]at JC;obtain rfl:=Z7 JC;exact⟨_,NN,FX,hL,r'⟩) hok I.bare
def Inv.call(I:Inv X a_ σ H s)(u:Un (frs X.stack) ch H H' s.heap h')(hok:HOk X.prog X.w H' h')(hg:AllBare g')(ID:∀b∈ch,(b∈X.ex\/X.o_.heap.objs.size<=b)/\b≠X.env.locals/\(∀x c,X.env.cells.lookup x=some c->c≠b)/\∀p∈X.pn++a_,p.1≠b):
  Inv X a_ σ H' {s with heap:=h',gens:=g',drawn:=d',toks:=t'}:=by
 obtain⟨m,⟨o,es,ep,ho,r⟩,_⟩:=id I.loc;obtain⟨sl,hL⟩:=u.any ho I.free λz=>(ID _ z).2.1 rfl
 exact I.step (ch:=ch) ID (λb o hL hb hc e n=>u.keep b o e n (λz=>(ZZ.mp (I.stkSub b z)).elim hL hb) hc) (λb o _ _ hc e n=>u.any e n hc) (λb o hc e n=>u.free b o e n hc) (λb o hc e=>u.there b o e hc) u.tups u.frzs u.tbls (λm' hm=>by
  obtain⟨o',NN,FX,JC,r'⟩:=hm;rw[ho]at JC;obtain rfl:=Z7 JC;exact⟨_,NN,FX,hL,r'⟩) hok hg
def Inv.turned{t':Nat}{it:ZN}(I:Inv X a_ σ H s)(k:∀b o,b≠it->s.heap.get? b=some o->h'.get? b=some o)(hn:H it=none)(hL:it≠X.env.locals)
  (h1:it∈X.ex\/X.o_.heap.objs.size<=it)(h2:∀x c,X.env.cells.lookup x=some c->c≠it)(h3:∀p∈X.pn++a_,p.1≠it):Inv X a_ σ H {s with heap:=h',toks:=t'}:=by
 have OL:∀b u,H b=some u->b≠it:=λb u e z=>by rw[z,hn]at e;trivial
 refine I.step (g':=s.gens) (d':=s.drawn) (ch:=[it]) (λb hb=>?_) (λb o _ _ hc e _=>k b o (λz=>hc (by simp[z])) e) (λb o _ _ hc e _=>⟨o.slots,k b o (λz=>hc (by simp[z])) e⟩) (λ_ _ _ _ n=>n)
  (λb o hc e=>⟨o,k b o (λz=>hc (by simp[z])) e⟩) (λ_ _ e=>e) (λ_ _ _ e=>e) (λb lq ps e=>⟨#[],by rw[e];simp⟩) (λm hm=>?_) (λb u e=>?_) I.bare
 .have e:b=it:=by simpa using hb
  subst e;exact⟨h1,hL,h2,h3⟩
 .obtain⟨o,es,ep,ho,r⟩:=hm
  exact⟨o,es,ep,k _ o (ZD hL) ho,r⟩
 .refine(I.hok b u e).stay (λc v hc q=>k c v ?_ q) (λ_ q=>q) λ_ _ q=>q
  rcases hc with z|z
  .rw[z];exact OL b u e
  .exact OL c _ z
def Inv.tok(I:Inv X a_ σ H s)(t:Nat):Inv X a_ σ H {s with toks:=t}:=I.un (h':=s.heap) (t':=t) Un.refl I.hok
theorem Inv.kept(I:Inv X a_ σ H s)(k:∀b u,s.heap.get? b=some u->h'.get? b=some u):Inv X a_ σ H {s with heap:=h',toks:=t'}:=I.un (Un.kept k) (I.hok.kept k)
theorem Inv.laid(I:Inv X a_ σ H s)(k:∀b u,s.heap.get? b=some u->h'.get? b=some u)(hp:s.heap.objs.size<=a)(new:ObjOk X.prog X.w (upd H a o) h' a o):
  Inv X a_ σ (upd H a o) {s with heap:=h',toks:=t'}:=I.un (Un.laid k hp (I.hok.fresh hp)) (I.hok.laid k hp new)
theorem Inv.write(I:Inv X a_ σ H s)(mu:Mut (H x))(he:e=x\/H e=some (.own x))(k:∀b u,b≠e->s.heap.get? b=some u->h'.get? b=some u)(Jp:∃u,h'.get? e=some u)(new:ObjOk X.prog X.w (upd H x o) h' x o):Inv X a_ σ (upd H x o) {s with heap:=h',toks:=t'}:=I.un (Un.write mu he k Jp) (I.hok.write mu he k Jp new)
def Inv.pins_of(I:Inv X a_ σ H s)(h:∀p∈Gc,s.heap.get? p.1=some p.2/\H p.1=none/\p.1≠X.env.locals/\p.1∉X.fs/\∀v,p.2.data≠.cell v):Inv X Gc σ H s:=
 ⟨I.ok,I.os,I.bare,I.base,I.loc,I.cell,I.free,I.freeC,λp hp=>(Zv.mp hp).elim (λz=>I.pin p (YZ _ z)) (h p),I.hok,I.len⟩
def m8{N:Z8 Str}(hN:N.Nodup){i j:Nat}{x:Str}(a:N[i]?=some x)(b:N[j]?=some x):i=j:=by
 obtain⟨h1,e1⟩:=ZV.mp a
 obtain⟨h2,e2⟩:=ZV.mp b
 exact(List.getElem_inj hN).mp (e1.trans e2.symm)
def j7(I:Inv X a_ σ H s)(hN:X.N.Nodup)(hi:X.N[i]?=some x)(hx:Loc X.env.scope x)(r:RelV v u)(h:∀s',Inv X a_ (σ.set i (some v)) H s'->(∃a,Heap.SameBut a s.heap s'.heap/\(a=X.env.locals\/X.env.cells.lookup x=some a))->Q () s')(hf:X.fn x=true\/X.env.scope.names.lookup x=some .local:=by first|exact .inl rfl|exact .inr rfl|assumption):wpAny M A (storeName X.env x u) Q E s:=by
 obtain⟨m,hn,hl⟩:=id I.loc;have Of:(X.env.scope.kind==.class||(X.env.scope.kind==.module&&X.env.locals != X.env.globals))=false:=by rw[I.ok.kind];rfl
 have LP:i<σ.length:=by rw[I.len];exact(ZV.mp hi).1
 have cne:=I.cne;have tracked:∀{a:ZN}{h':Heap},(∃o,s.heap.get? a=some o/\H a=none)->Heap.SameBut a s.heap h'->HOk X.prog X.w H h':=λ{a h'} ha hs b ob e=>by
  obtain⟨_,_,Jr⟩:=ha;refine(I.hok b ob e).stay (λc w' hc q=>(hs.2 c ?_).trans q) (λ_ q=>q) λ_ _ q=>q
  rintro rfl
  rcases hc with rfl|hc
  .rw[Jr]at e;trivial
  .rw[Jr]at hc;trivial
 rcases hx with hk|hk
 .refine wpAny_storeName_local hk hn (λh' HJ hs=>?_) Of
  obtain⟨oL,_,_,JB,_⟩:=id hn;refine h _ ⟨I.ok,I.os,I.bare,⟨λb o e n hb hx=>?_,λb o e n hb hx=>?_,I.base.free,λb o e hx=>?_,I.base.tups,I.base.frzs,I.base.tbls⟩,⟨_,HJ,λj y v' e1 e2 e3=>?_⟩,λy c e=>?_,I.free,I.freeC,λp hp=>?_,tracked ⟨oL,JB,I.free⟩ hs,by simpa using I.len⟩ ⟨_,hs,.inl rfl⟩
  .exact(hs.2 b (Zw (ZA (ZT e) I.ok.above))).trans (I.base.keep b o e n hb hx)
  .obtain⟨sl,e1⟩:=I.base.slot b o e n hb hx
   exact⟨sl,(hs.2 b (Zw (ZA (ZT e) I.ok.above))).trans e1⟩
  .obtain⟨o',e1⟩:=I.base.there b o e hx
   exact⟨o',(hs.2 b (Zw (ZA (ZT e) I.ok.above))).trans e1⟩
  .by_cases hj:j=i
   .subst hj
    rw[hi]at e1;obtain rfl:=Z7 e1;rw[ZR LP]at e2
    cases e2;exact⟨u,r,.inl ⟨hk,by simp⟩⟩
   .rw[ZW (ZD hj)]at e2
    obtain⟨u',r',q⟩:=hl j y v' e1 e2 e3;refine⟨u',r',?_⟩
    rcases q with⟨k,e⟩|⟨k,c,e,z⟩
    .refine .inl ⟨k,?_⟩
     have:y≠x:=λe=>hj (m8 hN e1 (e▸hi))
     simp[this,e]
    .exact .inr ⟨k,c,e,z.sameBut hs (cne y c e)⟩
  .obtain⟨w',z⟩:=I.cell y c e
   exact⟨w',z.sameBut hs (cne y c e)⟩
  .obtain⟨e,n,ne,nf,d⟩:=I.pin p hp
   exact⟨(hs.2 p.1 ne).trans e,n,ne,nf,d⟩
 .have Nx:X.fn x=true:=by
   rcases hf with z|z
   .exact z
   .rw[z]at hk;trivial
  obtain⟨c,hc⟩:=I.ok.has x (.inl hk);obtain⟨w',z⟩:=I.cell x c hc;refine wpAny_storeName_cell I.ok.kind hk hc z (λh' Li hs=>?_)
  obtain⟨oc,La,N_⟩:=id z;refine h {s with heap:=h'} ⟨I.ok,I.os,I.bare,⟨λb o e n hb hx=>?_,λb o e n hb hx=>?_,I.base.free,λb o e hx=>?_,I.base.tups,I.base.frzs,I.base.tbls⟩,⟨m,hn.sameBut hs (ZD (cne x c hc)),λj y v' e1 e2 e3=>?_⟩,λy c' e=>?_,I.free,I.freeC,λp hp=>?_,tracked ⟨oc,La,I.freeC x c hc⟩ hs,by simpa using I.len⟩ ⟨c,hs,.inr hc⟩
  .exact(hs.2 b (Zw (ZA (ZT e) (I.ok.cab x c Nx hc)))).trans (I.base.keep b o e n hb hx)
  .obtain⟨sl,e1⟩:=I.base.slot b o e n hb hx
   exact⟨sl,(hs.2 b (Zw (ZA (ZT e) (I.ok.cab x c Nx hc)))).trans e1⟩
  .obtain⟨o',e1⟩:=I.base.there b o e hx
   exact⟨o',(hs.2 b (Zw (ZA (ZT e) (I.ok.cab x c Nx hc)))).trans e1⟩
  .by_cases hj:j=i
   .subst hj
    rw[hi]at e1;obtain rfl:=Z7 e1;rw[ZR LP]at e2
    cases e2;exact⟨u,r,.inr ⟨.inl hk,c,hc,Li⟩⟩
   .rw[ZW (ZD hj)]at e2
    obtain⟨u',r',q⟩:=hl j y v' e1 e2 e3;refine⟨u',r',?_⟩
    rcases q with q|⟨k,c',e,z'⟩
    .exact .inl q
    .refine .inr ⟨k,c',e,z'.sameBut hs ?_⟩
     rintro rfl
     exact hj (m8 hN e1 (I.ok.inj _ _ _ e hc▸hi))
  .by_cases Pu:c'=c
   .subst Pu;exact⟨_,Li⟩
   .obtain⟨w2,z2⟩:=I.cell y c' e
    exact⟨w2,z2.sameBut hs Pu⟩
  .obtain⟨e,n,ne,nf,d⟩:=I.pin p hp
   refine⟨(hs.2 p.1 ?_).trans e,n,ne,nf,d⟩
   intro q;rw[q,La]at e;have q':oc=p.2:=Z7 e;exact d w' (by rw[<-q'];exact N_)
def nu{M:Model}{A:Za}{E:Z3->ZP->Prop}{Q:Unit->ZP->Prop}(I:Inv X a_ σ H s)(hN:X.N.Nodup)(hi:X.N[i]?=some x)(hx:Loc X.env.scope x)(r:RelV v u)(h:∀s',Inv X a_ (σ.set i (some v)) H s'->Q () s')(hf:X.fn x=true\/X.env.scope.names.lookup x=some .local:=by first|exact .inl rfl|exact .inr rfl|assumption):wpAny M A (storeName X.env x u) Q E s:=
 j7 I hN hi hx r (λs' I' _=>h s' I') hf
def Inv.call'(I:Inv X a_ σ H s)(ho:s'.os=s.os)(u:Un (frs X.stack) ch H H' s.heap s'.heap)(hok:HOk X.prog X.w H' s'.heap)(hg:AllBare s'.gens)(ID:∀b∈ch,(b∈X.ex\/X.o_.heap.objs.size<=b)/\b≠X.env.locals/\(∀x c,X.env.cells.lookup x=some c->c≠b)/\∀p∈X.pn++a_,p.1≠b):Inv X a_ σ H' s':=by
 obtain⟨h',g',d',t',o'⟩:=s';have e:o'=s.os:=ho;subst e;exact I.call (g':=g') (t':=t') (d':=d') u hok hg ID
end
abbrev XK:=Z3->Z9 ZN->Hp->Prop
abbrev St:=Z8 (Z9 V)
abbrev VK:=V->Hp->Prop
abbrev TE:=St->Hp->VK->Prop
abbrev TT:=St->Hp->(Bool->Hp->Prop)->Prop
abbrev TA:=St->Hp->(Z8 V->Hp->Prop)->Prop
structure Ends where
 nx:St->Hp->Prop
 rt:VK
 bk:St->Hp->Prop:=λ_ _=>False
 ct:St->Hp->Prop:=λ_ _=>False
abbrev TS:=Ends->St->Hp->Prop
def EP(X:Cx)(a_:Z8 (ZN×Obj))(σ:St)(Q:VK)(u:Z3)(s':ZP):Prop:=∃v H',Inv X a_ σ H' s'/\RelV v u/\Q v H'
def TP(X:Cx)(a_:Z8 (ZN×Obj))(σ:St)(Q:Bool->Hp->Prop)(b:Bool)(s':ZP):Prop:=∃H',Inv X a_ σ H' s'/\Q b H'
def AP(X:Cx)(a_:Z8 (ZN×Obj))(σ:St)(Q:Z8 V->Hp->Prop)(us:Z8 Z3)(s':ZP):Prop:=∃vs H',Inv X a_ σ H' s'/\Vals vs us/\Q vs H'
def SP(X:Cx)(a_:Z8 (ZN×Obj))(D:Ends)(f:Flow)(s':ZP):Prop:=
 match f with
 |.next=>∃j_ H',Inv X a_ j_ H' s'/\D.nx j_ H'
 |.brk=>∃j_ H',Inv X a_ j_ H' s'/\D.bk j_ H'
 |.cont=>∃j_ H',Inv X a_ j_ H' s'/\D.ct j_ H'
 |.ret u=>∃v j_ H',Inv X a_ j_ H' s'/\RelV v u/\D.rt v H'
def PE(X:Cx)(e:Expr)(t:TE):Prop:=
 ∀(a_:Z8 (ZN×Obj))(s:ZP)(σ:St)(H:Hp)(Q:VK),Inv X a_ σ H s->t σ H Q->wpAny (model X.prog X.w) X.A (eval e X.env) (EP X a_ σ Q) X.xe s
def PT(X:Cx)(e:Expr)(t:TT):Prop:=
 ∀(a_:Z8 (ZN×Obj))(s:ZP)(σ:St)(H:Hp)(Q:Bool->Hp->Prop),Inv X a_ σ H s->t σ H Q->wpAny (model X.prog X.w) X.A (isTrue e X.env (eval e X.env)) (TP X a_ σ Q) X.xe s
def PW(X:Cx)(e:Expr)(t:TT):Prop:=
 ∀(whole:Sem Z3)(a_:Z8 (ZN×Obj))(s:ZP)(σ:St)(H:Hp)(Q:Bool->Hp->Prop),Inv X a_ σ H s->t σ H Q->wpAny (model X.prog X.w) X.A (isTrue e X.env whole) (TP X a_ σ Q) X.xe s
def PW.pt(h:PW X e t):PT X e t:=h _
def PA(X:Cx)(es:Z8 Expr)(t:TA):Prop:=
 ∀(pos:Pos)(a_:Z8 (ZN×Obj))(s:ZP)(σ:St)(H:Hp)(Q:Z8 V->Hp->Prop),Inv X a_ σ H s->t σ H Q->wpAny (model X.prog X.w) X.A (spliced (backTo pos (starEach es X.env))) (AP X a_ σ Q) X.xe s
def PS(X:Cx)(st:Stmt)(t:TS):Prop:=
 ∀(a_:Z8 (ZN×Obj))(s:ZP)(σ:St)(H:Hp)(D:Ends),Inv X a_ σ H s->t D σ H->wpAny (model X.prog X.w) X.A (exec st X.env) (SP X a_ D) X.xe s
def PSs(X:Cx)(st:Z8 Stmt)(t:TS):Prop:=
 ∀(a_:Z8 (ZN×Obj))(s:ZP)(σ:St)(H:Hp)(D:Ends),Inv X a_ σ H s->t D σ H->wpAny (model X.prog X.w) X.A (execs st X.env) (SP X a_ D) X.xe s
def thn{α:Type}{t:Sem α}{Q Q':α->ZP->Prop}{M:Model}{A:Za}{E:Z3->ZP->Prop}{s:ZP}(h:wpAny M A t Q E s)(hQ:∀a s,Q a s->Q' a s):wpAny M A t Q' E s:=YU h hQ λ_ _ x=>x
end
end L2
namespace L2
open PySem PySem.Spec PyProof.Rows
variable[Lams]
section
variable{X:Cx}
def tX(i:Nat):TE:=λσ H Q=>∃v,σ[i]?=some (some v)/\Q v H
def tC(v:V):TE:=λ_ H Q=>Q v H
def aT(hN:X.N[i]?=some x)(hv:Vis X.env.scope x)(hd:(x==("__debug__":Str))=false:=by decide)(Gi:(x==("__classdict__":Str))=false:=by decide):PE X (.Name x pos) (tX i):=by
 intro a_ s σ H Q I h;obtain⟨v,e,h⟩:=h;obtain⟨m,hn,hl⟩:=I.loc;obtain⟨u,r,l⟩:=hl i x v hN e hv;have fin:EP X a_ σ Q u s:=⟨v,H,I,r,h⟩
 rcases l with⟨hk,hm⟩|⟨hk,c,hc,Jt⟩
 .exact wpAny_Name (wpAny_loadName_local I.ok.kind hk hn hm fin) hd
 .rcases hk with hk|hk
  .exact wpAny_Name (wpAny_loadName_cell I.ok.kind hk hc Jt fin) hd
  .exact wpAny_Name (wpAny_loadName_free I.ok.kind hk hc Jt fin Gi) hd
def sZ{i j pos}:PE X (.Constant (.int i) j pos) (tC (.int i)):=λ_ _ _ H _ I h=>wpAny_Constant_int ⟨.int i,H,I.tok _,⟨_,rfl⟩,h⟩
def Bw{b j pos}:PE X (.Constant (.bool b) j pos) (tC (.bl b)):=λ_ _ _ H _ I h=>Constant_bool ⟨.bl b,H,I,rfl,h⟩
def qM{j pos}:PE X (.Constant .none j pos) (tC .non):=λ_ _ _ H _ I h=>Constant_none ⟨.non,H,I,rfl,h⟩
def BE{x j pos}:PE X (.Constant (.str x) j pos) (tC (.str x)):=λ_ _ _ H _ I h=>Calls.Constant_str ⟨.str x,H,I.tok _,⟨_,rfl⟩,h⟩
def Gl(X:Cx)(x:Str):Prop:=X.env.kindOf x=some .globalImplicit
def xM(I:Inv X a_ σ H s)(hg:Gl X x)(hm:X.mg x=some u)(h:Q u s)(hd:(x==("__debug__":Str))=false:=by decide):wpAny (model X.prog X.w) X.A (eval (.Name x pos) X.env) Q E s:=
 Calls.Name_function_global I.ok.kind hg (Calls.loadGlobal_global (by rw[I.ok.glob];exact I.mod.glob.keeps I.bk) hm h) hd
def dG{E:Z3->ZP->Prop}{pos:Pos}{Q:Z3->ZP->Prop}(I:Inv X a_ σ H s)(hg:Gl X x)(hm:X.mg x=none)(hv:bootBuiltins x=some u)(h:Q u s)(hn:x≠"__name__":=by decide)(hd:(x==("__debug__":Str))=false:=by decide):wpAny (model X.prog X.w) X.A (eval (.Name x pos) X.env) Q E s:=by
 obtain⟨mb,h1,h2⟩:=I.mod.blt;exact Calls.Name_function_global I.ok.kind hg (Calls.loadGlobal_builtin (by rw[I.ok.glob];exact I.mod.glob.keeps I.bk) hm (by rw[I.ok.blt];exact h1.keeps I.bk) ((h2 x hn).trans hv) h) hd
def zD(hg:Gl X x)(hm:X.mg x=none)(hv:bootBuiltins x=some u)(r:RelV v u)(hn:x≠"__name__":=by decide)(hd:(x==("__debug__":Str))=false:=by decide):PE X (.Name x pos) (tC v):=
 λ_ _ _ H _ I h=>dG I hg hm hv ⟨v,H,I,r,h⟩ hn hd
variable{a b:Expr}{ta tb:TE}{pos:Pos}
def PC(X:Cx)(op:CmpOp)(a b:Expr)(t:TE):Prop:=
 ∀(a_:Z8 (ZN×Obj))(s:ZP)(σ:St)(H:Hp)(Q:VK),Inv X a_ σ H s->t σ H Q->
  wpAny (model X.prog X.w) X.A (eval a X.env) (λv g_=>wpAny (model X.prog X.w) X.A (eval b X.env) (λu d_=>wpAny (model X.prog X.w) X.A (compareOp op v u) (EP X a_ σ Q) X.xe d_) X.xe g_) X.xe s
def vT(b:Expr)(h:op≠.In)(h2:op≠.NotIn):behindInMarks op b=false:=by
 have e1:(op==CmpOp.In)=false:=by cases op<;>first|rfl|exact absurd rfl h
 have e2:(op==CmpOp.NotIn)=false:=by cases op<;>first|rfl|exact absurd rfl h2
 cases b<;>simp[behindInMarks,e1,e2]
def tB(t:TE):TT:=λσ H Q=>t σ H λx H1=>∃c,x=.bl c/\Q c H1
def Ey{op:CmpOp}{t:TE}(h:PC X op a b t)(h1:behindInMarks op b=false:=by first|exact vT _ (by decide) (by decide)|rfl):PT X (.Compare a [op] [b] pos) (tB t):=by
 intro a_ s σ H Q I hw;refine wpAny_isTrue_Compare1 (thn (h a_ s σ H _ I hw) λv s1 h1=>thn h1 λu s2 h2=>thn h2 λc s3 ⟨x,H1,I1,r1,q1⟩=>?_) h1
 obtain⟨d,rfl,q⟩:=q1;cases r1;exact X4 ⟨H1,I1,q⟩
def Bc{e:Expr}{t:TE}(h:PE X e t)(he:∀whole,isTrue e X.env whole=(do let v <-whole;standAt e.pos;holding [v] (truthy v)):=by intro _;rfl):PT X e (tB t):=by
 intro a_ s σ H Q I hw;refine isTrue_plain (thn (h a_ s σ H _ I hw) λv s1 ⟨x,H1,I1,r1,q1⟩=>?_) (he _)
 obtain⟨d,rfl,q⟩:=q1;cases r1;exact X4 ⟨H1,I1,q⟩
variable{tA Ma:TT}{am:Z8 Expr}
def EZ(t u:TT):TT:=λσ H Q=>t σ H λc H1=>if c=true then u σ H1 Q else Q false H1
def tOr(t u:TT):TT:=λσ H Q=>t σ H λc H1=>if c=true then Q true H1 else u σ H1 Q
def Fw(t:TT):TT:=λσ H Q=>t σ H λc H1=>Q (!c) H1
def zK(ha:PT X a tA):PW X (.BoolOp .And [a] pos) tA:=by
 intro wh a_ s σ H Q I h;refine isTrue_and (thn (ha a_ s σ H Q I h) λc s1 e=>?_)
 cases c with
 |true=>exact isTrue_and_nil e
 |false=>exact e
def AU(ha:PT X a tA):PW X (.BoolOp .Or [a] pos) tA:=by
 intro wh a_ s σ H Q I h;refine isTrue_or (thn (ha a_ s σ H Q I h) λc s1 e=>?_)
 cases c with
 |false=>exact isTrue_or_nil e
 |true=>exact e
def AJ(ha:PT X a tA)(hb:PW X (.BoolOp .And (b::am) pos) Ma):PW X (.BoolOp .And (a::b::am) pos) (EZ tA Ma):=by
 intro wh a_ s σ H Q I h;refine isTrue_and (thn (ha a_ s σ H _ I h) λc s1 hz=>?_)
 obtain⟨H1,I1,q1⟩:=hz;cases c with
 |true=>exact hb wh a_ s1 σ H1 Q I1 q1
 |false=>exact⟨H1,I1,q1⟩
def CD(ha:PT X a tA)(hb:PW X (.BoolOp .Or (b::am) pos) Ma):PW X (.BoolOp .Or (a::b::am) pos) (tOr tA Ma):=by
 intro wh a_ s σ H Q I h;refine isTrue_or (thn (ha a_ s σ H _ I h) λc s1 hz=>?_)
 obtain⟨H1,I1,q1⟩:=hz;cases c with
 |true=>exact⟨H1,I1,q1⟩
 |false=>exact hb wh a_ s1 σ H1 Q I1 q1
def Am(ha:PT X a tA):PT X (.UnaryOp .Not a pos) (Fw tA):=by
 intro a_ s σ H Q I h;exact isTrue_not (ha a_ s σ H (λc H1=>Q (!c) H1) I h)
def Cn(ta tb:TE):TE:=λσ H Q=>ta σ H λx H1=>∃c,x=.bl c/\if c=true then tb σ H1 Q else Q (.bl false) H1
def BS{op}(h:PE X a t):PE X (.BoolOp op [a] pos) t:=λa_ s σ H Q I hw=>BoolOp_one (h a_ s σ H Q I hw)
def AG(ha:PE X a ta)(hb:PE X (.BoolOp .And (b::am) pos) tb):PE X (.BoolOp .And (a::b::am) pos) (Cn ta tb):=by
 intro a_ s σ H Q I h;refine BoolOp_and (thn (ha a_ s σ H _ I h) λv s1 hz=>?_)
 obtain⟨x,H1,I1,r1,q1⟩:=hz;obtain⟨c,rfl,q1⟩:=q1;cases r1;refine X4 ?_
 cases c with
 |true=>exact hb a_ s1 σ H1 Q I1 q1
 |false=>exact⟨.bl false,H1,I1,rfl,q1⟩
def tIf(t:TT)(ta tb:TE):TE:=λσ H Q=>t σ H λc H1=>if c=true then ta σ H1 Q else tb σ H1 Q
def uI{c:Expr}(hc:PT X c tA)(ha:PE X a ta)(hb:PE X b tb):PE X (.IfExp c a b pos) (tIf tA ta tb):=by
 intro a_ s σ H Q I h;refine wpAny_IfExp (thn (hc a_ s σ H _ I h) λd s1 hz=>?_)
 obtain⟨H1,I1,q1⟩:=hz;cases d with
 |true=>exact ha a_ s1 σ H1 Q I1 q1
 |false=>exact hb a_ s1 σ H1 Q I1 q1
end
def SqL(K:Z6)(H:Hp)(a:ZN)(xs:Z8 V):Prop:=
 Rd H a (.lst xs)\/
  ∃(o:Obj)(its:Array Z3)(n:Nat),K.lookup a=some o/\o.cls=.type "list"/\o.dict=none/\o.data=.seq its n/\its.size<=sizeLine/\Vals xs its.toList
def SqT(K:Z6)(H:Hp)(a:ZN)(xs:Z8 V):Prop:=
 Rd H a (.tup xs)\/
  ∃(o:Obj)(its:Array Z3)(n:Nat),K.lookup a=some o/\o.cls=.type "tuple"/\o.data=.seq its n/\its.size<=sizeLine/\Vals xs its.toList
noncomputable def FK:Z3->Z9 V
 |.none=>some .non
 |.bool b=>some (.bl b)
 |.int i _=>some (.int i)
 |.str x _=>some (.str x)
 |.bytes b _=>some (.byt b)
 |.float b _=>some (.flt b)
 |.ref a=>some (.ref a)
 |.type n=>some (.ty n)
 |_=>none
def RelV.abs(r:RelV x u):FK u=some x:=by
 cases x with
 |non=>cases r;rfl
 |bl _=>cases r;rfl
 |int _=>obtain⟨t,rfl⟩:=r;rfl
 |str _=>obtain⟨t,rfl⟩:=r;rfl
 |byt _=>obtain⟨t,rfl⟩:=r;rfl
 |flt _=>obtain⟨t,rfl⟩:=r;rfl
 |ref _=>cases r;rfl
 |ty _=>cases r;rfl
theorem RelV.inj(r:RelV x u)(q:RelV y u):x=y:=Z7 (r.abs.symm.trans q.abs)
theorem Vals.inj:∀{xs ys:Z8 V}{us:Z8 Z3},Vals xs us->Vals ys us->xs=ys
 |_,_,_,.nil,.nil=>rfl
 |_,_,_,.cons r t,.cons r' t'=>by rw[r.inj r',Vals.inj t t']
section
variable{H:Hp}
def SqL.of{K:Z6}(h:H a=some (.lst xs)):SqL K H a xs:=.inl (.inl h)
def SqT.of{K:Z6}(h:H a=some (.tup xs)):SqT K H a xs:=.inl (.inl h)
def Inv.list(I:Inv X a_ σ H s)(h:SqL X.K H a xs):∃its:Z8 Z3,Vals xs its/\PlainL s.heap a its.toArray/\xs.length<=sizeLine:=by
 rcases h with h|⟨o,its,n,hk,hc,hd,hs,hz,r⟩
 .obtain⟨z,its,n,r,e⟩:=h.ok I.hok
  exact⟨its,r,⟨_,n,e,rfl,rfl,rfl⟩,z⟩
 .refine⟨its.toList,r,⟨o,n,I.kIn a o hk,hc,hd,by simpa using hs⟩,?_⟩
  have e:=r.length;simp only[Array.length_toList]at e
  lia
def Inv.tuple(I:Inv X a_ σ H s)(h:SqT X.K H a xs):∃its:Z8 Z3,Vals xs its/\IsTup s.heap a its.toArray/\xs.length<=sizeLine:=by
 rcases h with h|⟨o,its,n,hk,hc,hs,hz,r⟩
 .obtain⟨z,its,r,p⟩:=h.ok I.hok
  exact⟨its,r,p,z⟩
 .refine⟨its.toList,r,⟨o,I.kIn a o hk,hc,n,by simpa using hs⟩,?_⟩
  have e:=r.length;simp only[Array.length_toList]at e
  lia
def Inv.list_inj(I:Inv X a_ σ H s)(h:SqL X.K H a xs)(h':SqL X.K H a ys):xs=ys:=by
 obtain⟨its,r,⟨o,n,e,_,_,d⟩,_⟩:=I.list h;obtain⟨its',r',⟨o',n',e',_,_,d'⟩,_⟩:=I.list h';rw[e]at e';obtain rfl:=Z7 e';rw[d]at d';injection d' with d1 _
 have:its=its':=by simpa using congrArg Array.toList d1
 subst this;exact r.inj r'
def Inv.tuple_inj(I:Inv X a_ σ H s)(h:SqT X.K H a xs)(h':SqT X.K H a ys):xs=ys:=by
 obtain⟨its,r,⟨o,e,_,n,d⟩,_⟩:=I.tuple h;obtain⟨its',r',⟨o',e',_,n',d'⟩,_⟩:=I.tuple h';rw[e]at e';obtain rfl:=Z7 e';rw[d]at d';injection d' with d1 _
 have:its=its':=by simpa using congrArg Array.toList d1
 subst this;exact r.inj r'
end
abbrev Cx.wish(X:Cx)(E:Z3->ZP->Prop):Cx:={X with xe:=E}
abbrev Cx.nox(X:Cx):Cx:=X.wish λ_ _=>False
theorem Cx.Ok.wish{X:Cx}(ok:X.Ok)(E:Z3->ZP->Prop):(X.wish E).Ok:=
 ⟨ok.mod,ok.kind,ok.glob,ok.blt,ok.above,ok.inj,ok.has,ok.cab,ok.hd,ok.frames,ok.stk,ok.exf,ok.bs,ok.bsz,ok.noex,ok.exfs,ok.funs,ok.frf,ok.tabs⟩
def Cx.Ok.unwish{X:Cx}(ok:(X.wish E).Ok):X.Ok:=
 ⟨ok.mod,ok.kind,ok.glob,ok.blt,ok.above,ok.inj,ok.has,ok.cab,ok.hd,ok.frames,ok.stk,ok.exf,ok.bs,ok.bsz,ok.noex,ok.exfs,ok.funs,ok.frf,ok.tabs⟩
section
variable{X:Cx}{a_:Z8 (ZN×Obj)}{σ:St}{H:Hp}{s:ZP}
theorem Inv.wish(I:Inv X a_ σ H s)(E:Z3->ZP->Prop):Inv (X.wish E) a_ σ H s:=⟨I.ok.wish E,I.os,I.bare,I.base,I.loc,I.cell,I.free,I.freeC,I.pin,I.hok,I.len⟩
theorem Inv.unwish(I:Inv (X.wish E) a_ σ H s):Inv X a_ σ H s:=⟨I.ok.unwish,I.os,I.bare,I.base,I.loc,I.cell,I.free,I.freeC,I.pin,I.hok,I.len⟩
theorem SP.unwish{D:Ends}{f:Flow}{s':ZP}(h:SP (X.wish E) a_ D f s'):SP X a_ D f s':=by
 cases f with
 |next=>obtain⟨j_,H',I,q⟩:=h;exact⟨j_,H',I.unwish,q⟩
 |brk=>obtain⟨j_,H',I,q⟩:=h;exact⟨j_,H',I.unwish,q⟩
 |cont=>obtain⟨j_,H',I,q⟩:=h;exact⟨j_,H',I.unwish,q⟩
 |ret u=>obtain⟨v,j_,H',I,r,q⟩:=h;exact⟨v,j_,H',I.unwish,r,q⟩
theorem PE.nox(h:PE X.nox e t):PE X e t:=λa_ s σ H Q I hw=>
 YU (h a_ s σ H Q (I.wish _) hw) (λ_ _ hz=>by obtain⟨v,H',I',r,q⟩:=hz;exact⟨v,H',I'.unwish,r,q⟩) λ_ _ z=>False.elim z
theorem PSs.nox{st:Z8 Stmt}{t:TS}(h:PSs X.nox st t):PSs X st t:=λa_ s σ H D I hw=>
 YU (h a_ s σ H D (I.wish _) hw) (λ_ _ q=>q.unwish) λ_ _ z=>False.elim z
end
section
variable{X:Cx}{st:Stmt}{am:Z8 Stmt}{t u:TS}{e:Expr}{te:TE}{pos:Pos}
def tNext:TS:=λD σ H=>D.nx σ H
def DC(t u:TS):TS:=λD σ H=>t {D with nx:=u D} σ H
def kH:PSs X [] tNext:=λ_ _ σ H _ I h=>Wy ⟨σ,H,I,h⟩
def aR(h1:PS X st t)(h2:PSs X am u):PSs X (st::am) (DC t u):=by
 intro a_ s σ H D I h;refine wpAny_execs_cons (thn (h1 a_ s σ H {D with nx:=u D} I h) λf s1 q=>?_)
 cases f with
 |next=>
  obtain⟨j_,H',I',q⟩:=q;exact h2 a_ s1 j_ H' D I' q
 |ret v=>exact q
 |brk=>exact q
 |cont=>exact q
def c7(h1:PS X st t):PSs X [st] t:=by
 intro a_ s σ H D I h;refine wpAny_execs_cons (thn (h1 a_ s σ H D I h) λf s1 q=>?_)
 cases f with
 |next=>exact Wy q
 |ret v=>exact q
 |brk=>exact q
 |cont=>exact q
def Inv.quiet(I:Inv X a_ σ H s):interactive X.env=false:=by simp[interactive,I.ok.kind]
def AA(te:TE):TS:=λD σ H=>te σ H λ_ H1=>D.nx σ H1
def dX(he:PE X e te)(hs:swapsWith e none pos.line X.env=pure false:=by rfl):PS X (.Expr e pos) (AA te):=by
 intro a_ s σ H D I h;exact wpAny_Expr_any (thn (he a_ s σ H _ I h) λv s1 hz=>by obtain⟨x,H1,I1,r1,q1⟩:=hz;exact⟨σ,H1,I1,q1⟩) I.quiet hs
def Fh(te:TE):TS:=λD σ H=>te σ H D.rt
def gM(he:PE X e te):PS X (.Return (some e) pos) (Fh te):=by
 intro a_ s σ H D I h;exact wpAny_Return_some (thn (he a_ s σ H _ I h) λv s1 hz=>by obtain⟨x,H1,I1,r1,q1⟩:=hz;exact⟨x,σ,H1,I1,r1,q1⟩)
def Fx(c:TT)(t u:TS):TS:=λD σ H=>c σ H λb H1=>if b=true then t D σ H1 else u D σ H1
def vU{c:Expr}{a b:Z8 Stmt}{tc:TT}(hc:PT X c tc)(ha:PSs X a t)(hb:PSs X b u):PS X (.If c a b pos) (Fx tc t u):=by
 intro a_ s σ H D I h;refine wpAny_If (thn (hc a_ s σ H _ I h) λd s1 hz=>?_)
 obtain⟨H1,I1,q1⟩:=hz;cases d with
 |true=>exact ha a_ s1 σ H1 D I1 q1
 |false=>exact hb a_ s1 σ H1 D I1 q1
end
abbrev TG:=V->St->Hp->(St->Hp->Prop)->Prop
abbrev TGs:=Z8 V->St->Hp->(St->Hp->Prop)->Prop
def PG(X:Cx)(target:Expr)(t:TG):Prop:=
 ∀(a_:Z8 (ZN×Obj))(s:ZP)(σ:St)(H:Hp)(v:V)(u:Z3)(Q:St->Hp->Prop),Inv X a_ σ H s->RelV v u->t v σ H Q->
  wpAny (model X.prog X.w) X.A (assign target X.env u) (λ_ s'=>∃j_ H',Inv X a_ j_ H' s'/\Q j_ H') X.xe s
def PGs(X:Cx)(ts:Z8 Expr)(t:TGs):Prop:=
 ∀(a_:Z8 (ZN×Obj))(s:ZP)(σ:St)(H:Hp)(vs:Z8 V)(us:Z8 Z3)(Q:St->Hp->Prop),Inv X a_ σ H s->Vals vs us->t vs σ H Q->
  wpAny (model X.prog X.w) X.A (assignInOrder ((assignEach ts X.env).map (·.2)) us) (λ_ s'=>∃j_ H',Inv X a_ j_ H' s'/\Q j_ H') X.xe s
section
variable{X:Cx}{pos:Pos}
def gf(i:Nat):TG:=λv σ H Q=>Q (σ.set i (some v)) H
def iN(hN:X.N.Nodup)(hi:X.N[i]?=some x)(hx:Loc X.env.scope x)(hf:X.fn x=true\/X.env.scope.names.lookup x=some .local:=by first|exact .inl rfl|exact .inr rfl|assumption):PG X (.Name x pos) (gf i):=by
 intro a_ s σ H v u Q I r h;exact wpAny_assign_Name (nu I hN hi hx r (λs' I'=>⟨_,H,I',h⟩) hf)
def gNil:TGs:=λvs σ H Q=>vs=[]/\Q σ H
def Co(t:TG)(u:TGs):TGs:=λvs σ H Q=>∃v r,vs=v::r/\t v σ H λj_ H'=>u r j_ H' Q
def xD:PGs X [] gNil:=by
 intro a_ s σ H vs us Q I r h;obtain⟨e,h⟩:=h;subst e;cases r;exact assignInOrder_nil ⟨σ,H,I,h⟩
def uU{e:Expr}{es:Z8 Expr}{t:TG}{u:TGs}(h1:PG X e t)(h2:PGs X es u)
  (hs:(assignEach (e::es) X.env).map (·.2)=assign e X.env::(assignEach es X.env).map (·.2):=by rfl):PGs X (e::es) (Co t u):=by
 intro a_ s σ H vs us Q I r h;obtain⟨v,vr,e1,h⟩:=h;subst e1;cases r with
 |cons r rr=>
  rw[hs];refine assignInOrder_cons (thn (h1 a_ s σ H _ _ _ I r h) λ_ s1 hz=>?_)
  obtain⟨II,H1,I1,q1⟩:=hz;exact h2 a_ s1 II H1 _ _ Q I1 rr q1
def ER(K:Z6)(n:Nat)(t:TGs):TG:=λv σ H Q=>∃a xs,v=.ref a/\SqT K H a xs/\xs.length=n/\t xs σ H Q
def BQ(hc:X.calm=true)(h:PGs X es t)(hn:(assignEach es X.env).length=n:=by rfl)(GG:(assignEach es X.env).findIdx? (·.1)=none:=by rfl):PG X (.Tuple es k pos) (ER X.K n t):=by
 intro a_ s σ H v u Q I r hw;obtain⟨a,xs,e1,hq,hl,hw⟩:=hw;subst e1;cases r;obtain⟨its,rv,ht,hz⟩:=I.tuple hq;refine assign_Tuple_tuple (I.ok.hd hc) ht (by simp[hn,<-hl,rv.length]) GG λh' hx=>?_
 have I1:Inv X a_ σ H {s with heap:=h'}:=I.kept (t':=s.toks) λb o e=>hx b o (Zw (ZT e)) e
 exact h a_ _ σ H xs _ Q I1 (by simpa using rv) hw
def xB(te:TE)(g:TG):TS:=λD σ H=>te σ H λx H1=>g x σ H1 D.nx
def Bd{tg e:Expr}{te:TE}{g:TG}(he:PE X e te)(hg:PG X tg g)(hs:swapsWithSole [tg] e pos.line X.env=pure false:=by rfl)(hw:swappedStores [tg] e X.env=pure none:=by rfl)
  (h1:(assignEach [tg] X.env).map (·.2)=[assign tg X.env]:=by rfl):PS X (.Assign [tg] e pos) (xB te g):=by
 intro a_ s σ H D I h;refine wpAny_Assign_stores (thn (he a_ s σ H _ I h) λv s1 ⟨x,H1,I1,r1,q1⟩=>?_) hs hw
 rw[h1];exact thn (hg a_ s1 σ H1 x v _ I1 r1 q1) λ_ s2 q=>q
def fV{i:Nat}{x:Str}{e:Expr}{te:TE}{pos':Pos}(hN:X.N.Nodup)(hi:X.N[i]?=some x)(hx:Loc X.env.scope x)(he:PE X e te)(hs:swapsWith e (some (.Name x pos')) pos.line X.env=pure false:=by rfl)(hf:X.fn x=true\/X.env.scope.names.lookup x=some .local:=by first|exact .inl rfl|exact .inr rfl|assumption):
  PS X (.Assign [.Name x pos'] e pos) (xB te (gf i)):=by
 intro a_ s σ H D I h;refine wpAny_Assign_Name (thn (he a_ s σ H _ I h) λv s1 ⟨y,H1,I1,r1,q1⟩=>?_) hs
 exact nu I1 hN hi hx r1 (λs2 I2=>⟨_,H1,I2,q1⟩) hf
end
section
variable{X:Cx}
def BC(c:TT)(tb:TS):TS:=λD σ H=>∃W:Nat->St->Hp->Prop,(∃m,W m σ H)/\∀m σ H,W m σ H->
 c σ H λb H1=>if b=true then ∃N:St->Hp->Prop,(∀j_ H',N j_ H'->∃m',m'<m/\W m' j_ H')/\tb {D with nx:=N,ct:=N,bk:=D.nx} σ H1 else D.nx σ H1
def uM{c:Expr}{body:Z8 Stmt}{tc:TT}{tb:TS}(hp:PassesOwn (model X.prog X.w) X.A X.env X.xe)(hc:PT X c tc)(hb:PSs X body tb):PS X (.While c body [] pos) (BC tc tb):=by
 intro a_ s σ H D I h;obtain⟨W,⟨m0,w0⟩,turn⟩:=h;refine wpAny_While (codeAny_whileLoop (λn s'=>∃j_ H',Inv X a_ j_ H' s'/\W n j_ H') ?_ m0 ⟨σ,H,I,w0⟩)
 intro n s1 hz;obtain⟨II,H1,I1,w1⟩:=hz;refine XI hp (thn (hc a_ s1 II H1 _ I1 (turn n II H1 w1)) λb s2 hz=>?_)
 obtain⟨H2,I2,q2⟩:=hz;cases b with
 |true=>
  obtain⟨N,hN,q2⟩:=q2;rw[Z0 rfl];refine XI hp (thn (hb a_ s2 II H2 _ I2 q2) λf s3 q3=>?_)
  cases f with
  |next=>
   obtain⟨Gk,H3,I3,n3⟩:=q3;obtain⟨m',hm,w3⟩:=hN Gk H3 n3;exact⟨m',hm,Gk,H3,I3,w3⟩
  |cont=>
   obtain⟨Gk,H3,I3,n3⟩:=q3;obtain⟨m',hm,w3⟩:=hN Gk H3 n3;exact⟨m',hm,Gk,H3,I3,w3⟩
  |brk=>exact q3
  |ret v=>exact q3
 |false=>
  rw[ZY Zn];exact Wy ⟨II,H2,I2,q2⟩
end
structure It where
 go:Nat->Hp->Prop
 yld:Nat->Hp->V->Hp->Prop
 stop:Nat->Hp->Prop
def eP(X:Cx)(a_:Z8 (ZN×Obj))(H:Hp)(b:ZN):Prop:=
 H b=none/\b≠X.env.locals/\b∉X.fs/\(b∈X.ex\/X.o_.heap.objs.size<=b)/\(∀x c,X.env.cells.lookup x=some c->c≠b)/\∀p∈X.pn++a_,p.1≠b
def Inv.fpOk(I:Inv X a_ σ H s)(hb:s.heap.objs.size<=b)(hn:H' b=none):eP X a_ H' b:=by
 refine⟨hn,Nat.ne_of_gt (ZA I.lt hb),I.nofs hb,.inr (Zr I.sz hb),λx c e z=>?_,λp hp z=>?_⟩
 .obtain⟨v,q⟩:=I.cell x c e
  exact absurd (ZA q.lt (by rw[z];exact hb)) (Zd _)
 .exact absurd (ZA (ZT (I.pin p hp).1) (by rw[z];exact hb)) (Zd _)
structure Turn (P:Y1)(w:YO)(K:Z6)(tg:Expr)(J:It)(fp:List ZN)(it:ZN)(tn:Nat->Heap->Prop):Prop where
 mem:it∈fp
 obj:∀i h,tn i h->∀b∈fp,∃o,h.get? b=some o/\∀v,o.data≠.cell v
 keep:∀i h h',tn i h->(∀b∈fp,∀o,h.get? b=some o->h'.get? b=some o)->tn i h'
 item:∀(X:Cx),X.prog=P->X.w=w->X.K=K->X.calm=true->∀(i:Nat)(a_:List (ZN×Obj))(s:ZP)(σ:St)(H:Hp)(E:Z3->ZP->Prop),Inv X a_ σ H s->(∀b∈fp,eP X a_ H b)->tn i s.heap->J.go i H->
  wpAny (model P w) X.A (pyNext (.ref it)) (λr s1=>∃u,r=some u/\
   wpAny (model P w) X.A (letOwnedTupleGo tg (.ref it) u) (λ_ s2=>∃x H',Inv X a_ σ H' s2/\RelV x u/\J.yld i H x H'/\tn (i+1) s2.heap/\∀b∈fp,H' b=none) E s1) E s
 done:∀(X:Cx),X.prog=P->X.w=w->X.K=K->X.calm=true->∀(i:Nat)(a_:List (ZN×Obj))(s:ZP)(σ:St)(H:Hp)(E:Z3->ZP->Prop),Inv X a_ σ H s->(∀b∈fp,eP X a_ H b)->tn i s.heap->J.stop i H->
  wpAny (model P w) X.A (pyNext (.ref it)) (λr s1=>r=none/\Inv X a_ σ H s1) E s
 self:∀(A:Za)(i:Nat)(s:ZP)(Q:Z3->ZP->Prop)(E:Z3->ZP->Prop),tn i s.heap->Q (.ref it) s->wpAny (model P w) A (pyIter (.ref it)) Q E s
abbrev TI:=St->Hp->(It->Hp->Prop)->Prop
def PIE(X:Cx)(a_:Z8 (ZN×Obj))(σ:St)(tg:Expr)(R:It->Hp->Prop)(Mq:Z3)(s2:ZP):Prop:=
 ∃(it:ZN)(fp:Z8 ZN)(tn:Nat->Heap->Prop)(J:It)(H':Hp),Mq=.ref it/\Inv X a_ σ H' s2/\Turn X.prog X.w X.K tg J fp it tn/\tn 0 s2.heap/\(∀b∈fp,eP X a_ H' b)/\R J H'
def PI(X:Cx)(tg iter:Expr)(wi:TI):Prop:=
 ∀(a_:Z8 (ZN×Obj))(s:ZP)(σ:St)(H:Hp)(R:It->Hp->Prop),Inv X a_ σ H s->wi σ H R->
  wpAny (model X.prog X.w) X.A (eval iter X.env) (λv s1=>wpAny (model X.prog X.w) X.A (pyIter v) (PIE X a_ σ tg R) X.xe s1) X.xe s
def ue(ho:s.heap.get? it=some o)(hc:o.cls=.type n)(hd:o.data=.fields vs)(hn:["enumerate","zip","dict_itemiterator","dict_reverseitemiterator","odict_iterator","itertools.zip_longest","itertools.pairwise"].contains n=false)(hQ:Q () s):wpAny M A (letOwnedTupleGo tg (.ref it) u) Q E s:=by
 unfold letOwnedTupleGo;cases tg<;>first
  |exact Z4 hQ
  |(cases u<;>first
    |exact Z4 hQ
    |(refine Z_ (wpAny_load ho ?_)
      rw[hc,hd];show wpAny M A (if(["enumerate","zip","dict_itemiterator","dict_reverseitemiterator","odict_iterator","itertools.zip_longest","itertools.pairwise"].contains n&&vs[0]?==some (rawInt _))=true then _ else _) Q E s
      rw[ZY (by intro h;rw[hn,Bool.false_and]at h;trivial)]
      exact Z4 hQ))
noncomputable def Itl(K:Z6)(a:ZN):It:=
 ⟨λi H=>∃xs x,SqL K H a xs/\xs[i]?=some x,λi H x H'=>H'=H/\∀xs,SqL K H a xs->xs[i]?=some x,λi H=>∃xs,SqL K H a xs/\xs.length<=i⟩
noncomputable def Itt(K:Z6)(a:ZN):It:=
 ⟨λi H=>∃xs x,SqT K H a xs/\xs[i]?=some x,λi H x H'=>H'=H/\∀xs,SqT K H a xs->xs[i]?=some x,λi H=>∃xs,SqT K H a xs/\xs.length<=i⟩
def Itr(lo:Int)(n:Nat):It:=⟨λi _=>i<n,λi H x H'=>H'=H/\x=.int (lo+i),λi _=>n<=i⟩
def sV{P:Y1}{w:YO}{K:Z6}{tg:Expr}(a it:ZN):Turn P w K tg (Itl K a) [it] it (λi h=>h.IsListIter it a i) where
 mem:=by simp
 obj:=λi h st b hb=>by
  have e:b=it:=by simpa using hb
  subst e;obtain⟨o,e,c,d⟩:=st;exact⟨o,e,λv z=>by rw[d]at z;cases z⟩
 keep:=λi h h' st k=>st.at λo e=>k it (by simp) o e
 item:=by
  intro X hP hw hK hc i a_ s σ H E I hf st hg;subst hP hw hK;obtain⟨xs,x,hq,hx⟩:=hg;obtain⟨its,rv,p,hz⟩:=I.list hq;obtain⟨u,hu,ru⟩:=rv.get hx;obtain⟨f0,f1,f2,f3,f4,f5⟩:=hf it (by simp)
  refine wpAny_pyNext_list_item st p.isList (x:=u) (by simpa using hu) λh' i_ sb=>?_
  have I1:Inv X a_ σ H {s with heap:=h'}:=I.turned (t':=s.toks) (λb o hb e=>(sb.2 b hb).trans e) f0 f1 f3 f4 f5
  obtain⟨o,e,c,d⟩:=id i_;exact⟨u,rfl,ue (s:={s with heap:=h'}) e c d (by decide) ⟨x,H,I1,ru,⟨rfl,λys hy=>by rw[I.list_inj hy hq];exact hx⟩,i_,λb hb=>(hf b hb).1⟩⟩
 done:=by
  intro X hP hw hK hc i a_ s σ H E I hf st hg;subst hP hw hK;obtain⟨xs,hq,hx⟩:=hg;obtain⟨its,rv,p,hz⟩:=I.list hq;obtain⟨f0,f1,f2,f3,f4,f5⟩:=hf it (by simp)
  have hl:=rv.length;exact wpAny_pyNext_list_end (I.ok.hd hc) st p.isList (by simp;lia) λh' eb=>⟨rfl,I.turned (t':=s.toks) (λb o hb e=>eb b o hb e) f0 f1 f3 f4 f5⟩
 self:=λ_ _ _ _ _ st h=>wpAny_pyIter_listiter st h
def oC{P:Y1}{w:YO}{K:Z6}{tg:Expr}(a it:ZN):Turn P w K tg (Itt K a) [it] it (λi h=>h.IsTupleIter it a i) where
 mem:=by simp
 obj:=λi h st b hb=>by
  have e:b=it:=by simpa using hb
  subst e;obtain⟨o,e,c,d⟩:=st;exact⟨o,e,λv z=>by rw[d]at z;cases z⟩
 keep:=λi h h' st k=>st.at λo e=>k it (by simp) o e
 item:=by
  intro X hP hw hK hc i a_ s σ H E I hf st hg;subst hP hw hK;obtain⟨xs,x,hq,hx⟩:=hg;obtain⟨its,rv,p,hz⟩:=I.tuple hq;obtain⟨u,hu,ru⟩:=rv.get hx;obtain⟨f0,f1,f2,f3,f4,f5⟩:=hf it (by simp)
  refine wpAny_pyNext_tuple_item st (show s.heap.IsTuple a its.toArray from p) (x:=u) (by simpa using hu) λh' i_ sb=>?_
  have I1:Inv X a_ σ H {s with heap:=h'}:=I.turned (t':=s.toks) (λb o hb e=>(sb.2 b hb).trans e) f0 f1 f3 f4 f5
  obtain⟨o,e,c,d⟩:=id i_;exact⟨u,rfl,ue (s:={s with heap:=h'}) e c d (by decide) ⟨x,H,I1,ru,⟨rfl,λys hy=>by rw[I.tuple_inj hy hq];exact hx⟩,i_,λb hb=>(hf b hb).1⟩⟩
 done:=by
  intro X hP hw hK hc i a_ s σ H E I hf st hg;subst hP hw hK;obtain⟨xs,hq,hx⟩:=hg;obtain⟨its,rv,p,hz⟩:=I.tuple hq;obtain⟨f0,f1,f2,f3,f4,f5⟩:=hf it (by simp)
  have hl:=rv.length;exact wpAny_pyNext_tuple_end (I.ok.hd hc) st (show s.heap.IsTuple a its.toArray from p) (by simp;lia) λh' eb=>⟨rfl,I.turned (t':=s.toks) (λb o hb e=>eb b o hb e) f0 f1 f3 f4 f5⟩
 self:=λ_ _ _ _ _ st h=>wpAny_pyIter_tupleiter st h
def om{P:Y1}{w:YO}{K:Z6}{tg:Expr}(it:ZN)(lo:Int)(n:Nat):Turn P w K tg (Itr lo n) [it] it (λi h=>IsRangeIter h it (lo+(i:Nat)*1) ((n:Int) - (i:Nat)) 1) where
 mem:=by simp
 obj:=λi h st b hb=>by
  have e:b=it:=by simpa using hb
  subst e;exact⟨_,st,λv z=>by
   have z':Data.fields _=Data.cell v:=z;cases z'⟩
 keep:=λi h h' st k=>k it (by simp) _ st
 item:=by
  intro X hP hw hK hc i a_ s σ H E I hf st hg;subst hP hw hK;obtain⟨f0,f1,f2,f3,f4,f5⟩:=hf it (by simp)
  have W:=Walks.range (prog:=X.prog) (w:=X.w) (I.ok.hd hc) it lo 1 n;refine W.item i s _ _ hg st λv h' tk hv i_ kk=>?_
  obtain⟨t,rfl⟩:=hv;have I1:Inv X a_ σ H {s with heap:=h',toks:=tk}:=I.turned (λb o hb e=>kk b o (by simpa using hb) e) f0 f1 f3 f4 f5
  refine⟨_,rfl,ue (s:={s with heap:=h',toks:=tk}) (n:="range_iterator") i_ rfl rfl (by decide) ⟨.int (lo+i),H,I1,⟨t,?_⟩,⟨rfl,rfl⟩,i_,λb hb=>(hf b hb).1⟩⟩
  rw[Int.mul_one]
 done:=by
  intro X hP hw hK hc i a_ s σ H E I hf st hg;subst hP hw hK;obtain⟨f0,f1,f2,f3,f4,f5⟩:=hf it (by simp)
  exact wpAny_pyNext_range_end (I.ok.hd hc) st (by have:n<=i:=hg;lia) λh' eb=>⟨rfl,I.turned (t':=s.toks) (λb o hb e=>eb b o hb e) f0 f1 f3 f4 f5⟩
 self:=λ_ _ _ _ _ st h=>wpAny_pyIter_rangeiter st h
section
variable{X:Cx}
def By(K:Z6)(tl:TE):TI:=λσ H R=>tl σ H λx H1=>∃a,x=.ref a/\(∃xs,SqL K H1 a xs)/\R (Itl K a) H1
def EO(K:Z6)(tl:TE):TI:=λσ H R=>tl σ H λx H1=>∃a,x=.ref a/\(∃xs,SqT K H1 a xs)/\R (Itt K a) H1
def kU{l:Expr}{tl:TE}(hl:PE X l tl):PI X tg l (By X.K tl):=by
 intro a_ s σ H R I h;refine thn (hl a_ s σ H _ I h) λv s1 hz=>?_
 obtain⟨x,H1,I1,r1,q1⟩:=hz;obtain⟨a,e,⟨xs,hq⟩,q⟩:=q1;subst e;cases r1;obtain⟨its,rv,p,hz⟩:=I1.list hq;refine WU p.isList ?_
 refine⟨s1.heap.objs.size,[s1.heap.objs.size],_,_,H1,rfl,I1.kept (t':=s1.toks) λb o e=>Z5 _ e,sV a _,⟨_,ZK _ rfl,rfl,rfl⟩,λb hb=>?_,q⟩
 have e:b=s1.heap.objs.size:=by simpa using hb
 subst e;exact I1.fpOk (ZQ _) (I1.hok.fresh (ZQ _))
def Bb{l:Expr}{tl:TE}(hl:PE X l tl):PI X tg l (EO X.K tl):=by
 intro a_ s σ H R I h;refine thn (hl a_ s σ H _ I h) λv s1 hz=>?_
 obtain⟨x,H1,I1,r1,q1⟩:=hz;obtain⟨a,e,⟨xs,hq⟩,q⟩:=q1;subst e;cases r1;obtain⟨its,rv,p,hz⟩:=I1.tuple hq;refine wpAny_pyIter_tuple (show s1.heap.IsTuple a its.toArray from p) ?_
 refine⟨s1.heap.objs.size,[s1.heap.objs.size],_,_,H1,rfl,I1.kept (t':=s1.toks) λb o e=>Z5 _ e,oC a _,⟨_,ZK _ rfl,rfl,rfl⟩,λb hb=>?_,q⟩
 have e:b=s1.heap.objs.size:=by simpa using hb
 subst e;exact I1.fpOk (ZQ _) (I1.hok.fresh (ZQ _))
def t9{R:It->Hp->Prop}{lo hi:Int}{tk:Nat}(I:Inv X a_ σ H s)(h1: -(2 ^ 62)<=lo)(h2:lo<2 ^ 62)(h3: -(2 ^ 62)<=hi)(h4:hi<2 ^ 62)(q:R (Itr lo (hi - lo).toNat) H):wpAny (model X.prog X.w) X.A (pyIter (.ref s.heap.objs.size)) (PIE X a_ σ tg R) E {s with heap:=s.heap.push {cls:=.type "range",data:=.fields #[.int lo t,.int hi u,.int 1 v]},toks:=tk}:=by
 refine wpAny_pyIter_range (IsRange.new ..) (small_one h1 h2 h3 h4) ?_
 have I1:Inv X a_ σ H {s with heap:=s.heap.push {cls:=.type "range",data:=.fields #[.int lo t,.int hi u,.int 1 v]},toks:=tk}:=I.kept λb o e=>Z5 _ e
 refine⟨(s.heap.push {cls:=.type "range",data:=.fields #[.int lo t,.int hi u,.int 1 v]}).objs.size,[(s.heap.push {cls:=.type "range",data:=.fields #[.int lo t,.int hi u,.int 1 v]}).objs.size],_,_,H,rfl,
  I1.kept (t':=tk) λb o e=>Z5 _ e,om _ lo (hi - lo).toNat,?_,λb hb=>?_,q⟩
 .have e1:lo+((0:Nat):Int)*1=lo:=by simp
  have e2:(((hi - lo).toNat:Nat):Int) - ((0:Nat):Int)=Builtin.Range.rangeSize lo hi 1:=by rw[rangeSize_one];split<;>lia
  show IsRangeIter _ _ (lo+((0:Nat):Int)*1) ((((hi - lo).toNat:Nat):Int) - ((0:Nat):Int)) 1;rw[e1,e2];exact ZK _ rfl
 .have e:b=(s.heap.push {cls:=.type "range",data:=.fields #[.int lo t,.int hi u,.int 1 v]}).objs.size:=by simpa using hb
  subst e;exact I1.fpOk (ZQ _) (I1.hok.fresh (ZQ _))
def Cw(ta:TA):TI:=λσ H R=>ta σ H λvs H1=>∃j:Int,vs=[.int j]/\ -(2 ^ 62)<=j/\j<2 ^ 62/\R (Itr 0 j.toNat) H1
def qY{a:Expr}{ta:TA}{p pos:Pos}(hg:Gl X "range")(hm:X.mg "range"=none)(ha:PA X [a] ta)(hs:starEach [a] X.env=[(false,eval a X.env)]:=by rfl):PI X tg (.Call (.Name "range" p) [a] [] pos) (Cw ta):=by
 intro a_ s σ H R I h;refine Call_ (dG I hg hm boot_range (Yw (thn (ha pos a_ s σ H _ I h) λus s1 ⟨vs,H1,I1,r1,q1⟩=>?_) hs rfl))
 obtain⟨j,e,q1,q2,q⟩:=q1;subst e;cases r1 with
 |cons r rr=>
  cases rr;obtain⟨t,rfl⟩:=r;exact call_range_1 (t9 I1 (by lia) (by lia) q1 q2 (by simpa using q))
def E2(wi:TI)(g:TG)(tb:TS):TS:=λD σ H=>wi σ H λJ H1=>∃W:Nat->Nat->St->Hp->Prop,(∃m,W 0 m σ H1)/\∀i m σ H,W i m σ H->
 (J.stop i H/\D.nx σ H)\/(J.go i H/\∃N:St->Hp->Prop,(∀j_ H',N j_ H'->∃m',m'<m/\W (i+1) m' j_ H')/\∀x H',J.yld i H x H'->g x σ H' λF1 H2=>tb {D with nx:=N,ct:=N,bk:=D.nx} F1 H2)
def j4(fp:Z8 ZN)(h:Heap):Z8 (ZN×Obj):=fp.filterMap λb=>(h.get? b).map λo=>(b,o)
def cM(hb:b∈fp)(e:h.get? b=some o):(b,o)∈j4 fp h:=Yj.mpr ⟨b,hb,by rw[e];rfl⟩
def qK(hp:p∈j4 fp h):p.1∈fp/\h.get? p.1=some p.2:=by
 obtain⟨b,hb,e⟩:=Yj.mp hp;cases q:h.get? b with
 |none=>rw[q]at e;trivial
 |some o=>
  rw[q]at e;have e':(b,o)=p:=Z7 e;subst e';exact⟨hb,q⟩
def Inv.pinned(I:Inv X a_ σ H s)(hf:∀b∈fp,eP X a_ H b)(ho:∀b∈fp,∃o,s.heap.get? b=some o/\∀v,o.data≠.cell v):Inv X (a_++j4 fp s.heap) σ H s:=
 I.pins_of λp hp=>(Zv.mp hp).elim (λz=>I.pin p (ZG _ z)) λz=>by
  obtain⟨hb,e⟩:=qK z;obtain⟨f0,f1,f2,_⟩:=hf p.1 hb;obtain⟨o,e',d⟩:=ho p.1 hb;rw[e]at e';obtain rfl:=Z7 e';exact⟨e,f0,f1,f2,d⟩
def Inv.unpinned(I:Inv X (a_++pl) σ H s):Inv X a_ σ H s:=I.pins_of λp hp=>I.pin p (ZG _ (YZ _ hp))
def mJ{iter:Expr}{body:Z8 Stmt}{wi:TI}{g:TG}{tb:TS}{pos:Pos}(hp:PassesOwn (model X.prog X.w) X.A X.env X.xe)(hc:X.calm=true)(hi:PI X tg iter wi)(hg:PG X tg g)(hb:PSs X body tb)
  (hs:∀x,foldedSetIterable iter X.env x=pure x:=by intro _;rfl):PS X (.For tg iter body [] pos) (E2 wi g tb):=by
 intro a_ s σ H D I h;refine wpAny_For (thn (hi a_ s σ H _ I h) λv s1 h1=>thn h1 λMq s2 h2=>?_) hs
 obtain⟨it,fp,tn,J,H2,e,I2,T,KS,f2,W,⟨m0,w0⟩,turn⟩:=h2;subst e;have G1:∀{H':Hp},(∀b∈fp,H' b=none)->∀b∈fp,eP X a_ H' b:=λhn b hb=>⟨hn b hb,(f2 b hb).2⟩
 refine codeAny_forLoop_any (λn s'=>∃i j_ H',Inv X a_ j_ H' s'/\tn i s'.heap/\(∀b∈fp,H' b=none)/\W i n j_ H') ?_ m0 ⟨0,σ,H2,I2,KS,λb hb=>(f2 b hb).1,w0⟩
 intro n s3 hz;obtain⟨i,Gk,H3,I3,OB,PY,w3⟩:=hz
 rcases turn i n Gk H3 w3 with⟨stop,qn⟩|⟨go,N,hN,step⟩
 .refine XI hp (thn (T.done X rfl rfl rfl hc i a_ s3 Gk H3 X.xe I3 (G1 PY) OB stop) λr s4 hz=>?_)
  obtain⟨hr,I4⟩:=hz;subst hr;exact Wy ⟨Gk,H3,I4,qn⟩
 .refine XI hp (thn (T.item X rfl rfl rfl hc i a_ s3 Gk H3 X.xe I3 (G1 PY) OB go) λr s4 hz=>?_)
  obtain⟨u,hr,h4⟩:=hz;subst hr;refine XI hp (thn h4 λ_ s5 hz=>?_)
  obtain⟨x,H5,I5,r5,y5,MQ,Sv⟩:=hz;have SW:=I5.pinned (G1 Sv) (T.obj _ _ MQ);refine XI hp (thn (hg _ s5 Gk H5 x u _ SW r5 (step x H5 y5)) λ_ s6 hz=>?_)
  obtain⟨Ko,H6,I6,q6⟩:=hz;refine XI hp (thn (hb _ s6 Ko H6 _ I6 q6) λf s7 q7=>?_)
  have again:∀{HN:St}{H7:Hp},Inv X (a_++j4 fp s5.heap) HN H7 s7->N HN H7->∃m,m<n/\∃i j_ H',Inv X a_ j_ H' s7/\tn i s7.heap/\(∀b∈fp,H' b=none)/\W i m j_ H':=λ{HN H7} I7 n7=>by
   obtain⟨m',hm,w7⟩:=hN HN H7 n7;refine⟨m',hm,i+1,HN,H7,I7.unpinned,T.keep _ _ _ MQ λb hb o e=>(I7.pin (b,o) (ZG _ (ZG _ (cM hb e)))).1,λb hb=>?_,w7⟩
   obtain⟨o,e,d⟩:=T.obj _ _ MQ b hb;exact(I7.pin (b,o) (ZG _ (ZG _ (cM hb e)))).2.1
  cases f with
  |next=>obtain⟨HN,H7,I7,n7⟩:=q7;exact again I7 n7
  |cont=>obtain⟨HN,H7,I7,n7⟩:=q7;exact again I7 n7
  |brk=>obtain⟨HN,H7,I7,q7⟩:=q7;exact⟨HN,H7,I7.unpinned,q7⟩
  |ret v=>obtain⟨x7,HN,H7,I7,r7,q7⟩:=q7;exact⟨x7,HN,H7,I7.unpinned,r7,q7⟩
end
abbrev R2:=V->V->Hp->VK->Prop
def OpR(X:Cx)(f:Z3->Z3->Sem Z3)(r:R2):Prop:=
 ∀(a_:Z8 (ZN×Obj))(s:ZP)(σ:St)(H:Hp)(x y:V)(v u:Z3)(Q:VK),Inv X a_ σ H s->RelV x v->RelV y u->r x y H Q->
  wpAny (model X.prog X.w) X.A (f v u) (EP X a_ σ Q) X.xe s
def eM(X:Cx)(f:Z3)(r:Z8 V->Hp->VK->Prop):Prop:=
 ∀(a_:Z8 (ZN×Obj))(s:ZP)(σ:St)(H:Hp)(xs:Z8 V)(us:Z8 Z3)(Q:VK),Inv X a_ σ H s->Vals xs us->r xs H Q->
  wpAny (model X.prog X.w) X.A (call f us) (EP X a_ σ Q) X.xe s
def Fe(X:Cx)(r:V->Hp->(Bool->Hp->Prop)->Prop):Prop:=
 ∀(a_:Z8 (ZN×Obj))(s:ZP)(σ:St)(H:Hp)(x:V)(v:Z3)(Q:Bool->Hp->Prop),Inv X a_ σ H s->RelV x v->r x H Q->
  wpAny (model X.prog X.w) X.A (truthy v) (TP X a_ σ Q) X.xe s
def tOp(r:R2)(ta tb:TE):TE:=λσ H Q=>ta σ H λx H1=>tb σ H1 λy H2=>r x y H2 Q
def rI(C:Int->Int->Prop)(g:Int->Int->V):R2:=λx y H Q=>∃i j,x=.int i/\y=.int j/\C i j/\Q (g i j) H
def rI0(g:Int->Int->V):R2:=λx y H Q=>∃i j,x=.int i/\y=.int j/\Q (g i j) H
section
variable{X:Cx}
def CH(ha:PE X a ta)(hb:PE X b tb){a_:Z8 (ZN×Obj)}{s:ZP}{σ:St}{H:Hp}{R:V->V->Hp->Prop}(I:Inv X a_ σ H s)
  (h:ta σ H λx H1=>tb σ H1 λy H2=>R x y H2) {Q:Z3->ZP->Prop}{f:Z3->Z3->Sem Z3}
  (hf:∀v u s2 x y H2,Inv X a_ σ H2 s2->RelV x v->RelV y u->R x y H2->wpAny (model X.prog X.w) X.A (f v u) Q X.xe s2):
  wpAny (model X.prog X.w) X.A (eval a X.env) (λv g_=>wpAny (model X.prog X.w) X.A (eval b X.env) (λu d_=>wpAny (model X.prog X.w) X.A (f v u) Q X.xe d_) X.xe g_) X.xe s:=by
 refine thn (ha a_ s σ H _ I h) λv s1 hz=>?_
 obtain⟨x,H1,I1,r1,q1⟩:=hz;refine thn (hb a_ s1 σ H1 _ I1 q1) λu s2 hz=>?_
 obtain⟨y,H2,I2,r2,q2⟩:=hz;exact hf v u s2 x y H2 I2 r1 r2 q2
def u9(ho:OpR X (binaryOp op) r)(ha:PE X a ta)(hb:PE X b tb):PE X (.BinOp a op b pos) (tOp r ta tb):=by
 intro a_ s σ H Q I h;exact wpAny_BinOp (CH ha hb I h λv u s2 x y H2 I2 rx ry q=>ho a_ s2 σ H2 x y v u Q I2 rx ry q)
def opI{f:Z3->Z3->Sem Z3}{C:Int->Int->Prop}{g:Int->Int->Int}(rule:∀(i j:Int)(t u:Tok)(s:ZP)(Q:Z3->ZP->Prop)(E:Z3->ZP->Prop),C i j->Q (.int (g i j) s.toks) {s with toks:=s.toks+1}->wpAny (model X.prog X.w) X.A (f (.int i t) (.int j u)) Q E s):
  OpR X f (rI C λi j=>.int (g i j)):=by
 intro a_ s σ H x y v u Q I rx ry h;obtain⟨i,j,rfl,rfl,hc,q⟩:=h;obtain⟨t,rfl⟩:=rx;obtain⟨t',rfl⟩:=ry;exact rule i j t t' s _ _ hc ⟨.int (g i j),H,I.tok _,⟨_,rfl⟩,q⟩
def Ef{f:Z3->Z3->Sem Z3}{g:Int->Int->Int}(rule:∀(i j:Int)(t u:Tok)(s:ZP)(Q:Z3->ZP->Prop)(E:Z3->ZP->Prop),Q (.int (g i j) s.toks) {s with toks:=s.toks+1}->wpAny (model X.prog X.w) X.A (f (.int i t) (.int j u)) Q E s):
  OpR X f (rI0 λi j=>.int (g i j)):=by
 intro a_ s σ H x y v u Q I rx ry h;obtain⟨i,j,rfl,rfl,q⟩:=h;obtain⟨t,rfl⟩:=rx;obtain⟨t',rfl⟩:=ry;exact rule i j t t' s _ _ ⟨.int (g i j),H,I.tok _,⟨_,rfl⟩,q⟩
def B8{f:Z3->Z3->Sem Z3}{g:Int->Int->Bool}(rule:∀(i j:Int)(t u:Tok)(s:ZP)(Q:Z3->ZP->Prop)(E:Z3->ZP->Prop),Q (.bool (g i j)) s->wpAny (model X.prog X.w) X.A (f (.int i t) (.int j u)) Q E s):
  OpR X f (rI0 λi j=>.bl (g i j)):=by
 intro a_ s σ H x y v u Q I rx ry h;obtain⟨i,j,rfl,rfl,q⟩:=h;obtain⟨t,rfl⟩:=rx;obtain⟨t',rfl⟩:=ry;exact rule i j t t' s _ _ ⟨.bl (g i j),H,I,rfl,q⟩
def Fo(i j:Int):Prop:=0<j/\j<1073741824
def CMul(i j:Int):Prop:=(-(2 ^ 64)<i/\i<2 ^ 64)\/(-(2 ^ 64)<j/\j<2 ^ 64)
def CMul.ok(h:CMul i j):IntMulOk i j:=by
 rcases h with⟨h1,h2⟩|⟨h1,h2⟩
 .exact .of_left (intBits_le_64 h1 h2)
 .exact .of_right (intBits_le_64 h1 h2)
def Aa:OpR X (binaryOp .Add) (rI0 λi j=>.int (i+j)):=Ef λ_ _ _ _ _ _ _ q=>add_int q
def BY:OpR X (binaryOp .Sub) (rI0 λi j=>.int (i - j)):=Ef λ_ _ _ _ _ _ _ q=>sub_int q
def Ba:OpR X (binaryOp .Mult) (rI CMul λi j=>.int (i*j)):=opI λ_ _ _ _ _ _ _ hc q=>mul_int q hc.ok
def yB:OpR X (binaryOp .FloorDiv) (rI Fo λi j=>.int (i / j)):=opI λi j _ _ _ _ _ hc q=>by
 have h1:(0:Int)<j:=hc.1;have h2:j<1073741824:=hc.2;exact floordiv_int (by lia) (by rw[Int.fdiv_eq_ediv_of_nonneg i (by lia)];exact q) (.inl (PyProof.noPylong_small (by lia)))
def A5:OpR X (binaryOp .Mod) (rI (λ_ j=>0<j) λi j=>.int (i%j)):=opI λi j _ _ _ _ _ hc q=>by
 have h1:(0:Int)<j:=hc;exact mod_int' (by lia) (by rw[Int.fmod_eq_emod_of_nonneg i (by lia)];exact q)
end
section
variable{b c:Expr}
def BZ(I:Inv X a_ σ H s)(q:Q (.bl k) H)(e:k=k'):EP X a_ σ Q (.bool k') s:=by
 subst e;exact⟨.bl k,H,I,rfl,q⟩
def Dm:OpR X (compareOp .Lt) (rI0 λi j=>.bl (decide (i<j))):=B8 λ_ _ _ _ _ _ _ q=>lt_int q
def CA:OpR X (compareOp .LtE) (rI0 λi j=>.bl (decide (i<=j))):=B8 λ_ _ _ _ _ _ _ q=>le_int q
def Do:OpR X (compareOp .Gt) (rI0 λi j=>.bl (decide (j<i))):=B8 λ_ _ _ _ _ _ _ q=>gt_int q
def Cy:OpR X (compareOp .GtE) (rI0 λi j=>.bl (decide (j<=i))):=B8 λ_ _ _ _ _ _ _ q=>ge_int q
def yE:OpR X (compareOp .IsNot) (λx y H Q=>y=.non/\Q (.bl (!decide (x=.non))) H):=by
 intro a_ s σ H x y v u Q I rx ry h;obtain⟨rfl,q⟩:=h;cases ry;refine isnot_none_gen (BZ I q ?_)
 cases x<;>first
  |(cases rx;rfl)
  |(obtain⟨t,rfl⟩:=rx;rfl)
def rW(b:Expr)(h:op≠.In:=by decide)(h2:op≠.NotIn:=by decide):behindInMarks op b=false:=by
 have e1:(op==CmpOp.In)=false:=by cases op<;>first|rfl|exact absurd rfl h
 have e2:(op==CmpOp.NotIn)=false:=by cases op<;>first|rfl|exact absurd rfl h2
 cases b<;>simp[behindInMarks,e1,e2]
def sX(ho:OpR X (compareOp op) r)(ha:PE X a ta)(hb:PE X b tb)(hm:behindInMarks op b=false):PE X (.Compare a [op] [b] pos) (tOp r ta tb):=by
 intro a_ s σ H Q I h;exact wpAny_Compare1 (CH ha hb I h λv u s2 x y H2 I2 rx ry q=>ho a_ s2 σ H2 x y v u Q I2 rx ry q) hm
def Cv(t:TE):TT:=λσ H Q=>t σ H λx H'=>∃k,x=.bl k/\Q k H'
def c8{op:CmpOp}{r:R2}(ho:OpR X (compareOp op) r)(ha:PE X a ta)(hb:PE X b tb)(hm:behindInMarks op b=false):PT X (.Compare a [op] [b] pos) (Cv (tOp r ta tb)):=by
 intro a_ s σ H Q I h;refine wpAny_isTrue_Compare1 (thn (ha a_ s σ H _ I h) λv s1 ⟨x,H1,I1,r1,q1⟩=>thn (hb a_ s1 σ H1 _ I1 q1) λu s2 ⟨y,H2,I2,r2,q2⟩=>
  thn (ho a_ s2 σ H2 x y v u _ I2 r1 r2 q2) λc s3 ⟨z,H3,I3,r3,k,e,q3⟩=>?_) hm
 subst e;cases r3;exact X4 ⟨H3,I3,q3⟩
def Ei(K:Z6)(x:V)(H:Hp)(k:Bool):Prop:=
 match x with
 |.non=>k=false
 |.bl b=>k=b
 |.int i=>k=(i != 0)
 |.str y=>y.length<=sizeLine/\k=((y.length:Int) != 0)
 |.byt y=>y.size<=sizeLine/\k=((y.size:Int) != 0)
 |.ref p=>(∃xs,SqL K H p xs/\k=!xs.isEmpty)\/(∃xs,SqT K H p xs/\k=!xs.isEmpty)\/∃b_,H p=some (.dK b_)/\k=!b_.isEmpty
 |_=>False
def pj{κ:Type}{b_:Z8 (κ×V)}{vs:Z8 (κ×Z3)}(r:KV b_ vs):(!vs.isEmpty)=!b_.isEmpty:=by
 cases r<;>rfl
def gK(r:Vals xs its):(!its.toArray.isEmpty)=!xs.isEmpty:=by
 cases r<;>simp
def j9:(sizeLine:Nat)<2 ^ 63:=by rw[X3];decide
def BV:Fe X (λx H Q=>∃k,Ei X.K x H k/\Q k H):=by
 intro a_ s σ H x v Q I rx h;obtain⟨k,e,q⟩:=h;have hl:=j9;have hs:sizeLine=16777216:=X3;cases x with
 |non=>
  cases rx;have e':k=false:=e;subst e';exact truthy_none ⟨H,I,q⟩
 |bl b=>
  cases rx;have e':k=b:=e;subst e';exact X4 ⟨H,I,q⟩
 |int i=>
  obtain⟨t,rfl⟩:=rx;have e':k=(i != 0):=e;subst e';exact PySem.P.truthy_int ⟨H,I,q⟩
 |str y=>
  obtain⟨t,rfl⟩:=rx;obtain⟨hy,e'⟩:y.length<=sizeLine/\k=((y.length:Int) != 0):=e;subst e';exact PySem.P.truthy_str (by lia) ⟨H,I.tok _,q⟩
 |byt y=>
  obtain⟨t,rfl⟩:=rx;obtain⟨hy,e'⟩:y.size<=sizeLine/\k=((y.size:Int) != 0):=e;subst e';exact PySem.W.truthy_bytes (by lia) ⟨H,I.tok _,q⟩
 |ref p=>
  cases rx;have e':(∃xs,SqL X.K H p xs/\k=!xs.isEmpty)\/(∃xs,SqT X.K H p xs/\k=!xs.isEmpty)\/∃b_,H p=some (.dK b_)/\k=!b_.isEmpty:=e
  rcases e' with⟨xs,hx,e'⟩|⟨xs,hx,e'⟩|⟨b_,hx,e'⟩
  .subst e'
   obtain⟨its,r,pl,hz⟩:=I.list hx;have hlen:=r.length;exact wpAny_truthy_list pl.isList (by simp only[ZU];lia) ⟨H,I.tok _,by rw[gK r];exact q⟩
  .subst e'
   obtain⟨its,r,pl,hz⟩:=I.tuple hx;have hlen:=r.length;exact truthy_tuple pl (by simp only[ZU];lia) ⟨H,I.tok _,by rw[gK r];exact q⟩
  .subst e'
   obtain⟨hz,hS,vs,r,m⟩:b_.length<=sizeLine/\(p==sysModules)=false/\∃vs,KV b_ vs/\s.heap.DictOf (bA X.prog X.w) p vs:=I.hok p _ hx;have hlen:b_.length=vs.length:=Yo r;exact wpAny_truthy_dict hS m (by lia) ⟨H,I.tok _,by rw[pj r];exact q⟩
 |_=>exact(show False from e).elim
def mO(ha:PE X a ta)(he:∀whole,isTrue a X.env whole=(do let v <-whole;standAt a.pos;holding [v] (truthy v))):
  PT X a (λσ H Q=>ta σ H λx H'=>∃k,Ei X.K x H' k/\Q k H'):=by
 intro a_ s σ H Q I h;exact isTrue_plain (thn (ha a_ s σ H _ I h) λv s1 hz=>by obtain⟨x,H1,I1,r1,q1⟩:=hz;exact BV a_ s1 σ H1 x v Q I1 r1 q1) (he _)
def oF:OpR X (binaryOp .Add) (λx y H Q=>∃i j,x=.str i/\y=.str j/\i.length+j.length<=sizeLine/\Q (.str (i++j)) H):=by
 intro a_ s σ H x y v u Q I rx ry h;obtain⟨i,j,rfl,rfl,hz,q⟩:=h;obtain⟨t,rfl⟩:=rx;obtain⟨t',rfl⟩:=ry;exact add_str (λt' tk=>⟨.str (i++j),H,I.tok _,⟨_,rfl⟩,q⟩) hz
def gm(r:Vals [x] us):∃u,us=[u]/\RelV x u:=by
 cases r with
 |cons r1 r2=>cases r2;exact⟨_,rfl,r1⟩
def Dg(r:Vals [x,y] us):∃u w',us=[u,w']/\RelV x u/\RelV y w':=by
 cases r with
 |cons r1 r2=>
  cases r2 with
  |cons r3 r4=>cases r4;exact⟨_,_,rfl,r1,r3⟩
end
structure ObjM (h:Heap)(x dx C:ZN)(mA:Str->Z9 Z3):Prop where
 obj:h.get? x=some (PySem.W.instObj C dx)
 ns:h.Ns1 dx mA
 ne:dx≠x
def si{h:Heap}(n:h.Ns1 dx mA):∃od,h.get? dx=some od/\∀name,PySem.W.lookIn name od=some (mA name):=by
 obtain⟨o,es,ep,ho,hd,hk,_,hm⟩:=n;refine⟨o,ho,λname=>?_⟩
 have e:=hm name;unfold nsFind findBy at e;rw[<-Array.find?_toList]at e
 unfold PySem.W.lookIn;rw[hd];dsimp only;split
 .rename_i y q
  rw[q]at e;exact congrArg some e
 .rename_i q
  rw[q]at e;have a:es.toList.any (·.refKey)=false:=by
   rw[List.any_eq_false];intro y hy;obtain⟨z,t,u_⟩:=hk y (Array.mem_toList_iff.mp hy);simp[DictEntry.refKey,u_]
  have a':¬es.toList.any (·.refKey)=true:=by rw[a];exact Zn
  rw[ZY a'];exact congrArg some e
def ObjM.look(I:ObjM h x dx C mA):∃od,PySem.W.InstAt h x (PySem.W.instObj C dx) C (some od)/\∀name,PySem.W.lookIn name od=some (mA name):=
 let ⟨od,ho,hl⟩:=si I.ns
 ⟨od,⟨I.obj,rfl,rfl,ho⟩,hl⟩
section
end
def RelO.some_of(r:RelO (some v) o):∃u,o=some u/\RelV v u:=by
 cases o with
 |none=>exact(show False from r).elim
 |some u=>exact⟨u,rfl,r⟩
def RelO.none_of(r:RelO none o):o=none:=by
 cases o with
 |none=>rfl
 |some u=>exact(show False from r).elim
section
end
structure Cls (K:Z6)(C:ZN):Prop where
 pg:PySem.W.plainGet K C Str.empty=true
 hd:PySem.W.hasDictIn K C=true
 po:PySem.W.plainOver K C=true
 sa:PySem.W.findIn K (.ref C) "__setattr__"=some (some (.builtin "object.__setattr__"))
def Cls.get{K:Z6}{C:ZN}(c:Cls K C)(f:Str):PySem.W.plainGet K C f=true:=c.pg
section
end
section
end
section
variable{H:Hp}{Q:Z3->ZP->Prop}
inductive TyOf (K:Z6)(H:Hp):V->Z3->Prop where
 |non:TyOf K H .non (.type "NoneType")
 |bl (x:Bool):TyOf K H (.bl x) (.type "bool")
 |int (i:Int):TyOf K H (.int i) (.type "int")
 |str (x:Str):TyOf K H (.str x) (.type "str")
 |flt (x:UInt64):TyOf K H (.flt x) (.type "float")
 |lst {a:ZN}{xs:List V}(e:H a=some (.lst xs)):TyOf K H (.ref a) (.type "list")
 |frz {a:ZN}{o:Obj}{xs:List V}(e:H a=some (.frz o (.lst xs))):TyOf K H (.ref a) (.type "list")
 |tup {a:ZN}{xs:List V}(e:H a=some (.tup xs)):TyOf K H (.ref a) (.type "tuple")
 |dK {a:ZN}{b_:List (Key×V)}(e:H a=some (.dK b_)):TyOf K H (.ref a) (.type "dict")
def dn(I:Inv X a_ σ H s)(rx:RelV x u)(ty:TyOf X.K H x t)(e:PySem.W.kitOne X.K t c=some b)(h:∀tk,Q (.bool b) {s with toks:=tk}):
  wpAny (model X.prog X.w) A (call (.builtin "isinstance") [u,c]) Q E s:=by
 cases ty with
 |non=>cases (show u=Value.none from rx);exact Yz PySem.W.kitx_none I.kIn True.intro e (λz=>nomatch z) h
 |bl y=>cases (show u=Value.bool y from rx);exact Yz PySem.W.kitx_bool I.kIn True.intro e (λz=>nomatch z) h
 |int i=>obtain⟨t,q⟩:=(show ∃t,u=Value.int i t from rx);cases q;exact Yz PySem.W.kitx_int I.kIn True.intro e (λz=>nomatch z) h
 |str y=>obtain⟨t,q⟩:=(show ∃t,u=Value.str y t from rx);cases q;exact Yz PySem.W.kitx_str I.kIn True.intro e (λz=>nomatch z) h
 |flt y=>obtain⟨t,q⟩:=(show ∃t,u=Value.float y t from rx);cases q;exact Yz PySem.W.kitx_float I.kIn True.intro e (λz=>nomatch z) h
 | @lst a xs ea=>
  cases (show u=Value.ref a from rx)
  obtain⟨_,_,n,_,h1⟩:=(show ObjOk X.prog X.w H s.heap a (.lst xs) from I.hok a _ ea)
  exact Yz PySem.W.kitx_list I.kIn ⟨_,h1,rfl⟩ e (λz=>nomatch z) h
 | @frz a ob xs ea=>
  cases (show u=Value.ref a from rx)
  obtain⟨_,_,_,n,_,h1⟩:=(show ObjOk X.prog X.w H s.heap a (.frz ob (.lst xs)) from I.hok a _ ea)
  exact Yz PySem.W.kitx_list I.kIn ⟨_,h1,rfl⟩ e (λz=>nomatch z) h
 | @tup a xs ea=>
  cases (show u=Value.ref a from rx)
  obtain⟨_,_,_,p⟩:=(show ObjOk X.prog X.w H s.heap a (.tup xs) from I.hok a _ ea)
  obtain⟨o,h1,h2,_⟩:=p;exact Yz PySem.W.kitx_tuple I.kIn ⟨o,h1,h2⟩ e (λz=>nomatch z) h
 | @dK a b_ ea=>
  cases (show u=Value.ref a from rx)
  obtain⟨_,_,vs,_,p⟩:=(show ObjOk X.prog X.w H s.heap a (.dK b_) from I.hok a _ ea)
  obtain⟨o,es,ep,h1,h2,_⟩:=p;exact Yz PySem.W.kitx_dict I.kIn ⟨o,h1,h2.1⟩ e (λz=>nomatch z) h
end
structure Room (k:Nat)(A:Za):Prop where
 hd:A.handled=none
 dp:A.depth+3*k+5<recursionLimit
 un:A.units+16*k+200<cLine
def Room.mono(r:Room k A)(h:j<=k):Room j A:=⟨r.hd,by have:=r.dp;lia,by have:=r.un;lia⟩
theorem Room.deeper(r:Room (k+1) A)(env:Env):Room k (A.deeper env):=
 ⟨r.hd,by have:=r.dp;show A.depth+1+3*k+5<_;lia,by have:=r.un;show A.units+3+16*k+200<_;lia⟩
theorem Room.in1(r:Room (k+1) A):Room k A.in1:=
 ⟨r.hd,by have:=r.dp;show A.depth+3*k+5<_;lia,by have:=r.un;show A.units+1+16*k+200<_;lia⟩
theorem Room.depth(r:Room k A):A.depth<recursionLimit:=by have:=r.dp;lia
theorem Room.units(r:Room k A):A.units+64<cLine:=by have:=r.un;lia
def tNil:TA:=λ_ H Q=>Q [] H
def oD(ta:TE)(tr:TA):TA:=λσ H Q=>ta σ H λx H1=>tr σ H1 λxs H2=>Q (x::xs) H2
section
variable{e:Expr}{t:TA}{pos:Pos}
def aI:PA X [] tNil:=λ_ _ _ _ H Q I h=>Calls.spliced_nil ⟨[],H,I,.nil,h⟩
def aq(ha:PE X e te)(hr:PA X es t)(hs:starEach (e::es) X.env=(false,eval e X.env)::starEach es X.env:=by rfl):PA X (e::es) (oD te t):=by
 intro pos a_ s σ H Q I h;rw[hs];show wpAny _ _ (spliced ((false,eval e X.env)::backTo pos (starEach es X.env))) _ _ s;refine Calls.spliced_cons (thn (ha a_ s σ H _ I h) λu s1 hz=>?_)
 obtain⟨x,H1,I1,r1,q1⟩:=hz;exact thn (hr pos a_ s1 σ H1 _ I1 q1) λus s2 hz=>by obtain⟨xs,H2,I2,r2,q2⟩:=hz;exact⟨x::xs,H2,I2,.cons r1 r2,q2⟩
def E8(t:TA):TE:=λσ H Q=>t σ H λxs H1=>xs.length<=sizeLine/\∀p,H1 p=none->Q (.ref p) (upd H1 p (.tup xs))
def FI(t:TA):TE:=λσ H Q=>t σ H λxs H1=>xs.length<=sizeLine/\∀p,H1 p=none->Q (.ref p) (upd H1 p (.lst xs))
def BI{x1}(h:PA X es t):PE X (.Tuple es x1 pos) (E8 t):=by
 intro a_ s σ H Q I hq;refine wpAny_Tuple_spliced (thn (h pos a_ s σ H _ I hq) λus s1 ⟨xs,H1,I1,r,z,q⟩=>⟨by rw[<-r.length];exact z,?_⟩)
 have hf:H1 s1.heap.objs.size=none:=I1.hok.fresh (ZQ _);refine⟨.ref s1.heap.objs.size,upd H1 s1.heap.objs.size (.tup xs),I1.laid (t':=s1.toks) (λb u e=>Z5 _ e) (ZQ _) ?_,rfl,q _ hf⟩
 exact⟨z,us,r,⟨_,ZK _ rfl,rfl,_,rfl⟩⟩
def AR(h:PA X es t):PE X (.List es pos) (FI t):=by
 intro a_ s σ H Q I hq;refine wpAny_List_spliced (thn (h pos a_ s σ H _ I hq) λus s1 ⟨xs,H1,I1,r,z,q⟩=>⟨by rw[<-r.length];exact z,?_⟩)
 have hf:H1 s1.heap.objs.size=none:=I1.hok.fresh (ZQ _);refine⟨.ref s1.heap.objs.size,upd H1 s1.heap.objs.size (.lst xs),I1.laid (t':=s1.toks) (λb u e=>Z5 _ e) (ZQ _) ?_,rfl,q _ hf⟩
 exact⟨z,us,0,r,ZK _ rfl⟩
end
abbrev Sp:=Z8 V->Hp->VK->XK->Prop
abbrev CXT:=Z8 Env->Hp->ZP->XK->Z3->ZP->Prop
structure Env0 (P:Y1)(w:YO)(K:Z6)(mg:Str->Z9 Z3)(base:Heap)(A:Za)(outer:List Env)(s:ZP)(H:Hp):Prop where
 frames:A.frames=some outer
 mod:Mod K mg base
 bs:∀b o,base.get? b=some o->s.heap.get? b=some o/\H b=none
 bsz:base.objs.size<=s.heap.objs.size
 funs:s.heap.FunFrames base outer
 frf:∀b∈frs outer,H b=none
 hok:HOk P w H s.heap
 bare:AllBare s.gens
 tabs:TabH H
def CE(outer:Z8 Env)(P:Y1)(w:YO)(H:Hp)(s:ZP)(Q:VK)(u:Z3)(s':ZP):Prop:=
 ∃v H',s'.os=s.os/\AllBare s'.gens/\Un (frs outer) [] H H' s.heap s'.heap/\HOk P w H' s'.heap/\RelV v u/\Q v H'
def CR(CX:CXT)(outer:Z8 Env)(P:Y1)(w:YO)(H:Hp)(s:ZP)(Q:VK)(E:XK)(r:Result)(s':ZP):Prop:=
 match r with
 |.ok (.ret u)=>CE outer P w H s Q u s'
 |.ok _=>False
 |.error e=>CX outer H s E e s'
structure FnOk (P:Y1)(w:YO)(K:Z6)(mg:Str->Z9 Z3)(base:Heap)(CX:CXT)(k:Nat)(f:ZN)(fd:FuncData)(ps:List Str)(sp:Sp):Prop where
 len:∀vs H Q E,sp vs H Q E->vs.length=ps.length
 run:∀(A:Za)(outer:List Env)(s:ZP)(H:Hp)(args:Args)(us:List Z3)(vs:List V)(Q:VK)(E:XK),Room k A->Env0 P w K mg base A outer s H->BindsTo s fd args (ps.zip us)->Vals vs us->sp vs H Q E->
  codeAny (model P w) A (.call (.ref f) args) (CR CX outer P w H s Q E) s
theorem Env0.in1{P:Y1}{w:YO}{K:Z6}{mg:Str->Z9 Z3}{base:Heap}{A:Za}{outer:Z8 Env}{s:ZP}{H:Hp}(e:Env0 P w K mg base A outer s H):
  Env0 P w K mg base A.in1 outer s H:=⟨e.frames,e.mod,e.bs,e.bsz,e.funs,e.frf,e.hok,e.bare,e.tabs⟩
section
def Inv.env0(I:Inv X a_ σ H s):Env0 X.prog X.w X.K X.mg X.base X.A X.stack s H:=
 ⟨I.ok.frames,I.ok.mod,I.bs,Zr I.ok.bsz I.sz,I.stack,I.stkFree,I.hok,I.bare,I.ok.tabs.to I.base.tbls⟩
def Inv.after(I:Inv X a_ σ H s)(h:CE X.stack X.prog X.w H s Q u s'):EP X a_ σ Q u s':=by
 obtain⟨v,H',os,bare,un,hok,r,q⟩:=h;obtain⟨hh,g,d,t,QQ⟩:=s';obtain rfl:QQ=s.os:=os;exact⟨v,H',I.call (h':=hh) (g':=g) (d':=d) (t':=t) (ch:=[]) un hok bare (λb z=>absurd z (by simp)),r,q⟩
end
def CM(sp:Sp)(dvs:Z8 V)(E:XK)(t:TA):TE:=λσ H Q=>t σ H λvs H1=>sp (vs++dvs) H1 Q E
def Binds(K:Z6)(fd:FuncData)(ps:Z8 Str)(ds:Z8 Z3):Prop:=
 ∀(s:ZP)(us:Z8 Z3),K.In s.heap->(us++ds).length=ps.length->BindsTo s fd ⟨us,[]⟩ (ps.zip (us++ds))
def Binds.all{K:Z6}{fd:FuncData}{ps:Z8 Str}(h:∀us:Z8 Z3,us.length=ps.length->bindArgs fd ⟨us,[]⟩=pure (ps.zip us)):Binds K fd ps []:=λs us _ hl=>by
 rw[Y_]at hl⊢;exact .of_eq (h us hl)
def r6(CX:CXT)(X:Cx)(E:XK):Prop:=∀(a_:Z8 (ZN×Obj))(σ:St)(H:Hp)(s:ZP)(e:Z3)(s':ZP),Inv X a_ σ H s->CX X.stack H s E e s'->X.xe e s'
section
variable{X:Cx}{e:Expr}
def BL(F:FnOk X.prog X.w X.K X.mg X.base CX k f fd ps sp)(hr:Room k X.A)(hb:Binds X.K fd ps ds)(hd:Vals dvs ds)(hx:r6 CX X E)(I:Inv X a_ σ H s)(r:Vals vs us)(h:sp (vs++dvs) H Q E):wpAny (model X.prog X.w) X.A (call (.ref f) us) (EP X a_ σ Q) X.xe s:=by
 have r2:Vals (vs++dvs) (us++ds):=r.append hd;have hl:(us++ds).length=ps.length:=by rw[<-r2.length];exact F.len _ _ _ _ h
 refine wpAny_call (W7 (F.run X.A X.stack s H ⟨us,[]⟩ (us++ds) (vs++dvs) Q E hr I.env0 (hb s us I.kIn hl) r2 h) λr s' hq=>?_)
 cases r with
 |error e=>exact hx a_ σ H s e s' I hq
 |ok fl=>
  cases fl with
  |ret u=>exact I.after hq
  |next=>exact False.elim hq
  |brk=>exact False.elim hq
  |cont=>exact False.elim hq
def qN(F:FnOk X.prog X.w X.K X.mg X.base CX k f fd ps sp)(hr:Room k X.A)(hg:Gl X x)(hm:X.mg x=some (.ref f))(hk:PySem.W.keepIn X.K (.ref f)=true)(hb:Binds X.K fd ps ds)(hd:Vals dvs ds)(hx:r6 CX X E)
  (ha:PA X (e::es) t)(Ht:(x==("__debug__":Str))=false:=by decide)(he:starEach (e::es) X.env=(false,eval e X.env)::starEach es X.env:=by rfl)(hpl:(backTo pos (starEach es X.env)).any (·.1)=false:=by rfl):
  PE X (.Call (.Name x p) (e::es) [] pos) (CM sp dvs E t):=by
 intro a_ s σ H Q I h;refine XJ (xM I hg hm ?_ Ht)
 refine PySem.W.callWith_K (h₀:=X.base) I.ok.mod.kin hk (thn (ha pos a_ s σ H _ I h) λus s1 ⟨vs,H1,I1,r,q⟩=>⟨I1.kIn,?_⟩) he hpl
 exact BL F hr hb hd hx I1 r q
end
section
end
structure FnScope (N P:List Str)(sc:Scope):Prop where
 kind:sc.kind=.function
 co:sc.isCoroutine=false
 gen:sc.isGenerator=false
 nd:N.Nodup
 pre:N.take P.length=P
 par:∀x∈P,sc.names.lookup x=some .local\/sc.names.lookup x=some .cell
 nofree:∀y∈sc.names,y.2≠.free
theorem ju{kindOf:Str->Z9 NameKind}{x:Str}:∀{binds:Z8 (Str×Z3)}{m:Str->Z9 Z3},(∀v,(x,v)∉binds)->bindL kindOf binds m x=m x
 |[],_,_=>rfl
 |(n,v)::r,m,h=>by
  unfold bindL;rw[ju λw hw=>h w (Z2 _ hw)]
  split
  .have:x≠n:=by rintro rfl;exact h v ZX
   simp[this]
  .rfl
theorem jV{kindOf:Str->Z9 NameKind}{x:Str}:∀{binds:Z8 (Str×Z3)}{m:Str->Z9 Z3},(∀v,(x,v)∉binds)->bindC kindOf binds m x=m x
 |[],_,_=>rfl
 |(n,v)::r,m,h=>by
  unfold bindC;rw[jV λw hw=>h w (Z2 _ hw)]
  split
  .rfl
  .have:x≠n:=by rintro rfl;exact h v ZX
   simp[this]
theorem kq{kindOf:Str->Z9 NameKind}:∀{P:Z8 Str}{vs:Z8 Z3}{i:Nat}{m:Str->Z9 Z3},P.Nodup->P[i]?=some x->vs[i]?=some v->kindOf x=some .local->
  bindL kindOf (P.zip vs) m x=some v
 |[],_,_,_,_,h,_,_=>by simp at h
 |_::_,[],_,_,_,_,h,_=>by simp at h
 |p::P,w::vs,0,m,nd,h1,h2,hk=>by
  simp at h1 h2;subst h1;subst h2;show bindL kindOf ((p,w)::P.zip vs) m p=_;unfold bindL;rw[ju λv hv=>(YJ.mp nd).1 (WQ hv).1,Z0 hk]
  simp
 |p::P,w::vs,i+1,m,nd,h1,h2,hk=>by
  show bindL kindOf ((p,w)::P.zip vs) m x=_;unfold bindL;exact kq (i:=i) (YJ.mp nd).2 (by simpa using h1) (by simpa using h2) hk
theorem jd{kindOf:Str->Z9 NameKind}:∀{P:Z8 Str}{vs:Z8 Z3}{i:Nat}{m:Str->Z9 Z3},P.Nodup->P[i]?=some x->vs[i]?=some v->kindOf x≠some .local->
  bindC kindOf (P.zip vs) m x=some v
 |[],_,_,_,_,h,_,_=>by simp at h
 |_::_,[],_,_,_,_,h,_=>by simp at h
 |p::P,w::vs,0,m,nd,h1,h2,hk=>by
  simp at h1 h2;subst h1;subst h2;show bindC kindOf ((p,w)::P.zip vs) m p=_;unfold bindC;rw[jV λv hv=>(YJ.mp nd).1 (WQ hv).1,ZY hk]
  simp
 |p::P,w::vs,i+1,m,nd,h1,h2,hk=>by
  show bindC kindOf ((p,w)::P.zip vs) m x=_;unfold bindC;exact jd (i:=i) (YJ.mp nd).2 (by simpa using h1) (by simpa using h2) hk
def cw(N:Z8 Str)(vs:Z8 V):St:=vs.map some++List.replicate (N.length - vs.length) none
noncomputable def mG(CX:CXT)(P:Y1)(w:YO)(K:Z6)(mg:Str->Z9 Z3)(base:Heap)(N:Z8 Str)(qual:Str)(scope:Scope)(f:ZN)(cd:Z3)(A:Za)(outer:Z8 Env)(s:ZP)(H:Hp)(E:XK):Cx where
 prog:=P
 w:=w
 K:=K
 mg:=mg
 base:=base
 A:=A.deeper (envOfC qual scope s.heap.objs.size f cd)
 N:=N
 o_:=s
 HE:=H
 env:=envOfC qual scope s.heap.objs.size f cd
 outer:=outer
 stack:=envOfC qual scope s.heap.objs.size f cd::outer
 ex:=[]
 calm:=true
 fn:=λ_=>true
 pn:=[]
 xe:=λe s'=>wpAny (model P w) (A.deeper (envOfC qual scope s.heap.objs.size f cd)) (leaving (envOfC qual scope s.heap.objs.size f cd) e) (λ_ Hm=>CX outer H s E e Hm) (λe' Hm=>CX outer H s E e' Hm) s'
def mL{sc:Scope}(h:sc.names.lookup x=some .cell):∃c,(cellsFrom n sc.names []).lookup x=some c:=by
 have q:=WY sc.names n [] (.inl h);exact Option.isSome_iff_exists.mp q
def jK{CX:CXT}{P:Y1}{w:YO}{K:Z6}{mg:Str->Z9 Z3}{base:Heap}{N ps:Z8 Str}{qual:Str}{scope:Scope}{f:ZN}{cd:Z3}{A:Za}{outer:Z8 Env}{s s1:ZP}{H:Hp}{E:XK}{us:Z8 Z3}{vs:Z8 V}
  (S:FnScope N ps scope) (hd:A.handled=none) (e0:Env0 P w K mg base A outer s H) (hl:vs.length=ps.length) (r:Vals vs us)
  (x:InCallC s s.heap.objs.size (bindL (envOfC qual scope s.heap.objs.size f cd).kindOf (ps.zip us) λ_=>none) (cellsFrom (s.heap.objs.size+1) scope.names []) (bindC (envOfC qual scope s.heap.objs.size f cd).kindOf (ps.zip us) λ_=>none) s1):
  Inv (mG CX P w K mg base N qual scope f cd A outer s H E) [] (cw N vs) H s1:=by
 have hpl:ps.length<=N.length:=by have:=congrArg List.length S.pre;rw[XE]at this;lia
 obtain⟨h1,tk,rfl,hk⟩:=x.done;have K1:∀b:ZN,b∉(mG CX P w K mg base N qual scope f cd A outer s H E).ex:=λb z=>absurd (show b∈([]:Z8 ZN) from z) (by simp)
 refine⟨⟨e0.mod,S.kind,rfl,rfl,ZQ _,λy z c h1 h2=>?_,λy hy=>?_,λy c _ h=>?_,λ_=>hd,Around.frames_deeper e0.frames,.inr ⟨rfl,rfl⟩,λb z=>absurd z (K1 b),e0.bs,e0.bsz,λb _ _=>K1 b,λb z=>absurd z (K1 b),e0.funs,e0.frf,e0.tabs⟩,
  rfl,e0.bare,Un.kept hk,⟨_,x.toInCall.ns,λi y v h1 h2 h3=>?_⟩,λy c h=>⟨_,x.cell y c h⟩,e0.hok.fresh (ZQ _),λy c h=>?_,λp hp=>absurd (show p∈([]:Z8 (ZN×Obj)) from hp) (by simp),e0.hok.kept hk,?_⟩
 .exact name_of_addr x.apart (YS h1) (YS h2)
 .have hy:scope.names.lookup y=some .cell\/scope.names.lookup y=some .free:=hy
  rcases hy with hy|hy
  .exact mL hy
  .exact absurd rfl (S.nofree _ (YS hy))
 .exact WW (x.above y c (YS h))
 .have hi:i<vs.length:=by
   unfold cw at h2
   by_cases hi:i<vs.length
   .exact hi
   .rw[Yi (by simpa using hi)]at h2
    rw[List.getElem?_replicate]at h2
    split at h2<;>cases h2
  have ha:vs[i]?=some v:=by
   unfold cw at h2;rw[Yt (by simpa using hi),Yv]at h2
   cases e:vs[i]? with
   |none=>rw[e]at h2;trivial
   |some a=>rw[e]at h2;cases h2;rfl
  obtain⟨u,hu,rv⟩:=r.get ha;have hp:ps[i]?=some y:=by
   rw[<-S.pre,List.getElem?_take_of_lt (by lia)];exact h1
  have ON:ps.Nodup:=by rw[<-S.pre];exact S.nd.sublist (List.take_sublist _ _)
  refine⟨u,rv,?_⟩
  rcases S.par y (Zg hp)with k|k
  .exact .inl ⟨k,kq ON hp hu k⟩
  .obtain⟨c,e⟩:=mL (n:=s.heap.objs.size+1) k
   refine .inr ⟨.inl k,c,e,?_⟩
   have q:=x.cell y c e;rw[jd ON hp hu (by show scope.names.lookup y≠_;rw[k];decide)]at q
   exact q
 .exact e0.hok.fresh (WW (x.above y c (YS h)))
 .unfold cw
  show _=N.length;rw[Zy,ZI,List.length_replicate]
  lia
def CW{CX:CXT}{P:Y1}{w:YO}{K:Z6}{mg:Str->Z9 Z3}{base:Heap}{k:Nat}{f:ZN}{name qual:Str}{params:Arguments}{body:Z8 Stmt}{scope:Scope}{dV kV doc pm F5 ct oc:Z3}{an od:Z9 ZN}
  {Kw:Array (Z9 Z3)}{N ps:Z8 Str}{sp:Sp}(lk:K.lookup f=some ⟨oc,od,.func (PySem.W.fnOf name qual params body scope dV kV doc pm an F5 ct),Kw⟩) (Gi:PySem.W.codeIn K F5 qual=true) (S:FnScope N ps scope)
  (len:∀vs H Q E,sp vs H Q E->vs.length=ps.length)
  (Gd:∀(A:Za)(outer:Z8 Env)(s:ZP)(H:Hp)(vs:Z8 V)(Q:VK)(E:XK),Room k (A.deeper (envOfC qual scope s.heap.objs.size f F5))->sp vs H Q E->
   ∃t,PSs (mG CX P w K mg base N qual scope f F5 A outer s H E) body t/\t {nx:=λ_ H'=>Q .non H',rt:=Q} (cw N vs) H):
  FnOk P w K mg base CX (k+1) f (PySem.W.fnOf name qual params body scope dV kV doc pm an F5 ct) ps sp:=by
 refine⟨len,λA outer s H args us vs Q E hr e0 hb r Jk=>?_⟩
 have hl:=len _ _ _ _ Jk;have KX:K.In s.heap:=e0.mod.kin.keeps λb o e=>(e0.bs b o e).1
 have lim:s.heap.NoLimit:=e0.mod.nolimit.keeps λb o e=>(e0.bs b o e).1
 have Ir:∀y∈ps.zip us,scope.names.lookup y.1=some .local\/(scope.names.lookup y.1=some .cell/\((cellsFrom (s.heap.objs.size+1) scope.names []).lookup y.1).isSome=true):=λ⟨n,v⟩ hy=>by
  rcases S.par n (WQ hy).1 with q|q
  .exact .inl q
  .exact .inr ⟨q,WY _ _ _ (.inl q)⟩
 refine codeAny_call_function hr.depth (KX _ _ lk) rfl S.co S.gen rfl (PySem.W.codeRec_of KX Gi) (hb _ _ _ _ ?_)
 refine wpAny_newFunctionEnv_cells S.kind Ir λenv he s1 x=>?_
 subst he;refine⟨lim.keeps x.toInCall.keep,codeAny_func ?_⟩
 obtain⟨t,ht,hq⟩:=Gd A outer s H vs Q E (hr.deeper _) Jk;have I:Inv (mG CX P w K mg base N qual scope f F5 A outer s H E) [] (cw N vs) H s1:=jK S hr.hd e0 hl r x;refine YU (ht [] s1 (cw N vs) H _ I hq) (λfl s' hs=>?_) λe s' hs=>hs
 have fin:∀{j_:St}{H':Hp}{v:V}{u:Z3},Inv (mG CX P w K mg base N qual scope f F5 A outer s H E) [] j_ H' s'->RelV v u->Q v H'->CE outer P w H s Q u s':=
  λ{j_ H' v u} J rv q=>⟨v,H',J.os,J.bare,J.base,J.hok,rv,q⟩
 cases fl with
 |ret u=>
  obtain⟨v,j_,H',J,rv,q⟩:=hs;exact fin J rv q
 |next=>
  obtain⟨j_,H',J,q⟩:=hs;exact fin (v:=V.non) (u:=Value.none) J rfl q
 |brk=>
  obtain⟨_,_,_,q⟩:=hs;exact False.elim q
 |cont=>
  obtain⟨_,_,_,q⟩:=hs;exact False.elim q
section
variable{X:Cx}{x:Str}{p pos:Pos}{e:Expr}{es:Z8 Expr}{t:TA}{id T:String}{r:Z8 V->Hp->VK->Prop}
def tCB(r:Z8 V->Hp->VK->Prop)(t:TA):TE:=λσ H Q=>t σ H λvs H1=>r vs H1 Q
def cN(hc:eM X (.builtin id) r)(hg:Gl X x)(hm:X.mg x=none)(hv:bootBuiltins x=some (.builtin id))(ha:PA X (e::es) t)(hn:x≠"__name__":=by decide)(Ht:(x==("__debug__":Str))=false:=by decide)(he:starEach (e::es) X.env=(false,eval e X.env)::starEach es X.env:=by rfl)(hpl:(backTo pos (starEach es X.env)).any (·.1)=false:=by rfl):PE X (.Call (.Name x p) (e::es) [] pos) (tCB r t):=by
 intro a_ s σ H Q I h;refine XJ (dG I hg hm hv ?_ hn Ht)
 exact PyProof.Rows.callWith_builtin1 (thn (ha pos a_ s σ H _ I h) λus s1 hz=>by obtain⟨vs,H1,I1,r1,q1⟩:=hz;exact hc a_ s1 σ H1 vs us Q I1 r1 q1) he hpl
def dw(hc:eM X (.type T) r)(hg:Gl X x)(hm:X.mg x=none)(hv:bootBuiltins x=some (.type T))(ha:PA X (e::es) t)(hn:x≠"__name__":=by decide)(Ht:(x==("__debug__":Str))=false:=by decide)(he:starEach (e::es) X.env=(false,eval e X.env)::starEach es X.env:=by rfl)(hpl:(backTo pos (starEach es X.env)).any (·.1)=false:=by rfl):PE X (.Call (.Name x p) (e::es) [] pos) (tCB r t):=by
 intro a_ s σ H Q I h;refine XJ (dG I hg hm hv ?_ hn Ht)
 exact Yw (thn (ha pos a_ s σ H _ I h) λus s1 hz=>by obtain⟨vs,H1,I1,r1,q1⟩:=hz;exact hc a_ s1 σ H1 vs us Q I1 r1 q1) he hpl
end
section
variable{κ:Type}[DecidableEq κ]
def d6(b_:Z8 (κ×V))(k:κ):Z9 V:=(b_.find? λkv=>decide (kv.1=k)).map (·.2)
noncomputable def d7(b_:Z8 (κ×V))(k:κ)(v:V):Z8 (κ×V):=
 if(b_.any λkv=>decide (kv.1=k))=true then b_.map (λkv=>if kv.1=k then(kv.1,v) else kv) else b_++[(k,v)]
def bG{p:κ×V}{r:Z8 (κ×V)}{k:κ}(e:p.1=k):d6 (p::r) k=some p.2:=by simp[d6,List.find?_cons,e]
def bE{p:κ×V}{r:Z8 (κ×V)}{k:κ}(e:¬p.1=k):d6 (p::r) k=d6 r k:=by simp[d6,List.find?_cons,e]
theorem dr(k:κ):∀b_:Z8 (κ×V),(b_.any λkv=>decide (kv.1=k))=(d6 b_ k).isSome
 |[]=>rfl
 |p::r=>by
  rw[List.any_cons]
  by_cases e:p.1=k
  .simp only[bG e,Zt e,Bool.true_or,Option.isSome_some]
  .rw[bE e,ZC e,Bool.false_or];exact dr k r
def bU(b_:Z8 (κ×V))(k:κ)(v:V):(d7 b_ k v).length<=b_.length+1:=by
 unfold d7;split
 .rw[ZI];lia
 .rw[Zy,List.length_cons,List.length_nil];lia
def iu{b_:Z8 (κ×V)}{k:κ}(v:V)(h:d6 b_ k=none):d7 b_ k v=b_++[(k,v)]:=by
 unfold d7;rw[dr,h];exact ZY (by decide)
def RelO.isSome_eq(r:RelO o u):o.isSome=u.isSome:=by
 cases o with
 |none=>cases u with
  |none=>rfl
  |some _=>exact(show False from r).elim
 |some _=>cases u with
  |none=>exact(show False from r).elim
  |some _=>rfl
theorem RelO.getD(r:RelO o u)(rd:RelV d d'):RelV (o.getD d) (u.getD d'):=by
 cases o with
 |none=>cases u with
  |none=>exact rd
  |some _=>exact(show False from r).elim
 |some _=>cases u with
  |none=>exact(show False from r).elim
  |some _=>exact r
def KV.val(r:KV b_ vs)(k:κ):RelO (d6 b_ k) (valueAt vs k):=by
 unfold KV at r
 induction r with
 |nil=>exact True.intro
 | @cons p q ps qs h t ih=>
  obtain⟨h1,h2⟩:=h
  by_cases e:p.1=k
  .have e':q.1=k:=h1.symm.trans e
   have b:valueAt (q::qs) k=some q.2:=by simp[valueAt,List.find?_cons,e']
   rw[bG e,b];exact h2
  .have e':¬q.1=k:=λz=>e (h1.trans z)
   have b:valueAt (q::qs) k=valueAt qs k:=by simp[valueAt,List.find?_cons,e']
   rw[bE e,b];exact ih
theorem KV.any(r:KV b_ vs)(k:κ):(b_.any λkv=>decide (kv.1=k))=vs.any λkv=>decide (kv.1=k):=by
 unfold KV at r
 induction r with
 |nil=>rfl
 |cons h t ih=>rw[List.any_cons,List.any_cons,ih,h.1]
def KV.repl(r:KV b_ vs)(k:κ)(ry:RelV y u):
  KV (b_.map λkv=>if kv.1=k then(kv.1,y) else kv) (vs.map λkv=>if kv.1=k then(kv.1,u) else kv):=by
 unfold KV at r⊢
 induction r with
 |nil=>exact .nil
 | @cons p q ps qs h t ih=>
  rw[Z1,Z1];refine .cons ?_ ih
  obtain⟨h1,h2⟩:=h
  by_cases e:p.1=k
  .rw[Z0 e,Z0 (h1.symm.trans e)];exact⟨h1,ry⟩
  .rw[ZY e,ZY (λz=>e (h1.trans z))];exact⟨h1,h2⟩
def KV.put(r:KV b_ vs)(k:κ)(ry:RelV y u):KV (d7 b_ k y) (stored vs k u):=by
 unfold d7 stored;rw[r.any k]
 by_cases e:(vs.any λkv=>decide (kv.1=k))=true
 .rw[Z0 e,Z0 e];exact r.repl k ry
 .rw[ZY e,ZY e];exact Paired.snoc r ⟨rfl,ry⟩
theorem KV.length(r:KV b_ vs):b_.length=vs.length:=Yo r
end
def pi(r:RelV (kV k) u):(bA P w).is k u=true:=by
 cases k with
 |inl i=>obtain⟨t,e⟩:=(show ∃t,u=Value.int i t from r);subst e;exact lN P w i t
 |inr x=>obtain⟨t,e⟩:=(show ∃t,u=Value.str x t from r);subst e;exact lP P w x t
theorem jD:∀{ks:Z8 Key}{us:Z8 Z3},Vals (ks.map kV) us->ItemsAre (bA P w) ks us
 |[],_,r=>by rw[Y6]at r;cases r;exact .nil
 |k::ks,_,r=>by
  rw[Z1]at r;cases r with
  |cons h t=>exact .cons (pi h) (jD t)
abbrev KT(H:Hp):Z8 (Z8 Key×V)->Z8 (Z8 Key×ZN×Z3)->Prop:=Paired λp q=>p.1=q.1/\H q.2.1=some (.tup (p.1.map kV))/\RelV p.2 q.2.2
def KT.val(r:KT H b_ xs)(k:Z8 Key):RelO (d6 b_ k) ((atKey xs k).map (·.2)):=by
 induction r with
 |nil=>exact True.intro
 | @cons p q ps qs h t ih=>
  obtain⟨h1,_,h2⟩:=h
  by_cases e:p.1=k
  .have e':q.1=k:=h1.symm.trans e
   have b:atKey (q::qs) k=some q.2:=by simp[atKey,List.find?_cons,e']
   rw[bG e,b];exact h2
  .have e':¬q.1=k:=λz=>e (h1.trans z)
   have b:atKey (q::qs) k=atKey qs k:=by simp[atKey,List.find?_cons,e']
   rw[bE e,b];exact ih
def KT.repl(r:KT H b_ xs)(k:Z8 Key)(ry:RelV y u):
  KT H (b_.map λkv=>if kv.1=k then(kv.1,y) else kv) (xs.map (putAt k u)):=by
 induction r with
 |nil=>exact .nil
 | @cons p q ps qs h t ih=>
  rw[Z1,Z1];refine .cons ?_ ih
  obtain⟨h1,h2,h3⟩:=h;unfold putAt
  by_cases e:p.1=k
  .rw[Z0 e,Z0 (h1.symm.trans e)];exact⟨h1,h2,ry⟩
  .rw[ZY e,ZY (λz=>e (h1.trans z))];exact⟨h1,h2,h3⟩
def KT.put(r:KT H b_ xs)(k:Z8 Key)(hb:H b=some (.tup (k.map kV)))(ry:RelV y u):
  KT H (d7 b_ k y) (storedH xs k b u):=by
 have e:(b_.any λkv=>decide (kv.1=k))=(atKey xs k).isSome:=by
  rw[dr,(r.val k).isSome_eq,Option.isSome_map]
 unfold d7 storedH;rw[e]
 by_cases q:(atKey xs k).isSome=true
 .rw[Z0 q,Z0 q];exact r.repl k ry
 .rw[ZY q,ZY q];exact Paired.snoc r ⟨rfl,hb,ry⟩
def KT.keeps(r:KT H b_ xs)(ht:∀b ys,H b=some (.tup ys)->H' b=some (.tup ys)):KT H' b_ xs:=
 Paired.mapP r λ_ _ z=>⟨z.1,ht _ _ z.2.1,z.2.2⟩
section
def nR(ok:HOk P w H h)(e:Rd H a u):ObjOk P w H h a u:=e.ok ok
def o0(ok:HOk P w H h)(e:Rd H a (.dK b_)):b_.length<=sizeLine/\(a==sysModules)=false/\∃vs,KV b_ vs/\h.DictOf (bA P w) a vs:=
 show ObjOk P w H h a (.dK b_) from nR ok e
def BA(ok:HOk P w H h)(e:H a=some (.dK b_)):b_.length<=sizeLine/\(a==sysModules)=false/\∃vs,KV b_ vs/\h.DictOf (bA P w) a vs:=o0 ok (.inl e)
def Eo(ok:HOk P w H h)(e:H a=some (.tup (ks.map kV))):(tupleKind (bA P w)).is h ks a:=by
 obtain⟨_,its,r,o,h1,h2,n,h3⟩:=(show ObjOk P w H h a (.tup (ks.map kV)) from ok a _ e)
 exact⟨o,its.toArray,n,h1,h2,h3,by simpa using jD r⟩
end
def Ch(H:Hp)(a:ZN)(y:V)(r:Z9 V):Prop:=
 ∃b_ k,Rd H a (.dK b_)/\y=kV k/\r=d6 b_ k
def DK(H:Hp)(a:ZN)(y v:V)(H':Hp):Prop:=
 ∃b_ k,H a=some (.dK b_)/\y=kV k/\b_.length<sizeLine/\H'=upd H a (.dK (d7 b_ k v))
section
variable{o:Z9 V}{A:Za}
def Inv.big(I:Inv X a_ σ H s):sysModules<s.heap.objs.size:=by
 have h:mainGlobals<s.heap.objs.size:=(I.mod.glob.keeps I.bk).lt;exact Nat.lt_trans (by decide) h
def rE(hu:A.units+1<cLine)(I:Inv X a_ σ H s)(g:Ch H a y (some v))(ry:RelV y u)(h:∀w' s',Inv X a_ σ H s'->RelV v w'->Q w' s'):
  wpAny (model X.prog X.w) A (getItem (.ref a) u) Q E s:=by
 obtain⟨b_,k,e,ey,l⟩:=g;subst ey;obtain⟨z,hd,vs,rel,dd⟩:=o0 I.hok e;obtain⟨w',hw,E_⟩:=RelO.some_of (v:=v) (o:=valueAt vs k) (by rw[l];exact rel.val k)
 exact wpAny_getItem_of (pi ry) dd.mapOf hw (h w' _ (I.tok _) E_)
def i8(I:Inv X a_ σ H s)(mu:Mut (H a))(hs:Heap.SameBut a s.heap h')(he:∃q,h'.get? a=some q)(new:ObjOk X.prog X.w (upd H a ob) h' a ob):
  Inv X a_ σ (upd H a ob) {s with heap:=h',toks:=t'}:=
 I.write (x:=a) (e:=a) mu (.inl rfl) (λb q hb z=>(hs.2 b hb).trans z) he new
def xh(z:b_.length<=sizeLine)(hd:(a==sysModules)=false)(rel:KV b_ vs)(dd:h'.DictOf (bA P w) a vs):
  ObjOk P w H' h' a (.dK b_):=⟨z,hd,vs,rel,dd⟩
def rX(hu:A.units+1<cLine)(I:Inv X a_ σ H s)(g:DK H a y v H')(ry:RelV y u)(rv:RelV v r)(h:∀s',Inv X a_ σ H' s'->Q () s'):
  wpAny (model X.prog X.w) A (setItem (.ref a) u r) Q E s:=by
 obtain⟨b_,k,e,ey,l,eH⟩:=g;subst ey eH;obtain⟨z,hd,vs,rel,dd⟩:=BA I.hok e;have hz:vs.length<=sizeLine:=by rw[<-rel.length];exact z
 have hl:(d7 b_ k v).length<=sizeLine:=by have:=bU b_ k v;lia
 refine wpAny_setItem_pairs (hsz:=hz) (pi ry) dd λh' HU hs=>h _ ?_
 have he:∃q,h'.get? a=some q:=let ⟨q,_,_,hq,_⟩:=HU;⟨q,hq⟩
 exact i8 I (by rw[e];exact True.intro) hs he (xh hl hd (rel.put k rv) HU)
end
section
end
def C8(i:Expr):Prop:=∀ov iv,subscripted i false ov iv=operate [ov,iv] (getItem ov iv)
def yd{prog:Y1}{w:YO}{A:Za}{E:Z3->ZP->Prop}{s:ZP}{env:Env}{value slice:Expr}{pos:Pos}{T id:String}{Q:Z3->ZP->Prop}
  (hl:typeLookup (.type T) "__getitem__"=pure (some (.builtin id))) (hs:C8 slice)
  (h:wpAny (model prog w) A (eval value env) (λo g_=>wpAny (model prog w) A (eval slice env) (λi d_=>d_.TypeIs o T/\wpAny (model prog w) A (getItem o i) Q E d_) E g_) E s):
  wpAny (model prog w) A (eval (.Subscript value slice pos) env) Q E s:=by
 refine Subscript_ (YU h (λo g_ F6=>YU F6 (λi d_ HY=>?_) λ_ _ x=>x) λ_ _ x=>x)
 obtain⟨hT,HY⟩:=HY;unfold subscriptTail;refine Z_ ?_
 rw[getitemInPython_of_ne hT.not_modules];refine Z_ (X6 hT hl ?_)
 have fin:wpAny (model prog w) A (subscripted slice false o i) (λr GN=>wpAny (model prog w) A (letTemporaryGo value o r >>= λ_=>pure r) Q E GN) E d_:=by
  rw[hs o i];exact wpAny_operating (YU HY (λr GN I_=>Z_ (wpAny_letTemporaryGo (Z4 I_))) λ_ _ x=>x)
 first
  |exact Z4 (Z_ fin)
  |exact Z_ (Z4 (Z_ fin))
  |exact Z_ fin
def kI(I:Inv X a_ σ H s)(g:Ch H a y o):s.TypeIs (.ref a) "dict":=by
 obtain⟨b_,k,e,_,_⟩:=g;obtain⟨_,_,vs,_,dd⟩:=o0 I.hok e;exact dd.typeIs
section
end
def u6(h:Heap)(hb:sysModules<h.objs.size):ObjOk P w H (h.push {cls:=.type "dict",data:=.dict #[]}) h.objs.size (.dK []):=
 ⟨Zs _,beq_eq_false_iff_ne.mpr (ZD (Zw hb)),[],.nil,Heap.DictOf.new h⟩
def tDNewK:TE:=λ_ H Q=>∀p,H p=none->Q (.ref p) (upd H p (.dK []))
section
def v0:PE X (.Dict [] [] pos) tDNewK:=λa_ s σ H Q I h=>
 wpAny_Dict_empty ⟨.ref s.heap.objs.size,_,I.laid (a:=s.heap.objs.size) (o:=.dK []) (t':=s.toks) (λ_ _ q=>Z5 _ q) (ZQ _) (u6 s.heap I.big),rfl,h _ (I.hok.fresh (ZQ _))⟩
end
section
variable{A:Za}
def BT(hu:A.units+1<cLine)(I:Inv X a_ σ H s)(g:Ch H a y o)(ry:RelV y u)(rd:RelV d r)(h:∀w' s',Inv X a_ σ H s'->RelV (o.getD d) w'->Q w' s'):
  wpAny (model X.prog X.w) A (call (.builtin "dict.get") [.ref a,u,r]) Q E s:=by
 obtain⟨b_,k,e,ey,l⟩:=g;subst ey;obtain⟨z,hd,vs,rel,dd⟩:=o0 I.hok e;refine call_meetsIn WK dd.typeIs PySem.F.entry_dict_get (PySem.F.args_dict_get_3 _ _ _) (meets_dict_get_default (bA X.prog X.w) a (pi ry) hd r) ⟨_,dd.mapOf,h _ _ (I.tok _) ?_⟩
 rw[l];exact(rel.val k).getD rd
end
section
end
section
end
section
end
end L2
namespace HT
open PySem PyProof.Rows
def rcLt_int(A:Za)(s:ZP)(a:Int)(t:Tok)(c:Int)(u:Tok)(prog:Y1)(w:YO)(E:Z3->ZP->Prop)(Q:Z3->ZP->Prop)(h:Q (.bool (decide (a<c))) s):
  wpAny (model prog w) A (richCompare .Lt (.int a t) (.int c u)) Q E s:=
 (PyProof.Rows.lt_int h:wpAny (model prog w) A (compareOp .Lt (.int a t) (.int c u)) Q E s)
section
open PySem.SeqAt
open PySem.AutoSeq1 (wpAny_loadPart')
open PySem.MeetsSeq PySem.MeetsSeq2 PySem.MeetsSeq3
end
section
def sIx(n d:Nat):Z9 Int->Nat
 |none=>d
 |some v=>if v<0 then(v+(n:Int)).toNat else min v.toNat n
theorem sIx_none(n d:Nat):sIx n d none=d:=rfl
def sIx_nat(n d k:Nat):sIx n d (some (k:Int))=min k n:=by
 show(if(k:Int)<0 then((k:Int)+(n:Int)).toNat else min (k:Int).toNat n)=min k n
 rw[ZY (by lia),Int.toNat_natCast]
end
end HT
namespace L2
open PySem PySem.Spec PyProof.Rows
variable[Lams]
abbrev TO:=St->Hp->(Z9 Int->Hp->Prop)->Prop
def PO(X:Cx)(e:Z9 Expr)(t:TO):Prop:=
 ∀(a_:Z8 (ZN×Obj))(s:ZP)(σ:St)(H:Hp)(Q:Z9 Int->Hp->Prop),Inv X a_ σ H s->t σ H Q->
  wpAny (model X.prog X.w) X.A (evalPart e X.env) (λu s'=>∃o H',Inv X a_ σ H' s'/\IsPart u o/\Q o H') X.xe s
def tNoPart:TO:=λ_ H Q=>Q none H
def Dw(t:TE):TO:=λσ H Q=>t σ H λx H1=>∃i,x=.int i/\Q (some i) H1
def n5:∀{us:Z8 Z3},Vals (ns.map V.int) us->IntsAre us ns:=by
 induction ns with
 |nil=>intro us r;rw[Y6]at r;cases r;exact .nil
 |cons n ns ih=>
  intro us r;rw[Z1]at r;cases r with
  |cons r1 r2=>
   obtain⟨t,e⟩:=r1;subst e;exact .cons n t (ih r2)
section
variable{X:Cx}{te:TE}{lo hi:Z9 Expr}{tl th:TO}
def xN:PO X none tNoPart:=by
 intro a_ s σ H Q I h;rw[evalPart_none];exact Z4 ⟨none,H,I,.none,h⟩
def yx(h:PE X e te):PO X (some e) (Dw te):=by
 intro a_ s σ H Q I hw;rw[evalPart_some];refine thn (h a_ s σ H _ I hw) λu s1 hz=>?_
 obtain⟨x,H1,I1,r1,q1⟩:=hz;obtain⟨i,rfl,q⟩:=q1;obtain⟨t,rfl⟩:=r1;exact⟨some i,H1,I1,.int i t,q⟩
def SlR(X:Cx)(r:V->Z9 Int->Z9 Int->Hp->VK->Prop):Prop:=
 ∀(a_:Z8 (ZN×Obj))(s:ZP)(σ:St)(H:Hp)(x:V)(v vl vu:Z3)(lo hi:Z9 Int)(sl:ZN)(Q:VK),Inv X a_ σ H s->RelV x v->s.heap.IsSliceOf sl vl vu .none->IsPart vl lo->IsPart vu hi->r x lo hi H Q->
  ∃T id,typeLookup (.type T) "__getitem__"=pure (some (.builtin id))/\s.TypeIs v T/\wpAny (model X.prog X.w) X.A (getItem v (.ref sl)) (EP X a_ σ Q) X.xe s
def tSl(r:V->Z9 Int->Z9 Int->Hp->VK->Prop)(te:TE)(tl th:TO):TE:=λσ H Q=>te σ H λx H1=>tl σ H1 λl H2=>th σ H2 λu H3=>r x l u H3 Q
def mY(hr:SlR X r)(he:PE X e te)(hl:PO X lo tl)(hu:PO X hi th):PE X (.Subscript e (.Slice lo hi none p2) pos) (tSl r te tl th):=by
 intro a_ s σ H Q I h;refine Subscript_ (thn (he a_ s σ H _ I h) λv s1 hz=>?_)
 obtain⟨x,H1,I1,r1,q1⟩:=hz;refine wpAny_Slice (thn (hl a_ s1 σ H1 _ I1 q1) λvl s2 ⟨l,H2,I2,pl,q2⟩=>thn (hu a_ s2 σ H2 _ I2 q2) λvu s3 hz=>?_)
 obtain⟨u,H3,I3,pu,q3⟩:=hz;rw[evalPart_none];refine Z4 ?_
 have I4:Inv X a_ σ H3 {s3 with heap:=s3.heap.push {cls:=.type "slice",data:=.fields #[vl,vu,.none]}}:=I3.kept (t':=s3.toks) λb ob q=>Z5 _ q
 obtain⟨T,id,hT,ht,hg⟩:=hr a_ {s3 with heap:=s3.heap.push {cls:=.type "slice",data:=.fields #[vl,vu,.none]}} σ H3 x v vl vu l u s3.heap.objs.size Q I4 r1 (Heap.IsSliceOf.new ..) pl pu q3
 show wpAny (model X.prog X.w) X.A (subscriptTail e (.Slice lo hi none p2) v (.ref s3.heap.objs.size)) (EP X a_ σ Q) X.xe {s3 with heap:=s3.heap.push {cls:=.type "slice",data:=.fields #[vl,vu,.none]}}
 exact tail_any (ops:=[.ref s3.heap.objs.size,v]) ht hT hg (by with_unfolding_all rfl)
def yg(xs:Z8 V)(lo hi:Z9 Int):Z8 V:=(xs.drop (HT.sIx xs.length 0 lo)).take (HT.sIx xs.length xs.length hi - HT.sIx xs.length 0 lo)
def lT(xs:Z8 V)(lo hi:Z9 Int):(yg xs lo hi).length<=xs.length:=by
 unfold yg;rw[XE,List.length_drop]
 lia
end
def ixN(n:Nat)(i:Int):Z9 Nat:=if 0<=i then(if i<n then some i.toNat else none) else if -(n:Int)<=i then some (i+n).toNat else none
def atI{α:Type}(xs:Z8 α)(i:Int):Z9 α:=(ixN xs.length i).bind λj=>xs[j]?
def zr(h:ixN n i=some j):seqIndex? i n=some j/\j<n/\ -(n:Int)<=i/\i<n:=by
 unfold ixN at h
 by_cases h0:0<=i
 .rw[Z0 h0]at h
  by_cases h1:i<n
  .rw[Z0 h1]at h
   have e:i.toNat=j:=Z7 h;exact⟨by rw[seqIndex_of h0 h1,e],by lia,by lia,h1⟩
  .rw[ZY h1]at h;trivial
 .rw[ZY h0]at h
  by_cases h1: -(n:Int)<=i
  .rw[Z0 h1]at h
   have e:(i+n).toNat=j:=Z7 h;exact⟨by rw[seqIndex_neg (by lia) h1,e],by lia,h1,by lia⟩
  .rw[ZY h1]at h;trivial
def lW{α:Type}{xs:Z8 α}{i:Int}{v:α}(h:atI xs i=some v):∃j,seqIndex? i xs.length=some j/\xs[j]?=some v/\j<xs.length/\ -(xs.length:Int)<=i/\i<xs.length:=by
 unfold atI at h;cases e:ixN xs.length i with
 |none=>rw[e]at h;trivial
 |some j=>
  rw[e]at h;obtain⟨h1,h2,h3,h4⟩:=zr e;exact⟨j,h1,h,h2,h3,h4⟩
def sK{α:Type}{xs:Z8 α}{j:Nat}{v:α}(h:xs[j]?=some v):atI xs (j:Int)=some v:=by
 have hj:j<xs.length:=(ZV.mp h).1
 have e:ixN xs.length (j:Int)=some j:=by
  unfold ixN;rw[Z0 (by lia),Z0 (by lia)];simp
 unfold atI;rw[e];exact h
def f7(b:Expr):Prop:=∀o i,subscripted b false o i=operate [o,i] (getItem o i)
def IxR(X:Cx)(r:R2):Prop:=
 ∀(value slice:Expr)(a_:Z8 (ZN×Obj))(s:ZP)(σ:St)(H:Hp)(x y:V)(v u:Z3)(Q:VK),Inv X a_ σ H s->RelV x v->RelV y u->r x y H Q->
  subscripted slice false v u=operate [v,u] (getItem v u)->wpAny (model X.prog X.w) X.A (subscriptTail value slice v u) (EP X a_ σ Q) X.xe s
def MtR(X:Cx)(id:String)(r:V->Z8 V->Hp->VK->Prop):Prop:=
 ∀(a_:Z8 (ZN×Obj))(s:ZP)(σ:St)(H:Hp)(x:V)(xs:Z8 V)(v:Z3)(us:Z8 Z3)(Q:VK),Inv X a_ σ H s->RelV x v->Vals xs us->r x xs H Q->
  wpAny (model X.prog X.w) X.A (call (.builtin id) (v::us)) (EP X a_ σ Q) X.xe s
structure Mc (v:Env)(o:Expr)(n:Str)(e:Expr)(es:List Expr)(ap cp:Pos):Prop where
 b:attributeBase o n v (eval o v)=eval o v
 f:((backTo cp (starEach (e::es) v)).all (λx=>!x.1)&&(backToKw cp (keywordEach [] v)).all (λx=>x.1.isSome)&&decide ((e::es).length+([]:List Keyword).length+(if([]:List Keyword).isEmpty then 0 else 1)<30))=true
 l:(ap.endLine==cp.line)=true
 s:starEach (e::es) v=(false,eval e v)::starEach es v
 p:(backTo cp (starEach es v)).any (·.1)=false
section
variable{X:Cx}{a b:Expr}{ta tb:TE}{pos:Pos}
def IxR.or(h:IxR X r)(h':IxR X r'):IxR X (λx y H Q=>r x y H Q\/r' x y H Q):=by
 intro value slice a_ s σ H x y v u Q I rx ry q hs
 rcases q with q|q
 .exact h value slice a_ s σ H x y v u Q I rx ry q hs
 .exact h' value slice a_ s σ H x y v u Q I rx ry q hs
def vF(hr:IxR X r)(ha:PE X a ta)(hb:PE X b tb)(hs:f7 b):PE X (.Subscript a b pos) (tOp r ta tb):=by
 intro a_ s σ H Q I h;exact Subscript_ (CH ha hb I h λv u s2 x y H2 I2 rx ry q=>hr a b a_ s2 σ H2 x y v u Q I2 rx ry q (hs _ _))
def DL(K:Z6):R2:=λx y H Q=>∃p xs i v,x=.ref p/\y=.int i/\SqL K H p xs/\atI xs i=some v/\Q v H
def Ek(K:Z6):R2:=λx y H Q=>∃p xs i v,x=.ref p/\y=.int i/\SqT K H p xs/\atI xs i=some v/\Q v H
def rIxS:R2:=λx y H Q=>∃z i c,x=.str z/\y=.int i/\z.length<=sizeLine/\atI z.cps.toList i=some c/\Q (.str ⟨#[c]⟩) H
def kY:IxR X (DL X.K):=by
 intro value slice a_ s σ H x y v u Q I rx ry h hs;obtain⟨p,xs,i,z,rfl,rfl,hq,he,q⟩:=h;cases rx;obtain⟨t,rfl⟩:=ry;obtain⟨its,r,pl,hz⟩:=I.list hq;obtain⟨j,h1,h2,h3,h4,h5⟩:=lW he;obtain⟨w,ew,E_⟩:=r.get h2;have hl:=r.length;have hn:=j9;have fin:EP X a_ σ Q w s:=⟨z,H,I,E_,q⟩
 by_cases h0:0<=i
 .have hj:i.toNat=j:=by
   rw[seqIndex_of h0 h5]at h1;exact Z7 h1
  exact item_listR pl.isList h0 (by lia) (by rw[hj];simpa using ew) fin hs
 .have hj:(i+(its.toArray.size:Int)).toNat=j:=by
   rw[seqIndex_neg (by lia) h4]at h1
   rw[ZU,<-hl];exact Z7 h1
  exact subscriptTail_builtinR (x:=w) pl.isList.typeIs slot_list_getitem.lookup
   (wpAny_getItem_list_neg (Q:=λr s'=>r=w/\EP X a_ σ Q r s') pl.isList (by lia) (by rw[ZU]<;>lia) (by lia) (by rw[hj];simpa using ew) ⟨rfl,fin⟩) hs
def A8:IxR X (Ek X.K):=by
 intro value slice a_ s σ H x y v u Q I rx ry h hs;obtain⟨p,xs,i,z,rfl,rfl,hq,he,q⟩:=h;cases rx;obtain⟨t,rfl⟩:=ry;obtain⟨its,r,pl,hz⟩:=I.tuple hq;obtain⟨j,h1,h2,h3,h4,h5⟩:=lW he;obtain⟨w,ew,E_⟩:=r.get h2;have hl:=r.length;have hn:=j9;have fin:EP X a_ σ Q w s:=⟨z,H,I,E_,q⟩;exact subscriptTail_builtinR (x:=w) pl.typeIs slot_tuple_getitem.lookup
  (getItem_tuple (j:=j) (Q:=λr s'=>r=w/\EP X a_ σ Q r s') pl (by lia) (by lia) (by rw[ZU,<-hl];exact h1) (by simpa using ew) ⟨rfl,fin⟩) hs
def wj:IxR X rIxS:=by
 intro value slice a_ s σ H x y v u Q I rx ry h hs;obtain⟨z,i,c,rfl,rfl,hz,he,q⟩:=h;obtain⟨t,rfl⟩:=rx;obtain⟨t',rfl⟩:=ry;obtain⟨j,h1,h2,h3,h4,h5⟩:=lW he;have hl:z.cps.toList.length=z.length:=by simp[Str.length]
 rw[hl]at h1 h4 h5;have hn:=j9;exact tail_any (typeIs_str s z t) slot_str_getitem.lookup (getItem_str (c:=c) (by
  have e1:decide (i< -(2 ^ 63:Int))=false:=ZC (by lia)
  have e2:decide (i>=2 ^ 63)=false:=ZC (by lia)
  rw[e1,e2,Bool.or_false]) (by rw[h1];simpa using h2) ⟨.str ⟨#[c]⟩,H,I.tok _,⟨_,rfl⟩,q⟩) hs
def rIx(K:Z6):R2:=λx y H Q=>DL K x y H Q\/Ek K x y H Q\/rIxS x y H Q
def B2:IxR X (rIx X.K):=kY.or (A8.or wj)
def ku(lo hi:Z9 Int)(n:Nat):(sliceBounds lo hi none n).1=((HT.sIx n 0 lo:Nat):Int)/\(sliceBounds lo hi none n).2.1=((HT.sIx n n hi:Nat):Int)/\(sliceBounds lo hi none n).2.2=1:=by
 refine⟨?_,?_,rfl⟩
 .cases lo with
  |none=>simp[sliceBounds,HT.sIx]
  |some i=>
   simp only[sliceBounds,HT.sIx,Option.getD_none,show(1:Int)>0 by decide,Y2]
   by_cases h:i<0
   .simp only[h,Y2]<;>lia
   .simp only[h,Zc]<;>lia
 .cases hi with
  |none=>simp[sliceBounds,HT.sIx]
  |some i=>
   simp only[sliceBounds,HT.sIx,Option.getD_none,show(1:Int)>0 by decide,Y2]
   by_cases h:i<0
   .simp only[h,Y2]<;>lia
   .simp only[h,Zc]<;>lia
def i7(its:Z8 Z3)(lo hi:Z9 Int):slicePick its.toArray lo hi none=((its.drop (HT.sIx its.length 0 lo)).take (HT.sIx its.length its.length hi - HT.sIx its.length 0 lo)).toArray:=by
 obtain⟨h1,h2,h3⟩:=ku lo hi its.toArray.size;unfold slicePick;rw[h1,h2,h3];simp only[sliceRange_one,pick_run,ZU]<;>rfl
def FJ(K:Z6):V->Z9 Int->Z9 Int->Hp->VK->Prop:=λx lo hi H Q=>∃a xs,x=.ref a/\SqL K H a xs/\∀p,H p=none->Q (.ref p) (upd H p (.lst (yg xs lo hi)))
def yn:SlR X (FJ X.K):=by
 intro a_ s σ H x v vl vu lo hi sl Q I rx hs pl pu h;obtain⟨a,xs,rfl,hx,q⟩:=h;cases rx;obtain⟨its,r,ht,hz⟩:=I.list hx;have hlen:=r.length;refine⟨"list",_,slot_list_getitem.lookup,ht.isList.typeIs,?_⟩
 refine wpAny_getItem_list_slice ht.isList hs pl pu .none (by simp) ?_ (by rw[ZU]<;>lia)
 rw[i7,<-hlen];refine⟨.ref s.heap.objs.size,_,I.laid (t':=s.toks) (o:=.lst (yg xs lo hi)) (λb ob q=>Z5 _ q) (ZQ _) ?_,rfl,q _ (I.hok.fresh (ZQ _))⟩
 exact⟨Zr (lT xs lo hi) hz,_,0,(r.drop (HT.sIx xs.length 0 lo)).take (HT.sIx xs.length xs.length hi - HT.sIx xs.length 0 lo),ZK _ rfl⟩
def jt:eM X (.builtin "len") (λxs H Q=>∃p ys,xs=[.ref p]/\(SqL X.K H p ys\/SqT X.K H p ys)/\Q (.int ys.length) H):=by
 intro a_ s σ H xs us Q I r h;obtain⟨p,ys,rfl,hq,q⟩:=h;obtain⟨u,rfl,rx⟩:=gm r;cases rx;have hn:=j9
 rcases hq with hq|hq
 .obtain⟨its,r',pl,hz⟩:=I.list hq
  have hlen:=r'.length;exact Calls.call_len_list pl.isList (by simp only[ZU]<;>lia) ⟨.int ys.length,H,I.tok _,⟨s.toks+1,by rw[ZU,hlen]⟩,q⟩
 .obtain⟨its,r',pl,hz⟩:=I.tuple hq
  have hlen:=r'.length;exact len_tuple pl (by simp only[ZU]<;>lia) ⟨.int ys.length,H,I.tok _,⟨s.toks+1,by rw[ZU,hlen]⟩,q⟩
def ko:eM X (.type "list") (λxs H Q=>∃p ys,xs=[.ref p]/\(SqL X.K H p ys\/SqT X.K H p ys)/\∀l,H l=none->Q (.ref l) (upd H l (.lst ys))):=by
 intro a_ s σ H xs us Q I r h;obtain⟨p,ys,rfl,hq,q⟩:=h;obtain⟨u,rfl,rx⟩:=gm r;cases rx;have fin:∀(its:Z8 Z3),Vals ys its->ys.length<=sizeLine->∀(h':Heap)(c':Nat),(∀b o',s.heap.get? b=some o'->h'.get? b=some o')->
   h'.get? s.heap.objs.size=some {cls:=.type "list",dict:=none,data:=.seq its.toArray c',slots:=#[]}->EP X a_ σ Q (.ref s.heap.objs.size) {s with heap:=h'}:=λits r' hz h' c' kp e=>
  ⟨.ref s.heap.objs.size,_,I.laid (t':=s.toks) kp (ZQ _) (show ObjOk X.prog X.w _ h' _ (.lst ys) from⟨hz,its,c',r',e⟩),rfl,q _ (I.hok.fresh (ZQ _))⟩
 rcases hq with hq|hq
 .obtain⟨its,r',pl,hz⟩:=I.list hq
  have hlen:=r'.length;obtain⟨o,ho,hc,n,hd⟩:=pl.isList;exact call_list_seq p (.inl rfl) ho hc hd (λh' c' kp e=>fin its r' hz h' c' kp e) (by simp only[ZU]<;>lia)
 .obtain⟨its,r',pl,hz⟩:=I.tuple hq
  have hlen:=r'.length;obtain⟨o,ho,hc,n,hd⟩:=pl;exact call_list_seq p (.inr rfl) ho hc hd (λh' c' kp e=>fin its r' hz h' c' kp e) (by simp only[ZU]<;>lia)
def io:eM X (.type "tuple") (λxs H Q=>∃p ys,xs=[.ref p]/\((SqL X.K H p ys/\∀l,H l=none->Q (.ref l) (upd H l (.tup ys)))\/(SqT X.K H p ys/\Q (.ref p) H))):=by
 intro a_ s σ H xs us Q I r h;obtain⟨p,ys,rfl,h⟩:=h;obtain⟨u,rfl,rx⟩:=gm r;cases rx
 rcases h with⟨hq,q⟩|⟨hq,q⟩
 .obtain⟨its,r',pl,hz⟩:=I.list hq
  have hlen:=r'.length;refine call_tuple_list pl.isList (λh' kp=>?_) (by simp only[ZU]<;>lia)
  have I1:Inv X a_ σ H {s with heap:=h'}:=I.kept (t':=s.toks) kp
  have I2:Inv X a_ σ (upd H h'.objs.size (.tup ys)) {s with heap:=h'.push {cls:=.type "tuple",data:=.seq its.toArray}}:=
   I1.laid (t':=s.toks) (λb o e=>Z5 _ e) (ZQ _) (show ObjOk X.prog X.w _ _ _ (.tup ys) from⟨hz,its,r',IsTup.new _ _⟩)
  exact⟨.ref h'.objs.size,_,I2,rfl,q _ (I1.hok.fresh (ZQ _))⟩
 .obtain⟨its,r',pl,hz⟩:=I.tuple hq
  exact call_tuple_same pl ⟨.ref p,H,I,rfl,q⟩
def tyV(K:Z6)(T:String)(x:V)(H:Hp):Prop:=match x with
 |.str _=>T="str"
 |.int _=>T="int"
 |.ref p=>(T="list"/\∃xs,SqL K H p xs)\/(T="tuple"/\∃o,K.lookup p=some o/\o.cls=.type "tuple"/\o.dict=none)\/
   (T="dict"/\∃b_,H p=some (.dK b_))
 |_=>False
def wm(I:Inv X a_ σ H s)(r:RelV x v)(ty:tyV X.K T x H):
  s.TypeIs v T/\∀a,v=.ref a->∃ob,s.heap.get? a=some ob/\ob.dict=none:=by
 cases x with
 |str z=>
  obtain⟨t,rfl⟩:=r;cases (show T="str" from ty)
  exact⟨typeIs_str s z t,λ_ e=>nomatch e⟩
 |int i=>
  obtain⟨t,rfl⟩:=r;cases (show T="int" from ty)
  exact⟨typeIs_int s i t,λ_ e=>nomatch e⟩
 |ref p=>
  cases r
  rcases ty with⟨rfl,xs,hq⟩|⟨rfl,o,hk,hc,hd⟩|⟨rfl,b_,hk⟩
  .obtain⟨its,_,pl,_⟩:=I.list hq
   refine⟨pl.isList.typeIs,λa e=>?_⟩
   cases e;obtain⟨o,n,e,c,hd,_⟩:=pl;exact⟨o,e,hd⟩
  .refine⟨⟨o,I.kIn p o hk,hc⟩,λa e=>?_⟩
   cases e;exact⟨o,I.kIn _ o hk,hd⟩
  .obtain⟨_,_,_,_,o,_,_,e,ex,_⟩:=I.hok p _ hk
   refine⟨⟨o,e,ex.1⟩,λa e2=>?_⟩
   cases e2;exact⟨o,e,ex.2.1⟩
 |_=>exact False.elim ty
def Fq(K:Z6)(T:String)(r:V->Z8 V->Hp->VK->Prop)(to:TE):TE:=λσ H Q=>to σ H λx H1=>tyV K T x H1/\r x [] H1 Q
def tBM(K:Z6)(T:String)(r:V->Z8 V->Hp->VK->Prop)(to:TE)(t:TA):TE:=λσ H Q=>to σ H λx H1=>tyV K T x H1/\t σ H1 λxs H2=>r x xs H2 Q
variable{o e:Expr}{es:Z8 Expr}{to:TE}{t:TA}{name:Str}{apos ka:Pos}{T id:String}{r:V->Z8 V->Hp->VK->Prop}
def Bf(pa:PlainAttrs T)(slot:Slot T name id)(K7:typeOf (.builtin id)=pure (.type "method_descriptor"))(hm:MtR X id r)(ho:PE X o to)(Iv:attributeBase o name X.env (eval o X.env)=eval o X.env:=by rfl)(Iq:(apos.endLine==ka.line)=true:=by rfl):PE X (.Call (.Attribute o name apos) [] [] ka) (Fq X.K T r to):=by
 intro a_ s σ H Q I h;refine wpAny_Call_method0_late Iv Iq (thn (ho a_ s σ H _ I h) λv s1 hz=>?_)
 obtain⟨x,H1,I1,r1,ty,q1⟩:=hz;obtain⟨h1,h2⟩:=wm I1 r1 ty;exact⟨T,id,pa,slot,K7,h1,h2,Wz rfl (PySem.evalArgs_none (hm a_ s1 σ H1 x [] v [] Q I1 r1 .nil q1))⟩
def ky(pa:PlainAttrs T)(slot:Slot T name id)(K7:typeOf (.builtin id)=pure (.type "method_descriptor"))(hm:MtR X id r)(ho:PE X o to)(ha:PA X (e::es) t)(mc:Mc X.env o name e es apos ka):
  PE X (.Call (.Attribute o name apos) (e::es) [] ka) (tBM X.K T r to t):=by
 intro a_ s σ H Q I h;refine wpAny_Call_method_late mc.b mc.f mc.l rfl (thn (ho a_ s σ H _ I h) λv s1 hz=>?_)
 obtain⟨x,H1,I1,r1,ty,q1⟩:=hz;obtain⟨h1,h2⟩:=wm I1 r1 ty;refine⟨T,id,pa,slot,K7,h1,h2,?_⟩
 have hA:=ha ka a_ s1 σ H1 _ I1 q1;rw[mc.s]at hA⊢;refine Wz (by show(false||(backTo ka (starEach es X.env)).any (·.1))=false;rw[mc.p]<;>rfl) (Calls.evalArgs_plain ?_)
 exact thn hA λus s2 hz=>by obtain⟨vs,H2,I2,r2,q2⟩:=hz;exact hm a_ s2 σ H2 x vs v us Q I2 r1 r2 q2
end
def MtM(X:Cx)(id:String)(r:V->Z8 V->Hp->VK->Prop):Prop:=
 ∀(a_:Z8 (ZN×Obj))(s:ZP)(σ:St)(H:Hp)(x:V)(xs:Z8 V)(v:Z3)(us:Z8 Z3)(Q:VK),Inv X a_ σ H s->RelV x v->Vals xs us->r x xs H Q->
  wpAny (model X.prog X.w) X.A (call (.builtin id) (v::us)) (EP X a_ σ Q) X.xe s
def Vals.one(h:Vals [x] us):∃u,us=[u]/\RelV x u:=gm h
def Vals.two(h:Vals [x,y] us):∃u v,us=[u,v]/\RelV x u/\RelV y v:=by
 cases h with
 |cons r t=>
  obtain⟨u,rfl,q⟩:=gm t;exact⟨_,u,rfl,r,q⟩
def Vals.zero:∀{us:Z8 Z3},Vals [] us->us=[]
 |_,.nil=>rfl
theorem Vals.dropLast(h:Vals xs us):Vals xs.dropLast us.dropLast:=by
 induction h with
 |nil=>exact .nil
 |cons r t ih=>
  cases t with
  |nil=>exact .nil
  |cons q t'=>exact .cons r ih
def oI{α:Type}(l:Z8 α):l.eraseIdx (l.length - 1)=l.dropLast:=by
 induction l with
 |nil=>rfl
 |cons a r ih=>
  cases r with
  |nil=>rfl
  |cons b r=>
   have e:(a::b::r).length - 1=((b::r).length - 1)+1:=by
    have h1:(a::b::r).length=r.length+2:=rfl;have h2:(b::r).length=r.length+1:=rfl
    lia
   rw[e,List.eraseIdx_cons_succ,ih]
   all_goals rfl
section
def Inv.lset{its its':Z8 Z3}{f:Array Z3->Array Z3}{t':Nat}(I:Inv X a_ σ H s)(hH:H l=some (.lst xs))(e:s.heap.get? l=some {cls:=.type "list",data:=.seq its.toArray n})(hf:f its.toArray=its'.toArray)(hv:Vals ys its')(hz:ys.length<=sizeLine):
  Inv X a_ σ (upd H l (.lst ys)) {s with heap:=s.heap.update l (Obj.mapSeq f),toks:=t'}:=by
 have q:=PySem.IsL.update e f;rw[hf]at q;refine I.write (x:=l) (e:=l) (by rw[hH];exact trivial) (.inl rfl) (λb' u hb hu=>(Zm s.heap (Obj.mapSeq f) (ZD hb)).trans hu) ⟨_,q⟩ ?_
 exact⟨hz,its',_,hv,q⟩
def Inv.lnew(I:Inv X a_ σ H s)(hv:Vals ys its)(hz:ys.length<=sizeLine):
  Inv X a_ σ (upd H s.heap.objs.size (.lst ys)) {s with heap:=s.heap.push {cls:=.type "list",data:=.seq its.toArray},toks:=t'}:=
 I.laid (λ_ _ q=>Z5 _ q) (ZQ _) ⟨hz,its,0,hv,ZK _ rfl⟩
theorem Inv.fresh(I:Inv X a_ σ H s):H s.heap.objs.size=none:=I.hok.fresh (ZQ _)
def Inv.lstM(I:Inv X a_ σ H s)(hH:H l=some (.lst xs)):xs.length<=sizeLine/\∃(its:Z8 Z3)(n:Nat),Vals xs its/\xs.length=its.length/\s.heap.get? l=some {cls:=.type "list",data:=.seq its.toArray n}:=by
 obtain⟨z,its,n,r,e⟩:=I.hok l _ hH;exact⟨z,its,n,r,r.length,e⟩
def uF(h:n<=sizeLine):Builtin.List.listTooLong n=false:=by
 unfold Builtin.List.listTooLong;exact ZC (by lia)
end
section
def rAppend:V->Z8 V->Hp->VK->Prop:=λx vs H Q=>∃l xs y,x=.ref l/\vs=[y]/\H l=some (.lst xs)/\xs.length<sizeLine/\Q .non (upd H l (.lst (xs++[y])))
def dh:MtM X "list.append" rAppend:=by
 intro a_ s σ H x vs v us Q I rx rv h;obtain⟨l,xs,y,rfl,rfl,hH,hz,q⟩:=h;cases rx;obtain⟨u,rfl,ru⟩:=rv.one;obtain⟨z,its,n,r,hl,e⟩:=I.lstM hH;refine WA F.slot_list_append ⟨_,e,rfl⟩ F.entry_list_append (F.args_list_append_2 _ _) (PySem.list_append l its.toArray n u (by rw[ZU];lia)) ⟨e,?_⟩
 refine⟨.non,_,I.lset (its':=its++[u]) hH e (by simp) (r.append (.cons ru .nil)) ?_,rfl,q⟩
 rw[Zy,List.length_singleton]
 lia
def rExtend:V->Z8 V->Hp->VK->Prop:=λx vs H Q=>∃l b xs zs,x=.ref l/\vs=[.ref b]/\H l=some (.lst xs)/\H b=some (.lst zs)/\xs.length+zs.length<=sizeLine/\Q .non (upd H l (.lst (xs++zs)))
def tw:MtM X "list.extend" rExtend:=by
 intro a_ s σ H x vs v us Q I rx rv h;obtain⟨l,b,xs,zs,rfl,rfl,hH,hB,hz,q⟩:=h;cases rx;obtain⟨u,rfl,ru⟩:=rv.one;cases ru;obtain⟨z,its,n,r,hl,e⟩:=I.lstM hH;obtain⟨z2,l_,n2,r2,Mx,e2⟩:=I.lstM hB;have hsz:its.toArray.size+l_.toArray.size<=sizeLine:=by rw[ZU,ZU];lia
 have LW:¬(!its.toArray.isEmpty&&Builtin.List.listTooLong (its.toArray.size+l_.toArray.size))=true:=by
  rw[uF hsz,WE];exact Zn
 refine WA F.slot_list_extend ⟨_,e,rfl⟩ F.entry_list_extend (F.args_list_extend_2 _ _)
  (AutoSeq1.list_extend_list_list_0 l its.toArray n b l_.toArray n2 LW (by rw[ZU];lia) (by lia)) ⟨e,e2,?_⟩
 refine⟨.non,_,I.lset (its':=its++l_) hH e (by simp) (r.append r2) ?_,rfl,q⟩
 rw[Zy]
 lia
def rPop:V->Z8 V->Hp->VK->Prop:=λx vs H Q=>∃l xs y,x=.ref l/\vs=[]/\H l=some (.lst xs)/\xs[xs.length - 1]?=some y/\Q y (upd H l (.lst xs.dropLast))
def BR:MtM X "list.pop" rPop:=by
 intro a_ s σ H x vs v us Q I rx rv h;obtain⟨l,xs,y,rfl,rfl,hH,hy,q⟩:=h;cases rx;have Q8:=rv.zero;subst Q8;obtain⟨z,its,n,r,hl,e⟩:=I.lstM hH;obtain⟨u,hu,ru⟩:=r.get hy;have Nd:its.toArray[its.toArray.size - 1]?=some u:=by
  show its.toArray[its.length - 1]?=some u;rw[<-Xn,<-hl]
  exact hu
 refine WA F.slot_list_pop ⟨_,e,rfl⟩ F.entry_list_pop (F.args_list_pop_1 _) (MeetsSeq.list_pop_last l its.toArray n u Nd (by rw[ZU];lia)) ⟨e,?_⟩
 refine⟨y,_,I.lset (its':=its.dropLast) hH e ?_ r.dropLast ?_,ru,q⟩
 .show its.toArray.eraseIdxIfInBounds (its.toArray.size - 1)=its.dropLast.toArray
  rw[ZU,List.eraseIdxIfInBounds_toArray,oI]
 .rw[List.length_dropLast]
  lia
end
section
set_option maxRecDepth 100000 in
end
section
end
end L2
namespace Att
open PySem PySem.W PySem.Calls PyProof.Rows
def fw:∀(ns:Z8 Int)(vs:Z8 Z3),WellAll P h vs (ns.map WData.int)->IntsAre vs ns:=by
 intro ns
 induction ns with
 |nil=>
  intro vs w;rw[Y6]at w;cases w;exact .nil
 |cons n ns ih=>
  intro vs w;rw[Z1]at w;cases w with
  |cons a b=>
   cases a;exact .cons _ _ (ih _ b)
def rT{l:OpenLaw}(hn:l.most=some n)(Ja:l.row.toRowW.claim.pre args=true)(Nf:WellAll P h vals args):
  ∃a vs ns,vals=[Value.ref a]/\args=[WData.list (ns.map WData.int)]/\h.get? a=some {cls:=.type "list",data:=.seq vs.toArray}/\IntsAre vs ns/\ns.length<=n:=by
 have Nh:WShape.hasAll [] args [.list .int]=true:=(pre_splitW Ja).1;have hc:l.pre.holds [] {args:=args}=true:=(pre_splitW Ja).2;obtain⟨d,r,rfl,h1,h2⟩:=hasAllW_cons Nh;obtain rfl:=hasAllW_nil h2;obtain⟨xs,rfl,h3⟩:=hasW_list h1;obtain⟨ns,rfl⟩:=items_int h3;have hlen:ns.length<=n:=by
  unfold OpenLaw.pre at hc;have h4:(WTm.not (.lt (.lit (.int (n:Int))) (.len (.arg 0)))).holds [] {args:=[.list (ns.map .int)]}=true:=by
   have h4:=(holds_andW hc).1;rw[hn]at h4;exact h4
  have h5:=condW_of h4 (w_not (w_lt w_lit (w_len_list (w_arg rfl))));rw[ZI]at h5;refine Nat.le_of_not_lt λq=>?_
  have q':(n:Int)<((ns.length:Nat):Int):=by lia
  first
   |(rw[Zt q']at h5;exact absurd h5 (by decide))
   |(simp at h5;lia)
 cases Nf with
 |cons w1 w2=>
  cases w2;cases w1 with
  |list ho GQ=>exact⟨_,_,ns,rfl,rfl,ho,fw ns _ GQ,hlen⟩
def tP(l:OpenLaw)(args:Z8 WData):l.row.toRowW.claim.post args (.bool true) args=true:=
 postW_of (r:=l.row.toRowW) (X:=(true==true))
  (show WShape.has [] (.bool true) .bool=true by first|rfl|decide|simp[WShape.has,WShape.arms,WShape.armsAll])
  (show(WTm.eq .res (.lit (.bool true))).value [] {args:=args,res:=some (.bool true),after:=args}=some (.bool (true==true)) from w_eq_bool (w_res rfl) w_lit) rfl
def attach_call{l:OpenLaw}{YP:YO->Heap->Prop}{d:DefRec}(hn:l.most=some n)(KI:d.params.defaults=[])(call:∀(w:YO)(o_ g_:ZP)(mg mb:Str->Z9 Z3)(fa:ZN)(o:Obj)(pm cd doc:Z3)(a:ZN)(vs:Z8 Z3)(ns:Z8 Int),
   Ground q loose [] XP w o_ mg mb g_.heap->YP w g_.heap->
   g_.heap.get? fa=some o->o.data=.func (docDef d.name d.params d.body d.scope pm cd doc)->g_.heap.CodeRec cd d.name->mg d.name=some (.ref fa)->
   g_.heap.get? a=some {cls:=.type "list",data:=.seq vs.toArray}->IntsAre vs ns->ns.length<=n->g_.gens=#[]->
   codeAny (model l.prog w) callerA (.call (.ref fa) ⟨[.ref a],[]⟩) (λr s'=>r=.ok (.ret (.bool true))/\OldK g_.heap s'.heap/\s'.os=g_.os/\AllBare s'.gens) g_):
  WalkO q loose XP YP l.row.toRowW d [] (λf vs=>PySem.call f vs):=by
 intro w o_ g_ mg mb G Y fa o pm cd doc dV kV ho hd Gi hD hmg hg args vals as Ja Ta O4 Nf Ha;obtain rfl:dV=.none:=Dflts.none hD KI;obtain rfl:kV=.none:=Dflts.noKw hD;obtain⟨a,vs,ns,rfl,rfl,J7,hints,hlen⟩:=rT hn Ja Nf;refine enter_call (W7 (call w o_ g_ mg mb fa o pm cd doc a vs ns G Y ho (fd_plain hd) Gi hmg J7 hints hlen hg) λr s' hq=>?_)
 obtain⟨rfl,h2,h3,h4⟩:=hq;exact⟨.inl ⟨.bool true,.bool true,[],rfl,λ_=>rfl,.bool true,tP l _,λ_=>⟨List.Pairwise.nil,λ_ hm=>(nomatch hm)⟩⟩,h2,h3,h4⟩
section
end
end Att
namespace L2
open PySem PySem.Spec PyProof.Rows
variable[Lams]
theorem jn:∀{vs:Z8 Z3}{ns:Z8 Int},IntsAre vs ns->Vals (ns.map V.int) vs
 |_,_,.nil=>.nil
 |_,_,.cons n t h=>.cons ⟨t,rfl⟩ (jn h)
def Di(H:Hp):Prop:=∀b,H b=none\/(∃o xs,H b=some (.frz o (.lst xs)))\/∃lq,H b=some (.tbl lq #[])
def dW:Hp:=λb=>match Lams.tb.find? (λq=>q.1==b)with
 |some q=>some (.tbl q.2 #[])
 |none=>none
def bw(h:dW b=some u):∃q∈Lams.tb,b=q.1/\u=.tbl q.2 #[]:=by
 unfold dW at h;split at h
 .rename_i q e
  obtain rfl:=Z7 h;have h1:=List.find?_some e
  exact⟨q,W_ e,(Zx.mp h1).symm,rfl⟩
 .trivial
def hZ(JN:∀q∈Lams.tb,∀r∈Lams.tb,q.1=r.1->q=r)(hq:q∈Lams.tb):dW q.1=some (.tbl q.2 #[]):=by
 unfold dW;cases e:Lams.tb.find? (λr=>r.1==q.1)with
 |none=>exact absurd (List.find?_eq_none.mp e q hq) (by simp)
 |some r=>
  have h1:=Zx.mp (List.find?_some (p:=λr:ZN×Str=>r.1==q.1) e)
  rw[JN r (W_ e) q hq h1]
def u8{K:Z6}{g_:ZP}{vs:Z8 Z3}(KX:K.In g_.heap)(Mv:g_.heap.Ns mainGlobals mg)(hb:g_.heap.Ns builtinsNs mb)(ME:∀x:Str,x≠"__name__"->mb x=bootBuiltins x)(FZ:g_.heap.NoLimit)(hg:g_.gens=#[])(ha:g_.heap.get? a=some {cls:=.type "list",data:=.seq vs.toArray})(hi:IntsAre vs ns)(hl:ns.length<=sizeLine)(hr:Room k callerA)(F:∀base:Heap,K.In base->base.Ns mainGlobals mg->FnOk P w K mg base CX k fa fd [x] sp)(Iu:∀(s:ZP)(u:Z3),BindsTo s fd ⟨[u],[]⟩ [(x,u)])(Jk:∀H:Hp,Di H->SqL K H a (ns.map V.int)->sp [.ref a] H (λv _=>v=.bl true) λ_ _ _=>False)(NJ:∀H e s',CX [] H g_ (λ_ _ _=>False) e s'->False)(JJ:∃bm ob,mg "__builtins__"=some (.ref bm)/\bm≠builtinsNs/\g_.heap.get? bm=some ob/\ob.cls=.type "module"/\ob.dict=some builtinsNs/\ob.data=.plain)(hT:∀q∈Lams.tb,g_.heap.get? q.1=some {cls:=.none,data:=.fields #[]}/\K.lookup q.1=none/\isCodeTable g_.heap q.1)(JN:∀q∈Lams.tb,∀r∈Lams.tb,q.1=r.1->q=r):
  codeAny (model P w) callerA (.call (.ref fa) ⟨[.ref a],[]⟩) (λr s'=>r=.ok (.ret (.bool true))/\OldK g_.heap s'.heap/\s'.os=g_.os/\AllBare s'.gens) g_:=by
 have rv:=jn hi;have NZ:=hi.length;have core:∀H:Hp,Di H->SqL K H a (ns.map V.int)->HOk P w H g_.heap->(∀b,H b≠none->(b=a/\K.lookup a=none)\/∃q∈Lams.tb,b=q.1)->TabH H->
   codeAny (model P w) callerA (.call (.ref fa) ⟨[.ref a],[]⟩) (λr s'=>r=.ok (.ret (.bool true))/\OldK g_.heap s'.heap/\s'.os=g_.os/\AllBare s'.gens) g_:=by
  intro H hO hS hok hA RZ;have GB:∀{b:ZN}{o:Obj},g_.heap.get? b=some o->H b=none->(uR g_.heap H).get? b=some o:=λe n=>uE e n
  have Lv:∀{b:ZN}{o:Obj},g_.heap.get? b=some o->o≠{cls:=.type "list",data:=.seq vs.toArray}->o≠{cls:=.none,data:=.fields #[]}->H b=none:=λ{b o} e n1 n2=>by
   cases q:H b with
   |none=>rfl
   |some u=>
    rcases hA b (by rw[q];simp)with⟨z,_⟩|⟨r,hr,z⟩
    .subst z;rw[ha]at e;exact absurd (Z7 e).symm n1
    .subst z;rw[(hT r hr).1]at e;exact absurd (Z7 e).symm n2
  have K1:∀{b:ZN}{o:Obj}{es:Array DictEntry}{ep:Nat},g_.heap.get? b=some o->o.data=.dict es ep->H b=none:=λ{b o es ep} e d=>
   Lv e (λz=>by subst z;trivial) λz=>by subst z;trivial
  have Mn:∀{b:ZN}{m:Str->Z9 Z3},g_.heap.Ns b m->(uR g_.heap H).Ns b m:=λ{b m} ⟨o,es,ep,e,d,r⟩=>⟨o,es,ep,GB e (K1 e d),d,r⟩
  have PM:K.In (uR g_.heap H):=λb o e=>GB (KX b o e) (by
   cases q:H b with
   |none=>rfl
   |some u=>
    rcases hA b (by rw[q];simp)with⟨z,z2⟩|⟨r,hr,z⟩
    .subst z;rw[z2]at e;trivial
    .subst z;rw[(hT r hr).2.1]at e;trivial)
  have hM:Mod K mg (uR g_.heap H):=⟨PM,Mn Mv,⟨mb,Mn hb,ME⟩,let ⟨mc,h1,h2⟩:=FZ;⟨mc,Mn h1,h2⟩,by
   obtain⟨bm,ob,b1,b2,b3,b4,b5⟩:=JJ;exact⟨bm,ob,b1,b2,GB b3 (Lv b3 (λz=>by subst z;cases b5.2) λz=>by subst z;cases b5.2),b4,b5⟩⟩
  have e0:Env0 P w K mg (uR g_.heap H) callerA [] g_ H:=⟨rfl,hM,λb o e=>zI e,Nat.le_of_eq (rQ _ _),trivial,λb hb=>absurd (show b∈([]:Z8 ZN) from hb) (by simp),hok,.of_eq hg,RZ⟩
  refine W7 ((F _ PM (Mn Mv)).run callerA [] g_ H ⟨[.ref a],[]⟩ [.ref a] [.ref a] _ _ hr e0 (Iu g_ (.ref a)) (.cons rfl .nil) (Jk H hO hS)) λr s' h=>?_
  cases r with
  |error e=>exact(NJ H e s' h).elim
  |ok fl=>
   cases fl with
   |next=>exact False.elim h
   |brk=>exact False.elim h
   |cont=>exact False.elim h
   |ret u=>
    obtain⟨v,H',os,bare,un,LN,r',q⟩:=h;have q':v=.bl true:=q;subst q';obtain rfl:u=Value.bool true:=r';refine⟨rfl,⟨λb o e=>?_,λb o e=>un.there b o e (by simp)⟩,os,bare⟩
    cases q:H b with
    |none=>exact .inl (un.keep b o e q (by intro z;exact absurd (show b∈([]:Z8 ZN) from z) (by simp)) (by simp))
    |some u=>
     rcases hO b with z|⟨ob,xs,z⟩|⟨lq,z⟩
     .rw[q]at z;trivial
     .have z2:=un.frzs b ob _ z
      obtain⟨e1,_⟩:=hok b _ z;obtain⟨e2,_⟩:=LN b _ z2;rw[e]at e1;obtain rfl:=Z7 e1;exact .inl e2
     .obtain⟨more,z2⟩:=un.tbls b lq _ z
      obtain⟨e1,_⟩:=hok b _ z;obtain⟨e2,_⟩:=LN b _ z2;rw[e]at e1;obtain rfl:=Z7 e1
      rcases hA b (by rw[q];simp)with⟨y,_⟩|⟨r,hr,y⟩
      .subst y;rw[ha]at e;cases e
      .subst y
       exact .inr (.inl ⟨(hT r hr).2.2,rfl,#[],more,rfl,e2⟩)
 have Qv:dW a=none:=by
  cases q:dW a with
  |none=>rfl
  |some u=>
   obtain⟨r,hr,e,_⟩:=bw q;have:=(hT r hr).1;rw[<-e,ha]at this;cases this
 have tok:∀(H:Hp) b u,dW b=some u->ObjOk P w H g_.heap b u:=λH b u z=>by
  obtain⟨r,hr,e,rfl⟩:=bw z;subst e;exact⟨(hT r hr).1,trivial,λpos cv e=>by cases e⟩
 cases hk:K.lookup a with
 |some o=>
  have e:=KX a o hk;rw[ha]at e;obtain rfl:=Z7 e;refine core dW (λb=>?_) (.inr ⟨_,vs.toArray,_,hk,rfl,rfl,rfl,by rw[ZU,NZ];exact hl,by simpa using rv⟩) (λb u z=>tok _ b u z) (λb z=>?_) λq hq=>⟨_,hZ JN hq⟩
  .cases q:dW b with
   |none=>exact .inl rfl
   |some u=>obtain⟨r,hr,e,rfl⟩:=bw q;exact .inr (.inr ⟨_,rfl⟩)
  .cases q:dW b with
   |none=>exact absurd q z
   |some u=>obtain⟨r,hr,e,_⟩:=bw q;exact .inr ⟨r,hr,e⟩
 |none=>
  refine core (λb=>if b=a then some (.frz {cls:=.type "list",data:=.seq vs.toArray} (.lst (ns.map V.int))) else dW b) (λb=>?_) (.inl (.inr ⟨{cls:=.type "list",data:=.seq vs.toArray},Z0 rfl⟩)) (λb u z=>?_) (λb z=>?_) λq hq=>⟨#[],?_⟩
  .by_cases hb:b=a
   .exact .inr (.inl ⟨_,_,Z0 hb⟩)
   .cases q:dW b with
    |none=>exact .inl ((ZY hb).trans q)
    |some u=>obtain⟨r,hr,e,rfl⟩:=bw q;exact .inr (.inr ⟨_,(ZY hb).trans q⟩)
  .by_cases hb:b=a
   .have z':=(Z0 hb).symm.trans z
    obtain rfl:=Z7 z';subst hb;exact⟨ha,by rw[ZI];exact hl,vs,_,rv,ha⟩
   .exact tok _ b u ((ZY hb).symm.trans z)
  .by_cases hb:b=a
   .exact .inl ⟨hb,hk⟩
   .cases q:dW b with
    |none=>exact absurd ((ZY hb).trans q) z
    |some u=>obtain⟨r,hr,e,_⟩:=bw q;exact .inr ⟨r,hr,e⟩
  .have FW:q.1≠a:=λz=>by rw[<-z,hZ JN hq]at Qv;trivial
   exact(ZY FW).trans (hZ JN hq)
abbrev CX0:CXT:=λ_ _ _ _ _ _=>False
abbrev E0:XK:=λ_ _ _=>False
def BP:r6 CX0 X E0:=λ_ _ _ _ _ _ _ h=>h.elim
structure Fun (K:Z6)(x qual:Str)(st:Stmt)(f:ZN)(fd:FuncData):Prop where
 ex:∃(oc:Z3)(od:Z9 ZN)(kV doc pm:Z3)(an:Z9 ZN)(F5 ct:Z3)(Kw:Array (Z9 Z3)),
  fd=PySem.W.fnOf x qual (defArgs st) (defBody st) (defScope st) .none kV doc pm an F5 ct/\K.lookup f=some ⟨oc,od,.func fd,Kw⟩/\PySem.W.codeIn K F5 qual=true
 kp:PySem.W.keepIn K (.ref f)=true
section
variable{P:Y1}{w:YO}{K:Z6}{mg:Str->Z9 Z3}{base:Heap}
def Fun.ok{x qual:Str}{st:Stmt}{f:ZN}{fd:FuncData}{N ps:Z8 Str}{k:Nat}{sp:Sp}(F:Fun K x qual st f fd)(S:FnScope N ps (defScope st))(len:∀vs H Q E,sp vs H Q E->vs.length=ps.length)
  (Gd:∀(A:Za)(outer:Z8 Env)(s:ZP)(H:Hp)(vs:Z8 V)(Q:VK)(E:XK),Room k (A.deeper (envOfC qual (defScope st) s.heap.objs.size f fd.code))->sp vs H Q E->
   ∃t,PSs (mG CX0 P w K mg base N qual (defScope st) f fd.code A outer s H E).nox (defBody st) t/\t {nx:=λ_ H'=>Q .non H',rt:=Q} (cw N vs) H):FnOk P w K mg base CX0 (k+1) f fd ps sp:=by
 obtain⟨oc,od,kV,doc,pm,an,F5,ct,Kw,rfl,lk,Gi⟩:=F.ex;refine CW lk Gi S len λA outer s H vs Q E hr Jk=>?_
 obtain⟨t,h,q⟩:=Gd A outer s H vs Q E hr Jk;exact⟨t,h.nox,q⟩
def Fun.binds{x qual:Str}{st:Stmt}{f:ZN}{fd:FuncData}{ps:Z8 Str}(F:Fun K x qual st f fd)
  (h:∀(kV doc pm:Z3)(an:Z9 ZN)(F5 ct:Z3)(us:Z8 Z3),us.length=ps.length->bindArgs (PySem.W.fnOf x qual (defArgs st) (defBody st) (defScope st) .none kV doc pm an F5 ct) ⟨us,[]⟩=pure (ps.zip us)):Binds K fd ps []:=by
 obtain⟨oc,od,kV,doc,pm,an,F5,ct,Kw,rfl,lk,Gi⟩:=F.ex;exact .all (h kV doc pm an F5 ct)
end
section
end
def vA{A B:Prop}(h:B):if false=true then A else B:=by
 rw[ZY Zn];exact h
def v8{A B:Prop}(h:A):if true=true then A else B:=by
 rw[Z0 rfl];exact h
def HO.nt:HO->Bool
 |.tbl _ _=>false
 |_=>true
abbrev HOn:={o:HO // o.nt=true}
def HOn.ok(o:HOn):HO.nt o.1=true:=o.2
structure Same (H H':Hp):Prop where
 get:∀b o,o.nt=true->H b=some o->H' b=some o
 tbl:∀b lq ps,H b=some (.tbl lq ps)->∃more,H' b=some (.tbl lq (ps++more))
theorem Same.app{H H':Hp}(s:Same H H')(b:ZN)(o:HO)(h:H b=some o)(n:o.nt=true:=by first|rfl|assumption|exact HOn.ok _):H' b=some o:=s.get b o n h
noncomputable instance Same.fn {H H':Hp}:CoeFun (Same H H') (λ_=>∀(b:ZN)(o:HO)(h:H b=some o)(n:o.nt=true:=by first|rfl|assumption|exact HOn.ok _),H' b=some o):=⟨@Same.app _ H H'⟩
def Same.refl(H:Hp):Same H H:=⟨λ_ _ _ h=>h,λb lq ps h=>⟨#[],by rw[Xb];exact h⟩⟩
def Same.trans(a:Same H H1)(b:Same H1 H2):Same H H2:=⟨λc o n h=>b.get c o n (a.get c o n h),λc lq ps h=>by
 obtain⟨m1,e1⟩:=a.tbl c lq ps h;obtain⟨m2,e2⟩:=b.tbl c lq _ e1;exact⟨m1++m2,by rw[e2,Array.append_assoc]⟩⟩
def Same.there(e:Same H H')(q:H l=some o):∃o',H' l=some o':=by
 cases n:o.nt with
 |true=>exact⟨o,e.get l o n q⟩
 |false=>
  cases o with
  |tbl lq ps=>obtain⟨m,q'⟩:=e.tbl l lq ps q;exact⟨_,q'⟩
  |_=>trivial
def Same.free(e:Same H H')(h:H' l=Option.none):H l=Option.none:=by
 cases q:H l with
 |none=>rfl
 |some o=>
  obtain⟨o',q'⟩:=e.there q;rw[q']at h
  trivial
def Same.keep(e:Same Hk H)(k:∀c o o',Hk c=some o'->H c=some o->H' c=some o):Same Hk H':=
 ⟨λc o n q=>k c o o q (e.get c o n q),λc lq ps q=>by
  obtain⟨m,q'⟩:=e.tbl c lq ps q;exact⟨m,k c _ _ q q'⟩⟩
def Same.put(e:Same Hk H)(h:Hk b=none):Same Hk (upd H b o):=
 e.keep λc o' o2 q1 q2=>by rw[ai (ar q1 h)];exact q2
section
variable{κ:Type}[DecidableEq κ]
def vc{b_:Z8 (κ×V)}{k:κ}(h:d6 b_ k=none):¬k∈b_.map (·.1):=by
 intro m;obtain⟨p,hp,e⟩:=ZL.mp m;have q:(b_.any λkv=>decide (kv.1=k))=true:=X0.mpr ⟨p,hp,Zt e⟩
 rw[dr,h]at q;exact absurd q (by simp)
end
noncomputable abbrev ax(X:Cx)(scope:Scope)(cl:Z8 (Str×ZN))(C:ZN)(d_:ZP)(e_:Hp)(ex:Z8 ZN)(pn:Z8 (ZN×Obj)):Cx:=
 {X with o_:=d_,HE:=e_,env:=compEnvC scope cl C X.env,outer:=X.stack,stack:=X.stack,ex:=ex,fn:=λ_=>false,pn:=pn,xe:=λ_ _=>False}
def pE(bs:Z8 Bool)(σ:St):St:=List.zipWith (λ(b:Bool) o=>if b=true then o else none) bs σ
def db(h:bs.length=σ.length):(pE bs σ).length=σ.length:=by
 unfold pE;rw[List.length_zipWith,h,Nat.min_self]
def vW{bs:Z8 Bool}{σ:St}{i:Nat}{v:V}(h:(pE bs σ)[i]?=some (some v)):bs[i]?=some true/\σ[i]?=some (some v):=by
 unfold pE at h;rw[WJ]at h
 cases e1:bs[i]? with
 |none=>rw[e1]at h;simp at h
 |some b=>
  cases e2:σ[i]? with
  |none=>rw[e1,e2]at h;simp at h
  |some o=>
   rw[e1,e2]at h;simp only[ZM]at h;cases b with
   |false=>simp at h
   |true=>simp at h;exact⟨rfl,by rw[h]⟩
def PTs(X:Cx)(ifs:Z8 Expr)(t:TT):Prop:=
 ∀(a_:Z8 (ZN×Obj))(s:ZP)(σ:St)(H:Hp)(Q:Bool->Hp->Prop),Inv X a_ σ H s->t σ H Q->
  wpAny (model X.prog X.w) X.A (forIn ifs true λc r=>if r=true then do let ok <-isTrue c X.env (eval c X.env);pure (ForInStep.yield ok) else pure (ForInStep.yield r)) (TP X a_ σ Q) X.xe s
def tTrue:TT:=λ_ H Q=>Q true H
def zA:PTs X [] tTrue:=λa_ s σ H Q I h=>wpAny_tests_nil ⟨H,I,h⟩
def xU(h:PT X c t):PTs X [c] t:=λa_ s σ H Q I hq=>wpAny_tests_one (h a_ s σ H Q I hq)
noncomputable def cu(env:Env):Z8 (Str×NameKind)->Z8 (Str×ZN)->Z8 (Str×ZN)
 |[],acc=>acc
 |(n,k)::r,acc=>if(k==NameKind.free)=true then cu env r ((n,(env.cells.lookup n).getD 0)::acc) else cu env r acc
theorem iW(env:Env):∀(names:Z8 (Str×NameKind))(acc:Z8 (Str×ZN)),(∀y∈names,y.2=.free->∃c,env.cells.lookup y.1=some c)->
  (forIn names acc (λ(x:Str×NameKind) (cs:Z8 (Str×ZN))=>(match x with
   |(name,kind)=>if(kind==.free)=true then(do let c <-cellOf env name;pure (ForInStep.yield ((name,c)::cs))) else pure (ForInStep.yield cs):Sem (ForInStep (Z8 (Str×ZN))))))=pure (cu env names acc)
 |[],acc,_=>rfl
 |(n,k)::r,acc,h=>by
  by_cases hk:k=.free
  .subst hk
   obtain⟨c,e⟩:=h (n,.free) ZX rfl;have ih:=iW env r ((n,c)::acc) λy hy=>h y (Z2 _ hy)
   have ec:cellOf env n=pure c:=by unfold cellOf;rw[e]
   rw[WO];simp only[X2,Y2,ec,pure_bind];rw[ih];simp only[cu,X2,Y2,e,Option.getD_some]
  .have hb:(k==NameKind.free)=false:=by simpa using hk
   have ih:=iW env r acc λy hy=>h y (Z2 _ hy)
   rw[WO];simp only[hb,ZJ,Zc,pure_bind];rw[ih]
   conv=>rhs;rw[cu.eq_def]
   simp only[hb,ZJ,Zc]
theorem cP(env:Env):∀(names:Z8 (Str×NameKind))(acc:Z8 (Str×ZN)),(∀y∈names,y.2=.free->∃c,env.cells.lookup y.1=some c)->
  (∀x c,acc.lookup x=some c->env.cells.lookup x=some c)->∀x c,(cu env names acc).lookup x=some c->env.cells.lookup x=some c
 |[],acc,_,ha=>ha
 |(n,k)::r,acc,h,ha=>by
  have hr:∀y∈r,y.2=.free->∃c,env.cells.lookup y.1=some c:=λy hy=>h y (Z2 _ hy)
  unfold cu
  by_cases hk:(k==NameKind.free)=true
  .rw[Z0 hk]
   obtain⟨c,e⟩:=h (n,k) ZX (eq_of_beq hk);refine cP env r _ hr λx d hx=>?_
   rw[List.lookup_cons]at hx;cases q:x==n with
   |true=>
    rw[q,e]at hx;rw[eq_of_beq q,e]
    simpa using hx
   |false=>rw[q]at hx;exact ha x d hx
  .rw[ZY hk];exact cP env r acc hr ha
theorem dE(env:Env)(x:Str):∀(names:Z8 (Str×NameKind))(acc:Z8 (Str×ZN)),((x,NameKind.free)∈names\/∃c,acc.lookup x=some c)->∃c,(cu env names acc).lookup x=some c
 |[],acc,h=>by
  rcases h with h|h
  .trivial
  .exact h
 |(n,k)::r,acc,h=>by
  unfold cu
  by_cases hk:(k==NameKind.free)=true
  .rw[Z0 hk]
   refine dE env x r _ ?_
   by_cases q:(x==n)=true
   .exact .inr ⟨_,by rw[List.lookup_cons,q]⟩
   .rcases h with h|⟨c,h⟩
    .rcases ZZ.mp h with h|h
     .cases h;simp at q
     .exact .inl h
    .exact .inr ⟨c,by rw[List.lookup_cons];simp[q,h]⟩
  .rw[ZY hk]
   refine dE env x r _ ?_
   rcases h with h|h
   .rcases ZZ.mp h with h|h
    .cases h;simp at hk
    .exact .inl h
   .exact .inr h
def dO(h:∀y∈scope.names,y.2=.free->∃c,env.cells.lookup y.1=some c):closureFor scope env=pure (cu env scope.names []):=by
 have e:=iW env scope.names [] h;have q:closureFor scope env=((forIn scope.names [] (λ(x:Str×NameKind) (cs:Z8 (Str×ZN))=>(match x with
   |(name,kind)=>if(kind==.free)=true then(do let c <-cellOf env name;pure (ForInStep.yield ((name,c)::cs))) else pure (ForInStep.yield cs):Sem (ForInStep (Z8 (Str×ZN)))))) >>= λcs=>pure cs):=rfl
 rw[q,e,pure_bind]
theorem bh{env:Env}:∀{names:Z8 (Str×NameKind)}{x:Str}{k:NameKind},
  (names.map λ(n,k)=>if(k==NameKind.free&&env.scope.kind==.function&&env.kindOf n==some .cell) then(n,NameKind.cell) else(n,k)).lookup x=some k->
  names.lookup x=some k\/(names.lookup x=some .free/\k=.cell)
 |[],_,_,h=>by simp at h
 |(n,k')::r,x,k,h=>by
  have ih:=@bh env r x k;have h':List.lookup x ((if(k'==NameKind.free&&env.scope.kind==.function&&env.kindOf n==some .cell)=true then(n,NameKind.cell) else(n,k'))::(r.map λ(n,k)=>if(k==NameKind.free&&env.scope.kind==.function&&env.kindOf n==some .cell) then(n,NameKind.cell) else(n,k)))=some k:=h
  by_cases hc:(k'==NameKind.free&&env.scope.kind==.function&&env.kindOf n==some .cell)=true
  .rw[Z0 hc]at h'
   rw[List.lookup_cons]at h'⊢;cases hx:x==n with
   |true=>
    rw[hx]at h';simp at h';have:k'=.free:=by
     have:=hc;simp only[ZH]at this;exact eq_of_beq this.1.1
    exact .inr ⟨by rw[this],h'.symm⟩
   |false=>rw[hx]at h';exact ih h'
  .rw[ZY hc]at h'
   rw[List.lookup_cons]at h'⊢;cases hx:x==n with
   |true=>rw[hx]at h';exact .inl h'
   |false=>rw[hx]at h';exact ih h'
noncomputable def nQ(wi:TI)(bs:Z8 Bool)(g:TG)(tt:TT)(te:TE):TE:=λσ H Q=>wi σ H λJ H1=>∀acc,H1 acc=none->
 ∃W:Nat->Nat->Z8 V->St->Hp->Prop,(∃m,W 0 m [] (pE bs σ) (upd H1 acc (.lst [])))/\∀i m ys σ H,W i m ys σ H->H acc=some (.lst ys)/\
  ((J.stop i H/\Q (.ref acc) H)\/(J.go i H/\∀x H',J.yld i H x H'->g x σ H' λF1 H2=>tt F1 H2 λok H3=>if ok=true
   then te F1 H3 λv H4=>H4 acc=some (.lst ys)/\ys.length<sizeLine/\∃m',m'<m/\W (i+1) m' (ys++[v]) F1 (upd H4 acc (.lst (ys++[v])))
   else ∃m',m'<m/\W (i+1) m' ys F1 H3))
section
variable{X:Cx}{scope:Scope}{bs:Z8 Bool}
structure CompScope (X:Cx)(scope:Scope)(bs:List Bool):Prop where
 kind:scope.kind=.function
 cell:∀y∈scope.names,y.2≠.cell
 loc:∀y∈scope.names,y.2=.local->scope.names.lookup y.1=some .local
 fre:∀y∈scope.names,y.2=.free->scope.names.lookup y.1=some .free/\(X.env.kindOf y.1=some .cell\/X.env.kindOf y.1=some .free)
 len:bs.length=X.N.length
 vis:∀(i:Nat)(x:Str),X.N[i]?=some x->bs[i]?=some true->scope.names.lookup x=some .free
theorem CompScope.has(S:CompScope X scope bs)(I:Inv X a_ σ H s):∀y∈scope.names,y.2=.free->∃c,X.env.cells.lookup y.1=some c:=λy hy e=>I.ok.has y.1 (S.fre y hy e).2
def uY{h':Heap}{m:Str->Z9 Z3}(S:CompScope X scope bs)(I:Inv X a_ σ H s)(hf:∀b∈fp,eP X a_ H b)(ho:∀b∈fp,∃o,s.heap.get? b=some o)
  (Mv:h'.Ns s.heap.objs.size m)(hk:∀b o,s.heap.get? b=some o->h'.get? b=some o){t':Nat}:
  Inv (ax X scope (cu X.env scope.names []) s.heap.objs.size s H fp (X.pn++a_)) [] (pE bs σ) H {s with heap:=h',toks:=t'}:=by
 have hh:=S.has I;have cons:=cP X.env scope.names [] hh (λx c e=>by simp at e)
 refine⟨⟨I.ok.mod,S.kind,I.ok.glob,I.ok.blt,ZQ _,λx y c h1 h2=>I.ok.inj x y c (cons x c h1) (cons y c h2),λx hx=>?_,(λx c h=>nomatch h),I.ok.hd,I.ok.frames,.inl rfl,λb hb=>⟨?_,λx c e=>(hf b hb).2.2.2.2.1 x c (cons x c e)⟩,
  I.bs,Zr I.ok.bsz I.sz,λb o e hb=>?_,λb hb z=>?_,I.stack,I.stkFree,I.ok.tabs.to I.base.tbls⟩,
  rfl,I.bare,Un.kept hk,⟨m,Mv,λi x v e1 e2 e3=>?_⟩,λx c e=>?_,I.hok.fresh (ZQ _),λx c e=>I.freeC x c (cons x c e),λp hp=>?_,I.hok.kept hk,?_⟩
 .have IB:(relabel scope X.env).names.lookup x=some .cell\/(relabel scope X.env).names.lookup x=some .free:=hx
  have key:(x,NameKind.free)∈scope.names:=by
   rcases IB with q|q
   .rcases bh q with q|⟨q,_⟩
    .exact absurd rfl (S.cell _ (YS q))
    .exact YS q
   .rcases bh q with q|⟨_,q⟩
    .exact YS q
    .trivial
  exact dE X.env x scope.names [] (.inl key)
 .obtain⟨o,e⟩:=ho b hb
  exact Zw (ZT e)
 .rcases(hf b hb).2.2.2.1 with z|z
  .exact I.ok.noex b o e z
  .exact absurd (ZA (ZT (I.ok.bs b o e).1) z) (Zd _)
 .rcases ZZ.mp (I.stkSub b z)with q|q
  .exact(hf b hb).2.1 q
  .exact(hf b hb).2.2.1 q
 .obtain⟨hb,hs⟩:=vW e2
  have Hs:=S.vis i x e1 hb;obtain⟨_,Pj⟩:=S.fre _ (YS Hs) rfl;obtain⟨m0,Pa,hl⟩:=I.loc;have N3:Vis X.env.scope x:=Pj.elim (λz=>.inr (.inl z)) λz=>.inr (.inr z)
  obtain⟨u,ru,lk⟩:=hl i x v e1 hs N3;refine⟨u,ru,.inr ⟨?_,?_⟩⟩
  .rcases e3 with q|q|q
   .rcases bh (show(relabel scope X.env).names.lookup x=some .local from q)with q|⟨_,q⟩
    .rw[Hs]at q;trivial
    .trivial
   .exact .inl q
   .exact .inr q
  .rcases lk with⟨kl,_⟩|⟨_,c,ec,ic⟩
   .rcases Pj with z|z
    .rw[kl]at z;trivial
    .rw[kl]at z;trivial
   .obtain⟨c',e'⟩:=dE X.env x scope.names [] (.inl (YS Hs))
    have P2:=cons x c' e';rw[ec]at P2;obtain rfl:=Z7 P2;obtain⟨o,q1,q2⟩:=ic;exact⟨c,e',o,hk c o q1,q2⟩
 .obtain⟨v,o,q1,q2⟩:=I.cell x c (cons x c e)
  exact⟨v,o,hk c o q1,q2⟩
 .have Gh:p∈X.pn++a_:=by
   have q:p∈(X.pn++a_)++([]:Z8 (ZN×Obj)):=hp;rwa[Y_]at q
  obtain⟨e,n,ne,nf,d⟩:=I.pin p Gh;refine⟨hk _ _ e,n,Zw (ZT e),λz=>?_,d⟩
  rcases ZZ.mp (I.stkSub p.1 z)with q|q
  .exact ne q
  .exact nf q
 .rw[db (by rw[S.len,I.len])]
  exact I.len
def ut(I:Inv X a_ σ H s)(hf:∀b∈fp,eP X a_ H b)(J:Inv (ax X scope cl C s H fp (X.pn++a_)) Gc j_ H' s'):Inv X a_ σ H' s':=by
 refine I.call' (ch:=fp) J.os J.base J.hok J.bare λb hb=>?_
 obtain⟨f0,f1,f2,f3,f4,f5⟩:=hf b hb;exact⟨f3,f1,f4,f5⟩
end
section
def l9(I:Nat->ZP->Prop)(turn:∀n s,I n s->wpAny (model prog w) A (pyNext it) (λr g_=>match r with
   |none=>R (.ok .next) g_
   |some v=>wpAny (model prog w) A (letOwnedTupleGo target it v) (λ_ g_=>wpAny (model prog w) A (assign target env v) (λ_ d_=>
     wpAny (model prog w) A (forIn ifs true λc r=>if r=true then do let ok <-isTrue c env (eval c env);pure (ForInStep.yield ok) else pure (ForInStep.yield r)) (λok GN=>
      if ok=true then wpAny (model prog w) A (eval elt env) (λx IY=>
       wpAny (model prog w) A (call (.builtin "list.append") [acc,x]) (λ_ Lw=>∃m,m<n/\I m Lw) (λ_ _=>False) IY) (λ_ _=>False) GN
      else ∃m,m<n/\I m GN) (λ_ _=>False) d_) (λ_ _=>False) g_) (λ_ _=>False) g_) (λ_ _=>False) s) (n:Nat) (h:I n s):
  codeAny (model prog w) A (.compLoop (.ListComp elt [⟨target,iter,ifs,0⟩] scope pos) 0 it acc env) R s:=by
 refine codeAny_loop rfl I (λn s hI=>?_) n h
 show wpAny _ A ((compTurn (.ListComp elt [⟨target,iter,ifs,0⟩] scope pos) 0 it acc env).onRaise (λx=>do noteFrame x env;theTreesLotGoes x)) _ _ s
 refine wpAny_noted ?_
 rw[compTurn_list];refine Z_ (wpAny_standAt (Z_ (YU (turn n s hI) (λr g_ F6=>?_) λ_ _ h'=>h'.elim)))
 cases r with
 |none=>exact Z4 F6
 |some v=>
  refine Z_ (YU F6 (λ_ P7 LU=>?_) λ_ _ h'=>h'.elim)
  refine Z_ (YU LU (λ_ d_ HY=>Z_ (YU HY (λok GN I_=>?_) λ_ _ h'=>h'.elim)) λ_ _ h'=>h'.elim)
  cases ok with
  |false=>exact Z4 ⟨rfl,I_⟩
  |true=>
   exact Z_ (Z_ (YU I_ (λx IY N2=>Z_ (YU N2 (λ_ Lw N1=>Z4 (Z4 ⟨rfl,N1⟩)) λ_ _ h'=>h'.elim)) λ_ _ h'=>h'.elim))
end
section
variable{X:Cx}
def gF{a_:Z8 (ZN×Obj)}{σ:St}{H:Hp}{s:ZP}{it:ZN}{fp:Z8 ZN}{tn:Nat->Heap->Prop}{J:It}{Q:VK}{E:Z3->ZP->Prop}{RR:Z3->ZN->Result->ZP->Prop}
  (hc:X.calm=true) (S:CompScope X scope bs)
  (hg:∀cl C d_ e_ ex pn,PG (ax X scope cl C d_ e_ ex pn) tg g) (ht:∀cl C d_ e_ ex pn,PTs (ax X scope cl C d_ e_ ex pn) ifs tt) (he:∀cl C d_ e_ ex pn,PE (ax X scope cl C d_ e_ ex pn) elt te)
  (I:Inv X a_ σ H s) (T:Turn X.prog X.w X.K tg J fp it tn) (st:tn 0 s.heap) (hf:∀b∈fp,eP X a_ H b)
  (hq:∀acc,H acc=none->
   ∃W:Nat->Nat->Z8 V->St->Hp->Prop,(∃m,W 0 m [] (pE bs σ) (upd H acc (.lst [])))/\∀i m ys σ H,W i m ys σ H->H acc=some (.lst ys)/\
    ((J.stop i H/\Q (.ref acc) H)\/(J.go i H/\∀x H',J.yld i H x H'->g x σ H' λF1 H2=>tt F1 H2 λok H3=>if ok=true
     then te F1 H3 λv H4=>H4 acc=some (.lst ys)/\ys.length<sizeLine/\∃m',m'<m/\W (i+1) m' (ys++[v]) F1 (upd H4 acc (.lst (ys++[v])))
     else ∃m',m'<m/\W (i+1) m' ys F1 H3)))
  (Sa:∀D C s' H' m',Inv X a_ σ H' s'->Q (.ref D) H'->s'.heap.Ns C m'->H' C=none->C≠X.env.locals->C∉X.fs->X.o_.heap.objs.size<=C->(∀x c,X.env.cells.lookup x=some c->c≠C)->(∀p∈X.pn++a_,p.1≠C)->
   RR (.ref D) C (.ok .next) s'):
  wpAny (model X.prog X.w) X.A (newList []) (λacc GN=>wpAny (model X.prog X.w) X.A (newFunctionEnv scope X.env.globals (cu X.env scope.names []) [] X.env.qual none .none (some X.env)) (λLQ IY=>
   codeAny (model X.prog X.w) X.A (.compStart (.ListComp elt [⟨tg,iter,ifs,0⟩] scope pos) 0 (.ref it) acc {LQ with scope:=relabel scope X.env}) (RR acc LQ.locals) IY) E GN) E s:=by
 refine Y7 ?_
 have Hs:H s.heap.objs.size=none:=I.fresh;have I3:Inv X a_ σ (upd H s.heap.objs.size (.lst [])) {s with heap:=s.heap.push {cls:=.type "list",dict:=none,data:=.seq ([]:Z8 Z3).toArray}}:=I.lnew (its:=[]) (t':=s.toks) .nil (Zs _)
 have Qx:tn 0 (s.heap.push {cls:=.type "list",dict:=none,data:=.seq ([]:Z8 Z3).toArray}):=T.keep _ _ _ st λb _ o e=>Z5 _ e
 have k_:∀b∈fp,b<s.heap.objs.size:=λb hb=>by
  obtain⟨o,e,_⟩:=T.obj _ _ st b hb;exact ZT e
 have f3:∀b∈fp,eP X a_ (upd H s.heap.objs.size (.lst [])) b:=λb hb=>⟨by rw[ai (Zw (k_ b hb))];exact(hf b hb).1,(hf b hb).2⟩
 obtain⟨W,⟨m0,w0⟩,turn⟩:=hq s.heap.objs.size Hs;generalize v_:s.heap.objs.size=acc at*;generalize Rg:({s with heap:=s.heap.push {cls:=.type "list",dict:=none,data:=.seq ([]:Z8 Z3).toArray}}:ZP)=s3 at*
 have Lx:tn 0 s3.heap:=by rw[<-Rg];exact Qx
 refine wpAny_newFunctionEnv S.cell (λy hy=>by simp at hy) (λF6 Kj Ki=>?_) S.kind
 have keep:∀b o,s3.heap.get? b=some o->F6.get? b=some o:=λb o e=>(Ki.2 b (Zw (ZT e))).trans (Z5 _ e)
 have OK:∀b∈fp,∃o,s3.heap.get? b=some o:=λb hb=>by
  obtain⟨o,e,_⟩:=T.obj _ _ Lx b hb;exact⟨o,e⟩
 have I4:=uY (t':=s3.toks+([]:Z8 (Str×Z3)).length) S I3 f3 OK Kj keep;have OA:tn 0 F6:=T.keep _ _ _ Lx λb _ o e=>keep b o e
 have G1:∀{H':Hp}{pl:Z8 (ZN×Obj)},(∀b∈fp,H' b=none)->∀b∈fp,eP (ax X scope (cu X.env scope.names []) s3.heap.objs.size s3 (upd H acc (.lst [])) fp (X.pn++a_)) [] H' b:=λ{H' pl} hn b hb=>by
  obtain⟨_,f1,f2,TU,f4,f5⟩:=f3 b hb;obtain⟨o,e⟩:=OK b hb;refine⟨hn b hb,Zw (ZT e),λz=>?_,.inl hb,λx c e=>f4 x c (cP X.env scope.names [] (S.has I3) (λx c e=>by simp at e) x c e),λp hp=>?_⟩
  .rcases ZZ.mp (I3.stkSub b z)with q|q
   .exact f1 q
   .exact f2 q
  .have q:p∈(X.pn++a_)++([]:Z8 (ZN×Obj)):=hp
   rw[Y_]at q;exact f5 p q
 let X':Cx:=ax X scope (cu X.env scope.names []) s3.heap.objs.size s3 (upd H acc (.lst [])) fp (X.pn++a_)
 have loop:∀s5:ZP,s5={s3 with heap:=F6,toks:=s3.toks+([]:Z8 (Str×Z3)).length}->
   codeAny (model X.prog X.w) X.A (.compLoop (.ListComp elt [⟨tg,iter,ifs,0⟩] scope pos) 0 (.ref it) (.ref acc) (compEnvC scope (cu X.env scope.names []) s3.heap.objs.size X.env)) (RR (.ref acc) s3.heap.objs.size) s5:=by
  rintro s5 rfl
  refine l9 (λn s'=>∃i ys j_ H',Inv (ax X scope (cu X.env scope.names []) s3.heap.objs.size s3 (upd H acc (.lst [])) fp (X.pn++a_)) [] j_ H' s'/\tn i s'.heap/\(∀b∈fp,H' b=none)/\W i n ys j_ H') ?_ m0
   ⟨0,[],pE bs σ,upd H acc (.lst []),I4,OA,λb hb=>(f3 b hb).1,w0⟩
  intro n s6 hz;obtain⟨i,ys,Ko,H6,I6,Oz,PX,w6⟩:=hz;obtain⟨TN,way⟩:=turn i n ys Ko H6 w6
  rcases way with⟨stop,qn⟩|⟨go,step⟩
  .refine thn (T.done X' rfl rfl rfl hc i [] s6 Ko H6 (λ_ _=>False) I6 (G1 (pl:=[]) PX) Oz stop) λr s7 hz=>?_
   obtain⟨hr,I7⟩:=hz;subst hr;obtain⟨m',HJ,_⟩:=I7.loc;have IX:=ut (C:=s3.heap.objs.size) I3 f3 I7;refine Sa acc s3.heap.objs.size s7 H6 m' IX qn HJ I7.free (Nat.ne_of_gt I3.lt) (I3.nofs (ZQ _)) I3.sz (λx c e z=>?_) λp hp z=>?_
   .obtain⟨v,q⟩:=I3.cell x c e
    exact absurd q.lt (by rw[z];exact Zd _)
   .exact absurd (ZT (I3.pin p hp).1) (by rw[z];exact Zd _)
  .refine thn (T.item X' rfl rfl rfl hc i [] s6 Ko H6 (λ_ _=>False) I6 (G1 (pl:=[]) PX) Oz go) λr s7 hz=>?_
   obtain⟨u,hr,h7⟩:=hz;subst hr;refine thn h7 λ_ s8 hz=>?_
   obtain⟨x,H8,I8,r8,y8,MP,Su⟩:=hz;have SV:=I8.pinned (G1 (pl:=[]) Su) (T.obj _ _ MP);refine thn (hg _ _ _ _ _ _ _ s8 Ko H8 x u _ SV r8 (step x H8 y8)) λ_ s9 hz=>?_
   obtain⟨KO,H9,I9,q9⟩:=hz;refine thn (ht _ _ _ _ _ _ _ s9 KO H9 _ I9 q9) λok QB hz=>?_
   obtain⟨P6,NR,Mi⟩:=hz;have back:∀{j_:St}{H':Hp}{s':ZP},Inv (ax X scope (cu X.env scope.names []) s3.heap.objs.size s3 (upd H acc (.lst [])) fp (X.pn++a_)) ([]++j4 fp s8.heap) j_ H' s'->tn (i+1) s'.heap/\∀b∈fp,H' b=none:=λ{j_ H' s'} K=>by
    refine⟨T.keep _ _ _ MP λb hb o e=>(K.pin (b,o) (ZG _ (ZG _ (cM hb e)))).1,λb hb=>?_⟩
    obtain⟨o,e,d⟩:=T.obj _ _ MP b hb;exact(K.pin (b,o) (ZG _ (ZG _ (cM hb e)))).2.1
   cases ok with
   |false=>
    rw[ZY Zn]at Mi⊢;obtain⟨m',hm,w'⟩:=Mi;obtain⟨b1,b2⟩:=back NR;exact⟨m',hm,i+1,ys,KO,P6,NR.unpinned,b1,b2,w'⟩
   |true=>
    rw[Z0 rfl]at Mi⊢;refine thn (he _ _ _ _ _ _ _ QB KO P6 _ NR Mi) λy QA hz=>?_
    obtain⟨v,P5,SX,QH,LZ,hz,m',hm,w'⟩:=hz;have ap:=dh (X:=X') _ QA KO P5 (.ref acc) [v] (.ref acc) [y] (λ(z:V) (H':Hp)=>H'=upd P5 acc (.lst (ys++[v]))) SX rfl (.cons QH .nil) ⟨acc,ys,v,rfl,rfl,LZ,hz,rfl⟩
    refine thn ap λ_ Tb hz=>?_
    obtain⟨_,T5,P4,_,SK⟩:=hz;subst SK;obtain⟨b1,b2⟩:=back P4;exact⟨m',hm,i+1,ys++[v],KO,_,P4.unpinned,b1,b2,w'⟩
 exact codeAny_compStart_list (loop _ rfl) (T.self _ 0 _ _ _ OA (loop _ rfl))
def rG(hc:X.calm=true)(hi:PI X tg iter wi)(S:CompScope X scope bs)(hg:∀cl C d_ e_ ex pn,PG (ax X scope cl C d_ e_ ex pn) tg g)(ht:∀cl C d_ e_ ex pn,PTs (ax X scope cl C d_ e_ ex pn) ifs tt)(he:∀cl C d_ e_ ex pn,PE (ax X scope cl C d_ e_ ex pn) elt te)(hs:∀x,foldedSetIterable iter X.env x=pure x:=by intro _;rfl):PE X (.ListComp elt [⟨tg,iter,ifs,0⟩] scope pos) (nQ wi bs g tt te):=by
 intro a_ s σ H Q I h;rw[eval_ListComp];refine wpAny_comprehension_free (use:=none) rfl hs (dO (S.has I)) S.kind S.loc (thn (hi a_ s σ H _ I h) λv s1 h1=>thn h1 λMq s2 h2=>?_)
 obtain⟨it,fp,tn,J,H2,e,I2,T,KS,f2,hq⟩:=h2;subst e;refine gF (RR:=λacc C=>compPost (model X.prog X.w) X.A X.xe none (EP X a_ σ Q) acc C) hc S hg ht he I2 T KS f2 hq ?_
 intro D C s' H' m' I' q' hn hC hL hF hz HK hp;refine⟨m',hn,λSn J5=>⟨.ref D,H',?_,rfl,q'⟩⟩
 exact I'.turned (t':=s'.toks) (λb o hb e=>(J5.2 b hb).trans e) hC hL (.inr hz) HK hp
def rC(hc:X.calm=true)(hi:PI X tg iter wi)(S:CompScope X scope bs)(hg:∀cl C d_ e_ ex pn,PG (ax X scope cl C d_ e_ ex pn) tg g)(ht:∀cl C d_ e_ ex pn,PTs (ax X scope cl C d_ e_ ex pn) ifs tt)(he:∀cl C d_ e_ ex pn,PE (ax X scope cl C d_ e_ ex pn) elt te)(hN:X.N.Nodup)(Nv:X.N[i]?=some y)(hy:X.env.scope.names.lookup y=some .local)(GY:swapsWith (.ListComp elt [⟨tg,iter,ifs,0⟩] scope pos) (some (.Name y py)) G2.line X.env=pure true:=by rfl)(hs:∀x,foldedSetIterable iter X.env x=pure x:=by intro _;rfl):PS X (.Assign [.Name y py] (.ListComp elt [⟨tg,iter,ifs,0⟩] scope pos) G2) (xB (nQ wi bs g tt te) (gf i)):=by
 intro a_ s σ H D I h;rw[exec_Assign_Name_used _ _ _ _ GY];refine Z_ (wpAny_standAt (Z_ ?_))
 show wpAny _ X.A (do let _ <-comprehension (.ListComp elt [⟨tg,iter,ifs,0⟩] scope pos) scope X.env _ (newList []) false (eval iter X.env) (some (assign (.Name y py) X.env))) _ _ s
 refine Z_ (YU (wpAny_comprehension_free (use:=some (assign (.Name y py) X.env)) (Q:=λ_ s'=>SP X a_ D .next s') rfl hs (dO (S.has I)) S.kind S.loc
  (thn (hi a_ s σ H _ I h) λv s1 h1=>thn h1 λMq s2 h2=>?_)) (λ_ s' hq=>Z4 (Z4 hq)) λ_ _ e=>e)
 obtain⟨it,fp,tn,J,H2,e,I2,T,KS,f2,hq⟩:=h2;subst e;refine gF (Q:=λx H1=>gf i x σ H1 D.nx) (RR:=λacc C=>compPost (model X.prog X.w) X.A X.xe (some (assign (.Name y py) X.env)) (λ_ s'=>SP X a_ D .next s') acc C) hc S hg ht he I2 T KS f2 hq ?_
 intro A C s' H' m' I' q' hn hC hL hF hz HK hp;show wpAny _ X.A (assign (.Name y py) X.env (.ref A)) _ _ _;refine wpAny_assign_Name (j7 I' hN Nv (.inl hy) (v:=.ref A) rfl (λs2 I2 Ms=>?_) (.inr hy))
 obtain⟨a,sb,ha⟩:=Ms;have Sk:C≠a:=by
  rcases ha with z|z
  .rw[z];exact hL
  .exact λq=>HK y a z q.symm
 refine⟨m',hn.sameBut sb Sk,λSn J5=>⟨σ.set i (some (.ref A)),H',?_,q'⟩⟩
 exact I2.turned (t':=s2.toks) (λb o hb e=>(J5.2 b hb).trans e) hC hL (.inr hz) HK hp
end
mutual
def D.flat:D->Bool
 |.non=>true|.bl _=>true|.int _=>true|.str _=>true
 |.tup ds=>D.flats ds
 |.lst _=>false|.dK _ _=>false|.dD _ _=>false
def D.flats:Z8 D->Bool
 |[]=>true
 |d::ds=>d.flat&&D.flats ds
end
theorem D.flats_all:∀ds:Z8 D,D.flats ds=ds.all D.flat
 |[]=>rfl
 |d::ds=>by simp only[D.flats,List.all_cons,D.flats_all ds]
def LstS(K:Z6)(B:ZN->Prop)(H:Hp)(a:ZN)(xs:Z8 V):Prop:=
 (B a/\H a=some (.lst xs))\/(∃o,H a=some (.frz o (.lst xs)))\/
  ∃(o:Obj)(its:Array Z3)(n:Nat),K.lookup a=some o/\o.cls=.type "list"/\o.dict=none/\o.data=.seq its n/\its.size<=sizeLine/\Vals xs its.toList
def LstS.sq{K:Z6}{B:ZN->Prop}{H:Hp}{a:ZN}{xs:Z8 V}(h:LstS K B H a xs):SqL K H a xs:=by
 rcases h with⟨_,h⟩|⟨o,h⟩|h
 .exact .inl (.inl h)
 .exact .inl (.inr ⟨o,h⟩)
 .exact .inr h
def DicKS(B:ZN->Prop)(H:Hp)(a:ZN)(b_:Z8 (Key×V)):Prop:=(B a/\H a=some (.dK b_))\/∃o,H a=some (.frz o (.dK b_))
def DicDS(B:ZN->Prop)(H:Hp)(a:ZN)(b_:Z8 (D×V)):Prop:=∃ep,(B a/\H a=some (.dD b_ ep))\/∃o,H a=some (.frz o (.dD b_ ep))
mutual
def Rep(K:Z6)(B:ZN->Prop)(H:Hp):D->V->Prop
 |.non,v=>v=.non
 |.bl b,v=>v=.bl b
 |.int i,v=>v=.int i
 |.str x,v=>v=.str x
 |.tup ds,v=>∃a xs,v=.ref a/\H a=some (.tup xs)/\Reps K B H ds xs
 |.lst ds,v=>∃a xs,v=.ref a/\LstS K B H a xs/\Reps K B H ds xs
 |.dK ks ds,v=>∃a b_,v=.ref a/\DicKS B H a b_/\b_.map (·.1)=ks/\Reps K B H ds (b_.map (·.2))
 |.dD ks ds,v=>∃a b_,v=.ref a/\DicDS B H a b_/\b_.map (·.1)=ks/\Reps K B H ds (b_.map (·.2))
def Reps(K:Z6)(B:ZN->Prop)(H:Hp):Z8 D->Z8 V->Prop
 |[],xs=>xs=[]
 |d::ds,xs=>∃x r,xs=x::r/\Rep K B H d x/\Reps K B H ds r
end
structure Ext (B:ZN->Prop)(H H':Hp):Prop where
 tups:∀a xs,H a=some (.tup xs)->H' a=some (.tup xs)
 frzs:∀a o u,H a=some (.frz o u)->H' a=some (.frz o u)
 lent:∀a,B a->H' a=H a
def Ext.refl:Ext B H H:=⟨λ_ _ h=>h,λ_ _ _ h=>h,λ_ _=>rfl⟩
theorem Ext.trans(a:Ext B H H1)(b:Ext B H1 H2):Ext B H H2:=
 ⟨λx y h=>b.tups x y (a.tups x y h),λx y z h=>b.frzs x y z (a.frzs x y z h),λx h=>(b.lent x h).trans (a.lent x h)⟩
section
variable{K:Z6}{B B':ZN->Prop}{H H':Hp}
def LstS.ext(h:LstS K B H a xs)(e:Ext B H H'):LstS K B H' a xs:=by
 rcases h with⟨b,h⟩|⟨o,h⟩|h
 .exact .inl ⟨b,(e.lent a b).trans h⟩
 .exact .inr (.inl ⟨o,e.frzs _ _ _ h⟩)
 .exact .inr (.inr h)
def LstS.more(h:LstS K B H a xs)(e:∀a,B a->B' a):LstS K B' H a xs:=by
 rcases h with⟨b,h⟩|h|h
 .exact .inl ⟨e a b,h⟩
 .exact .inr (.inl h)
 .exact .inr (.inr h)
def DicKS.ext(h:DicKS B H a xs)(e:Ext B H H'):DicKS B H' a xs:=by
 rcases h with⟨b,h⟩|⟨o,h⟩
 .exact .inl ⟨b,(e.lent a b).trans h⟩
 .exact .inr ⟨o,e.frzs _ _ _ h⟩
def DicDS.ext(h:DicDS B H a xs)(e:Ext B H H'):DicDS B H' a xs:=by
 obtain⟨ep,h⟩:=h
 rcases h with⟨b,h⟩|⟨o,h⟩
 .exact⟨ep,.inl ⟨b,(e.lent a b).trans h⟩⟩
 .exact⟨ep,.inr ⟨o,e.frzs _ _ _ h⟩⟩
mutual
theorem Rep.ext(e:Ext B H H'):∀{d:D}{v:V},Rep K B H d v->Rep K B H' d v
 |.non,v,h=>by simpa only[Rep]using h
 |.bl b,v,h=>by simpa only[Rep]using h
 |.int i,v,h=>by simpa only[Rep]using h
 |.str x,v,h=>by simpa only[Rep]using h
 |.tup ds,v,h=>by
  simp only[Rep]at h⊢;obtain⟨a,xs,hv,hq,hr⟩:=h;exact⟨a,xs,hv,e.tups _ _ hq,Reps.ext e hr⟩
 |.lst ds,v,h=>by
  simp only[Rep]at h⊢;obtain⟨a,xs,hv,hq,hr⟩:=h;exact⟨a,xs,hv,hq.ext e,Reps.ext e hr⟩
 |.dK ks ds,v,h=>by
  simp only[Rep]at h⊢;obtain⟨a,xs,hv,hq,hk,hr⟩:=h;exact⟨a,xs,hv,hq.ext e,hk,Reps.ext e hr⟩
 |.dD ks ds,v,h=>by
  simp only[Rep]at h⊢;obtain⟨a,xs,hv,hq,hk,hr⟩:=h;exact⟨a,xs,hv,hq.ext e,hk,Reps.ext e hr⟩
theorem Reps.ext(e:Ext B H H'):∀{ds:Z8 D}{xs:Z8 V},Reps K B H ds xs->Reps K B H' ds xs
 |[],xs,h=>by simpa only[Reps]using h
 |d::ds,xs,h=>by
  simp only[Reps]at h⊢;obtain⟨x,r,hx,h1,h2⟩:=h;exact⟨x,r,hx,Rep.ext e h1,Reps.ext e h2⟩
end
mutual
theorem Rep.more(e:∀a,B a->B' a):∀{d:D}{v:V},Rep K B H d v->Rep K B' H d v
 |.non,v,h=>by simpa only[Rep]using h
 |.bl b,v,h=>by simpa only[Rep]using h
 |.int i,v,h=>by simpa only[Rep]using h
 |.str x,v,h=>by simpa only[Rep]using h
 |.tup ds,v,h=>by
  simp only[Rep]at h⊢;obtain⟨a,xs,hv,hq,hr⟩:=h;exact⟨a,xs,hv,hq,Reps.more e hr⟩
 |.lst ds,v,h=>by
  simp only[Rep]at h⊢;obtain⟨a,xs,hv,hq,hr⟩:=h;exact⟨a,xs,hv,hq.more e,Reps.more e hr⟩
 |.dK ks ds,v,h=>by
  simp only[Rep]at h⊢;obtain⟨a,xs,hv,hq,hk,hr⟩:=h;exact⟨a,xs,hv,hq.imp (λz=>⟨e a z.1,z.2⟩) λz=>z,hk,Reps.more e hr⟩
 |.dD ks ds,v,h=>by
  simp only[Rep]at h⊢;obtain⟨a,xs,hv,⟨ep,hq⟩,hk,hr⟩:=h;exact⟨a,xs,hv,⟨ep,hq.imp (λz=>⟨e a z.1,z.2⟩) λz=>z⟩,hk,Reps.more e hr⟩
theorem Reps.more(e:∀a,B a->B' a):∀{ds:Z8 D}{xs:Z8 V},Reps K B H ds xs->Reps K B' H ds xs
 |[],xs,h=>by simpa only[Reps]using h
 |d::ds,xs,h=>by
  simp only[Reps]at h⊢;obtain⟨x,r,hx,h1,h2⟩:=h;exact⟨x,r,hx,Rep.more e h1,Reps.more e h2⟩
end
mutual
theorem Rep.flat:∀{d:D}{v:V},d.flat=true->Rep K B H d v->Rep K B' H d v
 |.non,v,_,h=>by simpa only[Rep]using h
 |.bl b,v,_,h=>by simpa only[Rep]using h
 |.int i,v,_,h=>by simpa only[Rep]using h
 |.str x,v,_,h=>by simpa only[Rep]using h
 |.tup ds,v,f,h=>by
  simp only[Rep]at h⊢;simp only[D.flat]at f;obtain⟨a,xs,hv,hq,hr⟩:=h;exact⟨a,xs,hv,hq,Reps.flat f hr⟩
 |.lst ds,v,f,_=>by simp[D.flat]at f
 |.dK _ _,v,f,_=>by simp[D.flat]at f
 |.dD _ _,v,f,_=>by simp[D.flat]at f
theorem Reps.flat:∀{ds:Z8 D}{xs:Z8 V},D.flats ds=true->Reps K B H ds xs->Reps K B' H ds xs
 |[],xs,_,h=>by simpa only[Reps]using h
 |d::ds,xs,f,h=>by
  simp only[Reps]at h⊢;simp only[D.flats,ZH]at f;obtain⟨x,r,hx,h1,h2⟩:=h;exact⟨x,r,hx,Rep.flat f.1 h1,Reps.flat f.2 h2⟩
end
theorem Reps.length:∀{ds:Z8 D}{xs:Z8 V},Reps K B H ds xs->ds.length=xs.length
 |[],xs,h=>by simp only[Reps]at h;subst h;rfl
 |d::ds,xs,h=>by
  simp only[Reps]at h;obtain⟨x,r,hx,h1,h2⟩:=h;subst hx;simp only[List.length_cons,Reps.length h2]
def Reps.nil:Reps K B H [] []:=by simp only[Reps]
theorem Reps.cons{d:D}{ds:Z8 D}{x:V}{xs:Z8 V}(h:Rep K B H d x)(t:Reps K B H ds xs):Reps K B H (d::ds) (x::xs):=by
 simp only[Reps];exact⟨x,xs,rfl,h,t⟩
def Reps.uncons(h:Reps K B H (d::ds) (x::xs)):Rep K B H d x/\Reps K B H ds xs:=by
 simp only[Reps]at h;obtain⟨y,r,e,h1,h2⟩:=h;cases e;exact⟨h1,h2⟩
theorem Reps.get:∀{ds:Z8 D}{xs:Z8 V}{i:Nat}{d:D},Reps K B H ds xs->ds[i]?=some d->∃x,xs[i]?=some x/\Rep K B H d x
 |[],_,_,_,_,e=>by simp at e
 |d::ds,xs,0,e,h,he=>by
  simp only[Reps]at h;obtain⟨x,r,hx,h1,h2⟩:=h;subst hx;simp at he;subst he;exact⟨x,rfl,h1⟩
 |d::ds,xs,i+1,e,h,he=>by
  simp only[Reps]at h;obtain⟨x,r,hx,h1,h2⟩:=h;subst hx;exact Reps.get (i:=i) h2 (by simpa using he)
def Reps.get':∀{ds:Z8 D}{xs:Z8 V}{i:Nat}{x:V},Reps K B H ds xs->xs[i]?=some x->∃d,ds[i]?=some d/\Rep K B H d x:=λ{ds xs i x} h e=>by
 have hl:=h.length;have hi:i<ds.length:=by rw[hl];exact(ZV.mp e).1
 obtain⟨y,hy,r⟩:=h.get (i:=i) (d:=ds[i]) (by simp[hi])
 rw[e]at hy;obtain rfl:=Z7 hy;exact⟨ds[i],by simp[hi],r⟩
theorem Reps.append:∀{ds es:Z8 D}{xs ys:Z8 V},Reps K B H ds xs->Reps K B H es ys->Reps K B H (ds++es) (xs++ys)
 |[],es,xs,ys,h,t=>by simp only[Reps]at h;subst h;simpa using t
 |d::ds,es,xs,ys,h,t=>by
  simp only[Reps]at h;obtain⟨x,r,hx,h1,h2⟩:=h;subst hx;exact Reps.cons h1 (Reps.append h2 t)
theorem Reps.take:∀{ds:Z8 D}{xs:Z8 V}(n:Nat),Reps K B H ds xs->Reps K B H (ds.take n) (xs.take n)
 |_,_,0,_=>by simp only[List.take_zero];exact Reps.nil
 |[],xs,n+1,h=>by simp only[Reps]at h;subst h;exact Reps.nil
 |d::ds,xs,n+1,h=>by
  simp only[Reps]at h;obtain⟨x,r,hx,h1,h2⟩:=h;subst hx;exact Reps.cons h1 (Reps.take n h2)
theorem Reps.drop:∀{ds:Z8 D}{xs:Z8 V}(n:Nat),Reps K B H ds xs->Reps K B H (ds.drop n) (xs.drop n)
 |_,_,0,h=>h
 |[],xs,n+1,h=>by simp only[Reps]at h;subst h;exact Reps.nil
 |d::ds,xs,n+1,h=>by
  simp only[Reps]at h;obtain⟨x,r,hx,h1,h2⟩:=h;subst hx;exact Reps.drop n h2
end
abbrev DEnv:=Z8 (Z9 (D×Bool))
def ObR(K:Z6)(B:ZN->Prop)(H:Hp)(d:D)(a:ZN):Prop:=match d with
 |.lst ds=>∃xs,H a=some (.lst xs)/\Reps K B H ds xs
 |.dK ks ds=>∃b_,H a=some (.dK b_)/\b_.map (·.1)=ks/\Reps K B H ds (b_.map (·.2))
 |.dD ks ds=>∃b_,(∃ep,H a=some (.dD b_ ep))/\b_.map (·.1)=ks/\Reps K B H ds (b_.map (·.2))
 |_=>False
structure Rel (K:Z6)(B:ZN->Prop)(Hk:Hp)(δ:DEnv)(σ:St)(H:Hp):Prop where
 same:Same Hk H
 bor:∀a,B a->∃o:HOn,Hk a=some o.1
 len:δ.length=σ.length
 var:∀(i:Nat) d,δ[i]?=some (some (d,false))->∃v,σ[i]?=some (some v)/\Rep K B H d v
 own:∀(i:Nat) d,δ[i]?=some (some (d,true))->∃a,σ[i]?=some (some (.ref a))/\Hk a=none/\ObR K B H d a
 dis:∀(i j:Nat) d e a,i≠j->δ[i]?=some (some (d,true))->δ[j]?=some (some (e,true))->σ[i]?=some (some (.ref a))->σ[j]?=some (some (.ref a))->False
def BO(B:ZN->Prop)(δ:DEnv)(σ:St)(a:ZN):Prop:=B a\/∃(i:Nat)(d:D),δ[i]?=some (some (d,true))/\σ[i]?=some (some (.ref a))
def bb(m:Bool)(B:ZN->Prop)(δ:DEnv)(σ:St):ZN->Prop:=if m=true then BO B δ σ else B
section
variable{K:Z6}{B B':ZN->Prop}{Hk H H':Hp}{δ:DEnv}{σ:St}
def Same.ext(s:Same H H')(b:∀a,B a->∃o:HOn,H a=some o.1):Ext B H H':=
 ⟨λa xs h=>s a _ h,λa o u h=>s a _ h,λa h=>by obtain⟨o,e⟩:=b a h;rw[e,s a o e]⟩
theorem ObR.ext(h:ObR K B H d a)(e:Ext B H H')(ha:∀o:HO,H a=some o->o.nt=true->H' a=some o):ObR K B H' d a:=by
 cases d with
 |lst ds=>obtain⟨xs,h1,h2⟩:=h;exact⟨xs,ha _ h1 rfl,h2.ext e⟩
 |dK ks ds=>obtain⟨xs,h1,h0,h2⟩:=h;exact⟨xs,ha _ h1 rfl,h0,h2.ext e⟩
 |dD ks ds=>obtain⟨xs,⟨ep,h1⟩,h0,h2⟩:=h;exact⟨xs,⟨ep,ha _ h1 rfl⟩,h0,h2.ext e⟩
 |_=>exact(show False from h).elim
def ObR.there(h:ObR K B H d a):∃o:HOn,H a=some o.1:=by
 cases d with
 |lst ds=>obtain⟨xs,h1,h2⟩:=h;exact⟨⟨_,rfl⟩,h1⟩
 |dK ks ds=>obtain⟨xs,h1,h0,h2⟩:=h;exact⟨⟨_,rfl⟩,h1⟩
 |dD ks ds=>obtain⟨xs,⟨ep,h1⟩,h0,h2⟩:=h;exact⟨⟨_,rfl⟩,h1⟩
 |_=>exact(show False from h).elim
def Rel.borH(R:Rel K B Hk δ σ H):∀a,B a->∃o:HOn,H a=some o.1:=λa h=>by
 obtain⟨o,e⟩:=R.bor a h;exact⟨o,R.same a o e⟩
def Rel.boH(R:Rel K B Hk δ σ H):∀a,BO B δ σ a->∃o:HOn,H a=some o.1:=λa h=>by
 rcases h with h|⟨i,d,h1,h2⟩
 .exact R.borH a h
 .obtain⟨b,e,_,ob⟩:=R.own i d h1
  rw[h2]at e;cases e;exact ob.there
def Rel.bsH(R:Rel K B Hk δ σ H)(m:Bool):∀a,bb m B δ σ a->∃o:HOn,H a=some o.1:=by
 unfold bb;cases m with
 |true=>exact R.boH
 |false=>exact R.borH
def Rel.to(R:Rel K B Hk δ σ H)(s:Same H H'):Rel K B Hk δ σ H':=by
 have e:Ext B H H':=s.ext R.borH;refine⟨R.same.trans s,R.bor,R.len,λi d h=>?_,λi d h=>?_,R.dis⟩
 .obtain⟨v,h1,h2⟩:=R.var i d h
  exact⟨v,h1,h2.ext e⟩
 .obtain⟨a,h1,h2,h3⟩:=R.own i d h
  exact⟨a,h1,h2,h3.ext e λo q n=>s.get a o n q⟩
def Rep.same(r:Rep K (bb m B δ σ) H d v)(R:Rel K B Hk δ σ H)(s:Same H H'):Rep K (bb m B δ σ) H' d v:=r.ext (s.ext (R.bsH m))
def Reps.same(r:Reps K (bb m B δ σ) H d v)(R:Rel K B Hk δ σ H)(s:Same H H'):Reps K (bb m B δ σ) H' d v:=r.ext (s.ext (R.bsH m))
def iH(m:Bool):∀a,B a->bb m B δ σ a:=λa h=>by
 unfold bb;cases m with
 |true=>exact .inl h
 |false=>exact h
def ObR.rep(h:ObR K B H d a)(hb:B' a)(hs:∀a,B a->B' a):Rep K B' H d (.ref a):=by
 cases d with
 |lst ds=>obtain⟨xs,h1,h2⟩:=h;simp only[Rep];exact⟨a,xs,rfl,.inl ⟨hb,h1⟩,h2.more hs⟩
 |dK ks ds=>obtain⟨xs,h1,h0,h2⟩:=h;simp only[Rep];exact⟨a,xs,rfl,.inl ⟨hb,h1⟩,h0,h2.more hs⟩
 |dD ks ds=>obtain⟨xs,⟨ep,h1⟩,h0,h2⟩:=h;simp only[Rep];exact⟨a,xs,rfl,⟨ep,.inl ⟨hb,h1⟩⟩,h0,h2.more hs⟩
 |_=>exact(show False from h).elim
end
def PE.imp(h:PE X e t)(i:∀σ H Q,t' σ H Q->t σ H Q):PE X e t':=λa_ s σ H Q I q=>h a_ s σ H Q I (i σ H Q q)
def PT.imp(h:PT X e t)(i:∀σ H Q,t' σ H Q->t σ H Q):PT X e t':=λa_ s σ H Q I q=>h a_ s σ H Q I (i σ H Q q)
def PW.imp(h:PW X e t)(i:∀σ H Q,t' σ H Q->t σ H Q):PW X e t':=λwhole a_ s σ H Q I q=>h whole a_ s σ H Q I (i σ H Q q)
def PA.imp(h:PA X e t)(i:∀σ H Q,t' σ H Q->t σ H Q):PA X e t':=λpos a_ s σ H Q I q=>h pos a_ s σ H Q I (i σ H Q q)
def PI.imp(h:PI X tg e t)(i:∀σ H Q,t' σ H Q->t σ H Q):PI X tg e t':=λa_ s σ H Q I q=>h a_ s σ H Q I (i σ H Q q)
def PS.imp(h:PS X e t)(i:∀D σ H,t' D σ H->t D σ H):PS X e t':=λa_ s σ H D I q=>h a_ s σ H D I (i D σ H q)
def PSs.imp(h:PSs X e t)(i:∀D σ H,t' D σ H->t D σ H):PSs X e t':=λa_ s σ H D I q=>h a_ s σ H D I (i D σ H q)
noncomputable def tM(K:Z6)(m:Bool)(f:DEnv->Z9 D):TE:=λσ H Q=>∃B Hk δ d,Rel K B Hk δ σ H/\f δ=some d/\∀v H',Same H H'->Rep K (bb m B δ σ) H' d v->Q v H'
noncomputable def tF(K:Z6)(f:DEnv->Z9 D):TE:=λσ H Q=>∃B Hk δ d,Rel K B Hk δ σ H/\f δ=some d/\∀a H',Same H H'->H a=none->ObR K B H' d a->Q (.ref a) H'
def tMT(K:Z6)(f:DEnv->Z9 Bool):TT:=λσ H Q=>∃B Hk δ d,Rel K B Hk δ σ H/\f δ=some d/\∀H',Same H H'->Q d H'
noncomputable def tMA(K:Z6)(m:Bool)(f:DEnv->Z9 (Z8 D)):TA:=λσ H Q=>∃B Hk δ ds,Rel K B Hk δ σ H/\f δ=some ds/\∀vs H',Same H H'->Reps K (bb m B δ σ) H' ds vs->Q vs H'
abbrev DE(X:Cx)(m:Bool)(e:Expr)(f:DEnv->Z9 D):Prop:=PE X e (tM X.K m f)
abbrev DF(X:Cx)(e:Expr)(f:DEnv->Z9 D):Prop:=PE X e (tF X.K f)
abbrev DT(X:Cx)(e:Expr)(f:DEnv->Z9 Bool):Prop:=PT X e (tMT X.K f)
abbrev DA(X:Cx)(m:Bool)(es:Z8 Expr)(f:DEnv->Z9 (Z8 D)):Prop:=PA X es (tMA X.K m f)
section
variable{X:Cx}{m m':Bool}{a b:Expr}{fa fb:DEnv->Z9 D}{pos:Pos}
def rd(m:Bool)(i:Nat)(δ:DEnv):Z9 D:=match δ[i]? with|some (some (d,o))=>if(o&&!m)=true then none else some d|_=>none
def yo(h:rd m i δ=some d):∃o,δ[i]?=some (some (d,o))/\(o=true->m=true):=by
 unfold rd at h;split at h
 .rename_i d' o e
  by_cases q:(o&&!m)=true
  .rw[Z0 q]at h;trivial
  .rw[ZY q]at h;obtain rfl:=Z7 h
   refine⟨o,e,λz=>?_⟩
   subst z;cases m with
   |true=>rfl
   |false=>simp at q
 .trivial
theorem Rel.rd{K:Z6}{B:ZN->Prop}{Hk H:Hp}{δ:DEnv}{σ:St}{i:Nat}{d:D}(R:Rel K B Hk δ σ H)(h:rd m i δ=some d):∃v,σ[i]?=some (some v)/\Rep K (bb m B δ σ) H d v:=by
 obtain⟨o,e,ho⟩:=yo h;cases o with
 |false=>
  obtain⟨v,h1,h2⟩:=R.var i d e;exact⟨v,h1,h2.more λa h=>iH m a h⟩
 |true=>
  obtain⟨a,h1,h2,h3⟩:=R.own i d e;obtain rfl:=ho rfl;exact⟨_,h1,h3.rep (B':=bb true B δ σ) (by unfold bb;rw[Z0 rfl];exact .inr ⟨i,d,e,h1⟩) λa h=>iH true a h⟩
def Bu(hN:X.N[i]?=some x)(hv:Vis X.env.scope x)(hd:(x==("__debug__":Str))=false:=by decide)(Gi:(x==("__classdict__":Str))=false:=by decide):DE X m (.Name x pos) (rd m i):=
 (aT hN hv hd Gi).imp λσ H Q hz=>by
  obtain⟨B,Hk,δ,d,R,e,k⟩:=hz;obtain⟨v,h1,h2⟩:=R.rd e;exact⟨v,h1,k v H (Same.refl H) h2⟩
theorem j3{i:Int}{j:Nat}:DE X m (.Constant (.int i) j pos) (λ_=>some (.int i)):=sZ.imp λσ H Q hz=>by obtain⟨B,Hk,δ,d,R,e,k⟩:=hz;obtain rfl:=Z7 e;exact k _ H (Same.refl H) rfl
theorem wG:DE X m (.Constant (.str x) j pos) (λ_=>some (.str x)):=BE.imp λσ H Q hz=>by obtain⟨B,Hk,δ,d,R,e,k⟩:=hz;obtain rfl:=Z7 e;exact k _ H (Same.refl H) rfl
theorem Dk:DE X m (.Constant (.bool x) j pos) (λ_=>some (.bl x)):=Bw.imp λσ H Q hz=>by obtain⟨B,Hk,δ,d,R,e,k⟩:=hz;obtain rfl:=Z7 e;exact k _ H (Same.refl H) rfl
theorem nI:DE X m (.Constant .none j pos) (λ_=>some .non):=qM.imp λσ H Q hz=>by obtain⟨B,Hk,δ,d,R,e,k⟩:=hz;obtain rfl:=Z7 e;exact k _ H (Same.refl H) rfl
def two{K:Z6}{σ:St}{H:Hp}{B:ZN->Prop}{Hk:Hp}{δ:DEnv}{d1 d2:D}{P:V->V->Hp->Prop}(R:Rel K B Hk δ σ H)(e1:fa δ=some d1)(e2:fb δ=some d2)
  (k:∀v u H',Same H H'->Rel K B Hk δ σ H'->Rep K (bb m B δ σ) H' d1 v->Rep K (bb m' B δ σ) H' d2 u->P v u H'):tM K m fa σ H λx H1=>tM K m' fb σ H1 λy H2=>P x y H2:=
 ⟨B,Hk,δ,d1,R,e1,λv H1 s1 r1=>⟨B,Hk,δ,d2,R.to s1,e2,λu H2 s2 r2=>k v u H2 (s1.trans s2) (R.to (s1.trans s2)) (r1.same (R.to s1) s2) r2⟩⟩
noncomputable def bI(C:Int->Int->Bool)(g:Int->Int->D)(x y:Z9 D):Z9 D:=match x,y with|some (.int i),some (.int j)=>if C i j=true then some (g i j) else none|_,_=>none
def yD(h:bI C g x y=some d):∃i j,x=some (.int i)/\y=some (.int j)/\C i j=true/\d=g i j:=by
 unfold bI at h;split at h
 .rename_i i j
  by_cases q:C i j=true
  .rw[Z0 q]at h;obtain rfl:=Z7 h;exact⟨i,j,rfl,rfl,q,rfl⟩
  .rw[ZY q]at h;trivial
 .trivial
def xT(h:C i j=true):bI C g (some (.int i)) (some (.int j))=some (g i j):=by unfold bI;simp only[Z0 h]
def cT:Int->Int->Bool:=λ_ _=>true
def Ez:Int->Int->Bool:=λi j=>decide ((-(2 ^ 64)<i/\i<2 ^ 64)\/(-(2 ^ 64)<j/\j<2 ^ 64))
def DZ:Int->Int->Bool:=λ_ j=>decide (0<j/\j<1073741824)
def Er:Int->Int->Bool:=λ_ j=>decide (0<j)
def qI{C:Int->Int->Bool}{g:Int->Int->Int}(ho:OpR X (binaryOp op) r)(hr:∀i j H Q,C i j=true->Q (V.int (g i j)) H->r (.int i) (.int j) H Q)(ha:DE X m a fa)(hb:DE X m' b fb):
  DE X mm (.BinOp a op b pos) (λδ=>bI C (λi j=>.int (g i j)) (fa δ) (fb δ)):=
 (u9 ho ha hb).imp λσ H Q hz=>by
  obtain⟨B,Hk,δ,d,R,e,k⟩:=hz;obtain⟨i,j,e1,e2,hc,rfl⟩:=yD e;refine two R e1 e2 λv u H' s R' r1 r2=>?_
  simp only[Rep]at r1 r2;subst r1 r2;exact hr i j H' Q hc (k _ H' s (by simp only[Rep]))
def gj(x y:Z9 D):Z9 D:=bI cT (λi j=>.int (i+j)) x y
def Cm(x y:Z9 D):Z9 D:=bI cT (λi j=>.int (i - j)) x y
def tN(x y:Z9 D):Z9 D:=bI Ez (λi j=>.int (i*j)) x y
def t6(x y:Z9 D):Z9 D:=bI DZ (λi j=>.int (i / j)) x y
def cS(x y:Z9 D):Z9 D:=bI Er (λi j=>.int (i%j)) x y
theorem Ab(ha:DE X m a fa)(hb:DE X m' b fb):DE X mm (.BinOp a .Add b pos) (λδ=>gj (fa δ) (fb δ)):=qI Aa (λi j H Q _ q=>⟨i,j,rfl,rfl,q⟩) ha hb
theorem BX(ha:DE X m a fa)(hb:DE X m' b fb):DE X mm (.BinOp a .Sub b pos) (λδ=>Cm (fa δ) (fb δ)):=qI BY (λi j H Q _ q=>⟨i,j,rfl,rfl,q⟩) ha hb
theorem Ao(ha:DE X m a fa)(hb:DE X m' b fb):DE X mm (.BinOp a .Mult b pos) (λδ=>tN (fa δ) (fb δ)):=qI Ba (λi j H Q c q=>⟨i,j,rfl,rfl,(show(-(2 ^ 64)<i/\i<2 ^ 64)\/(-(2 ^ 64)<j/\j<2 ^ 64) from Zf c),q⟩) ha hb
theorem Bg(ha:DE X m a fa)(hb:DE X m' b fb):DE X mm (.BinOp a .FloorDiv b pos) (λδ=>t6 (fa δ) (fb δ)):=qI yB (λi j H Q c q=>⟨i,j,rfl,rfl,(show 0<j/\j<1073741824 from Zf c),q⟩) ha hb
theorem A9(ha:DE X m a fa)(hb:DE X m' b fb):DE X mm (.BinOp a .Mod b pos) (λδ=>cS (fa δ) (fb δ)):=qI A5 (λi j H Q c q=>⟨i,j,rfl,rfl,(show 0<j from Zf c),q⟩) ha hb
def cI(g:Int->Int->Bool)(x y:Z9 D):Z9 Bool:=match x,y with|some (.int i),some (.int j)=>some (g i j)|_,_=>none
def xX(h:cI g x y=some c):∃i j,x=some (.int i)/\y=some (.int j)/\c=g i j:=by
 unfold cI at h;split at h
 .rename_i i j;obtain rfl:=Z7 h;exact⟨i,j,rfl,rfl,rfl⟩
 .trivial
theorem Bt(ho:OpR X (compareOp op) (rI0 λi j=>.bl (g i j)))(hm:behindInMarks op b=false)(ha:DE X m a fa)(hb:DE X m' b fb):
  DT X (.Compare a [op] [b] pos) (λδ=>cI g (fa δ) (fb δ)):=
 (c8 ho ha hb hm).imp λσ H Q hz=>by
  obtain⟨B,Hk,δ,d,R,e,k⟩:=hz;obtain⟨i,j,e1,e2,rfl⟩:=xX e;refine two R e1 e2 λv u H' s R' r1 r2=>?_
  simp only[Rep]at r1 r2;subst r1 r2;exact⟨i,j,rfl,rfl,_,rfl,k H' s⟩
abbrev gGt:Int->Int->Bool:=λi j=>decide (j<i)
def tyB(x:Z9 D):Z9 Bool:=match x with|some (.bl b)=>some b|_=>none
def ofB(x:Z9 Bool):Z9 D:=match x with|some b=>some (.bl b)|none=>none
def iU(h:tyB x=some c):x=some (.bl c):=by
 unfold tyB at h;split at h
 .obtain rfl:=Z7 h;rfl
 .trivial
theorem wz(ha:DE X m a fa)(he:∀whole,isTrue a X.env whole=(do let v <-whole;standAt a.pos;holding [v] (truthy v)):=by intro _;rfl):DT X a (λδ=>tyB (fa δ)):=
 (Bc ha he).imp λσ H Q ⟨B,Hk,δ,d,R,e,k⟩=>⟨B,Hk,δ,_,R,iU e,λv H' s r=>by
  simp only[Rep]at r;subst r;exact⟨d,rfl,k H' s⟩⟩
variable{fc ga gb:DEnv->Z9 Bool}{am:Z8 Expr}
def pD(x y:Z9 Bool):Z9 Bool:=match x with|some true=>y|some false=>some false|none=>none
def orO(x y:Z9 Bool):Z9 Bool:=match x with|some true=>some true|some false=>y|none=>none
def gR(x:Z9 Bool):Z9 Bool:=match x with|some c=>some (!c)|none=>none
abbrev DW(X:Cx)(e:Expr)(f:DEnv->Z9 Bool):Prop:=PW X e (tMT X.K f)
theorem zN(ha:DT X a ga):DW X (.BoolOp .And [a] pos) ga:=zK ha
theorem Bv(ha:DT X a ga):DW X (.BoolOp .Or [a] pos) ga:=AU ha
theorem BJ(ha:DT X a ga)(hb:DW X (.BoolOp .And (b::am) pos) gb):DW X (.BoolOp .And (a::b::am) pos) (λδ=>pD (ga δ) (gb δ)):=
 (AJ ha hb).imp λσ H Q hz=>by
  obtain⟨B,Hk,δ,d,R,e,k⟩:=hz;unfold pD at e;dsimp only at e;split at e
  .rename_i q
   exact⟨B,Hk,δ,true,R,q,λH1 s1=>v8 (⟨B,Hk,δ,d,R.to s1,e,λH2 s2=>k H2 (s1.trans s2)⟩)⟩
  .rename_i q;obtain rfl:=Z7 e
   exact⟨B,Hk,δ,false,R,q,λH1 s1=>vA (k H1 s1)⟩
  .trivial
theorem Ct(ha:DT X a ga)(hb:DW X (.BoolOp .Or (b::am) pos) gb):DW X (.BoolOp .Or (a::b::am) pos) (λδ=>orO (ga δ) (gb δ)):=
 (CD ha hb).imp λσ H Q hz=>by
  obtain⟨B,Hk,δ,d,R,e,k⟩:=hz;unfold orO at e;dsimp only at e;split at e
  .rename_i q;obtain rfl:=Z7 e
   exact⟨B,Hk,δ,true,R,q,λH1 s1=>v8 (k H1 s1)⟩
  .rename_i q
   exact⟨B,Hk,δ,false,R,q,λH1 s1=>vA (⟨B,Hk,δ,d,R.to s1,e,λH2 s2=>k H2 (s1.trans s2)⟩)⟩
  .trivial
theorem AN(ha:DT X a ga):DT X (.UnaryOp .Not a pos) (λδ=>gR (ga δ)):=
 (Am ha).imp λσ H Q hz=>by
  obtain⟨B,Hk,δ,d,R,e,k⟩:=hz;dsimp only[gR]at e;split at e
  .rename_i c q;obtain rfl:=Z7 e
   exact⟨B,Hk,δ,c,R,q,λH1 s1=>k H1 s1⟩
  .trivial
def AD(ha:DE X m a fa)(hk:m=mm:=by rfl):DE X mm (.BoolOp op [a] pos) fa:=by subst hk;exact BS ha
def Au(ha:DE X m a fa)(hb:DE X mm (.BoolOp .And (b::am) pos) fb):DE X mm (.BoolOp .And (a::b::am) pos) (λδ=>match tyB (fa δ)with|some true=>fb δ|some false=>some (.bl false)|none=>none):=
 (AG ha hb).imp λσ H Q hz=>by
  obtain⟨B,Hk,δ,d,R,e,k⟩:=hz;dsimp only at e;split at e
  .rename_i q
   exact⟨B,Hk,δ,_,R,iU q,λv H1 s1 r=>by
    simp only[Rep]at r;exact⟨true,r,by rw[Z0 rfl];exact⟨B,Hk,δ,d,R.to s1,e,λv H2 s2=>k v H2 (s1.trans s2)⟩⟩⟩
  .rename_i q;obtain rfl:=Z7 e
   exact⟨B,Hk,δ,_,R,iU q,λv H1 s1 r=>by
    simp only[Rep]at r;exact⟨false,r,by rw[ZY Zn];exact k _ H1 s1 (by simp only[Rep])⟩⟩
  .trivial
def af(x:Z9 D)(y:Z9 (Z8 D)):Z9 (Z8 D):=match x,y with|some d,some ds=>some (d::ds)|_,_=>none
def ox(h:af x y=some l):∃d ds,x=some d/\y=some ds/\l=d::ds:=by
 unfold af at h;split at h
 .rename_i d ds;obtain rfl:=Z7 h;exact⟨d,ds,rfl,rfl,rfl⟩
 .trivial
variable{e:Expr}{es:Z8 Expr}{fe:DEnv->Z9 D}{fs:DEnv->Z9 (Z8 D)}
theorem fG:DA X m [] (λ_=>some []):=aI.imp λσ H Q hz=>by obtain⟨B,Hk,δ,d,R,e,k⟩:=hz;obtain rfl:=Z7 e;exact k [] H (Same.refl H) Reps.nil
theorem bQ(ha:DE X m e fe)(hr:DA X m es fs)(hs:starEach (e::es) X.env=(false,eval e X.env)::starEach es X.env:=by rfl):DA X m (e::es) (λδ=>af (fe δ) (fs δ)):=
 (aq ha hr hs).imp λσ H Q hz=>by
  obtain⟨B,Hk,δ,l,R,e,k⟩:=hz;obtain⟨d,ds,e1,e2,rfl⟩:=ox e;exact⟨B,Hk,δ,d,R,e1,λv H1 s1 r1=>⟨B,Hk,δ,ds,R.to s1,e2,λvs H2 s2 r2=>k (v::vs) H2 (s1.trans s2) (Reps.cons (r1.same (R.to s1) s2) r2)⟩⟩
def lim:Nat:=1000000
def aB(h:n<=lim):n<=sizeLine:=Zr h (by decide)
def kG(x:Z9 (Z8 D)):Z9 D:=match x with|some ds=>if ds.length<=lim then some (.tup ds) else none|none=>none
def ce(x:Z9 (Z8 D)):Z9 D:=match x with|some ds=>if ds.length<=lim then some (.lst ds) else none|none=>none
def pI(h:kG x=some d):∃ds,x=some ds/\ds.length<=lim/\d=.tup ds:=by
 unfold kG at h;split at h
 .rename_i ds
  by_cases q:ds.length<=lim
  .rw[Z0 q]at h;obtain rfl:=Z7 h;exact⟨ds,rfl,q,rfl⟩
  .rw[ZY q]at h;trivial
 .trivial
def tj(h:ce x=some d):∃ds,x=some ds/\ds.length<=lim/\d=.lst ds:=by
 unfold ce at h;split at h
 .rename_i ds
  by_cases q:ds.length<=lim
  .rw[Z0 q]at h;obtain rfl:=Z7 h;exact⟨ds,rfl,q,rfl⟩
  .rw[ZY q]at h;trivial
 .trivial
def au(h:H p=none):Same H (upd H p o):=(Same.refl H).put h
theorem wI{x1:Nat}(h:DA X m es fs):DE X m (.Tuple es x1 pos) (λδ=>kG (fs δ)):=
 (BI h).imp λσ H Q hz=>by
  obtain⟨B,Hk,δ,d,R,e,k⟩:=hz;obtain⟨ds,e1,hl,rfl⟩:=pI e;refine⟨B,Hk,δ,ds,R,e1,λvs H1 s1 r1=>⟨by rw[<-r1.length];exact aB hl,λp hp=>?_⟩⟩
  have s2:=au (o:=.tup vs) hp;refine k _ _ (s1.trans s2) ?_
  simp only[Rep];exact⟨p,vs,rfl,ah,r1.same (R.to s1) s2⟩
theorem wV(h:DA X false es fs):DF X (.List es pos) (λδ=>ce (fs δ)):=
 (AR h).imp λσ H Q hz=>by
  obtain⟨B,Hk,δ,d,R,e,k⟩:=hz;obtain⟨ds,e1,hl,rfl⟩:=tj e;refine⟨B,Hk,δ,ds,R,e1,λvs H1 s1 r1=>⟨by rw[<-r1.length];exact aB hl,λp hp=>?_⟩⟩
  have s2:=au (o:=.lst vs) hp;exact k p _ (s1.trans s2) (s1.free hp) ⟨vs,ah,r1.same (m:=false) (R.to s1) s2⟩
end
def okD:Nat->D->Bool
 |_,.non=>true
 |_,.int _=>true
 |_,.str _=>true
 |n+1,.tup ds=>ds.all (okD n)
 |n+1,.lst ds=>ds.all (okD n)
 |_,_=>false
def yX(h:okD n (.tup ds)=true):∃k,n=k+1/\ds.all (okD k)=true:=by
 cases n with
 |zero=>simp[okD]at h
 |succ k=>exact⟨k,rfl,by simpa only[okD]using h⟩
def zF(h:okD n (.lst ds)=true):∃k,n=k+1/\ds.all (okD k)=true:=by
 cases n with
 |zero=>simp[okD]at h
 |succ k=>exact⟨k,rfl,by simpa only[okD]using h⟩
section
def cZ(I:Inv X a_ σ H s)(h:SqL X.K H a xs)(h':SqT X.K H a ys):False:=by
 obtain⟨its,_,⟨o,n,e,hc,_,_⟩,_⟩:=I.list h;obtain⟨its',_,⟨o',e',Li,_⟩,_⟩:=I.tuple h';rw[e]at e';obtain rfl:=Z7 e';rw[hc]at Li;injection Li with z
 exact absurd z (by decide)
def MR{K:Z6}{n:Nat}{d:D}{v:V}(hd:okD n d=true)(r:Rep K B H d v):(d=.non/\v=.non)\/(∃i,d=.int i/\v=.int i)\/(∃i,d=.str i/\v=.str i)\/
  (∃ds a xs k,d=.tup ds/\v=.ref a/\n=k+1/\ds.all (okD k)=true/\SqT K H a xs/\Reps K B H ds xs)\/∃ds a xs k,d=.lst ds/\v=.ref a/\n=k+1/\ds.all (okD k)=true/\SqL K H a xs/\Reps K B H ds xs:=by
 cases d with
 |non=>exact .inl ⟨rfl,r⟩
 |int i=>exact .inr (.inl ⟨_,rfl,r⟩)
 |str i=>exact .inr (.inr (.inl ⟨_,rfl,r⟩))
 |tup ds=>
  simp only[Rep]at r;obtain⟨a,xs,rfl,hq,hr⟩:=r;obtain⟨k,rfl,h⟩:=yX hd;exact .inr (.inr (.inr (.inl ⟨_,a,xs,k,rfl,rfl,rfl,h,SqT.of hq,hr⟩)))
 |lst ds=>
  simp only[Rep]at r;obtain⟨a,xs,rfl,hq,hr⟩:=r;obtain⟨k,rfl,h⟩:=zF hd;exact .inr (.inr (.inr (.inr ⟨_,a,xs,k,rfl,rfl,rfl,h,hq.sq,hr⟩)))
 |_=>simp[okD]at hd
theorem Reps.IZ{K:Z6}{n n':Nat}(f:∀d e v,okD n d=true->okD n' e=true->Rep K B H d v->Rep K B' H e v->d=e):∀{ds es:Z8 D}{xs:Z8 V},ds.all (okD n)=true->es.all (okD n')=true->Reps K B H ds xs->Reps K B' H es xs->ds=es
 |[],es,xs,hd,he,r,r'=>by
  simp only[Reps]at r;subst r;cases es with
  |nil=>rfl
  |cons e es=>simp only[Reps]at r';obtain⟨_,_,z,_⟩:=r';trivial
 |d::ds,es,xs,hd,he,r,r'=>by
  simp only[Reps]at r;obtain⟨x,t,rfl,r1,r2⟩:=r;cases es with
  |nil=>simp only[Reps]at r';trivial
  |cons e es=>
   obtain⟨q1,q2⟩:=r'.uncons;rw[List.all_cons,ZH]at hd he;rw[f _ _ _ hd.1 he.1 r1 q1,Reps.IZ f hd.2 he.2 r2 q2]
def Rep.inj(I:Inv X a_ σ H s):∀{n n':Nat}{d e:D}{v:V},okD n d=true->okD n' e=true->Rep X.K B H d v->Rep X.K B' H e v->d=e:=by
 intro n
 induction n using Nat.strongRecOn with
 |ind n ih=>
 intro n' d e v hd he r r'
 rcases MR hd r with⟨rfl,rfl⟩|⟨i,rfl,rfl⟩|⟨i,rfl,rfl⟩|⟨ds,a,xs,k,rfl,rfl,rfl,h1,q1,r1⟩|⟨ds,a,xs,k,rfl,rfl,rfl,h1,q1,r1⟩<;>rcases MR he r' with⟨rfl,z⟩|⟨j,rfl,z⟩|⟨j,rfl,z⟩|⟨es,b,ys,k',rfl,z,_,h2,q2,r2⟩|⟨es,b,ys,k',rfl,z,_,h2,q2,r2⟩<;>cases z<;>try rfl
 .obtain rfl:=I.tuple_inj q1 q2;rw[Reps.IZ (λ_ _ _=>ih k (Yr k)) h1 h2 r1 r2]
 .exact(cZ I q2 q1).elim
 .exact(cZ I q1 q2).elim
 .obtain rfl:=I.list_inj q1 q2;rw[Reps.IZ (λ_ _ _=>ih k (Yr k)) h1 h2 r1 r2]
theorem Reps.inj(I:Inv X a_ σ H s)(hd:ds.all (okD n)=true)(he:es.all (okD n')=true)(r:Reps X.K B H ds xs)(r':Reps X.K B' H es xs):ds=es:=Reps.IZ (λ_ _ _=>Rep.inj I) hd he r r'
def eB:∀(ds es:Z8 D),(ds.length=es.length)->((List.range ds.length).all λj=>decide (ds[j]?=es[j]?))=decide (ds=es):=by
 intro ds es hl;rw[YG,ZO,Y9];constructor
 .intro h
  apply Xp;intro j
  by_cases hj:j<ds.length
  .exact Zf (h j (Yq.mpr hj))
  .rw[YR (by lia),YR (by lia)]
 .intro h j _
  subst h;exact Zt rfl
def g9:∀(ds es:Z8 D),(((List.range (min ds.length es.length)).all λj=>decide (ds[j]?=es[j]?))&&ds.length==es.length)=decide (ds=es):=by
 intro ds es
 by_cases hl:ds.length=es.length
 .rw[hl,Nat.min_self,X2,Xl,<-hl,eB ds es hl]
 .have h1:(ds.length==es.length)=false:=by simpa using hl
  have h2:¬ds=es:=λz=>hl (by rw[z])
  rw[h1,WE,ZC h2]
def Eh(I:Inv X a_ σ H s){n:Nat}{d:D}{v:V}{u:Z3}(hd:okD n d=true)(r:Rep X.K B H d v)(ru:RelV v u):(d=.non/\u=.none)\/(∃i t,d=.int i/\u=.int i t)\/(∃i t,d=.str i/\u=.str i t)\/
  (∃ds a xs k its,d=.tup ds/\u=.ref a/\n=k+1/\ds.all (okD k)=true/\SqT X.K H a xs/\Reps X.K B H ds xs/\Vals xs its/\s.heap.IsTuple a its.toArray)\/∃ds a xs k its,d=.lst ds/\u=.ref a/\n=k+1/\ds.all (okD k)=true/\SqL X.K H a xs/\Reps X.K B H ds xs/\Vals xs its/\s.heap.IsList a its.toArray:=by
 rcases MR hd r with⟨rfl,rfl⟩|⟨i,rfl,rfl⟩|⟨i,rfl,rfl⟩|⟨ds,a,xs,k,rfl,rfl,rfl,h1,q1,r1⟩|⟨ds,a,xs,k,rfl,rfl,rfl,h1,q1,r1⟩
 .exact .inl ⟨rfl,ru⟩
 .obtain⟨t,rfl⟩:=ru;exact .inr (.inl ⟨i,t,rfl,rfl⟩)
 .obtain⟨t,rfl⟩:=ru;exact .inr (.inr (.inl ⟨i,t,rfl,rfl⟩))
 .obtain⟨its,rv,h,_⟩:=I.tuple q1;exact .inr (.inr (.inr (.inl ⟨ds,a,xs,k,its,rfl,ru,rfl,h1,q1,r1,rv,h⟩)))
 .obtain⟨its,rv,h,_⟩:=I.list q1;exact .inr (.inr (.inr (.inr ⟨ds,a,xs,k,its,rfl,ru,rfl,h1,q1,r1,rv,h.isList⟩)))
open SeqAt in
def B0(I:Inv X a_ σ H s)(ih:∀(d e:D)(x y:V)(u w:Z3),okD k d=true->okD k e=true->Rep X.K B H d x->Rep X.K B' H e y->RelV x u->RelV y w->EqAt A s u w (decide (d=e)))(hd:ds.all (okD k)=true)(he:es.all (okD k)=true)(hr:Reps X.K B H ds xs)(GZ:Reps X.K B' H es ys)(rv:Vals xs its)(Ji:Vals ys l_):∀j (h1:j<its.toArray.size) (h2:j<l_.toArray.size),EqAt A s its.toArray[j] l_.toArray[j] (decide (ds[j]?=es[j]?)):=λj h1 h2=>by
 have l1:=hr.length;have l2:=rv.length;have l3:=GZ.length;have l4:=Ji.length;simp only[ZU]at h1 h2;obtain⟨d',G0⟩:∃d',ds[j]?=some d':=⟨ds[j]'(by lia),by simp⟩
 obtain⟨e',JI⟩:∃e',es[j]?=some e':=⟨es[j]'(by lia),by simp⟩
 obtain⟨x',Q4,QD⟩:=hr.get G0;obtain⟨y',Q2,QC⟩:=GZ.get JI;obtain⟨u',HQ,MS⟩:=rv.get Q4;obtain⟨w',K5,E_⟩:=Ji.get Q2;have q:=ih d' e' x' y' u' w' ((ZO.mp hd) d' (Zg G0)) ((ZO.mp he) e' (Zg JI)) QD QC MS E_;have g1:its.toArray[j]=u':=by simpa using(ZV.mp HQ).2
 have g2:l_.toArray[j]=w':=by simpa using(ZV.mp K5).2
 rw[g1,g2,G0,JI,show decide (some d'=some e')=decide (d'=e') by simp]
 exact q
open SeqAt in
def zS(I:Inv X a_ σ H s):∀(n:Nat)(d e:D)(x y:V)(u w:Z3)(A:Za),okD n d=true->okD n e=true->A.units+n+1<cLine->Rep X.K B H d x->Rep X.K B' H e y->RelV x u->RelV y w->
  RcAt A s u w (decide (d=e))/\EqAt A s u w (decide (d=e))/\RcNeAt A s u w (!decide (d=e)):=by
 intro n
 induction n using Nat.strongRecOn with
 |ind n ih=>
 intro d e x y u w A hd he hA rd re rx ry;have hu:A.units<cLine:=by lia
 rcases Eh I hd rd rx with⟨rfl,rfl⟩|⟨i,t',rfl,rfl⟩|⟨i,t',rfl,rfl⟩|⟨ds,a,xs,k,its,rfl,rfl,rfl,D_,hp,hr,rv,B_⟩|⟨ds,a,xs,k,its,rfl,rfl,rfl,D_,hp,hr,rv,B_⟩<;>rcases Eh I he re ry with⟨rfl,rfl⟩|⟨j,t,rfl,rfl⟩|⟨j,t,rfl,rfl⟩|⟨es,b,ys,k',l_,rfl,rfl,z,IT,hq,GZ,Ji,z_⟩|⟨es,b,ys,k',l_,rfl,rfl,z,IT,hq,GZ,Ji,z_⟩
 all_goals try rw[ZC (by intro zz;trivial)]
 .rw[Zt rfl];exact⟨RcAt.none_none,EqAt.same _,RcNeAt.none_none⟩
 .exact⟨RcAt.none_int j t,EqAt.none_int j t,RcNeAt.none_int j t⟩
 .exact⟨RcAt.none_str j t,EqAt.none_str j t,RcNeAt.none_str j t⟩
 .exact⟨RcAt.none_tuple z_ hu,EqAt.none_tuple z_ hu,RcNeAt.none_tuple z_ hu⟩
 .exact⟨RcAt.none_list z_ hu,EqAt.none_list z_ hu,RcNeAt.none_list z_ hu⟩
 .exact⟨RcAt.int_none i t',EqAt.int_none i t',RcNeAt.int_none i t'⟩
 .have q:decide (D.int i=D.int j)=(i==j):=by rw[YG,Y9,Zx,D.int.injEq]
  rw[q];exact⟨RcAt.int_int i t' j t,EqAt.int_int i t' j t,RcNeAt.int_int i t' j t⟩
 .exact⟨RcAt.int_str i t' j t,EqAt.int_str i t' j t,RcNeAt.int_str i t' j t⟩
 .exact⟨RcAt.int_tuple i t' z_ hu,EqAt.int_tuple i t' z_ hu,RcNeAt.int_tuple i t' z_ hu⟩
 .exact⟨RcAt.int_list i t' z_ hu,EqAt.int_list i t' z_ hu,RcNeAt.int_list i t' z_ hu⟩
 .exact⟨RcAt.str_none i t',EqAt.str_none i t',RcNeAt.str_none i t'⟩
 .exact⟨RcAt.str_int i t' j t,EqAt.str_int i t' j t,RcNeAt.str_int i t' j t⟩
 .have q:decide (D.str i=D.str j)=(i==j):=by rw[YG,Y9,Zx,D.str.injEq]
  rw[q];exact⟨RcAt.str_str i t' j t,EqAt.str_str i t' j t,RcNeAt.str_str i t' j t⟩
 .exact⟨RcAt.str_tuple i t' z_ hu,EqAt.str_tuple i t' z_ hu,RcNeAt.str_tuple i t' z_ hu⟩
 .exact⟨RcAt.str_list i t' z_ hu,EqAt.str_list i t' z_ hu,RcNeAt.str_list i t' z_ hu⟩
 .exact⟨RcAt.tuple_none B_ hu,EqAt.tuple_none B_ hu,RcNeAt.tuple_none B_ hu⟩
 .exact⟨RcAt.tuple_int j t B_ hu,EqAt.tuple_int j t B_ hu,RcNeAt.tuple_int j t B_ hu⟩
 .exact⟨RcAt.tuple_str j t B_ hu,EqAt.tuple_str j t B_ hu,RcNeAt.tuple_str j t B_ hu⟩
 .cases z
  have el:=B0 I (A:=A.in1) (λd e x y u w h1 h2 h3 h4 h5 h6=>(ih k (Yr k) d e x y u w A.in1 h1 h2 (by show A.units+1+k+1<cLine;lia) h3 h4 h5 h6).2.1) D_ IT hr GZ rv Ji
  have l1:=hr.length;have l2:=rv.length;have l3:=GZ.length;have l4:=Ji.length;have key:((List.range (min its.toArray.size l_.toArray.size)).all (λj=>decide (ds[j]?=es[j]?))&&its.toArray.size==l_.toArray.size)=decide (D.tup ds=D.tup es):=by
   rw[ZU,ZU,<-l2,<-l4,<-l1,<-l3,g9];simp only[D.tup.injEq]
  have rc:=RcAt.tuples B_ z_ hu el;have rn:=RcNeAt.tuples B_ z_ hu el;rw[key]at rc rn;refine⟨rc,?_,rn⟩
  by_cases IE:a=b
  .subst IE
   obtain rfl:=I.tuple_inj hp hq;have:=Reps.inj I D_ IT hr GZ;subst this;rw[Zt rfl];exact EqAt.same _
  .exact EqAt.of_refs IE rc
 .exact⟨RcAt.tuple_list B_ z_ hu,EqAt.tuple_list B_ z_ hu,RcNeAt.tuple_list B_ z_ hu⟩
 .exact⟨RcAt.list_none B_ hu,EqAt.list_none B_ hu,RcNeAt.list_none B_ hu⟩
 .exact⟨RcAt.list_int j t B_ hu,EqAt.list_int j t B_ hu,RcNeAt.list_int j t B_ hu⟩
 .exact⟨RcAt.list_str j t B_ hu,EqAt.list_str j t B_ hu,RcNeAt.list_str j t B_ hu⟩
 .exact⟨RcAt.list_tuple B_ z_ hu,EqAt.list_tuple B_ z_ hu,RcNeAt.list_tuple B_ z_ hu⟩
 .cases z
  have el:=B0 I (A:=A.in1) (λd e x y u w h1 h2 h3 h4 h5 h6=>(ih k (Yr k) d e x y u w A.in1 h1 h2 (by show A.units+1+k+1<cLine;lia) h3 h4 h5 h6).2.1) D_ IT hr GZ rv Ji
  have l1:=hr.length;have l2:=rv.length;have l3:=GZ.length;have l4:=Ji.length
  by_cases hsz:its.toArray.size=l_.toArray.size
  .have key:((List.range its.toArray.size).all (λj=>decide (ds[j]?=es[j]?)))=decide (D.lst ds=D.lst es):=by
    have hl:ds.length=es.length:=by simp only[ZU]at hsz;lia
    rw[ZU,<-l2,<-l1,eB _ _ hl];simp only[D.lst.injEq]
   have rc:=RcAt.lists B_ z_ hsz hu el;have rn:=RcNeAt.lists B_ z_ hsz hu el;rw[key]at rc rn;refine⟨rc,?_,rn⟩
   by_cases IE:a=b
   .subst IE
    obtain rfl:=I.list_inj hp hq;have:=Reps.inj I D_ IT hr GZ;subst this;rw[Zt rfl];exact EqAt.same _
   .exact EqAt.of_refs IE rc
  .have FW:¬D.lst ds=D.lst es:=λz=>hsz (by
    cases z;simp only[ZU];lia)
   have hb:(its.toArray.size != l_.toArray.size)=true:=by simpa using hsz
   rw[ZC FW];have rc:=RcAt.lists_lengths B_ z_ hb hu;refine⟨rc,?_,RcNeAt.lists_lengths B_ z_ hb hu⟩
   have IE:a≠b:=λz=>by
    subst z;obtain rfl:=I.list_inj hp hq;exact hsz (by simp only[ZU];lia)
   exact EqAt.of_refs IE rc
end
section
variable{X:Cx}{a:Expr}
def ok2(x y:D):Bool:=okD 16 x&&okD 16 y
def eqO(x y:Z9 D):Z9 Bool:=match x,y with|some d,some e=>if ok2 d e=true then some (decide (d=e)) else none|_,_=>none
def eU(h:eqO x y=some c):∃d e,x=some d/\y=some e/\okD 16 d=true/\okD 16 e=true/\c=decide (d=e):=by
 unfold eqO at h;split at h
 .rename_i d e
  by_cases q:ok2 d e=true
  .rw[Z0 q]at h
   obtain rfl:=Z7 h;unfold ok2 at q;rw[ZH]at q;exact⟨d,e,rfl,rfl,q.1,q.2,rfl⟩
  .rw[ZY q]at h;trivial
 .trivial
def neO(x y:Z9 D):Z9 Bool:=gR (eqO x y)
def rD(K:Z6)(g:D->D->Bool):R2:=λx y H Q=>∃B B' d e,okD 16 d=true/\okD 16 e=true/\Rep K B H d x/\Rep K B' H e y/\Q (.bl (g d e)) H
def w8(hu:X.A.units+64<cLine):OpR X (compareOp .Eq) (rD X.K λd e=>decide (d=e)):=by
 intro a_ s σ H x y v u Q I rx ry h;obtain⟨B,B',d,e,hd,he,r1,r2,q⟩:=h;exact(zS I 16 d e x y v u X.A hd he (by lia) r1 r2 rx ry).1 X.prog X.w X.xe _ ⟨.bl _,H,I,rfl,q⟩
def wK(hu:X.A.units+64<cLine):OpR X (compareOp .NotEq) (rD X.K λd e=>!decide (d=e)):=by
 intro a_ s σ H x y v u Q I rx ry h;obtain⟨B,B',d,e,hd,he,r1,r2,q⟩:=h;exact(zS I 16 d e x y v u X.A hd he (by lia) r1 r2 rx ry).2.2 X.prog X.w X.xe _ ⟨.bl _,H,I,rfl,q⟩
theorem C4(hu:X.A.units+64<cLine)(ha:DE X m a fa)(hb:DE X m' b fb):DE X mm (.Compare a [.Eq] [b] pos) (λδ=>ofB (eqO (fa δ) (fb δ))):=
 (sX (w8 hu) ha hb (rW _)).imp λσ H Q hz=>by
  obtain⟨B,Hk,δ,d,R,e,k⟩:=hz;cases q:eqO (fa δ) (fb δ)with
  |none=>simp only[q,ofB]at e;trivial
  |some c=>
   simp only[q,ofB]at e;obtain rfl:=Z7 e;obtain⟨d1,d2,e1,e2,o1,o2,rfl⟩:=eU q;exact two R e1 e2 λv u H' s R' r1 r2=>⟨_,_,d1,d2,o1,o2,r1,r2,k _ H' s (by simp only[Rep])⟩
theorem Dj(hu:X.A.units+64<cLine)(ha:DE X m a fa)(hb:DE X m' b fb):DT X (.Compare a [.Eq] [b] pos) (λδ=>eqO (fa δ) (fb δ)):=
 (c8 (w8 hu) ha hb (rW _)).imp λσ H Q hz=>by
  obtain⟨B,Hk,δ,d,R,q,k⟩:=hz;obtain⟨d1,d2,e1,e2,o1,o2,rfl⟩:=eU q;exact two R e1 e2 λv u H' s R' r1 r2=>⟨_,_,d1,d2,o1,o2,r1,r2,_,rfl,k H' s⟩
theorem C9(hu:X.A.units+64<cLine)(ha:DE X m a fa)(hb:DE X m' b fb):DT X (.Compare a [.NotEq] [b] pos) (λδ=>neO (fa δ) (fb δ)):=
 (c8 (wK hu) ha hb (rW _)).imp λσ H Q hz=>by
  obtain⟨B,Hk,δ,d,R,e,k⟩:=hz;cases q:eqO (fa δ) (fb δ)with
  |none=>simp only[q,neO,gR]at e;trivial
  |some c=>
   simp only[q,neO,gR]at e;obtain rfl:=Z7 e;obtain⟨d1,d2,e1,e2,o1,o2,rfl⟩:=eU q;exact two R e1 e2 λv u H' s R' r1 r2=>⟨_,_,d1,d2,o1,o2,r1,r2,_,rfl,k H' s⟩
def aO:D->Z9 (Z8 D)
 |.lst ds=>some ds
 |.tup ds=>some ds
 |_=>none
noncomputable def inO(x y:Z9 D):Z9 Bool:=match x,y with|some d,some e=>(match aO e with|some es=>if(okD 16 d&&es.all (okD 16))=true then some (decide (d∈es)) else none|none=>none)|_,_=>none
def ip(h:inO x y=some c):∃d e es,x=some d/\y=some e/\aO e=some es/\okD 16 d=true/\es.all (okD 16)=true/\c=decide (d∈es):=by
 unfold inO at h;split at h
 .rename_i d e
  split at h
  .rename_i es he
   by_cases q:(okD 16 d&&es.all (okD 16))=true
   .rw[Z0 q]at h
    obtain rfl:=Z7 h;rw[ZH]at q;exact⟨d,e,es,rfl,rfl,he,q.1,q.2,rfl⟩
   .rw[ZY q]at h;trivial
  .trivial
 .trivial
def bX(x y:Z9 D):Z9 Bool:=gR (inO x y)
def Rep.items{K:Z6}{B:ZN->Prop}{H:Hp}{e:D}{es:Z8 D}{y:V}(r:Rep K B H e y)(h:aO e=some es):∃p xs,y=.ref p/\(SqL K H p xs\/SqT K H p xs)/\Reps K B H es xs:=by
 cases e with
 |lst ds=>simp only[aO]at h;obtain rfl:=Z7 h;simp only[Rep]at r;obtain⟨a,xs,e,hq,hr⟩:=r;exact⟨a,xs,e,.inl hq.sq,hr⟩
 |tup ds=>simp only[aO]at h;obtain rfl:=Z7 h;simp only[Rep]at r;obtain⟨a,xs,e,hq,hr⟩:=r;exact⟨a,xs,e,.inr (SqT.of hq),hr⟩
 |_=>simp[aO]at h
open Classical in
def uo(hu:X.A.units+64<cLine)(I:Inv X a_ σ H s)(hd:okD 16 d=true)(he:es.all (okD 16)=true)(r1:Rep X.K B H d x)(r2:Reps X.K B' H es xs)(rx:RelV x v)(rv:Vals xs its):∃e:Z3->Bool,(∀y,y∈its.toArray->SeqAt.EqAt X.A.in1 s y v (e y))/\its.toArray.any e=decide (d∈es):=by
 have one:∀j u,its[j]?=some u->∃d' x',es[j]?=some d'/\okD 16 d'=true/\Rep X.K B' H d' x'/\RelV x' u:=λj u hj=>by
  have hl:=rv.length;have k_:j<xs.length:=by rw[hl];exact(ZV.mp hj).1
  obtain⟨u',Gn,ru⟩:=rv.get (i:=j) (x:=xs[j]) (by simp[k_])
  rw[hj]at Gn;obtain rfl:=Z7 Gn;obtain⟨d',D_,Gx⟩:=r2.get' (i:=j) (x:=xs[j]) (by simp[k_])
  exact⟨d',xs[j],D_,(ZO.mp he) d' (Zg D_),Gx,ru⟩
 refine⟨λu=>decide (∃d' x',okD 16 d'=true/\Rep X.K B' H d' x'/\RelV x' u/\d'=d),λu Gn=>?_,?_⟩
 .obtain⟨j,hj⟩:=X_ (show u∈its by simpa using Gn)
  obtain⟨d',x',_,o',Gx,ru⟩:=one j u hj;have q:=(zS I 16 d' d x' x u v X.A.in1 o' hd (by show X.A.units+1+16+1<cLine;lia) Gx r1 ru rx).2.1
  have key:decide (∃d' x',okD 16 d'=true/\Rep X.K B' H d' x'/\RelV x' u/\d'=d)=decide (d'=d):=by
   rw[YG,Y9,Y9];constructor
   .rintro⟨d2,x2,o2,KZ,KW,e2⟩
    rw[<-e2];have ex:=ru.inj KW;subst ex;exact Rep.inj I o' o2 Gx KZ
   .intro e2
    exact⟨d',x',o',Gx,ru,e2⟩
  show SeqAt.EqAt X.A.in1 s u v (decide (∃d' x',okD 16 d'=true/\Rep X.K B' H d' x'/\RelV x' u/\d'=d));rw[key];exact q
 .rw[YG,Y9,Array.any_eq_true]
  constructor
  .rintro⟨j,hj,h⟩
   have h':=Zf h;obtain⟨d2,x2,o2,KZ,KW,e2⟩:=h';have Jm:its[j]?=some its.toArray[j]:=by
    simp only[ZU]at hj;simp[hj]
   obtain⟨d',x',D_,o',Gx,ru⟩:=one j _ Jm;have ex:=ru.inj KW;subst ex;have:=Rep.inj I o' o2 Gx KZ;subst this;rw[<-e2];exact Zg D_
  .intro h
   obtain⟨j,hj⟩:=X_ h
   obtain⟨y,hy,ry⟩:=r2.get hj;obtain⟨u,Gn,ru⟩:=rv.get hy;obtain⟨k_,ge⟩:=ZV.mp Gn
   refine⟨j,by simpa using k_,Zt ⟨d,y,hd,ry,?_,rfl⟩⟩
   simpa[ge]using ru
noncomputable def Eu(K:Z6)(neg:Bool):R2:=λx y H Q=>∃B B' d e es,aO e=some es/\okD 16 d=true/\es.all (okD 16)=true/\Rep K B H d x/\Rep K B' H e y/\Q (.bl (if neg then !decide (d∈es) else decide (d∈es))) H
def wX(hu:X.A.units+64<cLine):OpR X (compareOp .In) (Eu X.K false):=by
 intro a_ s σ H x y v u Q I rx ry h;obtain⟨B,B',d,e,es,hi,hd,he,r1,r2,q⟩:=h;obtain⟨p,xs,rfl,hq,rs⟩:=r2.items hi;cases ry
 rcases hq with hq|hq
 .obtain⟨its,r,pl,hz⟩:=I.list hq
  obtain⟨g,g1,g2⟩:=uo hu I hd he r1 rs rx r;exact SeqAt.in_listAt g pl.isList g1 ⟨.bl _,H,I,rfl,by rw[g2];exact q⟩
 .obtain⟨its,r,pl,hz⟩:=I.tuple hq
  obtain⟨g,g1,g2⟩:=uo hu I hd he r1 rs rx r;exact SeqAt.in_tupleAt g pl g1 ⟨.bl _,H,I,rfl,by rw[g2];exact q⟩
def su(hu:X.A.units+64<cLine):OpR X (compareOp .NotIn) (Eu X.K true):=by
 intro a_ s σ H x y v u Q I rx ry h;obtain⟨B,B',d,e,es,hi,hd,he,r1,r2,q⟩:=h;obtain⟨p,xs,rfl,hq,rs⟩:=r2.items hi;cases ry
 rcases hq with hq|hq
 .obtain⟨its,r,pl,hz⟩:=I.list hq
  obtain⟨g,g1,g2⟩:=uo hu I hd he r1 rs rx r;exact SeqAt.notIn_listAt g pl.isList g1 ⟨.bl _,H,I,rfl,by rw[g2];exact q⟩
 .obtain⟨its,r,pl,hz⟩:=I.tuple hq
  obtain⟨g,g1,g2⟩:=uo hu I hd he r1 rs rx r;exact SeqAt.notIn_tupleAt g pl g1 ⟨.bl _,H,I,rfl,by rw[g2];exact q⟩
theorem Cp(hu:X.A.units+64<cLine)(ha:DE X m a fa)(hb:DE X m' b fb)(hm:behindInMarks .In b=false:=by rfl):DT X (.Compare a [.In] [b] pos) (λδ=>inO (fa δ) (fb δ)):=
 (c8 (wX hu) ha hb hm).imp λσ H Q hz=>by
  obtain⟨B,Hk,δ,d,R,q,k⟩:=hz;obtain⟨d1,d2,es,e1,e2,hi,o1,o2,rfl⟩:=ip q;exact two R e1 e2 λv u H' s R' r1 r2=>⟨_,_,d1,d2,es,hi,o1,o2,r1,r2,_,rfl,k H' s⟩
theorem uN(hu:X.A.units+64<cLine)(ha:DE X m a fa)(hb:DE X m' b fb)(hm:behindInMarks .NotIn b=false:=by rfl):DT X (.Compare a [.NotIn] [b] pos) (λδ=>bX (fa δ) (fb δ)):=
 (c8 (su hu) ha hb hm).imp λσ H Q hz=>by
  obtain⟨B,Hk,δ,d,R,e,k⟩:=hz;cases q:inO (fa δ) (fb δ)with
  |none=>simp only[q,bX,gR]at e;trivial
  |some c=>
   simp only[q,bX,gR]at e;obtain rfl:=Z7 e;obtain⟨d1,d2,es,e1,e2,hi,o1,o2,rfl⟩:=ip q;exact two R e1 e2 λv u H' s R' r1 r2=>⟨_,_,d1,d2,es,hi,o1,o2,r1,r2,_,rfl,k H' s⟩
theorem CT(hu:X.A.units+64<cLine)(ha:DE X m a fa)(hb:DE X m' b fb)(hm:behindInMarks .In b=false:=by rfl):DE X mm (.Compare a [.In] [b] pos) (λδ=>ofB (inO (fa δ) (fb δ))):=
 (sX (wX hu) ha hb hm).imp λσ H Q hz=>by
  obtain⟨B,Hk,δ,d,R,e,k⟩:=hz;cases q:inO (fa δ) (fb δ)with
  |none=>simp only[q,ofB]at e;trivial
  |some c=>
   simp only[q,ofB]at e;obtain rfl:=Z7 e;obtain⟨d1,d2,es,e1,e2,hi,o1,o2,rfl⟩:=ip q;exact two R e1 e2 λv u H' s R' r1 r2=>⟨_,_,d1,d2,es,hi,o1,o2,r1,r2,k _ H' s (by simp only[Rep];rfl)⟩
end
section
variable{X:Cx}{m m':Bool}{a b:Expr}{fa fb:DEnv->Z9 D}{pos:Pos}
def ixO(x y:Z9 D):Z9 D:=match x,y with|some d,some (.int i)=>(match aO d with|some ds=>atI ds i|none=>none)|_,_=>none
def vv(h:ixO x y=some d):∃e i es,x=some e/\y=some (.int i)/\aO e=some es/\atI es i=some d:=by
 unfold ixO at h;split at h
 .rename_i e i
  split at h
  .rename_i es he;exact⟨e,i,es,rfl,rfl,he,h⟩
  .trivial
 .trivial
theorem Reps.atI{K:Z6}{B:ZN->Prop}{H:Hp}{ds:Z8 D}{xs:Z8 V}{i:Int}{d:D}(r:Reps K B H ds xs)(h:atI ds i=some d):∃x,atI xs i=some x/\Rep K B H d x:=by
 unfold L2.atI at h⊢;rw[r.length]at h;cases q:ixN xs.length i with
 |none=>rw[q]at h;trivial
 |some j=>
  rw[q]at h;exact r.get (i:=j) h
def uQ{K:Z6}{B:ZN->Prop}{H:Hp}{e:D}{es:Z8 D}{y:V}{i:Int}{d:D}{Q:VK}(r:Rep K B H e y)(h:aO e=some es)(hi:atI es i=some d)(k:∀v,Rep K B H d v->Q v H):rIx K y (.int i) H Q:=by
 obtain⟨p,xs,rfl,hq,rs⟩:=r.items h;obtain⟨x,hx,rx⟩:=rs.atI hi
 rcases hq with hq|hq
 .exact .inl ⟨p,xs,i,x,rfl,rfl,hq,hx,k x rx⟩
 .exact .inr (.inl ⟨p,xs,i,x,rfl,rfl,hq,hx,k x rx⟩)
theorem v7(ha:DE X m a fa)(hb:DE X m' b fb)(hs:f7 b:=by exact λ_ _=>rfl):DE X m (.Subscript a b pos) (λδ=>ixO (fa δ) (fb δ)):=
 (vF B2 ha hb hs).imp λσ H Q hz=>by
  obtain⟨B,Hk,δ,d,R,e,k⟩:=hz;obtain⟨d1,i,es,e1,e2,hi,hd⟩:=vv e;refine two R e1 e2 λv u H' s R' r1 r2=>?_
  simp only[Rep]at r2;subst r2;exact uQ r1 hi hd λv rv=>k v H' s rv
noncomputable def t4(x y:Z9 D):Z9 D:=match x,y with|some (.str z),some (.int i)=>if z.length<=lim then(match atI z.cps.toList i with|some c=>some (.str ⟨#[c]⟩)|none=>none) else none|_,_=>none
def rL(h:t4 x y=some d):∃z i c,x=some (.str z)/\y=some (.int i)/\z.length<=lim/\atI z.cps.toList i=some c/\d=.str ⟨#[c]⟩:=by
 unfold t4 at h;split at h
 .rename_i z i
  by_cases q:z.length<=lim
  .rw[Z0 q]at h
   split at h
   .rename_i c hc;cases h;exact⟨z,i,c,rfl,rfl,q,hc,rfl⟩
   .trivial
  .rw[ZY q]at h;trivial
 .trivial
theorem Bh(ha:DE X m a fa)(hb:DE X m' b fb)(hs:f7 b:=by exact λ_ _=>rfl):DE X mm (.Subscript a b pos) (λδ=>t4 (fa δ) (fb δ)):=
 (vF wj ha hb hs).imp λσ H Q hz=>by
  obtain⟨B,Hk,δ,d,R,e,k⟩:=hz;obtain⟨z,i,c,e1,e2,hl,hc,rfl⟩:=rL e;refine two R e1 e2 λv u H' s R' r1 r2=>?_
  simp only[Rep]at r1 r2;subst r1 r2;exact⟨z,i,c,rfl,rfl,aB hl,hc,k _ H' s (by simp only[Rep])⟩
noncomputable def Cb(x:Z9 D):Z9 D:=match x with|some d=>(match aO d with|some ds=>some (.int ds.length)|none=>(match d with|.str z=>if z.length<=lim then some (.int z.length) else none|_=>none))|none=>none
def f9(x:Z9 D):Z9 D:=match x with|some d=>(match aO d with|some ds=>some (.int ds.length)|none=>none)|none=>none
def pJ(h:f9 x=some d):∃e es,x=some e/\aO e=some es/\d=.int es.length:=by
 unfold f9 at h;split at h
 .rename_i e
  split at h
  .rename_i es he;cases h;exact⟨e,es,rfl,he,rfl⟩
  .trivial
 .trivial
def pq{K:Z6}{σ:St}{H:Hp}{B:ZN->Prop}{Hk:Hp}{δ:DEnv}{d:D}{P:Z8 V->Hp->Prop}(R:Rel K B Hk δ σ H)(e:fa δ=some d)
  (k:∀v H',Same H H'->Rel K B Hk δ σ H'->Rep K (bb m B δ σ) H' d v->P [v] H'):oD (tM K m fa) tNil σ H P:=
 ⟨B,Hk,δ,d,R,e,λv H1 s1 r1=>k v H1 s1 (R.to s1) r1⟩
def Bn(g:Gl X "len")(hm:X.mg "len"=none)(ha:DE X m a fa)(hs:starEach [a] X.env=[(false,eval a X.env)]:=by rfl)(G0:((Str.ofString "len")==("__debug__":Str))=false:=by decide):DE X mm (.Call (.Name "len" p) [a] [] pos) (λδ=>f9 (fa δ)):=
 (cN jt g hm PySem.boot_len (aq ha aI hs) (he:=hs)).imp λσ H Q hz=>by
  obtain⟨B,Hk,δ,d,R,e,k⟩:=hz;obtain⟨d1,es,e1,hi,rfl⟩:=pJ e;refine pq R e1 λv H' s R' r=>?_
  obtain⟨p,xs,rfl,hq,rs⟩:=r.items hi;exact⟨p,xs,rfl,hq,k _ H' s (by simp only[Rep,rs.length])⟩
theorem Inv.frz{a_:Z8 (ZN×Obj)}{σ:St}{H:Hp}{s:ZP}{p:ZN}{u:HO}(I:Inv X a_ σ H s)(h:H p=some u)(mu:Mut (some u)):∃o,Inv X a_ σ (upd H p (.frz o u)) s:=by
 have KA:=I.hok p u h;have k_:=KA.lt;have OQ:Mut (H p):=by rw[h];exact mu
 have Jp:∃o,s.heap.get? p=some o:=by
  cases u with
  |lst xs=>obtain⟨_,_,_,_,e⟩:=KA;exact⟨_,e⟩
  |tup xs=>exact mu.elim
  |dK b_=>obtain⟨_,_,_,_,o,_,_,e,_⟩:=KA;exact⟨_,e⟩
  |dD b_ ep=>obtain⟨_,_,_,_,o,_,e,_⟩:=KA;exact⟨_,e⟩
  |own y=>exact mu.elim
  |rng lo hi=>exact mu.elim
  |frz ob u=>exact mu.elim
  |tbl lq ps=>exact mu.elim
  |ext φ=>obtain⟨_,⟨_,e⟩,_⟩:=KA;exact⟨_,e⟩
 obtain⟨o,ho⟩:=Jp;refine⟨o,?_⟩
 have Hw:∀c y,H c=some (.own y)->c≠p:=λc y r z=>by subst z;rw[h]at r;cases r;exact mu
 have JU:∀c xs,H c=some (.tup xs)->c≠p:=λc xs r z=>by subst z;rw[h]at r;cases r;exact mu
 have new:ObjOk X.prog X.w (upd H p (.frz o u)) s.heap p (.frz o u):=⟨ho,KA.stay (λb v _ q=>q) (λb q=>by rw[ai (Hw b p q)];exact q) λb xs q=>by rw[ai (JU b xs q)];exact q⟩
 exact I.un (t':=s.toks) (Un.write OQ (.inl rfl) (λb v _ q=>q) ⟨o,ho⟩) (I.hok.write OQ (.inl rfl) (λb v _ q=>q) ⟨o,ho⟩ new)
def ObR.mut{K:Z6}{B:ZN->Prop}{H:Hp}{d:D}{p:ZN}(h:ObR K B H d p):∃u,H p=some u/\Mut (some u):=by
 cases d with
 |lst ds=>obtain⟨xs,h1,h2⟩:=h;exact⟨_,h1,trivial⟩
 |dK ks ds=>obtain⟨xs,h1,h0,h2⟩:=h;exact⟨_,h1,trivial⟩
 |dD ks ds=>obtain⟨xs,⟨ep,h1⟩,h0,h2⟩:=h;exact⟨_,h1,trivial⟩
 |_=>exact(show False from h).elim
def bx(h:H p=some u)(mu:Mut (some u))(hb:¬B p):Ext B H (upd H p o):=
 ⟨λc xs r=>by rw[ai (λz=>by subst z;rw[h]at r;cases r;exact mu)];exact r,λc x y r=>by rw[ai (λz=>by subst z;rw[h]at r;cases r;exact mu)];exact r,
  λc r=>by rw[ai (λz=>by subst z;exact hb r)]⟩
def ObR.frozen{K:Z6}{B B':ZN->Prop}{H:Hp}{d:D}{p:ZN}{u:HO}{o:Obj}(h:ObR K B H d p)(hu:H p=some u)(hb:¬B p)(hs:∀a,B a->B' a):Rep K B' (upd H p (.frz o u)) d (.ref p):=by
 obtain⟨u',e,mu⟩:=h.mut;rw[hu]at e;cases e;have ex:Ext B H (upd H p (.frz o u)):=bx hu mu hb;cases d with
 |lst ds=>
  obtain⟨xs,h1,h2⟩:=h;rw[hu]at h1;cases h1;simp only[Rep];exact⟨p,xs,rfl,.inr (.inl ⟨o,ah⟩),(h2.ext ex).more hs⟩
 |dK ks ds=>
  obtain⟨xs,h1,h0,h2⟩:=h;rw[hu]at h1;cases h1;simp only[Rep];exact⟨p,xs,rfl,.inr ⟨o,ah⟩,h0,(h2.ext ex).more hs⟩
 |dD ks ds=>
  obtain⟨xs,⟨ep,h1⟩,h0,h2⟩:=h;rw[hu]at h1;cases h1;simp only[Rep];exact⟨p,xs,rfl,⟨ep,.inr ⟨o,ah⟩⟩,h0,(h2.ext ex).more hs⟩
 |_=>exact(show False from h).elim
theorem DF.share(h:DF X a fa):DE X m a fa:=by
 intro a_ s σ H Q I hq;obtain⟨B,Hk,δ,d,R,e,k⟩:=hq;have h1:=h a_ s σ H (λv H'=>∃p,v=.ref p/\Same H H'/\H p=none/\ObR X.K B H' d p) I ⟨B,Hk,δ,d,R,e,λp H' s n ob=>⟨p,rfl,s,n,ob⟩⟩
 refine thn h1 λu s1 hz=>?_
 obtain⟨v,H1,I1,rv,p,ev,sm,hn,ob⟩:=hz;subst ev;obtain⟨u',hu,mu⟩:=ob.mut;obtain⟨o,I2⟩:=I1.frz hu mu;have hb:¬B p:=λz=>by
  obtain⟨o',e'⟩:=R.borH p z;rw[hn]at e';trivial
 refine⟨.ref p,_,I2,rv,k _ _ (sm.put hn) (ob.frozen hu hb λa h=>iH m a h)⟩
end
def NRep(K:Z6)(B:ZN->Prop)(Hk H:Hp)(d:D)(v:V):Prop:=match d with
 |.lst es=>∃b xs,v=.ref b/\Hk b=none/\H b=some (.lst xs)/\Reps K B H es xs
 |d=>Rep K B H d v
def NReps(K:Z6)(B:ZN->Prop)(Hk H:Hp):Z8 D->Z8 V->Prop
 |[],vs=>vs=[]
 |d::ds,vs=>∃x r,vs=x::r/\NRep K B Hk H d x/\NReps K B Hk H ds r
def Fk(K:Z6)(B:ZN->Prop)(Hk H:Hp)(d:D)(v:V):Prop:=match d with
 |.tup ds=>∃a vs,v=.ref a/\H a=some (.tup vs)/\NReps K B Hk H ds vs
 |_=>False
def D4(K:Z6)(B:ZN->Prop)(Hk H:Hp)(d:D)(v:V):Prop:=Rep K B H d v\/∃es b xs,d=.lst es/\v=.ref b/\Hk b=none/\H b=some (.lst xs)/\Reps K B H es xs
def MReps(K:Z6)(B:ZN->Prop)(Hk H:Hp):Z8 D->Z8 V->Prop
 |[],vs=>vs=[]
 |d::ds,vs=>∃x r,vs=x::r/\D4 K B Hk H d x/\MReps K B Hk H ds r
def NRep.m{K:Z6}{B:ZN->Prop}{Hk H:Hp}{d:D}{v:V}(h:NRep K B Hk H d v):D4 K B Hk H d v:=by
 cases d with
 |lst es=>obtain⟨b,xs,h1,h2,h3,h4⟩:=h;exact .inr ⟨es,b,xs,rfl,h1,h2,h3,h4⟩
 |_=>exact .inl h
theorem NReps.m{K:Z6}{B:ZN->Prop}{Hk H:Hp}:∀{ds:Z8 D}{vs:Z8 V},NReps K B Hk H ds vs->MReps K B Hk H ds vs
 |[],vs,h=>h
 |d::ds,vs,h=>by obtain⟨x,r,e,h1,h2⟩:=h;exact⟨x,r,e,h1.m,NReps.m h2⟩
theorem NReps.length{K:Z6}{B:ZN->Prop}{Hk H:Hp}:∀{ds:Z8 D}{vs:Z8 V},NReps K B Hk H ds vs->ds.length=vs.length
 |[],vs,h=>by rw[show vs=[] from h];rfl
 |d::ds,vs,h=>by obtain⟨x,r,rfl,h1,h2⟩:=h;rw[List.length_cons,List.length_cons,NReps.length h2]
theorem MReps.frz1{K:Z6}{B:ZN->Prop}{Hk H:Hp}{b:ZN}{xs:Z8 V}{o:Obj}(hx:H b=some (.lst xs))(ex:Ext B H (upd H b (.frz o (.lst xs)))):∀{ds:Z8 D}{vs:Z8 V},MReps K B Hk H ds vs->MReps K B Hk (upd H b (.frz o (.lst xs))) ds vs
 |[],vs,h=>h
 |d::ds,vs,h=>by
  obtain⟨x,r,e,h1,h2⟩:=h;refine⟨x,r,e,?_,MReps.frz1 hx ex h2⟩
  rcases h1 with h1|⟨es,b',xs',rfl,rfl,n,Gj,rs⟩
  .exact .inl (h1.ext ex)
  .by_cases q:b'=b
   .subst q
    rw[hx]at Gj;cases Gj;refine .inl ?_
    simp only[Rep];exact⟨b',xs,rfl,.inr (.inl ⟨o,ah⟩),rs.ext ex⟩
   .exact .inr ⟨es,b',xs',rfl,rfl,n,by rw[ai q];exact Gj,rs.ext ex⟩
theorem CL(hB:∀a,B a->∃o:HOn,Hk a=some o.1):∀(ds:Z8 D)(vs:Z8 V)(H:Hp),Inv X a_ σ H s->MReps X.K B Hk H ds vs->
  ∃H',Inv X a_ σ H' s/\Ext B H H'/\(∀c o o',Hk c=some o'->H c=some o->H' c=some o)/\Reps X.K B H' ds vs
 |[],vs,H,I,h=>⟨H,I,Ext.refl,λ_ _ _ _ q=>q,by rw[show vs=[] from h];exact Reps.nil⟩
 |d::ds,vs,H,I,h=>by
  obtain⟨x,r,rfl,h1,h2⟩:=h
  rcases h1 with h1|⟨es,b,xs,rfl,rfl,n,hb,rs⟩
  .obtain⟨H',I',e',k',r'⟩:=CL hB ds r H I h2
   exact⟨H',I',e',k',Reps.cons (h1.ext e') r'⟩
  .obtain⟨o,I1⟩:=I.frz hb trivial
   have nb:¬B b:=λz=>by obtain⟨o',q⟩:=hB b z;rw[n]at q;trivial
   have ex:Ext B H (upd H b (.frz o (.lst xs))):=bx hb trivial nb;obtain⟨H',I',e',k',r'⟩:=CL hB ds r _ I1 (MReps.frz1 hb ex h2);refine⟨H',I',ex.trans e',λc o' o2 q1 q2=>k' c o' o2 q1 (by rw[ai (ar q1 n)];exact q2),Reps.cons (Rep.ext e' ?_) r'⟩
   simp only[Rep];exact⟨b,xs,rfl,.inr (.inl ⟨o,ah⟩),rs.ext ex⟩
def ll(K:Z6)(B:ZN->Prop)(Hk H':Hp)(d:D)(fr:Bool)(v:V):Prop:=if fr=true then(∃a,v=.ref a/\Hk a=none/\ObR K B H' d a)\/Fk K B Hk H' d v else Rep K B H' d v
noncomputable def spM(K:Z6)(f:Z8 D->Z9 (D×Bool)):Sp:=λvs H Q _=>∃B ds r fr,(∀a,B a->∃o:HOn,H a=some o.1)/\Reps K B H ds vs/\f ds=some (r,fr)/\∀v H',Same H H'->ll K B H H' r fr v->Q v H'
structure FnM (P:Y1)(w:YO)(K:Z6)(mg:Str->Z9 Z3)(base:Heap)(k:Nat)(x:Str)(f:List D->Z9 (D×Bool)):Prop where
 ex:∃(p:ZN)(fd:FuncData)(ps:List Str),FnOk P w K mg base CX0 k p fd ps (spM K f)/\mg x=some (.ref p)/\PySem.W.keepIn K (.ref p)=true/\Binds K fd ps []
def ae{α β:Type}(x:Z9 α)(f:α->Z9 β):Z9 β:=match x with|some a=>f a|none=>none
def ak{α β:Type}{x:Z9 α}{f:α->Z9 β}{b:β}(h:ae x f=some b):∃a,x=some a/\f a=some b:=by
 cases x with
 |none=>trivial
 |some a=>exact⟨a,rfl,h⟩
def shO(x:Z9 (D×Bool)):Z9 D:=match x with|some (d,_)=>some d|none=>none
def frO(x:Z9 (D×Bool)):Z9 D:=match x with|some (.tup _,true)=>none|some (d,true)=>some d|_=>none
def flO(x:Z9 (D×Bool)):Z9 D:=match x with|some (.lst ds,true)=>if D.flats ds=true then some (.lst ds) else none|_=>none
section
variable{X:Cx}{a:Expr}
def kN(F:FnM X.prog X.w X.K X.mg X.base k x f)(hr:Room k X.A)(hg:Gl X x)(ha:DA X m (e::es) fs)(Ht:(x==("__debug__":Str))=false)(he:starEach (e::es) X.env=(false,eval e X.env)::starEach es X.env)(hpl:(backTo pos (starEach es X.env)).any (·.1)=false):
  PE X (.Call (.Name x p) (e::es) [] pos) (λσ H Q=>∃B Hk δ ds r fr,Rel X.K B Hk δ σ H/\fs δ=some ds/\f ds=some (r,fr)/\∀v H1 H',Same H H1->Same H1 H'->ll X.K (bb m B δ σ) H1 H' r fr v->Q v H'):=by
 obtain⟨q,fd,ps,h1,h2,h3,h4⟩:=F.ex;refine(qN (ds:=[]) (dvs:=[]) h1 hr hg h2 h3 h4 .nil BP ha Ht he hpl).imp λσ H Q hz=>?_
 obtain⟨B,Hk,δ,ds,r,fr,R,e1,e2,kk⟩:=hz;refine⟨B,Hk,δ,ds,R,e1,λvs H1 s1 rs=>?_⟩
 show spM X.K f (vs++[]) H1 Q E0;rw[Y_];exact⟨bb m B δ σ,ds,r,fr,(R.to s1).bsH m,rs,e2,λv H' s2 rr=>kk v H1 H' s1 s2 rr⟩
def yP(F:FnM X.prog X.w X.K X.mg X.base k x f)(hr:Room k X.A)(hg:Gl X x)(ha:DA X false (e::es) fs)(Ht:(x==("__debug__":Str))=false:=by decide)(he:starEach (e::es) X.env=(false,eval e X.env)::starEach es X.env:=by rfl)
  (hpl:(backTo pos (starEach es X.env)).any (·.1)=false:=by rfl):DF X (.Call (.Name x p) (e::es) [] pos) (λδ=>frO (ae (fs δ) f)):=
 (kN F hr hg ha Ht he hpl).imp λσ H Q hz=>by
  obtain⟨B,Hk,δ,d,R,e,kk⟩:=hz;cases q:ae (fs δ) f with
  |none=>simp only[q,frO]at e;trivial
  |some p=>
   obtain⟨d',fr⟩:=p;obtain⟨ds,e1,e2⟩:=ak q;cases fr with
   |false=>cases d'<;>simp only[q,frO]at e<;>trivial
   |true=>
    have hd:d'=d/\∀ts,d≠.tup ts:=by
     cases d' with
     |tup ts=>simp only[q,frO]at e;trivial
     |_=>simp only[q,frO]at e;cases e;exact⟨rfl,λts z=>by cases z⟩
    obtain⟨rfl,nt⟩:=hd;refine⟨B,Hk,δ,ds,_,_,R,e1,e2,λv H1 H' s1 s2 rr=>?_⟩
    unfold ll at rr;rw[Z0 rfl]at rr
    rcases rr with⟨a,rfl,n,ob⟩|rt
    .exact kk a H' (s1.trans s2) (s1.free n) ob
    .cases d' with
     |tup ts=>exact(nt ts rfl).elim
     |_=>exact(show False from rt).elim
def uA(F:FnM X.prog X.w X.K X.mg X.base k x f)(hr:Room k X.A)(hg:Gl X x)(ha:DA X true (e::es) fs)(Ht:(x==("__debug__":Str))=false:=by decide)(he:starEach (e::es) X.env=(false,eval e X.env)::starEach es X.env:=by rfl)
  (hpl:(backTo pos (starEach es X.env)).any (·.1)=false:=by rfl):DF X (.Call (.Name x p) (e::es) [] pos) (λδ=>flO (ae (fs δ) f)):=
 (kN F hr hg ha Ht he hpl).imp λσ H Q hz=>by
  obtain⟨B,Hk,δ,d,R,e,kk⟩:=hz;unfold flO at e;dsimp only at e;split at e
  .rename_i ls q
   by_cases fl:D.flats ls=true
   .rw[Z0 fl]at e
    cases e;obtain⟨ds,e1,e2⟩:=ak q;refine⟨B,Hk,δ,ds,_,_,R,e1,e2,λv H1 H' s1 s2 rr=>?_⟩
    unfold ll at rr;rw[Z0 rfl]at rr
    rcases rr with⟨a,rfl,n,xs,hx,rs⟩|rt
    .exact kk a H' (s1.trans s2) (s1.free n) ⟨xs,hx,Reps.flat fl rs⟩
    .exact(show False from rt).elim
   .rw[ZY fl]at e;trivial
  .trivial
def yq(F:FnM X.prog X.w X.K X.mg X.base k x f)(hr:Room k X.A)(hg:Gl X x)(ha:DA X m (e::es) fs)(Ht:(x==("__debug__":Str))=false:=by decide)(he:starEach (e::es) X.env=(false,eval e X.env)::starEach es X.env:=by rfl)
  (hpl:(backTo pos (starEach es X.env)).any (·.1)=false:=by rfl):DE X m (.Call (.Name x p) (e::es) [] pos) (λδ=>shO (ae (fs δ) f)):=by
 intro a_ s σ H Q I hq;obtain⟨B,Hk,δ,d,R,e,kk⟩:=hq;unfold shO at e;dsimp only at e;split at e
 .rename_i d' fr q
  cases e;obtain⟨ds,e1,e2⟩:=ak q;have h1:=kN (p:=p) F hr hg ha Ht he hpl a_ s σ H (λv H'=>∃H1,Same H H1/\Same H1 H'/\ll X.K (bb m B δ σ) H1 H' d fr v) I ⟨B,Hk,δ,ds,d,fr,R,e1,e2,λv H1 H' s1 s2 rr=>⟨H1,s1,s2,rr⟩⟩
  refine thn h1 λu s1 hz=>?_
  obtain⟨v,H',I1,rv,H1,KU,Jh,rr⟩:=hz;cases fr with
  |false=>
   unfold ll at rr;rw[ZY Zn]at rr;exact⟨v,H',I1,rv,kk v H' (KU.trans Jh) rr⟩
  |true=>
   unfold ll at rr;rw[Z0 rfl]at rr
   rcases rr with⟨p,rfl,n,ob⟩|rt
   rotate_left
   .cases d with
    |tup ts=>
     obtain⟨a,vs,rfl,JM,rs⟩:=rt;obtain⟨H2,I2,e2,k2,r2⟩:=CL (B:=bb m B δ σ) (Hk:=H1) (λc z=>by obtain⟨o',e'⟩:=R.bsH m c z;exact⟨o',KU c o' e'⟩) ts vs H' I1 rs.m
     refine⟨.ref a,H2,I2,rv,kk _ _ (KU.trans (Jh.keep k2)) ?_⟩
     simp only[Rep];exact⟨a,vs,rfl,e2.tups _ _ JM,r2⟩
    |_=>exact(show False from rt).elim
   obtain⟨u',hu,mu⟩:=ob.mut;obtain⟨o,I2⟩:=I1.frz hu mu;have hb:¬bb m B δ σ p:=λz=>by
    obtain⟨o',e'⟩:=R.bsH m p z;have:=KU p o' e';rw[n]at this;trivial
   refine⟨.ref p,_,I2,rv,kk _ _ (KU.trans (Jh.put n)) (ob.frozen hu hb λa h=>h)⟩
 .trivial
end
inductive Out where
 |next (δ:DEnv)|ret (d:D) (fr:Bool)|brk (δ:DEnv)|cont (δ:DEnv)
def OutK(K:Z6)(B:ZN->Prop)(Hk H:Hp)(Dn:Ends):Out->Prop
 |.next δ=>∀j_ H',Ext B H H'->Rel K B Hk δ j_ H'->Dn.nx j_ H'
 |.brk δ=>∀j_ H',Ext B H H'->Rel K B Hk δ j_ H'->Dn.bk j_ H'
 |.cont δ=>∀j_ H',Ext B H H'->Rel K B Hk δ j_ H'->Dn.ct j_ H'
 |.ret d fr=>∀v H',Ext B H H'->Same Hk H'->ll K B Hk H' d fr v->Dn.rt v H'
def tD(K:Z6)(g:DEnv->Z9 Out):TS:=λDn σ H=>∃B Hk δ o,Rel K B Hk δ σ H/\g δ=some o/\OutK K B Hk H Dn o
abbrev DS(X:Cx)(st:Stmt)(g:DEnv->Z9 Out):Prop:=PS X st (tD X.K g)
abbrev DSs(X:Cx)(Jw:Z8 Stmt)(g:DEnv->Z9 Out):Prop:=PSs X Jw (tD X.K g)
def OutK.ext{K:Z6}{B:ZN->Prop}{Hk H H1:Hp}{Dn:Ends}{o:Out}(h:OutK K B Hk H Dn o)(e:Ext B H H1):OutK K B Hk H1 Dn o:=by
 cases o with
 |next δ=>exact λj_ H' x r=>h j_ H' (e.trans x) r
 |brk δ=>exact λj_ H' x r=>h j_ H' (e.trans x) r
 |cont δ=>exact λj_ H' x r=>h j_ H' (e.trans x) r
 |ret d fr=>exact λv H' x r=>h v H' (e.trans x) r
def nextO(δ:DEnv):Z9 Out:=some (.next δ)
def aG(x:Z9 Out)(k:DEnv->Z9 Out):Z9 Out:=match x with|some (.next δ)=>k δ|o=>o
section
variable{X:Cx}{a b e:Expr}{fa:DEnv->Z9 D}{pos p:Pos}{st:Stmt}{am:Z8 Stmt}{g1 g2:DEnv->Z9 Out}
theorem xF:DSs X [] nextO:=kH.imp λDn σ H hz=>by
 obtain⟨B,Hk,δ,o,R,e,k⟩:=hz;cases e;exact k σ H Ext.refl R
theorem dj(h1:DS X st g1)(h2:DSs X am g2):DSs X (st::am) (λδ=>aG (g1 δ) g2):=
 (aR h1 h2).imp λDn σ H hz=>by
  obtain⟨B,Hk,δ,o,R,e,k⟩:=hz;cases q:g1 δ with
  |none=>simp only[q,aG]at e;trivial
  |some o1=>
   cases o1 with
   |next t_=>
    simp only[q,aG]at e;exact⟨B,Hk,δ,_,R,q,λj_ H' x R'=>⟨B,Hk,t_,o,R',e,k.ext x⟩⟩
   |brk t_=>simp only[q,aG]at e;cases e;exact⟨B,Hk,δ,_,R,q,k⟩
   |cont t_=>simp only[q,aG]at e;cases e;exact⟨B,Hk,δ,_,R,q,k⟩
   |ret d fr=>simp only[q,aG]at e;cases e;exact⟨B,Hk,δ,_,R,q,k⟩
theorem lw(h1:DS X st g1):DSs X [st] g1:=c7 h1
def ifO(c:Z9 Bool)(x y:Z9 Out):Z9 Out:=match c with|some true=>x|some false=>y|none=>none
theorem Rel.ext{K:Z6}{B:ZN->Prop}{Hk H H':Hp}{δ:DEnv}{σ:St}(R:Rel K B Hk δ σ H)(s:Same H H'):Ext B H H':=s.ext R.borH
theorem Dq(hc:DT X c fc)(ha:DSs X x g1)(hb:DSs X y g2):DS X (.If c x y pos) (λδ=>ifO (fc δ) (g1 δ) (g2 δ)):=
 (vU hc ha hb).imp λDn σ H hz=>by
  obtain⟨B,Hk,δ,o,R,e,k⟩:=hz;unfold ifO at e;dsimp only at e;split at e
  .rename_i q
   exact⟨B,Hk,δ,true,R,q,λH1 s1=>v8 ⟨B,Hk,δ,o,R.to s1,e,k.ext (R.ext s1)⟩⟩
  .rename_i q
   exact⟨B,Hk,δ,false,R,q,λH1 s1=>vA ⟨B,Hk,δ,o,R.to s1,e,k.ext (R.ext s1)⟩⟩
  .trivial
theorem Rel.set{K:Z6}{B:ZN->Prop}{Hk H:Hp}{δ:DEnv}{σ:St}{i:Nat}{d:D}{v:V}(R:Rel K B Hk δ σ H)(hi:i<σ.length)(r:Rep K B H d v):Rel K B Hk (δ.set i (some (d,false))) (σ.set i (some v)) H:=by
 have s_:i<δ.length:=by rw[R.len];exact hi
 refine⟨R.same,R.bor,by simpa using R.len,λj e h=>?_,λj e h=>?_,λj k e f q Hb h1 h2 h3 h4=>?_⟩
 .by_cases hj:j=i
  .subst hj
   rw[ZR s_]at h
   cases h;exact⟨v,by rw[ZR hi],r⟩
  .rw[ZW (ZD hj)]at h
   rw[ZW (ZD hj)]
   exact R.var j e h
 .by_cases hj:j=i
  .subst hj
   rw[ZR s_]at h
   cases h
  .rw[ZW (ZD hj)]at h
   rw[ZW (ZD hj)]
   exact R.own j e h
 .have nj:j≠i:=λz=>by subst z;rw[ZR s_]at h1;cases h1
  have nk:k≠i:=λz=>by subst z;rw[ZR s_]at h2;cases h2
  rw[ZW (ZD nj)]at h1 h3
  rw[ZW (ZD nk)]at h2 h4
  exact R.dis j k e f q Hb h1 h2 h3 h4
def Rel.setOwn{K:Z6}{B:ZN->Prop}{Hk H:Hp}{δ:DEnv}{σ:St}{i:Nat}{d:D}{a:ZN}(R:Rel K B Hk δ σ H)(hi:i<σ.length)(hk:Hk a=none)(ob:ObR K B H d a)
  (ho:∀(j:Nat) e,j≠i->δ[j]?=some (some (e,true))->σ[j]?≠some (some (.ref a))):Rel K B Hk (δ.set i (some (d,true))) (σ.set i (some (.ref a))) H:=by
 have s_:i<δ.length:=by rw[R.len];exact hi
 refine⟨R.same,R.bor,by simpa using R.len,λj e h=>?_,λj e h=>?_,λj k e f q Hb h1 h2 h3 h4=>?_⟩
 .by_cases hj:j=i
  .subst hj
   rw[ZR s_]at h
   cases h
  .rw[ZW (ZD hj)]at h
   rw[ZW (ZD hj)]
   exact R.var j e h
 .by_cases hj:j=i
  .subst hj
   rw[ZR s_]at h
   cases h;exact⟨a,by rw[ZR hi],hk,ob⟩
  .rw[ZW (ZD hj)]at h
   rw[ZW (ZD hj)]
   exact R.own j e h
 .by_cases nj:j=i
  .subst nj
   have nk:k≠j:=λz=>Hb z.symm
   rw[ZR hi]at h3
   cases h3;rw[ZW (ZD nk)]at h2 h4
   exact ho k f nk h2 h4
  .rw[ZW (ZD nj)]at h1 h3
   by_cases nk:k=i
   .subst nk
    rw[ZR hi]at h4
    cases h4;exact ho j e nj h1 h3
   .rw[ZW (ZD nk)]at h2 h4
    exact R.dis j k e f q Hb h1 h2 h3 h4
def bK(i:Nat)(x:Z9 D)(δ:DEnv):Z9 Out:=match x with|some d=>if i<δ.length then some (.next (δ.set i (some (d,false)))) else none|none=>none
def d9(i:Nat)(x:Z9 D)(δ:DEnv):Z9 Out:=match x with|some d=>if i<δ.length then some (.next (δ.set i (some (d,true)))) else none|none=>none
def fZ(h:bK i x δ=some o):∃d,x=some d/\i<δ.length/\o=.next (δ.set i (some (d,false))):=by
 unfold bK at h;split at h
 .rename_i d
  by_cases q:i<δ.length
  .rw[Z0 q]at h;cases h;exact⟨d,rfl,q,rfl⟩
  .rw[ZY q]at h;trivial
 .trivial
def kf(h:d9 i x δ=some o):∃d,x=some d/\i<δ.length/\o=.next (δ.set i (some (d,true))):=by
 unfold d9 at h;split at h
 .rename_i d
  by_cases q:i<δ.length
  .rw[Z0 q]at h;cases h;exact⟨d,rfl,q,rfl⟩
  .rw[ZY q]at h;trivial
 .trivial
def zl{i:Nat}{Dn:Ends}{σ:St}{H:Hp}(h:tD X.K (λδ=>bK i (fa δ) δ) Dn σ H):xB (tM X.K false fa) (gf i) Dn σ H:=by
 obtain⟨B,Hk,δ,o,R,e,k⟩:=h;obtain⟨d,e1,hi,rfl⟩:=fZ e;exact⟨B,Hk,δ,d,R,e1,λv H' s r=>k _ H' (R.ext s) ((R.to s).set (by rw[<-R.len];exact hi) r)⟩
def vi{i:Nat}{Dn:Ends}{σ:St}{H:Hp}(h:tD X.K (λδ=>d9 i (fa δ) δ) Dn σ H):xB (tF X.K fa) (gf i) Dn σ H:=by
 obtain⟨B,Hk,δ,o,R,e,k⟩:=h;obtain⟨d,e1,hi,rfl⟩:=kf e;refine⟨B,Hk,δ,d,R,e1,λa H' s n ob=>k _ H' (R.ext s) ((R.to s).setOwn (by rw[<-R.len];exact hi) (R.same.free n) ob λj e hj h1 h2=>?_)⟩
 obtain⟨b,h3,_,Jy⟩:=R.own j e h1;rw[h2]at h3;cases h3;obtain⟨o,e'⟩:=Jy.there;rw[n]at e';trivial
def A3(hN:X.N.Nodup)(ha:DE X false a fa)(hi:X.N[i]?=some x:=by rfl)(hx:Loc X.env.scope x:=by first|exact Or.inl rfl|exact Or.inr rfl)(hs:swapsWith a (some (.Name x pos')) pos.line X.env=pure false:=by rfl)(hf:X.fn x=true\/X.env.scope.names.lookup x=some .local:=by first|exact .inl rfl|exact .inr rfl):DS X (.Assign [.Name x pos'] a pos) (λδ=>bK i (fa δ) δ):=
 (fV hN hi hx ha hs hf).imp λDn σ H h=>zl h
def yT(hN:X.N.Nodup)(ha:DF X a fa)(hi:X.N[i]?=some x:=by rfl)(hx:Loc X.env.scope x:=by first|exact Or.inl rfl|exact Or.inr rfl)(hs:swapsWith a (some (.Name x pos')) pos.line X.env=pure false:=by rfl)(hf:X.fn x=true\/X.env.scope.names.lookup x=some .local:=by first|exact .inl rfl|exact .inr rfl):DS X (.Assign [.Name x pos'] a pos) (λδ=>d9 i (fa δ) δ):=
 (fV hN hi hx ha hs hf).imp λDn σ H h=>vi h
def f8(x:Z9 D):Z9 Out:=match x with|some d=>some (.ret d false)|none=>none
def eL(x:Z9 D):Z9 Out:=match x with|some d=>some (.ret d true)|none=>none
theorem Ak(ha:DE X false a fa):DS X (.Return (some a) pos) (λδ=>f8 (fa δ)):=
 (gM ha).imp λDn σ H hz=>by
  obtain⟨B,Hk,δ,o,R,e,k⟩:=hz;cases q:fa δ with
  |none=>simp only[q,f8]at e;trivial
  |some d=>
   simp only[q,f8]at e;cases e;exact⟨B,Hk,δ,d,R,q,λv H' s r=>k v H' (R.ext s) (R.same.trans s) (by unfold ll;rw[ZY Zn];exact r)⟩
theorem zw(ha:DF X a fa):DS X (.Return (some a) pos) (λδ=>eL (fa δ)):=
 (gM ha).imp λDn σ H hz=>by
  obtain⟨B,Hk,δ,o,R,e,k⟩:=hz;cases q:fa δ with
  |none=>simp only[q,eL]at e;trivial
  |some d=>
   simp only[q,eL]at e;cases e;exact⟨B,Hk,δ,d,R,q,λp H' s n ob=>k (.ref p) H' (R.ext s) (R.same.trans s) (by unfold ll;rw[Z0 rfl];exact .inl ⟨p,rfl,R.same.free n,ob⟩)⟩
def bB(i:Nat)(δ:DEnv):Z9 D:=match δ[i]? with|some (some (d,true))=>some d|_=>none
def bv(h:bB i δ=some d):δ[i]?=some (some (d,true)):=by
 unfold bB at h;split at h
 .rename_i d' e;cases h;exact e
 .trivial
def yf(hN:X.N[i]?=some x:=by rfl)(hv:Vis X.env.scope x:=by first|exact Or.inl rfl|exact Or.inr (Or.inl rfl)|exact Or.inr (Or.inr rfl))(hd:(x==("__debug__":Str))=false:=by decide)(Gi:(x==("__classdict__":Str))=false:=by decide):
  DS X (.Return (some (.Name x px)) pos) (λδ=>eL (bB i δ)):=
 (gM (aT hN hv hd Gi)).imp λDn σ H hz=>by
  obtain⟨B,Hk,δ,o,R,e,k⟩:=hz;cases q:bB i δ with
  |none=>simp only[q,eL]at e;trivial
  |some d=>
   simp only[q,eL]at e;cases e;obtain⟨p,h1,h2,h3⟩:=R.own i d (bv q);exact⟨.ref p,h1,k (.ref p) H Ext.refl R.same (by unfold ll;rw[Z0 rfl];exact .inl ⟨p,rfl,h2,h3⟩)⟩
def Rel.lset{K:Z6}{B:ZN->Prop}{Hk H:Hp}{δ:DEnv}{σ:St}{i:Nat}{ds ds':Z8 D}{l:ZN}{xs xs':Z8 V}(R:Rel K B Hk δ σ H)(h:δ[i]?=some (some (.lst ds,true)))(hl:σ[i]?=some (some (.ref l)))(hx:H l=some (.lst xs))(r:Reps K B H ds' xs'):
  Ext B H (upd H l (.lst xs'))/\Rel K B Hk (δ.set i (some (.lst ds',true))) σ (upd H l (.lst xs')):=by
 obtain⟨a,e1,e2,ys,e3,_⟩:=R.own i _ h;rw[hl]at e1;cases e1;have hb:¬B l:=λz=>by obtain⟨o,q⟩:=R.bor l z;rw[e2]at q;trivial
 have ex:Ext B H (upd H l (.lst xs')):=bx hx trivial hb;have s_:i<δ.length:=(ZV.mp h).1
 refine⟨ex,⟨R.same.put e2,R.bor,by simpa using R.len,λj e q=>?_,λj e q=>?_,λj k e f q Hb h1 h2 h3 h4=>?_⟩⟩
 .by_cases hj:j=i
  .subst hj
   rw[ZR s_]at q
   cases q
  .rw[ZW (ZD hj)]at q
   obtain⟨v,q1,q2⟩:=R.var j e q;exact⟨v,q1,q2.ext ex⟩
 .by_cases hj:j=i
  .subst hj
   rw[ZR s_]at q
   cases q;exact⟨l,hl,e2,xs',ah,r.ext ex⟩
  .rw[ZW (ZD hj)]at q
   obtain⟨c,q1,q2,q3⟩:=R.own j e q;have hc:c≠l:=λz=>by subst z;exact R.dis j i e _ c hj q h q1 hl
   exact⟨c,q1,q2,q3.ext ex λo q _=>by rw[ai hc];exact q⟩
 .have HR:∃e',δ[j]?=some (some (e',true)):=by
   by_cases hj:j=i
   .subst hj;exact⟨_,h⟩
   .rw[ZW (ZD hj)]at h1;exact⟨_,h1⟩
  have Hu:∃e',δ[k]?=some (some (e',true)):=by
   by_cases hj:k=i
   .subst hj;exact⟨_,h⟩
   .rw[ZW (ZD hj)]at h2;exact⟨_,h2⟩
  obtain⟨e',HR⟩:=HR;obtain⟨f',Hu⟩:=Hu;exact R.dis j k e' f' q Hb HR Hu h3 h4
noncomputable def gw(i:Nat)(x:Z9 D)(δ:DEnv):Z9 Out:=match bB i δ,x with|some (.lst ds),some d=>if ds.length<lim then some (.next (δ.set i (some (.lst (ds++[d]),true)))) else none|_,_=>none
def sG(h:gw i x δ=some o):∃ds d,δ[i]?=some (some (.lst ds,true))/\x=some d/\ds.length<lim/\o=.next (δ.set i (some (.lst (ds++[d]),true))):=by
 unfold gw at h;split at h
 .rename_i ds d q
  by_cases hl:ds.length<lim
  .rw[Z0 hl]at h;cases h;exact⟨ds,d,bv q,rfl,hl,rfl⟩
  .rw[ZY hl]at h;trivial
 .trivial
def tW{i:Nat}{x:Str}{px apos ka:Pos}(ha:DE X false a fa)(hN:X.N[i]?=some x:=by rfl)(hv:Vis X.env.scope x:=by first|exact Or.inl rfl|exact Or.inr (Or.inl rfl)|exact Or.inr (Or.inr rfl))
  (mc:Mc X.env (.Name x px) "append" a [] apos ka)(hd:(x==("__debug__":Str))=false:=by decide)(Gi:(x==("__classdict__":Str))=false:=by decide)
  (GY:swapsWith (.Call (.Attribute (.Name x px) "append" apos) [a] [] ka) none pos.line X.env=pure false:=by rfl):DS X (.Expr (.Call (.Attribute (.Name x px) "append" apos) [a] [] ka) pos) (λδ=>gw i (fa δ) δ):=
 (dX (ky Yy W5 W6 dh (aT hN hv hd Gi) (aq ha aI mc.s) mc) GY).imp λDn σ H hz=>by
  obtain⟨B,Hk,δ,o,R,e,k⟩:=hz;obtain⟨ds,d,h1,e1,hl,rfl⟩:=sG e;obtain⟨l,h2,h3,xs,h4,h5⟩:=R.own i _ h1;refine⟨.ref l,h2,.inl ⟨rfl,xs,SqL.of h4⟩,pq R e1 λv H' s R' r=>?_⟩
  have IG:=s l _ h4;have NK:Reps X.K B H' ds xs:=h5.ext (R.ext s);obtain⟨x1,x2⟩:=R'.lset (ds':=ds++[d]) (xs':=xs++[v]) h1 h2 IG (NK.append (Reps.cons r Reps.nil));exact⟨l,xs,v,rfl,rfl,IG,by rw[<-h5.length];exact ZA hl (aB (ZQ _)),k σ _ ((R.ext s).trans x1) x2⟩
def frzE(i:Nat)(δ:DEnv):DEnv:=match δ[i]? with|some (some (d,true))=>δ.set i (some (d,false))|_=>δ
theorem Rel.frzE(i:Nat)(I:Inv X a_ σ H s)(R:Rel X.K B Hk δ σ H):∃H',Inv X a_ σ H' s/\Ext B H H'/\Rel X.K B Hk (frzE i δ) σ H':=by
 unfold L2.frzE;split
 .rename_i d h
  obtain⟨a,e1,e2,ob⟩:=R.own i d h;obtain⟨u,hu,mu⟩:=ob.mut;obtain⟨o,I2⟩:=I.frz hu mu;have hb:¬B a:=λz=>by obtain⟨o,q⟩:=R.bor a z;rw[e2]at q;trivial
  have ex:Ext B H (upd H a (.frz o u)):=bx hu mu hb;have s_:i<δ.length:=(ZV.mp h).1
  refine⟨_,I2,ex,⟨R.same.put e2,R.bor,by simpa using R.len,λj e q=>?_,λj e q=>?_,λj k e f q Hb h1 h2 h3 h4=>?_⟩⟩
  .by_cases hj:j=i
   .subst hj
    rw[ZR s_]at q
    cases q;exact⟨_,e1,ob.frozen hu hb λa h=>h⟩
   .rw[ZW (ZD hj)]at q
    obtain⟨v,q1,q2⟩:=R.var j e q;exact⟨v,q1,q2.ext ex⟩
  .by_cases hj:j=i
   .subst hj
    rw[ZR s_]at q
    cases q
   .rw[ZW (ZD hj)]at q
    obtain⟨c,q1,q2,q3⟩:=R.own j e q;have hc:c≠a:=λz=>by subst z;exact R.dis j i e _ c hj q h q1 e1
    exact⟨c,q1,q2,q3.ext ex λo q _=>by rw[ai hc];exact q⟩
  .have nj:j≠i:=λz=>by subst z;rw[ZR s_]at h1;cases h1
   have nk:k≠i:=λz=>by subst z;rw[ZR s_]at h2;cases h2
   rw[ZW (ZD nj)]at h1
   rw[ZW (ZD nk)]at h2
   exact R.dis j k e f q Hb h1 h2 h3 h4
 .exact⟨H,I,Ext.refl,R⟩
def Ec(i:Nat)(h:DS X st g):DS X st (λδ=>g (frzE i δ)):=by
 intro a_ s σ H Dn I ⟨B,Hk,δ,o,R,e,k⟩;obtain⟨H',I',x,R'⟩:=R.frzE i I;exact h a_ s σ H' Dn I' ⟨B,Hk,_,o,R',e,k.ext x⟩
theorem xS(i:Nat)(h:DSs X Jw g):DSs X Jw (λδ=>g (frzE i δ)):=by
 intro a_ s σ H Dn I ⟨B,Hk,δ,o,R,e,k⟩;obtain⟨H',I',x,R'⟩:=R.frzE i I;exact h a_ s σ H' Dn I' ⟨B,Hk,_,o,R',e,k.ext x⟩
end
noncomputable def tG(K:Z6)(τ:D->DEnv->Z9 DEnv):TG:=λv σ H Q=>∃B Hk δ d h_,Rel K B Hk δ σ H/\Rep K B H d v/\τ d δ=some h_/\∀j_,Rel K B Hk h_ j_ H->Q j_ H
noncomputable def tGs(K:Z6)(τ:Z8 D->DEnv->Z9 DEnv):TGs:=λvs σ H Q=>∃B Hk δ ds h_,Rel K B Hk δ σ H/\Reps K B H ds vs/\τ ds δ=some h_/\∀j_,Rel K B Hk h_ j_ H->Q j_ H
abbrev DG(X:Cx)(tg:Expr)(τ:D->DEnv->Z9 DEnv):Prop:=PG X tg (tG X.K τ)
abbrev DGs(X:Cx)(tg:Z8 Expr)(τ:Z8 D->DEnv->Z9 DEnv):Prop:=PGs X tg (tGs X.K τ)
def aa(i:Nat)(d:D)(δ:DEnv):Z9 DEnv:=if i<δ.length then some (δ.set i (some (d,false))) else none
def toNil(ds:Z8 D)(δ:DEnv):Z9 DEnv:=match ds with|[]=>some δ|_=>none
def aj(τ:D->DEnv->Z9 DEnv)(υ:Z8 D->DEnv->Z9 DEnv)(ds:Z8 D)(δ:DEnv):Z9 DEnv:=match ds with|d::r=>ae (τ d δ) (υ r)|[]=>none
def aM(υ:Z8 D->DEnv->Z9 DEnv)(d:D)(δ:DEnv):Z9 DEnv:=match d with|.tup ds=>υ ds δ|_=>none
def PG.imp(h:PG X tg t)(i:∀v σ H Q,t' v σ H Q->t v σ H Q):PG X tg t':=λa_ s σ H v u Q I r q=>h a_ s σ H v u Q I r (i v σ H Q q)
def PGs.imp(h:PGs X tg t)(i:∀v σ H Q,t' v σ H Q->t v σ H Q):PGs X tg t':=λa_ s σ H v u Q I r q=>h a_ s σ H v u Q I r (i v σ H Q q)
section
variable{X:Cx}
def yF(hN:X.N.Nodup)(hi:X.N[i]?=some x:=by rfl)(hx:Loc X.env.scope x:=by first|exact Or.inl rfl|exact Or.inr rfl)(hf:X.fn x=true\/X.env.scope.names.lookup x=some .local:=by first|exact .inl rfl|exact .inr rfl):DG X (.Name x pos) (aa i):=
 (iN hN hi hx hf).imp λv σ H Q hz=>by
  obtain⟨B,Hk,δ,d,h_,R,r,e,k⟩:=hz;unfold aa at e
  by_cases q:i<δ.length
  .rw[Z0 q]at e;obtain rfl:=Z7 e
   exact k _ (R.set (by rw[<-R.len];exact q) r)
  .rw[ZY q]at e;trivial
theorem yk:DGs X [] toNil:=xD.imp λv σ H Q hz=>by
 obtain⟨B,Hk,δ,ds,h_,R,r,e,k⟩:=hz;cases ds with
 |nil=>simp only[toNil]at e;obtain rfl:=Z7 e;simp only[Reps]at r;exact⟨r,k σ R⟩
 |cons d ds=>simp only[toNil]at e;trivial
theorem uv(h1:DG X e τ)(h2:DGs X es υ)(hs:(assignEach (e::es) X.env).map (·.2)=assign e X.env::(assignEach es X.env).map (·.2):=by rfl):DGs X (e::es) (aj τ υ):=
 (uU h1 h2 hs).imp λv σ H Q hz=>by
  obtain⟨B,Hk,δ,ds,h_,R,r,e,k⟩:=hz;cases ds with
  |nil=>simp only[aj]at e;trivial
  |cons d ds=>
   simp only[aj]at e;obtain⟨t_,e1,e2⟩:=ak e;simp only[Reps]at r;obtain⟨x,xs,rfl,r1,r2⟩:=r;exact⟨x,xs,rfl,B,Hk,δ,d,t_,R,r1,e1,λII R1=>⟨B,Hk,t_,ds,h_,R1,r2,e2,k⟩⟩
def bt(h:∀ds δ h_,υ ds δ=some h_->ds.length=n)(ds:Z8 D)(δ h_:DEnv)(e:aj τ υ ds δ=some h_):ds.length=n+1:=by
 cases ds with
 |nil=>simp only[aj]at e;trivial
 |cons d ds=>
  simp only[aj]at e;obtain⟨t_,_,e2⟩:=ak e;rw[List.length_cons,h _ _ _ e2]
def fv(ds:Z8 D)(δ h_:DEnv)(e:toNil ds δ=some h_):ds.length=0:=by
 cases ds with
 |nil=>rfl
 |cons d ds=>simp only[toNil]at e;trivial
theorem AZ(hc:X.calm=true)(h:DGs X es υ)(hl:∀ds δ h_,υ ds δ=some h_->ds.length=n)(hn:(assignEach es X.env).length=n:=by rfl)(GG:(assignEach es X.env).findIdx? (·.1)=none:=by rfl):DG X (.Tuple es k pos) (aM υ):=
 (BQ hc h hn GG).imp λv σ H Q hz=>by
  obtain⟨B,Hk,δ,d,h_,R,r,e,k⟩:=hz;cases d with
  |tup ds=>
   simp only[aM]at e;simp only[Rep]at r;obtain⟨a,xs,rfl,hq,rs⟩:=r;exact⟨a,xs,rfl,SqT.of hq,by rw[<-rs.length];exact hl _ _ _ e,B,Hk,δ,ds,h_,R,rs,e,k⟩
  |_=>simp only[aM]at e;trivial
end
def aX(δ:DEnv):Prop:=∀(i:Nat) d,δ[i]?≠some (some (d,true))
structure Anew (τ:D->DEnv->Z9 DEnv):Prop where
 new:∀d d' δ h_,τ d δ=some h_->τ d' h_=τ d' δ
 own:∀d δ h_,τ d δ=some h_->aX δ->aX h_
def fH(h:aX δ):aX (δ.set i (some (d,false))):=λj e q=>by
 by_cases hj:i=j
 .subst hj
  rw[List.getElem?_set]at q
  simp at q
 .rw[ZW hj]at q
  exact h j e q
def im(i:Nat):∀d δ h_,aa i d δ=some h_->aX δ->aX h_:=λd δ h_ h n=>by
 unfold aa at h
 by_cases q:i<δ.length
 .rw[Z0 q]at h;obtain rfl:=Z7 h;exact fH n
 .rw[ZY q]at h;trivial
def yb:∀ds δ h_,toNil ds δ=some h_->aX δ->aX h_:=λds δ h_ h n=>by
 cases ds with
 |nil=>simp only[toNil]at h;obtain rfl:=Z7 h;exact n
 |cons d ds=>simp only[toNil]at h;trivial
def mh(h1:∀d δ h_,τ d δ=some h_->aX δ->aX h_)(h2:∀ds δ h_,υ ds δ=some h_->aX δ->aX h_):∀ds δ h_,aj τ υ ds δ=some h_->aX δ->aX h_:=λds δ h_ h n=>by
 cases ds with
 |nil=>simp only[aj]at h;trivial
 |cons d ds=>
  simp only[aj]at h;obtain⟨t_,e1,e2⟩:=ak h;exact h2 _ _ _ e2 (h1 _ _ _ e1 n)
def zM(h2:∀ds δ h_,υ ds δ=some h_->aX δ->aX h_):∀d δ h_,aM υ d δ=some h_->aX δ->aX h_:=λd δ h_ h n=>by
 cases d with
 |tup ds=>exact h2 ds δ h_ h n
 |_=>simp only[aM]at h;trivial
def fN(i:Nat):Anew (aa i):=Anew.mk (own:=im i)<|λd d' δ h_ h=>by
 unfold aa at h⊢
 by_cases q:i<δ.length
 .rw[Z0 q]at h;obtain rfl:=Z7 h
  rw[Zl,Z0 q,Z0 q,XS]
 .rw[ZY q]at h;trivial
def pY(i j:Nat)(IC:i≠j):Anew (aM (aj (aa i) (aj (aa j) toNil))):=Anew.mk (own:=zM (mh (im i) (mh (im j) yb)))<|λd d' δ h_ h=>by
 cases d with
 |tup ds=>
  cases ds with
  |nil=>simp only[aM,aj]at h;trivial
  |cons a ds=>
   cases ds with
   |nil=>simp only[aM,aj]at h;obtain⟨_,_,h⟩:=ak h;trivial
   |cons b ds=>
    cases ds with
    |cons c ds=>simp only[aM,aj]at h;obtain⟨_,_,h⟩:=ak h;obtain⟨_,_,h⟩:=ak h;simp only[toNil]at h;trivial
    |nil=>
     simp only[aM,aj]at h;obtain⟨t_,h1,h⟩:=ak h;obtain⟨Kp,h2,h⟩:=ak h;simp only[toNil]at h;obtain rfl:=Z7 h;unfold aa at h1
     by_cases qi:i<δ.length
     .rw[Z0 qi]at h1;obtain rfl:=Z7 h1
      unfold aa at h2
      by_cases qj:j<(δ.set i (some (a,false))).length
      .rw[Z0 qj]at h2;obtain rfl:=Z7 h2
       rw[Zl]at qj;cases d' with
       |tup es=>
        cases es with
        |nil=>rfl
        |cons a' es=>
         cases es with
         |nil=>
          simp only[aM,aj,aa,Zl];rw[Z0 qi,Z0 qi];rfl
         |cons b' es=>
          have e3:(((List.set δ i (some (a,false))).set j (some (b,false))).set i (some (a',false))).set j (some (b',false))=(List.set δ i (some (a',false))).set j (some (b',false)):=by
           rw[List.set_comm _ _ IC.symm,XS,XS]
          simp only[aM,aj,aa,Zl];rw[Z0 qi,Z0 qi];simp only[ae,aj,aa,Zl];rw[Z0 qj,Z0 qj,e3]
       |_=>rfl
      .rw[ZY qj]at h2;trivial
     .rw[ZY qi]at h1;trivial
 |_=>simp only[aM]at h;trivial
def ItD(K:Z6)(B:ZN->Prop)(H1:Hp)(J:It)(ds:Z8 D):Prop:=∀H',Ext B H1 H'->J.stop ds.length H'/\∀(i:Nat) d,ds[i]?=some d->J.go i H'/\∀x Hv,J.yld i H' x Hv->Same H' Hv/\Rep K B Hv d x
noncomputable def tI(K:Z6)(m:Bool)(f:DEnv->Z9 (Z8 D)):TI:=λσ H R=>∃B Hk δ ds,Rel K B Hk δ σ H/\f δ=some ds/\∀J H1,Same H H1->ItD K (bb m B δ σ) H1 J ds->R J H1
abbrev DI(X:Cx)(m:Bool)(tg iter:Expr)(f:DEnv->Z9 (Z8 D)):Prop:=PI X tg iter (tI X.K m f)
def cr(x:Z9 D):Z9 (Z8 D):=match x with|some (.lst ds)=>some ds|_=>none
def z0(x:Z9 D):Z9 (Z8 D):=match x with|some (.tup ds)=>some ds|_=>none
def jH(h:cr x=some ds):x=some (.lst ds):=by
 unfold cr at h;split at h
 .obtain rfl:=Z7 h;rfl
 .trivial
def jT(h:z0 x=some ds):x=some (.tup ds):=by
 unfold z0 at h;split at h
 .obtain rfl:=Z7 h;rfl
 .trivial
def g8(lo:Int)(n:Nat):Z8 D:=(List.range n).map λ(i:Nat)=>.int (lo+(i:Int))
section
variable{X:Cx}{m:Bool}{a tg:Expr}{fa:DEnv->Z9 D}
theorem lV(h:DE X m a fa):DI X m tg a (λδ=>cr (fa δ)):=
 (kU h).imp λσ H Q hz=>by
  obtain⟨B,Hk,δ,ds,R,e,k⟩:=hz;refine⟨B,Hk,δ,_,R,jH e,λv H' s r=>?_⟩
  simp only[Rep]at r;obtain⟨l,xs,rfl,hq,rs⟩:=r;refine⟨l,rfl,⟨xs,hq.sq⟩,k _ H' s λH2 x=>?_⟩
  have IS:=hq.ext x;have HP:=rs.ext x;refine⟨⟨xs,IS.sq,by rw[rs.length];exact ZQ _⟩,λi d hd=>?_⟩
  obtain⟨y,hy,ry⟩:=HP.get hd;refine⟨⟨xs,y,IS.sq,hy⟩,λz H3 ⟨e3,hz⟩=>⟨by rw[e3];exact Same.refl _,?_⟩⟩
  rw[e3];have:=hz xs IS.sq;rw[hy]at this;obtain rfl:=Z7 this;exact ry
theorem Bj(h:DE X m a fa):DI X m tg a (λδ=>z0 (fa δ)):=
 (Bb h).imp λσ H Q hz=>by
  obtain⟨B,Hk,δ,ds,R,e,k⟩:=hz;refine⟨B,Hk,δ,_,R,jT e,λv H' s r=>?_⟩
  simp only[Rep]at r;obtain⟨l,xs,rfl,hq,rs⟩:=r;refine⟨l,rfl,⟨xs,SqT.of hq⟩,k _ H' s λH2 x=>?_⟩
  have IS:SqT X.K H2 l xs:=SqT.of (x.tups _ _ hq);have HP:=rs.ext x;refine⟨⟨xs,IS,by rw[rs.length];exact ZQ _⟩,λi d hd=>?_⟩
  obtain⟨y,hy,ry⟩:=HP.get hd;refine⟨⟨xs,y,IS,hy⟩,λz H3 ⟨e3,hz⟩=>⟨by rw[e3];exact Same.refl _,?_⟩⟩
  rw[e3];have:=hz xs IS;rw[hy]at this;obtain rfl:=Z7 this;exact ry
def y0{K:Z6}{B:ZN->Prop}{H1:Hp}(lo:Int)(n:Nat):ItD K B H1 (Itr lo n) (g8 lo n):=λH' x=>by
 refine⟨by show n<=(g8 lo n).length;unfold g8;simp,λi d hd=>?_⟩
 unfold g8 at hd;rw[Yv]at hd
 cases q:(List.range n)[i]? with
 |none=>rw[q]at hd;trivial
 |some j=>
  rw[q]at hd;obtain⟨hi,ej⟩:=ZV.mp q
  rw[List.getElem_range]at ej;subst ej;rw[Xq]at hi;simp only[Option.map_some,ZM]at hd;subst hd;refine⟨hi,λz H3 ⟨e3,hz⟩=>⟨by rw[e3];exact Same.refl _,?_⟩⟩
  simp only[Rep];exact hz
def t7(x:Z9 D):Z9 (Z8 D):=match x with|some (.int j)=>if(decide (-(2 ^ 62)<=j/\j<2 ^ 62))=true then some (g8 0 j.toNat) else none|_=>none
theorem yU(g:Gl X "range")(hm:X.mg "range"=none)(h:DE X m a fa)(hs:starEach [a] X.env=[(false,eval a X.env)]:=by rfl):DI X mm tg (.Call (.Name "range" p) [a] [] pos) (λδ=>t7 (fa δ)):=
 (qY g hm (aq h aI hs) hs).imp λσ H Q hz=>by
  obtain⟨B,Hk,δ,ds,R,e,k⟩:=hz;unfold t7 at e;dsimp only at e;split at e
  .rename_i j q
   by_cases c:(decide (-(2 ^ 62)<=j/\j<2 ^ 62))=true
   .rw[Z0 c]at e;obtain rfl:=Z7 e
    have c':=Zf c;refine pq R q λv H' s R' r=>?_
    simp only[Rep]at r;subst r;exact⟨j,rfl,c'.1,c'.2,k _ H' s (y0 0 _)⟩
   .rw[ZY c]at e;trivial
  .trivial
end
noncomputable def ao(body:D->DEnv->Z9 Out):Z8 D->DEnv->Z9 Out
 |[],δ=>some (.next δ)
 |d::ds,δ=>match body d δ with
  |some (.next h_)=>ao body ds h_
  |some (.cont h_)=>ao body ds h_
  |some (.brk h_)=>some (.next h_)
  |some (.ret e fr)=>some (.ret e fr)
  |none=>none
section
variable{X:Cx}
theorem B4(hp:PassesOwn (model X.prog X.w) X.A X.env X.xe)(hc:X.calm=true)(hi:DI X false tg iter fi)(hg:DG X tg τ)(hb:DSs X body gb)(hs:∀x,foldedSetIterable iter X.env x=pure x:=by intro _;rfl):
  DS X (.For tg iter body [] pos) (λδ=>ae (fi δ) λds=>ao (λd δ=>ae (τ d δ) gb) ds δ):=
 (mJ hp hc hi hg hb hs).imp λDn σ H hz=>by
  obtain⟨B,Hk,δ,o,R,e,k⟩:=hz;obtain⟨ds,e1,e2⟩:=ak e;refine⟨B,Hk,δ,ds,R,e1,λJ H1 s1 it=>?_⟩
  have IQ:ItD X.K B H1 J ds:=it;refine⟨λi n j_ H'=>n=ds.length - i/\i<=ds.length/\Ext B H1 H'/\∃h_,Rel X.K B Hk h_ j_ H'/\ao (λd δ=>ae (τ d δ) gb) (ds.drop i) h_=some o,
   ⟨ds.length,by simp,Zs _,Ext.refl,δ,R.to s1,e2⟩,?_⟩
  intro i n j_ H' hz;obtain⟨rfl,hi,x,h_,R',e'⟩:=hz;obtain⟨GG,JG⟩:=IQ H' x
  by_cases k_:i<ds.length
  .obtain⟨go,yl⟩:=JG i ds[i] (by simp[k_])
   refine .inr ⟨go,λF1 H2=>Ext B H1 H2/\∃Kp,Rel X.K B Hk Kp F1 H2/\ao (λd δ=>ae (τ d δ) gb) (ds.drop (i+1)) Kp=some o,λF1 H2 z=>⟨_,by lia,rfl,k_,z⟩,λv H2 hy=>?_⟩
   obtain⟨sy,rv⟩:=yl v H2 hy
   replace x:=x.trans (R'.ext sy)
   replace R':=R'.to sy
   rw[Zo k_]at e';simp only[ao]at e';cases q:ae (τ ds[i] h_) gb with
   |none=>rw[q]at e';trivial
   |some o1=>
    rw[q]at e';obtain⟨t_,q1,q2⟩:=ak q;refine⟨B,Hk,h_,ds[i],t_,R',rv,q1,λGk R3=>⟨B,Hk,t_,o1,R3,q2,?_⟩⟩
    have kx:=k.ext (R.ext s1);cases o1 with
    |next IJ=>exact λJv H4 x4 R4=>⟨x.trans x4,IJ,R4,e'⟩
    |cont IJ=>exact λJv H4 x4 R4=>⟨x.trans x4,IJ,R4,e'⟩
    |brk IJ=>simp only at e';obtain rfl:=Z7 e';exact λJv H4 x4 R4=>kx Jv H4 (x.trans x4) R4
    |ret d fr=>simp only at e';obtain rfl:=Z7 e';exact λv4 H4 x4 R4=>kx v4 H4 (x.trans x4) R4
  .have s_:i=ds.length:=by lia
   subst s_;rw[Xm]at e';simp only[ao]at e';obtain rfl:=Z7 e';exact .inl ⟨GG,k j_ H' ((R.ext s1).trans x) R'⟩
end
noncomputable def bj(h:D->Z9 (Z9 D)):Z8 D->Z9 (Z8 D)
 |[]=>some []
 |d::ds=>match h d with
  |none=>none
  |some none=>bj h ds
  |some (some y)=>match bj h ds with
   |some l=>some (y::l)
   |none=>none
noncomputable def aw(bo:Bool)(bs:Z8 Bool)(δ:DEnv):DEnv:=List.zipWith (λ(b:Bool) (o:Z9 (D×Bool))=>if b=true then(match o with|some (d,ow)=>if(ow&&!bo)=true then none else some (d,false)|none=>none) else none) bs δ
def cq(h:(aw bo bs δ)[i]?=some (some (d,ow))):bs[i]?=some true/\ow=false/\rd bo i δ=some d:=by
 unfold aw at h;rw[WJ]at h
 cases e1:bs[i]? with
 |none=>rw[e1]at h;simp at h
 |some b=>
  cases e2:δ[i]? with
  |none=>rw[e1,e2]at h;simp at h
  |some o=>
   rw[e1,e2]at h;simp only[ZM]at h;cases b with
   |false=>simp at h
   |true=>
    rw[Z0 rfl]at h;cases o with
    |none=>trivial
    |some q=>
     obtain⟨d',QP⟩:=q;simp only at h
     by_cases c:(QP&&!bo)=true
     .rw[Z0 c]at h;trivial
     .rw[ZY c]at h;cases h
      exact⟨rfl,rfl,by unfold rd;rw[e2];simp only[ZY c]⟩
def jo{K:Z6}{B:ZN->Prop}{Hk H:Hp}{δ:DEnv}{σ:St}{bo:Bool}{bs:Z8 Bool}(R:Rel K B Hk δ σ H)(hl:bs.length=σ.length):Rel K (bb bo B δ σ) H (aw bo bs δ) (pE bs σ) H:=by
 refine⟨Same.refl H,R.bsH bo,?_,λi d h=>?_,λi d h=>?_,λi j d e a IC h=>?_⟩
 .unfold aw;rw[List.length_zipWith,db hl,R.len,hl,Nat.min_self]
 .obtain⟨h1,_,h3⟩:=cq h
  obtain⟨v,h4,h5⟩:=R.rd h3;refine⟨v,?_,h5⟩
  unfold pE;rw[WJ,h1,h4]
  simp
 .obtain⟨_,h2,_⟩:=cq h
  trivial
 .obtain⟨_,h2,_⟩:=cq h
  trivial
def av(x:Z9 (Z8 D)):Z9 D:=match x with|some ds=>some (.lst ds)|none=>none
section
variable{X:Cx}{ifs:Z8 Expr}{bo:Bool}{fi:DEnv->Z9 (Z8 D)}{τ:D->DEnv->Z9 DEnv}{ft:DEnv->Z9 Bool}{fe:DEnv->Z9 D}{bs:Z8 Bool}
abbrev DTs(X:Cx)(ifs:Z8 Expr)(f:DEnv->Z9 Bool):Prop:=PTs X ifs (tMT X.K f)
theorem ja{X:Cx}:DTs X [] (λ_=>some true):=λa_ s σ H Q I hz=>by obtain⟨B,Hk,δ,d,R,e,k⟩:=hz;obtain rfl:=Z7 e;exact zA a_ s σ H Q I (k H (Same.refl H))
theorem qf{X:Cx}{c:Expr}{f:DEnv->Z9 Bool}(h:DT X c f):DTs X [c] f:=xU h
noncomputable def aH(τ:D->DEnv->Z9 DEnv)(ft:DEnv->Z9 Bool)(fe:DEnv->Z9 D)(δ:DEnv)(d:D):Z9 (Z9 D):=ae (τ d δ) λh_=>match ft h_ with|some true=>(match fe h_ with|some y=>some (some y)|none=>none)|some false=>some none|none=>none
noncomputable def b0(bo:Bool)(bs:Z8 Bool)(τ:D->DEnv->Z9 DEnv)(ft:DEnv->Z9 Bool)(fe:DEnv->Z9 D)(δ:DEnv)(ds:Z8 D):Z9 (Z8 D):=if ds.length<=lim then bj (aH τ ft fe (aw bo bs δ)) ds else none
def nH{K:Z6}{σ:St}{H:Hp}{Q:VK}{te:TE}{J:Hp->Hp->D->V->Prop}{Js:Hp->ZN->Hp->Z8 D->Z8 V->Prop}(GF:Anew τ)(hl:bs.length=σ.length){B:ZN->Prop}{Hk:Hp}{δ:DEnv}{ds ls:Z8 D}(R:Rel K B Hk δ σ H)(e1:fi δ=some ds)(e2:b0 bo bs τ ft fe δ ds=some ls)
  (Q_:∀H1 t_ Gk H3 y,Rel K (bb bo B δ σ) H1 t_ Gk H3->fe t_=some y->∀Q:VK,(∀v H4,Same H3 H4->J H3 H4 y v->Q v H4)->te Gk H3 Q) (h0:∀H1 acc H',Js H1 acc H' [] [])
  (h1:∀{H1 acc H' H2 l ys},Js H1 acc H' l ys->Same H' H2->Ext (bb bo B δ σ) H' H2->Js H1 acc H2 l ys)
  (h2:∀{H1 acc H3 H4 l ys y v},Same H1 H3->H3 acc=some (.lst ys)->Js H1 acc H4 l ys->J H3 H4 y v->Ext (bb bo B δ σ) H4 (upd H4 acc (.lst (ys++[v])))->Js H1 acc (upd H4 acc (.lst (ys++[v]))) (l++[y]) (ys++[v]))
  (k:∀H1 a H',Same H H1->Same H1 H'->H1 a=none->(∃xs,H' a=some (.lst xs)/\Js H1 a H' ls xs)->Q (.ref a) H'):nQ (tI K bo fi) bs (tG K τ) (tMT K ft) te σ H Q:=by
 unfold b0 at e2
 by_cases FZ:ds.length<=lim
 .rw[Z0 FZ]at e2
  refine⟨B,Hk,δ,ds,R,e1,λJ H1 s1 it acc v_=>?_⟩
  have R1:=R.to s1;have nb:¬bb bo B δ σ acc:=λz=>by obtain⟨o,q⟩:=R1.bsH bo acc z;rw[v_]at q;trivial
  have R2:Rel K (bb bo B δ σ) H1 (aw bo bs δ) (pE bs σ) (upd H1 acc (.lst [])):=(jo (bo:=bo) (bs:=bs) R1 hl).to (au v_);have M5:aX (aw bo bs δ):=λj d h=>by obtain⟨_,h2,_⟩:=cq h;trivial
  have x0:Ext (bb bo B δ σ) H1 (upd H1 acc (.lst [])):=(au v_).ext (R1.bsH bo);refine⟨λi n ys j_ H'=>n=ds.length - i/\i<=ds.length/\ys.length<=i/\H' acc=some (.lst ys)/\Ext (bb bo B δ σ) H1 H'/\∃h_ l1 l2,Rel K (bb bo B δ σ) H1 h_ j_ H'/\(∀d,τ d h_=τ d (aw bo bs δ))/\aX h_/\ls=l1++l2/\Js H1 acc H' l1 ys/\bj (aH τ ft fe (aw bo bs δ)) (ds.drop i)=some l2,
   ⟨ds.length,by simp,Zs _,ZQ _,ah,x0,aw bo bs δ,[],ls,R2,λ_=>rfl,M5,rfl,h0 ..,e2⟩,?_⟩
  intro i n ys j_ H' hz;obtain⟨rfl,hi,Nc,ha,x,h_,l1,l2,R',D_,QT,KC,rs,ec⟩:=hz;refine⟨ha,?_⟩
  obtain⟨GG,JG⟩:=it H' x
  by_cases k_:i<ds.length
  .obtain⟨go,yl⟩:=JG i ds[i] (by simp[k_])
   refine .inr ⟨go,λv H2 hy=>?_⟩
   obtain⟨sy,rv⟩:=yl v H2 hy;have xy:=R'.ext sy
   replace ha:=sy acc _ ha
   replace rs:=h1 rs sy xy
   replace x:=x.trans xy
   replace R':=R'.to sy
   rw[Zo k_]at ec;simp only[bj]at ec;cases q:aH τ ft fe (aw bo bs δ) ds[i]with
   |none=>rw[q]at ec;trivial
   |some oy=>
    rw[q]at ec;obtain⟨t_,q1,q2⟩:=ak q;have Kv:τ ds[i] h_=some t_:=by rw[D_];exact q1
    have G0:∀d,τ d t_=τ d (aw bo bs δ):=λd=>by rw[GF.new _ d _ _ Kv,D_ d]
    have M3:aX t_:=GF.own _ _ _ Kv QT;refine⟨_,H1,h_,ds[i],t_,R',rv,Kv,λGk R3=>?_⟩
    split at q2
    .rename_i qt
     refine⟨_,H1,t_,true,R3,qt,λH3 s3=>v8 ?_⟩
     split at q2
     .rename_i y qe
      obtain rfl:=Z7 q2;simp only at ec;cases qc:bj (aH τ ft fe (aw bo bs δ)) (ds.drop (i+1))with
      |none=>rw[qc]at ec;trivial
      |some l3=>
       rw[qc]at ec;obtain rfl:=Z7 ec;refine Q_ H1 t_ Gk H3 y (R3.to s3) qe _ λv4 H4 s4 r4=>?_
       have Mf:=s3.trans s4;have PD:H4 acc=some (.lst ys):=Mf acc _ ha;have x4:Ext (bb bo B δ σ) H2 H4:=R3.ext Mf;have x5:Ext (bb bo B δ σ) H4 (upd H4 acc (.lst (ys++[v4]))):=bx PD trivial nb;have R5:Rel K (bb bo B δ σ) H1 t_ Gk (upd H4 acc (.lst (ys++[v4]))):=by
        have R4:=R3.to Mf;refine⟨R4.same.put v_,R4.bor,R4.len,λj d h=>?_,λj d h=>(M3 j d h).elim,R4.dis⟩
        obtain⟨v,h1,h2⟩:=R4.var j d h;exact⟨v,h1,h2.ext x5⟩
       exact⟨PD,by have:=aB FZ;lia,ds.length - (i+1),by lia,rfl,k_,by rw[Zy,List.length_singleton];lia,ah,x.trans (x4.trans x5),t_,l1++[y],l3,R5,G0,M3,by rw[KC,Zh];rfl,h2 (R3.to s3).same (s3 acc _ ha) (h1 rs Mf x4) r4 x5,qc⟩
     .trivial
    .rename_i qt
     obtain rfl:=Z7 q2;refine⟨_,H1,t_,false,R3,qt,λH3 s3=>vA ?_⟩
     exact⟨ds.length - (i+1),by lia,rfl,k_,by lia,s3 acc _ ha,x.trans (R3.ext s3),t_,l1,l2,R3.to s3,G0,M3,KC,h1 rs s3 (R3.ext s3),ec⟩
    .trivial
  .have s_:i=ds.length:=by lia
   subst s_;rw[Xm]at ec;simp only[bj]at ec;obtain rfl:=Z7 ec;rw[Y_]at KC;subst KC;exact .inl ⟨GG,k H1 acc H' s1 R'.same v_ ⟨ys,ha,rs⟩⟩
 .rw[ZY FZ]at e2;trivial
def jc{K:Z6}{σ:St}{H:Hp}{Q:VK}(GF:Anew τ)(hl:bs.length=σ.length){B:ZN->Prop}{Hk:Hp}{δ:DEnv}{ds ls:Z8 D}(R:Rel K B Hk δ σ H)(e1:fi δ=some ds)(e2:b0 bo bs τ ft fe δ ds=some ls)
  (k:∀a H',Same H H'->H a=none->(∃xs,H' a=some (.lst xs)/\Reps K (bb bo B δ σ) H' ls xs)->Q (.ref a) H'):nQ (tI K bo fi) bs (tG K τ) (tMT K ft) (tM K false fe) σ H Q:=
 nH (J:=λ_ H y v=>Rep K (bb bo B δ σ) H y v) (Js:=λ_ _ H l ys=>Reps K (bb bo B δ σ) H l ys) GF hl R e1 e2 (λH1 t_ Gk H3 y R3 qe Q kk=>⟨_,H1,t_,y,R3,qe,kk⟩) (λ_ _ _=>Reps.nil) (λr _ x=>r.ext x) (λ_ _ r r4 x=>(r.ext x).append (Reps.cons (r4.ext x) Reps.nil)) λH1 a H' s1 s2 n ob=>k a H' (s1.trans s2) (s1.free n) ob
end
section
variable{X:Cx}{elt tg iter:Expr}{ifs:Z8 Expr}{scope:Scope}{pos:Pos}{fi:DEnv->Z9 (Z8 D)}{τ:D->DEnv->Z9 DEnv}{ft:DEnv->Z9 Bool}{fe:DEnv->Z9 D}{bs:Z8 Bool}
def qw(hc:X.calm=true)(GF:Anew τ)(hi:DI X bo tg iter fi)(S:CompScope X scope bs)(hg:∀cl C d_ e_ ex pn,DG (ax X scope cl C d_ e_ ex pn) tg τ)(ht:∀cl C d_ e_ ex pn,DTs (ax X scope cl C d_ e_ ex pn) ifs ft)(he:∀cl C d_ e_ ex pn,DE (ax X scope cl C d_ e_ ex pn) false elt fe)(hs:∀x,foldedSetIterable iter X.env x=pure x):PE X (.ListComp elt [⟨tg,iter,ifs,0⟩] scope pos) (λσ H Q=>∃B Hk δ ds ls,Rel X.K B Hk δ σ H/\fi δ=some ds/\b0 bo bs τ ft fe δ ds=some ls/\
   ∀a H',Same H H'->H a=none->(∃xs,H' a=some (.lst xs)/\Reps X.K (bb bo B δ σ) H' ls xs)->Q (.ref a) H'):=by
 intro a_ s σ H Q I ⟨B,Hk,δ,ds,ls,R,e1,e2,k⟩;exact rG hc hi S hg ht he hs a_ s σ H Q I (jc GF (by rw[S.len,I.len]) R e1 e2 k)
theorem pW(hc:X.calm=true)(GF:Anew τ)(hi:DI X false tg iter fi)(S:CompScope X scope bs)
  (hg:∀cl C d_ e_ ex pn,DG (ax X scope cl C d_ e_ ex pn) tg τ) (ht:∀cl C d_ e_ ex pn,DTs (ax X scope cl C d_ e_ ex pn) ifs ft) (he:∀cl C d_ e_ ex pn,DE (ax X scope cl C d_ e_ ex pn) false elt fe)
  (hs:∀x,foldedSetIterable iter X.env x=pure x:=by intro _;rfl):DF X (.ListComp elt [⟨tg,iter,ifs,0⟩] scope pos) (λδ=>av (ae (fi δ) (b0 false bs τ ft fe δ))):=
 (qw hc GF hi S hg ht he hs).imp λσ H Q hz=>by
  obtain⟨B,Hk,δ,d,R,e,k⟩:=hz;cases q:ae (fi δ) (b0 false bs τ ft fe δ)with
  |none=>simp only[q,av]at e;trivial
  |some ls=>
   simp only[q,av]at e;obtain rfl:=Z7 e;obtain⟨ds,e1,e2⟩:=ak q;exact⟨B,Hk,δ,ds,ls,R,e1,e2,λa H' s n ob=>k a H' s n ob⟩
def fU(x:Z9 (Z8 D)):Z9 (Z8 D):=match x with|some ds=>if D.flats ds=true then some ds else none|none=>none
def lR(h:fU x=some ds):x=some ds/\D.flats ds=true:=by
 unfold fU at h;cases x with
 |none=>trivial
 |some e=>
  simp only at h
  by_cases q:D.flats e=true
  .rw[Z0 q]at h;obtain rfl:=Z7 h;exact⟨rfl,q⟩
  .rw[ZY q]at h;trivial
theorem mD(hc:X.calm=true)(GF:Anew τ)(hi:DI X true tg iter fi)(S:CompScope X scope bs)
  (hg:∀cl C d_ e_ ex pn,DG (ax X scope cl C d_ e_ ex pn) tg τ) (ht:∀cl C d_ e_ ex pn,DTs (ax X scope cl C d_ e_ ex pn) ifs ft) (he:∀cl C d_ e_ ex pn,DE (ax X scope cl C d_ e_ ex pn) false elt fe)
  (hs:∀x,foldedSetIterable iter X.env x=pure x:=by intro _;rfl):DF X (.ListComp elt [⟨tg,iter,ifs,0⟩] scope pos) (λδ=>av (fU (ae (fi δ) (b0 true bs τ ft fe δ)))):=
 (qw hc GF hi S hg ht he hs).imp λσ H Q hz=>by
  obtain⟨B,Hk,δ,d,R,e,k⟩:=hz;cases q:fU (ae (fi δ) (b0 true bs τ ft fe δ))with
  |none=>simp only[q,av]at e;trivial
  |some ls=>
   simp only[q,av]at e;obtain rfl:=Z7 e;obtain⟨q1,q2⟩:=lR q;obtain⟨ds,e1,e2⟩:=ak q1;exact⟨B,Hk,δ,ds,ls,R,e1,e2,λa H' s n hz=>by obtain⟨xs,h1,h2⟩:=hz;exact k a H' s n ⟨xs,h1,Reps.flat q2 h2⟩⟩
def yc(hN:X.N.Nodup)(hc:X.calm=true)(GF:Anew τ)(hi:DI X false tg iter fi)(S:CompScope X scope bs)(hg:∀cl C d_ e_ ex pn,DG (ax X scope cl C d_ e_ ex pn) tg τ)(ht:∀cl C d_ e_ ex pn,DTs (ax X scope cl C d_ e_ ex pn) ifs ft)(he:∀cl C d_ e_ ex pn,DE (ax X scope cl C d_ e_ ex pn) false elt fe)(Nv:X.N[i]?=some y:=by rfl)(hy:X.env.scope.names.lookup y=some .local:=by rfl)(GY:swapsWith (.ListComp elt [⟨tg,iter,ifs,0⟩] scope pos) (some (.Name y py)) G2.line X.env=pure true:=by rfl)(hs:∀x,foldedSetIterable iter X.env x=pure x:=by intro _;rfl):DS X (.Assign [.Name y py] (.ListComp elt [⟨tg,iter,ifs,0⟩] scope pos) G2) (λδ=>d9 i (av (ae (fi δ) (b0 false bs τ ft fe δ))) δ):=by
 intro a_ s σ H Dn I ⟨B,Hk,δ,o,R,e,k⟩;obtain⟨d,ed,k_,rfl⟩:=kf e;cases q:ae (fi δ) (b0 false bs τ ft fe δ)with
 |none=>simp only[q,av]at ed;trivial
 |some ls=>
  simp only[q,av]at ed;obtain rfl:=Z7 ed;obtain⟨ds,e1,e2⟩:=ak q;refine rC hc hi S hg ht he hN Nv hy GY hs a_ s σ H Dn I (jc (Q:=λx H1=>gf i x σ H1 Dn.nx) GF (by rw[S.len,I.len]) R e1 e2 λa H' s n ob=>?_)
  refine k _ H' (R.ext s) ((R.to s).setOwn (by rw[<-R.len];exact k_) (R.same.free n) ob λj e hj h1 h2=>?_)
  obtain⟨b,h3,_,Jy⟩:=R.own j e h1;rw[h2]at h3;cases h3;obtain⟨o,e'⟩:=Jy.there;rw[n]at e';trivial
end
def bY(n:Nat)(ds:Z8 D):DEnv:=ds.map (λd=>some (d,false))++List.replicate (n - ds.length) none
def pC(x:Z9 Out):Z9 (D×Bool):=match x with|some (.ret d fr)=>some (d,fr)|some (.next _)=>some (.non,false)|_=>none
def bZ(n np:Nat)(g:DEnv->Z9 Out)(ds:Z8 D):Z9 (D×Bool):=if ds.length=np then pC (g (bY n ds)) else none
def fA{K:Z6}{B:ZN->Prop}{H:Hp}{N:Z8 Str}{ds:Z8 D}{vs:Z8 V}(hb:∀a,B a->∃o:HOn,H a=some o.1)(r:Reps K B H ds vs)(hl:ds.length<=N.length):Rel K B H (bY N.length ds) (cw N vs) H:=by
 have el:=r.length;have key:∀(i:Nat) d ow,(bY N.length ds)[i]?=some (some (d,ow))->ow=false/\ds[i]?=some d:=λi d ow h=>by
  unfold bY at h
  by_cases hi:i<ds.length
  .rw[Yt (by simpa using hi),Yv]at h
   cases q:ds[i]? with
   |none=>rw[q]at h;trivial
   |some e=>rw[q]at h;simp only[Option.map_some,ZM,XA]at h;exact⟨h.2.symm,by rw[h.1]⟩
  .rw[Yi (by simpa using hi),List.getElem?_replicate]at h
   split at h<;>cases h
 refine⟨Same.refl H,hb,?_,λi d h=>?_,λi d h=>?_,λi j d e a _ h=>?_⟩
 .unfold bY cw
  simp only[Zy,ZI,List.length_replicate]
  lia
 .obtain⟨_,h2⟩:=key i d _ h
  obtain⟨v,h3,h4⟩:=r.get h2;refine⟨v,?_,h4⟩
  have hi:i<vs.length:=(ZV.mp h3).1
  unfold cw;rw[Yt (by simpa using hi),Yv,h3]
  rfl
 .have:=(key i d _ h).1;trivial
 .have:=(key i d _ h).1;trivial
section
variable{P:Y1}{w:YO}{K:Z6}{mg:Str->Z9 Z3}{base:Heap}
def xd{N ps:Z8 Str}{Dn:Ends}(hn:ps.length<=N.length)(h:spM K (bZ N.length ps.length g) vs H Q E)(h1:∀v H,Q v H->Dn.rt v H)(h2:∀σ H,Q .non H->Dn.nx σ H):vs.length=ps.length/\tD K g Dn (cw N vs) H:=by
 obtain⟨B,ds,r,fr,hB,FV,hf,kk⟩:=h;unfold bZ at hf
 by_cases q:ds.length=ps.length
 .rw[Z0 q]at hf
  refine⟨by rw[<-FV.length,q],B,H,bY N.length ds,?_⟩
  cases qo:g (bY N.length ds)with
  |none=>rw[qo]at hf;trivial
  |some o=>
   rw[qo]at hf;refine⟨o,fA hB FV (by lia),rfl,?_⟩
   cases o with
   |ret d Sw=>
    simp only[pC,ZM,XA]at hf;obtain⟨rfl,rfl⟩:=hf;exact λv H' x s rr=>h1 _ _ (kk v H' s rr)
   |next δ=>
    simp only[pC,ZM,XA]at hf;obtain⟨rfl,rfl⟩:=hf;exact λj_ H' x R'=>h2 _ _ (kk .non H' R'.same (by unfold ll;rw[ZY Zn];simp only[Rep]))
   |brk δ=>simp only[pC]at hf;trivial
   |cont δ=>simp only[pC]at hf;trivial
 .rw[ZY q]at hf;trivial
def SY:Ends:=⟨λ_ _=>True,λ_ _=>True,λ_ _=>True,λ_ _=>True⟩
def wv{x qual:Str}{st:Stmt}{f:ZN}{fd:FuncData}{N ps:Z8 Str}{k:Nat}{g:DEnv->Z9 Out}(F:Fun K x qual st f fd)(S:FnScope N ps (defScope st))(hb:Binds K fd ps [])(hm:mg x=some (.ref f))(hn:ps.length<=N.length)
  (body:∀(A:Za)(outer:Z8 Env)(s:ZP)(H:Hp)(E:XK),Room k (A.deeper (envOfC qual (defScope st) s.heap.objs.size f fd.code))->DSs (mG CX0 P w K mg base N qual (defScope st) f fd.code A outer s H E).nox (defBody st) g):
  FnOk P w K mg base CX0 (k+1) f fd ps (spM K (bZ N.length ps.length g))/\FnM P w K mg base (k+1) x (bZ N.length ps.length g):=
 have key:=F.ok S (λvs H Q E h=>(xd (Dn:=SY) hn h (λ_ _ _=>trivial) λ_ _ _=>trivial).1) λA outer s H vs Q E hr h=>⟨_,body A outer s H E hr,(xd hn h (λ_ _ h=>h) λ_ _ h=>h).2⟩
 ⟨key,⟨f,fd,ps,key,hm,F.kp,hb⟩⟩
end
def dg{α:Type}:Z8 α->Z8 Bool->Z8 α
 |x::xs,b::bs=>if b=true then x::dg xs bs else dg xs bs
 |_,_=>[]
def il{α:Type}(bs:Z8 Bool):dg ([]:Z8 α) bs=[]:=by unfold dg;rfl
def zk{α:Type}{xs:Z8 α}{bs:Z8 Bool}{i:Nat}(h:i<xs.length)(hb:bs[i]?=some b):dg (xs.drop i) (bs.drop i)=if b=true then xs[i]::dg (xs.drop (i+1)) (bs.drop (i+1)) else dg (xs.drop (i+1)) (bs.drop (i+1)):=by
 obtain⟨h2,e⟩:=ZV.mp hb
 rw[Zo h,Zo h2,e];rw[dg]
theorem fq{K:Z6}{B:ZN->Prop}{H:Hp}:∀{ds:Z8 D}{xs:Z8 V}{bs:Z8 Bool},Reps K B H ds xs->Reps K B H (dg ds bs) (dg xs bs)
 |[],xs,bs,h=>by simp only[Reps]at h;subst h;rw[il,il];exact Reps.nil
 |d::ds,xs,bs,h=>by
  simp only[Reps]at h;obtain⟨x,r,rfl,h1,h2⟩:=h;cases bs with
  |nil=>unfold dg;exact Reps.nil
  |cons b bs=>
   rw[dg,dg];cases b with
   |true=>simp only[Y2];exact Reps.cons h1 (fq h2)
   |false=>simp only[ZJ,Zc];exact fq h2
def sN{K:Z6}{σ:St}{H:Hp}{Q:VK}{r j:Nat}{bs bl:Z8 Bool}{ft:DEnv->Z9 Bool}{B:ZN->Prop}{Hk:Hp}{δ:DEnv}{ds:Z8 D}(hl:bs.length=σ.length)(R:Rel K B Hk δ σ H)(hr:δ[r]?=some (some (.lst ds,true)))(hj:j<σ.length)
  (Lj:bl.length=ds.length) (FZ:ds.length<=lim) (RL:∀(i:Nat) d b,ds[i]?=some d->bl[i]?=some b->ft ((aw true bs δ).set j (some (d,false)))=some b)
  (k:∀l xs a H',σ[r]?=some (some (.ref l))->H l=some (.lst xs)->Reps K B H ds xs->Same H H'->H a=none->H' a=some (.lst (dg xs bl))->Q (.ref a) H'):
  nQ (By K (tX r)) bs (gf j) (tMT K ft) (tX j) σ H Q:=by
 obtain⟨l,h1,h2,xs,h3,h4⟩:=R.own r _ hr;have hlen:=h4.length;refine⟨.ref l,h1,l,rfl,⟨xs,.inl (.inl h3)⟩,λacc v_=>?_⟩
 have nb:¬bb true B δ σ acc:=λz=>by obtain⟨o,q⟩:=R.bsH true acc z;rw[v_]at q;trivial
 have R2:Rel K (bb true B δ σ) H (aw true bs δ) (pE bs σ) (upd H acc (.lst [])):=(jo (bo:=true) (bs:=bs) R hl).to (au v_);have M5:aX (aw true bs δ):=λj d h=>by obtain⟨_,h2,_⟩:=cq h;trivial
 refine⟨λi n ys j_ H'=>n=xs.length - i/\i<=xs.length/\ys.length<=i/\H' acc=some (.lst ys)/\Same H H'/\dg xs bl=ys++dg (xs.drop i) (bl.drop i)/\j_.length=σ.length/\∃h_,Rel K (bb true B δ σ) H h_ j_ H'/\aX h_/\h_.set j none=(aw true bs δ).set j none,
  ⟨xs.length,by simp,Zs _,ZQ _,ah,au v_,by simp,db hl,aw true bs δ,R2,M5,rfl⟩,?_⟩
 intro i n ys j_ H' hz;obtain⟨rfl,hi,Nc,ha,sm,hp,K9,h_,R',nw,hd⟩:=hz;refine⟨ha,?_⟩
 have hq:SqL K H' l xs:=.inl (.inl (sm l _ h3))
 by_cases k_:i<xs.length
 .refine .inr ⟨⟨xs,xs[i],hq,by simp⟩,λx H2 ⟨e2,hx⟩=>?_⟩
  subst e2;obtain rfl:xs[i]=x:=by have:=hx xs hq;simpa[k_]using this
  obtain⟨d,G0,rd⟩:=(h4.ext (sm.ext R.borH)).get' (i:=i) (x:=xs[i]) (by simp[k_])
  have Gx:Rep K (bb true B δ σ) H2 d xs[i]:=rd.more λa h=>iH true a h
  have R3:=R'.set (i:=j) (by lia) Gx
  have Ol:∀y,h_.set j y=(aw true bs δ).set j y:=λy=>by
   have:=congrArg (λz=>z.set j y) hd
   simpa only[XS]using this
  obtain⟨b,hb⟩:∃b,bl[i]?=some b:=⟨bl[i]'(by lia),by simp⟩
  have M0:aX (h_.set j (some (d,false))):=λm e z=>by
   by_cases hm:m=j
   .subst hm
    have Jm:m<h_.length:=by rw[R'.len];lia
    rw[ZR Jm]at z
    cases z
   .rw[ZW (ZD hm)]at z
    exact nw m e z
  have LM:(h_.set j (some (d,false))).set j none=(aw true bs δ).set j none:=by rw[XS];exact hd
  show tMT K ft (j_.set j (some xs[i])) H2 _;refine⟨_,H,_,b,R3,by rw[Ol];exact RL i d b G0 hb,λH3 s3=>?_⟩
  have NG:=s3 acc _ ha;have pa:=zk k_ hb;rw[pa]at hp;cases b with
  |false=>
   rw[ZY Zn]at hp;exact vA ⟨xs.length - (i+1),by lia,rfl,k_,by lia,NG,sm.trans s3,hp,by rw[Zl];exact K9,_,R3.to s3,M0,LM⟩
  |true=>
   rw[Z0 rfl]at hp;have R4:=R3.to s3;have x5:Ext (bb true B δ σ) H3 (upd H3 acc (.lst (ys++[xs[i]]))):=bx NG trivial nb;have R5:Rel K (bb true B δ σ) H (h_.set j (some (d,false))) (j_.set j (some xs[i])) (upd H3 acc (.lst (ys++[xs[i]]))):=by
    refine⟨R4.same.put v_,R4.bor,R4.len,λm e h=>?_,λm e h=>(M0 m e h).elim,R4.dis⟩
    obtain⟨v,z1,z2⟩:=R4.var m e h;exact⟨v,z1,z2.ext x5⟩
   refine v8 ⟨xs[i],ZR (by lia),NG,by have:=aB FZ;lia,xs.length - (i+1),by lia,rfl,k_,by rw[Zy,List.length_singleton];lia,ah,(sm.trans s3).put v_,by rw[hp,Zh];rfl,by rw[Zl];exact K9,_,R5,M0,LM⟩
 .have s_:i=xs.length:=by lia
  subst s_;rw[Xm,il,Y_]at hp;exact .inl ⟨⟨xs,hq,ZQ _⟩,k l xs acc H' h1 h3 h4 sm v_ (by rw[hp];exact ha)⟩
def tf:bootBuiltins "list"=some (.type "list"):=by decide +kernel
def mI:bootBuiltins "tuple"=some (.type "tuple"):=by decide +kernel
def An:bootBuiltins "sum"=some (.builtin "sum"):=by decide +kernel
def iF:bootBuiltins "isinstance"=some (.builtin "isinstance"):=by decide +kernel
def Ay:bootBuiltins "int"=some (.type "int"):=by decide +kernel
def BU:bootBuiltins "str"=some (.type "str"):=by decide +kernel
def xA:bootBuiltins "bool"=some (.type "bool"):=by decide +kernel
def AK:bootBuiltins "set"=some (.type "set"):=by decide +kernel
def fM:bootBuiltins "sorted"=some (.builtin "sorted"):=by decide +kernel
noncomputable def tZ(x:Str)(lo hi:Z9 Int):Str:=if((Builtin.Str.strSliceIndices lo hi 1 x.length).length==x.length)=true then x else⟨((Builtin.Str.strSliceIndices lo hi 1 x.length).filterMap (x.cps[·]?)).toArray⟩
def i0(x:Str)(lo hi:Z9 Int):(tZ x lo hi).length<=x.length:=by
 unfold tZ;split
 .exact ZQ _
 .show((Builtin.Str.strSliceIndices lo hi 1 x.length).filterMap (x.cps[·]?)).toArray.size<=_
  rw[ZU];exact Zr (W3 _ _) (sliceIndices_le lo hi x.length)
section
def pR(h:IsPart v o):∃l:Z9 (Int×Tok),v=partValue l/\l.map (·.1)=o:=by
 cases h with
 |none=>exact⟨none,rfl,rfl⟩
 |int i t=>exact⟨some (i,t),rfl,rfl⟩
def A2:SlR X (λx lo hi H Q=>∃z,x=.str z/\z.length<=sizeLine/\Q (.str (tZ z lo hi)) H):=by
 intro a_ s σ H x v vl vu lo hi sl Q I rx hs pl pu h;obtain⟨z,rfl,hz,q⟩:=h;obtain⟨t,rfl⟩:=rx;obtain⟨l,rfl,rfl⟩:=pR pl;obtain⟨u,rfl,rfl⟩:=pR pu;refine⟨"str",_,F.slot_str_getitem.lookup,typeIs_str s z t,wpAny_getItem_str_slice (l:=l) (u:=u) (st:=none) hs rfl ?_⟩
 have key:(sliceMade z t l u none)=if((Builtin.Str.strSliceIndices (l.map (·.1)) (u.map (·.1)) 1 z.length).length==z.length)=true then Made.val (.str z t) else Made.str ⟨((Builtin.Str.strSliceIndices (l.map (·.1)) (u.map (·.1)) 1 z.length).filterMap (z.cps[·]?)).toArray⟩:=by
  unfold sliceMade slicePicked;simp
 rw[key];refine post_val_or_made (λhc=>?_) λt' k=>⟨.str (tZ z (l.map (·.1)) (u.map (·.1))),H,I.tok k,⟨t',rfl⟩,q⟩
 have hle:=i0 z (l.map (·.1)) (u.map (·.1))
 unfold tZ at hle;rw[ZY hc]at hle;exact Zr hle hz
end
def DO(X:Cx)(e:Z9 Expr)(f:DEnv->Z9 (Z9 Int)):Prop:=PO X e (λσ H Q=>∃B Hk δ o,Rel X.K B Hk δ σ H/\f δ=some o/\∀H',Same H H'->Q o H')
def PO.imp(h:PO X e t)(i:∀σ H Q,t' σ H Q->t σ H Q):PO X e t':=λa_ s σ H Q I q=>h a_ s σ H Q I (i σ H Q q)
def iM(x:Z9 D):Z9 (Z9 Int):=match x with|some (.int i)=>some (some i)|_=>none
section
variable{X:Cx}{m:Bool}{a b:Expr}{fa:DEnv->Z9 D}{pos p:Pos}{lo hi:Z9 Expr}{fl fh:DEnv->Z9 (Z9 Int)}
theorem zo:DO X none (λ_=>some none):=xN.imp λσ H Q hz=>by obtain⟨B,Hk,δ,o,R,e,k⟩:=hz;obtain rfl:=Z7 e;exact k H (Same.refl H)
theorem yy(h:DE X m a fa):DO X (some a) (λδ=>iM (fa δ)):=(yx h).imp λσ H Q hz=>by
 obtain⟨B,Hk,δ,o,R,e,k⟩:=hz;unfold iM at e;dsimp only at e;split at e
 .rename_i i q
  obtain rfl:=Z7 e;refine⟨B,Hk,δ,_,R,q,λv H' s r=>?_⟩
  simp only[Rep]at r;exact⟨i,r,k H' s⟩
 .trivial
def B1{K:Z6}{σ:St}{H:Hp}{B:ZN->Prop}{Hk:Hp}{δ:DEnv}{d:D}{l u:Z9 Int}{r:V->Z9 Int->Z9 Int->Hp->VK->Prop}{Q:VK}(R:Rel K B Hk δ σ H)(e1:fa δ=some d)(e2:fl δ=some l)(e3:fh δ=some u)
  (k:∀v H',Same H H'->Rel K B Hk δ σ H'->Rep K (bb m B δ σ) H' d v->r v l u H' Q):
  tSl r (tM K m fa) (λσ H Q=>∃B Hk δ o,Rel K B Hk δ σ H/\fl δ=some o/\∀H',Same H H'->Q o H') (λσ H Q=>∃B Hk δ o,Rel K B Hk δ σ H/\fh δ=some o/\∀H',Same H H'->Q o H') σ H Q:=
 ⟨B,Hk,δ,d,R,e1,λv H1 s1 r1=>⟨B,Hk,δ,l,R.to s1,e2,λH2 s2=>⟨B,Hk,δ,u,R.to (s1.trans s2),e3,λH3 s3=>k v H3 (s1.trans (s2.trans s3)) (R.to (s1.trans (s2.trans s3))) (r1.same (R.to s1) (s2.trans s3))⟩⟩⟩
noncomputable def lf(x:Z9 D)(l u:Z9 (Z9 Int)):Z9 D:=match x,l,u with|some (.str z),some l,some u=>if z.length<=lim then some (.str (tZ z l u)) else none|_,_,_=>none
theorem xW(ha:DE X m a fa)(hl:DO X lo fl)(hh:DO X hi fh):DE X mm (.Subscript a (.Slice lo hi none p2) pos) (λδ=>lf (fa δ) (fl δ) (fh δ)):=
 (mY A2 ha hl hh).imp λσ H Q hz=>by
  obtain⟨B,Hk,δ,d,R,e,k⟩:=hz;unfold lf at e;dsimp only at e;split at e
  .rename_i z l u q1 q2 q3
   by_cases hz:z.length<=lim
   .rw[Z0 hz]at e;obtain rfl:=Z7 e
    refine B1 R q1 q2 q3 λv H' s R' r=>?_
    simp only[Rep]at r;exact⟨z,r,aB hz,k _ H' s (by simp only[Rep])⟩
   .rw[ZY hz]at e;trivial
  .trivial
def pX(ds:Z8 D)(lo hi:Z9 Int):Z8 D:=(ds.drop (HT.sIx ds.length 0 lo)).take (HT.sIx ds.length ds.length hi - HT.sIx ds.length 0 lo)
def Reps.cut{K:Z6}{B:ZN->Prop}{H:Hp}{ds:Z8 D}{xs:Z8 V}(r:Reps K B H ds xs)(lo hi:Z9 Int):Reps K B H (pX ds lo hi) (yg xs lo hi):=by
 unfold pX yg;rw[r.length];exact(r.drop _).take _
def oW(x:Z9 D)(l u:Z9 (Z9 Int)):Z9 D:=match x,l,u with|some (.lst ds),some l,some u=>some (.lst (pX ds l u))|_,_,_=>none
theorem yj(ha:DE X false a fa)(hl:DO X lo fl)(hh:DO X hi fh):DF X (.Subscript a (.Slice lo hi none p2) pos) (λδ=>oW (fa δ) (fl δ) (fh δ)):=
 (mY yn ha hl hh).imp λσ H Q hz=>by
  obtain⟨B,Hk,δ,d,R,e,k⟩:=hz;unfold oW at e;dsimp only at e;split at e
  .rename_i ds l u q1 q2 q3
   obtain rfl:=Z7 e;refine B1 R q1 q2 q3 λv H' s R' r=>?_
   simp only[Rep]at r;obtain⟨c,xs,rfl,hq,rs⟩:=r;refine⟨c,xs,rfl,hq.sq,λp hp=>?_⟩
   have s2:=au (o:=.lst (yg xs l u)) hp;exact k p _ (s.trans s2) (s.free hp) ⟨_,ah,(rs.cut l u).same (m:=false) R' s2⟩
  .trivial
def xH(x y:Z9 D):Z9 D:=match x,y with|some (.str i),some (.str j)=>if i.length+j.length<=lim then some (.str (i++j)) else none|_,_=>none
theorem yS(ha:DE X m a fa)(hb:DE X m' b fb):DE X mm (.BinOp a .Add b pos) (λδ=>xH (fa δ) (fb δ)):=
 (u9 oF ha hb).imp λσ H Q hz=>by
  obtain⟨B,Hk,δ,d,R,e,k⟩:=hz;unfold xH at e;dsimp only at e;split at e
  .rename_i i j q1 q2
   by_cases hz:i.length+j.length<=lim
   .rw[Z0 hz]at e;obtain rfl:=Z7 e
    refine two R q1 q2 λv u H' s R' r1 r2=>?_
    simp only[Rep]at r1 r2;subst r1 r2;exact⟨i,j,rfl,rfl,aB hz,k _ H' s (by simp only[Rep])⟩
   .rw[ZY hz]at e;trivial
  .trivial
def iz(x:Z9 D):Z9 D:=match x with|some d=>(match aO d with|some ds=>some (.lst ds)|none=>none)|none=>none
def wB{g:Z8 D->D}(h:(match x with|some d=>(match aO d with|some ds=>some (g ds)|none=>none)|none=>none)=some d):∃e es,x=some e/\aO e=some es/\d=g es:=by
 split at h
 .rename_i e
  split at h
  .rename_i es he;obtain rfl:=Z7 h;exact⟨e,es,rfl,he,rfl⟩
  .trivial
 .trivial
theorem sP(g:Gl X "list")(hm:X.mg "list"=none)(ha:DE X false a fa)(hs:starEach [a] X.env=[(false,eval a X.env)]:=by rfl):DF X (.Call (.Name "list" p) [a] [] pos) (λδ=>iz (fa δ)):=
 (dw ko g hm tf (aq ha aI hs) (he:=hs)).imp λσ H Q hz=>by
  obtain⟨B,Hk,δ,d,R,e,k⟩:=hz;obtain⟨d1,es,e1,hi,rfl⟩:=wB (g:=D.lst) e;refine pq R e1 λv H' s R' r=>?_
  obtain⟨p,xs,rfl,hq,rs⟩:=r.items hi;refine⟨p,xs,rfl,hq,λl hl=>?_⟩
  have s2:=au (o:=.lst xs) hl;exact k l _ (s.trans s2) (s.free hl) ⟨_,ah,rs.same (m:=false) R' s2⟩
def dF(x:Z9 D):Z9 D:=match x with|some d=>(match aO d with|some ds=>some (.tup ds)|none=>none)|none=>none
theorem vj(g:Gl X "tuple")(hm:X.mg "tuple"=none)(ha:DE X m a fa)(hs:starEach [a] X.env=[(false,eval a X.env)]:=by rfl):DE X m (.Call (.Name "tuple" p) [a] [] pos) (λδ=>dF (fa δ)):=
 (dw io g hm mI (aq ha aI hs) (he:=hs)).imp λσ H Q hz=>by
  obtain⟨B,Hk,δ,d,R,e,k⟩:=hz;obtain⟨d1,es,e1,hi,rfl⟩:=wB (g:=D.tup) e;refine pq R e1 λv H' s R' r=>?_
  cases d1 with
  |lst ds=>
   simp only[aO]at hi;obtain rfl:=Z7 hi;simp only[Rep]at r;obtain⟨c,xs,rfl,hq,rs⟩:=r;refine⟨c,xs,rfl,.inl ⟨hq.sq,λl hl=>?_⟩⟩
   have s2:=au (o:=.tup xs) hl;refine k _ _ (s.trans s2) ?_
   simp only[Rep];exact⟨l,xs,rfl,ah,rs.same R' s2⟩
  |tup ds=>
   simp only[aO]at hi;obtain rfl:=Z7 hi;have r':=r;simp only[Rep]at r;obtain⟨c,xs,rfl,hq,rs⟩:=r;exact⟨c,xs,rfl,.inr ⟨SqT.of hq,k _ H' s r'⟩⟩
  |_=>simp[aO]at hi
def c6:Z8 D->Z9 (Z8 Int)
 |[]=>some []
 |.int i::ds=>(match c6 ds with|some l=>some (i::l)|none=>none)
 |_=>none
theorem gU:∀{ds:Z8 D}{ns:Z8 Int},c6 ds=some ns->ds=ns.map D.int
 |[],ns,h=>by simp only[c6,ZM]at h;subst h;rfl
 |.int i::ds,ns,h=>by
  simp only[c6]at h;cases q:c6 ds with
  |none=>rw[q]at h;trivial
  |some l=>
   rw[q]at h;simp only[ZM]at h;subst h;rw[Z1,gU q]
 |.non::ds,ns,h=>by simp[c6]at h
 |.bl _::ds,ns,h=>by simp[c6]at h
 |.str _::ds,ns,h=>by simp[c6]at h
 |.tup _::ds,ns,h=>by simp[c6]at h
 |.lst _::ds,ns,h=>by simp[c6]at h
 |.dK _ _::ds,ns,h=>by simp[c6]at h
 |.dD _ _::ds,ns,h=>by simp[c6]at h
theorem Reps.ints{K:Z6}{B:ZN->Prop}{H:Hp}:∀{ns:Z8 Int}{xs:Z8 V},Reps K B H (ns.map D.int) xs->xs=ns.map V.int
 |[],xs,h=>by simpa only[Y6,Reps]using h
 |n::ns,xs,h=>by
  simp only[Z1,Reps]at h;obtain⟨x,r,rfl,h1,h2⟩:=h;simp only[Rep]at h1;rw[Z1,h1,Reps.ints h2]
def uV(hc:X.calm=true):eM X (.builtin "sum") (λxs H Q=>∃(p:ZN)(ns:Z8 Int),xs=[.ref p]/\SqL X.K H p (ns.map V.int)/\Q (.int ns.sum) H):=by
 intro a_ s σ H xs us Q I r h;obtain⟨p,ns,rfl,hq,q⟩:=h;obtain⟨u,rfl,rx⟩:=gm r;cases rx;obtain⟨its,rv,pl,hz⟩:=I.list hq;have hi:=n5 rv;obtain⟨xs,OX⟩:=hi.allInts.items;have hl:=pl.isList;rw[OX]at hl;refine PySem.sum_intListG (I.ok.hd hc) hl λh' tk t' hk=>?_
 have e1:preSum (numAt xs) xs.size=ns.sum:=by
  rw[preSum_eq,YE (by simp)]
  have:=hi.numsOf;rw[show its=its.toArray.toList from rfl,OX,nums_intItems]at this
  rw[this]
 rw[e1];exact⟨.int ns.sum,H,I.kept hk,⟨t',rfl⟩,q⟩
def Ai(x:Z9 D):Z9 D:=match x with|some (.lst ds)=>(match c6 ds with|some ns=>some (.int ns.sum)|none=>none)|_=>none
theorem Af(hc:X.calm=true)(g:Gl X "sum")(hm:X.mg "sum"=none)(ha:DE X m a fa)(hs:starEach [a] X.env=[(false,eval a X.env)]:=by rfl):DE X mm (.Call (.Name "sum" p) [a] [] pos) (λδ=>Ai (fa δ)):=
 (cN (uV hc) g hm An (aq ha aI hs) (he:=hs)).imp λσ H Q hz=>by
  obtain⟨B,Hk,δ,d,R,e,k⟩:=hz;unfold Ai at e;dsimp only at e;split at e
  .rename_i ds q
   split at e
   .rename_i ns qn
    obtain rfl:=Z7 e;obtain rfl:=gU qn;refine pq R q λv H' s R' r=>?_
    simp only[Rep]at r;obtain⟨c,xs,rfl,hq,rs⟩:=r;obtain rfl:=rs.ints;exact⟨c,ns,rfl,hq.sq,k _ H' s (by simp only[Rep])⟩
   .trivial
  .trivial
noncomputable def tyD:D->Z9 String
 |.non=>some "NoneType"|.bl _=>some "bool"|.int _=>some "int"|.str _=>some "str"|.tup _=>some "tuple"|.lst _=>some "list"|_=>none
def Cj(t c:String):Bool:=t==c||(t=="bool"&&c=="int")
def pv(c:String)(x:Z9 D):Z9 D:=match x with|some d=>(match tyD d with|some t=>some (.bl (Cj t c))|none=>none)|none=>none
def uK(hc:c="int"\/c="bool"\/c="str"\/c="list"\/c="tuple"):eM X (.builtin "isinstance") (λxs H Q=>∃B d x t,xs=[x,.ty c]/\Rep X.K B H d x/\tyD d=some t/\Q (.bl (Cj t c)) H):=by
 intro a_ s σ H xs us Q I r h;obtain⟨B,d,x,t,rfl,rx,ht,q⟩:=h;obtain⟨u,w',rfl,ru,E_⟩:=Dg r;cases E_;have fin:∀b,b=Cj t c->∀tk,EP X a_ σ Q (.bool b) {s with toks:=tk}:=λb e tk=>⟨.bl b,H,I.tok tk,rfl,by rw[e];exact q⟩
 have Kx:∀(T:String),(T="NoneType"\/T="bool"\/T="int"\/T="str"\/T="list"\/T="tuple")->PySem.W.kitOne X.K (.type T) (.type c)=some (Cj T c):=λT hT=>by
  rcases hc with rfl|rfl|rfl|rfl|rfl<;>rcases hT with rfl|rfl|rfl|rfl|rfl|rfl<;>rfl
 cases d with
 |non=>simp only[tyD,ZM]at ht;subst ht;simp only[Rep]at rx;subst rx;exact dn I ru (.non) (Kx _ (by simp)) (fin _ rfl)
 |bl b=>simp only[tyD,ZM]at ht;subst ht;simp only[Rep]at rx;subst rx;exact dn I ru (.bl b) (Kx _ (by simp)) (fin _ rfl)
 |int b=>simp only[tyD,ZM]at ht;subst ht;simp only[Rep]at rx;subst rx;exact dn I ru (.int b) (Kx _ (by simp)) (fin _ rfl)
 |str b=>simp only[tyD,ZM]at ht;subst ht;simp only[Rep]at rx;subst rx;exact dn I ru (.str b) (Kx _ (by simp)) (fin _ rfl)
 |tup ds=>
  simp only[tyD,ZM]at ht;subst ht;simp only[Rep]at rx;obtain⟨a,xs,rfl,hq,_⟩:=rx;cases ru;obtain⟨its,_,⟨o,h1,h2,_⟩,_⟩:=I.tuple (SqT.of hq);exact Yz PySem.W.kitx_tuple I.kIn ⟨o,h1,h2⟩ (Kx _ (by simp)) (λz=>nomatch z) (fin _ rfl)
 |lst ds=>
  simp only[tyD,ZM]at ht;subst ht;simp only[Rep]at rx;obtain⟨a,xs,rfl,hq,_⟩:=rx;cases ru;obtain⟨its,_,⟨o,n,h1,h2,_⟩,_⟩:=I.list hq.sq;exact Yz PySem.W.kitx_list I.kIn ⟨o,h1,h2⟩ (Kx _ (by simp)) (λz=>nomatch z) (fin _ rfl)
 |dK _ _=>simp[tyD]at ht
 |dD _ _=>simp[tyD]at ht
theorem Aj(hc:cs="int"\/cs="bool"\/cs="str"\/cs="list"\/cs="tuple")(g:Gl X "isinstance")(hm:X.mg "isinstance"=none)(gc:Gl X c)(Rv:X.mg c=none)(hv:bootBuiltins c=some (.type cs))(ha:DE X m a fa)(hs:starEach [a,.Name c pc] X.env=[(false,eval a X.env),(false,eval (.Name c pc) X.env)]:=by rfl)(Gp:starEach [.Name c pc] X.env=[(false,eval (.Name c pc) X.env)]:=by rfl)(hn:c≠"__name__":=by decide)(hd:(c==("__debug__":Str))=false:=by decide)(hpl:(backTo pos (starEach [.Name c pc] X.env)).any (·.1)=false:=by rfl):
  DE X mm (.Call (.Name "isinstance" p) [a,.Name c pc] [] pos) (λδ=>pv cs (fa δ)):=
 (cN (uK hc) g hm iF (aq ha (aq (zD (v:=.ty cs) gc Rv hv rfl hn hd) aI Gp) (by rw[hs,Gp])) (he:=by rw[hs,Gp]) (hpl:=hpl)).imp λσ H Q hz=>by
  obtain⟨B,Hk,δ,d,R,e,k⟩:=hz;unfold pv at e;dsimp only at e;split at e
  .rename_i d1 q
   split at e
   .rename_i t qt
    obtain rfl:=Z7 e;exact⟨B,Hk,δ,d1,R,q,λv H' s r=>⟨_,d1,v,t,rfl,r,qt,k _ H' s (by simp only[Rep])⟩⟩
   .trivial
  .trivial
end
end L2
namespace SM
open PySem PyProof.Rows
structure OrdK (LT:Keyed->Keyed->Bool):Prop where
 asym:∀x y,LT x y=true->LT y x=false
 tr:∀x y z,LT y x=false->LT z y=false->LT z x=false
def OrdK.irr{LT:Keyed->Keyed->Bool}(O:OrdK LT)(x:Keyed):LT x x=false:=by
 cases h:LT x x with
 |false=>rfl
 |true=>exact h.symm.trans (O.asym x x h)
def Ans(prog:Y1)(w:YO)(A:Za)(s:ZP)(κ:SortKind)(LT:Keyed->Keyed->Bool)(T:Array Keyed):Prop:=
 ∀x∈T,∀y∈T,∀C:Bool->ZP->Prop,C (LT x y) s->wpAny (model prog w) A (keyLt' κ x.1 y.1) C (λ_ _=>False) s
abbrev nK:Keyed:=(Value.none,Value.none)
def K(a:Array Keyed)(i:Nat):Keyed:=(a[i]?).getD nK
def Dl{a:Array Keyed}{i:Nat}(h:i<a.size):a[i]?=some (K a i):=by unfold K;rw[getElem?_pos a i h];rfl
def yH{a:Array Keyed}{i:Nat}(h:i<a.size):K a i∈a:=by unfold K;rw[getElem?_pos a i h];exact Array.getElem_mem h
def zW{a b:Array Keyed}{i j:Nat}(h:a[i]?=b[j]?):K a i=K b j:=by unfold K;rw[h]
def iG{a:Array Keyed}{i j:Nat}(hj:j<=a.size)(k:Nat):K (mirror a i j ((j - i) / 2)) k=if i<=k/\k<j then K a (i+j - 1 - k) else K a k:=by
 have e:=getElem?_mirror_all (i:=i) hj k
 by_cases h:i<=k/\k<j
 .rw[Z0 h]at e⊢;exact zW e
 .rw[ZY h]at e⊢;exact zW e
def yQ{a:Array Keyed}{src d:Nat}(hs:src<a.size)(hd:d<=src)(k:Nat):K (bubble a src d) k=if k=src - d then K a src else if src - d<k/\k<=src then K a (k - 1) else K a k:=by
 have e:=getElem?_bubble hs d hd k
 by_cases h:k=src - d
 .rw[Z0 h]at e⊢;exact zW e
 .rw[ZY h]at e⊢
  by_cases h2:src - d<k/\k<=src
  .rw[Z0 h2]at e⊢;exact zW e
  .rw[ZY h2]at e⊢;exact zW e
section
variable{LT:Keyed->Keyed->Bool}{T:Array Keyed}{st:SortSt}
def Up(LT:Keyed->Keyed->Bool)(a:Array Keyed)(i j:Nat):Prop:=∀p q,i<=p->p<=q->q<j->LT (K a q) (K a p)=false
def Dn(LT:Keyed->Keyed->Bool)(a:Array Keyed)(i j:Nat):Prop:=∀p q,i<=p->p<=q->q<j->LT (K a p) (K a q)=false
def Up.one(O:OrdK LT){a:Array Keyed}{i:Nat}:Up LT a i (i+1):=λp q h1 h2 h3=>by
 have e:p=q:=by lia
 rw[e];exact O.irr _
def Dn.one(O:OrdK LT){a:Array Keyed}{i:Nat}:Dn LT a i (i+1):=λp q h1 h2 h3=>by
 have e:p=q:=by lia
 rw[e];exact O.irr _
def Up.snoc(O:OrdK LT){a:Array Keyed}{i j:Nat}(h:Up LT a i j)(IC:i<j)(hl:LT (K a j) (K a (j - 1))=false):Up LT a i (j+1):=λp q h1 h2 h3=>by
 by_cases e:q=j
 .subst e
  by_cases e':p=q
  .rw[e'];exact O.irr _
  .exact O.tr _ _ _ (h p (q - 1) h1 (by lia) (by lia)) hl
 .exact h p q h1 h2 (by lia)
def Dn.snoc(O:OrdK LT){a:Array Keyed}{i j:Nat}(h:Dn LT a i j)(IC:i<j)(hl:LT (K a (j - 1)) (K a j)=false):Dn LT a i (j+1):=λp q h1 h2 h3=>by
 by_cases e:q=j
 .subst e
  by_cases e':p=q
  .rw[e'];exact O.irr _
  .exact O.tr _ _ _ hl (h p (q - 1) h1 (by lia) (by lia))
 .exact h p q h1 h2 (by lia)
def tK(H:Ans prog w A s κ LT T)(hk:kindOf st=κ){x y:Keyed}{Q:Z9 Bool->SortSt->Prop}(hx:x∈T)(hy:y∈T)(h:Q (some (LT x y)) st):wpS (model prog w) A E s (lt' x y) Q st:=by
 rw[lt'_eq];refine ZF (Wv ?_)
 rw[hk];refine ZF (wpS_lift (XX (YU (H x hx y hy (λb s'=>s'=s/\wpS (model prog w) A E s (pure (some b)) Q st) ⟨rfl,Zz h⟩) (λ_ _ h=>h) λ_ _ h=>h.elim)))
def aD{a:Array Keyed}{i:Nat}{Q:Keyed->SortSt->Prop}(hi:i<a.size)(h:Q (K a i) st):wpS (model prog w) A E s (elem' a i) Q st:=by
 rw[elem'_eq,Dl hi];exact Zz h
def fY(H:Ans prog w A s κ LT T)(hk:kindOf st=κ)(hp:(arrOf st).Perm T){i j:Nat}{Q:Z9 Bool->SortSt->Prop}(hi:i<T.size)(hj:j<T.size)(h:Q (some (LT (K (arrOf st) i) (K (arrOf st) j))) st):
  wpS (model prog w) A E s (ltAt' i j) Q st:=by
 have hz:=hp.size_eq;rw[ltAt'_eq];refine ZF (Wv ?_)
 exact ZF (aD (by lia) (ZF (aD (by lia) (tK H hk (hp.mem_iff.mp (yH (by lia))) (hp.mem_iff.mp (yH (by lia))) h))))
structure Chg (T a:Array Keyed)(lo:Nat)(a':Array Keyed):Prop where
 perm:a'.Perm T
 keep:∀k,k<lo->K a' k=K a k
def Chg.rev{a a':Array Keyed}{lo i j:Nat}(h:Chg T a lo a')(hi:lo<=i)(hj:j<=T.size):Chg T a lo (mirror a' i j ((j - i) / 2)):=by
 have hz:=h.perm.size_eq;refine⟨(mirror_perm a' i j _).trans h.perm,λk hk=>?_⟩
 rw[iG (by lia),ZY (by lia)];exact h.keep k hk
def Chg.bub{a a':Array Keyed}{lo src d:Nat}(h:Chg T a lo a')(hs:src<T.size)(hd:lo+d<=src):Chg T a lo (bubble a' src d):=by
 have hz:=h.perm.size_eq;refine⟨(bubble_perm a' src d).trans h.perm,λk hk=>?_⟩
 rw[yQ (by lia) (by lia),ZY (by lia),ZY (by lia)];exact h.keep k hk
def vZ{a:Array Keyed}{i j:Nat}(hj:j<=a.size)(h:Dn LT a i j):Up LT (mirror a i j ((j - i) / 2)) i j:=λp q h1 h2 h3=>by
 rw[iG hj,iG hj,Z0 ⟨by lia,h3⟩,Z0 ⟨h1,by lia⟩]
 exact h _ _ (by lia) (by lia) (by lia)
def pV{a:Array Keyed}{lo i j:Nat}(hj:j<=a.size)(hi:lo<=i)(h:Dn LT a lo j)(e:∀p q,i<=p->i<=q->p<j->q<j->LT (K a p) (K a q)=false):Dn LT (mirror a i j ((j - i) / 2)) lo j:=λp q h1 h2 h3=>by
 rw[iG hj,iG hj]
 by_cases c1:i<=p/\p<j
 .rw[Z0 c1]
  by_cases c2:i<=q/\q<j
  .rw[Z0 c2];exact e _ _ (by lia) (by lia) (by lia) (by lia)
  .lia
 .rw[ZY c1]
  by_cases c2:i<=q/\q<j
  .rw[Z0 c2];exact h _ _ h1 (by lia) (by lia)
  .rw[ZY c2];exact h _ _ h1 h2 h3
def xo(O:OrdK LT)(H:Ans prog w A s κ LT T)(hk:kindOf st=κ){a:Array Keyed}(hc:(arrOf st).Perm T){lo n n_:Nat}(hz:lo+n_<=T.size)(hn:1<=n)(Mw:n<=n_)(hu:Up LT (arrOf st) lo (lo+n))
  {β:Type}{Q:β->SortSt->Prop}{f:Z9 (Z9 Nat)×Nat->StateT SortSt Sem β}(h:∀m,n<=m->m<=n_->Up LT (arrOf st) lo (lo+m)->(m<n_->LT (K (arrOf st) (lo+m)) (K (arrOf st) (lo+m - 1))=true)->wpS (model prog w) A E s (f (none,m)) Q st):
  wpS (model prog w) A E s (forIn [n:n_] ((none,n):Z9 (Z9 Nat)×Nat) (λ_ r=>do
   let x <-ltAt' (lo+r.2) (lo+r.2 - 1)
   match x with
   |some y_=>if y_=true then pure (ForInStep.done (none,r.2)) else pure (ForInStep.yield (none,r.2+1))
   |_=>pure (ForInStep.done (some none,r.2))) >>= f) Q st:=by
 refine ZF (XO (YD (I:=λx c i_=>c=(none,x)/\i_=st/\n<=x/\Up LT (arrOf st) lo (lo+x)) (Q:=λc i_=>∃m,c=(none,m)/\i_=st/\n<=m/\m<=n_/\Up LT (arrOf st) lo (lo+m)/\(m<n_->LT (K (arrOf st) (lo+m)) (K (arrOf st) (lo+m - 1))=true)) ?_ ?_ ⟨rfl,rfl,ZQ _,hu⟩) ?_)
 .intro x c i_ h1 h2 hz;obtain⟨rfl,rfl,h3,h4⟩:=hz
  dsimp only;refine ZF (fY H hk hc (by lia) (by lia) ?_)
  dsimp only;cases hl:LT (K (arrOf i_) (lo+x)) (K (arrOf i_) (lo+x - 1))with
  |true=>exact Zz ⟨x,rfl,rfl,h3,by lia,h4,λ_=>hl⟩
  |false=>exact Zz ⟨rfl,rfl,by lia,h4.snoc O (by lia) hl⟩
 .intro c i_ hz;obtain⟨rfl,rfl,h3,h4⟩:=hz
  have e:max n n_=n_:=by lia
  rw[e]at h4⊢;exact⟨n_,rfl,rfl,Mw,ZQ _,h4,λh=>absurd h (Zd _)⟩
 .intro c i_ hz;obtain⟨m,rfl,rfl,h1,h2,h3,h4⟩:=hz
  exact h m h1 h2 h3 h4
end
end SM
namespace SM
open PySem PyProof.Rows
section
variable{LT:Keyed->Keyed->Bool}{st:SortSt}
def Dx(LT:Keyed->Keyed->Bool)(a:Array Keyed)(i j:Nat):Prop:=∀p q,i<=p->i<=q->p<j->q<j->LT (K a p) (K a q)=false
def qJ(O:OrdK LT)(H:Ans prog w A s κ LT T)(hk:kindOf st=κ){lo n n_:Nat}(hC:Chg T a lo a')(hz:lo+n_<=T.size)(hn:1<=n)(Mw:n<=n_)(hd:Dn LT a' lo (lo+n))(h:∀m JR,1<=m->m<=n_->Chg T a lo JR->Up LT JR lo (lo+m)->Q (some m) (setArr st JR)):
  wpS (model prog w) A E s (do
   let mut n:=n
   reverseSlice' lo (lo+n)
   for _ in [n:n_] do
    let some y_ <-ltAt' (lo+n) (lo+n - 1)|return none
    if y_ then break
    n:=n+1
   return some n) Q (setArr st a'):=by
 have e:=hC.perm.size_eq;dsimp only;rw[reverseSlice'_eq];refine ZF (XY ?_)
 have C':=hC.rev (i:=lo) (j:=lo+n) (ZQ _) (by lia)
 have U:=vZ (LT:=LT) (a:=a') (i:=lo) (j:=lo+n) (by lia) hd
 exact xo (st:=setArr st (mirror a' lo (lo+n) ((lo+n - lo) / 2))) (a:=a) O H hk C'.perm hz hn Mw U λm h1 h2 h3 _=>Zz (h m _ (by lia) h2 C' h3)
def rM(O:OrdK LT)(H:Ans prog w A s κ LT T)(hk:kindOf st=κ){lo n n_:Nat}(hC:Chg T a lo a')(hz:lo+n_<=T.size)(hn:1<=n)(Mw:n<n_)(hd:Dn LT a' lo (lo+n))(hl:LT (K a' (lo+n)) (K a' (lo+n - 1))=true)(h:∀m JR,1<=m->m<=n_->Chg T a lo JR->Up LT JR lo (lo+m)->Q (some m) (setArr st JR)):
  wpS (model prog w) A E s (do
   let mut n:=n
   rule "list.sort.descending-run"
   n:=n+1
   let mut Jz:=0
   for _ in [n:n_] do
    let some y_ <-ltAt' (lo+n) (lo+n - 1)|return none
    if y_ then
     if Jz>0 then reverseSlice' (lo+n - (Jz+1)) (lo+n)
     Jz:=0
    else
     let some Kh <-ltAt' (lo+n - 1) (lo+n)|return none
     if Kh then break
     Jz:=Jz+1
    n:=n+1
   if Jz>0 then reverseSlice' (lo+n - (Jz+1)) (lo+n)
   reverseSlice' lo (lo+n)
   for _ in [n:n_] do
    let some y_ <-ltAt' (lo+n) (lo+n - 1)|return none
    if y_ then break
    n:=n+1
   return some n) Q (setArr st a'):=by
 refine ZF (wpS_lift (YV ⟨rfl,?_⟩))
 have d1:=hd.snoc O (by lia) (O.asym _ _ hl)
 refine ZF (XO (YD (I:=λx c i_=>∃q a1,c=(none,x,q)/\i_=setArr st a1/\Chg T a lo a1/\n+1<=x/\q+1<=x/\Dn LT a1 lo (lo+x)/\Dx LT a1 (lo+x - (q+1)) (lo+x))
  (Q:=λc i_=>∃x q a1,c=(none,x,q)/\i_=setArr st a1/\Chg T a lo a1/\x<=n_/\n+1<=x/\q+1<=x/\Dn LT a1 lo (lo+x)/\Dx LT a1 (lo+x - (q+1)) (lo+x)) ?_ ?_ ⟨0,a',rfl,rfl,hC,ZQ _,by lia,d1,λp q h1 h2 h3 h4=>by rw[show p=q by lia];exact O.irr _⟩) ?_)
 .intro x c i_ h1 h2 hz;obtain⟨q,a1,rfl,rfl,C1,h3,h4,D1,L1⟩:=hz
  have e:=C1.perm.size_eq;dsimp only;refine ZF (fY (st:=setArr st a1) H hk C1.perm (by lia) (by lia) ?_)
  dsimp only;cases hl:LT (K a1 (lo+x)) (K a1 (lo+x - 1))with
  |true=>
   have D2:=D1.snoc O (by lia) (O.asym _ _ hl)
   simp only[Y2]
   by_cases hq:q>0
   .rw[Z0 hq,reverseSlice'_eq]
    refine ZF (XY (Zz ⟨0,_,rfl,rfl,C1.rev (by lia) (by lia),by lia,by lia,?_,λp q h1 h2 h3 h4=>by rw[show p=q by lia];exact O.irr _⟩))
    have D3:=pV (LT:=LT) (a:=a1) (lo:=lo) (i:=lo+x - (q+1)) (j:=lo+x) (by lia) (by lia) D1 L1
    refine D3.snoc O (by lia) ?_
    rw[iG (by lia),iG (by lia),Z0 (by lia),ZY (by lia)]
    exact D2 _ _ (by lia) (by lia) (by lia)
   .rw[ZY hq]
    exact Zz ⟨0,a1,rfl,rfl,C1,by lia,by lia,D2,λp q h1 h2 h3 h4=>by rw[show p=q by lia];exact O.irr _⟩
  |false=>
   simp only[ZJ,Zc];refine ZF (fY (st:=setArr st a1) H hk C1.perm (by lia) (by lia) ?_)
   dsimp only;cases hg:LT (K a1 (lo+x - 1)) (K a1 (lo+x))with
   |true=>exact Zz ⟨x,q,a1,rfl,rfl,C1,by lia,h3,h4,D1,L1⟩
   |false=>
    refine Zz ⟨q+1,a1,rfl,rfl,C1,by lia,by lia,D1.snoc O (by lia) hg,λp p' h1 h2 h5 h6=>?_⟩
    have key:∀p,lo+(x+1) - (q+1+1)<=p->p<lo+(x+1)->LT (K a1 p) (K a1 (lo+x - 1))=false/\LT (K a1 (lo+x - 1)) (K a1 p)=false:=λp h1 h2=>by
     by_cases e:p=lo+x
     .rw[e];exact⟨hl,hg⟩
     .exact⟨L1 _ _ (by lia) (by lia) (by lia) (by lia),L1 _ _ (by lia) (by lia) (by lia) (by lia)⟩
    exact O.tr _ _ _ (key p' h2 h6).2 (key p h1 h5).1
 .intro c i_ hz;obtain⟨q,a1,rfl,rfl,C1,h3,h4,D1,L1⟩:=hz
  rw[show max (n+1) n_=n_ by lia]at*
  exact⟨n_,q,a1,rfl,rfl,C1,ZQ _,h3,h4,D1,L1⟩
 .intro c i_ hz;obtain⟨x,q,a1,rfl,rfl,C1,h1,h3,h4,D1,L1⟩:=hz
  have e:=C1.perm.size_eq;dsimp only
  by_cases hq:q>0
  .rw[Z0 hq]
   refine ZF ?_
   rw[reverseSlice'_eq];refine XY ?_
   exact qJ O H hk (C1.rev (by lia) (by lia)) hz (by lia) h1 (pV (LT:=LT) (a:=a1) (lo:=lo) (i:=lo+x - (q+1)) (j:=lo+x) (by lia) (by lia) D1 L1) h
  .rw[ZY hq]
   exact qJ O H hk C1 hz (by lia) h1 D1 h
def lQ(O:OrdK LT)(H:Ans prog w A s κ LT T)(hk:kindOf st=κ){lo n_:Nat}(hp:(arrOf st).Perm T)(hz:lo+n_<=T.size)(hn:1<=n_)(h:∀m a',1<=m->m<=n_->Chg T (arrOf st) lo a'->Up LT a' lo (lo+m)->Q (some m) (setArr st a')):wpS (model prog w) A E s (countRun' lo n_) Q st:=by
 have e:=hp.size_eq;have C0:Chg T (arrOf st) lo (arrOf st):=⟨hp,λ_ _=>rfl⟩
 rw[countRun'_eq];refine xo (a:=arrOf st) O H hk hp hz (ZQ 1) hn (Up.one O) λm h1 h2 h3 h4=>?_
 dsimp only
 by_cases hm:m=n_
 .rw[Z0 (Zx.mpr hm)]
  exact Zz (h m (arrOf st) h1 h2 C0 h3)
 .rw[ZY (λq=>hm (Zx.mp q))]
  have hl:=h4 (by lia)
  by_cases h5:m>1
  .rw[Z0 h5]
   refine ZF (fY H hk hp (by lia) (by lia) ?_)
   dsimp only;cases hr:LT (K (arrOf st) lo) (K (arrOf st) (lo+m - 1))with
   |true=>
    simp only[Y2];exact Zz (h m (arrOf st) h1 h2 C0 h3)
   |false=>
    simp only[ZJ,Zc];rw[reverseSlice'_eq];refine ZF (XY ?_)
    have al:Dx LT (arrOf st) lo (lo+m):=λp q h1 h2 h5 h6=>O.tr _ _ _ (h3 q (lo+m - 1) h2 (by lia) (by lia)) (O.tr _ _ _ hr (h3 lo p (ZQ _) h1 (by lia)))
    have D1:Dn LT (arrOf st) lo (lo+m):=λp q h1 h2 h5=>al p q h1 (by lia) (by lia) h5
    refine rM O H hk (C0.rev (ZQ _) (by lia)) hz h1 (by lia) (pV (LT:=LT) (a:=arrOf st) (lo:=lo) (i:=lo) (j:=lo+m) (by lia) (ZQ _) D1 al) ?_ h
    rw[iG (by lia),iG (by lia),ZY (by lia),Z0 (by lia)]
    cases hc:LT (K (arrOf st) (lo+m)) (K (arrOf st) (lo+(lo+m) - 1 - (lo+m - 1)))with
    |true=>rfl
    |false=>exact absurd (O.tr _ _ _ (al (lo+(lo+m) - 1 - (lo+m - 1)) (lo+m - 1) (by lia) (by lia) (by lia) (by lia)) hc) (by rw[hl];exact λq=>nomatch q)
  .rw[ZY h5]
   have Nq:m=1:=by lia
   exact rM O H hk C0 hz h1 (by lia) (by subst Nq;exact Dn.one O) hl h
end
end SM
namespace SM
open PySem PyProof.Rows
section
variable{LT:Keyed->Keyed->Bool}{st:SortSt}
def Bq(O:OrdK LT){lo k l:Nat}(hs:lo+k<a.size)(hl:l<=k)(hu:Up LT a lo (lo+k))(h1:∀p,p<l->LT (K a (lo+k)) (K a (lo+p))=false)(h2:∀p,l<=p->p<k->LT (K a (lo+k)) (K a (lo+p))=true):
  Up LT (bubble a (lo+k) (lo+k - (lo+l))) lo (lo+(k+1)):=λp q g1 g2 g3=>by
 have Hu:∀p,lo+l<=p->p<lo+k->LT (K a p) (K a (lo+k))=false:=λp a1 a2=>by
  have:=h2 (p - lo) (by lia) (by lia)
  rw[show lo+(p - lo)=p by lia]at this
  exact O.asym _ _ this
 have HR:∀p,lo<=p->p<lo+l->LT (K a (lo+k)) (K a p)=false:=λp a1 a2=>by
  have:=h1 (p - lo) (by lia)
  rwa[show lo+(p - lo)=p by lia]at this
 have e:lo+k - (lo+k - (lo+l))=lo+l:=by lia
 rw[yQ hs (by lia),yQ hs (by lia),e]
 repeat' split
 all_goals first
  |exact O.irr _
  |(exfalso;lia)
  |exact Hu _ (by lia) (by lia)
  |exact HR _ (by lia) (by lia)
  |exact hu _ _ (by lia) (by lia) (by lia)
def i6(O:OrdK LT)(H:Ans prog w A s κ LT T)(hk:kindOf st=κ){lo n ok:Nat}(hp:(arrOf st).Perm T)(hz:lo+n<=T.size)(hok:ok<=n)(hn:1<=n)(hu:Up LT (arrOf st) lo (lo+ok))(h:∀a',Chg T (arrOf st) lo a'->Up LT a' lo (lo+n)->Q true (setArr st a')):wpS (model prog w) A E s (binarySort' lo n ok) Q st:=by
 have e:=hp.size_eq;have C0:Chg T (arrOf st) lo (arrOf st):=⟨hp,λ_ _=>rfl⟩
 have HQ:Up LT (arrOf st) lo (lo+max ok 1):=by
  by_cases c:ok=0
  .subst c;exact Up.one O
  .rw[show max ok 1=ok by lia];exact hu
 rw[binarySort'_eq];refine ZF (XO (YD (I:=λx c i_=>c=(none,())/\∃a1,i_=setArr st a1/\Chg T (arrOf st) lo a1/\Up LT a1 lo (lo+x))
  (Q:=λc i_=>c=(none,())/\∃a1,i_=setArr st a1/\Chg T (arrOf st) lo a1/\Up LT a1 lo (lo+n)) ?_ ?_ ⟨rfl,arrOf st,rfl,C0,HQ⟩) ?_)
 .intro k c i_ h1 h2 hz;obtain⟨rfl,a1,rfl,C1,U1⟩:=hz
  have e1:=C1.perm.size_eq;dsimp only;refine ZF (XO (YD (I:=λx c i_=>∃l r,c=(none,l,r)/\i_=setArr st a1/\l<=r/\r<=k/\r - l+x<=k/\(∀p,p<l->LT (K a1 (lo+k)) (K a1 (lo+p))=false)/\∀p,r<=p->p<k->LT (K a1 (lo+k)) (K a1 (lo+p))=true)
   (Q:=λc i_=>∃l r,c=(none,l,r)/\i_=setArr st a1/\l<=k/\(∀p,p<l->LT (K a1 (lo+k)) (K a1 (lo+p))=false)/\∀p,l<=p->p<k->LT (K a1 (lo+k)) (K a1 (lo+p))=true) ?_ ?_ ⟨0,k,rfl,rfl,Zs _,ZQ _,by lia,λp hp=>absurd hp (Nat.not_lt_zero _),λp q1 q2=>absurd q2 (by lia)⟩) ?_)
  .intro x c i_ g1 g2 hz;obtain⟨l,r,rfl,rfl,g3,g4,g5,g6,g7⟩:=hz
   dsimp only
   by_cases Le:l>=r
   .rw[Z0 Le]
    have:l=r:=by lia
    exact Zz ⟨l,r,rfl,rfl,by lia,g6,by rw[this];exact g7⟩
   .rw[ZY Le]
    refine ZF (fY (st:=setArr st a1) H hk C1.perm (by lia) (by lia) ?_)
    dsimp only;cases hl:LT (K a1 (lo+k)) (K a1 (lo+(l+r) / 2))with
    |true=>
     refine Zz ⟨l,(l+r) / 2,rfl,rfl,by lia,by lia,by lia,g6,λp q1 q2=>?_⟩
     cases hc:LT (K a1 (lo+k)) (K a1 (lo+p))with
     |true=>rfl
     |false=>exact absurd (O.tr _ _ _ (U1 (lo+(l+r) / 2) (lo+p) (by lia) (by lia) (by lia)) hc) (by rw[hl];exact λq=>nomatch q)
    |false=>
     refine Zz ⟨(l+r) / 2+1,r,rfl,rfl,by lia,g4,by lia,λp q1=>?_,g7⟩
     exact O.tr _ _ _ (U1 (lo+p) (lo+(l+r) / 2) (by lia) (by lia) (by lia)) hl
  .intro c i_ hz;obtain⟨l,r,rfl,rfl,g3,g4,g5,g6,g7⟩:=hz
   have:l=r:=by lia
   exact⟨l,r,rfl,rfl,by lia,g6,by rw[this];exact g7⟩
  .intro c i_ hz;obtain⟨l,r,rfl,rfl,g1,g2,g3⟩:=hz
   dsimp only;rw[moveDown'_eq];exact ZF (XY (Zz ⟨rfl,_,rfl,C1.bub (by lia) (by lia),Bq O (show lo+k<a1.size by lia) g1 U1 g2 g3⟩))
 .intro c i_ hz;obtain⟨rfl,a1,rfl,C1,U1⟩:=hz
  rw[show max (max ok 1) n=n by lia]at U1
  exact⟨rfl,a1,rfl,C1,U1⟩
 .intro c i_ hz;obtain⟨rfl,a1,rfl,C1,U1⟩:=hz
  exact Zz (h a1 C1 U1)
def bp:Bool->Keyed->Array Keyed->Nat->Nat->Nat->StateT SortSt Sem (Z9 Nat):=sortPriv%PySem.Builtin.gallop
noncomputable def bey(left:Bool)(key:Keyed)(arr:Array Keyed)(base i:Nat):StateT SortSt Sem (Z9 Bool):=do
 let x <-elem' arr (base+i)
 if left then lt' x key else return (<-lt' key x).map (!·)
theorem oR(left:Bool)(key:Keyed)(arr:Array Keyed)(base n hint:Nat):bp left key arr base n hint=(do
 let mut F8:=0
 let mut HG:=1
 let mut lo:=0
 let mut hi:=0
 let some right <-bey left key arr base hint|return none
 if right then
  let Gf:=n - hint
  for _ in [0:n] do
   if HG>=Gf then break
   let some more <-bey left key arr base (hint+HG)|return none
   if !more then break
   F8:=HG
   HG:=2*HG+1
  lo:=hint+F8+1
  hi:=hint+min HG Gf
 else
  let Gf:=hint+1
  for _ in [0:n] do
   if HG>=Gf then break
   let some found <-bey left key arr base (hint - HG)|return none
   if found then break
   F8:=HG
   HG:=2*HG+1
  lo:=hint+1 - min HG Gf
  hi:=hint - F8
 for _ in [0:n] do
  if lo>=hi then break
  let m:=lo+(hi - lo) / 2
  let some more <-bey left key arr base m|return none
  if more then lo:=m+1 else hi:=m
 return some hi):=rfl
noncomputable def fB(LT:Keyed->Keyed->Bool)(left:Bool)(key:Keyed)(arr:Array Keyed)(base i:Nat):Bool:=if left then LT (K arr (base+i)) key else !LT key (K arr (base+i))
def nB(H:Ans prog w A s κ LT T)(hk:kindOf st=κ)(u_:key∈T)(hi:base+i<arr.size)(hx:K arr (base+i)∈T)(h:Q (some (fB LT left key arr base i)) st):wpS (model prog w) A E s (bey left key arr base i) Q st:=by
 unfold bey;refine ZF (aD hi ?_)
 unfold fB at h;cases left with
 |true=>exact tK H hk hx u_ h
 |false=>
  simp only[ZJ,Zc]at h⊢;exact ZF (tK H hk u_ hx (Zz h))
def i9(O:OrdK LT)(hu:Up LT arr base (base+n))(IC:i<=j)(hj:j<n)(h:fB LT left key arr base j=true):fB LT left key arr base i=true:=by
 have u:=hu (base+i) (base+j) (by lia) (by lia) (by lia)
 unfold fB at h⊢;cases left with
 |true=>
  simp only[Y2]at h⊢;cases hc:LT (K arr (base+i)) key with
  |true=>rfl
  |false=>exact absurd (O.tr _ _ _ hc u) (by rw[h];exact λq=>nomatch q)
 |false=>
  simp only[ZJ,Zc,Yu]at h⊢;exact O.tr _ _ _ u h
def wo(O:OrdK LT)(H:Ans prog w A s κ LT T)(hk:kindOf st=κ)(u_:key∈T)(hb:base+n<=arr.size)(hx:∀i,i<n->K arr (base+i)∈T)(hu:Up LT arr base (base+n)){lo hi:Nat}(h1:lo<=hi)(h2:hi<=n)(h3:∀i,i<lo->fB LT left key arr base i=true)(h4:hi<n->fB LT left key arr base hi=false)(h:∀k,k<=n->(∀i,i<k->fB LT left key arr base i=true)->(∀i,k<=i->i<n->fB LT left key arr base i=false)->Q (some k) st):
  wpS (model prog w) A E s (do
   let mut lo:=lo
   let mut hi:=hi
   for _ in [0:n] do
    if lo>=hi then break
    let m:=lo+(hi - lo) / 2
    let some more <-bey left key arr base m|return none
    if more then lo:=m+1 else hi:=m
   return some hi) Q st:=by
 have fin:∀k,k<=n->(∀i,i<k->fB LT left key arr base i=true)->(k<n->fB LT left key arr base k=false)->Q (some k) st:=λk a1 a2 a3=>h k a1 a2 λi b1 b2=>by
  cases hc:fB LT left key arr base i with
  |false=>rfl
  |true=>exact absurd (i9 O hu b1 b2 hc) (by rw[a3 (by lia)];exact λq=>nomatch q)
 refine ZF (XO (YD (I:=λx c i_=>∃lo hi,c=(none,lo,hi)/\i_=st/\lo<=hi/\hi<=n/\hi - lo+x<=n/\(∀i,i<lo->fB LT left key arr base i=true)/\(hi<n->fB LT left key arr base hi=false))
  (Q:=λc i_=>∃hi,c=(none,hi,hi)/\i_=st/\hi<=n/\(∀i,i<hi->fB LT left key arr base i=true)/\(hi<n->fB LT left key arr base hi=false)) ?_ ?_ ⟨lo,hi,rfl,rfl,h1,h2,by lia,h3,h4⟩) ?_)
 .intro x c i_ g1 g2 hz;obtain⟨lo,hi,rfl,rfl,g3,g4,g5,g6,g7⟩:=hz
  dsimp only
  by_cases Le:lo>=hi
  .rw[Z0 Le]
   obtain rfl:lo=hi:=by lia
   exact Zz ⟨lo,rfl,rfl,g4,g6,g7⟩
  .rw[ZY Le]
   refine ZF (nB H hk u_ (by lia) (hx _ (by lia)) ?_)
   dsimp only;cases hl:fB LT left key arr base (lo+(hi - lo) / 2)with
   |true=>exact Zz ⟨lo+(hi - lo) / 2+1,hi,rfl,rfl,by lia,g4,by lia,λi s_=>i9 O hu (show i<=lo+(hi - lo) / 2 by lia) (by lia) hl,g7⟩
   |false=>exact Zz ⟨lo,lo+(hi - lo) / 2,rfl,rfl,by lia,by lia,by lia,g6,λ_=>hl⟩
 .intro c i_ hz;obtain⟨lo,hi,rfl,rfl,g3,g4,g5,g6,g7⟩:=hz
  obtain rfl:lo=hi:=by lia
  exact⟨lo,rfl,rfl,g4,g6,g7⟩
 .intro c i_ hz;obtain⟨hi,rfl,rfl,g4,g6,g7⟩:=hz
  exact Zz (fin hi g4 g6 g7)
def bO(O:OrdK LT)(H:Ans prog w A s κ LT T)(hk:kindOf st=κ)(u_:key∈T)(hb:base+n<=arr.size)(hh:hint<n)(hx:∀i,i<n->K arr (base+i)∈T)(hu:Up LT arr base (base+n))(h:∀k,k<=n->(∀i,i<k->fB LT left key arr base i=true)->(∀i,k<=i->i<n->fB LT left key arr base i=false)->Q (some k) st):wpS (model prog w) A E s (bp left key arr base n hint) Q st:=by
 rw[oR];dsimp only;refine ZF (nB H hk u_ (by lia) (hx _ hh) ?_)
 dsimp only;cases hr:fB LT left key arr base hint with
 |true=>
  simp only[Y2];refine ZF (XO (YD (I:=λx c i_=>∃la of,c=(none,la,of)/\i_=st/\x+1<=of/\la+1<=of/\la<n - hint/\fB LT left key arr base (hint+la)=true)
   (Q:=λc i_=>∃la of,c=(none,la,of)/\i_=st/\la+1<=of/\la<n - hint/\fB LT left key arr base (hint+la)=true/\(of<n - hint->fB LT left key arr base (hint+of)=false)) ?_ ?_ ⟨0,1,rfl,rfl,by lia,by lia,by lia,hr⟩) ?_)
  .intro x c i_ g1 g2 hz;obtain⟨la,of,rfl,rfl,g3,g4,g5,g6⟩:=hz
   dsimp only
   by_cases ho:of>=n - hint
   .rw[Z0 ho]
    exact Zz ⟨la,of,rfl,rfl,g4,g5,g6,λq=>absurd q (by lia)⟩
   .rw[ZY ho]
    refine ZF (nB H hk u_ (by lia) (hx _ (by lia)) ?_)
    dsimp only;cases hm:fB LT left key arr base (hint+of)with
    |false=>exact Zz ⟨la,of,rfl,rfl,g4,g5,g6,λ_=>hm⟩
    |true=>exact Zz ⟨of,2*of+1,rfl,rfl,by lia,by lia,by lia,hm⟩
  .intro c i_ hz;obtain⟨la,of,rfl,rfl,g3,g4,g5,g6⟩:=hz
   exact⟨la,of,rfl,rfl,g4,g5,g6,λq=>absurd q (by lia)⟩
  .intro c i_ hz;obtain⟨la,of,rfl,rfl,g4,g5,g6,g7⟩:=hz
   dsimp only;refine wo O H hk u_ hb hx hu (by lia) (by lia) (λi hi=>i9 O hu (show i<=hint+la by lia) (by lia) g6) (λk_=>?_) h
   by_cases c:of<n - hint
   .rw[show min of (n - hint)=of by lia];exact g7 c
   .lia
 |false=>
  simp only[ZJ,Zc];refine ZF (XO (YD (I:=λx c i_=>∃la of,c=(none,la,of)/\i_=st/\x+1<=of/\la+1<=of/\la<=hint/\fB LT left key arr base (hint - la)=false)
   (Q:=λc i_=>∃la of,c=(none,la,of)/\i_=st/\la+1<=of/\la<=hint/\fB LT left key arr base (hint - la)=false/\(of<hint+1->fB LT left key arr base (hint - of)=true)) ?_ ?_ ⟨0,1,rfl,rfl,by lia,by lia,by lia,hr⟩) ?_)
  .intro x c i_ g1 g2 hz;obtain⟨la,of,rfl,rfl,g3,g4,g5,g6⟩:=hz
   dsimp only
   by_cases ho:of>=hint+1
   .rw[Z0 ho]
    exact Zz ⟨la,of,rfl,rfl,g4,g5,g6,λq=>absurd q (by lia)⟩
   .rw[ZY ho]
    refine ZF (nB H hk u_ (by lia) (hx _ (by lia)) ?_)
    dsimp only;cases hm:fB LT left key arr base (hint - of)with
    |true=>exact Zz ⟨la,of,rfl,rfl,g4,g5,g6,λ_=>hm⟩
    |false=>exact Zz ⟨of,2*of+1,rfl,rfl,by lia,by lia,by lia,hm⟩
  .intro c i_ hz;obtain⟨la,of,rfl,rfl,g3,g4,g5,g6⟩:=hz
   exact⟨la,of,rfl,rfl,g4,g5,g6,λq=>absurd q (by lia)⟩
  .intro c i_ hz;obtain⟨la,of,rfl,rfl,g4,g5,g6,g7⟩:=hz
   dsimp only;refine wo O H hk u_ hb hx hu (by lia) (by lia) (λi hi=>?_) (λ_=>g6) h
   by_cases c:of<hint+1
   .exact i9 O hu (show i<=hint - of by lia) (by lia) (g7 c)
   .lia
end
end SM
namespace SM
open PySem PyProof.Rows
def aL:Nat->StateT SortSt Sem Unit:=sortPriv%PySem.Builtin.setMinGallop
abbrev aA(st:SortSt)(g:Nat):SortSt:=SortSt.mk' (kindOf st) (arrOf st) (pendingOf st) g (failedOf st)
theorem aW(g:Nat):aL g=modify λs=>aA s g:=rfl
def iP:Array Keyed->Array Keyed->StateT SortSt Sem (Array Keyed):=sortPriv%PySem.Builtin.mergeLo
def iI:Array Keyed->Array Keyed->StateT SortSt Sem (Array Keyed):=sortPriv%PySem.Builtin.mergeHi
theorem kL(a b:Array Keyed):iP a b=(do
 rule "list.sort.merge-lo"
 let total:=a.size+b.size
 let done (out:Array Keyed) (ia ib:Nat):=out++a.extract ia a.size++b.extract ib b.size
 let F9 (out:Array Keyed) (ia ib:Nat):=out++b.extract ib b.size++a.extract ia a.size
 let mut out:Array Keyed:=#[<-elem' b 0]
 let mut ia:=0
 let mut ib:=1
 if ib==b.size then return done out ia ib
 if ia+1==a.size then return F9 out ia ib
 let mut minGallop:=gallopOf (<-get)
 for _ in [0:total] do
  let mut r_:=0
  let mut q_:=0
  for _ in [0:total] do
   let some L5 <-lt' (<-elem' b ib) (<-elem' a ia)|return done out ia ib
   if L5 then
    out:=out.push (<-elem' b ib);ib:=ib+1;q_:=q_+1;r_:=0
    if ib==b.size then return done out ia ib
    if q_>=minGallop then break
   else
    out:=out.push (<-elem' a ia);ia:=ia+1;r_:=r_+1;q_:=0
    if ia+1==a.size then return F9 out ia ib
    if r_>=minGallop then break
  rule "list.sort.gallop"
  minGallop:=minGallop+1
  for _ in [0:total] do
   if minGallop>1 then minGallop:=minGallop - 1
   aL minGallop
   let some k <-bp false (<-elem' b ib) a ia (a.size - ia) 0|return done out ia ib
   r_:=k
   if k>0 then
    out:=out++a.extract ia (ia+k);ia:=ia+k
    if ia+1==a.size then return F9 out ia ib
    if ia==a.size then return done out ia ib
   out:=out.push (<-elem' b ib);ib:=ib+1
   if ib==b.size then return done out ia ib
   let some k <-bp true (<-elem' a ia) b ib (b.size - ib) 0|return done out ia ib
   q_:=k
   if k>0 then
    out:=out++b.extract ib (ib+k);ib:=ib+k
    if ib==b.size then return done out ia ib
   out:=out.push (<-elem' a ia);ia:=ia+1
   if ia+1==a.size then return F9 out ia ib
   if r_<7&&q_<7 then break
  minGallop:=minGallop+1
  aL minGallop
 unsupported "internal:list.sort.merge-bound"):=rfl
def lS(a b:Array Keyed):iI a b=(do
 rule "list.sort.merge-hi"
 let total:=a.size+b.size
 let done (out:Array Keyed) (na nb:Nat):=a.extract 0 na++b.extract 0 nb++out.reverse
 let F0 (out:Array Keyed) (na nb:Nat):=b.extract 0 nb++a.extract 0 na++out.reverse
 let mut na:=a.size - 1
 let mut nb:=b.size
 let mut out:Array Keyed:=#[<-elem' a na]
 if na==0 then return done out na nb
 if nb==1 then return F0 out na nb
 let mut minGallop:=gallopOf (<-get)
 for _ in [0:total] do
  let mut r_:=0
  let mut q_:=0
  for _ in [0:total] do
   let some L6 <-lt' (<-elem' b (nb - 1)) (<-elem' a (na - 1))|return done out na nb
   if L6 then
    na:=na - 1;out:=out.push (<-elem' a na);r_:=r_+1;q_:=0
    if na==0 then return done out na nb
    if r_>=minGallop then break
   else
    nb:=nb - 1;out:=out.push (<-elem' b nb);q_:=q_+1;r_:=0
    if nb==1 then return F0 out na nb
    if q_>=minGallop then break
  rule "list.sort.gallop"
  minGallop:=minGallop+1
  for _ in [0:total] do
   if minGallop>1 then minGallop:=minGallop - 1
   aL minGallop
   let some at_ <-bp false (<-elem' b (nb - 1)) a 0 na (na - 1)|return done out na nb
   let k:=na - at_
   r_:=k
   if k>0 then
    out:=out++(a.extract at_ na).reverse;na:=at_
    if na==0 then return done out na nb
   nb:=nb - 1;out:=out.push (<-elem' b nb)
   if nb==1 then return F0 out na nb
   let some at_ <-bp true (<-elem' a (na - 1)) b 0 nb (nb - 1)|return done out na nb
   let k:=nb - at_
   q_:=k
   if k>0 then
    out:=out++(b.extract at_ nb).reverse;nb:=at_
    if nb==1 then return F0 out na nb
    if nb==0 then return done out na nb
   na:=na - 1;out:=out.push (<-elem' a na)
   if na==0 then return done out na nb
   if r_<7&&q_<7 then break
  minGallop:=minGallop+1
  aL minGallop
 unsupported "internal:list.sort.merge-bound"):=rfl
section
variable{LT:Keyed->Keyed->Bool}
def eI(a:Array Keyed)(i:Nat):K a i=(a.toList[i]?).getD nK:=by unfold K;rw[Xn]
def eV{a:Array Keyed}{i:Nat}(h:i<a.size):a.toList.drop i=[K a i]++a.toList.drop (i+1):=by
 rw[Zo (by simpa using h),eI];simp[h]
def bN(a:Array Keyed)(i k:Nat):a.toList.drop i=(a.extract i (i+k)).toList++a.toList.drop (i+k):=by
 rw[XG,List.extract_eq_take_drop,show i+k - i=k by lia,<-List.drop_drop,XN]
def dU(a:Array Keyed)(i:Nat):(a.extract i a.size).toList=a.toList.drop i:=by
 rw[XG,List.extract_eq_take_drop];exact YE (by simp)
def cO{a:Array Keyed}{i:Nat}(h:a.size<=i):a.toList.drop i=[]:=List.drop_of_length_le (by simpa using h)
def cC{a:Array Keyed}(h:x∈a.toList.drop i):∃j,i<=j/\j<a.size/\x=K a j:=by
 obtain⟨k,hk,e⟩:=List.mem_drop_iff_getElem.mp h;simp at hk;exact⟨i+k,by lia,by lia,by rw[eI];simp[show i+k<a.size by lia,<-e]⟩
def cz{a:Array Keyed}(h:x∈a.toList.take i):∃j,j<i/\j<a.size/\x=K a j:=by
 obtain⟨k,hk,e⟩:=List.mem_take_iff_getElem.mp h;simp at hk;exact⟨k,by lia,by lia,by rw[eI];simp[show k<a.size by lia,<-e]⟩
def aV{a:Array Keyed}(h:x∈(a.extract i j).toList):∃k,i<=k/\k<j/\k<a.size/\x=K a k:=by
 rw[XG,List.extract_eq_take_drop]at h;obtain⟨k,hk,e⟩:=List.mem_take_iff_getElem.mp h;simp at hk;exact⟨i+k,by lia,by lia,by lia,by rw[eI];simp[show i+k<a.size by lia,<-e]⟩
def eW{a:Array Keyed}{i:Nat}(h:i<a.size):(a.toList.take (i+1)).reverse=[K a i]++(a.toList.take i).reverse:=by
 rw[List.take_succ_eq_append_getElem (by simpa using h),X5,eI];simp[h]
def km(a:Array Keyed){i k:Nat}(h:i<=k):(a.toList.take k).reverse=(a.extract i k).reverse.toList++(a.toList.take i).reverse:=by
 rw[X9,<-X5,XG,List.extract_eq_take_drop];congr 1;rw[<-XN i (a.toList.take k),List.take_take,Nat.min_eq_left h,List.drop_take]
def cG(a:Array Keyed)(i:Nat):(a.extract 0 i).toList=a.toList.take i:=by
 rw[XG,List.extract_eq_take_drop];simp
def R(LT:Keyed->Keyed->Bool)(x y:Keyed):Prop:=LT y x=false
structure J (LT:Keyed->Keyed->Bool)(T out ra rb:List Keyed):Prop where
 pm:(out++ra++rb).Perm T
 sa:(out++ra).Pairwise (R LT)
 sb:(out++rb).Pairwise (R LT)
structure Good (LT:Keyed->Keyed->Bool)(T l:List Keyed):Prop where
 pm:l.Perm T
 so:l.Pairwise (R LT)
def J.swap(h:J LT T out ra rb):J LT T out rb ra:=⟨by
 have:=h.pm;rw[Zh]at this⊢;exact((List.Perm.append_left out List.perm_append_comm).trans this),h.sb,h.sa⟩
def J.push(h:J LT T out (c++ra) rb)(q:∀x∈c,∀y∈rb,LT y x=false):J LT T (out++c) ra rb:=by
 obtain⟨h1,h2,h3⟩:=h;refine⟨by rw[<-Zh]at h1;exact h1,by rw[<-Zh]at h2;exact h2,?_⟩
 rw[<-Zh]at h2;rw[Yx]at h3⊢;refine⟨(Yx.mp h2).1,h3.2.1,λx hx y hy=>?_⟩
 rcases Zv.mp hx with hx|hx
 .exact h3.2.2 x hx y hy
 .exact q x hx y hy
def J.done(h:J LT T out ra []):Good LT T (out++ra):=⟨by simpa using h.pm,h.sa⟩
def J.last(h:J LT T out [z] rb)(q:∀y∈rb,LT z y=false):Good LT T (out++rb++[z]):=by
 refine⟨h.swap.pm,?_⟩
 .rw[Yx]
  refine⟨h.sb,List.pairwise_singleton _ _,λx hx y hy=>?_⟩
  rw[ZE]at hy;subst hy
  rcases Zv.mp hx with hx|hx
  .exact(Yx.mp h.sa).2.2 x hx y (.head _)
  .exact q x hx
end
end SM
namespace SM
open PySem PyProof.Rows
abbrev LS:=Z9 (Array Keyed)×Array Keyed×Nat×Nat×Nat×Nat×Nat
abbrev dn'(a b out:Array Keyed)(ia ib:Nat):Array Keyed:=out++a.extract ia a.size++b.extract ib b.size
abbrev la'(a b out:Array Keyed)(ia ib:Nat):Array Keyed:=out++b.extract ib b.size++a.extract ia a.size
noncomputable def loC(a b out:Array Keyed)(ia ib mg ac bc:Nat):StateT SortSt Sem (ForInStep LS):=do
 let x <-elem' a ia
 if ia+1+1==a.size then pure (.done (some (la' a b (out.push x) (ia+1) ib),out.push x,ia+1,ib,mg,ac,bc))
 else if ac<7&&bc<7 then pure (.done (none,out.push x,ia+1,ib,mg,ac,bc)) else pure (.yield (none,out.push x,ia+1,ib,mg,ac,bc))
noncomputable def loB(a b out:Array Keyed)(ia ib mg ac bc:Nat):StateT SortSt Sem (ForInStep LS):=do
 let x <-elem' b ib
 if ib+1==b.size then pure (.done (some (dn' a b (out.push x) ia (ib+1)),out.push x,ia,ib+1,mg,ac,bc))
 else do
  let y <-elem' a ia
  match <-bp true y b (ib+1) (b.size - (ib+1)) 0 with
  |some k=>
   if k>0 then
    if ib+1+k==b.size then pure (.done (some (dn' a b (out.push x++b.extract (ib+1) (ib+1+k)) ia (ib+1+k)),out.push x++b.extract (ib+1) (ib+1+k),ia,ib+1+k,mg,ac,k))
    else loC a b (out.push x++b.extract (ib+1) (ib+1+k)) ia (ib+1+k) mg ac k
   else loC a b (out.push x) ia (ib+1) mg ac k
  |_=>pure (.done (some (dn' a b (out.push x) ia (ib+1)),out.push x,ia,ib+1,mg,ac,bc))
noncomputable def loA(a b out:Array Keyed)(ia ib mg ac bc:Nat):StateT SortSt Sem (ForInStep LS):=do
 aL mg
 let y <-elem' b ib
 match <-bp false y a ia (a.size - ia) 0 with
 |some k=>
  if k>0 then
   if ia+k+1==a.size then pure (.done (some (la' a b (out++a.extract ia (ia+k)) (ia+k) ib),out++a.extract ia (ia+k),ia+k,ib,mg,k,bc))
   else if ia+k==a.size then pure (.done (some (dn' a b (out++a.extract ia (ia+k)) (ia+k) ib),out++a.extract ia (ia+k),ia+k,ib,mg,k,bc))
   else loB a b (out++a.extract ia (ia+k)) (ia+k) ib mg k bc
  else loB a b out ia ib mg k bc
 |_=>pure (.done (some (dn' a b out ia ib),out,ia,ib,mg,ac,bc))
section
variable{LT:Keyed->Keyed->Bool}{T:Array Keyed}{st:SortSt}{a b:Array Keyed}
structure Two (LT:Keyed->Keyed->Bool)(T a b:Array Keyed):Prop where
 ha:∀i,i<a.size->K a i∈T
 hb:∀i,i<b.size->K b i∈T
 ua:Up LT a 0 a.size
 ub:Up LT b 0 b.size
 za:0<a.size
 zb:0<b.size
 h0:∀j,j<a.size->LT (K a j) (K b 0)=false
 hl:∀j,j<b.size->LT (K a (a.size - 1)) (K b j)=false
abbrev JL(LT:Keyed->Keyed->Bool)(a b out:Array Keyed)(ia ib:Nat):Prop:=J LT (a.toList++b.toList) out.toList (a.toList.drop ia) (b.toList.drop ib)
variable{out:Array Keyed}{ia ib:Nat}
def JL.dB(j:JL LT a b out ia ib)(e:ib=b.size):Good LT (a.toList++b.toList) (dn' a b out ia ib).toList:=by
 rw[Zk,Zk,dU,dU];rw[JL,cO (a:=b) (by lia)]at j
 rw[cO (a:=b) (by lia),Y_];exact j.done
def JL.dA(j:JL LT a b out ia ib)(e:ia=a.size):Good LT (a.toList++b.toList) (dn' a b out ia ib).toList:=by
 rw[Zk,Zk,dU,dU];rw[JL,cO (a:=a) (by lia)]at j
 rw[cO (a:=a) (by lia),Y_];exact j.swap.done
def JL.lA(W:Two LT T a b)(j:JL LT a b out ia ib)(e:ia+1=a.size):Good LT (a.toList++b.toList) (la' a b out ia ib).toList:=by
 rw[Zk,Zk,dU,dU];rw[JL,eV (show ia<a.size by lia),cO (a:=a) (show a.size<=ia+1 by lia),Y_]at j
 rw[eV (show ia<a.size by lia),cO (a:=a) (show a.size<=ia+1 by lia),Y_]
 refine j.last λy hy=>?_
 obtain⟨k,_,hk,rfl⟩:=cC hy;rw[show ia=a.size - 1 by lia];exact W.hl k hk
def JL.pB(j:JL LT a b out ia ib)(e:ib<b.size)(q:∀k,ia<=k->k<a.size->LT (K a k) (K b ib)=false):JL LT a b (out.push (K b ib)) ia (ib+1):=by
 rw[JL,YA];rw[JL,eV e]at j;refine(j.swap.push λx hx y hy=>?_).swap
 obtain rfl:=ZE.mp hx;obtain⟨k,h1,h2,rfl⟩:=cC hy;exact q k h1 h2
def JL.pA(j:JL LT a b out ia ib)(e:ia<a.size)(q:∀k,ib<=k->k<b.size->LT (K b k) (K a ia)=false):JL LT a b (out.push (K a ia)) (ia+1) ib:=by
 rw[JL,YA];rw[JL,eV e]at j;refine j.push λx hx y hy=>?_
 obtain rfl:=ZE.mp hx;obtain⟨k,h1,h2,rfl⟩:=cC hy;exact q k h1 h2
def JL.cA(k:Nat)(j:JL LT a b out ia ib)(q:∀i,i<k->ia+i<a.size->∀j,ib<=j->j<b.size->LT (K b j) (K a (ia+i))=false):JL LT a b (out++a.extract ia (ia+k)) (ia+k) ib:=by
 rw[JL,Zk];rw[JL,bN a ia k]at j;refine j.push λx hx y hy=>?_
 obtain⟨i,h1,h2,h3,rfl⟩:=aV hx;obtain⟨k,h4,h5,rfl⟩:=cC hy;have:=q (i - ia) (by lia) (by lia) k h4 h5
 rwa[show ia+(i - ia)=i by lia]at this
def JL.cB(k:Nat)(j:JL LT a b out ia ib)(q:∀i,i<k->ib+i<b.size->∀j,ia<=j->j<a.size->LT (K a j) (K b (ib+i))=false):JL LT a b (out++b.extract ib (ib+k)) ia (ib+k):=by
 rw[JL,Zk];rw[JL,bN b ib k]at j;refine(j.swap.push λx hx y hy=>?_).swap
 obtain⟨i,h1,h2,h3,rfl⟩:=aV hx;obtain⟨k,h4,h5,rfl⟩:=cC hy;have:=q (i - ib) (by lia) (by lia) k h4 h5
 rwa[show ib+(i - ib)=i by lia]at this
def pw_up(u:Up LT c 0 c.size):c.toList.Pairwise (R LT):=List.pairwise_iff_getElem.mpr λi j hi hj IC=>by
 simp at hi hj;have:=u i j (Zs _) (by lia) hj
 unfold R;unfold K at this
 simpa[hi,hj]using this
def Two.j0(W:Two LT T a b):JL LT a b #[K b 0] 0 1:=by
 have j:JL LT a b #[] 0 0:=⟨YW _,pw_up W.ua,pw_up W.ub⟩;exact j.pB W.zb λk _ hk=>W.h0 k hk
structure EndL (LT:Keyed->Keyed->Bool)(a b:Array Keyed)(st:SortSt)(n0:Nat)(P:ForInStep LS->SortSt->Prop):Prop where
 good:∀m r g,Good LT (a.toList++b.toList) m.toList->P (.done (some m,r)) (aA st g)
 next:∀out ia ib mg ac bc g,JL LT a b out ia ib->ia+1<a.size->ib<b.size->n0<ia+ib->P (.done (none,out,ia,ib,mg,ac,bc)) (aA st g)/\P (.yield (none,out,ia,ib,mg,ac,bc)) (aA st g)
variable{mg ac bc:Nat}
def wL(W:Two LT T a b)(Z:EndL LT a b st n0 P)(j:JL LT a b out ia ib)(h1:ia+1<a.size)(h2:ib<b.size)(h3:n0<=ia+ib)(q:∀k,ib<=k->k<b.size->LT (K b k) (K a ia)=false):
  wpS (model prog w) A E s (loC a b out ia ib mg ac bc) P (aA st g):=by
 refine ZF (aD (by lia) ?_)
 have j1:=j.pA (by lia) q
 by_cases e:ia+1+1=a.size
 .rw[Z0 (Zx.mpr e)];exact Zz (Z.good _ _ _ (j1.lA W e))
 .rw[ZY (λq=>e (Zx.mp q))]
  have z:=λac bc=>Z.next _ _ _ mg ac bc g j1 (by lia) h2 (by lia)
  by_cases c:(decide (ac<7)&&decide (bc<7))=true
  .rw[Z0 c];exact Zz (z ac bc).1
  .rw[ZY c];exact Zz (z ac bc).2
def xz(O:OrdK LT)(H:Ans prog w A s κ LT T)(hk:kindOf st=κ)(W:Two LT T a b)(Z:EndL LT a b st n0 P)(j:JL LT a b out ia ib)(h1:ia+1<a.size)(h2:ib<b.size)(h3:n0<=ia+ib)(q:∀k,ia<=k->k<a.size->LT (K a k) (K b ib)=false):
  wpS (model prog w) A E s (loB a b out ia ib mg ac bc) P (aA st g):=by
 refine ZF (aD h2 ?_)
 have j1:=j.pB h2 q
 by_cases e:ib+1=b.size
 .rw[Z0 (Zx.mpr e)];exact Zz (Z.good _ _ _ (j1.dB e))
 rw[ZY (λq=>e (Zx.mp q))]
 refine ZF (aD (by lia) ?_)
 refine ZF (bO (st:=aA st g) O H hk (W.ha _ (by lia)) (by lia) (by lia) (λi hi=>W.hb _ (by lia)) (λp q a1 a2 a3=>W.ub p q (Zs _) a2 (by lia)) λk k1 k2 k3=>?_)
 have q2:∀m,ib+1+k<=m->m<b.size->LT (K b m) (K a ia)=false:=λm m1 m2=>by
  have:=k3 (m - (ib+1)) (by lia) (by lia)
  unfold fB at this
  simpa only[Y2,show ib+1+(m - (ib+1))=m by lia]using this
 dsimp only
 by_cases c:k>0
 .rw[Z0 c]
  have j2:=j1.cB k λi i1 i2 m m1 m2=>O.tr _ _ _ (O.asym _ _ (by simpa only[fB,Y2]using k2 i i1)) (W.ua ia m (Zs _) m1 m2)
  by_cases e2:ib+1+k=b.size
  .rw[Z0 (Zx.mpr e2)];exact Zz (Z.good _ _ _ (j2.dB e2))
  .rw[ZY (λq=>e2 (Zx.mp q))]
   exact wL W Z j2 h1 (by lia) (by lia) q2
 .rw[ZY c]
  exact wL W Z j1 h1 (by lia) (by lia) (by rw[show k=0 by lia]at q2;exact q2)
def Bp(O:OrdK LT)(H:Ans prog w A s κ LT T)(hk:kindOf st=κ)(W:Two LT T a b)(Z:EndL LT a b st n0 P)(j:JL LT a b out ia ib)(h1:ia+1<a.size)(h2:ib<b.size)(h3:n0<=ia+ib):
  wpS (model prog w) A E s (loA a b out ia ib mg ac bc) P (aA st g):=by
 unfold loA;rw[aW];refine ZF (XY ?_)
 refine ZF (aD h2 ?_)
 refine ZF (bO (st:=aA st mg) O H hk (W.hb _ h2) (by lia) (by lia) (λi hi=>W.ha _ (by lia)) (λp q a1 a2 a3=>W.ua p q (Zs _) a2 (by lia)) λk k1 k2 k3=>?_)
 have q2:∀m,ia+k<=m->m<a.size->LT (K a m) (K b ib)=false:=λm m1 m2=>by
  have:=k3 (m - ia) (by lia) (by lia)
  unfold fB at this;simp only[ZJ,Zc,Bool.not_eq_false',show ia+(m - ia)=m by lia]at this
  exact O.asym _ _ this
 dsimp only
 by_cases c:k>0
 .rw[Z0 c]
  have j2:=j.cA k λi i1 i2 m m1 m2=>O.tr _ _ _ (by simpa only[fB,ZJ,Zc,Yu]using k2 i i1) (W.ub ib m (Zs _) m1 m2)
  by_cases e1:ia+k+1=a.size
  .rw[Z0 (Zx.mpr e1)];exact Zz (Z.good _ _ _ (j2.lA W e1))
  .rw[ZY (λq=>e1 (Zx.mp q))]
   by_cases e2:ia+k=a.size
   .rw[Z0 (Zx.mpr e2)];exact Zz (Z.good _ _ _ (j2.dA e2))
   .rw[ZY (λq=>e2 (Zx.mp q))]
    exact xz O H hk W Z j2 (by lia) h2 (by lia) q2
 .rw[ZY c]
  exact xz O H hk W Z j h1 h2 h3 (by rw[show k=0 by lia]at q2;exact q2)
def oS(O:OrdK LT)(H:Ans prog w A s κ LT T)(hk:kindOf st=κ)(W:Two LT T a b)(h:∀m g,Good LT (a.toList++b.toList) m.toList->Q m (aA st g)):wpS (model prog w) A E s (iP a b) Q st:=by
 rw[kL];refine ZF (wpS_lift (YV ⟨rfl,?_⟩))
 dsimp only;refine ZF (aD W.zb ?_)
 by_cases e1:1=b.size
 .rw[Z0 (Zx.mpr e1)];exact Zz (h _ (gallopOf st) (W.j0.dB e1))
 rw[ZY (λq=>e1 (Zx.mp q))]
 by_cases e2:0+1=a.size
 .rw[Z0 (Zx.mpr e2)];exact Zz (h _ (gallopOf st) (W.j0.lA W e2))
 rw[ZY (λq=>e2 (Zx.mp q))]
 have za:=W.za;have zb:=W.zb;refine ZF (Wv ?_)
 refine ZF (XO (YD (I:=λx c i_=>∃out ia ib mg g,c=(none,out,ia,ib,mg)/\i_=aA st g/\JL LT a b out ia ib/\ia+1<a.size/\ib<b.size/\x+1<=ia+ib)
  (Q:=λc i_=>∃m g r,c=(some m,r)/\i_=aA st g/\Good LT (a.toList++b.toList) m.toList) ?_ ?_ ⟨_,_,_,_,gallopOf st,rfl,rfl,W.j0,by lia,by lia,by lia⟩) ?_)
 .intro x c i_ g1 g2 hz;obtain⟨out,ia,ib,mg,g,rfl,rfl,j,i1,i2,i3⟩:=hz
  dsimp only;refine ZF (XO (YD (I:=λy c i_=>∃out ia ib ac bc,c=(none,out,ia,ib,ac,bc)/\i_=aA st g/\JL LT a b out ia ib/\ia+1<a.size/\ib<b.size/\x+1<=ia+ib)
   (Q:=λc i_=>i_=aA st g/\((∃m r,c=(some m,r)/\Good LT (a.toList++b.toList) m.toList)\/∃out ia ib ac bc,c=(none,out,ia,ib,ac,bc)/\JL LT a b out ia ib/\ia+1<a.size/\ib<b.size/\x+1<=ia+ib)) ?_ ?_ ⟨out,ia,ib,0,0,rfl,rfl,j,i1,i2,i3⟩) ?_)
  .intro y c i_ _ _ hz;obtain⟨out,ia,ib,ac,bc,rfl,rfl,j,i1,i2,i3⟩:=hz
   dsimp only;refine ZF (aD i2 (ZF (aD (by lia) (ZF (tK (st:=aA st g) H hk (W.hb _ i2) (W.ha _ (by lia)) ?_)))))
   dsimp only;cases hw:LT (K b ib) (K a ia)with
   |true=>
    simp only[Y2];refine ZF (aD i2 ?_)
    have j1:=j.pB i2 λk k1 k2=>O.tr _ _ _ (O.asym _ _ hw) (W.ua ia k (Zs _) k1 k2)
    by_cases e:ib+1=b.size
    .rw[Z0 (Zx.mpr e)];exact Zz ⟨rfl,.inl ⟨_,_,rfl,j1.dB e⟩⟩
    .rw[ZY (λq=>e (Zx.mp q))]
     by_cases c:bc+1>=mg
     .rw[Z0 c];exact Zz ⟨rfl,.inr ⟨_,_,_,_,_,rfl,j1,i1,by lia,by lia⟩⟩
     .rw[ZY c];exact Zz ⟨_,_,_,_,_,rfl,rfl,j1,i1,by lia,by lia⟩
   |false=>
    simp only[ZJ,Zc];refine ZF (aD (by lia) ?_)
    have j1:=j.pA (by lia) λk k1 k2=>O.tr _ _ _ hw (W.ub ib k (Zs _) k1 k2)
    by_cases e:ia+1+1=a.size
    .rw[Z0 (Zx.mpr e)];exact Zz ⟨rfl,.inl ⟨_,_,rfl,j1.lA W e⟩⟩
    .rw[ZY (λq=>e (Zx.mp q))]
     by_cases c:ac+1>=mg
     .rw[Z0 c];exact Zz ⟨rfl,.inr ⟨_,_,_,_,_,rfl,j1,by lia,i2,by lia⟩⟩
     .rw[ZY c];exact Zz ⟨_,_,_,_,_,rfl,rfl,j1,by lia,i2,by lia⟩
  .intro c i_ hz;obtain⟨out,ia,ib,ac,bc,rfl,rfl,j,i1,i2,i3⟩:=hz
   exact⟨rfl,.inr ⟨_,_,_,_,_,rfl,j,i1,i2,i3⟩⟩
  .intro c i_ hz;obtain⟨rfl,hz⟩:=hz;rcases hz with hz|hz
   .obtain⟨m,r,rfl,hm⟩:=hz;exact Zz ⟨m,g,_,rfl,rfl,hm⟩
   .obtain⟨out,ia,ib,ac,bc,rfl,j,i1,i2,i3⟩:=hz;dsimp only
    refine ZF (wpS_lift (YV ⟨rfl,?_⟩))
    refine ZF (XO (YD (I:=λy c i_=>∃out ia ib mg ac bc g,c=(none,out,ia,ib,mg,ac,bc)/\i_=aA st g/\JL LT a b out ia ib/\ia+1<a.size/\ib<b.size/\x+1<=ia+ib/\(1<=y->x+1<ia+ib))
     (Q:=λc i_=>∃g,i_=aA st g/\((∃m r,c=(some m,r)/\Good LT (a.toList++b.toList) m.toList)\/∃out ia ib mg ac bc,c=(none,out,ia,ib,mg,ac,bc)/\JL LT a b out ia ib/\ia+1<a.size/\ib<b.size/\x+1<ia+ib)) ?_ ?_ ⟨out,ia,ib,_,ac,bc,g,rfl,rfl,j,i1,i2,i3,λq=>absurd q (by lia)⟩) ?_)
    .intro y c i_ _ _ hz;obtain⟨out,ia,ib,mg,ac,bc,g,rfl,rfl,j,i1,i2,i3,_⟩:=hz
     dsimp only
     by_cases c:mg>1
     all_goals
      first|rw[Z0 c]|rw[ZY c]
      refine Bp O H hk W ?_ j i1 i2 i3
      exact⟨λm r g hm=>⟨g,rfl,.inl ⟨m,r,rfl,hm⟩⟩,λout ia ib mg ac bc g j q1 q2 q3=>⟨⟨g,rfl,.inr ⟨_,_,_,_,_,_,rfl,j,q1,q2,q3⟩⟩,⟨_,_,_,_,_,_,g,rfl,rfl,j,q1,q2,by lia,λ_=>q3⟩⟩⟩
    .intro c i_ hz;obtain⟨out,ia,ib,mg,ac,bc,g,rfl,rfl,j,i1,i2,i3,i4⟩:=hz
     exact⟨g,rfl,.inr ⟨_,_,_,_,_,_,rfl,j,i1,i2,i4 (by lia)⟩⟩
    .intro c i_ hz;obtain⟨g,rfl,hz⟩:=hz;rcases hz with hz|hz
     .obtain⟨m,r,rfl,hm⟩:=hz;exact Zz ⟨m,g,_,rfl,rfl,hm⟩
     .obtain⟨out,ia,ib,mg,ac,bc,rfl,j,i1,i2,i3⟩:=hz;dsimp only
      rw[aW];exact ZF (XY (Zz ⟨_,_,_,_,_,rfl,rfl,j,i1,i2,by lia⟩))
 .intro c i_ hz;obtain⟨out,ia,ib,mg,g,rfl,rfl,j,i1,i2,i3⟩:=hz
  exfalso;lia
 .intro c i_ hz;obtain⟨m,g,r,rfl,rfl,hm⟩:=hz
  exact Zz (h m g hm)
end
end SM
namespace SM
open PySem PyProof.Rows
abbrev HS:=Z9 (Array Keyed)×Nat×Nat×Array Keyed×Nat×Nat×Nat
abbrev dh'(a b out:Array Keyed)(na nb:Nat):Array Keyed:=a.extract 0 na++b.extract 0 nb++out.reverse
abbrev fh'(a b out:Array Keyed)(na nb:Nat):Array Keyed:=b.extract 0 nb++a.extract 0 na++out.reverse
noncomputable def hiC(a b out:Array Keyed)(na nb mg ac bc:Nat):StateT SortSt Sem (ForInStep HS):=do
 let x <-elem' a (na - 1)
 if na - 1==0 then pure (.done (some (dh' a b (out.push x) (na - 1) nb),na - 1,nb,out.push x,mg,ac,bc))
 else if ac<7&&bc<7 then pure (.done (none,na - 1,nb,out.push x,mg,ac,bc)) else pure (.yield (none,na - 1,nb,out.push x,mg,ac,bc))
noncomputable def hiB(a b out:Array Keyed)(na nb mg ac bc:Nat):StateT SortSt Sem (ForInStep HS):=do
 let x <-elem' b (nb - 1)
 if nb - 1==1 then pure (.done (some (fh' a b (out.push x) na (nb - 1)),na,nb - 1,out.push x,mg,ac,bc))
 else do
  let y <-elem' a (na - 1)
  match <-bp true y b 0 (nb - 1) (nb - 1 - 1)with
  |some t=>
   if nb - 1 - t>0 then
    if t==1 then pure (.done (some (fh' a b (out.push x++(b.extract t (nb - 1)).reverse) na t),na,t,out.push x++(b.extract t (nb - 1)).reverse,mg,ac,nb - 1 - t))
    else if t==0 then pure (.done (some (dh' a b (out.push x++(b.extract t (nb - 1)).reverse) na t),na,t,out.push x++(b.extract t (nb - 1)).reverse,mg,ac,nb - 1 - t))
    else hiC a b (out.push x++(b.extract t (nb - 1)).reverse) na t mg ac (nb - 1 - t)
   else hiC a b (out.push x) na (nb - 1) mg ac (nb - 1 - t)
  |_=>pure (.done (some (dh' a b (out.push x) na (nb - 1)),na,nb - 1,out.push x,mg,ac,bc))
noncomputable def hiA(a b out:Array Keyed)(na nb mg ac bc:Nat):StateT SortSt Sem (ForInStep HS):=do
 aL mg
 let y <-elem' b (nb - 1)
 match <-bp false y a 0 na (na - 1)with
 |some t=>
  if na - t>0 then
   if t==0 then pure (.done (some (dh' a b (out++(a.extract t na).reverse) t nb),t,nb,out++(a.extract t na).reverse,mg,na - t,bc))
   else hiB a b (out++(a.extract t na).reverse) t nb mg (na - t) bc
  else hiB a b out na nb mg (na - t) bc
 |_=>pure (.done (some (dh' a b out na nb),na,nb,out,mg,ac,bc))
def fl(LT:Keyed->Keyed->Bool)(x y:Keyed):Bool:=LT y x
section
variable{LT:Keyed->Keyed->Bool}{st:SortSt}{a b:Array Keyed}
abbrev JH(LT:Keyed->Keyed->Bool)(a b out:Array Keyed)(na nb:Nat):Prop:=J (fl LT) (a.toList++b.toList) out.toList (a.toList.take na).reverse (b.toList.take nb).reverse
def Good.rev{T l:Z8 Keyed}(h:Good (fl LT) T l):Good LT T l.reverse:=⟨(List.reverse_perm l).trans h.pm,List.pairwise_reverse.mpr h.so⟩
variable{out:Array Keyed}{na nb:Nat}
def JH.dA(j:JH LT a b out na nb)(e:na=0):Good LT (a.toList++b.toList) (dh' a b out na nb).toList:=by
 subst e;rw[JH,List.take_zero,List.reverse_nil]at j;have:=j.swap.done.rev;rw[X5,Xi]at this;rwa[Zk,Zk,cG,cG,X9,List.take_zero,List.nil_append]
def JH.dB(j:JH LT a b out na nb)(e:nb=0):Good LT (a.toList++b.toList) (dh' a b out na nb).toList:=by
 subst e;rw[JH,List.take_zero,List.reverse_nil]at j;have:=j.done.rev;rw[X5,Xi]at this;rwa[Zk,Zk,cG,cG,X9,List.take_zero,Y_]
def JH.fB(W:Two LT T a b)(j:JH LT a b out na nb)(e:nb=1):Good LT (a.toList++b.toList) (fh' a b out na nb).toList:=by
 subst e;rw[JH,eW (a:=b) (i:=0) W.zb,List.take_zero,List.reverse_nil,Y_]at j;have:=(j.swap.last λy hy=>?_).rev
 .rw[X5,X5,Xi]at this
  have e:=eW (a:=b) (i:=0) W.zb;rw[List.take_zero,List.reverse_nil,Y_]at e;have e':=congrArg List.reverse e;rw[Xi]at e';rw[Zk,Zk,cG,cG,X9,e',Zh];exact this
 .obtain⟨k,_,hk,rfl⟩:=cz (X1.mp hy)
  exact W.h0 k hk
def JH.pA(j:JH LT a b out (na+1) nb)(e:na<a.size)(q:∀k,k<nb->k<b.size->LT (K a na) (K b k)=false):JH LT a b (out.push (K a na)) na nb:=by
 rw[JH,YA];rw[JH,eW e]at j;refine j.push λx hx y hy=>?_
 obtain rfl:=ZE.mp hx;obtain⟨k,h1,h2,rfl⟩:=cz (X1.mp hy);exact q k h1 h2
def JH.pB(j:JH LT a b out na (nb+1))(e:nb<b.size)(q:∀k,k<na->k<a.size->LT (K b nb) (K a k)=false):JH LT a b (out.push (K b nb)) na nb:=by
 rw[JH,YA];rw[JH,eW e]at j;refine(j.swap.push λx hx y hy=>?_).swap
 obtain rfl:=ZE.mp hx;obtain⟨k,h1,h2,rfl⟩:=cz (X1.mp hy);exact q k h1 h2
def JH.cA(ht:t<=na)(j:JH LT a b out na nb)(q:∀i,t<=i->i<na->i<a.size->∀j,j<nb->j<b.size->LT (K a i) (K b j)=false):JH LT a b (out++(a.extract t na).reverse) t nb:=by
 rw[JH,Zk];rw[JH,km a ht]at j;refine j.push λx hx y hy=>?_
 rw[X9,X1]at hx;obtain⟨i,h1,h2,h3,rfl⟩:=aV hx;obtain⟨k,h4,h5,rfl⟩:=cz (X1.mp hy);exact q i h1 h2 h3 k h4 h5
def JH.cB(ht:t<=nb)(j:JH LT a b out na nb)(q:∀i,t<=i->i<nb->i<b.size->∀j,j<na->j<a.size->LT (K b i) (K a j)=false):JH LT a b (out++(b.extract t nb).reverse) na t:=by
 rw[JH,Zk];rw[JH,km b ht]at j;refine(j.swap.push λx hx y hy=>?_).swap
 rw[X9,X1]at hx;obtain⟨i,h1,h2,h3,rfl⟩:=aV hx;obtain⟨k,h4,h5,rfl⟩:=cz (X1.mp hy);exact q i h1 h2 h3 k h4 h5
def Two.k0(W:Two LT T a b):JH LT a b #[K a (a.size - 1)] (a.size - 1) b.size:=by
 have rv:∀{c:Array Keyed},Up LT c 0 c.size->(c.toList.take c.size).reverse.Pairwise (R (fl LT)):=λ{c} u=>by
  rw[YE (by simp)];exact List.pairwise_reverse.mpr (pw_up u)
 have j:JH LT a b #[] a.size b.size:=⟨by
  rw[YE (by simp),YE (by simp)]
  exact((List.reverse_perm _).append (List.reverse_perm _)),rv W.ua,rv W.ub⟩
 have za:=W.za;rw[show a.size=a.size - 1+1 by lia]at j
 exact j.pA (by lia) λk k1 k2=>W.hl k k2
structure EndH (LT:Keyed->Keyed->Bool)(a b:Array Keyed)(st:SortSt)(n0:Nat)(P:ForInStep HS->SortSt->Prop):Prop where
 good:∀m r g,Good LT (a.toList++b.toList) m.toList->P (.done (some m,r)) (aA st g)
 next:∀out na nb mg ac bc g,JH LT a b out na nb->1<=na->na<=a.size->2<=nb->nb<=b.size->na+nb<n0->P (.done (none,na,nb,out,mg,ac,bc)) (aA st g)/\P (.yield (none,na,nb,out,mg,ac,bc)) (aA st g)
variable{n0 mg ac bc:Nat}
def wU(W:Two LT T a b)(Z:EndH LT a b st n0 P)(j:JH LT a b out na nb)(h1:1<=na)(HR:na<=a.size)(h2:2<=nb)(Hu:nb<=b.size)(h3:na+nb<=n0)(q:∀k,k<nb->k<b.size->LT (K a (na - 1)) (K b k)=false):
  wpS (model prog w) A E s (hiC a b out na nb mg ac bc) P (aA st g):=by
 refine ZF (aD (by lia) ?_)
 have j1:=JH.pA (na:=na - 1) (by rw[show na - 1+1=na by lia];exact j) (by lia) q
 by_cases e:na - 1=0
 .rw[Z0 (Zx.mpr e)];exact Zz (Z.good _ _ _ (j1.dA e))
 .rw[ZY (λq=>e (Zx.mp q))]
  have z:=λac bc=>Z.next _ _ _ mg ac bc g j1 (by lia) (by lia) h2 Hu (by lia)
  by_cases c:(decide (ac<7)&&decide (bc<7))=true
  .rw[Z0 c];exact Zz (z ac bc).1
  .rw[ZY c];exact Zz (z ac bc).2
def wD(O:OrdK LT)(H:Ans prog w A s κ LT T)(hk:kindOf st=κ)(W:Two LT T a b)(Z:EndH LT a b st n0 P)(j:JH LT a b out na nb)(h1:1<=na)(HR:na<=a.size)(h2:2<=nb)(Hu:nb<=b.size)(h3:na+nb<=n0)(q:∀k,k<na->k<a.size->LT (K b (nb - 1)) (K a k)=false):
  wpS (model prog w) A E s (hiB a b out na nb mg ac bc) P (aA st g):=by
 refine ZF (aD (by lia) ?_)
 have j1:=JH.pB (nb:=nb - 1) (by rw[show nb - 1+1=nb by lia];exact j) (by lia) q
 by_cases e:nb - 1=1
 .rw[Z0 (Zx.mpr e)];exact Zz (Z.good _ _ _ (j1.fB W e))
 rw[ZY (λq=>e (Zx.mp q))]
 refine ZF (aD (by lia) ?_)
 refine ZF (bO (st:=aA st g) O H hk (W.ha _ (by lia)) (by lia) (by lia) (λi hi=>W.hb _ (by lia)) (λp q a1 a2 a3=>W.ub p q (Zs _) a2 (by lia)) λt k1 k2 k3=>?_)
 have q2:∀m,m<t->m<b.size->LT (K a (na - 1)) (K b m)=false:=λm m1 m2=>by
  have:=k2 m m1;unfold fB at this;simp only[Y2,XT]at this;exact O.asym _ _ this
 dsimp only
 by_cases c:nb - 1 - t>0
 .rw[Z0 c]
  have j2:=j1.cB (t:=t) (by lia) λi i1 i2 i3 m m1 m2=>O.tr _ _ _ (W.ua m (na - 1) (Zs _) (by lia) (by lia)) (by simpa only[fB,Y2,XT]using k3 i i1 i2)
  by_cases e2:t=1
  .rw[Z0 (Zx.mpr e2)];exact Zz (Z.good _ _ _ (j2.fB W e2))
  rw[ZY (λq=>e2 (Zx.mp q))]
  by_cases e3:t=0
  .rw[Z0 (Zx.mpr e3)];exact Zz (Z.good _ _ _ (j2.dB e3))
  rw[ZY (λq=>e3 (Zx.mp q))]
  exact wU W Z j2 h1 HR (by lia) (by lia) (by lia) q2
 .rw[ZY c]
  exact wU W Z j1 h1 HR (by lia) (by lia) (by lia) (by rw[show t=nb - 1 by lia]at q2;exact q2)
def At(O:OrdK LT)(H:Ans prog w A s κ LT T)(hk:kindOf st=κ)(W:Two LT T a b)(Z:EndH LT a b st n0 P)(j:JH LT a b out na nb)(h1:1<=na)(HR:na<=a.size)(h2:2<=nb)(Hu:nb<=b.size)(h3:na+nb<=n0):
  wpS (model prog w) A E s (hiA a b out na nb mg ac bc) P (aA st g):=by
 unfold hiA;rw[aW];refine ZF (XY ?_)
 refine ZF (aD (by lia) ?_)
 refine ZF (bO (st:=aA st mg) O H hk (W.hb _ (by lia)) (by lia) (by lia) (λi hi=>W.ha _ (by lia)) (λp q a1 a2 a3=>W.ua p q (Zs _) a2 (by lia)) λt k1 k2 k3=>?_)
 have q2:∀m,m<t->m<a.size->LT (K b (nb - 1)) (K a m)=false:=λm m1 m2=>by
  have:=k2 m m1;unfold fB at this
  simpa only[ZJ,Zc,Yu,XT]using this
 dsimp only
 by_cases c:na - t>0
 .rw[Z0 c]
  have j2:=j.cA (t:=t) (by lia) λi i1 i2 i3 m m1 m2=>O.tr _ _ _ (W.ub m (nb - 1) (Zs _) (by lia) (by lia)) (O.asym _ _ (by simpa only[fB,ZJ,Zc,Bool.not_eq_false',XT]using k3 i i1 i2))
  by_cases e1:t=0
  .rw[Z0 (Zx.mpr e1)];exact Zz (Z.good _ _ _ (j2.dA e1))
  .rw[ZY (λq=>e1 (Zx.mp q))]
   exact wD O H hk W Z j2 (by lia) (by lia) h2 Hu (by lia) q2
 .rw[ZY c]
  exact wD O H hk W Z j h1 HR h2 Hu h3 (by rw[show t=na by lia]at q2;exact q2)
def nW(O:OrdK LT)(H:Ans prog w A s κ LT T)(hk:kindOf st=κ)(W:Two LT T a b)(h:∀m g,Good LT (a.toList++b.toList) m.toList->Q m (aA st g)):wpS (model prog w) A E s (iI a b) Q st:=by
 have za:=W.za;have zb:=W.zb;rw[lS];refine ZF (wpS_lift (YV ⟨rfl,?_⟩))
 dsimp only;refine ZF (aD (by lia) ?_)
 by_cases e1:a.size - 1=0
 .rw[Z0 (Zx.mpr e1)];exact Zz (h _ (gallopOf st) (W.k0.dA e1))
 rw[ZY (λq=>e1 (Zx.mp q))]
 by_cases e2:b.size=1
 .rw[Z0 (Zx.mpr e2)];exact Zz (h _ (gallopOf st) (W.k0.fB W e2))
 rw[ZY (λq=>e2 (Zx.mp q))]
 refine ZF (Wv ?_)
 refine ZF (XO (YD (I:=λx c i_=>∃na nb out mg g,c=(none,na,nb,out,mg)/\i_=aA st g/\JH LT a b out na nb/\1<=na/\na<=a.size/\2<=nb/\nb<=b.size/\na+nb+x+1<=a.size+b.size)
  (Q:=λc i_=>∃m g r,c=(some m,r)/\i_=aA st g/\Good LT (a.toList++b.toList) m.toList) ?_ ?_ ⟨_,_,_,_,gallopOf st,rfl,rfl,W.k0,by lia,by lia,by lia,by lia,by lia⟩) ?_)
 .intro x c i_ g1 g2 hz;obtain⟨na,nb,out,mg,g,rfl,rfl,j,i1,GX,i2,GW,i3⟩:=hz
  dsimp only;refine ZF (XO (YD (I:=λy c i_=>∃na nb out ac bc,c=(none,na,nb,out,ac,bc)/\i_=aA st g/\JH LT a b out na nb/\1<=na/\na<=a.size/\2<=nb/\nb<=b.size/\na+nb+x+1<=a.size+b.size)
   (Q:=λc i_=>i_=aA st g/\((∃m r,c=(some m,r)/\Good LT (a.toList++b.toList) m.toList)\/∃na nb out ac bc,c=(none,na,nb,out,ac,bc)/\JH LT a b out na nb/\1<=na/\na<=a.size/\2<=nb/\nb<=b.size/\na+nb+x+1<=a.size+b.size)) ?_ ?_ ⟨na,nb,out,0,0,rfl,rfl,j,i1,GX,i2,GW,i3⟩) ?_)
  .intro y c i_ _ _ hz;obtain⟨na,nb,out,ac,bc,rfl,rfl,j,i1,GX,i2,GW,i3⟩:=hz
   dsimp only;refine ZF (aD (by lia) (ZF (aD (by lia) (ZF (tK (st:=aA st g) H hk (W.hb _ (by lia)) (W.ha _ (by lia)) ?_)))))
   dsimp only;cases hw:LT (K b (nb - 1)) (K a (na - 1))with
   |true=>
    simp only[Y2];refine ZF (aD (by lia) ?_)
    have j1:=JH.pA (na:=na - 1) (by rw[show na - 1+1=na by lia];exact j) (by lia) λk k1 k2=>O.tr _ _ _ (W.ub k (nb - 1) (Zs _) (by lia) (by lia)) (O.asym _ _ hw)
    by_cases e:na - 1=0
    .rw[Z0 (Zx.mpr e)];exact Zz ⟨rfl,.inl ⟨_,_,rfl,j1.dA e⟩⟩
    .rw[ZY (λq=>e (Zx.mp q))]
     by_cases c:ac+1>=mg
     .rw[Z0 c];exact Zz ⟨rfl,.inr ⟨_,_,_,_,_,rfl,j1,by lia,by lia,i2,GW,by lia⟩⟩
     .rw[ZY c];exact Zz ⟨_,_,_,_,_,rfl,rfl,j1,by lia,by lia,i2,GW,by lia⟩
   |false=>
    simp only[ZJ,Zc];refine ZF (aD (by lia) ?_)
    have j1:=JH.pB (nb:=nb - 1) (by rw[show nb - 1+1=nb by lia];exact j) (by lia) λk k1 k2=>O.tr _ _ _ (W.ua k (na - 1) (Zs _) (by lia) (by lia)) hw
    by_cases e:nb - 1=1
    .rw[Z0 (Zx.mpr e)];exact Zz ⟨rfl,.inl ⟨_,_,rfl,j1.fB W e⟩⟩
    .rw[ZY (λq=>e (Zx.mp q))]
     by_cases c:bc+1>=mg
     .rw[Z0 c];exact Zz ⟨rfl,.inr ⟨_,_,_,_,_,rfl,j1,i1,GX,by lia,by lia,by lia⟩⟩
     .rw[ZY c];exact Zz ⟨_,_,_,_,_,rfl,rfl,j1,i1,GX,by lia,by lia,by lia⟩
  .intro c i_ hz;obtain⟨na,nb,out,ac,bc,rfl,rfl,j,i1,GX,i2,GW,i3⟩:=hz
   exact⟨rfl,.inr ⟨_,_,_,_,_,rfl,j,i1,GX,i2,GW,i3⟩⟩
  .intro c i_ hz;obtain⟨rfl,hz⟩:=hz;rcases hz with hz|hz
   .obtain⟨m,r,rfl,hm⟩:=hz;exact Zz ⟨m,g,_,rfl,rfl,hm⟩
   .obtain⟨na,nb,out,ac,bc,rfl,j,i1,GX,i2,GW,i3⟩:=hz;dsimp only
    refine ZF (wpS_lift (YV ⟨rfl,?_⟩))
    refine ZF (XO (YD (I:=λy c i_=>∃na nb out mg ac bc g,c=(none,na,nb,out,mg,ac,bc)/\i_=aA st g/\JH LT a b out na nb/\1<=na/\na<=a.size/\2<=nb/\nb<=b.size/\na+nb+x+1<=a.size+b.size/\(1<=y->na+nb+x+1<a.size+b.size))
     (Q:=λc i_=>∃g,i_=aA st g/\((∃m r,c=(some m,r)/\Good LT (a.toList++b.toList) m.toList)\/∃na nb out mg ac bc,c=(none,na,nb,out,mg,ac,bc)/\JH LT a b out na nb/\1<=na/\na<=a.size/\2<=nb/\nb<=b.size/\na+nb+x+1<a.size+b.size)) ?_ ?_ ⟨na,nb,out,_,ac,bc,g,rfl,rfl,j,i1,GX,i2,GW,i3,λq=>absurd q (by lia)⟩) ?_)
    .intro y c i_ _ _ hz;obtain⟨na,nb,out,mg,ac,bc,g,rfl,rfl,j,i1,GX,i2,GW,i3,_⟩:=hz
     dsimp only
     by_cases c:mg>1
     all_goals
      first|rw[Z0 c]|rw[ZY c]
      refine At (n0:=a.size+b.size - (x+1)) O H hk W ?_ j i1 GX i2 GW (by lia)
      exact⟨λm r g hm=>⟨g,rfl,.inl ⟨m,r,rfl,hm⟩⟩,λout na nb mg ac bc g j q1 Kv q2 OC q3=>⟨⟨g,rfl,.inr ⟨_,_,_,_,_,_,rfl,j,q1,Kv,q2,OC,by lia⟩⟩,⟨_,_,_,_,_,_,g,rfl,rfl,j,q1,Kv,q2,OC,by lia,λ_=>by lia⟩⟩⟩
    .intro c i_ hz;obtain⟨na,nb,out,mg,ac,bc,g,rfl,rfl,j,i1,GX,i2,GW,i3,i4⟩:=hz
     exact⟨g,rfl,.inr ⟨_,_,_,_,_,_,rfl,j,i1,GX,i2,GW,i4 (by lia)⟩⟩
    .intro c i_ hz;obtain⟨g,rfl,hz⟩:=hz;rcases hz with hz|hz
     .obtain⟨m,r,rfl,hm⟩:=hz;exact Zz ⟨m,g,_,rfl,rfl,hm⟩
     .obtain⟨na,nb,out,mg,ac,bc,rfl,j,i1,GX,i2,GW,i3⟩:=hz;dsimp only
      rw[aW];exact ZF (XY (Zz ⟨_,_,_,_,_,rfl,rfl,j,i1,GX,i2,GW,by lia⟩))
 .intro c i_ hz;obtain⟨na,nb,out,mg,g,rfl,rfl,j,i1,GX,i2,GW,i3⟩:=hz
  exfalso;lia
 .intro c i_ hz;obtain⟨m,g,r,rfl,rfl,hm⟩:=hz
  exact Zz (h m g hm)
end
end SM
namespace SM
open PySem PyProof.Rows
theorem lC(i:Nat):mergeAt' i=(do
 let s <-get
 let (some (sa,na,power),some (sb,nb,_)):=((pendingOf s)[i]?,(pendingOf s)[i+1]?)|unsupported "internal:list.sort.pending"
 set (setPending s (((pendingOf s).setIfInBounds i (sa,na+nb,power)).eraseIdxIfInBounds (i+1)))
 let some k <-bp false (<-elem' (arrOf s) sb) (arrOf s) sa na 0|return false
 let (sa,na):=(sa+k,na - k)
 if na==0 then return true
 let some nb <-bp true (<-elem' (arrOf s) (sa+na - 1)) (arrOf s) sb nb (nb - 1)|return false
 if nb==0 then return true
 let x:=(arrOf s).extract sa sb
 let y:=(arrOf s).extract sb (sb+nb)
 let merged <-if na<=nb then iP x y else iI x y
 modify λs=>setArr s (merged.toList.zipIdx.foldl (λa (p,j)=>a.setIfInBounds (sa+j) p) (arrOf s))
 return (failedOf (<-get)).isNone):=rfl
def eO(h:s+i<e):K (a.extract s e) i=K a (s+i):=by
 apply zW;rw[Array.getElem?_extract]
 split
 .rfl
 .rw[XR];lia
def zq{P L L' S:Z8 Keyed}{q:Nat}(e:L.length=L'.length)(h:q<P.length\/P.length+L.length<=q):(P++L++S)[q]?=(P++L'++S)[q]?:=by
 rcases h with h|h
 .rw[Zh,Zh,Yt h,Yt h]
 .rw[Yi (by rw[Zy];exact h),Yi (by rw[Zy,<-e];exact h),Zy,Zy,e]
def ug(m:Z8 Keyed):∀(mid pre post:Z8 Keyed)(a:Array Keyed)(o st:Nat),a.toList=pre++mid++post->pre.length=o+st->m.length=mid.length->
  ((m.zipIdx st).foldl (λa (p:Keyed×Nat)=>a.setIfInBounds (o+p.2) p.1) a).toList=pre++m++post:=by
 induction m with
 |nil=>intro mid pre post a o st h _ h3;rw[List.eq_nil_of_length_eq_zero h3.symm]at h;exact h
 |cons x m ih=>
  intro mid pre post a o st h h2 h3;cases mid with
  |nil=>cases h3
  |cons c mid=>
   rw[List.zipIdx_cons,List.foldl_cons];have:=ih mid (pre++[x]) post (a.setIfInBounds (o+st) x) o (st+1) (by
    rw[Array.toList_setIfInBounds,h,<-h2,Zh,List.set_append_right _ _ (ZQ _),Nat.sub_self];simp) (by simp;lia) (Nat.succ.inj h3)
   rw[this];simp
section
variable{prog:Y1}{w:YO}{A:Za}{E:Z3->ZP->Prop}{s:ZP}{LT:Keyed->Keyed->Bool}{T:Array Keyed}{κ:SortKind}{a:Array Keyed}
def nF(u:Up LT a i j):(a.extract i j).toList.Pairwise (R LT):=by
 apply pw_up;intro p q _ h1 h2;rw[Array.size_extract]at h2;rw[eO (by lia),eO (by lia)]
 exact u _ _ (by lia) (by lia) (by lia)
def vt(O:OrdK LT)(h:a.toList=P++L++S)(hl:L.Pairwise (R LT)):Up LT a P.length (P.length+L.length):=λp q h1 h2 h3=>by
 have e:∀i (hi:i<L.length),K a (P.length+i)=L[i]:=λi hi=>by
  rw[eI,h,Zh,Yi (by lia),show P.length+i - P.length=i by lia,Yt hi];simp[hi]
 obtain⟨p,rfl⟩:∃p',p=P.length+p':=⟨p - P.length,by lia⟩
 obtain⟨q,rfl⟩:∃p',q=P.length+p':=⟨q - P.length,by lia⟩
 rw[e p (by lia),e q (by lia)]
 by_cases c:p=q
 .subst c;exact O.irr _
 .exact List.pairwise_iff_getElem.mp hl p q (by lia) (by lia) (by lia)
def oH(O:OrdK LT)(H:Ans prog w A s κ LT T)(hT:a.Perm T)(hp:p.toList=l1++(sa,na,pw)::(sa+na,nb,MX)::l2)(hi:i=l1.length)(h1:1<=na)(h2:1<=nb)(hz:sa+na+nb<=T.size)(u1:Up LT a sa (sa+na))(u2:Up LT a (sa+na) (sa+na+nb))(h:∀a' p' g,a'.Perm T->(∀k,k<sa\/sa+na+nb<=k->K a' k=K a k)->Up LT a' sa (sa+(na+nb))->p'.toList=l1++(sa,na+nb,pw)::l2->Q true (SortSt.mk' κ a' p' g none)):
  wpS (model prog w) A E s (mergeAt' i) Q (SortSt.mk' κ a p g none):=by
 have ez:=hT.size_eq;have mT:∀k,k<T.size->K a k∈T:=λk hk=>hT.mem_iff.mp (yH (by lia))
 subst hi;have g1:p[l1.length]?=some (sa,na,pw):=by rw[<-Xn,hp];simp
 have g2:p[l1.length+1]?=some (sa+na,nb,MX):=by rw[<-Xn,hp];simp
 rw[lC];refine ZF (Wv ?_)
 have ea:∀p g,arrOf (SortSt.mk' κ a p g none)=a:=λ_ _=>rfl
 simp only[ea];rw[g1,g2];dsimp only;have Gh:((p.setIfInBounds l1.length (sa,na+nb,pw)).eraseIdxIfInBounds (l1.length+1)).toList=l1++(sa,na+nb,pw)::l2:=by
  rw[Array.toList_eraseIdxIfInBounds,Array.toList_setIfInBounds,hp];simp[List.eraseIdx_append_of_length_le]
 generalize ((p.setIfInBounds l1.length (sa,na+nb,pw)).eraseIdxIfInBounds (l1.length+1))=p' at Gh⊢;refine ZF (?_:wpS (model prog w) A E s (set _:StateT SortSt Sem PUnit) _ _)
 unfold wpS;rw[StateT.run_set];refine Z4 ⟨rfl,?_⟩
 refine ZF (aD (by lia) ?_)
 refine ZF (bO (st:=SortSt.mk' κ a p' g none) O H rfl (mT _ (by lia)) (by lia) (by lia) (λj hj=>mT _ (by lia)) u1 λk k1 k2 k3=>?_)
 dsimp only;have whole:∀(e:∀q,q<na->LT (K a (sa+na)) (K a (sa+q))=false),Up LT a sa (sa+(na+nb)):=λe x y a1 a2 a3=>by
  by_cases c1:y<sa+na
  .exact u1 x y a1 a2 c1
  .by_cases c2:x<sa+na
   .have:=e (x - sa) (by lia)
    rw[show sa+(x - sa)=x by lia]at this
    exact O.tr _ _ _ this (u2 (sa+na) y (ZQ _) (by lia) (by lia))
   .exact u2 x y (by lia) a2 (by lia)
 by_cases c:na - k=0
 .rw[Z0 (Zx.mpr c)]
  exact Zz (h a p' g hT (λ_ _=>rfl) (whole λq hq=>by simpa only[fB,ZJ,Zc,Yu]using k2 q (by lia)) Gh)
 rw[ZY (λq=>c (Zx.mp q))]
 have el:sa+k+(na - k) - 1=sa+na - 1:=by lia
 rw[el];refine ZF (aD (by lia) ?_)
 refine ZF (bO (st:=SortSt.mk' κ a p' g none) O H rfl (mT _ (by lia)) (by lia) (by lia) (λj hj=>mT _ (by lia)) u2 λGA n1 n2 n3=>?_)
 dsimp only
 by_cases c':GA=0
 .rw[Z0 (Zx.mpr c')]
  refine Zz (h a p' g hT (λ_ _=>rfl) (whole λq hq=>?_) Gh)
  have:=n3 0 (by lia) (by lia)
  simp only[fB,Y2,Nat.add_zero]at this;exact O.tr _ _ _ (u1 (sa+q) (sa+na - 1) (by lia) (by lia) (by lia)) this
 rw[ZY (λq=>c' (Zx.mp q))]
 have W:Two LT T (a.extract (sa+k) (sa+na)) (a.extract (sa+na) (sa+na+GA)):=by
  have zx:(a.extract (sa+k) (sa+na)).size=na - k:=by rw[Array.size_extract];lia
  have zy:(a.extract (sa+na) (sa+na+GA)).size=GA:=by rw[Array.size_extract];lia
  refine⟨λi hi=>?_,λi hi=>?_,λx y a1 a2 a3=>?_,λx y a1 a2 a3=>?_,by lia,by lia,λj hj=>?_,λj hj=>?_⟩
  .rw[eO (by lia)];exact mT _ (by lia)
  .rw[eO (by lia)];exact mT _ (by lia)
  .rw[eO (by lia),eO (by lia)];exact u1 _ _ (by lia) (by lia) (by lia)
  .rw[eO (by lia),eO (by lia)];exact u2 _ _ (by lia) (by lia) (by lia)
  .rw[eO (by lia),eO (by lia)]
   have:=k3 (k+j) (by lia) (by lia)
   simp only[fB,ZJ,Zc,Bool.not_eq_false']at this;rw[show sa+k+j=sa+(k+j) by lia]
   exact O.asym _ _ this
  .rw[zx,eO (by lia),eO (by lia),show sa+k+(na - k - 1)=sa+na - 1 by lia]
   have:=n2 j (by lia)
   simp only[fB,Y2]at this;exact O.asym _ _ this
 have fin:∀(m:Array Keyed)(g':Nat),Good LT ((a.extract (sa+k) (sa+na)).toList++(a.extract (sa+na) (sa+na+GA)).toList) m.toList->
   wpS (model prog w) A E s (do
    modify λs=>setArr s (m.toList.zipIdx.foldl (λa (p:Keyed×Nat)=>a.setIfInBounds (sa+k+p.2) p.1) (arrOf s))
    return (failedOf (<-get)).isNone) Q (SortSt.mk' κ a p' g' none):=λm g' hm=>by
  refine ZF (XY (ZF (Wv (Zz ?_))))
  have dec:a.toList=a.toList.take sa++((a.extract sa (sa+k)).toList++((a.extract (sa+k) (sa+na)).toList++(a.extract (sa+na) (sa+na+GA)).toList)++(a.extract (sa+na+GA) (sa+na+nb)).toList)++a.toList.drop (sa+na+nb):=by
   have d1:=bN a sa k;have d2:=bN a (sa+k) (na - k);have d3:=bN a (sa+na) GA;have d4:=bN a (sa+na+GA) (nb - GA);rw[show sa+k+(na - k)=sa+na by lia]at d2
   rw[show sa+na+GA+(nb - GA)=sa+na+nb by lia]at d4
   rw[d2,d3,d4]at d1;have:=(XN sa a.toList).symm;rw[d1]at this
   conv=>lhs;rw[this]
   simp only[Zh]
  have ml:m.toList.length=((a.extract (sa+k) (sa+na)).toList++(a.extract (sa+na) (sa+na+GA)).toList).length:=hm.pm.length_eq;have Oq:a.toList=a.toList.take sa++(a.extract sa (sa+k)).toList++((a.extract (sa+k) (sa+na)).toList++(a.extract (sa+na) (sa+na+GA)).toList)++((a.extract (sa+na+GA) (sa+na+nb)).toList++a.toList.drop (sa+na+nb)):=by
   conv=>lhs;rw[dec]
   simp only[Zh]
  have res:=ug m.toList _ _ _ a (sa+k) 0 Oq (by simp;lia) ml
  have JS:(m.toList.zipIdx.foldl (λa (p:Keyed×Nat)=>a.setIfInBounds (sa+k+p.2) p.1) a).toList=a.toList.take sa++((a.extract sa (sa+k)).toList++m.toList++(a.extract (sa+na+GA) (sa+na+nb)).toList)++a.toList.drop (sa+na+nb):=by
   rw[res];simp only[Zh]
  have pl:(a.toList.take sa).length=sa:=by simp;lia
  have len:((a.extract sa (sa+k)).toList++m.toList++(a.extract (sa+na+GA) (sa+na+nb)).toList).length=na+nb:=by
   rw[Zy,Zy,ml];simp;lia
  refine h _ p' g' ?_ (λq hq=>?_) ?_ Gh
  .refine Array.Perm.trans (Array.perm_iff_toList_perm.mpr ?_) hT
   rw[JS]
   conv=>rhs;rw[dec]
   exact((((YW _).append hm.pm).append (YW _)).append_left _).append_right _
  .rw[eI,eI,JS]
   conv=>rhs;rw[dec]
   congr 1;exact zq (by simp only[Zy]at ml⊢;lia) (by rw[pl,len];lia)
  .have:=vt O JS ?_
   .rw[pl,len]at this;exact this
   have ux:∀v∈(a.extract (sa+k) (sa+na)).toList,LT (K a (sa+na - 1)) v=false:=λv hv=>by
    obtain⟨i,i1,i2,_,rfl⟩:=aV hv;exact u1 i (sa+na - 1) (by lia) (by lia) (by lia)
   have uc:∀v∈(a.extract sa (sa+k)).toList,LT (K a (sa+na - 1)) v=false:=λv hv=>by
    obtain⟨i,i1,i2,_,rfl⟩:=aV hv;exact u1 i (sa+na - 1) (by lia) (by lia) (by lia)
   have uz:∀z∈(a.extract (sa+na+GA) (sa+na+nb)).toList,LT z (K a (sa+na - 1))=false:=λz hz=>by
    obtain⟨i,i1,i2,_,rfl⟩:=aV hz;have:=n3 (i - (sa+na)) (by lia) (by lia)
    simpa only[fB,Y2,show sa+na+(i - (sa+na))=i by lia]using this
   rw[Yx,Yx];refine⟨⟨nF λx y a1 a2 a3=>u1 x y a1 a2 (by lia),hm.so,λu hu v hv=>?_⟩,nF λx y a1 a2 a3=>u2 x y (by lia) a2 a3,λv hv z hz=>?_⟩
   .obtain⟨i,i1,i2,_,rfl⟩:=aV hu
    rcases Zv.mp (hm.pm.mem_iff.mp hv)with hv|hv
    .obtain⟨j,j1,j2,_,rfl⟩:=aV hv
     exact u1 i j (by lia) (by lia) (by lia)
    .obtain⟨j,j1,j2,_,rfl⟩:=aV hv
     have:=k2 (i - sa) (by lia)
     simp only[fB,ZJ,Zc,Yu,show sa+(i - sa)=i by lia]at this
     exact O.tr _ _ _ this (u2 (sa+na) j (ZQ _) (by lia) (by lia))
   .rcases Zv.mp hv with hv|hv
    .exact O.tr _ _ _ (uc v hv) (uz z hz)
    .rcases Zv.mp (hm.pm.mem_iff.mp hv)with hv|hv
     .exact O.tr _ _ _ (ux v hv) (uz z hz)
     .obtain⟨j,j1,j2,_,rfl⟩:=aV hv
      obtain⟨i,i1,i2,_,rfl⟩:=aV hz;exact u2 j i (by lia) (by lia) (by lia)
 by_cases c3:na - k<=GA
 .rw[Z0 c3];exact ZF (oS (st:=SortSt.mk' κ a p' g none) O H rfl W λm g' hm=>fin m g' hm)
 .rw[ZY c3];exact ZF (nW (st:=SortSt.mk' κ a p' g none) O H rfl W λm g' hm=>fin m g' hm)
end
end SM
namespace SM
open PySem PyProof.Rows
abbrev P3:=Nat×Nat×Nat
def Tile:Z8 P3->Nat->Nat->Prop
 |[],s,e=>s=e
 |q::r,s,e=>q.1=s/\1<=q.2.1/\Tile r (s+q.2.1) e
theorem Tile.le:∀{l:Z8 P3}{s e:Nat},Tile l s e->s+l.length<=e
 |[],_,_,h=>by simp only[Tile]at h;simp;lia
 |q::r,s,e,h=>by have:=h.2.2.le;have:=h.2.1;simp;lia
theorem Tile.app:∀{l m:Z8 P3}{s e:Nat},Tile (l++m) s e->∃t,Tile l s t/\Tile m t e
 |[],m,s,e,h=>⟨s,rfl,h⟩
 |q::r,m,s,e,h=>by
  obtain⟨t,a,b⟩:=h.2.2.app;exact⟨t,⟨h.1,h.2.1,a⟩,b⟩
theorem Tile.join:∀{l m:Z8 P3}{s t e:Nat},Tile l s t->Tile m t e->Tile (l++m) s e
 |[],m,s,t,e,h,h'=>by simp only[Tile]at h;subst h;exact h'
 |q::r,m,s,t,e,h,h'=>⟨h.1,h.2.1,h.2.2.join h'⟩
theorem Tile.bound:∀{l:Z8 P3}{s e:Nat},Tile l s e->∀q∈l,s<=q.1/\q.1+q.2.1<=e
 |p::r,s,e,h,q,hq=>by
  have:=h.2.2.le
  rcases ZZ.mp hq with rfl|hq
  .have:=h.1;lia
  .have:=h.2.2.bound q hq;lia
section
variable{LT:Keyed->Keyed->Bool}{T:Array Keyed}{a:Array Keyed}
structure Wait (LT:Keyed->Keyed->Bool)(T a:Array Keyed)(p:Array P3)(lo:Nat):Prop where
 pm:a.Perm T
 ti:Tile p.toList 0 lo
 up:∀q∈p.toList,Up LT a q.1 (q.1+q.2.1)
def Wait.merge(O:OrdK LT)(H:Ans prog w A s κ LT T){lo g i:Nat}(hz:lo<=T.size)(h:Wait LT T a p lo)(hi:i+1<p.size)(hQ:∀a' p' g,Wait LT T a' p' lo->p'.size+1=p.size->(∀k,lo<=k->K a' k=K a k)->Q true (SortSt.mk' κ a' p' g none)):wpS (model prog w) A E s (mergeAt' i) Q (SortSt.mk' κ a p g none):=by
 obtain⟨l1,l2,x,y,e,hl⟩:∃l1 l2 x y,p.toList=l1++x::y::l2/\l1.length=i:=by
  have s_:i+1<p.toList.length:=by simpa using hi
  refine⟨p.toList.take i,p.toList.drop (i+2),p.toList[i],p.toList[i+1],?_,by simp;lia⟩
  rw[<-Zo s_,<-Zo (by lia),XN]
 obtain⟨sa,na,pw⟩:=x;obtain⟨sb,nb,MX⟩:=y;have ti:=h.ti;rw[e]at ti;obtain⟨t,t1,t2⟩:=ti.app;obtain⟨r1,r2,r3,r4,r5⟩:=t2;dsimp only at r1 r2 r3 r4 r5;subst r1 r3;have b1:=r5.le;have u1:=h.up (sa,na,pw) (by rw[e];simp)
 have u2:=h.up (sa+na,nb,MX) (by rw[e];simp)
 refine oH O H h.pm e hl.symm r2 r4 (by lia) u1 u2 λa' p' g hp hk hu he=>hQ a' p' g ⟨hp,?_,λq hq=>?_⟩ ?_ λk Hq=>hk k (by lia)
 .rw[he]
  exact t1.join ⟨rfl,by dsimp only;lia,by dsimp only;rw[<-Nat.add_assoc];exact r5⟩
 .rw[he]at hq
  have cg:∀q∈p.toList,q.1+q.2.1<=sa\/sa+na+nb<=q.1->Up LT a' q.1 (q.1+q.2.1):=λq hq hd x y a1 a2 a3=>by
   rw[hk x (by lia),hk y (by lia)];exact h.up q hq x y a1 a2 a3
  rcases Zv.mp hq with hq|hq
  .exact cg q (by rw[e];exact YZ _ hq) (.inl (t1.bound q hq).2)
  .rcases ZZ.mp hq with rfl|hq
   .exact hu
   .exact cg q (by rw[e];exact ZG _ (.tail _ (.tail _ hq))) (.inr (r5.bound q hq).1)
 .have l1:=congrArg List.length he
  have l2:=congrArg List.length e;simp at l1 l2;lia
theorem Wait.push{lo n z:Nat}(h:Wait LT T a p lo)(hn:1<=n)(hu:Up LT a lo (lo+n)):Wait LT T a (p.push (lo,n,z)) (lo+n):=by
 refine⟨h.pm,by rw[YA];exact h.ti.join ⟨rfl,hn,rfl⟩,λq hq=>?_⟩
 rw[YA]at hq
 rcases Zv.mp hq with hq|hq
 .exact h.up q hq
 .obtain rfl:=ZE.mp hq;exact hu
theorem mC(hf:∀q,(f q).1=q.1/\(f q).2.1=q.2.1):∀{l:Z8 P3}{i s e:Nat},Tile l s e->Tile (l.modify i f) s e
 |[],i,s,e,h=>by simpa using h
 |q::r,0,s,e,h=>by
  simp only[List.modify_zero_cons,Tile,(hf q).1,(hf q).2];exact h
 |q::r,i+1,s,e,h=>by
  simp only[List.modify_succ_cons];exact⟨h.1,h.2.1,mC hf h.2.2⟩
theorem gn:∀{l:Z8 P3}{i:Nat}{q:P3},q∈l.modify i f->q∈l\/∃r∈l,q=f r
 |[],i,q,h=>by simp at h
 |p::r,0,q,h=>by
  simp only[List.modify_zero_cons]at h
  rcases ZZ.mp h with rfl|h
  .exact .inr ⟨p,.head _,rfl⟩
  .exact .inl (.tail _ h)
 |p::r,i+1,q,h=>by
  simp only[List.modify_succ_cons]at h
  rcases ZZ.mp h with rfl|h
  .exact .inl (.head _)
  .rcases gn h with h|⟨x,h,e⟩
   .exact .inl (.tail _ h)
   .exact .inr ⟨x,.tail _ h,e⟩
def Wait.mod{lo i z:Nat}(h:Wait LT T a p lo):Wait LT T a (p.modify i λ(st,len,_)=>(st,len,z)) lo:=by
 refine⟨h.pm,by rw[Array.toList_modify];exact mC (f:=λ(st,len,_)=>(st,len,z)) (λq=>⟨rfl,rfl⟩) h.ti,λq hq=>?_⟩
 rw[Array.toList_modify]at hq
 rcases gn hq with hq|⟨r,hr,rfl⟩
 .exact h.up q hq
 .exact h.up r hr
def sortRuns_wp(O:OrdK LT)(H:Ans prog w A s κ LT T)(h2:2<=T.size)(hQ:∀a p g,a.Perm T->Up LT a 0 T.size->Q () (SortSt.mk' κ a p g none)):wpS (model prog w) A E s sortRuns' Q (SortSt.mk' κ T #[] g none):=by
 rw[sortRuns'_eq];refine ZF (Wv ?_)
 have ea:∀a p g,arrOf (SortSt.mk' κ a p g none)=a:=λ_ _ _=>rfl
 have ep:∀a p g,pendingOf (SortSt.mk' κ a p g none)=p:=λ_ _ _=>rfl
 simp only[ea];generalize minRun' T.size T.size 0=mr;refine ZF (XO (YD (I:=λx c i_=>∃a p g lo,c=(none,lo)/\i_=SortSt.mk' κ a p g none/\Wait LT T a p lo/\lo<=T.size/\x<=lo)
  (Q:=λc i_=>∃a p g,c=(none,T.size)/\i_=SortSt.mk' κ a p g none/\Wait LT T a p T.size) ?_ ?_ ⟨T,#[],g,0,rfl,rfl,⟨Array.Perm.refl _,rfl,λq hq=>nomatch hq⟩,Zs _,ZQ _⟩) ?_)
 .intro x c i_ _ hx hz;obtain⟨a,p,g,lo,rfl,rfl,hw,Ha,Mr⟩:=hz
  dsimp only
  by_cases c1:lo>=T.size
  .rw[Z0 c1]
   have:lo=T.size:=by lia
   exact Zz ⟨a,p,g,by rw[this],rfl,by rw[<-this];exact hw⟩
  rw[ZY c1];refine ZF (lQ (st:=SortSt.mk' κ a p g none) O H rfl hw.pm (by lia) (by lia) λm a1 m1 m2 C1 U1=>?_)
  have wt:∀a2,Chg T a lo a2->Wait LT T a2 p lo:=λa2 C=>⟨C.perm,hw.ti,λq hq x y h1 h2 h3=>by
   have:=(hw.ti.bound q hq).2;rw[C.keep x (by lia),C.keep y (by lia)];exact hw.up q hq x y h1 h2 h3⟩
  dsimp only
  by_cases c2:m<mr
  all_goals first
   |rw[ZY c2]
   |(rw[Z0 c2]
     refine ZF (wpS_lift (YV ⟨rfl,?_⟩))
     have C0:=C1;have n0:1<=min (T.size - lo) mr/\min (T.size - lo) mr<=T.size - lo:=by lia
     refine ZF (i6 (st:=SortSt.mk' κ a1 p g none) O H rfl C1.perm (by lia) (by lia) (by lia) U1 λa1 C2 U1=>?_)
     have C1:Chg T a lo a1:=⟨C2.perm,λk hk=>(C2.keep k hk).trans (C0.keep k hk)⟩
     simp only[YT,ZJ,Zc];obtain⟨m1,m2⟩:=n0;generalize min (T.size - lo) mr=m at U1 m1 m2⊢)
  all_goals
   have W1:=wt a1 C1;clear wt C1;refine ZF (Wv ?_)
   have e0:pendingOf (setArr (SortSt.mk' κ a p g none) a1)=p:=rfl;cases hb:(pendingOf (SortSt.mk' κ a1 p g none)).back? with
   |none=>
    have Gj:p.back?=none:=hb;simp only[ep,Gj];exact ZF (XY (Zz ⟨_,_,_,_,rfl,rfl,W1.push m1 U1,by lia,by lia⟩))
   |some q=>
    obtain⟨s1,n1,z⟩:=q;have Gj:p.back?=some (s1,n1,z):=hb;simp only[ep,Gj];generalize power' T.size (2*s1+n1) (2*s1+n1+n1+m) T.size=pw;refine ZF (XO (YD (I:=λ_ c i_=>c=(none,())/\∃a' p' g',i_=SortSt.mk' κ a' p' g' none/\Wait LT T a' p' lo/\∀k,lo<=k->K a' k=K a1 k)
     (Q:=λc i_=>c=(none,())/\∃a' p' g',i_=SortSt.mk' κ a' p' g' none/\Wait LT T a' p' lo/\∀k,lo<=k->K a' k=K a1 k) ?_ (λ_ _ h=>h) ⟨rfl,a1,p,g,rfl,W1,λ_ _=>rfl⟩) ?_)
    .intro x c i_ _ _ hz;obtain⟨rfl,a',p',g',rfl,K6,Hq⟩:=hz
     refine ZF (Wv ?_)
     simp only[ep]
     by_cases c:p'.size>1
     .rw[Z0 c,getElem?_pos p' (p'.size - 2) (by lia)]
      generalize p'[p'.size - 2]=q;obtain⟨u1,u2,old⟩:=q;dsimp only
      by_cases c2:old<=pw
      .rw[Z0 c2];exact Zz ⟨rfl,a',p',g',rfl,K6,Hq⟩
      .rw[ZY c2]
       refine ZF (K6.merge O H (by lia) (by lia) λa2 p2 g2 K4 _ Nt=>?_)
       exact Zz ⟨rfl,a2,p2,g2,rfl,K4,λk hk=>(Nt k hk).trans (Hq k hk)⟩
     .rw[ZY c];exact Zz ⟨rfl,a',p',g',rfl,K6,Hq⟩
    .intro c i_ hz;obtain⟨rfl,a',p',g',rfl,K6,Hq⟩:=hz
     have Gn:Up LT a' lo (lo+m):=λx y h1 h2 h3=>by rw[Hq x h1,Hq y (by lia)];exact U1 x y h1 h2 h3
     exact ZF (XY (ZF (XY (Zz ⟨_,_,_,_,rfl,rfl,K6.mod.push m1 Gn,by lia,by lia⟩))))
 .intro c i_ hz;obtain⟨a,p,g,lo,rfl,rfl,hw,Ha,Mr⟩:=hz
  have:lo=T.size:=by lia
  exact⟨a,p,g,by rw[this],rfl,by rw[<-this];exact hw⟩
 .intro c i_ hz;obtain⟨a,p,g,rfl,rfl,hw⟩:=hz
  dsimp only;have hl:=hw.ti.le;refine ZF (XO (YD (I:=λx c i_=>c=(none,())/\∃a p g,i_=SortSt.mk' κ a p g none/\Wait LT T a p T.size/\p.size+x<=T.size)
   (Q:=λc i_=>c=(none,())/\∃a p g,i_=SortSt.mk' κ a p g none/\Wait LT T a p T.size/\p.size<=1) ?_ ?_ ⟨rfl,a,p,g,rfl,hw,by simp at hl;lia⟩) ?_)
  .intro x c i_ _ _ hz;obtain⟨rfl,a,p,g,rfl,hw,hx⟩:=hz
   refine ZF (Wv ?_)
   simp only[ep]
   by_cases c:p.size<=1
   .rw[Z0 c];exact Zz ⟨rfl,a,p,g,rfl,hw,c⟩
   .rw[ZY c]
    refine ZF (hw.merge O H (ZQ _) ?_ λa2 p2 g2 K4 hs _=>?_)
    .have:∀b:Bool,(if b=true then p.size - 2 - 1 else p.size - 2)+1<p.size:=λb=>by cases b<;>simp<;>lia
     exact this _
    .exact Zz ⟨rfl,a2,p2,g2,rfl,K4,by lia⟩
  .intro c i_ hz;obtain⟨rfl,a,p,g,rfl,hw,hx⟩:=hz
   exact⟨rfl,a,p,g,rfl,hw,by lia⟩
  .intro c i_ hz;obtain⟨rfl,a,p,g,rfl,hw,hx⟩:=hz
   refine Zz (hQ a p g hw.pm ?_)
   have ti:=hw.ti;have up:=hw.up;have IB:p.toList.length<=1:=by simpa using hx
   rcases hp:p.toList with _|⟨q,_|⟨r,l⟩⟩
   .rw[hp]at ti;simp only[Tile]at ti;lia
   .rw[hp]at ti up
    obtain⟨t1,t2,t3⟩:=ti;simp only[Tile]at t3;have:=up q (.head _);rw[t1,t3]at this;exact this
   .rw[hp]at IB;simp at IB
end
end SM
namespace L2
open PySem PySem.Spec PyProof.Rows PySem.W
variable[Lams]
section
variable{vs:Z8 Z3}
def vD{n:Nat}{P:PySem.Fin->ZP->Prop}{κ:SortKind}{LT:Z3->Z3->Bool}(ho:s.heap.get? a=some (seqObj "list" vs.toArray n))(hz:vs.length<=sizeLine)(O:SM.OrdK λx y=>LT x.1 y.1)
  (hk:2<=vs.length->∀h',(∀b o,b≠a->s.heap.get? b=some o->h'.get? b=some o)->∀Q:SortKind->ZP->Prop,Q κ {s with heap:=h'}->wpAny (model prog w) A (keyKind' vs.toArray) Q (λ_ _=>False) {s with heap:=h'})
  (k_:2<=vs.length->∀h',(∀b o,b≠a->s.heap.get? b=some o->h'.get? b=some o)->∀(u v:Z3)(C:Bool->ZP->Prop),u∈vs->v∈vs->C (LT u v) {s with heap:=h'}->wpAny (model prog w) A (keyLt' κ u v) C (λ_ _=>False) {s with heap:=h'})
  (h:∀us:Z8 Z3,us.Perm vs->us.Pairwise (λu v=>LT v u=false)->∀h' c,(∀b o,b≠a->s.heap.get? b=some o->h'.get? b=some o)->h'.get? a=some (seqObj "list" us.toArray c)->P (.done (.ret .none)) {s with heap:=h'}):
  wpAny (model prog w) A (Builtin.«list.sort» ⟨[.ref a],[]⟩) P E s:=by
 have ha:a<s.heap.objs.size:=ZT ho;rw[list_sort_plain];refine Z_ (Wp ho rfl (Z_ (Xh ho rfl ?_ (by rw[ZU];exact hz) (Zs _))))
 obtain⟨e1,g1⟩:∃e1,(s.heap.update a (Obj.mapSeq λ_=>(#[]:Array Z3))).get? a=some (seqObj "list" #[] e1):=⟨_,WR ho λ_=>#[]⟩
 refine Z_ (seqEpoch_at g1 rfl (Z_ (Wt ?_ hz)))
 refine Z_ (WL ?_ (Zs _))
 refine Y3 ?_
 have keep:∀b o,b≠a->s.heap.get? b=some o->(((s.heap.update a (Obj.mapSeq λ_=>(#[]:Array Z3))).push (seqObj "tuple" vs.toArray 0)).push (seqObj "list" #[] 0)).get? b=some o:=λb o hb e=>
  Z5 _ (Z5 _ ((Zm s.heap _ (ZD hb)).trans e))
 have g3:(((s.heap.update a (Obj.mapSeq λ_=>(#[]:Array Z3))).push (seqObj "tuple" vs.toArray 0)).push (seqObj "list" #[] 0)).get? a=some (seqObj "list" #[] e1):=Z5 _ (Z5 _ g1)
 show wpAny (model prog w) A _ P E {s with heap:=((s.heap.update a (Obj.mapSeq λ_=>(#[]:Array Z3))).push (seqObj "tuple" vs.toArray 0)).push (seqObj "list" #[] 0)}
 generalize hH:(((s.heap.update a (Obj.mapSeq λ_=>(#[]:Array Z3))).push (seqObj "tuple" vs.toArray 0)).push (seqObj "list" #[] 0))=H1 at*
 dsimp only;have fin:∀st:SortSt,((arrOf st).map (·.2)).toList.Perm vs->((arrOf st).map (·.2)).toList.Pairwise (λu v=>LT v u=false)->failedOf st=none->
   wpAny (model prog w) A (do
    let touched:=(<-seqEpoch a) != e1
    Builtin.List.listUpdate (.ref a) λ_=>(arrOf st).map (·.2)
    if let some e:=failedOf st then rule "list.sort.comparison-raised";throw e
    if touched then rule "list.sort.modified";raiseError "ValueError" "list modified during sort"
    ret .none) P E {s with heap:=H1}:=λst hp hs hf=>by
  rw[hf];refine Z_ (seqEpoch_at g3 rfl (Z_ (Xh g3 rfl ?_ (Zs _) ?_)))
  .simp only[bne_self_eq_false,ZJ,Zc]
   obtain⟨c,g4⟩:∃c,(H1.update a (Obj.mapSeq λ_=>(arrOf st).map (·.2))).get? a=some (seqObj "list" ((arrOf st).map (·.2)) c):=⟨_,WR g3 λ_=>(arrOf st).map (·.2)⟩
   exact Z4 (h _ hp hs _ c (λb o hb e=>(Zm H1 _ (ZD hb)).trans (keep b o hb e)) (by rw[Array.toArray_toList];exact g4))
  .have:=hp.length_eq;rw[Array.length_toList]at this;lia
 have zs:∀l:Z8 Z3,(l.toArray.zip l.toArray).map (·.2)=l.toArray:=λl=>by
  rw[show l.toArray.zip l.toArray=(l.zip l).toArray by simp];simp[List.map_snd_zip]
 by_cases h2:vs.toArray.size<2
 .rw[Z0 h2,Z0 h2]
  refine Z_ (Z4 ?_)
  rw[StateT.run_pure];refine Z_ (Z4 ?_)
  rw[ZU]at h2;have e0:(arrOf (SortSt.mk' general' (vs.toArray.zip vs.toArray) #[] 7 none)).map (·.2)=vs.toArray:=zs vs
  refine fin (SortSt.mk' general' (vs.toArray.zip vs.toArray) #[] 7 none) (by rw[e0]) ?_ rfl
  rw[e0];show vs.Pairwise _;clear fin k_ hk h ho keep hH g3 g1 e0
  rcases vs with _|⟨v,_|⟨v',r⟩⟩
  .exact .nil
  .exact List.pairwise_singleton _ _
  .exact absurd h2 (by simp)
 .rw[ZY h2,ZY h2]
  rw[ZU]at h2;refine Z_ (YU (hk (by lia) H1 keep _ ?_) (λ_ _ q=>q) λ_ _ x=>x.elim)
  have mz:∀x∈vs.toArray.zip vs.toArray,x.1=x.2/\x.1∈vs:=λx hx=>mem_zip_self (by simpa using hx)
  have sz:(vs.toArray.zip vs.toArray).size=vs.length:=by simp
  have run:=SM.sortRuns_wp (prog:=prog) (w:=w) (A:=A) (E:=E) (s:={s with heap:=H1}) (κ:=κ) (T:=vs.toArray.zip vs.toArray) (g:=7) (LT:=λx y=>LT x.1 y.1) O
   (λx hx y hy C hC=>k_ (by lia) H1 keep x.1 y.1 C (mz x hx).2 (mz y hy).2 hC) (by lia)
   (Q:=λ_ st=>((arrOf st).map (·.2)).toList.Perm vs/\((arrOf st).map (·.2)).toList.Pairwise (λu v=>LT v u=false)/\failedOf st=none) (λb p g hp hu=>by
    have he:∀x∈b,x.1=x.2:=λx hx=>(mz x (hp.mem_iff.mp hx)).1
    refine⟨?_,?_,rfl⟩
    .show(b.map (·.2)).toList.Perm vs
     have:=(Array.perm_iff_toList_perm.mp hp).map (·.2)
     rw[<-Array.toList_map,<-Array.toList_map,zs]at this;exact this
    .show(b.map (·.2)).toList.Pairwise _
     rw[Array.toList_map,Yc];have bz:b.size=vs.length:=by rw[hp.size_eq,sz]
     rw[sz,<-bz]at hu;refine(SM.pw_up hu).imp_of_mem λ{x y} hx hy q=>?_
     rw[<-he x (by simpa using hx),<-he y (by simpa using hy)];exact q)
  refine Z_ (YU run ?_ λ_ _ e=>e)
  rintro⟨⟨⟩,i_⟩ s' ⟨rfl,hp,hs,hf⟩
  exact fin i_ hp hs hf
end
noncomputable def bu(lt:D->D->Z9 Bool):Z8 D->Z8 D->Z9 Bool
 |[],[]=>some false
 |[],_::_=>some true
 |_::_,[]=>some false
 |x::xs,y::ys=>if x=y then bu lt xs ys else lt x y
noncomputable def ltD:Nat->D->D->Z9 Bool
 |_,.int i,.int j=>some (decide (i<j))
 |_,.str x,.str y=>some (decide (x.cps.toList<y.cps.toList))
 |n+1,.tup xs,.tup ys=>bu (ltD n) xs ys
 |n+1,.lst xs,.lst ys=>bu (ltD n) xs ys
 |_,_,_=>none
def sQ{x y:Str}(h:x.cps.toList=y.cps.toList):x=y:=by
 obtain⟨a⟩:=x;obtain⟨b⟩:=y;simp only at h;rw[Array.toList_inj.mp h]
section
variable{lt:D->D->Z9 Bool}
theorem kW(h:∀x y z,lt x y=some true->lt y z=some true->lt x z=some true)(hi:∀x y,lt x y=some true->lt y x≠some true):∀xs ys zs,bu lt xs ys=some true->bu lt ys zs=some true->bu lt xs zs=some true
 |[],[],_,a,_=>by simp[bu]at a
 |[],_::_,[],_,b=>by simp[bu]at b
 |[],_::_,_::_,_,_=>by simp[bu]
 |_::_,[],_,a,_=>by simp[bu]at a
 |_::_,_::_,[],_,b=>by simp[bu]at b
 |x::xs,y::ys,z::zs,a,b=>by
  simp only[bu]at a b⊢
  by_cases e1:x=y
  .subst e1
   rw[Z0 rfl]at a
   by_cases e2:x=z
   .subst e2
    rw[Z0 rfl]at b⊢;exact kW h hi xs ys zs a b
   .rw[ZY e2]at b⊢;exact b
  .rw[ZY e1]at a
   by_cases e2:y=z
   .subst e2
    rw[ZY e1];exact a
   .rw[ZY e2]at b
    by_cases e3:x=z
    .subst e3;exact absurd b (hi _ _ a)
    .rw[ZY e3];exact h _ _ _ a b
theorem lj(hi:∀x y,lt x y=some true->lt y x≠some true):∀xs ys,bu lt xs ys=some true->bu lt ys xs≠some true
 |[],[],a=>by simp[bu]at a
 |[],_::_,_=>by simp[bu]
 |_::_,[],a=>by simp[bu]at a
 |x::xs,y::ys,a=>by
  simp only[bu]at a⊢
  by_cases e1:x=y
  .subst e1
   rw[Z0 rfl]at a⊢;exact lj hi xs ys a
  .rw[ZY e1]at a
   rw[ZY (ZD e1)];exact hi _ _ a
theorem ij(h:∀x y,lt x y=some false->x=y\/lt y x=some true):∀xs ys,bu lt xs ys=some false->xs=ys\/bu lt ys xs=some true
 |[],[],_=>.inl rfl
 |[],_::_,a=>by simp[bu]at a
 |_::_,[],_=>.inr (by simp[bu])
 |x::xs,y::ys,a=>by
  simp only[bu]at a⊢
  by_cases e1:x=y
  .subst e1
   rw[Z0 rfl]at a⊢
   rcases ij h xs ys a with q|q
   .exact .inl (by rw[q])
   .exact .inr q
  .rw[ZY e1]at a
   rcases h x y a with q|q
   .exact absurd q e1
   .rw[ZY (ZD e1)];exact .inr q
end
def kj:∀(n:Nat)(x y:D),ltD n x y=some true->ltD n y x≠some true:=by
 intro n
 induction n with
 |zero=>
  intro x y h;cases x<;>cases y<;>simp only[ltD,ZM,Zi,reduceCtorEq]at h<;>simp only[ltD,ne_eq,ZM,Zi]
  .lia
  .exact List.lt_asymm h
 |succ n ih=>
  intro x y h;cases x<;>cases y<;>simp only[ltD,ZM,Zi,reduceCtorEq]at h<;>simp only[ltD,ne_eq,ZM,Zi]
  .lia
  .exact List.lt_asymm h
  .exact lj ih _ _ h
  .exact lj ih _ _ h
def AX:∀(n:Nat)(x y z:D),ltD n x y=some true->ltD n y z=some true->ltD n x z=some true:=by
 intro n
 induction n with
 |zero=>
  intro x y z h h';cases x<;>cases y<;>simp only[ltD,ZM,Zi,reduceCtorEq]at h<;>cases z<;>simp only[ltD,ZM,Zi,reduceCtorEq]at h'<;>simp only[ltD,ZM,Zi]
  .lia
  .exact List.lt_trans h h'
 |succ n ih=>
  intro x y z h h';cases x<;>cases y<;>simp only[ltD,ZM,Zi,reduceCtorEq]at h<;>cases z<;>simp only[ltD,ZM,Zi,reduceCtorEq]at h'<;>simp only[ltD,ZM,Zi]
  .lia
  .exact List.lt_trans h h'
  .exact kW ih (kj n) _ _ _ h h'
  .exact kW ih (kj n) _ _ _ h h'
def kT:∀(n:Nat)(x y:D),ltD n x y=some false->x=y\/ltD n y x=some true:=by
 intro n
 induction n with
 |zero=>
  intro x y h;cases x<;>cases y<;>simp only[ltD,ZM,Xw,reduceCtorEq]at h<;>simp only[ltD,ZM,Zi,D.int.injEq,D.str.injEq]
  .lia
  .rename_i x y
   by_cases q:y.cps.toList<x.cps.toList
   .exact .inr q
   .exact .inl (sQ (List.le_antisymm (List.not_lt.mp q) (List.not_lt.mp h)))
 |succ n ih=>
  intro x y h;cases x<;>cases y<;>simp only[ltD,ZM,Xw,reduceCtorEq]at h<;>simp only[ltD,ZM,Zi,D.int.injEq,D.str.injEq,D.tup.injEq,D.lst.injEq]
  .lia
  .rename_i x y
   by_cases q:y.cps.toList<x.cps.toList
   .exact .inr q
   .exact .inl (sQ (List.le_antisymm (List.not_lt.mp q) (List.not_lt.mp h)))
  .exact ij ih _ _ h
  .exact ij ih _ _ h
def LtAt(A:Za)(s:ZP)(y x:Z3)(b:Bool):Prop:=
 ∀(prog:Y1)(w:YO)(E:Z3->ZP->Prop)(Q:Z3->ZP->Prop),Q (.bool b) s->wpAny (model prog w) A (richCompare .Lt y x) Q E s
inductive LexAt (A:Za)(s:ZP):List Z3->List Z3->Bool->Prop
 |none:LexAt A s [] [] false
 |less {w:Z3}{ws:List Z3}:LexAt A s [] (w::ws) true
 |more {v:Z3}{vs:List Z3}:LexAt A s (v::vs) [] false
 |eq {v w:Z3}{vs ws:List Z3}{b:Bool}:SeqAt.EqAt A s v w true->LexAt A s vs ws b->LexAt A s (v::vs) (w::ws) b
 |ne {v w:Z3}{vs ws:List Z3}{b:Bool}:SeqAt.EqAt A s v w false->LtAt A s v w b->LexAt A s (v::vs) (w::ws) b
section
open PySem.SeqAt
open PySem.AutoSeq1 (wpAny_loadPart')
open PySem.MeetsSeq PySem.MeetsSeq2 PySem.MeetsSeq3
def rZ(l b:ZN)(items f_:Array Z3)(n n2:Nat)(dd Gy:Z9 ZN)(sl Gw:Array (Z9 Z3))(r:Bool):
  Meets (Builtin.«tuple.__lt__» ⟨[.ref l,.ref b],[]⟩)
   (λA R s=>s.heap.get? l=some {cls:=.type "tuple",dict:=dd,data:=.seq items n,slots:=sl}/\s.heap.get? b=some {cls:=.type "tuple",dict:=Gy,data:=.seq f_ n2,slots:=Gw}/\
    LexAt A.in1 s items.toList f_.toList r/\R (.ok (.ret (.bool r))) s):=
 .of_wp λprog w A R s h=>by
  obtain⟨hp,g,d,tk,os⟩:=s;obtain⟨hl,hb,hx,h⟩:=h;have f2:=WI
  wp_walk using wpAny_loadPart' hl,wpAny_loadPart' hb,Xf _ (λam b s'=>b.1=none/\s'=⟨hp,g,d,tk,os⟩/\∃(vs ws:Z8 Z3),am=vs.zip ws/\
   LexAt A.in1 ⟨hp,g,d,tk,os⟩ vs ws r/\vs.length+f_.size=ws.length+items.size) _
  case turn=>
   rintro⟨y,x⟩ am b s' ⟨Gj,rfl,vs,ws,hz,J8,hlen⟩
   cases J8 with
   |none=>rw[List.zip_nil_left]at hz;trivial
   |less=>rw[List.zip_nil_left]at hz;trivial
   |more=>rw[List.zip_nil_right]at hz;trivial
   |eq he ht=>
    rw[List.zip_cons_cons]at hz;injection hz with K3 C_
    injection K3 with hy IB
    subst hy IB;simp only[List.length_cons]at hlen;refine Z_ (he prog w _ _ ?_)
    wp_walk
    exact⟨rfl,rfl,_,_,C_,ht,by lia⟩
   |ne he k_=>
    rw[List.zip_cons_cons]at hz;injection hz with K3 C_
    injection K3 with hy IB
    subst hy IB;refine Z_ (he prog w _ _ ?_)
    have Nj:=k_ prog w
    wp_walk using Nj
    exact⟨_,rfl,by simpa using h⟩
  case fin=>
   rintro⟨b1,b2⟩ s' ⟨Gj,rfl,vs,ws,hz,J8,hlen⟩
   simp only at Gj;subst Gj;have hv:r=decide (items.size<f_.size):=by
    cases J8 with
    |none=>simp only[List.length_nil]at hlen;exact(ZC (by lia)).symm
    |less=>simp only[List.length_nil,List.length_cons]at hlen;exact(Zt (by lia)).symm
    |more=>simp only[List.length_nil,List.length_cons]at hlen;exact(ZC (by lia)).symm
    |eq _ _=>rw[List.zip_cons_cons]at hz;trivial
    |ne _ _=>rw[List.zip_cons_cons]at hz;trivial
   rw[hv]at h
   wp_walk
   exact⟨_,rfl,by simpa[Builtin.Tuple.tupleCompareSizes]using h⟩
  case h=>exact⟨rfl,rfl,items.toList,f_.toList,rfl,hx,by simp only[Array.length_toList];lia⟩
end
def LtAt.tuples(hl:s.heap.IsTuple l items)(hb:s.heap.IsTuple b f_)(hu:A.units<cLine)(hx:LexAt A.in1 s items.toList f_.toList r):LtAt A s (.ref l) (.ref b) r:=λprog w E Q h=>by
 obtain⟨⟨cls,dd,data,sl⟩,ho,hc,n,hd⟩:=id hl;obtain⟨⟨Jf,Gy,data2,Gw⟩,GI,GV,n2,hd2⟩:=id hb;simp only at hc hd GV hd2;subst hc hd GV hd2;exact WB (op:=.Lt) ⟨_,ho,rfl⟩ ⟨_,GI,rfl⟩ PySem.F.slot_tuple_lt PySem.F.entry_tuple_lt (PySem.F.args_tuple_lt_2 _ _) (rZ l b items f_ n n2 dd Gy sl Gw r)
  ⟨ho,GI,hx,show Value.bool r≠Value.notImplemented/\Q (.bool r) s from⟨(λx=>nomatch x),h⟩⟩ hu
section
open PySem.SeqAt
open PySem.AutoSeq1 (wpAny_loadPart')
open PySem.MeetsSeq PySem.MeetsSeq2 PySem.MeetsSeq3
def qr(l b:ZN)(items f_:Array Z3)(n n2:Nat)(dd Gy:Z9 ZN)(sl Gw:Array (Z9 Z3))(r:Bool)(k:Nat):
  ∀i:Nat,i<=items.size->i<=f_.size->items.size - i=k->Meets (Builtin.«list.__eq__.loop» ⟨[.ref l,.ref b,rawInt i,rawInt 0],[]⟩)
   (λA R s=>s.heap.get? l=some {cls:=.type "list",dict:=dd,data:=.seq items n,slots:=sl}/\s.heap.get? b=some {cls:=.type "list",dict:=Gy,data:=.seq f_ n2,slots:=Gw}/\
    LexAt A.in1 s (items.toList.drop i) (f_.toList.drop i) r/\R (.ok (.ret (.bool r))) s):=by
 induction k with
 |zero=>
  intro i hi hj hk prog w A R s h;obtain⟨hp,g,d,tk,os⟩:=s;obtain⟨hl,hb,hx,h⟩:=h
  wp_walk using wpAny_loadPart' hl,wpAny_loadPart' hb
  have JF:items[((i:Nat):Int).toNat]?=none:=by simp;lia
  have e1:items.toList.drop i=[]:=WV (by rw[Array.length_toList];lia)
  rw[e1]at hx;have hr:r=decide (items.size<f_.size):=by
   generalize e2:f_.toList.drop i=ws at hx;have hz:=congrArg List.length e2;rw[List.length_drop,Array.length_toList]at hz;cases hx with
   |none=>simp at hz;exact(ZC (by lia)).symm
   |less=>simp at hz;exact(Zt (by lia)).symm
  rw[JF]
  wp_walk using wpAny_loadPart' hl,wpAny_loadPart' hb
  show R (.ok (.ret (.bool (decide (items.size<f_.size))))) _;rw[<-hr];exact h
 |succ k ih=>
  intro i hi hj hk prog w A R s h;obtain⟨hp,g,d,tk,os⟩:=s;obtain⟨hl,hb,hx,h⟩:=h
  wp_walk using wpAny_loadPart' hl,wpAny_loadPart' hb
  have k_:i<items.size:=by lia
  have JF:items[((i:Nat):Int).toNat]?=some items[i]:=by simp[k_]
  have d1:items.toList.drop i=items[i]::items.toList.drop (i+1):=by rw[Zo (by simpa using k_)];simp
  have hc:((i:Int)+1)=((i+1:Nat):Int):=by push_cast;rfl
  rw[d1]at hx
  by_cases LO:i<f_.size
  .have Jo:f_[((i:Nat):Int).toNat]?=some f_[i]:=by simp[LO]
   have d2:f_.toList.drop i=f_[i]::f_.toList.drop (i+1):=by rw[Zo (by simpa using LO)];simp
   rw[d2]at hx;rw[JF,Jo];cases hx with
   |eq he ht=>
    refine Z_ (he prog w _ _ ?_)
    wp_walk
    rw[hc];exact⟨Yp plain_eq_loop _,YC entry_eq_loop (by
     rw[Y4 plain_eq_loop _];exact ih (i+1) (by lia) (by lia) (by lia) prog w A R _ ⟨hl,hb,ht,h⟩)⟩
   |ne he ht=>
    refine Z_ (he prog w _ _ ?_)
    have Nj:=ht prog w
    wp_walk using wpAny_loadPart' hl,wpAny_loadPart' hb
    rw[JF,Jo]
    wp_walk using Nj
    exact h
  .have Jo:f_[((i:Nat):Int).toNat]?=none:=by simp;lia
   have e2:f_.toList.drop i=[]:=WV (by rw[Array.length_toList];lia)
   rw[e2]at hx;cases hx;rw[JF,Jo]
   wp_walk using wpAny_loadPart' hl,wpAny_loadPart' hb
   show R (.ok (.ret (.bool (decide (items.size<f_.size))))) _;rw[ZC (by lia)];exact h
def mt(l b:ZN)(items f_:Array Z3)(n n2:Nat)(dd Gy:Z9 ZN)(sl Gw:Array (Z9 Z3))(r:Bool):
  Meets (Builtin.«list.__lt__» ⟨[.ref l,.ref b],[]⟩)
   (λA R s=>s.heap.get? l=some {cls:=.type "list",dict:=dd,data:=.seq items n,slots:=sl}/\s.heap.get? b=some {cls:=.type "list",dict:=Gy,data:=.seq f_ n2,slots:=Gw}/\
    LexAt A.in1 s items.toList f_.toList r/\R (.ok (.ret (.bool r))) s):=by
 intro prog w A R s h;obtain⟨hp,g,d,tk,os⟩:=s;obtain⟨hl,hb,hx,h⟩:=h;have f3:=AutoSeq1.sub_list_list
 wp_walk using wpAny_loadPart' hl,wpAny_loadPart' hb
 exact⟨Yp plain_eq_loop _,YC entry_eq_loop (by
  rw[Y4 plain_eq_loop _];exact qr l b items f_ n n2 dd Gy sl Gw r _ 0 (Zs _) (Zs _) rfl prog w A R _ ⟨hl,hb,hx,h⟩)⟩
end
def LtAt.lists(hl:s.heap.IsList l items)(hb:s.heap.IsList b f_)(hu:A.units<cLine)(hx:LexAt A.in1 s items.toList f_.toList r):LtAt A s (.ref l) (.ref b) r:=λprog w E Q h=>by
 obtain⟨⟨cls,dd,data,sl⟩,ho,hc,n,hd⟩:=id hl;obtain⟨⟨Jf,Gy,data2,Gw⟩,GI,GV,n2,hd2⟩:=id hb;simp only at hc hd GV hd2;subst hc hd GV hd2;exact WB (op:=.Lt) ⟨_,ho,rfl⟩ ⟨_,GI,rfl⟩ WH PySem.F.entry_list_lt (PySem.F.args_list_lt_2 _ _) (mt l b items f_ n n2 dd Gy sl Gw r)
  ⟨ho,GI,hx,show Value.bool r≠Value.notImplemented/\Q (.bool r) s from⟨(λx=>nomatch x),h⟩⟩ hu
def oA(hl:s.heap.IsList l items)(hb:s.heap.IsList b f_)(hu:A.units<cLine)(hx:LexAt A.in1 s items.toList f_.toList r)(h:Q r s):
  wpAny (model prog w) A (oneLt' true (.ref l) (.ref b)) Q E s:=by
 obtain⟨⟨cls,dd,data,sl⟩,ho,hc,n,hd⟩:=id hl;obtain⟨⟨Jf,Gy,data2,Gw⟩,GI,GV,n2,hd2⟩:=id hb;simp only at hc hd GV hd2;subst hc hd GV hd2;rw[oneLt'_eq];simp only[Y2];refine Z_ (wpAny_cRoomFor hu ?_)
 refine Z_ (wpAny_callSpecialIfBound?_slot ⟨_,ho,rfl⟩ WH (WA WH ⟨_,ho,rfl⟩ PySem.F.entry_list_lt (PySem.F.args_list_lt_2 _ _) (mt l b items f_ n n2 dd Gy sl Gw r) ⟨ho,GI,hx,?_⟩))
 exact X4 h
section
theorem nU(I:Inv X a_ σ H s)(hA:A.units+n+1<cLine)(ih:∀(d e:D)(x y:V)(u w:Z3)(r:Bool),okD n d=true->okD n e=true->Rep X.K B H d x->Rep X.K B' H e y->RelV x u->RelV y w->ltD n d e=some r->LtAt A s u w r):
  ∀(ds es:Z8 D)(xs ys:Z8 V)(us ws:Z8 Z3)(r:Bool),ds.all (okD n)=true->es.all (okD n)=true->Reps X.K B H ds xs->Reps X.K B' H es ys->Vals xs us->Vals ys ws->bu (ltD n) ds es=some r->LexAt A s us ws r
 |[],[],xs,ys,us,ws,r,hd,he,r1,r2,v1,v2,h=>by
  simp only[Reps]at r1 r2;subst r1 r2;cases v1;cases v2;simp only[bu,ZM]at h;subst h;exact .none
 |[],e::es,xs,ys,us,ws,r,hd,he,r1,r2,v1,v2,h=>by
  simp only[Reps]at r1 r2;subst r1;obtain⟨y,t,rfl,_,_⟩:=r2;cases v1;cases v2;simp only[bu,ZM]at h;subst h;exact .less
 |d::ds,[],xs,ys,us,ws,r,hd,he,r1,r2,v1,v2,h=>by
  simp only[Reps]at r1 r2;subst r2;obtain⟨y,t,rfl,_,_⟩:=r1;cases v1;cases v2;simp only[bu,ZM]at h;subst h;exact .more
 |d::ds,e::es,xs,ys,us,ws,r,hd,he,r1,r2,v1,v2,h=>by
  simp only[Reps]at r1 r2;obtain⟨x,xt,rfl,K0,MU⟩:=r1;obtain⟨y,yt,rfl,KY,MT⟩:=r2;cases v1 with
  |cons va vb=>
   cases v2 with
   |cons wa wb=>
    rw[List.all_cons,ZH]at hd he;have q:=(zS I n d e x y _ _ A hd.1 he.1 hA K0 KY va wa).2.1;simp only[bu]at h
    by_cases c:d=e
    .rw[Z0 c]at h
     rw[Zt c]at q;exact .eq q (nU I hA ih ds es xt yt _ _ r hd.2 he.2 MU MT vb wb h)
    .rw[ZY c]at h
     rw[ZC c]at q;exact .ne q (ih d e x y _ _ r hd.1 he.1 K0 KY va wa h)
def Cr(I:Inv X a_ σ H s):∀(n:Nat)(d e:D)(x y:V)(u w:Z3)(r:Bool)(A:Za),okD n d=true->okD n e=true->A.units+n+1<cLine->Rep X.K B H d x->Rep X.K B' H e y->RelV x u->RelV y w->ltD n d e=some r->LtAt A s u w r:=by
 intro n;have flat:∀(d e:D)(x y:V)(u w:Z3)(r:Bool)(A:Za),Rep X.K B H d x->Rep X.K B' H e y->RelV x u->RelV y w->ltD 0 d e=some r->LtAt A s u w r:=λd e x y u w r A rd re rx ry h=>by
  cases d with
  |int i=>
   cases e with
   |int j=>
    simp only[Rep]at rd re;subst rd re;obtain⟨t,rfl⟩:=rx;obtain⟨t',rfl⟩:=ry;simp only[ltD,ZM]at h;subst h;exact λprog w E Q hq=>HT.rcLt_int A s i t j t' prog w E Q hq
   |_=>simp[ltD]at h
  |str i=>
   cases e with
   |str j=>
    simp only[Rep]at rd re;subst rd re;obtain⟨t,rfl⟩:=rx;obtain⟨t',rfl⟩:=ry;simp only[ltD,ZM]at h;subst h;exact λprog w E Q hq=>(lt_str hq:wpAny (model prog w) A (compareOp .Lt (.str i t) (.str j t')) Q E s)
   |_=>simp[ltD]at h
  |_=>simp[ltD]at h
 induction n with
 |zero=>exact λd e x y u w r A _ _ _ rd re rx ry h=>flat d e x y u w r A rd re rx ry h
 |succ n ih=>
  intro d e x y u w r A hd he hA rd re rx ry h;cases d with
  |tup ds=>
   cases e with
   |tup es=>
    simp only[Rep]at rd re;obtain⟨a,xs,rfl,hq,r1⟩:=rd;obtain⟨b,ys,rfl,Hn,r2⟩:=re;cases rx;cases ry;obtain⟨its,v1,t1,_⟩:=I.tuple (SqT.of hq);obtain⟨l_,v2,t2,_⟩:=I.tuple (SqT.of Hn);simp only[okD]at hd he;simp only[ltD]at h;have Hc:A.in1.units+n+1<cLine:=by show A.units+1+n+1<cLine;lia
    exact LtAt.tuples t1 t2 (by lia) (by simpa using nU I Hc (λd e x y u w r o1 o2 r1 r2 v1 v2 hl=>ih d e x y u w r A.in1 o1 o2 Hc r1 r2 v1 v2 hl) ds es xs ys its l_ r hd he r1 r2 v1 v2 h)
   |_=>simp[ltD]at h
  |lst ds=>
   cases e with
   |lst es=>
    simp only[Rep]at rd re;obtain⟨a,xs,rfl,hq,r1⟩:=rd;obtain⟨b,ys,rfl,Hn,r2⟩:=re;cases rx;cases ry;obtain⟨its,v1,t1,_⟩:=I.list hq.sq;obtain⟨l_,v2,t2,_⟩:=I.list Hn.sq;simp only[okD]at hd he;simp only[ltD]at h;have Hc:A.in1.units+n+1<cLine:=by show A.units+1+n+1<cLine;lia
    exact LtAt.lists t1.isList t2.isList (by lia) (by simpa using nU I Hc (λd e x y u w r o1 o2 r1 r2 v1 v2 hl=>ih d e x y u w r A.in1 o1 o2 Hc r1 r2 v1 v2 hl) ds es xs ys its l_ r hd he r1 r2 v1 v2 h)
   |_=>simp[ltD]at h
  |int i=>cases e<;>first|(simp[ltD]at h;done)|exact flat _ _ x y u w r A rd re rx ry (by simpa only[ltD]using h)
  |str i=>cases e<;>first|(simp[ltD]at h;done)|exact flat _ _ x y u w r A rd re rx ry (by simpa only[ltD]using h)
  |_=>simp[ltD]at h
end
def leD(x y:D):Prop:=ltD 15 y x≠some true
def l6(x:D):Z8 D->Z8 D
 |[]=>[x]
 |y::ys=>if ltD 15 y x=some true then y::l6 x ys else x::y::ys
def ck(ds:Z8 D):Z8 D:=ds.foldr l6 []
def eK(ds:Z8 D):Bool:=ds.all λx=>okD 15 x&&ds.all λy=>(ltD 15 x y).isSome
def iw(h:eK ds=true)(hx:x∈ds)(hy:y∈ds):∃b,ltD 15 x y=some b:=by
 unfold eK at h;have h1:=ZO.mp h x hx;rw[ZH]at h1;exact Option.isSome_iff_exists.mp (ZO.mp h1.2 y hy)
def iD(h:eK ds=true)(hx:x∈ds):okD 15 x=true:=by
 unfold eK at h;have h1:=ZO.mp h x hx;rw[ZH]at h1;exact h1.1
theorem fO(x:D):∀l:Z8 D,(l6 x l).Perm (x::l)
 |[]=>YW _
 |y::ys=>by
  unfold l6;split
  .exact((fO x ys).cons y).trans (List.Perm.swap x y ys)
  .exact YW _
theorem bd:∀ds:Z8 D,(ck ds).Perm ds
 |[]=>YW _
 |d::ds=>by
  show(l6 d (ck ds)).Perm (d::ds);exact(fO d _).trans ((bd ds).cons d)
def wF(h:eK ds=true)(hx:x∈ds)(hy:y∈ds)(hz:z∈ds)(a:leD x y)(b:leD y z):leD x z:=by
 unfold leD at*;intro c;obtain⟨r1,e1⟩:=iw h hy hx;obtain⟨r2,e2⟩:=iw h hz hy;cases r1 with
 |true=>exact a e1
 |false=>
  cases r2 with
  |true=>exact b e2
  |false=>
   rcases kT 15 _ _ e1 with q1|q1
   .subst q1;exact b c
   .rcases kT 15 _ _ e2 with q2|q2
    .subst q2;exact a c
    .exact kj 15 _ _ (AX 15 _ _ _ q1 q2) c
def wn(h:eK ds=true)(hx:x∈ds)(hy:y∈ds)(a:leD x y)(b:leD y x):x=y:=by
 unfold leD at*;obtain⟨r1,e1⟩:=iw h hx hy;cases r1 with
 |true=>exact absurd e1 b
 |false=>
  rcases kT 15 _ _ e1 with q|q
  .exact q
  .exact absurd q a
theorem fF(h:eK ds=true)(hx:x∈ds):∀l:Z8 D,(∀y∈l,y∈ds)->l.Pairwise leD->(l6 x l).Pairwise leD
 |[],_,_=>by simp[l6]
 |y::ys,hm,hp=>by
  unfold l6;obtain⟨h1,h2⟩:=Yk.mp hp;have hy:=hm y ZX;split
  .rename_i c
   refine Yk.mpr ⟨λz hz=>?_,fF h hx ys (λz hz=>hm z (Z2 _ hz)) h2⟩
   rcases ZZ.mp ((fO x ys).mem_iff.mp hz)with q|q
   .subst q;exact kj 15 _ _ c
   .exact h1 z q
  .rename_i c
   refine Yk.mpr ⟨λz hz=>?_,hp⟩
   rcases ZZ.mp hz with q|q
   .subst q;exact c
   .exact wF h hx hy (hm z hz) c (h1 z q)
def bC(h:eK ds=true):(ck ds).Pairwise leD:=by
 have key:∀l:Z8 D,(∀y∈l,y∈ds)->(ck l).Pairwise leD:=by
  intro l
  induction l with
  |nil=>intro _;exact List.Pairwise.nil
  |cons y l ih=>
   intro hm;exact fF h (hm y ZX) _ (λz hz=>hm z (Z2 _ ((bd l).mem_iff.mp hz))) (ih λz hz=>hm z (Z2 _ hz))
 exact key ds λ_ h=>h
theorem cL(h:eK ds=true):∀(l1 l2:Z8 D),(∀y∈l1,y∈ds)->l1.Perm l2->l1.Pairwise leD->l2.Pairwise leD->l1=l2
 |[],l2,_,hp,_,_=>(List.nil_perm.mp hp).symm
 |a::l1,[],_,hp,_,_=>(List.perm_nil.mp hp)
 |a::l1,b::l2,hm,hp,h1,h2=>by
  obtain⟨p1,q1⟩:=Yk.mp h1;obtain⟨p2,q2⟩:=Yk.mp h2;have Ld:∀y∈b::l2,y∈ds:=λy hy=>hm y (hp.mem_iff.mpr hy)
  have ab:a=b:=by
   have ha:a∈b::l2:=hp.mem_iff.mp ZX;have hb:b∈a::l1:=hp.mem_iff.mpr ZX
   rcases ZZ.mp ha with z|z
   .exact z
   .rcases ZZ.mp hb with y|y
    .exact y.symm
    .exact wn h (hm a ZX) (Ld b ZX) (p1 b y) (p2 a z)
  subst ab;rw[cL h l1 l2 (λy hy=>hm y (Z2 _ hy)) (List.perm_cons a |>.mp hp) q1 q2]
inductive KD|st|it|ts|tt|ls
def dP:KD->D->Bool
 |.st,.str _=>true
 |.it,.int _=>true
 |.ts,.tup (.str _::_)=>true
 |.tt,.tup (.tup _::_)=>true
 |.ls,.lst _=>true
 |_,_=>false
def kR(h:dP .ts d=true):∃x ds,d=.tup (.str x::ds):=by
 unfold dP at h;split at h
 .trivial
 .trivial
 .exact⟨_,_,rfl⟩
 .trivial
 .trivial
 .trivial
def kQ(h:dP .tt d=true):∃x ds,d=.tup (.tup x::ds):=by
 unfold dP at h;split at h
 .trivial
 .trivial
 .trivial
 .exact⟨_,_,rfl⟩
 .trivial
 .trivial
def zH:KD->SortKind
 |.st=>oneType'
 |.it=>oneType'
 |.ts=>tuples' true
 |.tt=>tuples' false
 |.ls=>oneType'
section
def gJ:∀{vs ws:Z8 Z3}{i:Nat},LexAt A s vs ws r->(b=false\/1<=i)->(fin=decide (vs.length<ws.length))->Q r s->KatLex prog w A b fin Q (vs.zip ws) i s:=by
 intro vs ws i h
 induction h generalizing i with
 |none=>
  intro hb hf q;subst hf;exact kat_nil (by simpa using q)
 |less=>
  intro hb hf q;rw[List.zip_nil_left];subst hf;exact kat_nil (by simpa using q)
 |more=>
  intro hb hf q;rw[List.zip_nil_right];subst hf;exact kat_nil (by simpa using q)
 |eq he ht ih=>
  intro hb hf q;rw[List.zip_cons_cons];refine kat_cons (he prog w _ _ (kat_yes ?_))
  exact ih (.inr (by lia)) (by rw[hf];simp) q
 |ne he hl=>
  intro hb hf q;rw[List.zip_cons_cons];refine kat_cons (he prog w _ _ (kat_no ?_))
  have hz:(b&&i==0)=false:=by
   rcases hb with z|z
   .rw[z,Bool.false_and]
   .have:(i==0)=false:=by simp;lia
    rw[this,WE]
  rw[hz];exact kat_one _ _ (hl prog w _ _ q)
end
section
def BK(I:Inv X a_ σ H s)(hA:A.units+20<cLine)(hd:okD 15 d=true)(he:okD 15 e=true)(kd:dP c d=true)(ke:dP c e=true)(rd:Rep X.K B H d x)(re:Rep X.K B' H e y)(rx:RelV x u)(ry:RelV y w')(h:ltD 15 d e=some r)(q:C r s):wpAny (model X.prog X.w) A (keyLt' (zH c) u w') C (λ_ _=>False) s:=by
 cases c with
 |st=>
  cases d<;>simp only[dP,ZJ]at kd
  cases e<;>simp only[dP,ZJ]at ke
  simp only[Rep]at rd re;subst rd re;obtain⟨t,rfl⟩:=rx;obtain⟨t',rfl⟩:=ry;simp only[ltD,ZM]at h;subst h;show wpAny _ _ (keyLt' oneType' _ _) _ _ _;rw[keyLt'_oneType];exact oneLt_str q
 |it=>
  cases d<;>simp only[dP,ZJ]at kd
  cases e<;>simp only[dP,ZJ]at ke
  simp only[Rep]at rd re;subst rd re;obtain⟨t,rfl⟩:=rx;obtain⟨t',rfl⟩:=ry;simp only[ltD,ZM]at h;subst h;show wpAny _ _ (keyLt' oneType' _ _) _ _ _;rw[keyLt'_oneType];exact oneLt_int q
 |ts=>
  obtain⟨i,ds,rfl⟩:=kR kd;obtain⟨j,es,rfl⟩:=kR ke;simp only[Rep]at rd re;obtain⟨a,xs,rfl,hq,r1⟩:=rd;obtain⟨b,ys,rfl,Hn,r2⟩:=re;cases rx;cases ry;obtain⟨its,v1,⟨o1,g1,c1,n1,d1⟩,_⟩:=I.tuple (SqT.of hq);obtain⟨l_,v2,⟨o2,g2,c2,n2,d2⟩,_⟩:=I.tuple (SqT.of Hn);refine kat_lt g1 d1 g2 d2 ?_
  simp only[Reps]at r1 r2;obtain⟨x,xt,rfl,K0,MU⟩:=r1;obtain⟨y,yt,rfl,KY,MT⟩:=r2;simp only[Rep]at K0 KY;subst K0 KY;simp only[okD,List.all_cons,ZH]at hd he;simp only[ltD,bu,D.str.injEq]at h;cases v1 with
  |cons va vb=>
   cases v2 with
   |cons wa wb=>
    obtain⟨t,rfl⟩:=va;obtain⟨t',rfl⟩:=wa;show KatLex _ _ _ _ _ _ ((Value.str i t::_).zip (Value.str j t'::_)) 0 s;rw[List.zip_cons_cons]
    by_cases NQ:i=j
    .subst NQ
     rw[Z0 rfl]at h;have q1:=SeqAt.EqAt.str_str (A:=A) (s:=s) i t i t';rw[X2]at q1;refine kat_cons (q1 _ _ _ _ (kat_yes ?_))
     have lx:=nU (B:=B) (B':=B') I (n:=14) (A:=A) (by lia) (λd e x y u w r o1 o2 r1 r2 v1 v2 hl=>Cr I 14 d e x y u w r A o1 o2 (by lia) r1 r2 v1 v2 hl) ds es xt yt _ _ r
      hd.2 he.2 MU MT vb wb h
     exact gJ lx (.inr (ZQ _)) (by simp) q
    .rw[ZY NQ]at h
     have q1:=SeqAt.EqAt.str_str (A:=A) (s:=s) i t j t';have eb:(i==j)=false:=by simpa using NQ
     rw[eb]at q1;refine kat_cons (q1 _ _ _ _ (kat_no ?_))
     simp only[ZM]at h;subst h;exact oneLt_str q
 |tt=>
  obtain⟨i,ds,rfl⟩:=kQ kd;obtain⟨j,es,rfl⟩:=kQ ke;have Gx:=rd;have Tf:=re;simp only[Rep]at rd re;obtain⟨a,xs,rfl,hq,r1⟩:=rd;obtain⟨b,ys,rfl,Hn,r2⟩:=re;cases rx;cases ry;obtain⟨its,v1,⟨o1,g1,c1,n1,d1⟩,_⟩:=I.tuple (SqT.of hq);obtain⟨l_,v2,⟨o2,g2,c2,n2,d2⟩,_⟩:=I.tuple (SqT.of Hn);refine kat_lt g1 d1 g2 d2 ?_
  have D_:(D.tup i::ds).all (okD 14)=true:=by simpa only[okD]using hd
  have IT:(D.tup j::es).all (okD 14)=true:=by simpa only[okD]using he
  simp only[ltD]at h;have lx:=nU (B:=B) (B':=B') I (n:=14) (A:=A) (by lia) (λd e x y u w r o1 o2 r1 r2 v1 v2 hl=>Cr I 14 d e x y u w r A o1 o2 (by lia) r1 r2 v1 v2 hl) _ _ xs ys _ _ r D_ IT (by simpa only[Reps]using r1) (by simpa only[Reps]using r2) v1 v2 h
  exact gJ lx (.inl rfl) (by simp) q
 |ls=>
  cases d<;>simp only[dP,ZJ]at kd
  cases e<;>simp only[dP,ZJ]at ke
  simp only[Rep]at rd re;obtain⟨a,xs,rfl,hq,r1⟩:=rd;obtain⟨b,ys,rfl,Hn,r2⟩:=re;cases rx;cases ry;obtain⟨its,v1,t1,_⟩:=I.list hq.sq;obtain⟨l_,v2,t2,_⟩:=I.list Hn.sq;simp only[okD]at hd he;simp only[ltD]at h;have Hc:A.in1.units+14+1<cLine:=by show A.units+1+14+1<cLine;lia
  show wpAny _ _ (keyLt' oneType' _ _) _ _ _;rw[keyLt'_oneType];exact oA t1.isList t2.isList (by lia) (by simpa using nU I Hc (λd e x y u w r o1 o2 r1 r2 v1 v2 hl=>Cr I 14 d e x y u w r A.in1 o1 o2 Hc r1 r2 v1 v2 hl) _ _ xs ys its l_ r hd he r1 r2 v1 v2 h) q
def wc(I:Inv X a_ σ H s)(h2:2<=us.length)(hk:ds.all (dP c)=true)(r:Reps X.K B H ds xs)(v:Vals xs us)(q:Q (zH c) s):
  wpAny (model X.prog X.w) A (keyKind' us.toArray) Q (λ_ _=>False) s:=by
 have each:∀u∈us,∃d x,dP c d=true/\Rep X.K B H d x/\RelV x u:=λu hu=>by
  obtain⟨j,hj⟩:=X_ hu
  have hl:=v.length;have k_:j<xs.length:=by rw[hl];exact(ZV.mp hj).1
  obtain⟨u',Gn,ru⟩:=v.get (i:=j) (x:=xs[j]) (by simp[k_])
  rw[hj]at Gn;obtain rfl:=Z7 Gn;obtain⟨d,hd,rd⟩:=r.get' (i:=j) (x:=xs[j]) (by simp[k_])
  exact⟨d,xs[j],ZO.mp hk d (Zg hd),rd,ru⟩
 cases c with
 |st=>
  refine kas_kind (T:=.type "str") h2 (λu hu=>?_) (by decide) (by decide) q
  obtain⟨d,x,k1,rd,ru⟩:=each u hu;cases d<;>simp only[dP,ZJ]at k1
  simp only[Rep]at rd;subst rd;obtain⟨t,rfl⟩:=ru;exact .now
 |it=>
  refine kas_kind (T:=.type "int") h2 (λu hu=>?_) (by decide) (by decide) q
  obtain⟨d,x,k1,rd,ru⟩:=each u hu;cases d<;>simp only[dP,ZJ]at k1
  simp only[Rep]at rd;subst rd;obtain⟨t,rfl⟩:=ru;exact .now
 |ls=>
  refine kas_kind (T:=.type "list") h2 (λu hu=>?_) (by decide) (by decide) q
  obtain⟨d,x,k1,rd,ru⟩:=each u hu;cases d<;>simp only[dP,ZJ]at k1
  simp only[Rep]at rd;obtain⟨a,xs,rfl,hq,r1⟩:=rd;cases ru;obtain⟨its,v1,t1,_⟩:=I.list hq.sq;obtain⟨o,ho,hc,_⟩:=t1.isList;have:=(show Looks (model X.prog X.w) s.heap (typeOf (.ref a)) o.cls from(Looks.ld ho).andThen .now)
  rw[hc]at this;exact this
 |ts=>
  have mk:∀(ds:Z8 D)(xs:Z8 V)(us:Z8 Z3),ds.all (dP .ts)=true->Reps X.K B H ds xs->Vals xs us->∃fs,KatTups s.heap us fs/\fs.length=us.length/\∀f∈fs,∃z t,f=.str z t:=by
   intro ds
   induction ds with
   |nil=>intro xs us _ r v;simp only[Reps]at r;subst r;cases v;exact⟨[],.nil,rfl,λ_ h=>by cases h⟩
   |cons d ds ih=>
    intro xs us hk r v;simp only[Reps]at r;obtain⟨x,xt,rfl,ra,rb⟩:=r;cases v with
    |cons va vb=>
     rw[List.all_cons,ZH]at hk;obtain⟨fs,f1,f2,f3⟩:=ih xt _ hk.2 rb vb;obtain⟨z,es,rfl⟩:=kR hk.1;simp only[Rep]at ra;obtain⟨a,ys,rfl,hq,rs⟩:=ra;cases va;obtain⟨its,v1,⟨o1,g1,c1,n1,d1⟩,_⟩:=I.tuple (SqT.of hq);simp only[Reps]at rs;obtain⟨y,yt,rfl,ry,_⟩:=rs;simp only[Rep]at ry;subst ry;cases v1 with
     |cons w1 w2=>
      obtain⟨t,rfl⟩:=w1;exact⟨.str z t::fs,.cons g1 c1 d1 (by simp) f1,by simp[f2],λf hf=>by
       rcases ZZ.mp hf with q|q
       .exact⟨z,t,q⟩
       .exact f3 f q⟩
  obtain⟨fs,f1,f2,f3⟩:=mk ds xs us hk r v;refine kat_kind (T:=.type "str") f1 (by lia) (λf hf=>?_) (by decide) q
  obtain⟨z,t,rfl⟩:=f3 f hf;exact .now
 |tt=>
  have mk:∀(ds:Z8 D)(xs:Z8 V)(us:Z8 Z3),ds.all (dP .tt)=true->Reps X.K B H ds xs->Vals xs us->∃fs,KatTups s.heap us fs/\fs.length=us.length/\∀f∈fs,∃b o,f=.ref b/\s.heap.get? b=some o/\o.cls=.type "tuple":=by
   intro ds
   induction ds with
   |nil=>intro xs us _ r v;simp only[Reps]at r;subst r;cases v;exact⟨[],.nil,rfl,λ_ h=>by cases h⟩
   |cons d ds ih=>
    intro xs us hk r v;simp only[Reps]at r;obtain⟨x,xt,rfl,ra,rb⟩:=r;cases v with
    |cons va vb=>
     rw[List.all_cons,ZH]at hk;obtain⟨fs,f1,f2,f3⟩:=ih xt _ hk.2 rb vb;obtain⟨z,es,rfl⟩:=kQ hk.1;simp only[Rep]at ra;obtain⟨a,ys,rfl,hq,rs⟩:=ra;cases va;obtain⟨its,v1,⟨o1,g1,c1,n1,d1⟩,_⟩:=I.tuple (SqT.of hq);simp only[Reps]at rs;obtain⟨y,yt,rfl,ry,_⟩:=rs;simp only[Rep]at ry;obtain⟨b,zs,rfl,Ri,_⟩:=ry;cases v1 with
     |cons w1 w2=>
      cases w1;obtain⟨_,_,⟨o2,g2,c2,_⟩,_⟩:=I.tuple (SqT.of Ri);exact⟨.ref b::fs,.cons g1 c1 d1 (by simp) f1,by simp[f2],λf hf=>by
       rcases ZZ.mp hf with q|q
       .exact⟨b,o2,q,g2,c2⟩
       .exact f3 f q⟩
  obtain⟨fs,f1,f2,f3⟩:=mk ds xs us hk r v;refine kat_kind (T:=.type "tuple") f1 (by lia) (λf hf=>?_) (by decide) q
  obtain⟨b,o,rfl,g,hc⟩:=f3 f hf;rw[<-hc];exact(Looks.ld g).andThen .now
end
def Dp(h:eK ds=true){f:Z3->D}(hf:ds≠[]->∀u,f u∈ds)(h0:ds=[]->∀u,f u=.non):SM.OrdK λx y=>decide (ltD 15 (f x.1) (f y.1)=some true):=by
 by_cases hn:ds=[]
 .have e:=h0 hn
  exact⟨λi j q=>by simp only[e,ltD]at q;simp at q,λi j k _ _=>by simp[e,ltD]⟩
 .exact⟨λi j q=>ZC (kj 15 _ _ (Zf q)),λi j k a b=>ZC (wF h (hf hn _) (hf hn _) (hf hn _) (of_decide_eq_false a) (of_decide_eq_false b))⟩
section
variable{X:Cx}
def AE(I:Inv X a_ σ H s)(r:Reps X.K B H ds ys)(v:Vals ys us)(hc:eK ds=true):
  ∃f:Z3->D,(ds≠[]->∀u,f u∈ds)/\(ds=[]->∀u,f u=.non)/\us.map f=ds/\∀u∈us,∃y,Rep X.K B H (f u) y/\RelV y u:=by
 refine⟨λu=>open Classical in if h:∃d,d∈ds/\∃y,Rep X.K B H d y/\RelV y u then h.choose else ds.headD .non,λhn u=>?_,λhn u=>?_,?_⟩
 .dsimp only
  split
  .rename_i h;exact h.choose_spec.1
  .cases ds with
   |nil=>exact absurd rfl hn
   |cons d ds=>exact .head _
 .subst hn
  dsimp only;split
  .rename_i h;exact nomatch h.choose_spec.1
  .rfl
 .have key:∀i,i<us.length->∃d y u,ds[i]?=some d/\us[i]?=some u/\Rep X.K B H d y/\RelV y u:=λi hi=>by
   have l1:=r.length;have l2:=v.length;have s_:i<ds.length:=by lia
   obtain⟨x,hx,rx⟩:=r.get (i:=i) (d:=ds[i]) (by simp[s_])
   obtain⟨u,hu,ru⟩:=v.get hx;exact⟨ds[i],x,u,by simp[s_],hu,rx,ru⟩
  have val:∀d y u,d∈ds->Rep X.K B H d y->RelV y u->(open Classical in if h:∃d,d∈ds/\∃y,Rep X.K B H d y/\RelV y u then h.choose else ds.headD .non)=d:=λd y u hd hr hv=>by
   rw[dif_pos ⟨d,hd,y,hr,hv⟩];have h:∃d,d∈ds/\∃y,Rep X.K B H d y/\RelV y u:=⟨d,hd,y,hr,hv⟩;obtain⟨h1,y',h2,h3⟩:=h.choose_spec;cases RelV.inj h3 hv;exact Rep.inj I (iD hc h1) (iD hc hd) h2 hr
  constructor
  .refine Xp λi=>?_
   rw[Yv]
   by_cases hi:i<us.length
   .obtain⟨d,y,u,h1,h2,h3,h4⟩:=key i hi
    rw[h1,h2,Option.map_some,val d y u (Zg h1) h3 h4]
   .have l1:=r.length
    have l2:=v.length;rw[YR (by lia),YR (by lia)];rfl
  .intro u hu
   obtain⟨i,hi⟩:=X_ hu
   obtain⟨d,y,u',h1,h2,h3,h4⟩:=key i (ZV.mp hi).1
   cases hi.symm.trans h2;exact⟨y,by dsimp only;rw[val d y u (Zg h1) h3 h4];exact h3,h4⟩
theorem sL:∀{us:Z8 Z3},(∀u∈us,∃y,Rep X.K B H (f u) y/\RelV y u)->∃zs,Reps X.K B H (us.map f) zs/\Vals zs us
 |[],_=>⟨[],Reps.nil,.nil⟩
 |u::us,h=>by
  obtain⟨y,r,v⟩:=h u (.head _);obtain⟨zs,rs,vs⟩:=sL (us:=us) λu hu=>h u (.tail _ hu)
  exact⟨y::zs,Reps.cons r rs,.cons v vs⟩
end
section
variable{X:Cx}{m:Bool}{a b:Expr}
def lu(hu:X.A.units+64<cLine)(I:Inv X a_ σ H s)(k1:∀b o,s.heap.get? b=some o->h1.get? b=some o)(hsz:s.heap.objs.size<=h1.objs.size)(r:Reps X.K B H ds ys)(v:Vals ys us)(hz:us.length<=sizeLine)(hc:eK ds=true)(hk:(decide (ds.length<2)||ds.all (dP c))=true)(q:∀l zs,H l=none->Reps X.K B H (ck ds) zs->Q (.ref l) (upd H l (.lst zs))):
  wpAny (model X.prog X.w) X.A.in1 (do
   let l <-newList us
   let _ <-holding [l] (call (.builtin "list.sort") [l] [])
   ret l) (λfin s'=>∃w,fin=.done (.ret w)/\EP X a_ σ Q w s') X.xe {s with heap:=h1,toks:=t1}:=by
 obtain⟨f,f1,f0,f2,f3⟩:=AE I r v hc;have Hq:2<=us.length->ds.all (dP c)=true:=λh=>by
  rw[Bool.or_eq_true]at hk
  rcases hk with hk|hk
  .have:=Zf hk;have l1:=r.length;have l2:=v.length;lia
  .exact hk
 refine Z_ (WL ?_ hz)
 have g0:(h1.push (seqObj "list" us.toArray 0)).get? h1.objs.size=some (seqObj "list" us.toArray 0):=ZK _ rfl
 have k2:∀b o,s.heap.get? b=some o->b≠h1.objs.size/\(h1.push (seqObj "list" us.toArray 0)).get? b=some o:=λb o e=>⟨Zw (ZT (k1 b o e)),Z5 _ (k1 b o e)⟩
 refine Z_ (Y3 (Y8 slot_list_sort ⟨_,g0,rfl⟩ entry_list_sort ?_ (args_list_sort _)))
 have hA:X.A.in1.in1.units+20<cLine:=by show X.A.units+1+1+20<cLine;lia
 refine vD (s:={s with heap:=h1.push (seqObj "list" us.toArray 0),toks:=t1}) (vs:=us) (κ:=zH c) (LT:=λu v=>decide (ltD 15 (f u) (f v)=some true)) g0 hz (Dp hc f1 f0) (λh2 h' kp Q' q'=>?_) (λh2 h' kp u u' C hu Gn hC=>?_) (λMK hp hs h' cc kp g=>?_)
 .have I1:Inv X a_ σ H {s with heap:=h',toks:=t1}:=I.kept λb o e=>kp b o (k2 b o e).1 (k2 b o e).2
  exact wc I1 h2 (Hq h2) r v q'
 .have I1:Inv X a_ σ H {s with heap:=h',toks:=t1}:=I.kept λb o e=>kp b o (k2 b o e).1 (k2 b o e).2
  obtain⟨x,rx,vx⟩:=f3 u hu;obtain⟨y,ry,vy⟩:=f3 u' Gn;have m1:f u∈ds:=by rw[<-f2];exact XB hu
  have m2:f u'∈ds:=by rw[<-f2];exact XB Gn
  obtain⟨rr,er⟩:=iw hc m1 m2;refine BK I1 hA (iD hc m1) (iD hc m2) (ZO.mp (Hq h2) _ m1) (ZO.mp (Hq h2) _ m2) rx ry vx vy er ?_
  simp only[er]at hC;cases rr with
  |true=>simpa using hC
  |false=>simpa using hC
 .have es:MK.map f=ck ds:=by
   have perm:(MK.map f).Perm ds:=by rw[<-f2];exact hp.map f
   refine cL hc _ _ (λy hy=>perm.mem_iff.mp hy) (perm.trans (bd ds).symm) ?_ (bC hc)
   rw[Yc];exact hs.imp λq=>of_decide_eq_false q
  obtain⟨zs,rz,vz⟩:=sL (us:=MK) λu hu=>f3 u (hp.mem_iff.mp hu)
  rw[es]at rz;have hlen:zs.length<=sizeLine:=by rw[vz.length,hp.length_eq];exact hz
  have Hs:H h1.objs.size=none:=I.hok.fresh hsz;refine⟨_,rfl,Z4 ⟨_,rfl,.ref h1.objs.size,_,I.laid (a:=h1.objs.size) (o:=.lst zs) (h':=h') (t':=t1) (λb o e=>kp b o (k2 b o e).1 (k2 b o e).2) hsz ?_,rfl,q _ _ Hs rz⟩⟩
  exact⟨hlen,_,cc,vz,g⟩
def lG(hu:X.A.units+64<cLine):eM X (.builtin "sorted") (λxs H Q=>∃B p ds ys,xs=[.ref p]/\SqL X.K H p ys/\Reps X.K B H ds ys/\eK ds=true/\(decide (ds.length<2)||ds.all (dP c))=true/\
  ∀l zs,H l=none->Reps X.K B H (ck ds) zs->Q (.ref l) (upd H l (.lst zs))):=by
 intro a_ s σ H xs us Q I r h;obtain⟨B,p,ds,ys,rfl,hq,rs,hc,hk,q⟩:=h;obtain⟨u,rfl,rx⟩:=gm r;cases rx;obtain⟨its,rv,pl,hz⟩:=I.list hq;have l1:=rs.length;have l2:=rv.length;refine Calls.call_function_entry kind_sorted plain_sorted entry_sorted (args_sorted1 _) ?_
 unfold Builtin.«sorted»;refine Z_ (m:=checkCount "sorted" 1 1 _) (Z4 (Z_ (collect_list pl.isList ?_ (by lia))))
 have hsz:((s.heap.push (seqObj "list" #[] 0)).update s.heap.objs.size (Obj.mapSeq (· ++its.toArray))).objs.size=s.heap.objs.size+1:=by
  rw[Xy,size_push']
 refine lu (t1:=s.toks) hu I (λb o e=>?_) (by rw[hsz];lia) rs rv (by lia) hc hk q
 exact(Zm _ _ (Nat.ne_of_gt (ZT e))).trans (Z5 _ e)
noncomputable def fE(c:KD)(x:Z9 D):Z9 D:=match x with|some (.lst ds)=>if(eK ds&&(decide (ds.length<2)||ds.all (dP c)))=true then some (.lst (ck ds)) else none|_=>none
def eT(h2:eK ds=true)(h3:ds.length<2\/ds.all (dP c)=true):fE c (some (.lst ds))=some (.lst (ck ds)):=by
 unfold fE;have:(eK ds&&(decide (ds.length<2)||ds.all (dP c)))=true:=by rcases h3 with h3|h3<;>simp[h2,h3]
 simp only[this,Y2]
theorem rO(hu:X.A.units+64<cLine)(g:Gl X "sorted")(hm:X.mg "sorted"=none)(ha:DE X false a fa)(hs:starEach [a] X.env=[(false,eval a X.env)]:=by rfl):DF X (.Call (.Name "sorted" p) [a] [] pos) (λδ=>fE c (fa δ)):=
 (cN (lG (c:=c) hu) g hm fM (aq ha aI hs) (he:=hs)).imp λσ H Q hz=>by
  obtain⟨B,Hk,δ,d,R,e,k⟩:=hz;unfold fE at e;dsimp only at e;split at e
  .rename_i ds qd
   by_cases cc:(eK ds&&(decide (ds.length<2)||ds.all (dP c)))=true
   .rw[Z0 cc]at e;obtain rfl:=Z7 e
    rw[ZH]at cc;obtain⟨c2,c3⟩:=cc;refine pq R qd λv H' s R' r=>?_
    simp only[Rep]at r;obtain⟨l,xs,rfl,hq,rs⟩:=r;refine⟨_,l,ds,xs,rfl,hq.sq,rs,c2,c3,λl' zs hl rz=>?_⟩
    have s2:=au (o:=.lst zs) hl;exact k l' _ (s.trans s2) (s.free hl) ⟨_,ah,rz.same (m:=false) R' s2⟩
   .rw[ZY cc]at e;trivial
  .trivial
end
section
end
def fI:D->Z9 Key
 |.int i=>some (.inl i)
 |.str x=>some (.inr x)
 |_=>none
def keysOf:Z8 D->Z9 (Z8 Key)
 |[]=>some []
 |d::ds=>(match fI d,keysOf ds with|some k,some ks=>some (k::ks)|_,_=>none)
section
end
def cR:Z8 D->Z9 (Z8 Str)
 |[]=>some []
 |.str i::ds=>(match cR ds with|some l=>some (i::l)|none=>none)
 |_=>none
def kh(ns:Z8 Str):cR (ns.map D.str)=some ns:=by
 induction ns with
 |nil=>rfl
 |cons n ns ih=>simp only[Z1,cR,ih]
theorem dT:∀{ds:Z8 D}{ns:Z8 Str},cR ds=some ns->ds=ns.map D.str
 |[],ns,h=>by simp only[cR,ZM]at h;subst h;rfl
 |.str i::ds,ns,h=>by
  simp only[cR]at h;cases q:cR ds with
  |none=>rw[q]at h;trivial
  |some l=>
   rw[q]at h;simp only[ZM]at h;subst h;rw[Z1,dT q]
 |.non::ds,ns,h=>by simp[cR]at h
 |.bl _::ds,ns,h=>by simp[cR]at h
 |.int _::ds,ns,h=>by simp[cR]at h
 |.tup _::ds,ns,h=>by simp[cR]at h
 |.lst _::ds,ns,h=>by simp[cR]at h
 |.dK _ _::ds,ns,h=>by simp[cR]at h
 |.dD _ _::ds,ns,h=>by simp[cR]at h
theorem Reps.strs{K:Z6}{B:ZN->Prop}{H:Hp}:∀{ns:Z8 Str}{xs:Z8 V},Reps K B H (ns.map D.str) xs->xs=ns.map V.str
 |[],xs,h=>by simpa only[Y6,Reps]using h
 |n::ns,xs,h=>by
  simp only[Z1,Reps]at h;obtain⟨x,r,rfl,h1,h2⟩:=h;simp only[Rep]at h1;rw[Z1,h1,Reps.strs h2]
def oP:∀{us:Z8 Z3},Vals (ns.map V.str) us->StrsAre us ns:=by
 induction ns with
 |nil=>intro us r;rw[Y6]at r;cases r;exact .nil
 |cons n ns ih=>
  intro us r;rw[Z1]at r;cases r with
  |cons r1 r2=>
   obtain⟨t,e⟩:=r1;subst e;exact .cons n t (ih r2)
section
variable{X:Cx}{m:Bool}{a b:Expr}{fa fb:DEnv->Z9 D}{pos p:Pos}
def zQ:MtM X "str.join" (λx vs H Q=>∃(z:Str)(p:ZN)(ys:Z8 Str),x=.str z/\vs=[.ref p]/\SqL X.K H p (ys.map V.str)/\(ys.map (·.length)).sum+ys.length*z.length<=16777216/\Q (.str (Txt.join z ys)) H):=by
 intro a_ s σ H x vs v us Q I rx rv h;obtain⟨z,p,ys,rfl,rfl,hq,hl,q⟩:=h;obtain⟨t,rfl⟩:=rx;obtain⟨u,rfl,ru⟩:=rv.one;cases ru;obtain⟨its,r,pl,hz⟩:=I.list hq;exact join_list pl.isList (by simpa using oP r) hl λt' k=>⟨.str _,H,I.tok k,⟨t',rfl⟩,q⟩
noncomputable def tL(x y:Z9 D):Z9 D:=match x,y with|some (.str z),some (.lst ds)=>(match cR ds with|some ys=>if(ys.map (·.length)).sum+ys.length*z.length<=16777216 then some (.str (Txt.join z ys)) else none|none=>none)|_,_=>none
theorem yK(ha:DE X m a fa)(hb:DE X m' b fb)(mc:Mc X.env a "join" b [] apos ka):DE X mm (.Call (.Attribute a "join" apos) [b] [] ka) (λδ=>tL (fa δ) (fb δ)):=
 (ky PySem.F.plainAttrs_str PySem.F.slot_str_join PySem.F.type_str_join zQ ha (aq hb aI mc.s) mc).imp λσ H Q hz=>by
  obtain⟨B,Hk,δ,d,R,e,k⟩:=hz;unfold tL at e;dsimp only at e;split at e
  .rename_i z ds q1 q2
   split at e
   .rename_i ys qs
    obtain rfl:=dT qs
    by_cases c:(ys.map (·.length)).sum+ys.length*z.length<=16777216
    .rw[Z0 c]at e;obtain rfl:=Z7 e
     refine⟨B,Hk,δ,_,R,q1,λv H1 s1 r1=>?_⟩
     simp only[Rep]at r1;subst r1;refine⟨rfl,pq (R.to s1) q2 λw H2 s2 R2 r2=>?_⟩
     simp only[Rep]at r2;obtain⟨l,xs,rfl,hq,rs⟩:=r2;obtain rfl:=rs.strs;exact⟨z,l,ys,rfl,rfl,hq.sq,c,k _ H2 (s1.trans s2) (by simp only[Rep])⟩
    .rw[ZY c]at e;trivial
   .trivial
  .trivial
def zj:MtM X "str.find" (λx vs H Q=>∃(z y:Str),x=.str z/\vs=[.str y]/\Q (.int (Txt.find z y)) H):=by
 intro a_ s σ H x vs v us Q I rx rv h;obtain⟨z,y,rfl,rfl,q⟩:=h;obtain⟨t,rfl⟩:=rx;obtain⟨u,rfl,ru⟩:=rv.one;obtain⟨t',rfl⟩:=ru;exact SC.find ⟨.int _,H,I.tok _,⟨_,rfl⟩,q⟩
def uf(x y:Z9 D):Z9 D:=match x,y with|some (.str z),some (.str w)=>some (.int (Txt.find z w))|_,_=>none
theorem zh(ha:DE X m a fa)(hb:DE X m' b fb)(mc:Mc X.env a "find" b [] apos ka):DE X mm (.Call (.Attribute a "find" apos) [b] [] ka) (λδ=>uf (fa δ) (fb δ)):=
 (ky PySem.F.plainAttrs_str PySem.F.slot_str_find PySem.F.type_str_find zj ha (aq hb aI mc.s) mc).imp λσ H Q hz=>by
  obtain⟨B,Hk,δ,d,R,e,k⟩:=hz;unfold uf at e;dsimp only at e;split at e
  .rename_i z y q1 q2
   obtain rfl:=Z7 e;refine⟨B,Hk,δ,_,R,q1,λv H1 s1 r1=>?_⟩
   simp only[Rep]at r1;subst r1;refine⟨rfl,pq (R.to s1) q2 λw H2 s2 R2 r2=>?_⟩
   simp only[Rep]at r2;subst r2;exact⟨z,y,rfl,rfl,k _ H2 (s1.trans s2) (by simp only[Rep])⟩
  .trivial
def qB(l:ZN)(items:Array Z3)(n:Nat)(b:ZN)(f_:Array Z3)(n2:Nat)(s1 s2:Array (Z9 Z3))(ND:items.size+f_.size<=sizeLine):
  Meets (Builtin.«list.__add__» ⟨[.ref l,.ref b],[]⟩) (λ_ R s=>s.heap.get? l=some ⟨.type "list",none,.seq items n,s1⟩/\s.heap.get? b=some ⟨.type "list",none,.seq f_ n2,s2⟩/\R (.ok (.ret (Value.ref s.heap.objs.size))) {s with heap:=s.heap.push {cls:=Value.type "list",data:=Data.seq (items++f_)}}):=
 .of_wp λprog w A R s h=>by
  obtain⟨hp,g,d,tk,os⟩:=s;obtain⟨hl,hb,h⟩:=h;have f1:=AutoSeq1.idx_int;have f2:=WI;have f3:=AutoSeq1.sub_list_list;have f4:=AutoSeq1.sub_tuple_list;have f5:=AutoSeq1.sub_list_tuple
  wp_walk using AutoSeq1.wpAny_loadPart' hl,AutoSeq1.wpAny_loadPart' hb
  exact⟨_,rfl,h⟩
def tS{l b:ZN}(hl:PlainL s.heap l its)(hb:PlainL s.heap b l_)(h:Q (.ref s.heap.objs.size) {s with heap:=s.heap.push {cls:=.type "list",data:=.seq (its++l_)}})(hsz:its.size+l_.size<=sizeLine):wpAny (model P w) A (binaryOp .Add (.ref l) (.ref b)) Q E s:=by
 obtain⟨⟨c1,d1,a1,s1⟩,n1,e1,rfl,rfl,rfl⟩:=hl;obtain⟨⟨c2,d2,a2,s2⟩,n2,e2,rfl,rfl,rfl⟩:=hb;exact concat_meets ⟨_,e1,rfl⟩ ⟨_,e2,rfl⟩ noFill_list_add seq_list_add F.slot_list_add F.entry_list_add (F.args_list_add_2 _ _) (qB l its n1 b l_ n2 s1 s2 hsz) ⟨e1,e2,h⟩
def yr:OpR X (binaryOp .Add) (λx y H Q=>∃l b xs zs,x=.ref l/\y=.ref b/\SqL X.K H l xs/\SqL X.K H b zs/\xs.length+zs.length<=sizeLine/\∀p,H p=none->Q (.ref p) (upd H p (.lst (xs++zs)))):=by
 intro a_ s σ H x y v u Q I rx ry h;obtain⟨l,b,xs,zs,rfl,rfl,hH,hB,hz,q⟩:=h;cases rx;cases ry;obtain⟨its,r,pl,_⟩:=I.list hH;obtain⟨l_,r2,Mj,_⟩:=I.list hB;have hl:=r.length;have Mx:=r2.length;refine tS pl Mj ?_ (by rw[ZU,ZU];lia)
 have ea:its.toArray++l_.toArray=(its++l_).toArray:=by simp
 rw[ea];exact⟨.ref _,_,I.lnew (t':=s.toks) (r.append r2) (by rw[Zy];lia),rfl,q _ I.fresh⟩
def v6(x y:Z9 D):Z9 D:=match x,y with|some (.lst i),some (.lst j)=>if i.length+j.length<=lim then some (.lst (i++j)) else none|_,_=>none
theorem xf(ha:DE X false a fa)(hb:DE X false b fb):DF X (.BinOp a .Add b pos) (λδ=>v6 (fa δ) (fb δ)):=
 (u9 yr ha hb).imp λσ H Q hz=>by
  obtain⟨B,Hk,δ,d,R,e,k⟩:=hz;unfold v6 at e;dsimp only at e;split at e
  .rename_i i j q1 q2
   by_cases hz:i.length+j.length<=lim
   .rw[Z0 hz]at e;obtain rfl:=Z7 e
    refine two R q1 q2 λv u H' s R' r1 r2=>?_
    simp only[Rep]at r1 r2;obtain⟨c,xs,rfl,hq,rs⟩:=r1;obtain⟨c2,Ox,rfl,IS,HP⟩:=r2;refine⟨c,c2,xs,Ox,rfl,rfl,hq.sq,IS.sq,by rw[<-rs.length,<-HP.length];exact aB hz,λp hp=>?_⟩
    have s2:=au (o:=.lst (xs++Ox)) hp;exact k p _ (s.trans s2) (s.free hp) ⟨_,ah,(rs.append HP).same (m:=false) R' s2⟩
   .rw[ZY hz]at e;trivial
  .trivial
noncomputable def xE(i:Nat)(x:Z9 D)(δ:DEnv):Z9 Out:=match bB i δ,x with|some (.lst ds),some (.lst es)=>if ds.length+es.length<=lim then some (.next (δ.set i (some (.lst (ds++es),true)))) else none|_,_=>none
def qg(h:xE i x δ=some o):∃ds es,δ[i]?=some (some (.lst ds,true))/\x=some (.lst es)/\ds.length+es.length<=lim/\o=.next (δ.set i (some (.lst (ds++es),true))):=by
 unfold xE at h;split at h
 .rename_i ds d q
  by_cases hl:ds.length+d.length<=lim
  .rw[Z0 hl]at h;obtain rfl:=Z7 h;exact⟨ds,d,bv q,rfl,hl,rfl⟩
  .rw[ZY hl]at h;trivial
 .trivial
def sA(ha:DF X a fa)(hN:X.N[i]?=some x:=by rfl)(hv:Vis X.env.scope x:=by first|exact Or.inl rfl|exact Or.inr (Or.inl rfl)|exact Or.inr (Or.inr rfl))(mc:Mc X.env (.Name x px) "extend" a [] apos ka)(hd:(x==("__debug__":Str))=false:=by decide)(Gi:(x==("__classdict__":Str))=false:=by decide)(GY:swapsWith (.Call (.Attribute (.Name x px) "extend" apos) [a] [] ka) none pos.line X.env=pure false:=by rfl):DS X (.Expr (.Call (.Attribute (.Name x px) "extend" apos) [a] [] ka) pos) (λδ=>xE i (fa δ) δ):=
 (dX (ky Yy PySem.F.slot_list_extend PySem.F.type_list_extend tw (aT hN hv hd Gi) (aq ha aI mc.s) mc) GY).imp λDn σ H hz=>by
  obtain⟨B,Hk,δ,o,R,e,k⟩:=hz;obtain⟨ds,es,h1,e1,hl,rfl⟩:=qg e;obtain⟨l,h2,h3,xs,h4,h5⟩:=R.own i _ h1;refine⟨.ref l,h2,.inl ⟨rfl,xs,SqL.of h4⟩,B,Hk,δ,_,R,e1,λp H' s hp ob=>?_⟩
  have R':=R.to s;have IG:=s l _ h4;have NK:Reps X.K B H' ds xs:=h5.ext (R.ext s);obtain⟨zs,h6,h7⟩:=ob;obtain⟨x1,x2⟩:=R'.lset (ds':=ds++es) (xs':=xs++zs) h1 h2 IG (NK.append h7);exact⟨l,p,xs,zs,rfl,rfl,IG,h6,by rw[<-h5.length,<-h7.length];exact aB hl,k σ _ ((R.ext s).trans x1) x2⟩
end
end L2
namespace L2
open PySem PySem.Spec PyProof.Rows
variable[Lams]
noncomputable def lK(Mm:Scope)(scope:Scope)(N:Z8 Str)(bs:Z8 Bool):Bool:=
 decide (scope.kind=.function)&&scope.names.all (λy=>!decide (y.2=.cell))&&scope.names.all (λy=>!decide (y.2=.local)||decide (scope.names.lookup y.1=some .local))&&
 scope.names.all (λy=>!decide (y.2=.free)||(decide (scope.names.lookup y.1=some .free)&&(decide (Mm.names.lookup y.1=some .cell)||decide (Mm.names.lookup y.1=some .free))))&&
 decide (bs.length=N.length)&&(N.zip bs).all (λp=>!p.2||decide (scope.names.lookup p.1=some .free))
def jw(h1:X.env.scope=Mm)(h2:X.N=N)(h:lK Mm scope N bs=true):CompScope X scope bs:=by
 unfold lK at h;simp only[ZH,Zi]at h;obtain⟨⟨⟨⟨⟨a,b⟩,c⟩,d⟩,e⟩,f⟩:=h;refine⟨a,λy hy z=>?_,λy hy z=>?_,λy hy z=>?_,by rw[h2];exact e,λi x hx hb=>?_⟩
 .have:=ZO.mp b y hy
  rw[Zt z]at this;trivial
 .have:=ZO.mp c y hy
  rw[Zt z]at this
  simpa using this
 .have:=ZO.mp d y hy
  rw[Zt z]at this;simp only[YT,Bool.false_or,ZH,Bool.or_eq_true,Zi]at this;refine⟨this.1,?_⟩
  unfold Env.kindOf;rw[h1];exact this.2
 .rw[h2]at hx
  have hz:(N.zip bs)[i]?=some (x,true):=by rw[List.getElem?_zip_eq_some];exact⟨hx,hb⟩
  have:=ZO.mp f _ (Zg hz)
  simpa using this
structure Nm (X:Cx)(i:Nat)(x:Str):Prop where
 at':X.N[i]?=some x
 vis:Vis X.env.scope x
 d1:(x==("__debug__":Str))=false
 d2:(x==("__classdict__":Str))=false
structure Lc (X:Cx)(i:Nat)(x:Str):Prop where
 at':X.N[i]?=some x
 loc:Loc X.env.scope x
 fnl:X.fn x=true\/X.env.scope.names.lookup x=some .local
structure Gb (X:Cx)(x:Str):Prop where
 gl:Gl X x
 d1:(x==("__debug__":Str))=false
def C5:Z9 NameKind->Bool
 |some .local=>true|some .cell=>true|some .free=>true|_=>false
def CZ:Z9 NameKind->Bool
 |some .local=>true|some .cell=>true|_=>false
noncomputable def nmB(N:Z8 Str)(sc:Scope)(i:Nat)(x:Str):Bool:=decide (N[i]?=some x)&&C5 (sc.names.lookup x)&&!(x==("__debug__":Str))&&!(x==("__classdict__":Str))
def lcB(N:Z8 Str)(sc:Scope)(i:Nat)(x:Str):Bool:=decide (N[i]?=some x)&&CZ (sc.names.lookup x)
def D6(N:Z8 Str)(sc:Scope)(i:Nat)(x:Str):Bool:=decide (N[i]?=some x)&&decide (sc.names.lookup x=some .local)
def gbB(sc:Scope)(x:Str):Bool:=decide (sc.names.lookup x=some .globalImplicit)&&!(x==("__debug__":Str))
def vO(h:C5 (sc.names.lookup x)=true):Vis sc x:=by
 unfold C5 at h;split at h
 .rename_i e;exact .inl e
 .rename_i e;exact .inr (.inl e)
 .rename_i e;exact .inr (.inr e)
 .trivial
def t8(h:CZ (sc.names.lookup x)=true):Loc sc x:=by
 unfold CZ at h;split at h
 .rename_i e;exact .inl e
 .rename_i e;exact .inr e
 .trivial
structure Has (X:Cx)(N:List Str)(sc:Scope):Prop where
 n:X.N=N
 sc:X.env.scope=sc
 calm:X.calm=true
 nd:X.N.Nodup
def Has.nm{X:Cx}{N:Z8 Str}{sc:Scope}{i:Nat}{x:Str}(h:Has X N sc)(b:nmB N sc i x=true):Nm X i x:=by
 unfold nmB at b;simp only[ZH,Zi,Yu]at b;exact⟨by rw[h.n];exact b.1.1.1,by rw[h.sc];exact vO b.1.1.2,b.1.2,b.2⟩
def Has.lc{X:Cx}{N:Z8 Str}{sc:Scope}{i:Nat}{x:Str}(h:Has X N sc)(hf:∀x,X.fn x=true)(b:lcB N sc i x=true):Lc X i x:=by
 unfold lcB at b;simp only[ZH,Zi]at b;exact⟨by rw[h.n];exact b.1,by rw[h.sc];exact t8 b.2,.inl (hf x)⟩
def Has.lcl{X:Cx}{N:Z8 Str}{sc:Scope}{i:Nat}{x:Str}(h:Has X N sc)(b:D6 N sc i x=true):Lc X i x:=by
 unfold D6 at b;simp only[ZH,Zi]at b;exact⟨by rw[h.n];exact b.1,by rw[h.sc];exact .inl b.2,.inr (by rw[h.sc];exact b.2)⟩
def Has.gb{X:Cx}{N:Z8 Str}{sc:Scope}{x:Str}(h:Has X N sc)(b:gbB sc x=true):Gb X x:=by
 unfold gbB at b;simp only[ZH,Zi,Yu]at b;refine⟨?_,b.2⟩
 unfold Gl Env.kindOf;rw[h.sc];exact b.1
noncomputable def El(scope sc:Scope):Scope:=
 {scope with names:=scope.names.map λ(n,k)=>if(k==.free&&sc.kind==.function&&sc.names.lookup n==some .cell) then(n,.cell) else(n,k)}
def xR(h:env.scope=sc):relabel scope env=El scope sc:=by subst h;rfl
def Has.comp{X:Cx}{N:Z8 Str}{sc:Scope}(h:Has X N sc)(scope:Scope)(cl:Z8 (Str×ZN))(C:ZN)(d_:ZP)(e_:Hp)(ex:Z8 ZN)(pn:Z8 (ZN×Obj)):Has (ax X scope cl C d_ e_ ex pn) N (El scope sc):=
 ⟨h.n,xR h.sc,h.calm,h.nd⟩
def CompScope.of'(h:Has X N sc)(b:lK sc scope N bs=true):CompScope X scope bs:=jw h.sc h.n b
section
variable{X:Cx}{m mm:Bool}{a e:Expr}{es:Z8 Expr}{fa:DEnv->Z9 D}{fs:DEnv->Z9 (Z8 D)}{pos p:Pos}{k:Nat}{x:Str}{f:Z8 D->Z9 (D×Bool)}{i:Nat}
theorem nv(m:Bool)(n:Nm X i x):DE X m (.Name x pos) (rd m i):=Bu n.at' n.vis n.d1 n.d2
theorem qU{pos':Pos}(n:X.N.Nodup)(l:Lc X i x)(ha:DE X false a fa)(hs:swapsWith a (some (.Name x pos')) pos.line X.env=pure false:=by rfl):DS X (.Assign [.Name x pos'] a pos) (λδ=>bK i (fa δ) δ):=A3 (i:=i) (x:=x) (pos:=pos) (pos':=pos') n ha l.at' l.loc hs l.fnl
theorem iJ{pos':Pos}(n:X.N.Nodup)(l:Lc X i x)(ha:DF X a fa)(hs:swapsWith a (some (.Name x pos')) pos.line X.env=pure false:=by rfl):DS X (.Assign [.Name x pos'] a pos) (λδ=>d9 i (fa δ) δ):=yT (i:=i) (x:=x) (pos:=pos) (pos':=pos') n ha l.at' l.loc hs l.fnl
theorem iq(n:X.N.Nodup)(l:Lc X i x):DG X (.Name x pos) (aa i):=yF n l.at' l.loc l.fnl
theorem mv{px:Pos}(n:Nm X i x):DS X (.Return (some (.Name x px)) pos) (λδ=>eL (bB i δ)):=yf (i:=i) (x:=x) (px:=px) (pos:=pos) n.at' n.vis n.d1 n.d2
theorem nC(F:FnM X.prog X.w X.K X.mg X.base k x f)(hr:Room k X.A)(g:Gb X x)(ha:DA X m (e::es) fs)(he:starEach (e::es) X.env=(false,eval e X.env)::starEach es X.env:=by rfl)
  (hpl:(backTo pos (starEach es X.env)).any (·.1)=false:=by rfl):DE X m (.Call (.Name x p) (e::es) [] pos) (λδ=>shO (ae (fs δ) f)):=yq F hr g.gl ha g.d1 he hpl
theorem mQ(F:FnM X.prog X.w X.K X.mg X.base k x f)(hr:Room k X.A)(g:Gb X x)(ha:DA X false (e::es) fs)(he:starEach (e::es) X.env=(false,eval e X.env)::starEach es X.env:=by rfl)
  (hpl:(backTo pos (starEach es X.env)).any (·.1)=false:=by rfl):DF X (.Call (.Name x p) (e::es) [] pos) (λδ=>frO (ae (fs δ) f)):=yP (p:=p) F hr g.gl ha g.d1 he hpl
theorem jq(F:FnM X.prog X.w X.K X.mg X.base k x f)(hr:Room k X.A)(g:Gb X x)(ha:DA X true (e::es) fs)(he:starEach (e::es) X.env=(false,eval e X.env)::starEach es X.env:=by rfl)
  (hpl:(backTo pos (starEach es X.env)).any (·.1)=false:=by rfl):DF X (.Call (.Name x p) (e::es) [] pos) (λδ=>flO (ae (fs δ) f)):=uA (p:=p) F hr g.gl ha g.d1 he hpl
theorem tV{p:Pos}(g:Gb X "len")(hm:X.mg "len"=none)(ha:DE X m a fa)(hs:starEach [a] X.env=[(false,eval a X.env)]:=by rfl):DE X mm (.Call (.Name "len" p) [a] [] pos) (λδ=>f9 (fa δ)):=Bn g.gl hm ha hs g.d1
variable{apos ka px:Pos}
theorem gE(n:Nm X i x)(ha:DE X false a fa)
  (mc:Mc X.env (.Name x px) "append" a [] apos ka)
  (GY:swapsWith (.Call (.Attribute (.Name x px) "append" apos) [a] [] ka) none pos.line X.env=pure false:=by rfl):DS X (.Expr (.Call (.Attribute (.Name x px) "append" apos) [a] [] ka) pos) (λδ=>gw i (fa δ) δ):=
 tW ha n.at' n.vis mc n.d1 n.d2 GY
theorem o9(n:Nm X i x)(ha:DF X a fa)(mc:Mc X.env (.Name x px) "extend" a [] apos ka)(GY:swapsWith (.Call (.Attribute (.Name x px) "extend" apos) [a] [] ka) none pos.line X.env=pure false:=by rfl):DS X (.Expr (.Call (.Attribute (.Name x px) "extend" apos) [a] [] ka) pos) (λδ=>xE i (fa δ) δ):=
 sA ha n.at' n.vis mc n.d1 n.d2 GY
noncomputable def swB(sc scope:Scope)(t:Str)(l1 l2:Nat):Bool:=
 ((if sc.kind.isAnnotationScope then ScopeKind.function else sc.kind)==.function)&&sc.names.lookup t==some .local&&l1==l2&&!(scope.names.any λ(n,k)=>n==t&&(k==.local||k==.cell))
def ei(h:Has X N sc)(q:swB sc scope x pos'.line pos.line=c):
  swapsWith (.ListComp elt gens scope pos) (some (.Name x pos')) l X.env=pure c:=by
 subst q;unfold swB;rw[<-h.sc];rfl
def jb(h:Has X N sc)(b:decide (sc.names.lookup y=some .local)=true):X.env.scope.names.lookup y=some .local:=by rw[h.sc];exact Zf b
theorem uT(h:Has X N sc)(l:Lc X i y)(GF:Anew τ)(hi:DI X false tg iter fi)(S:CompScope X scope bs)(hg:∀cl C d_ e_ ex pn,DG (ax X scope cl C d_ e_ ex pn) tg τ)(ht:∀cl C d_ e_ ex pn,DTs (ax X scope cl C d_ e_ ex pn) ifs ft)(he:∀cl C d_ e_ ex pn,DE (ax X scope cl C d_ e_ ex pn) false elt fe)(b1:decide (sc.names.lookup y=some .local)=true)(b2:swB sc scope y py.line pos.line=true)(hs:∀x,foldedSetIterable iter X.env x=pure x:=by intro _;rfl):DS X (.Assign [.Name y py] (.ListComp elt [⟨tg,iter,ifs,0⟩] scope pos) G2) (λδ=>d9 i (av (ae (fi δ) (b0 false bs τ ft fe δ))) δ):=
 yc h.nd h.calm GF hi S hg ht he l.at' (jb h b1) (ei h b2) hs
end
def Bs{P:Y1}{w:YO}{K:Z6}{mg:Str->Z9 Z3}{base:Heap}{f:ZN}{F5:Z3}{A:Za}{outer:Z8 Env}{s:ZP}{H:Hp}{E:XK}{N:Z8 Str}{q:Str}{sc:Scope}(nd:N.Nodup):
  Has (mG CX0 P w K mg base N q sc f F5 A outer s H E).nox N sc:=⟨rfl,rfl,rfl,nd⟩
def spM_law{K:Z6}{H:Hp}{a:ZN}{ns:Z8 Int}{f:Z8 D->Z9 (D×Bool)}(hS:SqL K H a (ns.map V.int))(h:f [.lst (ns.map D.int)]=some (.bl true,false)):
  spM K f [.ref a] H (λv _=>v=.bl true) λ_ _ _=>False:=by
 have hr:Reps K (λb=>∃o:HOn,H b=some o.1) H (ns.map D.int) (ns.map V.int):=by
  clear hS h
  induction ns with
  |nil=>exact Reps.nil
  |cons n ns ih=>exact Reps.cons (by simp only[Rep]) ih
 refine⟨λb=>∃o:HOn,H b=some o.1,[.lst (ns.map D.int)],.bl true,false,λ_ h=>h,Reps.cons ?_ Reps.nil,h,λv H' _ r=>?_⟩
 .simp only[Rep]
  refine⟨a,_,rfl,?_,hr⟩
  rcases hS with(h1|⟨o,h1⟩)|h1
  .exact .inl ⟨⟨⟨_,rfl⟩,h1⟩,h1⟩
  .exact .inr (.inl ⟨o,h1⟩)
  .exact .inr (.inr h1)
 .unfold ll at r
  rw[ZY Zn]at r
  simpa only[Rep]using r
def ou{pos pos':Pos}(l:Z8 Z3)(ht:TriplesOk l)(h:codeAmong pos' (l++[rawInt pos.line,rawInt pos.col,c])=some cv):codeAmong pos' l=some cv\/cv=c:=by
 fun_induction TriplesOk l with
 |case1=>
  simp only[List.nil_append,rawInt,codeAmong]at h;split at h
  .obtain rfl:=Z7 h;exact .inr rfl
  .trivial
 |case2 a t b u x am ih=>
  simp only[List.cons_append,codeAmong]at h⊢;split at h
  .rename_i hc;rw[Z0 hc];exact .inl h
  .rename_i hc;rw[ZY hc];exact ih ht h
 |case3 l h1 h2=>exact ht.elim
section
def Inv.grow{pos:Pos}{t':Nat}(I:Inv X a_ σ H s)(hP:H P=some (.tbl lq ps))(hx:Heap.ExtBut P s.heap h')(Lh:s.heap.objs.size<=c')(k_:c'<h'.objs.size)(J6:h'.CodeRec (.ref c') lq)(z_:h'.get? P=some (PySem.W.tabObj (ps++#[rawInt pos.line,rawInt pos.col,.ref c']))):
  Inv X a_ σ (upd (upd H P (.tbl lq (ps++#[rawInt pos.line,rawInt pos.col,.ref c']))) c' (.own P)) {s with heap:=h',toks:=t'}/\
  Same H (upd (upd H P (.tbl lq (ps++#[rawInt pos.line,rawInt pos.col,.ref c']))) c' (.own P)):=by
 have hc:H c'=none:=I.hok.fresh Lh;have NC:P≠c':=λz=>by rw[z,hc]at hP;trivial
 have up:∀b,b≠P->b≠c'->(upd (upd H P (.tbl lq (ps++#[rawInt pos.line,rawInt pos.col,.ref c']))) c' (.own P)) b=H b:=λb h1 h2=>by rw[ai h2,ai h1]
 have ML:(upd (upd H P (.tbl lq (ps++#[rawInt pos.line,rawInt pos.col,.ref c']))) c' (.own P)) P=some (.tbl lq (ps++#[rawInt pos.line,rawInt pos.col,.ref c'])):=by rw[ai NC,ah]
 have nP:∀{b u},H b=some u->(∀l p,u≠.tbl l p)->b≠P:=λ{b u} e n z=>by rw[z,hP]at e;obtain rfl:=Z7 e;exact n _ _ rfl
 have nc:∀{b u},H b=some u->b≠c':=λ{b u} e z=>by rw[z,hc]at e;trivial
 have n0:∀{b},H b=none->b≠P:=λ{b} e z=>by rw[z,hP]at e;trivial
 obtain⟨Je,oc,vs,t,e2,La,hd,hv⟩:=J6;cases e2;refine⟨I.un ⟨λb o e n _ _=>hx b o (n0 n) e,λb o e n _ _=>⟨o.slots,hx b o (n0 n) e⟩,λb o e n _=>?_,λb o e _=>?_,λb xs e=>?_,λb o u e=>?_,λb l p e=>?_⟩ λb u q=>?_,λb o n e=>?_,λb l p e=>?_⟩
 .rw[up b (n0 n) (Zw (ZA (ZT e) Lh))];exact n
 .by_cases hb:b=P
  .subst hb;exact⟨_,z_⟩
  .exact⟨o,hx b o hb e⟩
 .rw[up b (nP e λl p z=>by trivial) (nc e)];exact e
 .rw[up b (nP e λl p z=>by trivial) (nc e)];exact e
 .by_cases hb:b=P
  .subst hb;rw[hP]at e;cases e;exact⟨_,ML⟩
  .exact⟨#[],by rw[up b hb (nc e),Xb];exact e⟩
 .by_cases Pw:b=c'
  .subst Pw;rw[ah]at q;obtain rfl:=Z7 q;exact⟨oc,La⟩
  .by_cases hb:b=P
   .subst hb
    rw[ML]at q;obtain rfl:=Z7 q;obtain⟨e1,tr,rc⟩:=I.hok b _ hP;refine⟨z_,by rw[Zk];exact TriplesOk_snoc _ _ _ _ tr,λpos' cv e=>?_⟩
    rw[Zk]at e
    rcases ou _ tr e with e|e
    .obtain⟨c2,o2,v2,t2,z1,z2,z3,z4⟩:=rc pos' cv e
     have m1:=nP z2 λl p z=>by trivial
     exact⟨c2,o2,v2,t2,z1,by rw[up c2 m1 (nc z2)];exact z2,hx _ _ m1 z3,z4⟩
    .subst e
     exact⟨c',oc,vs,t,rfl,ah,La,hd,hv⟩
   .rw[up b hb Pw]at q
    refine(I.hok b u q).stay (λd v hd r=>hx d v ?_ r) (λd r=>by rw[up d (nP r λl p z=>by trivial) (nc r)];exact r) λd xs r=>by rw[up d (nP r λl p z=>by trivial) (nc r)];exact r
    rcases hd with z|z
    .rw[z];exact hb
    .exact nP z λl p z=>by trivial
 .rw[up b (nP e λl p z=>by subst z;trivial) (nc e)];exact e
 .by_cases hb:b=P
  .subst hb;rw[hP]at e;cases e;exact⟨_,ML⟩
  .exact⟨#[],by rw[up b hb (nc e),Xb];exact e⟩
def wf(I:Inv X a_ σ H s)(hP:(P,lq)∈Lams.tb)(hq:X.env.qual++"<lambda>"=lq)(hC:PySem.W.CodeHd X.base c P)(Gi:X.env.code=.ref c)(HK:closureFor scope X.env=pure [])(J9:defaultsOf params X.env=([],[]))(h:∀f c' pm Hd h' tk H' ps,Inv X ((f,PySem.W.kla_obj "<lambda>" lq params body scope [] pm c' Hd)::a_) σ H' {s with heap:=h',toks:=tk}->Same H H'->H' P=some (.tbl lq ps)->codeAmong pos ps.toList=some (.ref c')->
   Q (.ref f) {s with heap:=h',toks:=tk}):wpAny (model X.prog X.w) X.A (eval (.Lambda params body scope pos) X.env) Q E s:=by
 refine PySem.W.kla_eval J9 ?_
 rw[hq];obtain⟨ps,GH⟩:=(I.ok.tabs.to I.base.tbls) (P,lq) hP;obtain⟨e1,tr,rc⟩:=I.hok P _ GH;have hg:s.heap.Ns mainGlobals X.mg:=I.mod.glob.keeps I.bk;have RJ:mainGlobals≠P:=λz=>by
  obtain⟨o,es,ep,e,d,_⟩:=hg;rw[z,e1]at e;obtain rfl:=Z7 e;trivial
 obtain⟨bm,ob,b1,b2,b3,b4,b5,b6⟩:=I.mod.bmain;have KN:=I.bk _ _ b3;have Px:bm≠P:=λz=>by rw[z,e1]at KN;obtain rfl:=Z7 KN;trivial
 have Pz:bm≠mainGlobals:=λz=>by
  obtain⟨o,es,ep,e,d,_⟩:=hg;rw[z,e]at KN;obtain rfl:=Z7 KN;rw[d]at b6;trivial
 have fin:∀{H':Hp}{h1:Heap}{tk:Nat}{o:Obj},Inv X a_ σ H' {s with heap:=h1,toks:=tk}->(∀v,o.data≠.cell v)->o.isFreed=false->Inv X ((h1.objs.size,o)::a_) σ H' {s with heap:=h1.push o,toks:=tk}:=λ{H' h1 tk o} I1 Rr Rp=>by
  have I2:Inv X a_ σ H' {s with heap:=h1.push o,toks:=tk}:=I1.kept (h':=h1.push o) λb u e=>Z5 _ e
  refine I2.pins_of λp hp=>?_
  rcases ZZ.mp hp with rfl|hp
  .exact⟨ZK _ Rp,I1.hok.fresh (ZQ _),Nat.ne_of_gt I1.lt,I1.nofs (ZQ _),Rr⟩
  .exact I2.pin p (ZG _ hp)
 cases hf:codeAmong pos ps.toList with
 |none=>
  refine PySem.W.kla_makeFunction (mg:=X.mg) HK I.ok.glob hg Gi (hC.keeps I.bk) e1 tr hf RJ ⟨bm,ob,b1,b2,Pz,Px,KN,b4,b5,b6⟩ λc' Hd h' tk hx Lh k_ J6 z_=>?_
  obtain⟨I1,s1⟩:=I.grow (t':=tk) GH hx Lh k_ J6 z_;have hc:H c'=none:=I.hok.fresh Lh;have NC:P≠c':=λz=>by rw[z,hc]at GH;trivial
  exact h _ c' _ Hd _ tk _ _ (fin I1 (λv z=>by trivial) rfl) s1 (by rw[ai NC,ah]) (by rw[Zk];exact codeAmong_snoc _ tr hf)
 |some cv=>
  obtain⟨c',oc,vs,t,rfl,o1,o2,o3,o4⟩:=rc pos cv hf;refine PySem.W.kla_makeFunctionHit (mg:=X.mg) HK I.ok.glob hg Gi (hC.keeps I.bk) e1 tr hf ⟨bm,ob,b1,b2,Pz,Px,KN,b4,b5,b6⟩ λHd h' tk hk hsz=>?_
  exact h _ c' _ Hd _ tk _ _ (fin (I.kept (h':=h') (t':=tk) hk) (λv z=>by trivial) rfl) (Same.refl H) GH hf
end
def yh{CX:CXT}{P:Y1}{w:YO}{K:Z6}{mg:Str->Z9 Z3}{base:Heap}{k:Nat}{f c':ZN}{name qual:Str}{params:Arguments}{body:Expr}{scope:Scope}{pm Hd:Z3}{N ps:Z8 Str}{A:Za}{outer:Z8 Env}{s:ZP}{H:Hp}
  {args:Args}{us:Z8 Z3}{vs:Z8 V}{Q:VK}{E:XK}(hr:Room (k+1) A) (e0:Env0 P w K mg base A outer s H) (hf:s.heap.get? f=some (PySem.W.kla_obj name qual params body scope [] pm c' Hd)) (hc:s.heap.CodeRec (.ref c') qual) (S:FnScope N ps scope)
  (hb:BindsTo s (PySem.W.kla_fn name qual params body scope [] pm (.ref c') Hd) args (ps.zip us)) (r:Vals vs us) (hl:vs.length=ps.length)
  (Gd:Room k (A.deeper (envOfC qual scope s.heap.objs.size f (.ref c')))->∃t,PE (mG CX P w K mg base N qual scope f (.ref c') A outer s H E) body t/\t (cw N vs) H Q):
  codeAny (model P w) A (.call (.ref f) args) (CR CX outer P w H s Q E) s:=by
 have lim:s.heap.NoLimit:=e0.mod.nolimit.keeps λb o e=>(e0.bs b o e).1
 have Ir:∀y∈ps.zip us,scope.names.lookup y.1=some .local\/(scope.names.lookup y.1=some .cell/\((cellsFrom (s.heap.objs.size+1) scope.names []).lookup y.1).isSome=true):=λ⟨n,v⟩ hy=>by
  rcases S.par n (WQ hy).1 with q|q
  .exact .inl q
  .exact .inr ⟨q,WY _ _ _ (.inl q)⟩
 refine PySem.W.kla_callFunE hr.depth hf rfl S.co S.gen rfl hc (hb _ _ _ _ ?_)
 refine wpAny_newFunctionEnv_cells S.kind Ir λenv he s1 x=>?_
 subst he;refine⟨lim.keeps x.toInCall.keep,PySem.W.kla_codeExpr ?_⟩
 obtain⟨t,ht,hq⟩:=Gd (hr.deeper _);have I:Inv (mG CX P w K mg base N qual scope f (.ref c') A outer s H E) [] (cw N vs) H s1:=jK S hr.hd e0 hl r x;exact YU (ht [] s1 (cw N vs) H _ I hq) (λu s' hz=>by obtain⟨v,H',J,rv,q⟩:=hz;exact⟨v,H',J.os,J.bare,J.base,J.hok,rv,q⟩) λe s' hs=>hs
section
def uP{k:Nat}{f c' P:ZN}{lq:Str}{MN:Array Z3}{params:Arguments}{body:Expr}{scope:Scope}{pos:Pos}{pm Hd:Z3}{N ps:Z8 Str}{us:Z8 Z3}{vs:Z8 V}{Q:VK}{A:Za}{E:Z3->ZP->Prop}
  (I:Inv X a_ σ H s) (hA:Room (k+1) A) (hE:Env0 X.prog X.w X.K X.mg X.base X.A X.stack s H->Env0 X.prog X.w X.K X.mg X.base A X.stack s H) (hf:(f,PySem.W.kla_obj "<lambda>" lq params body scope [] pm c' Hd)∈a_) (hP:H P=some (.tbl lq MN)) (NB:codeAmong pos MN.toList=some (.ref c')) (S:FnScope N ps scope)
  (hb:BindsTo s (PySem.W.kla_fn "<lambda>" lq params body scope [] pm (.ref c') Hd) ⟨us,[]⟩ (ps.zip us)) (r:Vals vs us) (hl:vs.length=ps.length)
  (Gd:Room k (A.deeper (envOfC lq scope s.heap.objs.size f (.ref c')))->∃t,PE (mG CX0 X.prog X.w X.K X.mg X.base N lq scope f (.ref c') A X.stack s H (λ_ _ _=>False)) body t/\t (cw N vs) H Q):
  wpAny (model X.prog X.w) A (call (.ref f) us) (EP X a_ σ Q) E s:=by
 obtain⟨e1,tr,rc⟩:=I.hok P _ hP;obtain⟨c2,oc,Qq,t2,z1,z2,z3,z4,z5⟩:=rc pos _ NB;cases z1;refine wpAny_call (W7 (yh (CX:=CX0) hA (hE I.env0) (I.pin _ (ZG _ hf)).1 ⟨c',oc,Qq,t2,rfl,z3,z4,z5⟩ S hb r hl Gd) λr s' hq=>?_)
 cases r with
 |error e=>exact False.elim hq
 |ok fl=>
  cases fl with
  |ret u=>exact I.after hq
  |next=>exact False.elim hq
  |brk=>exact False.elim hq
  |cont=>exact False.elim hq
end
section
def Inv.track(I:Inv X a_ σ H s)(f:eP X a_ H a)(hs:X.o_.heap.objs.size<=a)(new:ObjOk X.prog X.w (upd H a o) s.heap a o):Inv X a_ σ (upd H a o) s:=by
 have hn:=f.1;refine⟨I.ok,I.os,I.bare,⟨I.base.keep,I.base.slot,λb ob e n hx=>?_,I.base.there,λb xs e=>?_,λb ob u e=>?_,λb lq ps e=>?_⟩,I.loc,I.cell,?_,λx c e=>?_,λp hp=>?_,λb u q=>?_,I.len⟩
 .rw[ai (Zw (ZA (ZT e) hs))];exact I.base.free b ob e n hx
 .have z:=I.base.tups b xs e;rw[ai (ar z hn)];exact z
 .have z:=I.base.frzs b ob u e;rw[ai (ar z hn)];exact z
 .obtain⟨m,z⟩:=I.base.tbls b lq ps e;exact⟨m,by rw[ai (ar z hn)];exact z⟩
 .rw[ai (ZD f.2.1)];exact I.free
 .rw[ai (f.2.2.2.2.1 x c e)];exact I.freeC x c e
 .obtain⟨p1,p2,p3⟩:=I.pin p hp;exact⟨p1,by rw[ai (f.2.2.2.2.2 p hp)];exact p2,p3⟩
 .by_cases hb:b=a
  .subst hb;rw[ah]at q;obtain rfl:=Z7 q;exact new
  .rw[ai hb]at q
   exact(I.hok b u q).stay (λ_ _ _ r=>r) (λd r=>by rw[ai (ar r hn)];exact r) λd xs r=>by rw[ai (ar r hn)];exact r
def zJ(kA vs:Array Z3)(h:kA.size=vs.size):(kA.zip vs).map (·.2)=vs:=by
 apply Array.ext
 .simp[h]
 .intro i h1 h2;simp
noncomputable def fQ(h:Heap)(vs:Z8 Z3):Heap:=Heap.push (Heap.update (h.push (seqObj "list" #[] 0)) h.objs.size (Obj.mapSeq (· ++vs.toArray))) (seqObj "list" vs.toArray 0)
def tT(h:Heap)(vs:Z8 Z3):(Heap.update (h.push (seqObj "list" #[] 0)) h.objs.size (Obj.mapSeq (· ++vs.toArray))).objs.size=h.objs.size+1/\(fQ h vs).objs.size=h.objs.size+2/\
  (fQ h vs).get? (h.objs.size+1)=some (seqObj "list" vs.toArray 0)/\∀b o,h.get? b=some o->(fQ h vs).get? b=some o:=by
 have e:(Heap.update (h.push (seqObj "list" #[] 0)) h.objs.size (Obj.mapSeq (· ++vs.toArray))).objs.size=h.objs.size+1:=by
  rw[Xy,size_push']
 refine⟨e,by unfold fQ;rw[size_push',e],?_,λb o q=>?_⟩
 .unfold fQ;rw[<-e];exact ZK _ rfl
 .exact Z5 _ ((Heap.get?_update_ne _ _ _ _ (Zw (ZT q))).trans (Z5 _ q))
end
end L2
namespace L2
open PySem PySem.Spec PyProof.Rows PySem.W
def zU{α:Type}(lt:Nat->Nat->Bool):KasT α->α
 |.ret a=>a
 |.ask i j k=>zU lt (k (lt i j))
noncomputable def zG(n:Nat):KasT (Array Nat)->Bool
 |.ret a=>a.toList.isPerm (List.range n)
 |.ask i j k=>decide (i<n)&&decide (j<n)&&(zG n (k true)&&zG n (k false))
theorem eZ(lt:Nat->Nat->Bool):∀t:KasT (Array Nat),zG n t=true->(zU lt t).toList.Perm (List.range n)
 |.ret a,h=>List.isPerm_iff.mp h
 |.ask i j k,h=>by
  simp only[zG,ZH]at h;unfold zU;cases lt i j with
  |true=>exact eZ lt _ h.2.1
  |false=>exact eZ lt _ h.2.2
theorem wO(hc:∀i j C,i<n->j<n->C (lt i j) s->cmp i j C s):∀t:KasT (Array Nat),zG n t=true->Q (zU lt t) s->t.kasWp cmp Q s
 |.ret a,_,h=>h
 |.ask i j k,h,h'=>by
  simp only[zG,ZH,Zi]at h;refine hc i j _ h.1.1 h.1.2 (wO hc (k (lt i j)) ?_ h')
  cases lt i j with
  |true=>exact h.2.1
  |false=>exact h.2.2
def mn:∀{n:Nat},n<5->zG n (kas_sort n)=true
 |0,_=>by kernel_rfl
 |1,_=>by kernel_rfl
 |2,_=>by kernel_rfl
 |3,_=>by kernel_rfl
 |4,_=>by kernel_rfl
 |n+5,h=>absurd h (by lia)
end L2
namespace L2
open PySem PySem.Spec PyProof.Rows PySem.W
variable[Lams]
def ltK(ks:Z8 Int)(i j:Nat):Bool:=decide (ks.getD i 0<ks.getD j 0)
def hV(ks:Z8 Int):Z8 Nat:=if ks.length<2 then List.range ks.length else(zU (ltK ks) (kas_sort ks.length)).toList
def eY(h:ks.length<5):(hV ks).Perm (List.range ks.length):=by
 unfold hV;split
 .exact YW _
 .exact eZ _ _ (mn h)
def bg(vs:Z8 Z3)(p:Z8 Nat):Z8 Z3:=p.map λi=>vs.getD i Value.none
section
theorem bV(m:Z8 Z3):∀(l:Z8 Z3),codeAmong pos l=some c->codeAmong pos (l++m)=some c
 |.int line t::.int col u::x::am,h=>by
  simp only[List.cons_append,codeAmong]at h⊢;split at h
  .rename_i q;rw[Z0 q];exact h
  .rename_i q;rw[ZY q];exact bV m am h
 |[],h=>by simp[codeAmong]at h
 |[_],h=>by simp[codeAmong]at h
 |[_,_],h=>by simp[codeAmong]at h
 |a::b::x::am,h=>by
  unfold codeAmong at h;split at h
  .rename_i q;cases q;show codeAmong pos (_::_::_::(am++m))=_
   unfold codeAmong;split at h
   .rename_i q;rw[Z0 q];exact h
   .rename_i q;rw[ZY q];exact bV m am h
  .trivial
theorem cm:∀{us:Z8 Z3}{ks:Z8 Int}{i:Nat},IntsAre us ks->i<us.length->∃t,us.getD i Value.none=.int (ks.getD i 0) t
 |_,_,i,.nil,h=>by simp at h
 |_,_,0,.cons n t h,_=>⟨t,rfl⟩
 |_,_,i+1,.cons n t h,hi=>by simpa using cm (i:=i) h (by simpa using hi)
def sj{A:Za}{E:Z3->ZP->Prop}{kS D:ZN}{kA:Array Z3}{e e1:Nat}{vs:Z8 Z3}{ks:Z8 Int}{P:PySem.Fin->ZP->Prop}(J:Inv X ((kS,seqObj "list" kA e)::(D,seqObj "list" #[] e1)::a_) σ H s)
  (fk:eP X a_ H kS) (fD:eP X a_ H D) (sk:X.o_.heap.objs.size<=kS) (sD:X.o_.heap.objs.size<=D) (Mz:kS≠D) (hk:IntsAre kA.toList ks) (hl:vs.length=ks.length) (IF:vs.length<5) {ys:Z8 V}(rv:Vals ys (bg vs (hV ks)))
  (h:∀h' tk,Inv X a_ σ (upd H D (.lst ys)) {s with heap:=h',toks:=tk}->P (.done (.ret .none)) {s with heap:=h',toks:=tk}):
  wpAny (model X.prog X.w) A (ksk_end D false vs.toArray e1 (.ref kS) kA) P E s:=by
 have nk:=J.pin (kS,seqObj "list" kA e) (ZG _ (.head _));have nD:=J.pin (D,seqObj "list" #[] e1) (ZG _ (.tail _ (.head _)));have hz:(64:Nat)<=sizeLine:=by rw[X3];lia
 have Jl:kA.size=vs.length:=by have:=hk.length;rw[Array.length_toList]at this;lia
 have I0:Inv X a_ σ H s:=J.pins_of λp hp=>J.pin p (ZG _ (.tail _ (.tail _ hp)))
 have s1:=Ze s.heap kS (Obj.mapSeq λ_=>(#[]:Array Z3))
 have M7:(s.heap.update kS (Obj.mapSeq λ_=>(#[]:Array Z3))).get? D=some (seqObj "list" #[] e1):=(s1.2 D (ZD Mz)).trans nD.1
 have Cb:(bg vs (hV ks)).length=vs.length:=by unfold bg;rw[ZI,(eY (ks:=ks) (by lia)).length_eq,Xq];lia
 have tail:∀st:SortSt,(arrOf st).map (·.2)=(bg vs (hV ks)).toArray->failedOf st=none->wpAny (model X.prog X.w) A (ksk_tail D false e1 (.ref kS) st) P E s:=by
  intro st es hf;unfold ksk_tail
  try dsimp only
  refine Z_ (Xh nk.1 rfl ?_ (by rw[Jl];lia) (Zs _))
  refine Z_ (Ws ?_)
  refine Z_ (seqEpoch_at M7 rfl ?_)
  rw[es,hf];refine Z_ (Xh M7 rfl ?_ (Zs _) (by simp only[ZJ,Zc];rw[ZU,Cb];lia))
  simp only[bne_self_eq_false,ZJ,Zc];refine Z4 (h _ s.toks ?_)
  have I1:Inv X a_ σ H {s with heap:=s.heap.update kS (Obj.mapSeq λ_=>(#[]:Array Z3)),toks:=s.toks}:=I0.turned (it:=kS) (λb o hb q=>(s1.2 b hb).trans q) fk.1 fk.2.1 (.inr sk) fk.2.2.2.2.1 fk.2.2.2.2.2
  have s2:=Ze (s.heap.update kS (Obj.mapSeq λ_=>(#[]:Array Z3))) D (Obj.mapSeq λ_=>(bg vs (hV ks)).toArray)
  have I2:Inv X a_ σ H {s with heap:=(s.heap.update kS (Obj.mapSeq λ_=>(#[]:Array Z3))).update D (Obj.mapSeq λ_=>(bg vs (hV ks)).toArray),toks:=s.toks}:=Inv.turned (s:={s with heap:=s.heap.update kS (Obj.mapSeq λ_=>(#[]:Array Z3)),toks:=s.toks}) (it:=D) I1 (λb o hb q=>(s2.2 b hb).trans q) fD.1 fD.2.1 (.inr sD) fD.2.2.2.2.1 fD.2.2.2.2.2
  exact I2.track fD sD ⟨by rw[rv.length,Cb];lia,_,_,rv,WR M7 λ_=>(bg vs (hV ks)).toArray⟩
 unfold ksk_end
 try dsimp only
 simp only[ZJ,Zc]
 by_cases h2:vs.toArray.size<2
 .rw[Z0 h2,Z0 h2]
  refine Z_ (Z4 ?_)
  rw[StateT.run_pure];refine Z_ (Z4 ?_)
  try dsimp only
  refine tail _ ?_ rfl
  rw[ZU]at h2;have e0:(arrOf (SortSt.mk' general' (kA.zip vs.toArray) #[] 7 none)).map (·.2)=vs.toArray:=zJ kA vs.toArray (by rw[Jl,ZU])
  rw[e0];unfold hV;rw[Z0 (by lia),<-hl]
  clear tail h rv Cb e0 J
  match vs,h2 with
  |[],_=>simp[bg]
  |[v],_=>simp[bg,List.range_succ]
 .rw[ZY h2,ZY h2]
  rw[ZU]at h2;have Hu:2<=vs.length:=by lia
  have Lf:keyKind' kA=pure oneType':=by
   have e0:kA=kA.toList.toArray:=by simp
   rw[e0];have lk:2<=kA.toList.length:=by rw[Array.length_toList];lia
   generalize kA.toList=us at hk lk
   match us,hk,lk with
   |v1::v2::r,hk,_=>exact keyKind_ints hk
  rw[Lf];refine Z_ (Z4 ?_)
  have Qy:=mn IF;have Ph:kA.toList.length=vs.length:=by rw[Array.length_toList];exact Jl
  have run:=kat_run (prog:=X.prog) (w:=X.w) (A:=A) (E:=E) (s:=s) (κ:=oneType') (vs:=vs) (ks:=kA.toList) (Q:=λi_ s'=>s'=s/\(arrOf i_).map (·.2)=(bg vs (hV ks)).toArray/\failedOf i_=none)
   (G:=λp s'=>s'=s/\p=zU (ltK ks) (kas_sort vs.length)) Ph Hu (by lia) (λp i_ s' hp NF hf ⟨e1,e2⟩=>⟨e1,by
    rw[kat_snds Ph NF,e2];unfold hV bg;rw[ZY (by lia),<-hl],hf⟩)
   (wO (λi j C hi hj hC=>by
    obtain⟨t1,q1⟩:=cm hk (i:=i) (by lia)
    obtain⟨t2,q2⟩:=cm hk (i:=j) (by lia)
    unfold kas_ask;rw[q1,q2,keyLt'_oneType];exact oneLt_int hC) _ Qy ⟨rfl,rfl⟩)
  have ez:kA.toList.toArray.zip vs.toArray=kA.zip vs.toArray:=by simp
  rw[ez]at run;refine Z_ (YU run ?_ λ_ _ e=>e)
  rintro⟨⟨⟩,i_⟩ s' ⟨rfl,NF,hf⟩
  exact tail i_ NF hf
def kJ{A:Za}{E:Z3->ZP->Prop}{l f:ZN}{vs:Z8 Z3}{xs ys:Z8 V}{ks:Z8 Int}{Q:Z3->ZP->Prop}{T:Hp->Prop}(I:Inv X a_ σ H s)(hl:s.heap.IsList l vs.toArray)(rv:Vals xs vs)(IF:vs.length<5)(Jl:vs.length=ks.length)(t0:T H)
  (turn:∀(Gc:Z8 (ZN×Obj))(s':ZP)(H':Hp)(i:Nat)(u:Z3)(v:V)(k:Int),vs[i]?=some u->xs[i]?=some v->ks[i]?=some k->(∀p∈a_,p∈Gc)->T H'->Inv X Gc σ H' s'->wpAny (model X.prog X.w) A.in1.in1 (call (.ref f) [u]) (EP X Gc σ λy Hv=>y=V.int k/\T Hv) (λ_ _=>False) s')
  (Nc:Vals ys (bg vs (hV ks)))
  (h:∀D H' s',Inv X a_ σ (upd H' D (.lst ys)) s'->T H'->H' D=none->Q (.ref D) s'):
  wpAny (model X.prog X.w) A (call (.builtin "sorted") [.ref l] [(Str.ofString "key",.ref f)]) Q E s:=by
 have hz:(64:Nat)<=sizeLine:=by rw[X3];lia
 refine call_function_entry_kw kind_sorted plain_sorted entry_sorted (ksk_s1 _ _) ?_
 unfold Builtin.«sorted»;refine Z_ (m:=checkCount "sorted" 1 1 _) (Z4 ?_)
 refine Z_ (collect_list hl ?_ (by lia))
 refine Z_ (WL ?_ (by lia))
 obtain⟨n1,n2,n3,n4⟩:=tT s.heap vs;rw[n1];show wpAny _ _ _ _ _ {s with heap:=fQ s.heap vs}
 generalize fQ s.heap vs=g at n2 n3 n4⊢;have JB:=n3;have keep:=n4;have RI:g.objs.size=s.heap.objs.size+2:=n2;generalize hD:s.heap.objs.size+1=D at JB⊢;have MG:s.heap.objs.size<=D:=by lia
 refine Z_ (Y3 (wpAny_call_entry_kw slot_list_sort ⟨_,JB,rfl⟩ entry_list_sort ?body (ksk_l1 _ _)));show wpAny (model X.prog X.w) A.in1.in1 (Builtin.«list.sort» ⟨[.ref D],[(Str.ofString "key",.ref f)]⟩) _ _ _;rw[ksk_t1];have s1:=Ze g D (Obj.mapSeq λ_=>(#[]:Array Z3))
 obtain⟨e1,Lb⟩:∃e1,(g.update D (Obj.mapSeq λ_=>(#[]:Array Z3))).get? D=some (seqObj "list" #[] e1):=⟨_,WR JB λ_=>#[]⟩
 unfold ksk_tree;refine Z_ (Wp JB rfl ?_)
 refine Z_ (Xh JB rfl ?_ (by rw[ZU];lia) (Zs _))
 refine Z_ (seqEpoch_at Lb rfl ?_)
 refine Z_ (Wt ?_ (by show vs.length<=_;lia))
 refine Z_ (WL ?_ (Zs _))
 refine Y3 ?_
 have RK:(g.update D (Obj.mapSeq λ_=>(#[]:Array Z3))).objs.size=s.heap.objs.size+2:=by rw[Xy,RI]
 have RB:((g.update D (Obj.mapSeq λ_=>(#[]:Array Z3))).push (seqObj "tuple" vs.toArray 0)).objs.size=s.heap.objs.size+3:=by rw[size_push',RK]
 generalize RA:((g.update D (Obj.mapSeq λ_=>(#[]:Array Z3))).push (seqObj "tuple" vs.toArray 0)).objs.size=kS at RB
 have gk:(((g.update D (Obj.mapSeq λ_=>(#[]:Array Z3))).push (seqObj "tuple" vs.toArray 0)).push (seqObj "list" #[] 0)).get? kS=some (seqObj "list" #[] 0):=by rw[<-RA];exact ZK _ rfl
 have gD:(((g.update D (Obj.mapSeq λ_=>(#[]:Array Z3))).push (seqObj "tuple" vs.toArray 0)).push (seqObj "list" #[] 0)).get? D=some (seqObj "list" #[] e1):=Z5 _ (Z5 _ Lb)
 have Hi:∀b o,s.heap.get? b=some o->(((g.update D (Obj.mapSeq λ_=>(#[]:Array Z3))).push (seqObj "tuple" vs.toArray 0)).push (seqObj "list" #[] 0)).get? b=some o:=λb o q=>
  Z5 _ (Z5 _ ((s1.2 b (Zw (ZA (ZT q) MG))).trans (keep b o q)))
 generalize TJ:((g.update D (Obj.mapSeq λ_=>(#[]:Array Z3))).push (seqObj "tuple" vs.toArray 0)).push (seqObj "list" #[] 0)=g2 at gk gD Hi
 have fk:eP X a_ H kS:=I.fpOk (by lia) (I.hok.fresh (by lia))
 have fD:eP X a_ H D:=I.fpOk MG (I.hok.fresh MG);have sk:X.o_.heap.objs.size<=kS:=Zr I.sz (by lia)
 have sD:X.o_.heap.objs.size<=D:=Zr I.sz MG;have Mz:kS≠D:=by lia
 have I1:Inv X a_ σ H {s with heap:=g2,toks:=s.toks}:=I.kept (h':=g2) Hi
 have I2:Inv X ((kS,seqObj "list" #[] 0)::(D,seqObj "list" #[] e1)::a_) σ H {s with heap:=g2,toks:=s.toks}:=I1.pins_of λp hp=>by
  rcases ZZ.mp hp with rfl|hp
  .exact⟨gk,fk.1,fk.2.1,fk.2.2.1,λv z=>by cases z⟩
  .rcases ZZ.mp hp with rfl|hp
   .exact⟨gD,fD.1,fD.2.1,fD.2.2.1,λv z=>by cases z⟩
   .exact I1.pin p (ZG _ hp)
 show wpAny (model X.prog X.w) A.in1.in1 (ksk_rest D (.ref f) false vs.toArray e1 _) _ _ {s with heap:=_,toks:=s.toks}
 unfold ksk_rest;refine Z_ (YV ?_)
 rw[List.forIn_toArray];have hP:∀h' tk H',Inv X a_ σ (upd H' D (.lst ys)) {s with heap:=h',toks:=tk}->True:=λ_ _ _ _=>trivial
 refine Z_ (Xf _
  (λam _ s'=>∃(i:Nat)(kA:Array Z3)(c:Nat)(H':Hp),am=vs.drop i/\i<=vs.length/\IntsAre kA.toList (ks.take i)/\T H'/\eP X a_ H' kS/\eP X a_ H' D/\Inv X ((kS,seqObj "list" kA c)::(D,seqObj "list" #[] e1)::a_) σ H' s') _ ?step ?fin _ _ ⟨0,#[],0,H,by simp,Zs _,by simpa using IntsAre.nil,t0,fk,fD,I2⟩)
 case step=>
  rintro u am b s' ⟨i,kA,c,H',hr,hi,Lg,tH,PZ,NL,J⟩
  have k_:i<vs.length:=by
   rcases Nat.lt_or_ge i vs.length with q|q
   .exact q
   .rw[WV q]at hr;trivial
  rw[Zo k_]at hr;obtain⟨rfl,rfl⟩:=List.cons.inj hr;have hu:vs[i]?=some vs[i]:=by simp[k_]
  obtain⟨v,hv⟩:∃v,xs[i]?=some v:=⟨xs[i]'(by rw[rv.length];exact k_),by simp[rv.length,k_]⟩
  have Pg:i<ks.length:=by lia
  refine Z_ (XX (YU (turn _ s' H' i vs[i] v ks[i] hu hv (by simp[Pg]) (λp hp=>.tail _ (.tail _ hp)) tH J) (λy Hm he=>?_) λ_ _ hF=>hF.elim))
  obtain⟨yv,Hv,J',ry,rfl,Qw⟩:=he;obtain⟨t,rfl⟩:=ry;have nk:=J'.pin (kS,seqObj "list" kA c) (ZG _ (.head _));have nD:=J'.pin (D,seqObj "list" #[] e1) (ZG _ (.tail _ (.head _)));have GR:eP X a_ Hv kS:=⟨nk.2.1,fk.2⟩;have Jd:eP X a_ Hv D:=⟨nD.2.1,fD.2⟩;have J0:Inv X a_ σ Hv Hm:=J'.pins_of λp hp=>J'.pin p (ZG _ (.tail _ (.tail _ hp)))
  have s3:=Ze Hm.heap kS (Obj.mapSeq (·.push (.int ks[i] t)))
  obtain⟨c2,GV⟩:∃c2,(Hm.heap.update kS (Obj.mapSeq (·.push (.int ks[i] t)))).get? kS=some (seqObj "list" (kA.push (.int ks[i] t)) c2):=⟨_,WR nk.1 (·.push (.int ks[i] t))⟩
  have J1:Inv X a_ σ Hv {Hm with heap:=Hm.heap.update kS (Obj.mapSeq (·.push (.int ks[i] t))),toks:=Hm.toks}:=J0.turned (it:=kS) (λb o hb q=>(s3.2 b hb).trans q) GR.1 GR.2.1 (.inr sk) GR.2.2.2.2.1 GR.2.2.2.2.2
  have J2:Inv X ((kS,seqObj "list" (kA.push (.int ks[i] t)) c2)::(D,seqObj "list" #[] e1)::a_) σ Hv {Hm with heap:=Hm.heap.update kS (Obj.mapSeq (·.push (.int ks[i] t))),toks:=Hm.toks}:=J1.pins_of λp hp=>by
   rcases ZZ.mp hp with rfl|hp
   .exact⟨GV,GR.1,GR.2.1,GR.2.2.1,λv z=>by cases z⟩
   .rcases ZZ.mp hp with rfl|hp
    .exact⟨(s3.2 D (ZD Mz)).trans nD.1,Jd.1,Jd.2.1,Jd.2.2.1,λv z=>by cases z⟩
    .exact J1.pin p (ZG _ hp)
  have hsz:kA.size=i:=by have:=Lg.length;rw[Array.length_toList,XE]at this;lia
  refine Z_ (Xh nk.1 rfl ?_ (by rw[hsz];lia) (by show(kA.push _).size<=_;rw[Array.size_push,hsz];lia))
  refine Z4 ⟨i+1,kA.push (.int ks[i] t),c2,Hv,rfl,k_,?_,Qw,GR,Jd,J2⟩
  rw[YA,List.take_succ_eq_append_getElem Pg];exact Lg.append (.cons _ _ .nil)
 case fin=>
  rintro b s' ⟨i,kA,c,H',hr,hi,Lg,tH,PZ,NL,J⟩
  have Hr:i=vs.length:=by
   rcases Nat.lt_or_ge i vs.length with q|q
   .rw[Zo q]at hr;trivial
   .lia
  subst Hr;have nk:=J.pin (kS,seqObj "list" kA c) (ZG _ (.head _));refine Z_ (Wp nk.1 rfl ?_)
  rw[Jl,List.take_length]at Lg;exact sj J PZ NL sk sD Mz Lg Jl IF Nc λh' tk J3=>⟨_,rfl,Z4 ⟨_,rfl,h D H' _ J3 tH NL.1⟩⟩
end
def gh(fk:D->Z9 D):Z8 D->Z9 (Z8 Int)
 |[]=>some []
 |d::ds=>match fk d,gh fk ds with|some (.int i),some l=>some (i::l)|_,_=>none
theorem jA:∀{ds:Z8 D}{ks:Z8 Int},gh fk ds=some ks->ds.length=ks.length
 |[],ks,h=>by simp only[gh,ZM]at h;subst h;rfl
 |d::ds,ks,h=>by
  simp only[gh]at h;split at h
  .rename_i i l q1 q2
   obtain rfl:=Z7 h;simp[jA q2]
  .trivial
theorem kC:∀{ds:Z8 D}{ks:Z8 Int}{i:Nat}{d:D}{k:Int},gh fk ds=some ks->ds[i]?=some d->ks[i]?=some k->fk d=some (.int k)
 |[],ks,i,d,k,h,hd,hk=>by simp at hd
 |d'::ds,ks,i,d,k,h,hd,hk=>by
  simp only[gh]at h;split at h
  .rename_i i' l q1 q2
   obtain rfl:=Z7 h;cases i with
   |zero=>simp at hd hk;subst hd;subst hk;exact q1
   |succ i=>simp at hd hk;exact kC q2 hd hk
  .trivial
def mR(ds:Z8 D)(ks:Z8 Int):Z8 D:=(hV ks).map λi=>ds.getD i .non
noncomputable def gY(x:Z9 D)(fk:D->Z9 D):Z9 D:=match x with
 |some (.lst ds)=>if ds.length<5 then(match gh fk ds with|some ks=>some (.lst (mR ds ks))|none=>none) else none
 |_=>none
def kO(h:gY x fk=some d):∃ds ks,x=some (.lst ds)/\ds.length<5/\gh fk ds=some ks/\d=.lst (mR ds ks):=by
 unfold gY at h;split at h
 .rename_i ds
  split at h
  .rename_i hl
   split at h
   .rename_i ks q;obtain rfl:=Z7 h;exact⟨ds,ks,rfl,hl,q,rfl⟩
   .trivial
  .trivial
 .trivial
theorem Reps.order{K:Z6}{B:ZN->Prop}{H:Hp}{ds:Z8 D}{xs:Z8 V}(r:Reps K B H ds xs):∀(p:Z8 Nat),(∀i∈p,i<ds.length)->Reps K B H (p.map λi=>ds.getD i .non) (p.map λi=>xs.getD i .non)
 |[],_=>Reps.nil
 |i::p,h=>by
  have hi:=h i (ZX ..);have hd:ds[i]?=some ds[i]:=by simp[hi]
  obtain⟨x,hx,rx⟩:=r.get hd;refine Reps.cons ?_ (Reps.order r p λj hj=>h j (Z2 _ hj))
  dsimp only;rw[YK,YK,hd,hx]
  exact rx
theorem Vals.order(r:Vals xs us):∀(p:Z8 Nat),(∀i∈p,i<xs.length)->Vals (p.map λi=>xs.getD i .non) (bg us p)
 |[],_=>.nil
 |i::p,h=>by
  have hi:=h i (ZX ..);have hx:xs[i]?=some xs[i]:=by simp[hi]
  obtain⟨u,hu,ru⟩:=r.get hx;refine .cons ?_ (Vals.order r p λj hj=>h j (Z2 _ hj))
  dsimp only;rw[YK,YK,hx,hu]
  exact ru
section
variable{X:Cx}{a Hh:Expr}{fa fb:DEnv->Z9 D}{params:Arguments}{FR:Scope}{LJ kp pos p:Pos}{c P:ZN}{lq x:Str}{k:Nat}
theorem lJ(hr:Room (k+3) X.A)(g:Gl X "sorted")(hm:X.mg "sorted"=none)(hP:(P,lq)∈Lams.tb)(hq:X.env.qual++"<lambda>"=lq)(hC:PySem.W.CodeHd X.base c P)(Gi:X.env.code=.ref c)(HK:closureFor FR X.env=pure [])(J9:defaultsOf params X.env=([],[]))
  (S:FnScope [x] [x] FR) (Iu:∀(s:ZP)(u pm Hd:Z3)(c':ZN),BindsTo s (PySem.W.kla_fn "<lambda>" lq params Hh FR [] pm (.ref c') Hd) ⟨[u],[]⟩ [(x,u)])
  (hb:∀(f c':ZN)(A:Za)(s:ZP)(H:Hp),Room k (A.deeper (envOfC lq FR s.heap.objs.size f (.ref c')))->DE (mG CX0 X.prog X.w X.K X.mg X.base [x] lq FR f (.ref c') A X.stack s H (λ_ _ _=>False)).nox false Hh fb)
  (ha:DE X false a fa)(hs:starEach [a] X.env=(false,eval a X.env)::starEach [] X.env:=by rfl):
  DF X (.Call (.Name "sorted" p) [a] [⟨some "key",.Lambda params Hh FR LJ,kp⟩] pos) (λδ=>gY (fa δ) λd=>fb [some (d,false)]):=by
 intro a_ s σ H Q I Rj;obtain⟨B,Hk,δ,d,R,e,kk⟩:=Rj;obtain⟨ds,ks,MB,hlen,u_,rfl⟩:=kO e;refine XJ (dG I g hm fM ?_ (by decide) (by decide))
 refine callWith_kw (thn ((aq ha aI hs) pos a_ s σ H (λvs H1=>∃v,vs=[v]/\Same H H1/\Rep X.K B H1 (.lst ds) v) I ⟨B,Hk,δ,_,R,MB,λv H1 s1 r1=>⟨v,rfl,s1,r1⟩⟩) λus s1 ⟨vs,H1,I1,r1,v,hv,sm,rp⟩=>?_) ?_ ?_ rfl rfl
 .subst hv
  obtain⟨u,rfl,ru⟩:=gm r1;show wpAny _ _ (evalAll [do let v <-eval (.Lambda params Hh FR LJ) X.env;standAt pos;pure v]) _ _ _
  unfold evalAll;refine Z_ (Z_ (wf I1 hP hq hC Gi HK J9 λf c' pm Hd h' tk H2 MN I2 Jh Sj NB=>Z_ (wpAny_standAt (Z4 ?_))))
  unfold evalAll;refine Z_ (Y3 (Z4 (Z4 ?_)))
  have R1:Rel X.K B Hk δ σ H1:=R.to sm;have Ku:Rep X.K B H2 (.lst ds) v:=rp.ext (Jh.ext R1.borH);simp only[Rep]at Ku;obtain⟨l,xs,rfl,KC,rs⟩:=Ku;cases ru;obtain⟨its,hv,hp,hz⟩:=I2.list KC.sq;have l1:=rs.length;have l2:=hv.length;have l3:=jA u_;have hpl:∀i∈hV ks,i<ds.length:=λi hi=>by
   have:=(eY (ks:=ks) (by lia)).mem_iff.mp hi
   rw[Yq]at this;lia
  show wpAny (model X.prog X.w) X.A (call (.builtin "sorted") [.ref l] [(Str.ofString "key",.ref f)]) _ _ _;have R2:Rel X.K B Hk δ σ H2:=R1.to Jh;refine kJ (ks:=ks) (T:=λH'=>Same H2 H') I2 (let ⟨o,n,ho,hc,_,hd⟩:=hp;⟨o,ho,hc,n,hd⟩) hv (by lia) (by lia) (Same.refl H2) (λGc s' H' i u' v' k' e1 e2 e3 sub tH I'=>?_) (hv.order (hV ks) λi hi=>by have:=hpl i hi;lia) λD H' s' J tH hD=>?_
  .have hi:i<ds.length:=by have:=(ZV.mp e2).1;lia
   have hd:ds[i]?=some ds[i]:=by simp[hi]
   obtain⟨y,hy,ry⟩:=rs.get hd;rw[e2]at hy;obtain rfl:=Z7 hy;obtain⟨w',hw,E_⟩:=hv.get e2;rw[e1]at hw;obtain rfl:=Z7 hw;have s_:=kC u_ hd e3;have bo:∀a,B a->∃o:HOn,H' a=some o.1:=(R2.to tH).borH;obtain⟨more,Si⟩:=tH.tbl _ _ _ Sj;refine uP I' hr.in1.in1 (λe=>e.in1.in1) (sub _ (.head _)) Si (by rw[Zk];exact bV _ _ NB) S (Iu _ _ _ _ _) (.cons E_ .nil) rfl λhR=>⟨_,(hb f c' _ _ _ hR).nox,B,H',[some (ds[i],false)],.int k',fA (N:=[x]) (ds:=[ds[i]]) bo (Reps.cons (ry.ext (R2.ext tH)) Reps.nil) (ZQ _),s_,λv Hv s r=>⟨?_,tH.trans s⟩⟩
   simp only[Rep]at r;exact r
  .have tD:H D=none:=(sm.trans (Jh.trans tH)).free hD
   refine⟨.ref D,_,J.pins_of λp hp=>J.pin p (ZG _ (.tail _ hp)),rfl,kk D _ ((sm.trans (Jh.trans tH)).trans (au hD)) tD ⟨_,ah,(rs.order (hV ks) hpl).ext ((R2.ext tH).trans ((R2.to tH).ext (au hD)))⟩⟩
 .rw[hs];rfl
 .rw[hs];rfl
end
end L2
namespace L2
open PySem PySem.Spec PyProof.Rows
variable[Lams]
section
open PySem.SeqAt
open PySem.AutoSeq1 (wpAny_loadPart')
open PySem.MeetsSeq PySem.MeetsSeq2 PySem.MeetsSeq3
def rF(l b:ZN)(v w:Z3)(vs ws:Z8 Z3)(n n2:Nat)(dd Gy:Z9 ZN)(sl Gw:Array (Z9 Z3)):
  Meets (Builtin.«tuple.__eq__» ⟨[.ref l,.ref b],[]⟩)
   (λA R s=>s.heap.get? l=some {cls:=.type "tuple",dict:=dd,data:=.seq (v::vs).toArray n,slots:=sl}/\s.heap.get? b=some {cls:=.type "tuple",dict:=Gy,data:=.seq (w::ws).toArray n2,slots:=Gw}/\
    EqAt A.in1 s v w false/\R (.ok (.ret (.bool false))) s):=
 .of_wp λprog w' A R s h=>by
  obtain⟨hp,g,d,tk,os⟩:=s;obtain⟨hl,hb,he,h⟩:=h;have f2:=WI
  wp_walk using wpAny_loadPart' hl,wpAny_loadPart' hb,Xf _ (λam b s'=>b.1=none/\s'=⟨hp,g,d,tk,os⟩/\am=(v::vs).zip (w::ws)) _
  case turn=>
   rintro⟨y,x⟩ am b s' ⟨Gj,rfl,hz⟩
   rw[List.zip_cons_cons]at hz;injection hz with K3 C_
   injection K3 with hy IB
   subst hy IB;refine Z_ (he prog w' _ _ ?_)
   wp_walk
   exact⟨_,rfl,by simpa using h⟩
  case fin=>
   rintro⟨b1,b2⟩ s' ⟨Gj,rfl,hz⟩
   rw[List.zip_cons_cons]at hz;trivial
  case h=>exact⟨rfl,rfl,rfl⟩
end
def EqAt.firsts(FW:l≠b)(hl:s.heap.IsTuple l (v::vs).toArray)(hb:s.heap.IsTuple b (w::ws).toArray)(hu:A.units<cLine)(he:SeqAt.EqAt A.in1 s v w false):SeqAt.EqAt A s (.ref l) (.ref b) false:=by
 refine SeqAt.EqAt.of_refs FW λprog w' E Q h=>?_
 obtain⟨⟨cls,dd,data,sl⟩,ho,hc,n,hd⟩:=id hl;obtain⟨⟨Jf,Gy,data2,Gw⟩,GI,GV,n2,hd2⟩:=id hb;simp only at hc hd GV hd2;subst hc hd GV hd2;exact WB (op:=.Eq) ⟨_,ho,rfl⟩ ⟨_,GI,rfl⟩ PySem.F.slot_tuple_eq PySem.F.entry_tuple_eq (PySem.F.args_tuple_eq_2 _ _) (rF l b v w vs ws n n2 dd Gy sl Gw)
  ⟨ho,GI,he,show Value.bool false≠Value.notImplemented/\Q (.bool false) s from⟨(λx=>nomatch x),h⟩⟩ hu
section
variable{A:Za}
def lU(hj:j<items.size)(hz:items.size<=sizeLine)(hl:s.heap.get? l=some (seqObj "list" items n))(hit:SeqAt.EqAt A.in1 s items[j] x true)(h:R (.ok (.ret .none)) {s with heap:=s.heap.update l (Obj.mapSeq λxs=>xs.eraseIdxIfInBounds j)}):∀(k i:Nat),j - i=k->i<=j->(∀m (hm:m<items.size),i<=m->m<j->SeqAt.EqAt A.in1 s items[m] x false)->
  codeAny (model prog w) A (.builtin "list.remove.loop" ⟨[.ref l,x,rawInt i],[]⟩) R s:=by
 intro k
 induction k with
 |zero=>
  intro i hk hi HI;have e:i=j:=by lia
  subst e;refine YC PySem.MeetsSeq.entry_remove_loop ?_
  rw[Y4 Yd _];show wpAny _ A.in1 (Builtin.List.listItems (.ref l) >>= _) _ _ s;refine Z_ (Wp hl rfl ?_)
  simp only[Int.toNat_natCast];rw[YY hj]
  refine Z_ (hit prog w _ _ ?_)
  simp only[Y2];refine Z_ (Xh hl rfl (Z4 h) hz (by show(items.eraseIdxIfInBounds i).size<=_;exact Zr (by unfold Array.eraseIdxIfInBounds;split<;>simp[Array.size_eraseIdx]) (Nat.le_succ_of_le hz)))
 |succ k ih=>
  intro i hk hi HI;refine YC PySem.MeetsSeq.entry_remove_loop ?_
  rw[Y4 Yd _];show wpAny _ A.in1 (Builtin.List.listItems (.ref l) >>= _) _ _ s;refine Z_ (Wp hl rfl ?_)
  simp only[Int.toNat_natCast];have s_:i<items.size:=by lia
  rw[YY s_]
  refine Z_ (HI i s_ (ZQ _) (by lia) prog w _ _ ?_)
  simp only[ZJ,Zc];exact Z4 ⟨Yp Yd _,ih (i+1) (by lia) (by lia) λm hm h1 h2=>HI m hm (by lia) h2⟩
def lH(hj:j<items.size)(hz:items.size<=sizeLine)(hl:s.heap.get? l=some (seqObj "list" items n))(hit:SeqAt.EqAt A.in1 s items[j] x true)(HI:∀m (hm:m<items.size),m<j->SeqAt.EqAt A.in1 s items[m] x false)(h:Q .none {s with heap:=s.heap.update l (Obj.mapSeq λxs=>xs.eraseIdxIfInBounds j)}):wpAny (model prog w) A (call (.builtin "list.remove") [.ref l,x]) Q E s:=by
 refine WA (S:=λA' R s'=>s'=s/\A'=A/\R (.ok (.ret .none)) {s with heap:=s.heap.update l (Obj.mapSeq λxs=>xs.eraseIdxIfInBounds j)}) PySem.F.slot_list_remove (show s.TypeIs (.ref l) "list" from⟨_,hl,rfl⟩) PySem.F.entry_list_remove (PySem.F.args_list_remove_2 _ _) ?_ ⟨rfl,rfl,h⟩
 rintro prog w A' R s' ⟨rfl,rfl,hR⟩
 show wpAny _ _ (pure _) _ _ _;exact Z4 ⟨Yp Yd _,lU hj hz hl hit hR _ 0 rfl (Zs _) λm hm _ h2=>HI m hm h2⟩
end
def cx(f:D->Z9 Bool):Z8 D->Z9 (Z8 Bool)
 |[]=>some []
 |d::ds=>match f d,cx f ds with|some b,some bl=>some (b::bl)|_,_=>none
theorem gI:∀{ds:Z8 D}{bl:Z8 Bool},cx f ds=some bl->bl.length=ds.length
 |[],bl,h=>by simp only[cx,ZM]at h;subst h;rfl
 |d::ds,bl,h=>by
  simp only[cx]at h;split at h
  .rename_i b l q1 q2;obtain rfl:=Z7 h;simp[gI q2]
  .trivial
theorem gP:∀{ds:Z8 D}{bl:Z8 Bool}{i:Nat}{d:D}{b:Bool},cx f ds=some bl->ds[i]?=some d->bl[i]?=some b->f d=some b
 |[],bl,i,d,b,h,hd,hb=>by simp at hd
 |d'::ds,bl,i,d,b,h,hd,hb=>by
  simp only[cx]at h;split at h
  .rename_i b' l q1 q2
   obtain rfl:=Z7 h;cases i with
   |zero=>simp at hd hb;subst hd;subst hb;exact q1
   |succ i=>simp at hd hb;exact gP q2 hd hb
  .trivial
def aF(bl:Z8 Bool):Nat:=if true∈bl then bl.idxOf true else 0
def dR(d e:D):Bool:=match d,e with|.tup (a::_),.tup (b::_)=>okD 15 a&&okD 15 b&&decide (a≠b)|_,_=>false
def sw:D->Bool
 |.tup _=>true
 |_=>false
noncomputable def qh(r iL iT j:Nat)(bs:Z8 Bool)(ft:DEnv->Z9 Bool)(δ:DEnv)(gr:DEnv->Z9 Out):Z9 Out:=match δ[r]? with
 |some (some (.lst ds,true))=>(match cx (λd=>ft ((aw true bs δ).set j (some (d,false)))) ds,ds[0]? with
  |some bl,some _=>if(iL<δ.length/\iT<δ.length/\j<δ.length/\ds.length<=lim)/\(ds.all sw&&(ds.take (aF bl)).all λd=>dR d (ds.getD (aF bl) .non))=true then
    gr (((δ.set iL (some (.lst (dg ds bl),true))).set iT (some (ds.getD (aF bl) .non,false))).set r (some (.lst (ds.eraseIdx (aF bl)),true))) else none
  |_,_=>none)
 |_=>none
def oJ(h:qh r iL iT j bs ft δ gr=some o):∃ds bl,δ[r]?=some (some (.lst ds,true))/\cx (λd=>ft ((aw true bs δ).set j (some (d,false)))) ds=some bl/\0<ds.length/\(iL<δ.length/\iT<δ.length/\j<δ.length/\ds.length<=lim)/\
  ds.all sw=true/\((ds.take (aF bl)).all λd=>dR d (ds.getD (aF bl) .non))=true/\
  gr (((δ.set iL (some (.lst (dg ds bl),true))).set iT (some (ds.getD (aF bl) .non,false))).set r (some (.lst (ds.eraseIdx (aF bl)),true)))=some o:=by
 unfold qh at h;split at h
 .rename_i ds e
  split at h
  .rename_i bl x eb ex
   split at h
   .rename_i c
    rw[ZH]at c;exact⟨ds,bl,e,eb,(ZV.mp ex).1,c.1,c.2.1,c.2.2,h⟩
   .trivial
  .trivial
 .trivial
theorem Reps.erase{K:Z6}{B:ZN->Prop}{H:Hp}:∀{ds:Z8 D}{xs:Z8 V}(i:Nat),Reps K B H ds xs->Reps K B H (ds.eraseIdx i) (xs.eraseIdx i)
 |[],xs,i,r=>by simp only[Reps]at r;subst r;exact Reps.nil
 |d::ds,xs,0,r=>by simp only[Reps]at r;obtain⟨x,q,rfl,r1,r2⟩:=r;exact r2
 |d::ds,xs,i+1,r=>by simp only[Reps]at r;obtain⟨x,q,rfl,r1,r2⟩:=r;exact Reps.cons r1 (Reps.erase i r2)
theorem Vals.erase:∀{xs:Z8 V}{us:Z8 Z3}(i:Nat),Vals xs us->Vals (xs.eraseIdx i) (us.eraseIdx i)
 |_,_,i,.nil=>by simpa using Paired.nil
 |_,_,0,.cons a b=>b
 |_,_,i+1,.cons a b=>.cons a (Vals.erase i b)
theorem jz{α:Type}:∀{xs:Z8 α}{bl:Z8 Bool},bl.length=xs.length->(true∈bl->(dg xs bl)[0]?=xs[aF bl]?)/\(true∉bl->dg xs bl=[])
 |[],bl,h=>by cases bl with
  |nil=>exact⟨λh=>(by trivial),λ_=>rfl⟩
  |cons _ _=>simp at h
 |x::xs,bl,h=>by
  cases bl with
  |nil=>simp at h
  |cons b bl=>
   have ih:=jz (xs:=xs) (bl:=bl) (by simpa using h)
   cases b with
   |true=>exact⟨λ_=>by unfold dg aF;simp,λn=>absurd (ZX ..) n⟩
   |false=>
    refine⟨λm=>?_,λn=>?_⟩
    .have m':true∈bl:=by simpa using m
     have:=ih.1 m';unfold dg;simp only[ZJ,Zc];rw[this];unfold aF;rw[Z0 m',Z0 m,List.idxOf_cons];simp
    .unfold dg
     simp only[ZJ,Zc];exact ih.2 (λz=>n (Z2 _ z))
def nE{α:Type}{xs:Z8 α}{x:α}(h:xs[0]?=some x):atI xs 0=some x:=by
 have hl:=(ZV.mp h).1
 have:=(ZV.mp h).2
 simpa[atI,ixN,hl]using this
section
variable{X:Cx}
def n8(hu:X.A.units+64<cLine):MtR X "list.remove" (λx vs H Q=>∃B l p ds xs j,x=.ref l/\vs=[.ref p]/\H l=some (.lst xs)/\Reps X.K B H ds xs/\xs[j]?=some (.ref p)/\ds.all sw=true/\((ds.take j).all λd=>dR d (ds.getD j .non))=true/\Q .non (upd H l (.lst (xs.eraseIdx j)))):=by
 intro a_ s σ H x vs v us Q I rx rv h;obtain⟨B,l,p,ds,xs,j,rfl,rfl,hH,rs,hj,hT,Ng,q⟩:=h;cases rx;obtain⟨u,rfl,ru⟩:=rv.one;cases ru;obtain⟨z,its,n,r,hl,e⟩:=I.lstM hH;have l1:=r.length;have l2:=rs.length;have TH:j<xs.length:=(ZV.mp hj).1
 have Pl:j<its.length:=by lia
 have Pm:j<ds.length:=by lia
 obtain⟨w,hw,E_⟩:=r.get hj;cases E_;have ej:its[j]=Value.ref p:=by have:=ZV.mp hw;exact this.2
 refine lH (j:=j) (items:=its.toArray) (n:=n) (by simpa using Pl) (by rw[ZU];lia) e ?_ (λm hm Ru=>?_) ?_
 .rw[List.getElem_toArray,ej];exact SeqAt.EqAt.same _
 .rw[List.getElem_toArray]
  have Tx:m<its.length:=by simpa using hm
  have Pb:m<ds.length:=by lia
  have HQ:=(ZO.mp Ng) ds[m] (by
   rw[List.mem_iff_getElem?];exact⟨m,by rw[List.getElem?_take,Z0 Ru];simp[Pb]⟩)
  have MA:ds.getD j .non=ds[j]:=by rw[YK];simp[Pm]
  rw[MA]at HQ;obtain⟨xm,Q3,rm⟩:=rs.get (i:=m) (d:=ds[m]) (by simp[Pb])
  obtain⟨xj,OY,rj⟩:=rs.get (i:=j) (d:=ds[j]) (by simp[Pm])
  rw[hj]at OY;obtain rfl:=Z7 OY;unfold dR at HQ;split at HQ
  .rename_i d1 d2 a as b bs e1 e2
   rw[ZH,ZH]at HQ;obtain⟨⟨oa,ob⟩,ne⟩:=HQ;rw[e1]at rm;rw[e2]at rj;simp only[Rep]at rm rj;obtain⟨t1,y1,rfl,g1,q1⟩:=rm;obtain⟨t2,y2,z2,g2,q2⟩:=rj;cases z2;obtain⟨um,Q9,QE⟩:=r.get Q3;cases QE;have em:its[m]=Value.ref t1:=by have:=ZV.mp Q9;exact this.2
   rw[em];simp only[Reps]at q1 q2;obtain⟨v1,r1,rfl,ra,_⟩:=q1;obtain⟨v2,r2,rfl,rb,_⟩:=q2;obtain⟨i1,w1,Qt,_⟩:=I.tuple (SqT.of g1);obtain⟨i2,w2,Qs,_⟩:=I.tuple (SqT.of g2);cases w1 with
   |cons a1 a2=>cases w2 with
    |cons b1 b2=>
     have FW:t1≠p:=λz=>by
      subst z;rw[g1]at g2;cases g2;exact(Zf ne) (Rep.inj I oa ob ra rb)
     have q:=(zS I 15 a b v1 v2 _ _ (X.A.in1.in1) oa ob (by show X.A.units+1+1+15+1<cLine;lia) ra rb a1 b1).2.1
     rw[ZC (Zf ne)]at q;exact EqAt.firsts FW Qt Qs (by show X.A.units+1<cLine;lia) q
  .trivial
 .refine⟨.non,_,I.lset (its':=its.eraseIdx j) (ys:=xs.eraseIdx j) hH e ?_ (Vals.erase j r) ?_,rfl,q⟩
  .simp[Array.eraseIdxIfInBounds,Pl]
  .have:=List.length_eraseIdx_le xs j;lia
variable{r j iL iT:Nat}{xr xl xt xp:Str}{bs:Z8 Bool}{ifs:Z8 Expr}{scope:Scope}{ft:DEnv->Z9 Bool}{am:Z8 Stmt}{gr:DEnv->Z9 Out}{pe pp pr Ju py G2 OD F2 Ml Mj OF MW MV OG OE apos ka pt Lz pf MZ:Pos}{k1 k2:Nat}
theorem rN(hu:X.A.units+64<cLine)(hN:X.N.Nodup)(hc:X.calm=true)(nr:Nm X r xr)(nl:Nm X iL xl)(nt:Nm X iT xt)(lt:Lc X iT xt)(hy:X.env.scope.names.lookup xl=some .local)(Ni:r≠iL)(O3:r≠iT)(k_:iL≠iT)(S:CompScope X scope bs)
  (hg:∀cl C d_ e_ ex pn,PG (ax X scope cl C d_ e_ ex pn) (.Name xp pp) (gf j)) (ht:∀cl C d_ e_ ex pn,DTs (ax X scope cl C d_ e_ ex pn) ifs ft) (he:∀cl C d_ e_ ex pn,PE (ax X scope cl C d_ e_ ex pn) (.Name xp pe) (tX j))
  (C_:DSs X am gr)
  (GY:swapsWith (.ListComp (.Name xp pe) [⟨.Name xp pp,.Name xr pr,ifs,0⟩] scope Ju) (some (.Name xl py)) G2.line X.env=pure true)
  (hs:∀x,foldedSetIterable (.Name xr pr) X.env x=pure x)
  (J4:swapsWith (.IfExp (.Name xl Ml) (.Subscript (.Name xl Mj) (.Constant (.int 0) k1 MW) OG) (.Subscript (.Name xr OF) (.Constant (.int 0) k2 MV) OE) pf) (some (.Name xt OD)) F2.line X.env=pure false)
  (N4:∀whole,isTrue (.Name xl Ml) X.env whole=(do let v <-whole;standAt (Expr.pos (.Name xl Ml));holding [v] (truthy v)))
  (JF:f7 (.Constant (.int 0) k1 MW)) (Jo:f7 (.Constant (.int 0) k2 MV))
  (mc:Mc X.env (.Name xr MZ) "remove" (.Name xt pt) [] apos ka)
  (JZ:swapsWith (.Call (.Attribute (.Name xr MZ) "remove" apos) [.Name xt pt] [] ka) none Lz.line X.env=pure false):
  DSs X (.Assign [.Name xl py] (.ListComp (.Name xp pe) [⟨.Name xp pp,.Name xr pr,ifs,0⟩] scope Ju) G2::
   .Assign [.Name xt OD] (.IfExp (.Name xl Ml) (.Subscript (.Name xl Mj) (.Constant (.int 0) k1 MW) OG) (.Subscript (.Name xr OF) (.Constant (.int 0) k2 MV) OE) pf) F2::
   .Expr (.Call (.Attribute (.Name xr MZ) "remove" apos) [.Name xt pt] [] ka) Lz::am) (λδ=>qh r iL iT j bs ft δ gr):=by
 intro a_ s σ H Dn I hq;obtain⟨B,Hk,δ,o,R,e,kk⟩:=hq;obtain⟨ds,bl,hr,hb,h0,⟨q1,q2,q3,q4⟩,hT,Ng,e'⟩:=oJ e;have Nb:=R.len;have OU:=gI hb;refine aR (rC (tt:=tMT X.K ft) hc (kU (aT nr.at' nr.vis nr.d1 nr.d2)) S hg ht he hN nl.at' hy GY hs)
  (aR (fV hN lt.at' lt.loc (uI (mO (aT nl.at' nl.vis nl.d1 nl.d2) N4) (vF kY (aT nl.at' nl.vis nl.d1 nl.d2) sZ JF) (vF kY (aT nr.at' nr.vis nr.d1 nr.d2) sZ Jo)) J4 lt.fnl)
   (aR (dX (ky Yy PySem.F.slot_list_remove PySem.F.type_list_remove (n8 hu) (aT nr.at' nr.vis nr.d1 nr.d2) (aq (aT nt.at' nt.vis nt.d1 nt.d2) aI mc.s) mc) JZ) C_)) a_ s σ H Dn I ?_
 unfold DC xB;refine sN (bl:=bl) (by rw[S.len,<-I.len]) R hr (by lia) OU q4 (λi d c h1 h2=>gP hb h1 h2) λl xs a H' h1 h3 h4 sm O_ ha=>?_
 have lx:=h4.length;have Kk:aF bl<ds.length:=by
  unfold aF;split
  .rename_i m;rw[<-OU];exact YN m
  .exact h0
 have F4:H' l=some (.lst xs):=sm l _ h3;have R0:=R.to sm;have IG:Reps X.K B H' ds xs:=h4.ext (R.ext sm);have KI:ds[aF bl]?=some (ds.getD (aF bl) .non):=by rw[YK];simp[Kk]
 obtain⟨w,hw,Ly⟩:=IG.get KI;obtain⟨ts,Sy⟩:∃ts,ds.getD (aF bl) .non=.tup ts:=by
  have:=(ZO.mp hT) _ (Zg KI);cases q:ds.getD (aF bl) .non with
  |tup ts=>exact⟨ts,rfl⟩
  |_=>rw[q]at this;simp[sw]at this
 have Ku:=Ly;rw[Sy]at Ku;simp only[Rep]at Ku;obtain⟨p,ws,rfl,hp,rws⟩:=Ku;have MJ:(σ.set iL (some (.ref a)))[iL]?=some (some (.ref a)):=ZR (by lia)
 have Ot:(σ.set iL (some (.ref a)))[r]?=some (some (.ref l)):=by rw[ZW (ZD Ni)];exact h1
 have Rz:Hk a=none:=R.same.free O_;have R1:Rel X.K B Hk (δ.set iL (some (.lst (dg ds bl),true))) (σ.set iL (some (.ref a))) H':=R0.setOwn (by lia) Rz ⟨_,ha,fq IG⟩ (λm f hm z1 z2=>by
  obtain⟨c,y1,_,y3⟩:=R.own m f z1;rw[z2]at y1;cases y1;obtain⟨u,hu⟩:=y3.there;rw[O_]at hu;trivial)
 have R2:=R1.set (i:=iT) (by rw[Zl];lia) Ly
 have GZ:((δ.set iL (some (.lst (dg ds bl),true))).set iT (some (ds.getD (aF bl) .non,false)))[r]?=some (some (.lst ds,true)):=by
  rw[ZW (ZD O3),ZW (ZD Ni)];exact hr
 have Lq:((σ.set iL (some (.ref a))).set iT (some (.ref p)))[r]?=some (some (.ref l)):=by rw[ZW (ZD O3)];exact Ot
 have NS:((σ.set iL (some (.ref a))).set iT (some (.ref p)))[iT]?=some (some (.ref p)):=ZR (by rw[Zl];lia)
 obtain⟨x5,R3⟩:=R2.lset (ds':=ds.eraseIdx (aF bl)) (xs':=xs.eraseIdx (aF bl)) GZ Lq F4 (IG.erase _);have fin:AA (tBM X.K "list" (λx vs H Q=>∃B l p ds xs j,x=.ref l/\vs=[.ref p]/\H l=some (.lst xs)/\Reps X.K B H ds xs/\xs[j]?=some (.ref p)/\ds.all sw=true/\((ds.take j).all λd=>dR d (ds.getD j .non))=true/\Q .non (upd H l (.lst (xs.eraseIdx j)))) (tX r) (oD (tX iT) tNil)) {Dn with nx:=tD X.K gr Dn} ((σ.set iL (some (.ref a))).set iT (some (.ref p))) H':=
  ⟨.ref l,Lq,.inl ⟨rfl,_,SqL.of F4⟩,.ref p,NS,B,l,p,ds,xs,aF bl,rfl,rfl,F4,IG,hw,hT,Ng,B,Hk,_,o,R3,e',kk.ext ((R.ext sm).trans x5)⟩
 have ph:=jz (xs:=xs) (bl:=bl) (by lia)
 by_cases m:true∈bl
 .have FW:(dg xs bl)[0]?=some (.ref p):=(ph.1 m).trans hw
  refine⟨.ref a,MJ,true,.inl ⟨_,SqL.of ha,?_⟩,?_⟩
  .cases q:dg xs bl with
   |nil=>rw[q]at FW;trivial
   |cons _ _=>simp
  .exact v8 ⟨.ref a,MJ,a,_,0,.ref p,rfl,rfl,SqL.of ha,nE FW,fin⟩
 .have Oa:=ph.2 m
  have f0:aF bl=0:=by unfold aF;rw[ZY m]
  refine⟨.ref a,MJ,false,.inl ⟨_,SqL.of ha,by rw[Oa];rfl⟩,?_⟩
  rw[f0]at hw;exact vA ⟨.ref l,Ot,l,xs,0,.ref p,rfl,rfl,SqL.of F4,nE hw,fin⟩
end
section
end
section
end
inductive OutX where
 |o (x:Out)|rai
section
end
section
end
end L2
namespace L2
open PySem
def ItAt(t:Bool)(h:Heap)(c q:ZN)(n:Nat):Prop:=if t=true then h.IsTupleIter c q n else h.IsListIter c q n
def SqAt(t:Bool)(h:Heap)(q:ZN)(vs:Array Z3):Prop:=if t=true then h.IsTuple q vs else h.IsList q vs
def ItAt.obj(x:ItAt t h c q n):∃o,h.get? c=some o/\o.cls=.type (if t=true then "tuple_iterator" else "list_iterator")/\o.data=.fields #[.ref q,.int n 0]:=by
 cases t<;>exact x
def ItAt.to(x:ItAt t h c q n)(k:∀o,h.get? c=some o->h'.get? c=some o):ItAt t h' c q n:=by
 cases t<;>(obtain⟨o,e,r⟩:=x;exact⟨o,k o e,r⟩)
def SqAt.to(x:SqAt t h q vs)(k:∀o,h.get? q=some o->h'.get? q=some o):SqAt t h' q vs:=by
 cases t<;>(obtain⟨o,e,r⟩:=x;exact⟨o,k o e,r⟩)
section
variable{A:Za}{E:Z3->ZP->Prop}
def vo(hh:A.handled=none)(hc:s.heap.IsTupleIter c q n)(hq:s.heap.IsTuple q vs)(He:∀v,vs[n]?=some v->∀h',h'.IsTupleIter c q (n+1)->Heap.SameBut c s.heap h'->Q v {s with heap:=h'})(Hf:vs[n]?=none->∀h' e,Heap.ExtBut c s.heap h'->(∃o,h'.get? e=some o/\o.cls=.type "StopIteration")->E (.ref e) {s with heap:=h'}):
  wpAny (model prog w) A (Builtin.SmallTypes.nextOf (.ref c)) Q E s:=by
 have ty:=hc.typeIs;obtain⟨oc,gc,kc,dc⟩:=hc;obtain⟨oq,gq,_,m,dq⟩:=hq;unfold Builtin.SmallTypes.nextOf;refine Z_ (YF (name:=Str.ofString "__next__") ty F.slot_tuple_iterator_next (Y8 F.slot_tuple_iterator_next ty F.entry_tuple_iterator_next ?body (F.args_tuple_iterator_next_1 _)))
 change wpAny _ _ (field (.ref c) 0 >>= _) _ E s;refine Z_ (XM gc dc (x:=.ref q) rfl ?_)
 change wpAny _ _ (if(Value.ref q==Value.none)=true then _ else _) _ E s
 rw[ZY (by exact Zn)]
 change wpAny _ _ (field (.ref c) 1 >>= _) _ E s;refine Z_ (XM gc dc (x:=.int n 0) rfl (Z_ (Ys gq dq ?_)))
 simp only[Int.toNat_natCast]
 rcases hv:vs[n]? with _|v
 .simp only[newExc,newTuple,raiseNew]
  refine Z_ (YV (Z_ (Yn gc dc (by simp) (Z_ (Z_ (Y7 ?_ (by size_fits)))))))
  refine Z_ (m:=firstArgMember _ _) (Wu (a:=Value.none) (by first|rfl|(simp only[firstArgMember];rfl)) (Y7 ?_ (by size_fits)))
  refine Z_ (wpAny_handled ?_)
  rw[show A.in1.handled=none from hh]
  exact Z_ (Z4 (wpAny_throw (Hf hv _ _ (((Ze ..).extBut.push _).push _) ⟨_,ZK _ rfl,rfl⟩)))
 .refine Z_ (Yn gc dc (by simp) (Z4 ⟨v,rfl,Z4 (He v hv _ ⟨_,Zj _ gc (X8 (Zb dc _)),?_,?_⟩ (Ze ..))⟩))
  .rw[Xk];exact kc
  .rw[Zb dc];simp[rawInt]
def Ck(hh:A.handled=none)(hc:ItAt t s.heap c q n)(hq:SqAt t s.heap q vs)(He:∀v,vs[n]?=some v->∀h',ItAt t h' c q (n+1)->Heap.SameBut c s.heap h'->Q v {s with heap:=h'})(Hf:vs[n]?=none->∀h' e,Heap.ExtBut c s.heap h'->(∃o,h'.get? e=some o/\o.cls=.type "StopIteration")->E (.ref e) {s with heap:=h'}):
  wpAny (model prog w) A (Builtin.SmallTypes.nextOf (.ref c)) Q E s:=by
 cases t with
 |true=>exact vo hh hc hq He Hf
 |false=>
  rcases hv:vs[n]? with _|v
  .exact wpAny_nextOf_list_end hh hc hq hv (Hf hv)
  .exact wpAny_nextOf_list_item hc hq hv (He v hv)
end
structure Zp (t u:Bool)(h:Heap)(z P O c d p q:ZN)(n:Nat)(f:Z3):Prop where
 zz:IsZip h z P O f
 pp:IsPair h P (.ref c) (.ref d)
 oo:∃a b,IsPair h O a b
 cc:ItAt t h c p n
 dd:ItAt u h d q n
structure Ap (z P O c d p q:ZN):Prop where
 nd:[z,P,O,c,d].Nodup
 p:p∉[z,P,O,c,d]
 q:q∉[z,P,O,c,d]
def ag(k:Heap.SameBut a h h')(n:b≠a)(e:h.get? b=some o):h'.get? b=some o:=(k.2 b n).trans e
section
variable{prog:Y1}{w:YO}{A:Za}{E:Z3->ZP->Prop}{s:ZP}
def vf{Q:Z3->ZP->Prop}(hh:A.handled=none)(ap:Ap z P O c d p q)(Z:Zp t u s.heap z P O c d p q n .none)(hp:SqAt t s.heap p xs)(hq:SqAt u s.heap q ys)(item:∀x y,xs[n]?=some x->ys[n]?=some y->∀h',Zp t u h' z P O c d p q (n+1) (rawInt s.heap.objs.size)->IsPair h' s.heap.objs.size x y->h'.objs.size=s.heap.objs.size+1->
   (∀b o,b∉[z,P,O,c,d]->s.heap.get? b=some o->h'.get? b=some o)->Q (.ref s.heap.objs.size) {s with heap:=h'}) (stop:(xs[n]?=none\/ys[n]?=none)->∀h' e,(∀b o,b∉[z,P,O,c,d]->s.heap.get? b=some o->h'.get? b=some o)->(∃o,h'.get? e=some o/\o.cls=.type "StopIteration")->E (.ref e) {s with heap:=h'}):
  wpAny (model prog w) A (Builtin.«zip.__next__» ⟨[.ref z],[]⟩) (λr s'=>∃v,r=.done (.ret v)/\Q v s') E s:=by
 obtain⟨zz,pp,⟨a,b,oo⟩,cc,dd⟩:=Z;have nd:=ap.nd;have np:=ap.p;have nq:=ap.q;simp only[YJ,ZZ,Zu,YQ,Xs,YX,and_true,W8]at nd np nq;obtain⟨⟨zP,zO,zc,zd⟩,⟨PO,Pc,Pd⟩,⟨Oc,Od⟩,cd⟩:=nd;obtain⟨pz,pP,pO,pc,pd⟩:=np;obtain⟨qz,qP,qO,qc,qd⟩:=nq;change wpAny _ _ (field (.ref z) 2 >>= _) _ E s;refine Z_ (XM zz rfl (x:=.bool false) rfl ?_)
 change wpAny _ _ (field (.ref z) 3 >>= _) _ E s;refine Z_ (XM zz rfl (x:=.ref P) rfl (Z_ (Ys pp rfl ?_)))
 change wpAny _ _ (Builtin.SmallTypes.ownedTupleIsFree (.ref z) >>= _) _ E s;unfold Builtin.SmallTypes.ownedTupleIsFree;refine Z_ (Z_ (XM zz rfl (x:=.none) rfl (Z4 ?_)))
 simp only[Y2];refine Z_ (YV (Z_ (XM zz rfl (x:=.ref O) rfl (Z_ (Ye zz (by simp) λGP Ka x_=>Z_ ?_)))))
 have HV:IsZip GP z P O .ellipsis:=Ka;simp only[List.zipIdx_cons,List.zipIdx_nil,WO,List.forIn_nil];refine Z_ (Z_ (wpAny_onRaise ?_))
 change wpAny _ _ (Builtin.SmallTypes.nextOf (.ref c) >>= _) _ _ _;refine Z_ (Ck (t:=t) hh (cc.to λo e=>ag x_ (ZD zc) e) (hp.to λo e=>ag x_ pz e) (λx hx Hy Je w_=>Z4 ?_) λhx Hy e w_ he=>?_)
 .have LC:IsPair Hy O a b:=ag w_ Oc (ag x_ (ZD zO) oo)
  refine Z_ (Ys LC rfl (Z_ (wpAny_updateSeq_pair LC λJX Oj Ga=>Z_ (Ws (Z4 ?_)))))
  have NW:IsPair JX O x b:=Oj;refine Z_ (Z_ (wpAny_onRaise ?_))
  change wpAny _ _ (Builtin.SmallTypes.nextOf (.ref d) >>= _) _ _ _;refine Z_ (Ck (t:=u) hh (dd.to λo e=>ag Ga (ZD Od) (ag w_ (ZD cd) (ag x_ (ZD zd) e))) (hq.to λo e=>ag Ga qO (ag w_ qc (ag x_ qz e))) (λy hy FN Kb FQ=>Z4 ?_) λhy FN e FQ he=>?_)
  .have LB:IsPair FN O x b:=ag FQ Od NW
   refine Z_ (Ys LB rfl (Z_ (wpAny_updateSeq_pair LB λFY Oi GO=>Z_ (Ws (Z4 (Z4 ?_))))))
   have LA:IsPair FY O x y:=Oi;have old:∀f o,f≠z->f≠O->f≠c->f≠d->s.heap.get? f=some o->FY.get? f=some o:=λf o n1 n2 n3 n4 e=>ag GO n2 (ag FQ n4 (ag Ga n2 (ag w_ n3 (ag x_ n1 e))))
   have sz:FY.objs.size=s.heap.objs.size:=by rw[GO.1,FQ.1,Ga.1,w_.1,x_.1]
   have Ls:IsZip FY z P O .ellipsis:=ag GO zO (ag FQ zd (ag Ga zO (ag w_ zc HV)));refine Z_ (Ys LA rfl (Z_ (Wt ?_)))
   have NU:IsZip (FY.push {cls:=.type "tuple",data:=.seq #[x,y]}) z P O .ellipsis:=Z5 _ Ls
   change wpAny _ _ (Builtin.SmallTypes.ownedTupleHandOut (.ref z) (.ref FY.objs.size) >>= _) _ E _;unfold Builtin.SmallTypes.ownedTupleHandOut;refine Z_ (Z_ (Ye NU (by simp) λN0 Oh JW=>?_))
   have NT:IsZip N0 z P O (rawInt FY.objs.size):=Oh;refine Ye NT (by simp) λHX Og JV=>Z4 ⟨_,rfl,?_⟩
   have Lr:IsZip HX z P O (rawInt FY.objs.size):=Og;have up:∀f o,f≠z->FY.get? f=some o->HX.get? f=some o:=λf o n1 e=>ag JV n1 (ag JW n1 (Z5 _ e))
   have lz:=ZT Ls;have new:IsPair HX FY.objs.size x y:=ag JV (Nat.ne_of_gt lz) (ag JW (Nat.ne_of_gt lz) (ZK _ rfl))
   have KQ:HX.objs.size=FY.objs.size+1:=by rw[JV.1,JW.1,YM]
   change Q (.ref FY.objs.size) _;rw[sz]at Lr new KQ⊢;refine item x y hx hy HX ⟨Lr,up _ _ (ZD zP) (old _ _ (ZD zP) PO Pc Pd pp),⟨x,y,up _ _ (ZD zO) LA⟩,?_,?_⟩ new KQ λf o hf e=>?_
   .exact Je.to λo e=>up _ o (ZD zc) (ag GO (ZD Oc) (ag FQ cd (ag Ga (ZD Oc) e)))
   .exact Kb.to λo e=>up _ o (ZD zd) (ag GO (ZD Od) e)
   .simp only[ZZ,Zu,YQ,Xs]at hf
    exact up f o hf.1 (old f o hf.1 hf.2.2.1 hf.2.2.2.1 hf.2.2.2.2 e)
  .obtain⟨oe,ge,ke⟩:=he
   have IW:IsZip FN z P O .ellipsis:=FQ _ _ zd (ag Ga zO (ag w_ zc HV));have ez:e≠z:=λr=>by rw[r]at ge;rw[IW]at ge;obtain rfl:=Z7 ge;simp at ke
   refine Ye IW (by simp) λFY _ GO=>stop (.inr hy) FY e (λf o hf g=>?_) ⟨oe,ag GO ez ge,ke⟩
   simp only[ZZ,Zu,YQ,Xs]at hf;obtain⟨n1,_,n2,n3,n4⟩:=hf;exact ag GO n1 (FQ _ _ n4 (ag Ga n2 (ag w_ n3 (ag x_ n1 g))))
 .obtain⟨oe,ge,ke⟩:=he
  have Lu:IsZip Hy z P O .ellipsis:=w_ _ _ zc HV;have ez:e≠z:=λr=>by rw[r]at ge;rw[Lu]at ge;obtain rfl:=Z7 ge;simp at ke
  refine Ye Lu (by simp) λJX _ Ga=>stop (.inl hx) JX e (λf o hf g=>?_) ⟨oe,ag Ga ez ge,ke⟩
  simp only[ZZ,Zu,YQ,Xs]at hf;exact ag Ga hf.1 (w_ _ _ hf.2.2.2.1 (ag x_ hf.1 g))
end
end L2
namespace L2
open PySem
variable[Lams]
section
variable{h':Heap}
def Inv.turnLay{t':Nat}{fp:Z8 ZN}{T:ZN}{o:HO}(I:Inv X a_ σ H s)(k:∀b u,b∉fp->s.heap.get? b=some u->h'.get? b=some u)(hf:∀b∈fp,eP X a_ H b)
  (hT:s.heap.objs.size<=T)(new:ObjOk X.prog X.w (upd H T o) h' T o):Inv X a_ σ (upd H T o) {s with heap:=h',toks:=t'}:=by
 have hn:H T=none:=I.hok.fresh hT;have GK:∀b u,H b=some u->b∉fp:=λb u e z=>by rw[(hf b z).1]at e;trivial
 have lo:∀b u,s.heap.get? b=some u->b≠T:=λb u e=>Zw (ZA (ZT e) hT)
 refine I.step (g':=s.gens) (d':=s.drawn) (ch:=fp) (λb hb=>?_) (λb u _ _ hc e _=>k b u hc e) (λb u _ _ hc e _=>⟨u.slots,k b u hc e⟩) (λb u _ e n=>by rw[ai (lo b u e)];exact n)
  (λb u hc e=>⟨u,k b u hc e⟩) (λb xs e=>by rw[ai (ar e hn)];exact e) (λb u v e=>by rw[ai (ar e hn)];exact e) (λb lq ps e=>⟨#[],by rw[ai (ar e hn),e];simp⟩) (λm hm=>?_) (λb u e=>?_) I.bare
 .obtain⟨_,f1,_,f3,f4,f5⟩:=hf b hb
  exact⟨f3,f1,f4,f5⟩
 .obtain⟨ob,es,ep,ho,r⟩:=hm
  exact⟨ob,es,ep,k _ ob (λz=>(hf _ z).2.1 rfl) ho,r⟩
 .by_cases hb:b=T
  .subst hb;rw[ah]at e;obtain rfl:=Z7 e;exact new
  .rw[ai hb]at e
   refine(I.hok b u e).stay (λc v hc q=>k c v ?_ q) (λc q=>by rw[ai (ar q hn)];exact q) λc xs q=>by rw[ai (ar q hn)];exact q
   rcases hc with z|z
   .rw[z];exact GK b u e
   .exact GK c _ z
def Inv.turns{t':Nat}{fp:Z8 ZN}(I:Inv X a_ σ H s)(k:∀b u,b∉fp->s.heap.get? b=some u->h'.get? b=some u)(hf:∀b∈fp,eP X a_ H b):Inv X a_ σ H {s with heap:=h',toks:=t'}:=by
 have GK:∀b u,H b=some u->b∉fp:=λb u e z=>by rw[(hf b z).1]at e;trivial
 refine I.step (g':=s.gens) (d':=s.drawn) (ch:=fp) (λb hb=>?_) (λb u _ _ hc e _=>k b u hc e) (λb u _ _ hc e _=>⟨u.slots,k b u hc e⟩) (λb u _ e n=>n)
  (λb u hc e=>⟨u,k b u hc e⟩) (λb xs e=>e) (λb u v e=>e) (λb lq ps e=>⟨#[],by rw[e];simp⟩) (λm hm=>?_) (λb u e=>?_) I.bare
 .obtain⟨_,f1,_,f3,f4,f5⟩:=hf b hb
  exact⟨f3,f1,f4,f5⟩
 .obtain⟨ob,es,ep,ho,r⟩:=hm
  exact⟨ob,es,ep,k _ ob (λz=>(hf _ z).2.1 rfl) ho,r⟩
 .refine(I.hok b u e).stay (λc v hc q=>k c v ?_ q) (λ_ q=>q) λ_ _ q=>q
  rcases hc with z|z
  .rw[z];exact GK b u e
  .exact GK c _ z
end
def SqV(t:Bool)(K:Z6)(H:Hp)(a:ZN)(xs:Z8 V):Prop:=if t=true then SqT K H a xs else SqL K H a xs
section
variable{A:Za}
def iC(hh:A.handled=none)(ap:Ap z P O c d p q)(Z:Zp t u s.heap z P O c d p q n .none)(hp:SqAt t s.heap p xs)(hq:SqAt u s.heap q ys)(item:∀x y,xs[n]?=some x->ys[n]?=some y->∀h',Zp t u h' z P O c d p q (n+1) (rawInt s.heap.objs.size)->IsPair h' s.heap.objs.size x y->h'.objs.size=s.heap.objs.size+1->
   (∀b o,b∉[z,P,O,c,d]->s.heap.get? b=some o->h'.get? b=some o)->Q (some (.ref s.heap.objs.size)) {s with heap:=h'}) (stop:(xs[n]?=none\/ys[n]?=none)->∀h',(∀b o,b∉[z,P,O,c,d]->s.heap.get? b=some o->h'.get? b=some o)->Q none {s with heap:=h'}):
  wpAny (model prog w) A (pyNext (.ref z)) Q E s:=by
 have ty:s.TypeIs (.ref z) "zip":=⟨_,Z.zz,rfl⟩;unfold pyNext;refine Z_ (XX (YF (name:=Str.ofString "__next__") ty Ww (Y8 Ww ty F.entry_zip_next (vf hh ap Z hp hq (λx y hx hy h' b1 b2 b3 b4=>Z4 (item x y hx hy h' b1 b2 b3 b4)) λhn h' e k he=>?_) (F.args_zip_next_1 _))))
 obtain⟨o,ho,hc⟩:=he;exact Z_ (Yh (T:="StopIteration") (b:=true) ⟨o,ho,hc⟩ W0 (Z4 (stop hn h' k)))
end
section
def Inv.seqV(I:Inv X a_ σ H s)(h:SqV t X.K H a xs):∃its,Vals xs its/\SqAt t s.heap a its.toArray:=by
 cases t with
 |true=>obtain⟨its,rv,p,_⟩:=I.tuple h;exact⟨its,rv,p⟩
 |false=>obtain⟨its,rv,p,_⟩:=I.list h;exact⟨its,rv,p.isList⟩
def Inv.seqV_inj(I:Inv X a_ σ H s)(h:SqV t X.K H a xs)(h':SqV t X.K H a ys):xs=ys:=by
 cases t with
 |true=>exact I.tuple_inj h h'
 |false=>exact I.list_inj h h'
end
noncomputable def Itz(t u:Bool)(K:Z6)(p q:ZN):It:=
 ⟨λi H=>∃xs ys x y,SqV t K H p xs/\SqV u K H q ys/\xs[i]?=some x/\ys[i]?=some y,
  λi H v H'=>∃T x y,H T=none/\v=.ref T/\H'=upd H T (.tup [x,y])/\(∀xs,SqV t K H p xs->xs[i]?=some x)/\∀ys,SqV u K H q ys->ys[i]?=some y,
  λi H=>∃xs ys,SqV t K H p xs/\SqV u K H q ys/\(xs.length<=i\/ys.length<=i)⟩
def uw{x1}(ap:Ap z Pr O c d p q):
  Turn P w K (.Tuple elts x1 pos) (Itz t u K p q) [z,Pr,O,c,d] z (λn h=>Zp t u h z Pr O c d p q n .none) where
 mem:=by simp
 obj:=λi h st b hb=>by
  obtain⟨zz,pp,⟨a,a',oo⟩,cc,dd⟩:=st;simp only[ZZ,Zu,YQ]at hb
  rcases hb with rfl|rfl|rfl|rfl|rfl
  .exact⟨_,zz,λv e=>by cases e⟩
  .exact⟨_,pp,λv e=>by cases e⟩
  .exact⟨_,oo,λv e=>by cases e⟩
  .obtain⟨o,e,_,hd⟩:=cc.obj;exact⟨o,e,λv e'=>by rw[hd]at e';cases e'⟩
  .obtain⟨o,e,_,hd⟩:=dd.obj;exact⟨o,e,λv e'=>by rw[hd]at e';cases e'⟩
 keep:=λi h h' st k=>by
  obtain⟨zz,pp,⟨a,a',oo⟩,cc,dd⟩:=st;exact⟨k z (by simp) _ zz,k Pr (by simp) _ pp,⟨a,a',k O (by simp) _ oo⟩,cc.to λo e=>k c (by simp) o e,dd.to λo e=>k d (by simp) o e⟩
 item:=by
  intro X hP hw hK hc i a_ s σ H E I hf st hg;subst hP hw hK;obtain⟨xs,ys,x,y,h1,h2,hx,hy⟩:=hg;obtain⟨is,ri,sp⟩:=I.seqV h1;obtain⟨js,rj,sq⟩:=I.seqV h2;obtain⟨ux,e1,r1⟩:=ri.get hx;obtain⟨uy,e2,r2⟩:=rj.get hy;refine iC (I.ok.hd hc) ap st sp sq (λvx vy Kz Ky h' Z' new sz k=>?_) λhn=>?_
  .have ex:vx=ux:=by simp at Kz;rw[e1]at Kz;exact(Z7 Kz).symm
   have ey:vy=uy:=by simp at Ky;rw[e2]at Ky;exact(Z7 Ky).symm
   subst ex ey;refine⟨_,rfl,?_⟩
   have hT:H s.heap.objs.size=none:=I.hok.fresh (ZQ _);have nT:∀b∈[z,Pr,O,c,d],b≠s.heap.objs.size:=λb hb e=>by
    obtain⟨o,g,_⟩:=(show ∀b∈[z,Pr,O,c,d],∃o,s.heap.get? b=some o/\∀v,o.data≠.cell v from λb hb=>by
     obtain⟨zz,pp,⟨a,a',oo⟩,cc,dd⟩:=st;simp only[ZZ,Zu,YQ]at hb
     rcases hb with rfl|rfl|rfl|rfl|rfl
     .exact⟨_,zz,λv e=>by cases e⟩
     .exact⟨_,pp,λv e=>by cases e⟩
     .exact⟨_,oo,λv e=>by cases e⟩
     .obtain⟨o,e,_,hd⟩:=cc.obj;exact⟨o,e,λv e'=>by rw[hd]at e';cases e'⟩
     .obtain⟨o,e,_,hd⟩:=dd.obj;exact⟨o,e,λv e'=>by rw[hd]at e';cases e'⟩) b hb
    rw[e]at g;exact absurd (ZT g) (Zd _)
   have I1:Inv X a_ σ (upd H s.heap.objs.size (.tup [x,y])) {s with heap:=h'}:=I.turnLay (t':=s.toks) k hf (ZQ _) ⟨by show 2<=sizeLine;decide,[vx,vy],.cons r1 (.cons r2 .nil),⟨_,new,rfl,_,rfl⟩⟩
   obtain⟨zz,pp,oo,cc,dd⟩:=Z';have nd:=ap.nd;simp only[YJ,ZZ,Zu,YQ,Xs,YX,and_true,W8]at nd;refine wpAny_letOwnedTupleGo_zip zz λg2 z2 m2=>?_
   have hz:=hf z (by simp)
   refine⟨.ref s.heap.objs.size,upd H s.heap.objs.size (.tup [x,y]),I1.turned (t':=s.toks) (λb o hb e=>ag m2 hb e) (by rw[ai (nT z (by simp))];exact hz.1) hz.2.1 hz.2.2.2.1 hz.2.2.2.2.1 hz.2.2.2.2.2,rfl,
    ⟨s.heap.objs.size,x,y,hT,rfl,rfl,λxs' h=>by rw[I.seqV_inj h h1];exact hx,λOw h=>by rw[I.seqV_inj h h2];exact hy⟩,?_,λb hb=>by rw[ai (nT b hb)];exact(hf b hb).1⟩
   obtain⟨a,a',oo⟩:=oo;exact⟨z2,ag m2 (ZD nd.1.1) pp,⟨a,a',ag m2 (ZD nd.1.2.1) oo⟩,cc.to λo e=>ag m2 (ZD nd.1.2.2.1) e,dd.to λo e=>ag m2 (ZD nd.1.2.2.2) e⟩
  .exfalso
   rcases hn with hn|hn
   .simp at hn;have:=(ZV.mp e1).1;lia
   .simp at hn;have:=(ZV.mp e2).1;lia
 done:=by
  intro X hP hw hK hc i a_ s σ H E I hf st hg;subst hP hw hK;obtain⟨xs,ys,h1,h2,hl⟩:=hg;obtain⟨is,ri,sp⟩:=I.seqV h1;obtain⟨js,rj,sq⟩:=I.seqV h2;have l1:=ri.length;have l2:=rj.length;refine iC (I.ok.hd hc) ap st sp sq (λvx vy Kz Ky h' Z' new sz k=>?_) λhn h' k=>⟨rfl,I.turns (t':=s.toks) k hf⟩
  exfalso;simp at Kz Ky;have a1:=(ZV.mp Kz).1
  have a2:=(ZV.mp Ky).1
  lia
 self:=λ_ _ _ _ _ st h=>wpAny_pyIter_zip st.zz h
end L2
namespace L2
open PySem PySem.Spec PyProof.Rows
variable[Lams]
def itO(t:Bool)(p:ZN):Obj:={cls:=.type (if t=true then "tuple_iterator" else "list_iterator"),data:=.fields #[.ref p,.int 0 0]}
def dI(hp:SqAt t s.heap p xs)(h:Q (.ref s.heap.objs.size) {s with heap:=s.heap.push (itO t p)}):wpAny (model prog w) A (pyIter (.ref p)) Q E s:=by
 cases t with
 |true=>exact wpAny_pyIter_tuple hp h
 |false=>exact WU hp h
def zO(a b:Z3):Obj:={cls:=.type "tuple",data:=.seq #[a,b]}
noncomputable def ul(t u:Bool)(h:Heap)(p q:ZN):Heap:=
 ((((h.push (itO t p)).push (itO u q)).push (zO (.ref h.objs.size) (.ref (h.push (itO t p)).objs.size))).push (zO .none .none)).push
  {cls:=.type "zip",data:=.fields #[.none,.bool false,.bool false,.ref ((h.push (itO t p)).push (itO u q)).objs.size,.ref (((h.push (itO t p)).push (itO u q)).push (zO (.ref h.objs.size) (.ref (h.push (itO t p)).objs.size))).objs.size]}
def ym(t u:Bool)(p q:ZN)(xs ys:Array Z3):
  Meets (Builtin.«zip.__new__» ⟨[.type "zip",.ref p,.ref q],[]⟩) (λ_ R s=>SqAt t s.heap p xs/\SqAt u s.heap q ys/\
   R (.ok (.ret (.ref (((((s.heap.push (itO t p)).push (itO u q)).push (zO (.ref s.heap.objs.size) (.ref (s.heap.push (itO t p)).objs.size))).push (zO .none .none)).objs.size)))) {s with heap:=ul t u s.heap p q}):=
 .of_wp λprog w A R s h=>by
  obtain⟨hp,g,d,tk,os⟩:=s;obtain⟨h1,h2,h⟩:=h;have HZ:=sub_zip;have k1:SqAt t (Shared.heap ⟨hp,g,d,tk,os⟩) p xs:=h1;have k2:SqAt u (Shared.heap ⟨hp.push (itO t p),g,d,tk,os⟩) q ys:=h2.to λo e=>Z5 _ e
  wp_walk using dI k1,dI k2
  exact⟨_,rfl,h⟩
def mX(hp:SqAt t s.heap p xs)(hq:SqAt u s.heap q ys)(h:∀z P O c d h',Ap z P O c d p q->Zp t u h' z P O c d p q 0 .none->(∀b∈[z,P,O,c,d],s.heap.objs.size<=b)->(∀b o,s.heap.get? b=some o->h'.get? b=some o)->Q (.ref z) {s with heap:=h'}):
  wpAny (model prog w) A (call (.type "zip") [.ref p,.ref q]) Q E s:=by
 refine callType_new F.called_zip (by decide) (F.typeCall_zip_2 _ _) (F.newCall_zip_2 _ _) (λobj=>F.args_object_init_3 obj _ _) F.entry_zip_new (ym t u p q xs ys) ⟨hp,hq,?_⟩
 have lp:p<s.heap.objs.size:=by cases t<;>(obtain⟨o,e,_⟩:=hp;exact ZT e)
 have lq:q<s.heap.objs.size:=by cases u<;>(obtain⟨o,e,_⟩:=hq;exact ZT e)
 generalize e1:s.heap.push (itO t p)=k1;generalize e2:k1.push (itO u q)=k2;generalize e3:k2.push (zO (.ref s.heap.objs.size) (.ref k1.objs.size))=k3;generalize e4:k3.push (zO .none .none)=k4;have hL:ul t u s.heap p q=k4.push {cls:=.type "zip",data:=.fields #[.none,.bool false,.bool false,.ref k2.objs.size,.ref k3.objs.size]}:=by unfold ul;rw[e1,e2,e3,e4]
 have s1:k1.objs.size=s.heap.objs.size+1:=by rw[<-e1];exact YM ..
 have s2:k2.objs.size=s.heap.objs.size+2:=by rw[<-e2,YM,s1]
 have s3:k3.objs.size=s.heap.objs.size+3:=by rw[<-e3,YM,s2]
 have s4:k4.objs.size=s.heap.objs.size+4:=by rw[<-e4,YM,s3]
 have u1:∀{b o},s.heap.get? b=some o->k1.get? b=some o:=λe=>by rw[<-e1];exact Z5 _ e
 have u2:∀{b o},k1.get? b=some o->k2.get? b=some o:=λe=>by rw[<-e2];exact Z5 _ e
 have u3:∀{b o},k2.get? b=some o->k3.get? b=some o:=λe=>by rw[<-e3];exact Z5 _ e
 have u4:∀{b o},k3.get? b=some o->k4.get? b=some o:=λe=>by rw[<-e4];exact Z5 _ e
 have u5:∀{b o},k4.get? b=some o->(ul t u s.heap p q).get? b=some o:=λe=>by rw[hL];exact Z5 _ e
 have z5:IsZip (ul t u s.heap p q) k4.objs.size k2.objs.size k3.objs.size .none:=by rw[hL];exact ZK _ rfl
 have o5:IsPair (ul t u s.heap p q) k3.objs.size .none .none:=u5 (by rw[<-e4];exact ZK _ rfl)
 have p5:IsPair (ul t u s.heap p q) k2.objs.size (.ref s.heap.objs.size) (.ref k1.objs.size):=u5 (u4 (by rw[<-e3];exact ZK _ rfl))
 have d5:(ul t u s.heap p q).get? k1.objs.size=some (itO u q):=u5 (u4 (u3 (by rw[<-e2];exact ZK _ rfl)))
 have c5:(ul t u s.heap p q).get? s.heap.objs.size=some (itO t p):=u5 (u4 (u3 (u2 (by rw[<-e1];exact ZK _ rfl))))
 refine⟨⟨_,z5,rfl⟩,h k4.objs.size k2.objs.size k3.objs.size s.heap.objs.size k1.objs.size _ ⟨?_,?_,?_⟩ ⟨z5,p5,⟨_,_,o5⟩,?_,?_⟩ ?_ λb o e=>u5 (u4 (u3 (u2 (u1 e))))⟩
 .rw[s1,s2,s3,s4]
  simp only[YJ,ZZ,Zu,YQ,Xs,YX,and_true,W8];refine⟨⟨?_,?_,?_,?_⟩,⟨?_,?_,?_⟩,⟨?_,?_⟩,?_⟩<;>(intro e;have e':(_:Nat)=_:=e;lia)
 .rw[s1,s2,s3,s4]
  simp only[ZZ,Zu,YQ,Xs];have GK:∀k:Nat,p≠s.heap.objs.size+k:=λk=>Zw (ZA lp (Nat.le_add_right _ k))
  exact⟨GK 4,GK 2,GK 3,GK 0,GK 1⟩
 .rw[s1,s2,s3,s4]
  simp only[ZZ,Zu,YQ,Xs];have GK:∀k:Nat,q≠s.heap.objs.size+k:=λk=>Zw (ZA lq (Nat.le_add_right _ k))
  exact⟨GK 4,GK 2,GK 3,GK 0,GK 1⟩
 .cases t<;>exact⟨_,c5,rfl,rfl⟩
 .cases u<;>exact⟨_,d5,rfl,rfl⟩
 .rw[s1,s2,s3,s4]
  intro b hb;simp only[ZZ,Zu,YQ]at hb;have:(s.heap.objs.size:Nat)<=(b:Nat):=by rcases hb with rfl|rfl|rfl|rfl|rfl<;>lia
  exact this
section
noncomputable def Fr(t u:Bool)(K:Z6)(ta:TA):TI:=λσ H R=>ta σ H λvs H1=>∃p q,vs=[.ref p,.ref q]/\(∃xs,SqV t K H1 p xs)/\(∃ys,SqV u K H1 q ys)/\R (Itz t u K p q) H1
def As(hg:Gl X "zip")(hm:X.mg "zip"=none)(ha:PA X [a,b] ta)(hs:starEach [a,b] X.env=[(false,eval a X.env),(false,eval b X.env)]:=by rfl)(Gp:starEach [b] X.env=[(false,eval b X.env)]:=by rfl):
  PI X (.Tuple elts x1 tp) (.Call (.Name "zip" p) [a,b] [] pos) (Fr t u X.K ta):=by
 intro a_ s σ H R I h;refine Call_ (dG I hg hm boot_zip (Yw (thn (ha pos a_ s σ H _ I h) λus s1 ⟨vs,H1,I1,r1,q1⟩=>?_) (by rw[hs,Gp]) (by rw[Gp];rfl)))
 obtain⟨l1,l2,e,⟨xs,h1⟩,⟨ys,h2⟩,q⟩:=q1;subst e;cases r1 with
 |cons r rr=>
  cases rr with
  |cons r' rr=>
   cases rr;cases r;cases r';obtain⟨is,ri,sp⟩:=I1.seqV h1;obtain⟨js,rj,sq⟩:=I1.seqV h2;refine mX sp sq λz P O c d h' ap Z hi k=>?_
   have I2:Inv X a_ σ H1 {s1 with heap:=h'}:=I1.kept (t':=s1.toks) k
   refine wpAny_pyIter_zip (s:={s1 with heap:=h'}) Z.zz ⟨z,[z,P,O,c,d],_,_,H1,rfl,I2,uw ap,Z,λb hb=>?_,q⟩
   have hn:H1 b=none:=I1.hok.fresh (hi b hb);obtain⟨f0,f1,f2,f3,f4,f5⟩:=I1.fpOk (hi b hb) hn;exact⟨f0,f1,f2,f3,f4,f5⟩
def bJ:Z8 D->Z8 D->Z8 D
 |d::ds,e::es=>.tup [d,e]::bJ ds es
 |_,_=>[]
theorem kB:∀(ds es:Z8 D)(i:Nat)(x:D),(bJ ds es)[i]?=some x->∃d e,ds[i]?=some d/\es[i]?=some e/\x=.tup [d,e]
 |[],_,i,x,h=>by simp[bJ]at h
 |d::ds,[],i,x,h=>by simp[bJ]at h
 |d::ds,e::es,0,x,h=>by simp[bJ]at h;exact⟨d,e,rfl,rfl,h.symm⟩
 |d::ds,e::es,i+1,x,h=>by simp[bJ]at h;simpa using kB ds es i x h
theorem fy:∀ds es:Z8 D,(bJ ds es).length=min ds.length es.length
 |[],_=>by simp[bJ]
 |d::ds,[]=>by simp[bJ]
 |d::ds,e::es=>by simp[bJ,fy ds es]
def Ae(t:Bool)(x:Z9 D):Z9 (Z8 D):=if t=true then z0 x else cr x
def vG(t u:Bool)(x y:Z9 D):Z9 (Z8 D):=ae (Ae t x) λds=>ae (Ae u y) λes=>some (bJ ds es)
def eQ{K:Z6}{B:ZN->Prop}{H:Hp}{t:Bool}{x:Z9 D}{ds:Z8 D}{v:V}{d:D}(h:Ae t x=some ds)(e:x=some d)(r:Rep K B H d v):∃l xs,v=.ref l/\Reps K B H ds xs/\∀H',Ext B H H'->SqV t K H' l xs:=by
 cases t with
 |true=>
  have:=jT h;rw[e]at this;obtain rfl:=Z7 this;simp only[Rep]at r;obtain⟨l,xs,rfl,hq,rs⟩:=r;exact⟨l,xs,rfl,rs,λH' x=>SqT.of (x.tups _ _ hq)⟩
 |false=>
  have:=jH h;rw[e]at this;obtain rfl:=Z7 this;simp only[Rep]at r;obtain⟨l,xs,rfl,hq,rs⟩:=r;exact⟨l,xs,rfl,rs,λH' x=>(hq.ext x).sq⟩
theorem BD{t u m:Bool}{a b:Expr}{fa fb:DEnv->Z9 D}{p pos:Pos}(g:Gl X "zip")(hm:X.mg "zip"=none)(h:DE X m a fa)(h':DE X m b fb)(hs:starEach [a,b] X.env=[(false,eval a X.env),(false,eval b X.env)]:=by rfl)(Gp:starEach [b] X.env=[(false,eval b X.env)]:=by rfl):
  DI X m (.Tuple elts x1 tp) (.Call (.Name "zip" p) [a,b] [] pos) (λδ=>vG t u (fa δ) (fb δ)):=
 (As (t:=t) (u:=u) g hm (aq h (aq h' aI Gp) (by rw[hs,Gp])) hs Gp).imp λσ H Q hz=>by
  obtain⟨B,Hk,δ,ds,R,e,k⟩:=hz;obtain⟨as,q1,e⟩:=ak e;obtain⟨bs,q2,e⟩:=ak e;obtain rfl:=Z7 e;obtain⟨d1,e1⟩:∃d,fa δ=some d:=by
   cases q:fa δ with
   |none=>rw[q]at q1;cases t<;>trivial
   |some d=>exact⟨d,rfl⟩
  obtain⟨d2,e2⟩:∃d,fb δ=some d:=by
   cases q:fb δ with
   |none=>rw[q]at q2;cases u<;>trivial
   |some d=>exact⟨d,rfl⟩
  refine two R e1 e2 λv w H' s R' r1 r2=>?_
  obtain⟨l1,xs,rfl,Mh,Me⟩:=eQ q1 e1 r1;obtain⟨l2,ys,rfl,HP,Md⟩:=eQ q2 e2 r2;refine⟨l1,l2,rfl,⟨xs,Me _ Ext.refl⟩,⟨ys,Md _ Ext.refl⟩,k _ H' s λH2 x=>?_⟩
  have hx:=Me H2 x;have hy:=Md H2 x;have rx:=Mh.ext x;have ry:=HP.ext x;refine⟨⟨xs,ys,hx,hy,?_⟩,λi d hd=>?_⟩
  .rw[fy,<-rx.length,<-ry.length];lia
  .obtain⟨d1,d2,g1,g2,rfl⟩:=kB _ _ _ _ hd
   obtain⟨y1,w1,z1⟩:=rx.get g1;obtain⟨y2,w2,z2⟩:=ry.get g2;refine⟨⟨xs,ys,y1,y2,hx,hy,w1,w2⟩,λv H3 ⟨T,v1,v2,hT,ev,e3,n1,n2⟩=>?_⟩
   have:=n1 xs hx;rw[w1]at this;obtain rfl:=Z7 this;have:=n2 ys hy;rw[w2]at this;obtain rfl:=Z7 this;have sm:Same H2 (upd H2 T (.tup [y1,y2])):=au hT;have bo:∀a,bb m B δ σ a->∃o:HOn,H2 a=some o.1:=λa ha=>by
    obtain⟨o,ho⟩:=R'.bsH m a ha;exact⟨o,(x.lent a ha).trans ho⟩
   have ex:=sm.ext bo;rw[e3,ev];refine⟨sm,?_⟩
   simp only[Rep];exact⟨T,[y1,y2],rfl,ah,Reps.cons (z1.ext ex) (Reps.cons (z2.ext ex) Reps.nil)⟩
end
end L2
namespace L2
open PySem PySem.Spec PyProof.Rows
def cK{α β:Type}(f:α->β):∀{l1 l2:Z8 β},l1.Perm l2->∀l:Z8 α,l2=l.map f->∃l':Z8 α,l'.Perm l/\l1=l'.map f:=by
 intro l1 l2 p
 induction p with
 |nil=>intro l h;exact⟨l,YW _,h⟩
 |cons x p ih=>
  intro l h;cases l with
  |nil=>trivial
  |cons a l=>
   simp only[Z1,Yg]at h;obtain⟨l',p',e'⟩:=ih l h.2;exact⟨a::l',List.Perm.cons a p',by rw[Z1,h.1,e']⟩
 |swap x y l0=>
  intro l h;cases l with
  |nil=>trivial
  |cons a l=>
   cases l with
   |nil=>cases h
   |cons b l=>
    simp only[Z1,Yg]at h;exact⟨b::a::l,List.Perm.swap a b l,by rw[Z1,Z1,h.1,h.2.1,h.2.2]⟩
 |trans p q Na M_=>
  intro l h;obtain⟨l2,p2,e2⟩:=M_ l h;obtain⟨l1,p1,e1⟩:=Na l2 e2;exact⟨l1,p1.trans p2,e1⟩
def uS:Z8 Str->Z8 Str
 |[]=>[]
 |x::l=>if x∈l then uS l else x::uS l
theorem gG(x:Str):∀l:Z8 Str,x∈uS l↔x∈l
 |[]=>Iff.rfl
 |d::l=>by
  unfold uS;split
  .rename_i h
   rw[gG x l,ZZ];exact⟨.inr,λz=>z.elim (λe=>e▸h) id⟩
  .rw[ZZ,ZZ,gG x l]
theorem dy:∀l:Z8 Str,(uS l).Nodup
 |[]=>YX
 |d::l=>by
  unfold uS;split
  .exact dy l
  .rename_i h
   exact YJ.mpr ⟨λz=>h ((gG d l).mp z),dy l⟩
theorem qp:∀l:Z8 Str,(uS l).length<=l.length
 |[]=>ZQ _
 |d::l=>by
  have:=qp l;unfold uS;split<;>simp<;>lia
abbrev cQ(w:YO):Bool:=!w.params.followText "set-order"
def ay:Slot "set_iterator" "__next__" "set_iterator.__next__":=
 .of (owner:="set_iterator") (n:="__next__") (by rw[Wx,Xg];kernel_rfl) (by decide +kernel) (by decide +kernel) (by decide +kernel)
  (by first|exact .inl (by decide +kernel)|exact .inr (by decide +kernel)) (by rw[Wr];kernel_rfl)
def bq:entryFor table "set_iterator.__next__"=some Builtin.«set_iterator.__next__»:=entryFor_of_tree (by kernel_rfl)
def eD:Slot "set_iterator" "__iter__" "set_iterator.__iter__":=
 .of (owner:="set_iterator") (n:="__iter__") (by rw[Wx,Xg];kernel_rfl) (by decide +kernel) (by decide +kernel) (by decide +kernel)
  (by first|exact .inl (by decide +kernel)|exact .inr (by decide +kernel)) (by rw[Wr];kernel_rfl)
def iY:entryFor table "set_iterator.__iter__"=some Builtin.«dict_keyiterator.__iter__»:=
 entryFor_alias (id':="dict_keyiterator.__iter__") (by kernel_rfl) rfl (by decide +kernel) (by kernel_rfl)
def fj:entryFor table "set.__iter__"=some Builtin.«frozenset.__iter__»:=
 entryFor_alias (id':="frozenset.__iter__") (by kernel_rfl) rfl (by decide +kernel) (by kernel_rfl)
def bH(a:Z3):argsOk "set_iterator.__next__" ⟨[a],[]⟩:=by
 unfold argsOk;kernel_rfl
def jr(a:Z3):argsOk "set_iterator.__iter__" ⟨[a],[]⟩:=by
 unfold argsOk;kernel_rfl
def bL{α:Type}{l:Z8 α}{i:Nat}(h:i<l.length):(l[i]::l.eraseIdx i).Perm l:=by
 rw[Xo];refine List.perm_middle.symm.trans ?_
 rw[<-Zo h,XN]
theorem gu{α:Type}:∀(n:Nat)(xs:Z8 α)(s:ZP)(Q:Z8 α->ZP->Prop),xs.length=n->
  (∀ys d,ys.Perm xs->Q ys {s with drawn:=d})->wpAny (model prog w) A (drawOrder n xs) Q E s
 |0,xs,s,Q,hl,hQ=>by
  have:xs=[]:=YL.mp hl;subst this;unfold drawOrder;exact Z4 (hQ [] s.drawn (YW _))
 |n+1,[],s,Q,hl,hQ=>by trivial
 |n+1,x::xs,s,Q,hl,hQ=>by
  unfold drawOrder;refine Z_ (Q:=Q) ?_
  intro Γ p Tt;refine⟨by simp,?_⟩
  generalize hd:s.drawn.bump .order=d1;generalize hi:(model prog w).w.draws .order (s.drawn.get .order)%(x::xs).length=i;have k_:i<(x::xs).length:=by rw[<-hi];exact Nat.mod_lt _ (by simp)
  have key:wpAny (model prog w) A (match(x::xs)[i]? with|some y=>(do return y::(<-drawOrder n ((x::xs).eraseIdx i)))|none=>unsupported "internal:drawOrder") Q E {s with drawn:=d1}:=by
   rw[Y5 k_]
   dsimp only;refine Z_ (gu n ((x::xs).eraseIdx i) _ _ (by rw[List.length_eraseIdx_of_lt k_,hl];rfl) λys d hp=>?_)
   refine Z4 (hQ _ d ?_)
   exact(List.Perm.cons _ hp).trans (bL k_)
  exact key
theorem qb{α:Type}(f:Nat->Nat):∀(fuel k:Nat)(left:Z8 α)(out:Array α),fuel=left.length->(pickOrder.go f fuel k left out).toList.Perm (out.toList++left)
 |0,k,left,out,h=>by
  have:left=[]:=YL.mp h.symm;subst this;unfold pickOrder.go;simp
 |fuel+1,k,left,out,h=>by
  unfold pickOrder.go;have k_:f k%left.length<left.length:=Nat.mod_lt _ (by lia)
  rw[Y5 k_]
  dsimp only;refine(qb f fuel (k+1) _ _ (by rw[List.length_eraseIdx_of_lt k_];lia)).trans ?_
  rw[YA,Zh];exact List.Perm.append_left _ (bL k_)
def rf{α:Type}(f:Nat->Nat)(xs:Array α):(pickOrder f xs).toList.Perm xs.toList:=by
 unfold pickOrder
 simpa using qb f xs.size 0 xs.toList #[] (by simp)
def uh{es:Z8 (Int×Z3)}{order:Z8 Nat}(h:order.Perm (List.range es.length)):(order.filterMap (es[·]?)).Perm es:=by
 have h1:=h.filterMap (es[·]?)
 rwa[List.filterMap_getElem?_range_length]at h1
structure SetIs (h:Heap)(S:ZN)(es:List (Int×Z3))(ep:Nat)(t:SetTable):Prop where
 ob:∃o,h.get? S=some o/\o.ExactSet/\o.data=.set es.toArray ep t
 fits:t.fits es.toArray.size=true
def SetIs.at{h h':Heap}(x:SetIs h S es ep t)(k:∀o,h.get? S=some o->h'.get? S=some o):SetIs h' S es ep t:=by
 obtain⟨⟨o,ho,r⟩,a⟩:=x;exact⟨⟨o,k o ho,r⟩,a⟩
def IterAt(h:Heap)(I:ZN)(first:Z3)(i:Nat)(S:ZN)(n ep:Nat):Prop:=∃o,h.get? I=some o/\o.cls=.type "set_iterator"/\o.data=.fields #[first,rawInt i,.ref S,rawInt n,rawInt ep]
def IterAt.typeIs{s:ZP}(x:IterAt s.heap I first i S n ep):s.TypeIs (.ref I) "set_iterator":=by
 obtain⟨o,ho,hc,_⟩:=x;exact⟨o,ho,hc⟩
def IterAt.at{h h':Heap}(x:IterAt h I first i S n ep)(k:∀o,h.get? I=some o->h'.get? I=some o):IterAt h' I first i S n ep:=by
 obtain⟨o,ho,r⟩:=x;exact⟨o,k o ho,r⟩
section
variable{A:Za}{s:ZP}{es:Z8 (Int×Z3)}
def ji{sl nx:Nat}{v:Z3}{Q:Z9 Z3->ZP->Prop}(FW:S≠I)(it:IterAt s.heap I (rawInt sl) i S es.length ep)(st:SetIs s.heap S es ep t)
  (hn:∀(s:ZP)(R:Z9 (Z3×Nat)->ZP->Prop)(E:Z3->ZP->Prop),SetIs s.heap S es ep t->R (some (v,nx)) s->wpAny (model prog w) A.in1 (setNext S sl i ep) R E s)
  (hQ:∀h',IterAt h' I (rawInt nx) (i+1) S es.length ep->(∀b o,b≠I->s.heap.get? b=some o->h'.get? b=some o)->Q (some v) {s with heap:=h'}):wpAny (model prog w) A (pyNext (.ref I)) Q E s:=by
 have hT:=it.typeIs;obtain⟨o,ho,hc,hd⟩:=it;unfold pyNext;refine Z_ (XX (YF (name:=Str.ofString "__next__") hT ay (Y8 ay hT bq ?_ (bH _))))
 unfold Builtin.«set_iterator.__next__»;refine Z_ (m:=slotArgs "__next__" 0 _) (Z4 ?_)
 dsimp only;refine Z_ (W2 ho hd ?_)
 dsimp only[rawInt];obtain⟨os,F_,hex,Gq⟩:=st.ob;refine Z_ (Xu F_ Gq st.fits ?_)
 rw[ZY (by simp)]
 simp only[Int.toNat_natCast];refine Z_ (hn s _ _ st ?_)
 dsimp only;refine Z_ (Yn ho hd (by simp) ?_)
 have g1:=Zj (Obj.mapFields (·.setIfInBounds 0 (rawInt nx))) ho (X8 (Zb hd _))
 refine Z_ (Yn g1 (Zb hd _) (by simp) ?_)
 have g2:=Zj (Obj.mapFields (·.setIfInBounds 1 (rawInt ((i:Int)+1)))) g1 (X8 (Zb (Zb hd _) _))
 refine Z4 ⟨_,rfl,Z4 (hQ _ ?_ ?_)⟩
 .exact⟨_,g2,(Xk ..).trans ((Xk ..).trans hc),by rw[Zb (Zb hd _)];simp[rawInt]⟩
 .intro b o' hb e
  exact(Zm _ _ (ZD hb)).trans ((Zm _ _ (ZD hb)).trans e)
def iQ{ps:Z8 Nat}{Q:Z9 Z3->ZP->Prop}(FW:S≠I)(it:IterAt s.heap I (.ref T) i S es.length ep)(st:SetIs s.heap S es ep t)(ht:∃o n,s.heap.get? T=some o/\o.data=.seq (ps.map λ(k:Nat)=>rawInt k).toArray n)(hp:ps[i]?=some p)(he:es[p]?=some e)(hQ:∀h',IterAt h' I (.ref T) (i+1) S es.length ep->(∀b o,b≠I->s.heap.get? b=some o->h'.get? b=some o)->Q (some e.2) {s with heap:=h'}):wpAny (model prog w) A (pyNext (.ref I)) Q E s:=by
 have hT:=it.typeIs;obtain⟨o,ho,hc,hd⟩:=it;unfold pyNext;refine Z_ (XX (YF (name:=Str.ofString "__next__") hT ay (Y8 ay hT bq ?_ (bH _))))
 unfold Builtin.«set_iterator.__next__»;refine Z_ (m:=slotArgs "__next__" 0 _) (Z4 ?_)
 dsimp only;refine Z_ (W2 ho hd ?_)
 dsimp only[rawInt];obtain⟨os,F_,hex,Gq⟩:=st.ob;refine Z_ (Xu F_ Gq st.fits ?_)
 rw[ZY (by simp)]
 simp only[Int.toNat_natCast];obtain⟨oT,nT,Np,Nz⟩:=ht;refine Z_ (Ys Np Nz ?_)
 dsimp only;have e1:(ps.map λ(k:Nat)=>rawInt k).toArray[i]?=some (rawInt p):=by simp[hp]
 rw[e1];dsimp only[rawInt];simp only[Int.toNat_natCast];refine Z_ ?_
 unfold setNextDrawn;refine Z_ (XC F_ Gq st.fits ?_)
 dsimp only;rw[ZY (by simp)]
 have e2:es.toArray[p]?=some e:=by simp[he]
 rw[e2];dsimp only;refine Z4 ?_
 refine Z_ (Yn ho hd (by simp) ?_)
 have g2:=Zj (Obj.mapFields (·.setIfInBounds 1 (rawInt ((i:Int)+1)))) ho (X8 (Zb hd _))
 refine Z4 ⟨_,rfl,Z4 (hQ _ ?_ ?_)⟩
 .exact⟨_,g2,(Xk ..).trans hc,by rw[Zb hd];simp[rawInt]⟩
 .intro b o' hb e
  exact(Zm _ _ (ZD hb)).trans e
def lO{sl:Nat}{Q:Z9 Z3->ZP->Prop}(hh:A.handled=none)(it:IterAt s.heap I (rawInt sl) i S es.length ep)(st:SetIs s.heap S es ep t)
  (hn:∀(s:ZP)(R:Z9 (Z3×Nat)->ZP->Prop)(E:Z3->ZP->Prop),SetIs s.heap S es ep t->R none s->wpAny (model prog w) A.in1 (setNext S sl i ep) R E s)
  (hQ:∀h',(∀b o,b≠I->s.heap.get? b=some o->h'.get? b=some o)->Q none {s with heap:=h'}):wpAny (model prog w) A (pyNext (.ref I)) Q E s:=by
 have hT:=it.typeIs;obtain⟨o,ho,hc,hd⟩:=it;unfold pyNext;refine Z_ (XX (YF (name:=Str.ofString "__next__") hT ay (Y8 ay hT bq ?_ (bH _))))
 unfold Builtin.«set_iterator.__next__»;refine Z_ (m:=slotArgs "__next__" 0 _) (Z4 ?_)
 dsimp only;refine Z_ (W2 ho hd ?_)
 dsimp only[rawInt];obtain⟨os,F_,hex,Gq⟩:=st.ob;refine Z_ (Xu F_ Gq st.fits ?_)
 rw[ZY (by simp)]
 simp only[Int.toNat_natCast];refine Z_ (hn s _ _ st ?_)
 dsimp only;refine Z_ (Yn ho hd (by simp) ?_)
 refine Z_ ?_
 simp only[newExc,newTuple];refine Z_ (Y7 ?_ (by size_fits))
 refine Z_ (m:=firstArgMember _ _) (Wu (a:=Value.none) (by first|rfl|(simp only[firstArgMember];rfl)) ?_)
 refine Y7 ?_ (by size_fits)
 simp only[raiseNew];refine Z_ (wpAny_handled ?_)
 rw[show A.in1.handled=none from hh]
 refine Z_ (Z4 (wpAny_throw ?_))
 refine Z_ (Yh (T:="StopIteration") (b:=true) ⟨_,ZK _ rfl,rfl⟩ W0 ?_)
 exact Z4 (hQ _ λb o' hb e=>Z5 _ (Z5 _ ((Zm _ _ (ZD hb)).trans e)))
def jY{ps:Z8 Nat}{Q:Z9 Z3->ZP->Prop}(hh:A.handled=none)(it:IterAt s.heap I (.ref T) i S es.length ep)(st:SetIs s.heap S es ep t)(ht:∃o n,s.heap.get? T=some o/\o.data=.seq (ps.map λ(k:Nat)=>rawInt k).toArray n)(hp:ps[i]?=none)(hQ:∀h',(∀b o,b≠I->s.heap.get? b=some o->h'.get? b=some o)->Q none {s with heap:=h'}):wpAny (model prog w) A (pyNext (.ref I)) Q E s:=by
 have hT:=it.typeIs;obtain⟨o,ho,hc,hd⟩:=it;unfold pyNext;refine Z_ (XX (YF (name:=Str.ofString "__next__") hT ay (Y8 ay hT bq ?_ (bH _))))
 unfold Builtin.«set_iterator.__next__»;refine Z_ (m:=slotArgs "__next__" 0 _) (Z4 ?_)
 dsimp only;refine Z_ (W2 ho hd ?_)
 dsimp only[rawInt];obtain⟨os,F_,hex,Gq⟩:=st.ob;refine Z_ (Xu F_ Gq st.fits ?_)
 rw[ZY (by simp)]
 simp only[Int.toNat_natCast];obtain⟨oT,nT,Np,Nz⟩:=ht;refine Z_ (Ys Np Nz ?_)
 dsimp only;have e1:(ps.map λ(k:Nat)=>rawInt k).toArray[i]?=none:=by simpa using hp
 rw[e1];dsimp only;refine Z_ (Yn ho hd (by simp) ?_)
 have g1:=Zj (Obj.mapFields (·.setIfInBounds 0 (rawInt 0))) ho (X8 (Zb hd _))
 refine Z_ (Yn g1 (Zb hd _) (by simp) ?_)
 refine Z_ ?_
 simp only[newExc,newTuple];refine Z_ (Y7 ?_ (by size_fits))
 refine Z_ (m:=firstArgMember _ _) (Wu (a:=Value.none) (by first|rfl|(simp only[firstArgMember];rfl)) ?_)
 refine Y7 ?_ (by size_fits)
 simp only[raiseNew];refine Z_ (wpAny_handled ?_)
 rw[show A.in1.handled=none from hh]
 refine Z_ (Z4 (wpAny_throw ?_))
 refine Z_ (Yh (T:="StopIteration") (b:=true) ⟨_,ZK _ rfl,rfl⟩ W0 ?_)
 exact Z4 (hQ _ λb o' hb e=>Z5 _ (Z5 _ ((Zm _ _ (ZD hb)).trans ((Zm _ _ (ZD hb)).trans e))))
def sr{Q:Z3->ZP->Prop}(it:IterAt s.heap I first i S n ep)(hQ:Q (.ref I) s):wpAny (model prog w) A (pyIter (.ref I)) Q E s:=by
 refine wpAny_pyIter_slot it.typeIs eD (Y8 eD it.typeIs iY ?_ (jr _))
 show wpAny _ _ (ret (.ref I)) _ _ s;exact Z4 ⟨_,rfl,"set_iterator",_,it.typeIs,ay.lookup,hQ⟩
end
section
variable{w:YO}{s:ZP}
theorem gX(a:ZN)(slot given Gz:Nat):setNext a slot given Gz=(do
  let (es,L4,t) <-setState a
  if <-setsByText then
   if L4 != Gz then unsupported "set_iterator.__next__:elements-changed"
   return ((<-setWalk a)[given]?).map λe=>(e.2,slot)
  if !t.plain&&es.size>1 then unsupported "set_iterator.__next__:the-table-is-plain-no-more"
  (if(!t.led&&!es.isEmpty)=true then unsupported "set:maker-not-led" else pure ():Sem Unit)
  let i:=SetTable.below t.place slot
  return match es[i]?,t.place[i]? with
   |some (_,x),some j=>some (x,j+1)
   |_,_=>none):=rfl
def j6(hb:w.params.followText "set-order"=true)(st:SetIs s.heap S es ep t)(h:R (((pickOrder (w.params.setOrder S ep) es.toArray)[i]?).map λe=>(e.2,sl)) s):wpAny (model prog w) A (setNext S sl i ep) R E s:=by
 obtain⟨os,F_,hex,Gq⟩:=st.ob;rw[gX];refine Z_ (XC F_ Gq st.fits ?_)
 dsimp only;unfold setsByText;refine Z_ (Z_ (Xz (Z4 ?_)))
 show wpAny _ _ (if w.params.followText "set-order"=true then _ else _) _ _ _
 rw[Z0 hb,ZY (by simp)]
 refine Z_ ?_
 unfold setWalk setsByText;refine Z_ (XC F_ Gq st.fits ?_)
 dsimp only;refine Z_ (Z_ (Xz (Z4 ?_)))
 show wpAny _ _ (if w.params.followText "set-order"=true then _ else _) _ _ _
 rw[Z0 hb];refine Z_ (Xz (Z4 ?_))
 exact Z4 h
def jL(hb:w.params.followText "set-order"=false)(st:SetIs s.heap S es ep t)(Gu:t.led=true)(hpl:(!t.plain&&decide (es.toArray.size>1))=false)(h:R (match es.toArray[SetTable.below t.place sl]?,t.place[SetTable.below t.place sl]? with|some (_,x),some j=>some (x,j+1)|_,_=>none) s):wpAny (model prog w) A (setNext S sl i ep) R E s:=by
 obtain⟨os,F_,hex,Gq⟩:=st.ob;rw[gX];refine Z_ (XC F_ Gq st.fits ?_)
 dsimp only;unfold setsByText;refine Z_ (Z_ (Xz (Z4 ?_)))
 show wpAny _ _ (if w.params.followText "set-order"=true then _ else _) _ _ _
 rw[ZY (by rw[hb];exact Zn),ZY (by rw[hpl];exact Zn),ZY (by rw[Gu];simp)]
 refine Z_ (Z4 ?_)
 exact Z4 h
end
def jk(t:SetTable)(i:Nat):Nat:=match i with|0=>0|k+1=>t.place.getD k 0+1
def eC(h1:t.place.size<=1)(hi:i<=t.place.size):SetTable.below t.place (jk t i)=i:=by
 obtain⟨m,⟨l⟩,d,f,le,mo,pl⟩:=t
 match l,h1 with
 |[],_=>cases Nat.le_zero.mp hi;rfl
 |[p],_=>
  match i,hi with
  |0,_=>simp[SetTable.below,SetTable.below.go,jk]
  |1,_=>simp[SetTable.below,SetTable.below.go,jk]
section
variable{A:Za}{E:Z3->ZP->Prop}{s:ZP}{es:Z8 (Int×Z3)}
def j5{vs:Z8 Z3}{nx:Nat->Nat}(hl:vs.length=es.length)(Ro:∀i (hi:i<vs.length) (s:ZP) (R:Z9 (Z3×Nat)->ZP->Prop) (E:Z3->ZP->Prop),SetIs s.heap S es ep t->R (some (vs[i],nx (i+1))) s->wpAny (model prog w) A.in1 (setNext S (nx i) i ep) R E s)(Oe:∀(s:ZP)(R:Z9 (Z3×Nat)->ZP->Prop)(E:Z3->ZP->Prop),SetIs s.heap S es ep t->R none s->wpAny (model prog w) A.in1 (setNext S (nx es.length) es.length ep) R E s)(hh:A.handled=none)(FW:S≠I):
  Walks prog w A I [I,S] [I] es.length (λi v=>vs[i]?=some v) (λi h=>IterAt h I (rawInt (nx i)) i S es.length ep/\SetIs h S es ep t) where
 sub:=λb hb=>by simp at hb;simp[hb]
 frame:=λ_ _ _ st hk=>⟨st.1.at λo e=>hk I (by simp) o e,st.2.at λo e=>hk S (by simp) o e⟩
 item:=λi s Q E hi st hQ=>ji FW st.1 st.2 (Ro i (by lia)) λh' IQ k=>
  hQ _ h' s.toks (Y5 _) ⟨IQ,st.2.at λo e=>k S o FW e⟩ λb o hb e=>k b o (λz=>hb (by simp[z])) e
 done:=λs Q E st hQ=>lO hh st.1 st.2 Oe λh' k=>hQ h' s.toks λb o hb e=>k b o (λz=>hb (by simp[z])) e
 self:=λ_ _ _ _ st hQ=>sr st.1 hQ
def ma{ps:Z8 Nat}(hp:ps.Perm (List.range es.length))(hh:A.handled=none)(FW:S≠I)(R9:T≠I):Walks prog w A I [I,S,T] [I] es.length (λi v=>((ps.filterMap (es[·]?)).map (·.2))[i]?=some v)
  (λi h=>IterAt h I (.ref T) i S es.length ep/\SetIs h S es ep t/\∃o n,h.get? T=some o/\o.data=.seq (ps.map λ(k:Nat)=>rawInt k).toArray n) where
 sub:=λb hb=>by simp at hb;simp[hb]
 frame:=λ_ _ _ st hk=>⟨st.1.at λo e=>hk I (by simp) o e,st.2.1.at λo e=>hk S (by simp) o e,by obtain⟨o,n,e,r⟩:=st.2.2;exact⟨o,n,hk T (by simp) o e,r⟩⟩
 item:=λi s Q E hi st hQ=>by
  have hpl:=hp.length_eq;rw[Xq]at hpl;have JE:i<ps.length:=by lia
  have Nk:ps[i]<es.length:=Yq.mp (hp.mem_iff.mp (XD JE));refine iQ (ps:=ps) (p:=ps[i]) (e:=es[ps[i]]) FW st.1 st.2.1 st.2.2 (by simp[JE]) (by simp[Nk]) λh' IQ k=>?_
  refine hQ _ h' s.toks ?_ ⟨IQ,st.2.1.at λo e=>k S o FW e,by obtain⟨o,n,e,r⟩:=st.2.2;exact⟨o,n,k T o R9 e,r⟩⟩ λb o hb e=>k b o (λz=>hb (by simp[z])) e
  have e1:ps.filterMap (es[·]?)=ps.map λk=>es.getD k (0,.none):=by
   have GQ:∀k∈ps,k<es.length:=λk hk=>Yq.mp (hp.mem_iff.mp hk)
   clear hpl JE Nk hp hi hQ st
   induction ps with
   |nil=>rfl
   |cons k ps ih=>
    have hk:=GQ k (ZX ..);rw[List.filterMap_cons,Y5 hk,Z1,ih λz hz=>GQ z (Z2 _ hz)]
    simp[hk]
  rw[e1];simp[JE,Nk]
 done:=λs Q E st hQ=>by
  have hpl:=hp.length_eq;rw[Xq]at hpl;exact jY hh st.1 st.2.1 st.2.2 (by rw[YR (by lia)]) λh' k=>hQ h' s.toks λb o hb e=>k b o (λz=>hb (by simp[z])) e
 self:=λ_ _ _ _ st hQ=>sr st.1 hQ
end
theorem kX(a:ZN):setDrawn a=(do
  let (es,_,t) <-setState a
  let Kl <-setsByText
  return !Kl&&(!t.plain&&es.size>1)):=rfl
def sO:typeLookup (.type "set") "__len__"=pure (some (.builtin "set.__len__")):=F.slot_set_len.lookup
section
variable{A:Za}
def vN(st:SetIs s.heap S es ep t)(Gu:t.led=cQ w)(hpl:es.length<=1\/t.plain=false)(hn:es.length<=1000){Q:Z3->ZP->Prop}(hQ:∀(I:ZN)(vs:Z8 Z3)(fp:Z8 ZN)(St:Nat->Heap->Prop)(h':Heap)(d:Drawn),vs.Perm (es.map (·.2))->(∀A':Za,A'.handled=none->Walks prog w A' I fp [I] es.length (λi v=>vs[i]?=some v) St)->St 0 h'->
   (∀b o,s.heap.get? b=some o->h'.get? b=some o)->s.heap.objs.size<=I->I∈fp->(∀b∈fp,b=S\/s.heap.objs.size<=b)->Q (.ref I) {s with heap:=h',drawn:=d}):wpAny (model prog w) A (pyIter (.ref S)) Q E s:=by
 obtain⟨os,F_,hex,Gq⟩:=id st.ob;have hT:s.TypeIs (.ref S) "set":=⟨os,F_,hex.1⟩;have HA:S<s.heap.objs.size:=ZT F_;refine wpAny_pyIter_slot hT F.slot_set_iter (Y8 F.slot_set_iter hT fj ?_ (F.args_set_iter_1 _))
 unfold Builtin.«frozenset.__iter__» Builtin.Frozenset.slot0 slotArgs;simp only[List.isEmpty_nil,YT,ZJ,↓reduceIte,bind_assoc,List.length_nil,bne_self_eq_false];unfold Builtin.Frozenset.addrOf Builtin.Frozenset.sizeOf;refine Z_ (Z4 ?_)
 try dsimp only
 refine Z_ (Z4 ?_)
 refine Z_ (Z_ (Xu F_ Gq st.fits (Z4 ?_)))
 refine Z_ ?_
 rw[kX];refine Z_ (XC F_ Gq st.fits ?_)
 dsimp only;refine Z_ ?_
 unfold setsByText;refine Z_ (Xz (Z4 ?_))
 refine Z4 ?_
 have hsz:es.toArray.size=es.length:=by simp
 show wpAny _ _ (if(!w.params.followText "set-order"&&(!t.plain&&decide (es.toArray.size>1)))=true then _ else _) _ _ _
 by_cases MD:(!w.params.followText "set-order"&&(!t.plain&&decide (es.toArray.size>1)))=true
 .rw[Z0 MD]
  refine Z_ (gu es.toArray.size (List.range es.toArray.size) s _ (by simp) λps d hp=>?_)
  rw[hsz]at hp⊢;have hpl:=hp.length_eq;rw[Xq]at hpl;unfold newTuple;refine Z_ (Y7 ?_ (by show(ps.map λ(i:Nat)=>rawInt i).toArray.size<=sizeLine;rw[X3];simp;lia))
  have g1:(s.heap.push {cls:=.type "tuple",data:=.seq (ps.map λ(i:Nat)=>rawInt i).toArray}).get? S=some os:=Z5 _ F_
  refine Z_ (wpAny_setEpoch_of (s:={s with heap:=s.heap.push {cls:=.type "tuple",data:=.seq (ps.map λ(i:Nat)=>rawInt i).toArray},drawn:=d}) g1 Gq st.fits ?_)
  unfold newFields;refine Z_ (Y7 ?_ (by size_fits))
  refine Z4 ⟨_,rfl,"set_iterator",_,⟨_,ZK _ rfl,rfl⟩,ay.lookup,?_⟩
  have Mb:(s.heap.push {cls:=.type "tuple",data:=.seq (ps.map λ(i:Nat)=>rawInt i).toArray}).objs.size=s.heap.objs.size+1:=YM ..
  refine hQ (s.heap.push {cls:=.type "tuple",data:=.seq (ps.map λ(i:Nat)=>rawInt i).toArray}).objs.size ((ps.filterMap (es[·]?)).map (·.2)) [(s.heap.push {cls:=.type "tuple",data:=.seq (ps.map λ(i:Nat)=>rawInt i).toArray}).objs.size,S,s.heap.objs.size] _ _ d ((uh hp).map _)
   (λA' Hc=>ma (T:=s.heap.objs.size) (ps:=ps) (es:=es) (S:=S) (ep:=ep) (t:=t) hp Hc ?_ ?_) ?_ (λb o e=>Z5 _ (Z5 _ e)) ?_ (by simp) ?_
  .rw[Mb];exact Zw (Nat.lt_succ_of_lt HA)
  .rw[Mb];exact Zw (Yr _)
  .exact⟨⟨_,ZK _ rfl,rfl,rfl⟩,st.at λo e=>Z5 _ (Z5 _ e),_,_,Z5 _ (ZK _ rfl),rfl⟩
  .rw[Mb];exact Xj _
  .intro b hb
   simp only[ZZ,Zu,YQ]at hb
   rcases hb with rfl|rfl|rfl
   .right;rw[Mb];exact Xj _
   .left;rfl
   .right;exact ZQ _
 .rw[ZY MD]
  refine Z_ (Z4 ?_)
  refine Z_ (wpAny_setEpoch_of F_ Gq st.fits ?_)
  unfold newFields;refine Z_ (Y7 ?_ (by size_fits))
  refine Z4 ⟨_,rfl,"set_iterator",_,⟨_,ZK _ rfl,rfl⟩,ay.lookup,?_⟩
  rw[hsz];have fin:∀(vs:Z8 Z3)(St:Nat->Heap->Prop),vs.Perm (es.map (·.2))->(∀A':Za,A'.handled=none->Walks prog w A' s.heap.objs.size [s.heap.objs.size,S] [s.heap.objs.size] es.length (λi v=>vs[i]?=some v) St)->
    St 0 (s.heap.push {cls:=.type "set_iterator",data:=.fields [rawInt 0,rawInt 0,.ref S,rawInt es.length,rawInt ep].toArray})->
    Q (.ref s.heap.objs.size) {s with heap:=s.heap.push {cls:=.type "set_iterator",data:=.fields [rawInt 0,rawInt 0,.ref S,rawInt es.length,rawInt ep].toArray}}:=λvs St hp W h0=>by
   refine hQ s.heap.objs.size vs [s.heap.objs.size,S] St _ s.drawn hp W h0 (λb o e=>Z5 _ e) (ZQ _) (by simp) λb hb=>?_
   simp only[ZZ,Zu,YQ]at hb
   rcases hb with rfl|rfl
   .exact .inr (ZQ _)
   .exact .inl rfl
  cases KJ:w.params.followText "set-order" with
  |true=>
   have pp:=(rf (w.params.setOrder S ep) es.toArray).map (·.2)
   have pl:=pp.length_eq;simp only[ZI,Array.length_toList]at pl;refine fin _ _ (by simpa using pp) (λA' Hc=>j5 (S:=S) (ep:=ep) (t:=t) (nx:=λ_=>0) (by simpa using pl) (λi hi s R E i_ hR=>j6 KJ i_ ?_) (λs R E i_ hR=>j6 KJ i_ ?_) Hc (Zw HA)) ⟨⟨_,ZK _ rfl,rfl,rfl⟩,st.at λo e=>Z5 _ e⟩
   .rw[YY (by simpa using hi)];simpa using hR
   .rw[XR (by simp[pl])];exact hR
  |false=>
   have HH:(!t.plain&&decide (es.toArray.size>1))=false:=by
    rw[KJ]at MD
    simpa using MD
   have h1:es.length<=1:=by
    rcases hpl with h|h
    .exact h
    .rw[h]at HH;simpa using HH
   have hl:t.place.size=es.length:=by
    have:=st.fits;unfold SetTable.fits at this;rw[ZH,Zx,hsz]at this;exact this.1
   have hle:t.led=true:=by rw[Gu,cQ,KJ];rfl
   refine fin _ _ (YW _) (λA' Hc=>j5 (S:=S) (ep:=ep) (t:=t) (nx:=jk t) (by simp) (λi hi s R E i_ hR=>jL KJ i_ hle HH ?_) (λs R E i_ hR=>jL KJ i_ hle HH ?_) Hc (Zw HA)) ⟨⟨_,ZK _ rfl,rfl,rfl⟩,st.at λo e=>Z5 _ e⟩
   .have s_:i<es.length:=by simpa using hi
    have JE:i<t.place.size:=by lia
    rw[eC (by lia) (by lia),show es.toArray[i]?=some es[i] by simp[s_],YY JE]
    dsimp only;have:jk t (i+1)=t.place[i]+1:=by show t.place.getD i 0+1=_;simp[Array.getD,JE]
    rw[this]at hR
    simpa using hR
   .rw[eC (by lia) (by lia),show es.toArray[es.length]?=none by simp]
    exact hR
def lZ(hh:A.handled=none)(st:SetIs s.heap S es ep t)(Gu:t.led=cQ w)(hpl:es.length<=1\/t.plain=false)(hn:es.length<=1000)(hQ:∀(vs:Z8 Z3)(h':Heap)(d:Drawn)(tk:Nat),vs.Perm (es.map (·.2))->(∀b o,s.heap.get? b=some o->h'.get? b=some o)->s.heap.objs.size<=h'.objs.size->Q vs {s with heap:=h',drawn:=d,toks:=tk}):wpAny (model prog w) A (collect (.ref S)) Q E s:=by
 obtain⟨os,F_,hex,Gq⟩:=id st.ob;have HA:S<s.heap.objs.size:=ZT F_;unfold collect;refine Z_ (wpAny_runValue (YC F.entry_proto_collect ?_))
 rw[Y4 F.plain_proto_collect _];show wpAny _ A.in1 (newList [] >>= λl=>again (.builtin "list.__iadd__" ⟨[l,.ref S],[]⟩)) _ _ s
 refine Z_ (Y7 ?_)
 refine Z4 ⟨Yp F.plain_list_iadd _,YC F.entry_list_iadd ?_⟩
 rw[Y4 F.plain_list_iadd _];generalize hL:s.heap.objs.size=L;have N8:SetIs (s.heap.push {cls:=.type "list",data:=.seq ([]:Z8 Z3).toArray}) S es ep t:=st.at λo e=>Z5 _ e
 have g0:(s.heap.push {cls:=.type "list",data:=.seq ([]:Z8 Z3).toArray}).get? L=some {cls:=.type "list",data:=.seq ([]:Z8 Z3).toArray}:=by rw[<-hL];exact ZK _ rfl
 have Lk:(s.heap.push {cls:=.type "list",data:=.seq ([]:Z8 Z3).toArray}).get? S=some os:=Z5 _ F_
 have R_:Shared.TypeIs {s with heap:=s.heap.push {cls:=.type "list",data:=.seq ([]:Z8 Z3).toArray}} (.ref S) "set":=⟨os,Lk,hex.1⟩
 show wpAny _ A.in1 (Builtin.List.listExtendWith (.ref L) (.ref S) (.ref L)) _ _ _;unfold Builtin.List.listExtendWith;refine Z_ (WD R_ ?_)
 have h1:Builtin.List.listSameRef (.ref L) (.ref S)=false:=by simp[Builtin.List.listSameRef];rw[<-hL];exact Nat.ne_of_gt HA
 have h2:(Value.type "set"==Value.type "list")=false:=by decide
 have h3:(Value.type "set"==Value.type "tuple")=false:=by decide
 simp only[h1,h2,h3,Bool.or_false,ZJ,Zc];refine Z_ (vN (s:={s with heap:=s.heap.push {cls:=.type "list",data:=.seq ([]:Z8 Z3).toArray}}) N8 Gu hpl hn λI vs fp St h' d hp W NI hk hI TQ RN=>?_)
 have NH:Shared.TypeIs {s with heap:=h',drawn:=d} (.ref S) "set":=⟨os,hk S os Lk,hex.1⟩
 have gL:h'.get? L=some {cls:=.type "list",data:=.seq ([]:Z8 Z3).toArray}:=hk L _ g0;refine Z_ (Y3 ?_)
 unfold Builtin.List.listLengthHint;refine Z_ (X6 NH sO ?_)
 generalize Pp:("set.__len__":String)=Q1
 wp_delta
 rw[show splitId Q1=some ("set","__len__") from by subst Pp;decide +kernel]
 subst Pp;dsimp only;refine Z_ (Yh (b:=true) NH (by rw[Wr];kernel_rfl) ?_)
 rw[ZY (by decide)]
 rw[Z0 (by decide +kernel)]
 refine Z_ (WD NH ?_)
 dsimp only;refine Z4 ?_
 rw[Z0 (by decide +kernel)]
 refine Z_ (YV ?_)
 refine Z_ ?_
 show wpAny _ A.in1 (updateSeq L (·.push .none) >>= λ_=>updateSeq L (·.pop)) _ _ _
 refine Z_ (Ym gL rfl ?_)
 have PV:=Zj (Obj.mapSeq (·.push Value.none)) gL rfl
 refine Ym PV rfl ?_
 have Ss:=Zj (Obj.mapSeq (·.pop)) PV rfl
 have GD:∀b o,b≠L->h'.get? b=some o->((h'.update L (Obj.mapSeq (·.push Value.none))).update L (Obj.mapSeq (·.pop))).get? b=some o:=
  λb o hb e=>(Zm _ _ (ZD hb)).trans ((Zm _ _ (ZD hb)).trans e)
 have WS:=(W A.in1 (by simp[hh])).toS
 have Sg:L≠S:=by rw[<-hL];exact Nat.ne_of_gt HA
 have PJ:L∉fp:=λhm=>by
  rcases RN L hm with e|e
  .exact Sg e
  .have e2:s.heap.objs.size+1<=L:=by have:=e;rwa[YM]at this
   rw[hL]at e2;exact Zd _ e2
 refine Z4 ⟨Yp XQ _,codeAny_extend_loopS WS (by rw[X3];lia) L PJ _ es.length 0 _ _ _ rfl (Zs _)
  (WS.frame 0 ({s with heap:=h',drawn:=d}:ZP) _ s.toks NI (ZQ _) λb hb o e=>GD b o (λh=>PJ (h▸hb)) e) Ss (ItemsOf.nil _) λs' m_ c' hm IV v_=>?_⟩
 show wpAny _ A (load L >>= _) _ _ s';refine Z_ (wpAny_load IV ?_)
 have e1:s'.gens=s.gens:=hm.gens;have e2:s'.drawn=d:=hm.drawn;have e3:s'.os=s.os:=hm.os;obtain⟨RG,TR,HU,Qu,Th⟩:=s';simp only at e1 e2 e3;subst e1;subst e2;subst e3;refine Z4 (hQ m_.toList RG HU Qu ?_ (λb o e=>?_) (by rw[hL];exact WW (ZT IV)))
 .have:m_.toList=vs:=by
   have O1:=hp.length_eq;rw[ZI]at O1;apply Xp;intro j
   by_cases hj:j<m_.size
   .have:=v_.2 j m_[j] (by simp[hj])
    rw[this];simp[hj]
   .rw[YR (by simpa using hj),YR (by rw[O1,<-v_.1];lia)]
  rw[this];exact hp
 .have Py:b≠L:=by rw[<-hL];exact Zw (ZT e)
  have RV:b≠I:=λz=>by
   have h5:s.heap.objs.size+1<=I:=by have:=hI;rwa[YM]at this
   have:=ZT e;rw[z]at this;exact absurd (ZA (Nat.lt_succ_of_lt this) h5) (Zd _)
  refine hm.heap b o (by simp only[ZZ,Zu,YQ,Xs];exact⟨Py,RV⟩) (GD b o Py (hk b o (Z5 _ e)))
end
def zE(t:SetTable)(es:Array (Int×Z3))(h:Int)(x:Z3):(layNew t es h x).2.1.led=t.led:=by
 unfold layNew;split
 .dsimp only
  unfold SetTable.orStandIn;split<;>rfl
 .rfl
def rH(t:SetTable)(es:Array (Int×Z3))(n:Nat):(relayAll t es n).2.1.led=t.led/\(t.plain=false->(relayAll t es n).2.1.plain=false):=by
 unfold relayAll;split
 .rename_i t' order e
  have:t'.led=t.led/\t'.plain=t.plain:=by
   unfold SetTable.relaid SetTable.laid at e;cases q:SetTable.layClean (SetTable.sizeAbove n - 1) (es.map (·.1))with
   |none=>rw[q]at e;trivial
   |some o=>rw[q]at e;cases e;exact⟨rfl,rfl⟩
  dsimp only;split
  .exact⟨this.1,λh=>this.2.trans h⟩
  .exact⟨rfl,λ_=>rfl⟩
 .exact⟨rfl,λ_=>rfl⟩
abbrev tE(w:YO)(p:Str×Tok):Int×Z3:=(hashStr w p.1,.str p.1 p.2)
def SetT(w:YO)(h:Heap)(a:ZN)(ts:Z8 (Str×Tok)):Prop:=
 ∃o ep t,h.get? a=some o/\o.ExactSet/\o.data=.set (ts.map (tE w)).toArray ep t/\t.fits ts.length=true/\t.led=cQ w/\(ts=[]\/t.plain=false)
def SetT.same(S:SetT w h a ts)(k:∀o,h.get? a=some o->h'.get? a=some o):SetT w h' a ts:=by
 obtain⟨o,ep,t,ho,r⟩:=S;exact⟨o,ep,t,k o ho,r⟩
section
def jI{h:Heap}{t t':SetTable}{ts:Z8 (Str×Tok)}(ho:h.get? a=some o)(hex:o.ExactSet)(hd:o.data=.set es ep t)(hf:t'.fits ts.length=true)(hl:t'.led=cQ w)(hp:t'.plain=false):
  (h.update a (Obj.putSet (ts.map (tE w)).toArray t')).get? a=some {o with data:=.set (ts.map (tE w)).toArray (ep+1) t'}/\SetT w (h.update a (Obj.putSet (ts.map (tE w)).toArray t')) a ts:=by
 have hg:=Zj (Obj.putSet (ts.map (tE w)).toArray t') ho (by rw[putSet_of _ t' hd];rfl)
 rw[putSet_of _ t' hd]at hg;exact⟨hg,_,ep+1,t',hg,hex,rfl,hf,hl,.inr hp⟩
def m6{t t2:SetTable}{F7:Z8 (Str×Tok)}{R:Z9 Bool->ZP->Prop}(ho:s.heap.get? a=some o)(hex:o.ExactSet)(hd:o.data=.set es ep t)(e1:IH=(F7.map (tE w)).toArray)(hf:t2.fits IH.size=true)(hl:t2.led=cQ w)(hp:t2.plain=false)(hb:F7.length<4000)(h:∀h' GC,Heap.SameBut a s.heap h'->GC.Perm F7->SetT w h' a GC->R (some true) {s with heap:=h'}):
  wpAny (model prog w) A (do
    storeSet a IH t2
    if(!wd&&t2.tooFull)=true then do
      (match(relayAll t2 IH (SetTable.grown IH.size)).2.2 with|true=>rule "set.scan.the-table-gave-way"|false=>pure ())
      storeSet a (relayAll t2 IH (SetTable.grown IH.size)).1 (relayAll t2 IH (SetTable.grown IH.size)).2.1
      pure (some true)
     else pure (some true)) R E s:=by
 subst e1;have hsz:(F7.map (tE w)).toArray.size=F7.length:=by simp
 refine Z_ (wpAny_storeSet_of ho hd ?_ (by rw[hsz,X3];lia))
 obtain⟨g1,S1⟩:=jI (w:=w) (ts:=F7) ho hex hd (hsz▸hf) hl hp;have sb:=Ze s.heap a (Obj.putSet (F7.map (tE w)).toArray t2);split
 .have Nl:=relayAll_perm t2 (F7.map (tE w)).toArray (SetTable.grown (F7.map (tE w)).toArray.size)
  have Hs:=relayAll_fits t2 (F7.map (tE w)).toArray (SetTable.grown (F7.map (tE w)).toArray.size);obtain⟨l1,l2⟩:=rH t2 (F7.map (tE w)).toArray (SetTable.grown (F7.map (tE w)).toArray.size);generalize relayAll t2 (F7.map (tE w)).toArray (SetTable.grown (F7.map (tE w)).toArray.size)=Rl at Nl Hs l1 l2⊢;obtain⟨SA,t3,gv⟩:=Rl;dsimp only at Nl Hs l1 l2⊢;obtain⟨KP,p2,e2⟩:=cK (tE w) Nl F7 rfl;obtain rfl:SA=(KP.map (tE w)).toArray:=by rw[<-e2]
  have Mx:=p2.length_eq;have Nw:∀(b:Bool){g_:ZP}{Q':Unit->ZP->Prop},Q' () g_->wpAny (model prog w) A (match b with|true=>rule "set.scan.the-table-gave-way"|false=>pure ()) Q' E g_:=
   λb g_ Q' hq=>by cases b<;>first|exact Z4 hq|exact YV hq
  refine Z_ (Nw _ ?_)
  refine Z_ (wpAny_storeSet_of (s:={s with heap:=s.heap.update a (Obj.putSet (F7.map (tE w)).toArray t2)}) g1 rfl ?_ (by rw[X3];simp;lia))
  exact Z4 (h _ KP (sb.trans (Ze _ a _)) p2 (jI (w:=w) (ts:=KP) g1 hex rfl (by simpa using Hs) (l1.trans hl) (l2 hp)).2)
 .exact Z4 (h _ F7 sb (YW _) S1)
def Dd(S:SetT w s.heap a ts)(hb:ts.length<100)(h:∀h' GC b,Heap.SameBut a s.heap h'->SetT w h' a GC->(GC=ts/\x∈ts.map (·.1)\/GC.Perm ((x,tk)::ts)/\x∉ts.map (·.1))->Q b {s with heap:=h'}):wpAny (model prog w) A (setAddHashed a (.str x tk) (hashStr w x)) Q E s:=by
 have S0:=S;obtain⟨o,ep,t,ho,hex,hd,hf,Gu,hpl⟩:=S;have hsz:(ts.map (tE w)).toArray.size=ts.length:=by simp
 rw[<-hsz]at hf;have key:(PySem.strKind prog w).is x (.str x tk)=true:=by show(x==x)=true;simp
 have MC:ElemsOf (PySem.strKind prog w) (ts.map (tE w)).toArray.toList:=λe he=>by
  obtain⟨p,_,rfl⟩:=ZL.mp he;exact⟨⟨p.1,by show(p.1==p.1)=true;simp,rfl⟩,rfl⟩
 unfold setAddHashed setAddHashedIn;refine Y3 (Z_ (XC ho hd hf ?_))
 dsimp only;rw[byScan_of rfl (by unfold scanBound;lia) MC]
 simp only[↓reduceIte];unfold setAddByScan;refine Z_ ?_
 refine Z_ (YV ?_)
 refine Z_ (wpAny_setScan_of (knd:=PySem.strKind prog w) key ho hd hf MC ?_)
 cases hr:List.findIdx? (λe=>(PySem.strKind prog w).is x e.2) (ts.map (tE w)).toArray.toList with
 |some j=>
  dsimp only;obtain⟨hj,Rk,_⟩:=List.findIdx?_eq_some_iff_getElem.mp hr
  have Jm:j<ts.length:=by simpa using hj
  have e:ts[j].1=x:=by
   have h0:(PySem.strKind prog w).is x (Value.str ts[j].1 ts[j].2)=true:=by simpa using Rk
   exact Zx.mp (show(ts[j].1==x)=true from h0)
  exact Z4 (Z4 (h s.heap ts false (Heap.SameBut.refl a s.heap) S0 (.inl ⟨rfl,ZL.mpr ⟨ts[j],XD Jm,e⟩⟩)))
 |none=>
  dsimp only;have HI:x∉ts.map (·.1):=λhm=>by
   obtain⟨p,hp,e⟩:=ZL.mp hm;have:=List.findIdx?_eq_none_iff.mp hr (tE w p) (ZL.mpr ⟨p,hp,rfl⟩)
   have:(p.1==x)=false:=this;rw[e]at this;simp at this
  have Ip:=layNew_perm t (ts.map (tE w)).toArray (hashStr w x) (.str x tk);have Hj:=layNew_fits t (ts.map (tE w)).toArray (hashStr w x) (.str x tk);have Ho:=zE t (ts.map (tE w)).toArray (hashStr w x) (.str x tk);show wpAny _ _ (match layNew t (ts.map (tE w)).toArray (hashStr w x) (.str x tk)with|(es,t,wd,gv)=>_) _ _ _
  generalize layNew t (ts.map (tE w)).toArray (hashStr w x) (.str x tk)=L at Ip Hj Ho⊢;obtain⟨IH,t1,wd,gv⟩:=L;dsimp only at Ip Hj Ho⊢;obtain⟨F7,p1,e1⟩:=cK (tE w) Ip (ts++[(x,tk)]) (by simp)
  have e1:IH=(F7.map (tE w)).toArray:=by rw[<-e1]
  have Nw:∀(b:Bool){g_:ZP}{Q':Unit->ZP->Prop},Q' () g_->wpAny (model prog w) A (match b with|true=>rule "set.scan.the-table-gave-way"|false=>pure ()) Q' E g_:=
   λb g_ Q' hq=>by cases b<;>first|exact Z4 hq|exact YV hq
  refine Z_ (Nw _ ?_)
  have hlen:=p1.length_eq;simp only[Zy,List.length_cons,List.length_nil]at hlen;have fin:∀h' GC,Heap.SameBut a s.heap h'->GC.Perm F7->SetT w h' a GC->wpAny (model prog w) A (pure true) Q E {s with heap:=h'}:=λh' GC sb pp ST=>
   Z4 (h h' GC true sb ST (.inr ⟨pp.trans (p1.trans (List.perm_append_singleton _ _)),HI⟩))
  split
  .refine Z_ ?_
   rw[hashByValue_scannable 8 rfl];refine Z4 ?_
   exact m6 ho hex hd e1 (SetTable.fits_plain_off Hj) (Ho.trans Gu) rfl (by lia) fin
  .rename_i hq
   refine Z_ (Z4 ?_)
   simp only[↓reduceIte];exact m6 ho hex hd e1 Hj (Ho.trans Gu) (by simpa using hq) (by lia) fin
end
structure Fill (w:YO)(h:Heap)(a:ZN)(done:List Str)(ts:List (Str×Tok)):Prop where
 at':SetT w h a ts
 nd:(ts.map (·.1)).Nodup
 mem:∀x,x∈ts.map (·.1)↔x∈done
 len:ts.length<=done.length
section
variable{prog:Y1}{w:YO}{s:ZP}{A:Za}{R:Result->ZP->Prop}{It:ZN}{fp wr:Z8 ZN}{G:Array GenState->Array GenState->Prop}{n:Nat}{P:Nat->Z3->Prop}{St:Nat->ZP->Prop}
def vL(W:WalksS prog w A.in1 It fp wr G n P St)(hG:∀a b,G a b->b=a)(S:ZN)(MF:S∉fp)(NI:s.heap.get? S=none)(Q5:∀b∈wr,s.heap.get? b=none)(ss:Z8 Str)(hn:ss.length=n)(IF:n<64)(LK:∀(i:Nat) v x,P i v->ss[i]?=some x->∃tk,v=.str x tk):
  ∀(k i:Nat)(h:Heap)(tk:Nat)(ts:Z8 (Str×Tok)),n - i=k->i<=n->St i {s with heap:=h,toks:=tk}->(∀b o,s.heap.get? b=some o->h.get? b=some o)->Fill w h S (ss.take i) ts->
   (∀h' MO GC,(∀b o,s.heap.get? b=some o->h'.get? b=some o)->Fill w h' S ss GC->R (.ok (.ret .none)) {s with heap:=h',toks:=MO})->
   codeAny (model prog w) A (.builtin "set.update.loop" ⟨[.ref S,.ref It],[]⟩) R {s with heap:=h,toks:=tk}:=by
 have PH:S∉wr:=λh=>MF (W.sub _ h)
 have back:∀{h:Heap}{tk:Nat}{s':ZP},(∀b o,s.heap.get? b=some o->h.get? b=some o)->Moved wr G {s with heap:=h,toks:=tk} s'->s'={s with heap:=s'.heap,toks:=s'.toks}/\∀b o,s.heap.get? b=some o->s'.heap.get? b=some o:=λ{h tk s'} hk hm=>by
  have e1:s'.gens=s.gens:=hG _ _ hm.gens;have e2:s'.drawn=s.drawn:=hm.drawn;have e3:s'.os=s.os:=hm.os;refine⟨?_,λb o e=>?_⟩
  .obtain⟨h',g',d',t',o'⟩:=s'
   simp only at e1 e2 e3;subst e1;subst e2;subst e3;rfl
  .refine hm.heap b o (λhb=>?_) (hk b o e)
   rw[Q5 b hb]at e;trivial
 intro k
 induction k with
 |zero=>
  intro i h tk ts hk hi GG GU hF hR;have Hr:i=n:=by lia
  subst Hr;refine YC F.entry_set_update_loop ?_
  rw[Y4 Wq _];show wpAny _ A.in1 (pyNext (.ref It) >>= _) _ _ _;refine Z_ (W.done _ _ _ GG λs' hm=>?_)
  obtain⟨es,G_⟩:=back GU hm;show wpAny _ A.in1 (ret Value.none) _ _ s';rw[es];have e:=List.take_length (l:=ss);rw[hn]at e;rw[e]at hF;exact Z4 (hR s'.heap s'.toks ts G_ ⟨hF.at'.same λo e=>hm.heap S o PH e,hF.nd,hF.mem,hF.len⟩)
 |succ k ih=>
  intro i h tk ts hk hi GG GU hF hR;have k_:i<n:=by lia
  refine YC F.entry_set_update_loop ?_
  rw[Y4 Wq _];show wpAny _ A.in1 (pyNext (.ref It) >>= _) _ _ _;refine Z_ (W.item i _ _ _ k_ GG λv s' hP LL hm=>?_)
  obtain⟨es,G_⟩:=back GU hm;have Po:i<ss.length:=by lia
  obtain⟨tx,rfl⟩:=LK i v ss[i] hP (by simp[Po])
  have HL:SetT w s'.heap S ts:=hF.at'.same λo e=>hm.heap S o PH e
  have KH:=hF.len;rw[XE]at KH;have LV:ss.take (i+1)=ss.take i++[ss[i]]:=by rw[List.take_succ];simp[Po]
  show wpAny _ A.in1 (holding [Value.str ss[i] tx] (setAdd S (.str ss[i] tx)) >>= _) _ _ s';refine Z_ (Y3 ?_)
  rw[es]at LL⊢;unfold setAdd;refine Y3 (Z_ (wpAny_pyHash_str ?_))
  refine Dd (s:={s with heap:=s'.heap,toks:=s'.toks+1}) HL (by lia) λh' GC b Ms IV Rn=>?_
  have Hi:∀b o,s.heap.get? b=some o->h'.get? b=some o:=λb o e=>by
   rw[Ms.2 b (λz=>by rw[z,NI]at e;trivial)]
   exact G_ b o e
  have F':Fill w h' S (ss.take (i+1)) GC:=by
   rw[LV]
   rcases Rn with⟨rfl,JD⟩|⟨hp,JD⟩
   .refine⟨IV,hF.nd,λd=>?_,by simp;lia⟩
    rw[hF.mem d,Zv,ZE];exact⟨.inl,λz=>z.elim id λe=>e▸(hF.mem _).mp JD⟩
   .have HH:=hp.map (·.1)
    have Rm:=hp.length_eq;rw[List.length_cons]at Rm;rw[Z1]at HH;refine⟨IV,?_,λd=>?_,by simp;lia⟩
    .rw[HH.nodup_iff,YJ];exact⟨JD,hF.nd⟩
    .rw[HH.mem_iff,ZZ,hF.mem d,Zv,ZE]
     exact Or.comm
  refine Z4 ⟨Yp Wq _,ih (i+1) h' (s'.toks+1) GC (by lia) k_ ?_ Hi F' hR⟩
  exact W.frame _ {s with heap:=s'.heap,toks:=s'.toks} _ _ LL (Xj _) λb hb o e=>by
   rw[Ms.2 b (λh:b=S=>MF (by rw[<-h];exact hb))];exact e
end
abbrev cX(led:Bool):Obj:={cls:=.type "set",dict:=none,data:=.set #[] 0 (.fresh 0 0 led)}
section
def jR(a:Z3)(h:Q₁ (.ref s.heap.objs.size) {s with heap:=s.heap.push (cX (cQ w))}):
  codeAny (model prog w) A (.call (.builtin "set.__new__") ⟨[.type "set",a],[]⟩) (wants Q₁ E) s:=by
 refine codeAny_of_tree ?_
 show wpAny _ A.in1 (do checkBuiltinCall "set.__new__" ⟨[.type "set",a],[]⟩;again (.builtin "set.__new__" ⟨[.type "set",a],[]⟩)) _ _ s
 refine Z_ (Wu (F.newCall_set_1 a) (Z4 ⟨Yp F.plain_set_new _,YC F.entry_set_new ?_⟩))
 rw[Y4 F.plain_set_new _];unfold Builtin.«set.__new__» Builtin.Frozenset.newClass;have HZ:=sub_set_self;obtain⟨hp,g,d,tk,os⟩:=s;dsimp only
 wp_walk
 refine Xz (Z4 ?_)
 dsimp only;simp only[newObj];refine Z_ (wpAny_alloc (Z4 ?_))
 exact Z4 h
end
section
variable{A:Za}
def uZ(e:h.get? a=some (cX (cQ w))):Fill w h a [] []:=
 ⟨⟨_,0,_,e,⟨rfl,rfl,rfl⟩,rfl,rfl,rfl,.inl rfl⟩,YX,λd=>Iff.rfl,ZQ _⟩
def o7(hh:A.handled=none)(hl:s.heap.IsList l items)(ss:Z8 Str)(hlen:ss.length=items.size)(IF:items.size<64)(MC:∀(i:Nat) v x,items[i]?=some v->ss[i]?=some x->∃tk,v=.str x tk)(h:∀(h':Heap)(tk:Nat) ts,(∀b o,s.heap.get? b=some o->h'.get? b=some o)->Fill w h' s.heap.objs.size ss ts->Q (.ref s.heap.objs.size) {s with heap:=h',toks:=tk}):
  wpAny (model prog w) A (call (.type "set") [.ref l]) Q E s:=by
 obtain⟨c,tl,S9⟩:=Xx.mro;have Qa:=Xx.made;have HZ:=Xx.sub;refine wpAny_call (codeAny_of_tree ?_)
 show wpAny _ _ (callAny (.type "set") _) _ _ _;refine Z4 ⟨Code.quiet_builtin _ (by decide +kernel),YC F.entry_type_call ?_⟩
 rw[Around.under_plain (weight_type_call_type "set" [.ref l] []) rfl];have h1:=Xx.notType;have h2:=Xx.canCreate;have TK:=F.typeCall_set_1 (.ref l)
 repeat (any_goals (first|assumption|wp_step))
 refine W7 (jR (.ref l) (E:=E) (Q₁:=λobj g_=>obj=.ref s.heap.objs.size/\g_={s with heap:=s.heap.push (cX (cQ w))}) ⟨rfl,rfl⟩) λr g_ hr=>?_
 cases r with
 |error e=>exact hr
 |ok fl=>
  cases fl with
  |ret obj=>
   obtain⟨rfl,rfl⟩:=hr;have hS:(s.heap.push (cX (cQ w))).get? s.heap.objs.size=some (cX (cQ w)):=ZK _ rfl
   have hT:Shared.TypeIs {s with heap:=s.heap.push (cX (cQ w))} (.ref s.heap.objs.size) "set":=⟨_,hS,rfl⟩
   have TC:=Xx.init.lookup;have TM:=Xx.init.bind (.ref s.heap.objs.size)
   repeat (any_goals (first|assumption|wp_step))
   refine W7 (codeAny_call_builtin (R:=wants (λr d_=>r=.none/\∃h' tk ts,d_={s with heap:=h',toks:=tk}/\Fill w h' s.heap.objs.size ss ts/\
     (∀b o,s.heap.get? b=some o->h'.get? b=some o)) E) Xx.init.plain F.entry_set_init (check_set_init_1 hT ?_)) λNV d_ Io=>?_
   .obtain⟨ol,Nn,HK,nl,Pt⟩:=hl
    obtain⟨S4,LR,P8,Kg⟩:=ol;simp only at HK Pt;subst HK;subst Pt;have N9:(s.heap.push (cX (cQ w))).get? l=some {cls:=.type "list",dict:=LR,data:=.seq items nl,slots:=Kg}:=Z5 _ Nn
    have S6:=F.sub_list_set;have S7:=F.sub_list_frozenset;have FW:(Value.type "list"==Value.type "dict")=false:=by decide
    have Ho:(s.heap.push (cX (cQ w))).IsList l items:=⟨_,N9,rfl,nl,rfl⟩;unfold Builtin.«set.__init__» noKeywords Builtin.Frozenset.updateFrom;generalize Sd:pyIter=PI
    wp_walk
    subst Sd;refine WU Ho ?_
    refine Z_ (wpAny_runValue ?_)
    have Pf:l<s.heap.objs.size:=ZT Nn;have RF:A.in1.in1.in1.handled=none:=by simp[hh]
    have Ob:l≠(s.heap.push (cX (cQ w))).objs.size:=by
     rw[YM];exact Zw (Nat.lt_succ_of_lt Pf)
    have MF:s.heap.objs.size∉[(s.heap.push (cX (cQ w))).objs.size,l]:=by
     rw[YM];simp only[ZZ,ZE,Zu,YQ,Xs];exact⟨Zw (Yr _),Nat.ne_of_gt Pf⟩
    have Jq:∀b,s.heap.objs.size<=b->s.heap.get? b=none:=λb hb=>by
     cases q:s.heap.get? b with
     |none=>rfl
     |some o=>exact absurd (ZT q) (Nat.not_lt.mpr hb)
    refine vL (s:=s) (w:=w) ((Walks.list RF _ l Ob items).toS) ?_ s.heap.objs.size
     MF (Jq _ (ZQ _)) ?_ ss hlen IF MC (items.size - 0) 0 _ s.toks [] (by lia) (Zs _)
     ⟨⟨_,ZK _ rfl,rfl,rfl⟩,(Ho.push _)⟩ (λb o e=>Z5 _ (Z5 _ e)) ?_ ?_
    .intro a b e;exact e
    .intro b hb
     simp only[ZE]at hb;rw[hb,YM];exact Jq _ (Xj _)
    .exact uZ (Z5 _ hS)
    .intro h' MO ts hk hF
     show wpAny _ _ _ _ _ _;refine Z4 ?_
     show wpAny _ _ (ret Value.none) _ _ _;exact Z4 ⟨rfl,h',MO,ts,rfl,hF,hk⟩
   .cases NV with
    |error e=>exact Io
    |ok L3=>
     cases L3 with
     |ret r=>
      obtain⟨rfl,h',tk,ts,rfl,hF,hk⟩:=Io
      repeat (any_goals (first|assumption|wp_step))
      exact h _ _ _ hk hF
     |_=>exact Io.elim
  |_=>exact hr.elim
end
end L2
namespace L2
open PySem PySem.Spec PyProof.Rows
variable[Lams]
theorem Inv.drawn(I:Inv X a_ σ H s)(d:Drawn):Inv X a_ σ H {s with drawn:=d}:=
 ⟨I.ok,I.os,I.bare,I.base,I.loc,I.cell,I.free,I.freeC,I.pin,I.hok,I.len⟩
def vm(w:YO)(S:ZN)(us:Z8 Str):HO:=.ext λh=>∃ts:Z8 (Str×Tok),(ts.map (·.1)).Perm us/\SetT w h S ts
def sv(hc:X.calm=true):eM X (.type "set") (λxs H Q=>∃(l:ZN)(ss:Z8 Str),xs=[.ref l]/\SqL X.K H l (ss.map V.str)/\ss.length<64/\
  ∀(S:ZN)(us:Z8 Str),H S=none->us.Nodup->(∀x,x∈us↔x∈ss)->us.length<=ss.length->Q (.ref S) (upd H S (vm X.w S us))):=by
 intro a_ s σ H xs us Q I r h;obtain⟨l,ss,rfl,hq,IF,q⟩:=h;obtain⟨u,rfl,rx⟩:=gm r;cases rx;obtain⟨its,rv,pl,hz⟩:=I.list hq;have l2:=rv.length;rw[ZI]at l2;refine o7 (I.ok.hd hc) pl.isList ss (by simp;lia) (by simp;lia) (λi v x hv hd=>?_) λh' tk ts hk hF=>?_
 .obtain⟨u,Gn,ru⟩:=rv.get (show(ss.map V.str)[i]?=some (.str x) by simp[hd])
  have:u=v:=by
   have:its[i]?=some v:=by simpa using hv
   rw[Gn]at this;exact Z7 this
  subst this;exact ru
 .refine⟨.ref s.heap.objs.size,_,I.laid (a:=s.heap.objs.size) (o:=vm X.w s.heap.objs.size (ts.map (·.1))) (h':=h') (t':=tk) hk (ZQ _) ?_,rfl,q _ _ I.fresh hF.nd hF.mem (by simpa using hF.len)⟩
  have S:=hF.at';obtain⟨o,ep,t,ho,r⟩:=hF.at';exact⟨⟨ts,YW _,S⟩,⟨o,ho⟩,λh1 h2 ⟨GC,p,a⟩ k=>⟨GC,p,a.same k⟩⟩
end L2
namespace L2
open PySem
variable[Lams]
@[simp] theorem lim_eq:lim=1000000:=by decide
@[simp] theorem bindO_s {α β:Type}(a:α)(f:α->Z9 β):ae (some a) f=f a:=(rfl)
@[simp] theorem shO_s (d:D)(b:Bool):shO (some (d,b))=some d:=(rfl)
@[simp] theorem frO_s (ds:Z8 D):frO (some (.lst ds,true))=some (.lst ds):=(rfl)
@[simp] theorem consO_s (a:D)(l:Z8 D):af (some a) (some l)=some (a::l):=(rfl)
@[simp] theorem seqO_n (δ:DEnv)(k:DEnv->Z9 Out):aG (some (.next δ)) k=k δ:=(rfl)
@[simp] theorem seqO_r (d:D)(b:Bool)(k:DEnv->Z9 Out):aG (some (.ret d b)) k=some (.ret d b):=(rfl)
@[simp] theorem ifO_t (x y:Z9 Out):ifO (some true) x y=x:=(rfl)
@[simp] theorem ifO_f (x y:Z9 Out):ifO (some false) x y=y:=(rfl)
@[simp] theorem retO_s (d:D):f8 (some d)=some (.ret d false):=(rfl)
@[simp] theorem retF_s (d:D):eL (some d)=some (.ret d true):=(rfl)
@[simp] theorem outF_r (d:D)(b:Bool):pC (some (.ret d b))=some (d,b):=(rfl)
@[simp] theorem nextO_s (δ:DEnv):nextO δ=some (.next δ):=(rfl)
@[simp] theorem setO_s (i:Nat)(d:D)(δ:DEnv)(h:i<δ.length):bK i (some d) δ=some (.next (δ.set i (some (d,false)))):=by unfold bK;simp only[Z0 h]
@[simp] theorem setF_s (i:Nat)(d:D)(δ:DEnv)(h:i<δ.length):d9 i (some d) δ=some (.next (δ.set i (some (d,true)))):=by unfold d9;simp only[Z0 h]
@[simp] theorem toName_s (i:Nat)(d:D)(δ:DEnv)(h:i<δ.length):aa i d δ=some (δ.set i (some (d,false))):=by unfold aa;simp only[Z0 h]
@[simp] theorem toTup_s (υ:Z8 D->DEnv->Z9 DEnv)(ds:Z8 D)(δ:DEnv):aM υ (.tup ds) δ=υ ds δ:=(rfl)
@[simp] theorem toCons_s (τ:D->DEnv->Z9 DEnv)(υ:Z8 D->DEnv->Z9 DEnv)(d:D)(ds:Z8 D)(δ:DEnv):aj τ υ (d::ds) δ=ae (τ d δ) (υ ds):=(rfl)
@[simp] theorem toNil_s (δ:DEnv):toNil [] δ=some δ:=(rfl)
@[simp] theorem addI_s (i j:Int):gj (some (.int i)) (some (.int j))=some (.int (i+j)):=(rfl)
@[simp] theorem subI_s (i j:Int):Cm (some (.int i)) (some (.int j))=some (.int (i - j)):=(rfl)
@[simp] theorem mulI_s (i j:Int)(h:(-(2 ^ 64)<i/\i<2 ^ 64)\/(-(2 ^ 64)<j/\j<2 ^ 64)):tN (some (.int i)) (some (.int j))=some (.int (i*j)):=xT (by unfold Ez;exact Zt h)
@[simp] theorem modI_s (i j:Int)(h:0<j):cS (some (.int i)) (some (.int j))=some (.int (i%j)):=xT (by unfold Er;exact Zt h)
@[simp] theorem divI_s (i j:Int)(h:0<j/\j<1073741824):t6 (some (.int i)) (some (.int j))=some (.int (i / j)):=xT (by unfold DZ;exact Zt h)
@[simp] theorem tupO_s (ds:Z8 D)(h:ds.length<=lim):kG (some ds)=some (.tup ds):=by unfold kG;simp only[Z0 h]
@[simp] theorem lstO_s (ds:Z8 D)(h:ds.length<=lim):ce (some ds)=some (.lst ds):=by unfold ce;simp only[Z0 h]
@[simp] theorem lstLim_s (ds:Z8 D):av (some ds)=some (.lst ds):=(rfl)
@[simp] theorem lstL_s (ds:Z8 D):cr (some (.lst ds))=some ds:=(rfl)
@[simp] theorem tupL_s (ds:Z8 D):z0 (some (.tup ds))=some ds:=(rfl)
@[simp] theorem tupleO_l (ds:Z8 D):dF (some (.lst ds))=some (.tup ds):=(rfl)
@[simp] theorem listO_l (ds:Z8 D):iz (some (.lst ds))=some (.lst ds):=(rfl)
@[simp] theorem lenL_l (ds:Z8 D):f9 (some (.lst ds))=some (.int ds.length):=(rfl)
@[simp] theorem lenL_t (ds:Z8 D):f9 (some (.tup ds))=some (.int ds.length):=(rfl)
@[simp] theorem ixO_l (ds:Z8 D)(i:Int):ixO (some (.lst ds)) (some (.int i))=atI ds i:=(rfl)
@[simp] theorem ixO_t (ds:Z8 D)(i:Int):ixO (some (.tup ds)) (some (.int i))=atI ds i:=(rfl)
@[simp] theorem partI_s (i:Int):iM (some (.int i))=some (some i):=(rfl)
@[simp] theorem cutLO_s (ds:Z8 D)(l u:Z9 Int):oW (some (.lst ds)) (some l) (some u)=some (.lst (pX ds l u)):=(rfl)
@[simp] theorem cutSO_s (z:Str)(l u:Z9 Int)(h:z.length<=lim):lf (some (.str z)) (some l) (some u)=some (.str (tZ z l u)):=by unfold lf;simp only[Z0 h]
@[simp] theorem addS_s (x y:Str)(h:x.length+y.length<=lim):xH (some (.str x)) (some (.str y))=some (.str (x++y)):=by unfold xH;simp only[Z0 h]
@[simp] theorem findO_s (x y:Str):uf (some (.str x)) (some (.str y))=some (.int (Txt.find x y)):=(rfl)
@[simp] theorem catO_s (x y:Z8 D)(h:x.length+y.length<=lim):v6 (some (.lst x)) (some (.lst y))=some (.lst (x++y)):=by unfold v6;simp only[Z0 h]
@[simp] theorem notO_s (b:Bool):gR (some b)=some (!b):=(rfl)
@[simp] theorem tyB_s (b:Bool):tyB (some (.bl b))=some b:=(rfl)
@[simp] theorem ofB_s (b:Bool):ofB (some b)=some (.bl b):=(rfl)
@[simp] theorem orO_t (y:Z9 Bool):orO (some true) y=some true:=(rfl)
@[simp] theorem orO_f (y:Z9 Bool):orO (some false) y=y:=(rfl)
@[simp] theorem andO_t (y:Z9 Bool):pD (some true) y=y:=(rfl)
@[simp] theorem andO_f (y:Z9 Bool):pD (some false) y=some false:=(rfl)
@[simp] theorem cI_s (g:Int->Int->Bool)(i j:Int):cI g (some (.int i)) (some (.int j))=some (g i j):=(rfl)
def o6(x y:D)(h:ok2 x y=true):eqO (some x) (some y)=some (decide (x=y)):=by unfold eqO;simp only[Z0 h]
@[simp] theorem eqO_int (i j:Int):eqO (some (.int i)) (some (.int j))=some (decide (i=j)):=by
 rw[o6 _ _ (by rfl)];simp only[D.int.injEq]
def vh(x y:D)(h:ok2 x y=true):neO (some x) (some y)=some (!decide (x=y)):=by unfold neO;rw[o6 _ _ h];rfl
def gx(j:Int)(h: -(2 ^ 62)<=j/\j<2 ^ 62):t7 (some (.int j))=some (g8 0 j.toNat):=by unfold t7;simp only[Zt h,Y2]
def Al(ns:Z8 Int):Ai (some (.lst (ns.map D.int)))=some (.int ns.sum):=by
 have:c6 (ns.map D.int)=some ns:=by
  induction ns with
  |nil=>rfl
  |cons n ns ih=>simp only[Z1,c6,ih]
 unfold Ai;simp only[this]
def eG(d:D)(h:δ[i]?=some (some (.lst ds,true)))(hl:ds.length<lim):gw i (some d) δ=some (.next (δ.set i (some (.lst (ds++[d]),true)))):=by
 unfold gw bB;simp only[h,Z0 hl]
@[simp] theorem rd_0 (m:Bool)(d:D)(δ:DEnv):rd m 0 (some (d,false)::δ)=some d:=(rfl)
@[simp] theorem rd_0o (d:D)(δ:DEnv):rd true 0 (some (d,true)::δ)=some d:=(rfl)
@[simp] theorem rd_1 (m:Bool)(i:Nat)(x:Z9 (D×Bool))(δ:DEnv):rd m (i+1) (x::δ)=rd m i δ:=(rfl)
@[simp] theorem rdOwn_0 (d:D)(δ:DEnv):bB 0 (some (d,true)::δ)=some d:=(rfl)
@[simp] theorem rdOwn_1 (i:Nat)(x:Z9 (D×Bool))(δ:DEnv):bB (i+1) (x::δ)=bB i δ:=(rfl)
@[simp] theorem frzE_0 (d:D)(b:Bool)(δ:DEnv):frzE 0 (some (d,b)::δ)=some (d,false)::δ:=by cases b<;>rfl
@[simp] theorem frzE_1 (i:Nat)(x:Z9 (D×Bool))(δ:DEnv):frzE (i+1) (x::δ)=x::frzE i δ:=by
 unfold frzE;rw[List.getElem?_cons_succ]
 split<;>simp_all
def AT(i:Nat)(d:D)(δ:DEnv):gw i (some d) δ=(match bB i δ with|some (.lst ds)=>if ds.length<lim then some (.next (δ.set i (some (.lst (ds++[d]),true)))) else none|_=>none):=by
 unfold gw;split
 .rename_i e1 e2;obtain rfl:=Z7 e2;rw[e1]
 .rename_i h
  split
  .rename_i ds e;exact absurd rfl (h ds d e)
  .rfl
def Bo(i:Nat)(es:Z8 D)(δ:DEnv):xE i (some (.lst es)) δ=(match bB i δ with|some (.lst ds)=>if ds.length+es.length<=lim then some (.next (δ.set i (some (.lst (ds++es),true)))) else none|_=>none):=by
 unfold xE;split
 .rename_i e1 e2;cases e2;rw[e1]
 .rename_i h
  split
  .rename_i ds e;exact absurd rfl (h ds es e)
  .rfl
def Ar(h:ds.length=np):bZ n np g ds=pC (g (bY n ds)):=by unfold bZ;rw[Z0 h]
def az(hf:f=bZ n np g)(hl:ds.length=np)(hs:bY n ds=δ):f ds=pC (g δ):=by subst hf hs;exact Ar hl
def nG{α:Type}{xs:Z8 α}{i:Int}(h0:0<=i)(h1:i<xs.length):∃v,v∈xs/\xs[i.toNat]?=some v/\atI xs i=some v:=by
 have hi:i.toNat<xs.length:=by lia
 refine⟨xs[i.toNat],XD hi,by simp[hi],?_⟩
 have:=sK (xs:=xs) (j:=i.toNat) (v:=xs[i.toNat]) (by simp[hi])
 rwa[Int.toNat_of_nonneg h0]at this
def qQ{α:Type}{xs:Z8 α}{i:Int}{v:α}(h0:0<=i)(h:xs[i.toNat]?=some v):atI xs i=some v:=by
 have:=sK h;rwa[Int.toNat_of_nonneg h0]at this
theorem fX:∀{ds:Z8 D},(∀d∈ds,h d=some (some (g d)))->bj h ds=some (ds.map g)
 |[],_=>rfl
 |d::ds,e=>by
  unfold bj;rw[e d (ZX ..),fX λx hx=>e x (Z2 _ hx)]
  rfl
theorem cH{h:D->Z9 (Z9 D)}{P:D->D->Prop}:∀{ds:Z8 D},(∀d∈ds,∃y,h d=some (some y)/\P d y)->∃g:Z8 D,bj h ds=some g/\g.length=ds.length/\∀(i:Nat) d,ds[i]?=some d->∃y,g[i]?=some y/\P d y
 |[],_=>⟨[],rfl,rfl,λi d h=>by simp at h⟩
 |d::ds,e=>by
  obtain⟨y,e1,p⟩:=e d (ZX ..);obtain⟨g,e2,hl,hp⟩:=cH λx hx=>e x (Z2 _ hx)
  refine⟨y::g,?_,by simp[hl],λi z hz=>?_⟩
  .unfold bj;rw[e1,e2]
  .cases i with
   |zero=>simp at hz;subst hz;exact⟨y,rfl,p⟩
   |succ i=>simpa using hp i z (by simpa using hz)
def aS(h:ds.length<=lim):b0 bo bs τ ft fe δ ds=bj (aH τ ft fe (aw bo bs δ)) ds:=by unfold b0;rw[Z0 h]
theorem fz(I:Z8 D->DEnv->Prop):∀(post pre:Z8 D)(δ:DEnv),I pre δ->(∀p d q δ,p++d::q=pre++post->I p δ->∃h_,(body d δ=some (.next h_)\/body d δ=some (.cont h_))/\I (p++[d]) h_)->
  ∃h_,ao body post δ=some (.next h_)/\I (pre++post) h_
 |[],pre,δ,h,_=>⟨δ,rfl,by simpa using h⟩
 |d::post,pre,δ,h,st=>by
  obtain⟨t_,e1,i1⟩:=st pre d post δ rfl h;obtain⟨h_,e',i'⟩:=fz I post (pre++[d]) t_ i1 λp d' q δ e i=>st p d' q δ (by simpa using e) i
  refine⟨h_,?_,by simpa using i'⟩
  unfold ao
  rcases e1 with e1|e1<;>rw[e1]<;>exact e'
def cF{lo:Int}(h:d∈g8 lo n):∃i:Nat,i<n/\d=.int (lo+i):=by
 unfold g8 at h;obtain⟨i,hi,e⟩:=ZL.mp h;exact⟨i,Yq.mp hi,e.symm⟩
def aU(lo:Int)(n:Nat):(g8 lo n).length=n:=by unfold g8;simp
def qA:∀(ts:Z8 Str),(Txt.join "" ts).length=(ts.map (·.length)).sum:=by
 intro ts;show(Builtin.Str.glued "" ts).length=_;rw[StrLaws.glued_eq_join]
 induction ts with
 |nil=>rfl
 |cons x r ih=>
  cases r with
  |nil=>show x.length=_;simp
  |cons y r=>
   show(x++("":Str)++Str.join "" (y::r)).length=_;rw[Str.length_append,Str.length_append,ih];have:Str.length ""=0:=by decide +kernel
   simp only[Z1,List.sum_cons]
   lia
def qv{P:D->D->Prop}{ds g:Z8 D}{Q:Str->Prop}(hl:g.length=ds.length)(h:∀(i:Nat) d,ds[i]?=some d->∃y,g[i]?=some y/\P d y)(hP:∀d y,P d y->∃x,y=.str x/\Q x):∃ss:Z8 Str,g=ss.map D.str/\∀x∈ss,Q x:=by
 have hy:∀y∈g,∃x,y=.str x/\Q x:=λy hy=>by
  obtain⟨i,hi,e⟩:=WG.mp hy;obtain⟨z,ez,p⟩:=h i (ds[i]'(by lia)) (by simp[show i<ds.length by lia])
  rw[Y5 hi]at ez
  obtain rfl:=Z7 ez;rw[<-e];exact hP _ _ p
 clear h hl
 induction g with
 |nil=>exact⟨[],rfl,by simp⟩
 |cons y g ih=>
  obtain⟨x,e,q⟩:=hy y (ZX ..);obtain⟨ss,e2,q2⟩:=ih λz hz=>hy z (Z2 _ hz)
  refine⟨x::ss,by rw[e,e2];rfl,λz hz=>?_⟩
  rcases ZZ.mp hz with hz|hz
  .rw[hz];exact q
  .exact q2 z hz
def xV(z:Str)(ys:Z8 Str)(h:(ys.map (·.length)).sum+ys.length*z.length<=16777216):tL (some (.str z)) (some (.lst (ys.map D.str)))=some (.str (Txt.join z ys)):=by
 unfold tL;simp only[kh,Z0 h]
def mK{ss:Z8 Str}(h:∀x∈ss,x.length=1):(ss.map (·.length)).sum=ss.length:=by
 induction ss with
 |nil=>rfl
 |cons x r ih=>
  have h1:=h x (ZX ..);have h2:=ih λy hy=>h y (Z2 _ hy)
  simp only[Z1,List.sum_cons,List.length_cons,h1,h2];lia
def fm(z:Str)(i:Int)(hz:z.length<=lim)(h0:0<=i)(h1:i<z.length):∃x:Str,x.length=1/\t4 (some (.str z)) (some (.int i))=some (.str x):=by
 obtain⟨c,_,_,e⟩:=nG (xs:=z.cps.toList) (i:=i) h0 (by simpa[Str.length]using h1)
 refine⟨⟨#[c]⟩,rfl,?_⟩
 unfold t4;simp only[Z0 hz,e]
end L2
namespace L2
open PySem PySem.Spec PyProof.Rows
variable[Lams]
noncomputable def tY(x:Z9 D)(τ:D->DEnv->Z9 DEnv)(δ:DEnv):Z9 Out:=match x with|some d=>(match τ d δ with|some h_=>some (.next h_)|none=>none)|none=>none
theorem rV(ha:DE X false a fa)(hg:DG X tg τ)(hs:swapsWithSole [tg] a pos.line X.env=pure false:=by rfl)(hw:swappedStores [tg] a X.env=pure none:=by rfl)(h1:(assignEach [tg] X.env).map (·.2)=[assign tg X.env]:=by rfl):
  DS X (.Assign [tg] a pos) (λδ=>tY (fa δ) τ δ):=
 (Bd ha hg hs hw h1).imp λDn σ H hz=>by
  obtain⟨B,Hk,δ,o,R,e,k⟩:=hz;unfold tY at e;dsimp only at e;split at e
  .rename_i d qd
   split at e
   .rename_i h_ QI
    obtain rfl:=Z7 e;refine⟨B,Hk,δ,d,R,qd,λv H1 s1 r1=>?_⟩
    exact⟨B,Hk,δ,d,h_,R.to s1,r1,QI,λj_ R'=>k j_ H1 (s1.ext R.borH) R'⟩
   .trivial
  .trivial
@[simp] theorem unpO_s (d:D)(τ:D->DEnv->Z9 DEnv)(δ:DEnv):tY (some d) τ δ=ae (τ d δ) λh_=>some (.next h_):=by
 unfold tY ae;dsimp only;cases τ d δ<;>rfl
noncomputable def cY(t:DEnv->Z9 Bool)(b:DEnv->Z9 Out):Nat->DEnv->Z9 Out
 |0,_=>none
 |n+1,δ=>match t δ with
  |none=>none
  |some false=>some (.next δ)
  |some true=>match b δ with
   |some (.next h_)=>cY t b n h_
   |some (.cont h_)=>cY t b n h_
   |some (.brk h_)=>some (.next h_)
   |some (.ret e fr)=>some (.ret e fr)
   |none=>none
section
variable{X:Cx}{c a b:Expr}{body:Z8 Stmt}{ft:DEnv->Z9 Bool}{gb:DEnv->Z9 Out}{pos:Pos}{fa fb:DEnv->Z9 D}{m:Bool}
theorem mP(n:Nat)(hp:PassesOwn (model X.prog X.w) X.A X.env X.xe)(hc:DT X c ft)(hb:DSs X body gb):DS X (.While c body [] pos) (λδ=>cY ft gb n δ):=
 (uM hp hc hb).imp λDn σ H hz=>by
  obtain⟨B,Hk,δ,o,R,e,k⟩:=hz;refine⟨λj j_ H'=>∃h_,Ext B H H'/\Rel X.K B Hk h_ j_ H'/\cY ft gb j h_=some o,⟨n,δ,Ext.refl,R,e⟩,?_⟩
  rintro j II H1 ⟨t_,x1,R1,e1⟩
  cases j with
  |zero=>trivial
  |succ j=>
   unfold cY at e1;cases q:ft t_ with
   |none=>rw[q]at e1;trivial
   |some t=>
    refine⟨B,Hk,t_,t,R1,q,λH2 s2=>?_⟩
    rw[q]at e1;have x2:=x1.trans (R1.ext s2);have R2:=R1.to s2;cases t with
    |false=>
     obtain rfl:=Z7 e1;rw[ZY Zn];exact k II H2 x2 R2
    |true=>
     rw[Z0 rfl];simp only at e1;cases q2:gb t_ with
     |none=>rw[q2]at e1;trivial
     |some o1=>
      rw[q2]at e1;refine⟨λj_ H'=>∃h_,Ext B H H'/\Rel X.K B Hk h_ j_ H'/\cY ft gb j h_=some o,λj_ H' z=>⟨j,Yr j,z⟩,B,Hk,t_,o1,R2,q2,?_⟩
      cases o1 with
      |next IJ=>exact λJv H4 x4 R4=>⟨IJ,x2.trans x4,R4,e1⟩
      |cont IJ=>exact λJv H4 x4 R4=>⟨IJ,x2.trans x4,R4,e1⟩
      |brk IJ=>simp only at e1;obtain rfl:=Z7 e1;exact λJv H4 x4 R4=>k Jv H4 (x2.trans x4) R4
      |ret d fr=>simp only at e1;obtain rfl:=Z7 e1;exact λv4 H4 x4 R4=>k v4 H4 (x2.trans x4) R4
noncomputable def t5(x:Z9 D):Z9 Bool:=match x with
 |some .non=>some false
 |some (.bl b)=>some b
 |some (.int i)=>some (i != 0)
 |some (.str y)=>if y.length<=lim then some ((y.length:Int) != 0) else none
 |some (.lst ds)=>some (!ds.isEmpty)
 |some (.tup ds)=>some (!ds.isEmpty)
 |_=>none
def Reps.empty{K:Z6}{B:ZN->Prop}{H:Hp}{ds:Z8 D}{xs:Z8 V}(r:Reps K B H ds xs):ds.isEmpty=xs.isEmpty:=by
 have:=r.length;cases ds<;>cases xs<;>simp at this<;>rfl
theorem xu(ha:DE X m a fa)(he:∀whole,isTrue a X.env whole=(do let v <-whole;standAt a.pos;holding [v] (truthy v)):=by intro _;rfl):DT X a (λδ=>t5 (fa δ)):=
 (mO ha he).imp λσ H Q hz=>by
  obtain⟨B,Hk,δ,d,R,e,k⟩:=hz;dsimp only at e;cases q:fa δ with
  |none=>rw[q]at e;trivial
  |some z=>
   rw[q]at e;refine⟨B,Hk,δ,z,R,q,λv H' s r=>⟨d,?_,k H' s⟩⟩
   cases z with
   |non=>simp only[Rep]at r;subst r;simp only[t5]at e;obtain rfl:=Z7 e;rfl
   |bl b=>simp only[Rep]at r;subst r;simp only[t5]at e;obtain rfl:=Z7 e;rfl
   |int i=>simp only[Rep]at r;subst r;simp only[t5]at e;obtain rfl:=Z7 e;rfl
   |str y=>
    simp only[Rep]at r;subst r;simp only[t5]at e
    by_cases hl:y.length<=lim
    .rw[Z0 hl]at e;obtain rfl:=Z7 e;exact⟨aB hl,rfl⟩
    .rw[ZY hl]at e;trivial
   |lst ds=>
    simp only[Rep]at r;obtain⟨p,xs,rfl,hq,rs⟩:=r;simp only[t5]at e;obtain rfl:=Z7 e;exact .inl ⟨xs,hq.sq,by rw[rs.empty]⟩
   |tup ds=>
    simp only[Rep]at r;obtain⟨p,xs,rfl,hq,rs⟩:=r;simp only[t5]at e;obtain rfl:=Z7 e;exact .inr (.inl ⟨xs,SqT.of hq,by rw[rs.empty]⟩)
   |dK ks vs=>simp only[t5]at e;trivial
   |dD ks vs=>simp only[t5]at e;trivial
def pT(x:Z9 D):Z9 Bool:=match x with|some d=>some (decide (d=.non))|none=>none
theorem Rep.non{K:Z6}{B:ZN->Prop}{H:Hp}{d:D}{v:V}(r:Rep K B H d v):(v=.non)=(d=.non):=by
 cases d
 all_goals simp only[Rep]at r
 case non=>simp[r]
 all_goals first
  |(subst r;simp)
  |(obtain⟨p,xs,rfl,_⟩:=r;simp)
def zp{K:Z6}{B:ZN->Prop}{H:Hp}{d:D}{v:V}(r:Rep K B H d v):decide (v=.non)=decide (d=.non):=by
 by_cases h:d=.non
 .rw[Zt h,Zt (by rw[r.non];exact h)]
 .rw[ZC h,ZC (by rw[r.non];exact h)]
def sf{c:Bool}(h:pT x=some c):∃d,x=some d/\c=decide (d=.non):=by
 unfold pT at h;split at h
 .obtain rfl:=Z7 h;exact⟨_,rfl,rfl⟩
 .trivial
theorem zg{tk:Nat}{p:Pos}(ha:DE X m a fa)(hm:behindInMarks .IsNot (.Constant .none tk p)=false:=by rfl):DT X (.Compare a [.IsNot] [.Constant .none tk p] pos) (λδ=>gR (pT (fa δ))):=
 (c8 yE ha (nI (m:=false)) hm).imp λσ H Q hz=>by
  obtain⟨B,Hk,δ,d,R,e,k⟩:=hz;cases h:pT (fa δ)with
  |none=>simp only[h,gR]at e;trivial
  |some c=>
   simp only[h,gR]at e;obtain rfl:=Z7 e;obtain⟨z,q,rfl⟩:=sf h;refine two (fb:=λ_=>some .non) R q rfl λv u H' s R' r1 r2=>?_
   simp only[Rep]at r2;exact⟨r2,_,rfl,by rw[zp r1];exact k H' s⟩
end
noncomputable def Ite(K:Z6)(p:ZN):It:=
 ⟨λi H=>∃xs x,SqL K H p xs/\xs[i]?=some x,
  λi H v H'=>∃T x,H T=none/\v=.ref T/\H'=upd H T (.tup [.int i,x])/\∀xs,SqL K H p xs->xs[i]?=some x,
  λi H=>∃xs,SqL K H p xs/\xs.length<=i⟩
structure En (h:Heap)(e c p:ZN)(n:Nat):Prop where
 ee:∃old,IsEnum h e c n old
 cc:h.IsListIter c p n
def xP{x1}(he:IsEnumOut s.heap e c i x T)(hQ:∀h',IsEnum h' e c i x->Heap.SameBut e s.heap h'->Q () {s with heap:=h'}):wpAny (model prog w) A (letOwnedTupleGo (.Tuple elts x1 pos) (.ref e) (.ref T)) Q E s:=by
 unfold letOwnedTupleGo;refine Z_ (wpAny_load he ?_)
 change wpAny _ _ (if(["enumerate","zip","dict_itemiterator","dict_reverseitemiterator","odict_iterator","itertools.zip_longest","itertools.pairwise"].contains "enumerate"&&(#[rawInt T,.bool false,.ref c,rawInt i,.none,x]:Array Z3)[0]?==some (rawInt T))=true then _ else _) Q E s
 rw[Z0 (by simp)]
 refine Z_ (YV (Ye he (by simp) λh' g' m'=>hQ h' g' m'))
def qR{P:Y1}{w:YO}{K:Z6}{elts:Z8 Expr}{x1}{pos:Pos}{e c p:ZN}(ne:e≠c):
  Turn P w K (.Tuple elts x1 pos) (Ite K p) [e,c] e (λn h=>En h e c p n) where
 mem:=by simp
 obj:=λi h st b hb=>by
  obtain⟨⟨old,ee⟩,cc⟩:=st;simp only[ZZ,Zu,YQ]at hb
  rcases hb with rfl|rfl
  .exact⟨_,ee,λv e=>by cases e⟩
  .obtain⟨o,g,_,hd⟩:=cc;exact⟨o,g,λv e'=>by rw[hd]at e';cases e'⟩
 keep:=λi h h' st k=>by
  obtain⟨⟨old,ee⟩,cc⟩:=st;exact⟨⟨old,k e (by simp) _ ee⟩,cc.at λo g=>k c (by simp) o g⟩
 item:=by
  intro X hP hw hK hc i a_ s σ H E I hf st hg;subst hP hw hK;obtain⟨xs,x,h1,hx⟩:=hg;obtain⟨is,ri,sp,_⟩:=I.list h1;obtain⟨ux,e1,r1⟩:=ri.get hx;obtain⟨⟨old,ee⟩,cc⟩:=st;refine wpAny_pyNext_enum_item ee cc sp.isList (x:=ux) (by simpa using e1) ne λh' out SR new sz k=>⟨_,rfl,?_⟩
  have hT:H s.heap.objs.size=none:=I.hok.fresh (ZQ _);have nT:∀b∈[e,c],b≠s.heap.objs.size:=λb hb q=>by
   simp only[ZZ,Zu,YQ]at hb
   rcases hb with rfl|rfl
   .rw[q]at ee;exact absurd (ZT ee) (Zd _)
   .obtain⟨o,g,_⟩:=cc;rw[q]at g;exact absurd (ZT g) (Zd _)
  have I1:Inv X a_ σ (upd H s.heap.objs.size (.tup [.int i,x])) {s with heap:=h',toks:=s.toks+1}:=I.turnLay (fp:=[e,c]) (λb o hb q=>k b o (λz=>hb (by simp[z])) (λz=>hb (by simp[z])) q) hf (ZQ _)
   ⟨by show 2<=sizeLine;decide,[.int i s.toks,ux],.cons ⟨_,rfl⟩ (.cons r1 .nil),⟨_,new,rfl,_,rfl⟩⟩
  refine xP (s:={s with heap:=h',toks:=s.toks+1}) out λg2 e2 m2=>?_
  have hz:=hf e (by simp)
  refine⟨.ref s.heap.objs.size,upd H s.heap.objs.size (.tup [.int i,x]),I1.turned (t':=s.toks+1) (λb o hb q=>ag m2 hb q) (by rw[ai (nT e (by simp))];exact hz.1) hz.2.1 hz.2.2.2.1 hz.2.2.2.2.1 hz.2.2.2.2.2,rfl,
   ⟨s.heap.objs.size,x,hT,rfl,rfl,λxs' h=>by rw[I.list_inj h h1];exact hx⟩,⟨⟨_,e2⟩,SR.at λo g=>ag m2 (ZD ne) g⟩,λb hb=>by rw[ai (nT b hb)];exact(hf b hb).1⟩
 done:=by
  intro X hP hw hK hc i a_ s σ H E I hf st hg;subst hP hw hK;obtain⟨xs,h1,hl⟩:=hg;obtain⟨is,ri,sp,_⟩:=I.list h1;have l1:=ri.length;obtain⟨⟨old,ee⟩,cc⟩:=st;exact wpAny_pyNext_enum_end (I.ok.hd hc) ee cc sp.isList (by simp;lia) λh' k=>⟨rfl,I.turns (t':=s.toks) (fp:=[e,c]) (λb o hb q=>k b o (λz=>hb (by simp[z])) q) hf⟩
 self:=λ_ _ _ _ _ st h=>by obtain⟨⟨old,ee⟩,cc⟩:=st;exact wpAny_pyIter_enum ee h
noncomputable def enL(h:Heap)(p:ZN):Heap:=(h.push (itO false p)).push {cls:=.type "enumerate",data:=.fields #[.none,.bool false,.ref h.objs.size,rawInt 0,.none,.none]}
def vP(p:ZN)(xs:Array Z3):Meets (Builtin.«enumerate.__new__» ⟨[.type "enumerate",.ref p],[]⟩) (λ_ R s=>SqAt false s.heap p xs/\R (.ok (.ret (.ref (s.heap.push (itO false p)).objs.size))) {s with heap:=enL s.heap p}):=
 .of_wp λprog w A R s h=>by
  obtain⟨hp,g,d,tk,os⟩:=s;obtain⟨h1,h⟩:=h;have HZ:=sub_enumerate;have k1:SqAt false (Shared.heap ⟨hp,g,d,tk,os⟩) p xs:=h1
  wp_walk using dI k1
  refine wpAny_stack_any λst=>Z4 ?_
  split
  .rename_i c0 _ _ _ _ _
   cases (c0==Value.type "enumerate")<;>(wp_walk using dI k1;exact⟨_,rfl,h⟩)
  .wp_walk using dI k1
   exact⟨_,rfl,h⟩
def pK(hp:SqAt false s.heap p xs)(h:∀h',IsEnum h' (s.heap.objs.size+1) s.heap.objs.size 0 .none->h'.IsListIter s.heap.objs.size p 0->(∀b o,s.heap.get? b=some o->h'.get? b=some o)->Q (.ref (s.heap.objs.size+1)) {s with heap:=h'}):
  wpAny (model prog w) A (call (.type "enumerate") [.ref p]) Q E s:=by
 refine callType_new F.called_enumerate (by decide) (F.typeCall_enumerate_1 _) (F.newCall_enumerate_1 _) (λobj=>F.args_object_init_2 obj _) F.entry_enumerate_new (vP p xs) ⟨hp,?_⟩
 have s1:(s.heap.push (itO false p)).objs.size=s.heap.objs.size+1:=YM ..;have e5:(enL s.heap p).get? (s.heap.push (itO false p)).objs.size=some {cls:=.type "enumerate",data:=.fields #[.none,.bool false,.ref s.heap.objs.size,rawInt 0,.none,.none]}:=ZK _ rfl
 have c5:(enL s.heap p).get? s.heap.objs.size=some (itO false p):=Z5 _ (ZK _ rfl)
 rw[s1]at e5;refine⟨⟨_,by rw[s1];exact e5,rfl⟩,?_⟩
 rw[s1];exact h _ e5 ⟨_,c5,rfl,rfl⟩ λb o e=>Z5 _ (Z5 _ e)
section
variable{p:Pos}
def Du(K:Z6)(ta:TA):TI:=λσ H R=>ta σ H λvs H1=>∃p,vs=[.ref p]/\(∃xs,SqL K H1 p xs)/\R (Ite K p) H1
def zu{ta:TA}(hg:Gl X "enumerate")(hm:X.mg "enumerate"=none)(ha:PA X [a] ta)(hs:starEach [a] X.env=[(false,eval a X.env)]:=by rfl):
  PI X (.Tuple elts x1 tp) (.Call (.Name "enumerate" p) [a] [] pos) (Du X.K ta):=by
 intro a_ s σ H R I h;refine Call_ (dG I hg hm boot_enumerate (Yw (thn (ha pos a_ s σ H _ I h) λus s1 ⟨vs,H1,I1,r1,q1⟩=>?_) hs rfl))
 obtain⟨l1,e,⟨xs,h1⟩,q⟩:=q1;subst e;cases r1 with
 |cons r rr=>
  cases rr;cases r;obtain⟨is,ri,sp,_⟩:=I1.list h1;refine pK (p:=l1) sp.isList λh' ee cc k=>?_
  have I2:Inv X a_ σ H1 {s1 with heap:=h'}:=I1.kept (t':=s1.toks) k
  refine wpAny_pyIter_enum (s:={s1 with heap:=h'}) ee ⟨s1.heap.objs.size+1,[s1.heap.objs.size+1,s1.heap.objs.size],_,_,H1,rfl,I2,qR (Nat.ne_of_gt (Yr _)),⟨⟨_,ee⟩,cc⟩,λb hb=>?_,q⟩
  have Gj:s1.heap.objs.size<=b:=by
   simp only[ZZ,Zu,YQ]at hb
   rcases hb with rfl|rfl
   .exact Xj _
   .exact ZQ _
  obtain⟨f0,f1,f2,f3,f4,f5⟩:=I1.fpOk Gj (I1.hok.fresh Gj);exact⟨f0,f1,f2,f3,f4,f5⟩
def gg(i:Nat):Z8 D->Z8 D
 |[]=>[]
 |d::ds=>.tup [.int i,d]::gg (i+1) ds
theorem ki:∀(ds:Z8 D)(j i:Nat)(x:D),(gg j ds)[i]?=some x->∃d,ds[i]?=some d/\x=.tup [.int ((j+i:Nat):Int),d]
 |[],j,i,x,h=>by simp[gg]at h
 |d::ds,j,0,x,h=>by simp[gg]at h;exact⟨d,rfl,by rw[<-h];simp⟩
 |d::ds,j,i+1,x,h=>by
  simp[gg]at h;obtain⟨e,h1,h2⟩:=ki ds (j+1) i x h;exact⟨e,by simpa using h1,by rw[h2,show j+1+i=j+(i+1) by lia]⟩
theorem jP:∀(j:Nat)(ds:Z8 D),(gg j ds).length=ds.length
 |_,[]=>rfl
 |j,d::ds=>by simp[gg,jP (j+1) ds]
def vV(x:Z9 D):Z9 (Z8 D):=match x with|some (.lst ds)=>some (gg 0 ds)|_=>none
theorem xL(g:Gl X "enumerate")(hm:X.mg "enumerate"=none)(h:DE X m a fa)(hs:starEach [a] X.env=[(false,eval a X.env)]:=by rfl):
  DI X m (.Tuple elts x1 tp) (.Call (.Name "enumerate" p) [a] [] pos) (λδ=>vV (fa δ)):=
 (zu g hm (aq h aI hs) hs).imp λσ H Q hz=>by
  obtain⟨B,Hk,δ,ds,R,e,k⟩:=hz;dsimp only at e;unfold vV at e;split at e
  .rename_i as q1
   obtain rfl:=Z7 e;refine pq R q1 λv H' s R' r1=>?_
   simp only[Rep]at r1;obtain⟨l1,xs,rfl,hq,rs⟩:=r1;refine⟨l1,rfl,⟨xs,hq.sq⟩,k _ H' s λH2 x=>?_⟩
   have hx:=(hq.ext x).sq;have rx:=rs.ext x;refine⟨⟨xs,hx,by rw[jP,rx.length];exact ZQ _⟩,λi d hd=>?_⟩
   obtain⟨d1,g1,rfl⟩:=ki _ _ _ _ hd;obtain⟨y1,w1,z1⟩:=rx.get g1;refine⟨⟨xs,y1,hx,w1⟩,λv H3 ⟨T,v1,hT,ev,e3,n1⟩=>?_⟩
   have:=n1 xs hx;rw[w1]at this;obtain rfl:=Z7 this;have sm:Same H2 (upd H2 T (.tup [.int i,y1])):=au hT;have bo:∀a,bb m B δ σ a->∃o:HOn,H2 a=some o.1:=λa ha=>by
    obtain⟨o,ho⟩:=R'.bsH m a ha;exact⟨o,(x.lent a ha).trans ho⟩
   have ex:=sm.ext bo;rw[e3,ev];refine⟨sm,?_⟩
   simp only[Rep];refine⟨T,[.int i,y1],rfl,ah,Reps.cons ?_ (Reps.cons (z1.ext ex) Reps.nil)⟩
   simp only[Rep,XT]
  .trivial
end
mutual
theorem KR.raw(ok:HOk P w H h):∀{d:D}{v:V}{u:Z3},KR H d v->RelV v u->RH h d u
 |.int i,v,u,r,q=>by simp only[KR]at r;subst r;obtain⟨t,rfl⟩:=q;simp only[RH];exact⟨t,rfl⟩
 |.str i,v,u,r,q=>by simp only[KR]at r;subst r;obtain⟨t,rfl⟩:=q;simp only[RH];exact⟨t,rfl⟩
 |.tup ds,v,u,r,q=>by
  simp only[KR]at r;obtain⟨a,xs,rfl,g,rs⟩:=r;cases q;obtain⟨_,its,rv,ht⟩:=(show ObjOk P w H h a (.tup xs) from ok a _ g)
  simp only[RH];exact⟨a,its,rfl,ht,KRs.raw ok rs rv⟩
 |.non,v,u,r,_=>by simp only[KR]at r
 |.bl _,v,u,r,_=>by simp only[KR]at r
 |.lst _,v,u,r,_=>by simp only[KR]at r
 |.dK _ _,v,u,r,_=>by simp only[KR]at r
 |.dD _ _,v,u,r,_=>by simp only[KR]at r
theorem KRs.raw(ok:HOk P w H h):∀{ds:Z8 D}{xs:Z8 V}{us:Z8 Z3},KRs H ds xs->Vals xs us->RHs h ds us
 |[],xs,us,r,q=>by simp only[KRs]at r;subst r;cases q;simp only[RHs]
 |d::ds,xs,us,r,q=>by
  simp only[KRs]at r;obtain⟨x,t,rfl,r1,r2⟩:=r;cases q with
  |cons q1 q2=>simp only[RHs];exact⟨_,_,rfl,KR.raw ok r1 q1,KRs.raw ok r2 q2⟩
end
mutual
theorem Rep.key{K:Z6}{B:ZN->Prop}{H:Hp}:∀{n:Nat}{d:D}{v:V},bP n d=true->Rep K B H d v->KR H d v
 |n,.int i,v,_,r=>by simp only[Rep]at r;simp only[KR];exact r
 |n,.str i,v,_,r=>by simp only[Rep]at r;simp only[KR];exact r
 |n,.tup ds,v,h,r=>by
  simp only[Rep]at r;obtain⟨a,xs,rfl,g,rs⟩:=r;obtain⟨k,_,hd⟩:=du h;simp only[KR];exact⟨a,xs,rfl,g,Reps.key hd rs⟩
 |n,.non,v,h,_=>by cases n<;>simp[bP]at h
 |n,.bl _,v,h,_=>by cases n<;>simp[bP]at h
 |n,.lst _,v,h,_=>by cases n<;>simp[bP]at h
 |n,.dK _ _,v,h,_=>by cases n<;>simp[bP]at h
 |n,.dD _ _,v,h,_=>by cases n<;>simp[bP]at h
theorem Reps.key{K:Z6}{B:ZN->Prop}{H:Hp}:∀{n:Nat}{ds:Z8 D}{xs:Z8 V},ds.all (bP n)=true->Reps K B H ds xs->KRs H ds xs
 |n,[],xs,_,r=>by simp only[Reps]at r;simp only[KRs];exact r
 |n,d::ds,xs,h,r=>by
  rw[List.all_cons,ZH]at h;simp only[Reps]at r;obtain⟨x,t,rfl,r1,r2⟩:=r;simp only[KRs];exact⟨x,t,rfl,Rep.key h.1 r1,Reps.key h.2 r2⟩
end
mutual
theorem KR.rep{K:Z6}{B:ZN->Prop}{H:Hp}:∀{d:D}{v:V},KR H d v->Rep K B H d v
 |.int i,v,r=>by simp only[KR]at r;simp only[Rep];exact r
 |.str i,v,r=>by simp only[KR]at r;simp only[Rep];exact r
 |.tup ds,v,r=>by
  simp only[KR]at r;obtain⟨a,xs,rfl,g,rs⟩:=r;simp only[Rep];exact⟨a,xs,rfl,g,KRs.rep rs⟩
 |.non,v,r=>by simp only[KR]at r
 |.bl _,v,r=>by simp only[KR]at r
 |.lst _,v,r=>by simp only[KR]at r
 |.dK _ _,v,r=>by simp only[KR]at r
 |.dD _ _,v,r=>by simp only[KR]at r
theorem KRs.rep{K:Z6}{B:ZN->Prop}{H:Hp}:∀{ds:Z8 D}{xs:Z8 V},KRs H ds xs->Reps K B H ds xs
 |[],xs,r=>by simp only[KRs]at r;simp only[Reps];exact r
 |d::ds,xs,r=>by
  simp only[KRs]at r;obtain⟨x,t,rfl,r1,r2⟩:=r;simp only[Reps];exact⟨x,t,rfl,KR.rep r1,KRs.rep r2⟩
end
def DPairs.val(r:DPairs H b_ xs)(k:D):RelO (d6 b_ k) ((atKey xs k).map (·.2)):=by
 induction r with
 |nil=>exact True.intro
 | @cons p q ps qs h t ih=>
  by_cases e:p.1=k
  .rw[bG e,show atKey (q::qs) k=some q.2 by simp[atKey,List.find?_cons,h.1.symm.trans e]]
   exact h.2.2.2
  .have e':¬q.1=k:=λz=>e (h.1.trans z)
   rw[bE e,show atKey (q::qs) k=atKey qs k by simp[atKey,List.find?_cons,e']]
   exact ih
def DPairs.repl(r:DPairs H b_ xs)(k:D)(ry:RelV y u):DPairs H (b_.map λkv=>if kv.1=k then(kv.1,y) else kv) (xs.map (putAt k u)):=by
 induction r with
 |nil=>exact .nil
 | @cons p q ps qs h t ih=>
  refine .cons ?_ ih
  dsimp only
  by_cases e:p.1=k
  .rw[Z0 e,putAt,Z0 (h.1.symm.trans e)];exact⟨h.1,h.2.1,h.2.2.1,ry⟩
  .rw[ZY e,putAt,ZY λz=>e (h.1.trans z)];exact h
def DPairs.put(r:DPairs H b_ xs)(k:D)(hk:bP 8 k=true)(hb:KR H k (.ref b))(ry:RelV y u):DPairs H (d7 b_ k y) (storedH xs k b u):=by
 have e:(b_.any λkv=>decide (kv.1=k))=(atKey xs k).isSome:=by rw[dr,(r.val k).isSome_eq,Option.isSome_map]
 unfold d7 storedH;rw[e]
 by_cases q:(atKey xs k).isSome=true
 .rw[Z0 q,Z0 q];exact r.repl k ry
 .rw[ZY q,ZY q];exact Paired.snoc r ⟨rfl,hk,hb,ry⟩
section
variable{h:Heap}
def lF(ok:HOk P w H h)(e:Rd H a (.dD b_ ep)):b_.length<=sizeLine/\(a==sysModules)=false/\∃xs,DPairs H b_ xs/\h.DictOfH (br P w) a xs:=by
 obtain⟨z,y,xs,r,o,es,h1,h2,h3,h4,h5⟩:=(show ObjOk P w H h a (.dD b_ ep) from nR ok e)
 refine⟨z,y,xs,r,o,es,ep,h1,h2,h3,h4,?_,h5⟩
 have all:∀{l:Z8 (D×V)}{m:Z8 (D×ZN×Z3)},DPairs H l m->∀x∈m,(br P w).is h x.1 x.2.1:=by
  intro l m q
  induction q with
  |nil=>intro x hx;exact nomatch hx
  | @cons p q ps qs hq t ih=>
   intro x hx
   rcases ZZ.mp hx with rfl|hx
   .exact⟨by rw[<-hq.1];exact hq.2.1,by rw[<-hq.1];exact KR.raw ok hq.2.2.1 rfl⟩
   .exact ih x hx
 exact all r
def vS(hb:sysModules<h.objs.size):ObjOk P w H (h.push {cls:=.type "dict",data:=.dict #[]}) h.objs.size (.dD [] 0):=
 ⟨Zs _,by simpa using Nat.ne_of_gt hb,[],.nil,_,#[],ZK _ rfl,⟨rfl,rfl,rfl⟩,rfl,rfl,YX⟩
end
section
variable{A:Za}
def de(I:Inv X a_ σ H s)(hk:bP 8 k=true)(kb:KR H k (.ref b)):(br X.prog X.w).is s.heap k b:=⟨hk,KR.raw I.hok kb rfl⟩
def oZ(hu:A.units+40<cLine)(I:Inv X a_ σ H s)(e:Rd H a (.dD b_ ep))(hk:bP 8 k=true)(kb:KR H k (.ref b))(l:d6 b_ k=some v)(h:∀w' s',Inv X a_ σ H s'->RelV v w'->Q w' s'):
  wpAny (model X.prog X.w) A (getItem (.ref a) (.ref b)) Q E s:=by
 obtain⟨z,hd,xs,rel,dd⟩:=lF I.hok e;obtain⟨w',hw,E_⟩:=RelO.some_of (v:=v) (o:=(atKey xs k).map (·.2)) (by rw[<-l];exact rel.val k)
 obtain⟨p,hp,HH⟩:=Xr.mp hw;refine wpAny_getItem_heap (knd:=br X.prog X.w) (by show A.units+1+30<cLine;lia) (de I hk kb) dd hp ?_
 rw[HH];exact h w' _ (I.tok _) E_
def oz(hu:A.units+40<cLine)(I:Inv X a_ σ H s)(e:H a=some (.dD b_ ep))(hk:bP 8 k=true)(kb:KR H k (.ref b))(l:b_.length<sizeLine)(rv:RelV v r)(h:∀FX s',Inv X a_ σ (upd H a (.dD (d7 b_ k v) FX)) s'->Q () s'):
  wpAny (model X.prog X.w) A (setItem (.ref a) (.ref b) r) Q E s:=by
 obtain⟨z,hd,xs,rel,dd⟩:=lF I.hok (.inl e);have hl:(d7 b_ k v).length<=sizeLine:=by have:=bU b_ k v;lia
 refine wpAny_setItem_heap (knd:=br X.prog X.w) (hsz:=by rw[<-Yo rel];exact z) (by show A.units+1+30<cLine;lia) (de I hk kb) dd λh' HU hs=>?_
 obtain⟨q,es,FX,hq,h2,h3,h4,_,h5⟩:=HU;refine h FX _ (i8 I (by rw[e];exact True.intro) hs ⟨q,hq⟩ ⟨hl,hd,_,Paired.mapP (rel.put k hk kb rv) λp q z=>⟨z.1,z.2.1,KR.to (λc ys ec=>?_) z.2.2.1,z.2.2.2⟩,q,es,hq,h2,h3,h4,h5⟩)
 rw[ai (B7 ec e (λz=>nomatch z))]
 exact ec
end
def Rel.oset{K:Z6}{B:ZN->Prop}{Hk H:Hp}{δ:DEnv}{σ:St}{i:Nat}{d d':D}{l:ZN}{o:HO}(R:Rel K B Hk δ σ H)(h:δ[i]?=some (some (d,true)))(hl:σ[i]?=some (some (.ref l)))(new:Ext B H (upd H l o)->ObR K B (upd H l o) d' l):
  Ext B H (upd H l o)/\Rel K B Hk (δ.set i (some (d',true))) σ (upd H l o):=by
 obtain⟨a,e1,e2,ob⟩:=R.own i _ h;rw[hl]at e1;cases e1;obtain⟨u,hx,mu⟩:=ob.mut;have hb:¬B l:=λz=>by obtain⟨o,q⟩:=R.bor l z;rw[e2]at q;trivial
 have ex:Ext B H (upd H l o):=bx hx mu hb;have s_:i<δ.length:=(ZV.mp h).1
 have Oy:∀j e,(δ.set i (some (d',true)))[j]?=some (some (e,true))->∃e',δ[j]?=some (some (e',true)):=λj e q=>by
  by_cases hj:j=i
  .subst hj;exact⟨_,h⟩
  .rw[ZW (ZD hj)]at q;exact⟨_,q⟩
 refine⟨ex,⟨R.same.put e2,R.bor,by simpa using R.len,λj e q=>?_,λj e q=>?_,λj k e f q Hb h1 h2 h3 h4=>?_⟩⟩
 .by_cases hj:j=i
  .subst hj
   rw[ZR s_]at q
   cases q
  .rw[ZW (ZD hj)]at q
   obtain⟨v,q1,q2⟩:=R.var j e q;exact⟨v,q1,q2.ext ex⟩
 .by_cases hj:j=i
  .subst hj
   rw[ZR s_]at q
   cases q;exact⟨l,hl,e2,new ex⟩
  .rw[ZW (ZD hj)]at q
   obtain⟨c,q1,q2,q3⟩:=R.own j e q;have hc:c≠l:=λz=>by subst z;exact R.dis j i e _ c hj q h q1 hl
   exact⟨c,q1,q2,q3.ext ex λo q _=>by rw[ai hc];exact q⟩
 .obtain⟨e',z1⟩:=Oy j e h1
  obtain⟨f',z2⟩:=Oy k f h2;exact R.dis j k e' f' q Hb z1 z2 h3 h4
def vn:D->Bool
 |.tup _=>true
 |_=>false
def ca{κ:Type}[DecidableEq κ](k:κ):Z8 κ->Z8 D->Z9 D
 |x::ks,d::ds=>if x=k then some d else ca k ks ds
 |_,_=>none
def n9{κ:Type}[DecidableEq κ](k:κ)(v:D):Z8 κ->Z8 D->Z8 D
 |x::ks,d::ds=>(if x=k then v else d)::n9 k v ks ds
 |_,_=>[]
def zZ{κ:Type}[DecidableEq κ](k:κ)(v:D)(ks:Z8 κ)(ds:Z8 D):Z8 D:=if k∈ks then n9 k v ks ds else ds++[v]
def l8{κ:Type}[DecidableEq κ](k:κ)(ks:Z8 κ):Z8 κ:=if k∈ks then ks else ks++[k]
section
variable{K:Z6}{B:ZN->Prop}{H:Hp}{κ:Type}[DecidableEq κ]
theorem cE(k:κ):∀{b_:Z8 (κ×V)}{ds:Z8 D},Reps K B H ds (b_.map (·.2))->(ca k (b_.map (·.1)) ds=none->d6 b_ k=none)/\∀d,ca k (b_.map (·.1)) ds=some d->∃v,d6 b_ k=some v/\Rep K B H d v
 |[],ds,r=>⟨λ_=>rfl,λd h=>by cases ds<;>simp[ca]at h⟩
 |p::b_,ds,r=>by
  cases ds with
  |nil=>simp only[Z1,Reps]at r;trivial
  |cons d ds=>
   rw[Z1]at r;obtain⟨r1,r2⟩:=r.uncons;rw[Z1];unfold ca
   by_cases e:p.1=k
   .rw[Z0 e]
    exact⟨λz=>(by trivial),λd2 z=>(by obtain rfl:=Z7 z;exact⟨p.2,bG e,r1⟩)⟩
   .rw[ZY e,bE e]
    exact cE k r2
def sE(k:κ)(b_:Z8 (κ×V)):(b_.any λkv=>decide (kv.1=k))=decide (k∈b_.map (·.1)):=by
 rw[YG,X0,Y9,ZL];constructor
 .rintro⟨x,h1,h2⟩;exact⟨x,h1,Zf h2⟩
 .rintro⟨x,h1,h2⟩;exact⟨x,h1,Zt h2⟩
def ff(k:κ)(v:V)(b_:Z8 (κ×V)):(d7 b_ k v).map (·.1)=l8 k (b_.map (·.1)):=by
 unfold d7 l8;rw[sE]
 by_cases hk:k∈b_.map (·.1)
 .rw[Zt hk,Z0 rfl,Z0 hk,Xe]
  refine YB λx _=>?_
  simp only[Function.comp];split<;>rfl
 .rw[ZC hk,ZY Zn,ZY hk]
  simp
theorem jm(r:Rep K B H d v)(k:κ):∀{b_:Z8 (κ×V)}{ds:Z8 D},Reps K B H ds (b_.map (·.2))->Reps K B H (n9 k d (b_.map (·.1)) ds) ((b_.map λkv=>if kv.1=k then(kv.1,v) else kv).map (·.2))
 |[],ds,q=>by
  cases ds with
  |nil=>exact Reps.nil
  |cons _ _=>simp only[Y6,Reps]at q;obtain⟨_,_,z,_⟩:=q;trivial
 |p::b_,ds,q=>by
  cases ds with
  |nil=>simp only[Z1,Reps]at q;trivial
  |cons d0 ds=>
   rw[Z1]at q;obtain⟨r1,r2⟩:=q.uncons;have ih:=jm r k r2;rw[Z1,Z1,Z1];unfold n9
   by_cases e:p.1=k
   .rw[Z0 e,Z0 e];exact Reps.cons r ih
   .rw[ZY e,ZY e];exact Reps.cons r1 ih
def my(r:Rep K B H d v)(k:κ)(q:Reps K B H ds (b_.map (·.2))):Reps K B H (zZ k d (b_.map (·.1)) ds) ((d7 b_ k v).map (·.2)):=by
 unfold d7 zZ;rw[sE]
 by_cases hk:k∈b_.map (·.1)
 .rw[Zt hk,Z0 rfl,Z0 hk];exact jm r k q
 .rw[ZC hk,ZY Zn,ZY hk,Y0]
  exact q.append (Reps.cons r Reps.nil)
end
def DGA(H:Hp)(a:ZN)(y:V)(r:Z9 V):Prop:=Ch H a y r\/∃b_ ep k b,Rd H a (.dD b_ ep)/\y=.ref b/\bP 8 k=true/\KR H k (.ref b)/\r=d6 b_ k
def DPA(H:Hp)(a:ZN)(y v:V)(N:Hp->Prop):Prop:=(∃H',DK H a y v H'/\N H')\/∃b_ ep k b,H a=some (.dD b_ ep)/\y=.ref b/\bP 8 k=true/\KR H k (.ref b)/\b_.length<sizeLine/\∀FX,N (upd H a (.dD (d7 b_ k v) FX))
section
variable{A:Za}
def oU(hu:A.units+40<cLine)(I:Inv X a_ σ H s)(g:DGA H a y (some v))(ry:RelV y u)(h:∀w' s',Inv X a_ σ H s'->RelV v w'->Q w' s'):wpAny (model X.prog X.w) A (getItem (.ref a) u) Q E s:=by
 rcases g with g|⟨b_,ep,k,b,e,rfl,hk,kb,l⟩
 .exact rE (by lia) I g ry h
 .cases (show u=Value.ref b from ry);exact oZ hu I e hk kb l.symm h
def oV(hu:A.units+40<cLine)(I:Inv X a_ σ H s)(g:DPA H a y v N)(ry:RelV y u)(rv:RelV v r)(h:∀H' s',Inv X a_ σ H' s'->N H'->Q () s'):wpAny (model X.prog X.w) A (setItem (.ref a) u r) Q E s:=by
 rcases g with⟨H',g,n⟩|⟨b_,ep,k,b,e,rfl,hk,kb,l,n⟩
 .exact rX (by lia) I g ry rv λs' I'=>h H' s' I' n
 .cases (show u=Value.ref b from ry);exact oz hu I e hk kb l rv λFX s' I'=>h _ s' I' (n FX)
def kD(I:Inv X a_ σ H s)(g:DGA H a y o):s.TypeIs (.ref a) "dict":=by
 rcases g with g|⟨b_,ep,k,b,e,_⟩
 .exact kI I g
 .obtain⟨_,_,xs,_,dd⟩:=lF I.hok e
  exact dd.typeIs
end
def tGA(td ty:TE):TE:=λσ H Q=>td σ H λx H1=>ty σ H1 λy H2=>∃a v,x=.ref a/\DGA H2 a y (some v)/\Q v H2
def sPA(td ty tv:TE):TS:=λD σ H=>tv σ H λv H1=>td σ H1 λx H2=>ty σ H2 λy H3=>∃a,x=.ref a/\DPA H3 a y v λH4=>D.nx σ H4
section
variable{X:Cx}{pos:Pos}
def vg(hu:X.A.units+64<cLine)(ho:PE X o td)(hi:PE X i ty)(hs:C8 i):PE X (.Subscript o i pos) (tGA td ty):=by
 intro a_ s σ H Q I h;refine yd PySem.F.slot_dict_getitem.lookup hs (thn (ho a_ s σ H _ I h) λu s1 ⟨x,H1,I1,rx,q1⟩=>thn (hi a_ s1 σ H1 _ I1 q1) λiv s2 hz=>?_)
 obtain⟨y,H2,I2,ry,a,v,ex,g,q2⟩:=hz;subst ex;obtain rfl:u=Value.ref a:=rx;exact⟨kD I2 g,oU (by lia) I2 g ry λw' s3 I3 E_=>⟨v,H2,I3,E_,q2⟩⟩
def mS(hu:X.A.units+64<cLine)(ho:PE X o td)(hi:PE X i ty)(hv:PE X value tv)(hs:swapsWith value (some (.Subscript o i pos')) pos.line X.env=pure false):PS X (.Assign [.Subscript o i pos'] value pos) (sPA td ty tv):=by
 intro a_ s σ H D I h;refine wpAny_Assign_Subscript (thn (hv a_ s σ H _ I h) λr s1 ⟨v,H1,I1,rv,q1⟩=>thn (ho a_ s1 σ H1 _ I1 q1) λu s2 ⟨x,H2,I2,rx,q2⟩=>thn (hi a_ s2 σ H2 _ I2 q2) λiv s3 ⟨y,H3,I3,ry,a,ex,g⟩=>?_) hs
 subst ex;obtain rfl:u=Value.ref a:=rx;exact oV (by lia) I3 g ry rv λH4 s4 I4 q3=>⟨σ,H4,I4,q3⟩
end
noncomputable def cb(x k:Z9 D):Z9 (Z9 D):=match x,k with
 |some (.dK ks vs),some d=>(match fI d with|some kk=>some (ca kk ks vs)|none=>none)
 |some (.dD ks vs),some d=>if(bP 8 d&&vn d)=true then some (ca d ks vs) else none
 |_,_=>none
def dQ{K:Z6}{B:ZN->Prop}{H:Hp}{d:D}{k:Key}{v:V}(h:fI d=some k)(r:Rep K B H d v):v=kV k:=by
 cases d<;>simp only[fI]at h<;>first
  |(cases h;simp only[Rep]at r;exact r)
  |trivial
def dM{K:Z6}{B:ZN->Prop}{H:Hp}{d:D}{v:V}(h:vn d=true)(r:Rep K B H d v):∃b,v=.ref b:=by
 cases d<;>simp only[vn]at h<;>first
  |(simp only[Rep]at r;obtain⟨a,xs,e,_⟩:=r;exact⟨a,e⟩)
  |trivial
def dJ{K:Z6}{B B':ZN->Prop}{H:Hp}{x k:Z9 D}{o:Z9 D}(h:cb x k=some o):∃d e,x=some d/\k=some e/\∀{v u:V},Rep K B H d v->Rep K B' H e u->∃a r,v=.ref a/\DGA H a u r/\r.isSome=o.isSome/\∀z,o=some z->∃w,r=some w/\Rep K B H z w:=by
 unfold cb at h;split at h
 .rename_i ks vs d
  split at h
  .rename_i kk hk
   obtain rfl:=Z7 h;refine⟨_,_,rfl,rfl,λ{v u} r1 r2=>?_⟩
   simp only[Rep]at r1;obtain⟨a,b_,rfl,hq,rfl,rs⟩:=r1;have hu:=dQ hk r2;obtain⟨n1,n2⟩:=cE kk rs;refine⟨a,d6 b_ kk,rfl,.inl ⟨b_,kk,hq.imp And.right id,hu,rfl⟩,?_,λz hz=>n2 z hz⟩
   cases q:ca kk (b_.map (·.1)) vs with
   |none=>rw[n1 q];rfl
   |some z=>obtain⟨w,e,_⟩:=n2 z q;rw[e];rfl
  .trivial
 .rename_i ks vs d
  split at h
  .rename_i hk
   obtain rfl:=Z7 h;rw[ZH]at hk;refine⟨_,_,rfl,rfl,λ{v u} r1 r2=>?_⟩
   simp only[Rep]at r1;obtain⟨a,b_,rfl,⟨ep,hq⟩,rfl,rs⟩:=r1;obtain⟨b,rfl⟩:=dM hk.2 r2;obtain⟨n1,n2⟩:=cE d rs;refine⟨a,d6 b_ d,rfl,.inr ⟨b_,ep,d,b,hq.imp And.right id,rfl,hk.1,r2.key hk.1,rfl⟩,?_,λz hz=>n2 z hz⟩
   cases q:ca d (b_.map (·.1)) vs with
   |none=>rw[n1 q];rfl
   |some z=>obtain⟨w,e,_⟩:=n2 z q;rw[e];rfl
  .trivial
 .trivial
def zX(x k:Z9 D):Z9 D:=match cb x k with|some (some d)=>some d|_=>none
section
variable{X:Cx}
theorem AI(hu:X.A.units+64<cLine)(ha:DE X m a fa)(hb:DE X m' b fb)(hs:C8 b:=by intro _ _;rfl):DE X m (.Subscript a b pos) (λδ=>zX (fa δ) (fb δ)):=
 (vg hu ha hb hs).imp λσ H Q hz=>by
  obtain⟨B,Hk,δ,d,R,e,k⟩:=hz;dsimp only at e;unfold zX at e;cases q:cb (fa δ) (fb δ)with
  |none=>rw[q]at e;trivial
  |some o=>
   rw[q]at e;cases o with
   |none=>trivial
   |some z=>
    obtain rfl:=Z7 e;obtain⟨d1,d2,e1,e2,_⟩:=dJ (K:=X.K) (B:=bb m B δ σ) (B':=bb m' B δ σ) (H:=H) q;refine two R e1 e2 λv u H' s R' r1 r2=>?_
    obtain⟨SQ,SO,Lp,Lo,go⟩:=dJ (K:=X.K) (B:=bb m B δ σ) (B':=bb m' B δ σ) (H:=H') q;rw[e1]at Lp;obtain rfl:=Z7 Lp;rw[e2]at Lo;obtain rfl:=Z7 Lo;obtain⟨c,r,ev,g,_,hz⟩:=go r1 r2;obtain⟨w,rfl,E_⟩:=hz _ rfl;exact⟨c,w,ev,g,k w H' s E_⟩
end
section
def ms{κ:Type}[DecidableEq κ]{knd:PySem.KeyKind prog w κ}{d:ZN}{b_:Z8 (κ×Z3)}{k:κ}{key dflt:Z3}{Q:Z3->ZP->Prop}(u_:knd.is k key=true)(hm:s.heap.DictOf knd d b_)(hsz:b_.length<=sizeLine)
  (old:∀v,valueAt b_ k=some v->Q v {s with toks:=s.toks+1})(new:valueAt b_ k=none->∀h',h'.DictOf knd d (stored b_ k dflt)->Heap.SameBut d s.heap h'->Q dflt {s with heap:=h',toks:=s.toks+1}):
  wpAny (model prog w) A (dictSetDefault d key dflt) Q E s:=by
 obtain⟨o,es,ep,ho,hc,hd,hk,hp,hn⟩:=hm;have RT:es.size<=sizeLine:=by
  have e1:=hp.length;rw[Array.length_toList]at e1
  lia
 have RE:(es.findIdx? λe=>knd.is k e.key)=b_.findIdx? λkv=>decide (kv.1=k):=by rw[<-hp.findIdx k];obtain⟨l⟩:=es;simp
 have LK:=hp.find k;unfold dictSetDefault
 try with_reducible refine Y3 ?_
 refine Z_ (knd.pyHash u_ (Z_ (wpAny_dictFind_of (s:={s with toks:=s.toks+1}) u_ ho hd hk ?_)))
 rcases hi:(es.findIdx? λe=>knd.is k e.key)with _|i<;>rw[hi]
 .have Jb:k∉b_.map (·.1):=not_mem_of_findIdx_none (RE▸hi)
  have J_:¬(b_.any λkv=>decide (kv.1=k))=true:=by
   rw[X0]
   rintro⟨kv,Rx,he⟩
   exact Jb (ZL.mpr ⟨kv,Rx,Zf he⟩)
  have hv:valueAt b_ k=none:=by
   unfold valueAt;rw[Option.map_eq_none_iff,List.find?_eq_none]
   exact λx hx he=>J_ (X0.mpr ⟨x,hx,he⟩)
  refine Z_ (YV (Z_ (wpAny_updateDictKeys (hz:=RT) (s:={s with toks:=s.toks+1}) ho hd (Z4 (new hv _ ⟨_,_,ep+1,Zj _ ho (Obj.isFreed_of_dict (Xc hd _)),hc.mapDictKeys _,Xc hd _,hk.push u_ _,?_,?_⟩ (Ze ..))))))
  .rw[stored,ZY J_]
   have q:=hp.append u_ (knd.hash k) dflt;obtain⟨l⟩:=es
   simpa using q
  .rw[stored,ZY J_,Y0,Yb]
   refine⟨hn,by simp,λa ha b hb=>?_⟩
   have Gj:b=k:=by simpa using hb
   exact λe=>Jb (by rw[<-Gj,<-e];exact ha)
 .obtain⟨k_,_⟩:=Array.findIdx?_eq_some_iff_findIdx_eq.mp hi
  have hv:valueAt b_ k=some es[i].val:=by
   have q:=hp.find k;rw[<-q];have hf:(es.toList.findIdx? λe=>knd.is k e.key)=some i:=by rw[<-hi];obtain⟨l⟩:=es;simp
   obtain⟨h1,h2,h3⟩:=List.findIdx?_eq_some_iff_getElem.mp hf
   have:es.toList.find? (λe=>knd.is k e.key)=some es.toList[i]:=by
    rw[List.find?_eq_some_iff_getElem]
    exact⟨h2,i,h1,rfl,λj hj=>by simpa using h3 j hj⟩
   rw[this];simp
  refine Z_ (WT (s:={s with toks:=s.toks+1}) ho hd ?_)
  rw[YY k_]
  exact Z_ (YV (Z4 (old _ hv)))
def r9{κ:Type}[DecidableEq κ]{knd:HeapKind prog w κ}{d a:ZN}{xs:Z8 (κ×ZN×Z3)}{k:κ}{dflt:Z3}{Q:Z3->ZP->Prop}(hu:knd.room A)(u_:knd.is s.heap k a)(hm:s.heap.DictOfH knd d xs)(hsz:xs.length<=sizeLine)
  (old:∀p,atKey xs k=some p->Q p.2 {s with toks:=s.toks+knd.draws k})(new:atKey xs k=none->∀h',h'.DictOfH knd d (storedH xs k a dflt)->Heap.SameBut d s.heap h'->Q dflt {s with heap:=h',toks:=s.toks+knd.draws k}):
  wpAny (model prog w) A (dictSetDefault d (.ref a) dflt) Q E s:=by
 obtain⟨o,es,ep,ho,hc,hd,he,Pn,hn⟩:=hm;unfold dictSetDefault
 try with_reducible refine Y3 ?_
 refine Z_ (knd.pyHash hu u_ (Z_ (wpAny_dictFind_heap (s:={s with toks:=s.toks+knd.draws k}) hu u_ ho hd he Pn hn (λHI=>?_) λj p hj=>?_)))
 .have HL:=atKey_none_of_get HI
  have Jb:=not_mem_keys_of_get HI;refine Z_ (YV (Z_ (wpAny_updateDictKeys (hz:=by have e:=Xa he;lia) (s:={s with toks:=s.toks+knd.draws k}) ho hd (Z4 (new HL _ ⟨_,_,ep+1,Zj _ ho (Obj.isFreed_of_dict (Xc hd _)),hc.mapDictKeys _,Xc hd _,?_,?_,?_⟩ (Ze ..))))))
  .rw[storedH_new HL]
   simp[he,entryOfKey]
  .rw[storedH_new HL]
   intro x hx
   rcases Zv.mp hx with hx|hx
   .exact knd.keeps (Pn x hx) ho hd (Ze ..)
   .rw[ZE.mp hx]
    exact knd.keeps u_ ho hd (Ze ..)
  .rw[storedH_new HL,Y0,Yb]
   refine⟨hn,by simp,λx hx y hy=>?_⟩
   have Nd:y=k:=by simpa using hy
   exact λe=>Jb (by rw[<-Nd,<-e];exact hx)
 .have HL:=atKey_of_get hn hj
  refine Z_ (WT (s:={s with toks:=s.toks+knd.draws k}) ho hd ?_)
  rw[entry_at he j,hj];exact Z_ (YV (Z4 (old p HL)))
end
section
variable{s:ZP}{v:V}{A:Za}
def ii{Q:Z3->ZP->Prop}{P:Y1}{w:YO}{d:ZN}{key dflt:Z3}(ty:s.TypeIs (.ref d) "dict")(hd:(d==sysModules)=false)(h:wpAny (model P w) A.in1 (dictSetDefault d key dflt) Q E s):
  wpAny (model P w) A (call (.builtin "dict.setdefault") [.ref d,key,dflt]) Q E s:=by
 refine Y8 F.slot_dict_setdefault ty F.entry_dict_setdefault ?_ (F.args_dict_setdefault_3 _ _ _)
 unfold Builtin.«dict.setdefault»;refine Z_ ?_
 unfold Builtin.Dict.keyAndDefault;refine Z_ (wpAny_notOrdered_dict ty (Z4 ?_))
 change wpAny _ _ (if(d==sysModules)=true then _ else(dictSetDefault d key dflt >>= _)) _ _ s
 rw[ZY (by rw[hd];exact Zn)]
 refine Z_ (YU h (λv s' q=>Z4 ⟨v,rfl,q⟩) λ_ _ q=>q)
end
def DSd(H:Hp)(a:ZN)(y z v:V)(N:Hp->Prop):Prop:=(DGA H a y (some v)/\N H/\((∃b_,H a=some (.dK b_))\/∃b_ ep,H a=some (.dD b_ ep)))\/(DGA H a y none/\v=z/\DPA H a y z N)
section
variable{A:Za}
def sx{Q:Z3->ZP->Prop}(hu:A.units+40<cLine)(I:Inv X a_ σ H s)(g:DSd H a y z v N)(ry:RelV y u)(rz:RelV z r)(h:∀w' H' s',Inv X a_ σ H' s'->N H'->RelV v w'->Q w' s'):
  wpAny (model X.prog X.w) A (call (.builtin "dict.setdefault") [.ref a,u,r]) Q E s:=by
 have ty:s.TypeIs (.ref a) "dict":=by rcases g with⟨g,_⟩|⟨g,_⟩<;>exact kD I g
 rcases g with⟨g,nn,own⟩|⟨g,rfl,p⟩
 .rcases g with⟨b_,k,e,ey,l⟩|⟨b_,ep,k,b,e,ey,hk,kb,l⟩
  .subst ey
   obtain⟨z1,hd,vs,rel,dd⟩:=o0 I.hok e;obtain⟨w',hw,E_⟩:=RelO.some_of (v:=v) (o:=valueAt vs k) (by rw[l];exact rel.val k)
   refine ii ty hd (ms (pi ry) dd (by rw[<-rel.length];exact z1) (λv' Gm=>?_) λhn=>?_)
   .rw[hw]at Gm;obtain rfl:=Z7 Gm;exact h w' _ _ (I.tok _) nn E_
   .rw[hw]at hn;trivial
  .subst ey
   cases (show u=Value.ref b from ry)
   obtain⟨z1,hd,xs,rel,dd⟩:=lF I.hok e;obtain⟨w',hw,E_⟩:=RelO.some_of (v:=v) (o:=(atKey xs k).map (·.2)) (by rw[l];exact rel.val k)
   obtain⟨p,hp,HH⟩:=Xr.mp hw;refine ii ty hd (r9 (knd:=br X.prog X.w) (by show A.units+1+30<cLine;lia) (de I hk kb) dd (by rw[<-Yo rel];exact z1) (λp' Gh=>?_) λhn=>?_)
   .rw[hp]at Gh;obtain rfl:=Z7 Gh;rw[HH];exact h w' _ _ (I.tok _) nn E_
   .rw[hp]at hn;trivial
 .rcases p with⟨H',⟨b_,k,e,ey,l,eH⟩,nn⟩|⟨b_,ep,k,b,e,ey,hk,kb,l,nn⟩
  .subst ey eH
   obtain⟨z1,hd,vs,rel,dd⟩:=BA I.hok e;have hn:valueAt vs k=none:=by
    rcases g with⟨JY,k',e',KL,l'⟩|⟨JY,FX,k',b',e',KL,_,_,l'⟩
    .have Lf:k'=k:=by cases k<;>cases k'<;>simp[kV]at KL<;>rw[KL]
     subst Lf
     rcases e' with e'|⟨o,e'⟩
     .rw[e]at e';cases e';exact RelO.none_of (by rw[l'];exact rel.val k')
     .rw[e]at e';cases e'
    .rcases e' with e'|⟨o,e'⟩<;>(rw[e]at e';cases e')
   refine ii ty hd (ms (pi ry) dd (by rw[<-rel.length];exact z1) (λv' Gm=>?_) λ_ h' HU hs=>?_)
   .rw[hn]at Gm;trivial
   .have hl:(d7 b_ k v).length<=sizeLine:=by have:=bU b_ k v;lia
    have he:∃q,h'.get? a=some q:=let ⟨q,_,_,hq,_⟩:=HU;⟨q,hq⟩
    exact h r _ _ (i8 I (by rw[e];exact True.intro) hs he (xh hl hd (rel.put k rz) HU)) nn rz
  .subst ey
   cases (show u=Value.ref b from ry)
   obtain⟨z1,hd,xs,rel,dd⟩:=lF I.hok (.inl e);have hn:(atKey xs k).map (·.2)=none:=by
    rcases g with⟨JY,k',e',KL,l'⟩|⟨JY,FX,k',b',e',KL,Hq,Q0,l'⟩
    .rcases e' with e'|⟨o,e'⟩<;>(rw[e]at e';cases e')
    .cases KL
     have Lf:k'=k:=RH.inj (de I Hq Q0).2 (de I hk kb).2;subst Lf
     rcases e' with e'|⟨o,e'⟩
     .rw[e]at e';cases e';exact RelO.none_of (by rw[l'];exact rel.val k')
     .rw[e]at e';cases e'
   refine ii ty hd (r9 (knd:=br X.prog X.w) (by show A.units+1+30<cLine;lia) (de I hk kb) dd (by rw[<-Yo rel];exact z1) (λp' Gh=>?_) λ_ h' HU hs=>?_)
   .rw[Gh]at hn;trivial
   .have hl:(d7 b_ k v).length<=sizeLine:=by have:=bU b_ k v;lia
    obtain⟨q,es,FX,hq,h2,h3,h4,_,h5⟩:=HU;refine h r (upd H a (.dD (d7 b_ k v) FX)) _ (i8 I (by rw[e];exact True.intro) hs ⟨q,hq⟩ ⟨hl,hd,_,Paired.mapP (rel.put k hk kb rz) λp q z=>⟨z.1,z.2.1,KR.to (λc ys ec=>?_) z.2.2.1,z.2.2.2⟩,q,es,hq,h2,h3,h4,h5⟩) (nn FX) rz
    rw[ai (B7 ec e (λz=>nomatch z))]
    exact ec
end
def tDNewD:TE:=λ_ H Q=>∀p,H p=none->Q (.ref p) (upd H p (.dD [] 0))
section
variable{X:Cx}{pos:Pos}{a b:Expr}{i:Nat}{x:Str}
def iK:PE X (.Dict [] [] pos) tDNewD:=λa_ s σ H Q I h=>
 wpAny_Dict_empty ⟨.ref s.heap.objs.size,_,I.laid (a:=s.heap.objs.size) (o:=.dD [] 0) (t':=s.toks) (λ_ _ q=>Z5 _ q) (ZQ _) (vS I.big),rfl,h _ (I.hok.fresh (ZQ _))⟩
theorem uB:DF X (.Dict [] [] pos) (λ_=>some (.dK [] [])):=v0.imp λσ H Q hz=>by
 obtain⟨B,Hk,δ,d,R,e,k⟩:=hz;obtain rfl:=Z7 e;intro p hp;exact k p _ (au hp) hp ⟨[],ah,rfl,Reps.nil⟩
theorem vq:DF X (.Dict [] [] pos) (λ_=>some (.dD [] [])):=iK.imp λσ H Q hz=>by
 obtain⟨B,Hk,δ,d,R,e,k⟩:=hz;obtain rfl:=Z7 e;intro p hp;exact k p _ (au hp) hp ⟨[],⟨0,ah⟩,rfl,Reps.nil⟩
noncomputable def jF(x:D)(k v:D):Z9 D:=match x with
 |.dK ks vs=>(match fI k with|some kk=>if ks.length<lim then some (.dK (l8 kk ks) (zZ kk v ks vs)) else none|none=>none)
 |.dD ks vs=>if(bP 8 k&&vn k&&decide (ks.length<lim))=true then some (.dD (l8 k ks) (zZ k v ks vs)) else none
 |_=>none
noncomputable def vY(i:Nat)(k v:Z9 D)(δ:DEnv):Z9 Out:=match bB i δ,k,v with
 |some x,some k,some v=>(match jF x k v with|some y=>some (.next (δ.set i (some (y,true))))|none=>none)
 |_,_,_=>none
def nz{K:Z6}{B B':ZN->Prop}{H:Hp}{x k v y:D}{l:ZN}{u z:V}(h:jF x k v=some y)(ob:ObR K B H x l)(rk:Rep K B' H k u)(rz:Rep K B H v z):
  ∀{N:Hp->Prop},(∀o,(Ext B H (upd H l o)->ObR K B (upd H l o) y l)->N (upd H l o))->DPA H l u z N:=by
 intro N go;unfold jF at h;split at h
 .rename_i ks vs
  obtain⟨b_,e,rfl,rs⟩:=ob;split at h
  .rename_i kk hk
   split at h
   .rename_i hl
    obtain rfl:=Z7 h;rw[ZI]at hl;exact .inl ⟨_,⟨b_,kk,e,dQ hk rk,ZA hl (aB (ZQ _)),rfl⟩,go _ λex=>⟨_,ah,ff kk z b_,(my rz kk rs).ext ex⟩⟩
   .trivial
  .trivial
 .rename_i ks vs
  obtain⟨b_,⟨ep,e⟩,rfl,rs⟩:=ob;split at h
  .rename_i hc
   obtain rfl:=Z7 h;rw[ZH,ZH,Y9,ZI]at hc;obtain⟨⟨h1,h2⟩,h3⟩:=hc;obtain⟨b,rfl⟩:=dM h2 rk;exact .inr ⟨b_,ep,k,b,e,rfl,h1,rk.key h1,ZA h3 (aB (ZQ _)),λFX=>go _ λex=>⟨_,⟨FX,ah⟩,ff k z b_,(my rz k rs).ext ex⟩⟩
  .trivial
 .trivial
theorem zt(hu:X.A.units+64<cLine)(n:Nm X i x)(hb:DE X m b fb)(hv:DE X false c fc)(hs:swapsWith c (some (.Subscript (.Name x px) b pos')) pos.line X.env=pure false:=by rfl):
  DS X (.Assign [.Subscript (.Name x px) b pos'] c pos) (λδ=>vY i (fb δ) (fc δ) δ):=
 (mS hu (aT n.at' n.vis n.d1 n.d2) hb hv hs).imp λDn σ H hz=>by
  obtain⟨B,Hk,δ,o,R,e,k⟩:=hz;dsimp only at e;unfold vY at e;split at e
  .rename_i d0 kd vd q0 q1 q2
   split at e
   .rename_i y qy
    obtain rfl:=Z7 e;have h1:=bv q0;refine⟨B,Hk,δ,vd,R,q2,λz H1 s1 rz=>?_⟩
    have R1:=R.to s1;obtain⟨l,h2,h3,ob⟩:=R1.own i _ h1;refine⟨.ref l,h2,B,Hk,δ,kd,R1,q1,λu H2 s2 rk=>?_⟩
    have R2:=R1.to s2;have QS:=ob.ext (R1.ext s2) λo q n=>s2.get l o n q
    refine⟨l,rfl,nz qy QS rk (rz.ext (R1.ext s2)) λho new=>?_⟩
    obtain⟨x1,x2⟩:=R2.oset h1 h2 new;exact k σ _ ((R.ext (s1.trans s2)).trans x1) x2
   .trivial
  .trivial
end
def nO(x:V)(H:Hp):Prop:=∃a,x=.ref a/\((∃b_,Rd H a (.dK b_))\/∃b_ ep,Rd H a (.dD b_ ep))
section
variable{X:Cx}{pos ka apos px:Pos}{m m' mm:Bool}{o a b c e:Expr}{es:Z8 Expr}{fa fb fc:DEnv->Z9 D}{i:Nat}{x:Str}{to:TE}{t:TA}{name:Str}{id:String}{r:V->Z8 V->Hp->VK->Prop}
def sW(I:Inv X a_ σ H s)(rv:RelV v u)(d:nO v H):s.TypeIs u "dict"/\∀a,u=.ref a->∃ob,s.heap.get? a=some ob/\ob.dict=none:=by
 obtain⟨a,rfl,d⟩:=d;obtain rfl:u=Value.ref a:=rv
 rcases d with⟨b_,e⟩|⟨b_,ep,e⟩
 .obtain⟨_,_,vs,_,dd⟩:=o0 I.hok e
  refine⟨dd.typeIs,λb q=>?_⟩
  cases q;obtain⟨ob,_,_,h1,h2,_⟩:=dd;exact⟨ob,h1,h2.2.1⟩
 .obtain⟨_,_,xs,_,dd⟩:=lF I.hok e
  refine⟨dd.typeIs,λb q=>?_⟩
  cases q;obtain⟨ob,_,_,h1,h2,_⟩:=dd;exact⟨ob,h1,h2.2.1⟩
def DP(r:V->Z8 V->Hp->VK->Prop)(to:TE)(t:TA):TE:=λσ H Q=>to σ H λx H1=>nO x H1/\t σ H1 λxs H2=>r x xs H2 Q
def pQ(slot:Slot "dict" name id)(K7:typeOf (.builtin id)=pure (.type "method_descriptor"))(hm:MtM X id r)(ho:PE X o to)(ha:PA X (e::es) t)(base:attributeBase o name X.env (eval o X.env)=eval o X.env:=by rfl)(few:((backTo ka (starEach (e::es) X.env)).all (λx=>!x.1)&&(backToKw ka (keywordEach [] X.env)).all (λx=>x.1.isSome)&&decide ((e::es).length+([]:Z8 Keyword).length+(if([]:Z8 Keyword).isEmpty then 0 else 1)<30))=true:=by rfl)(line:(apos.endLine==ka.line)=true:=by rfl)(FP:starEach (e::es) X.env=(false,eval e X.env)::starEach es X.env:=by rfl)(plain:(backTo ka (starEach es X.env)).any (·.1)=false:=by rfl):
  PE X (.Call (.Attribute o name apos) (e::es) [] ka) (DP r to t):=by
 intro a_ s σ H Q I h;refine wpAny_Call_method_late base few line rfl (thn (ho a_ s σ H _ I h) λv s1 hz=>?_)
 obtain⟨x,H1,I1,r1,d1,q1⟩:=hz;obtain⟨h1,h2⟩:=sW I1 r1 d1;have hA:=ha ka a_ s1 σ H1 _ I1 q1;refine⟨"dict",id,PySem.F.plainAttrs_dict,slot,K7,h1,h2,?_⟩
 rw[FP]at hA⊢;exact Wz (by show(false||(backTo ka (starEach es X.env)).any (·.1))=false;rw[plain]<;>rfl) (Calls.evalArgs_plain (thn hA λus s2 hz=>by obtain⟨vs,H2,I2,r2,q2⟩:=hz;exact hm a_ s2 σ H2 x vs v us Q I2 r1 r2 q2))
def rSetdef:V->Z8 V->Hp->VK->Prop:=λx vs H Q=>∃l y z v,x=.ref l/\vs=[y,z]/\DSd H l y z v λH'=>Q v H'
def jO(hu:X.A.units+64<cLine):MtM X "dict.setdefault" rSetdef:=by
 intro a_ s σ H x vs v us Q I rx rv h;obtain⟨l,y,z,w,rfl,rfl,g⟩:=h;cases rx;obtain⟨u1,u2,rfl,r1,r2⟩:=rv.two;exact sx (by lia) I g r1 r2 λw' H' s' I' q E_=>⟨w,H',I',E_,q⟩
noncomputable def tMX(K:Z6)(g:DEnv->Z9 (D×DEnv)):TE:=λσ H Q=>∃B Hk δ d h_,Rel K B Hk δ σ H/\g δ=some (d,h_)/\∀v H',Ext B H H'->Rel K B Hk h_ σ H'->Rep K B H' d v->Q v H'
noncomputable def EE(K:Z6)(g:DEnv->Z9 (Bool×DEnv)):TT:=λσ H Q=>∃B Hk δ b h_,Rel K B Hk δ σ H/\g δ=some (b,h_)/\∀H',Ext B H H'->Rel K B Hk h_ σ H'->Q b H'
abbrev DX(X:Cx)(e:Expr)(g:DEnv->Z9 (D×DEnv)):Prop:=PE X e (tMX X.K g)
abbrev DTX(X:Cx)(e:Expr)(g:DEnv->Z9 (Bool×DEnv)):Prop:=PT X e (EE X.K g)
noncomputable def sdO(i:Nat)(k v:Z9 D)(δ:DEnv):Z9 (D×DEnv):=match bB i δ,k,v with
 |some x,some kd,some vd=>(match cb (some x) (some kd)with
  |some (some d)=>some (d,δ)
  |some none=>(match jF x kd vd with|some y=>some (vd,δ.set i (some (y,true)))|none=>none)
  |none=>none)
 |_,_,_=>none
def ObR.dictAt{K:Z6}{B:ZN->Prop}{H:Hp}{x k v y:D}{l:ZN}{o:Z9 D}(ob:ObR K B H x l)(h:cb (some x) (some k)=some o):nO (.ref l) H/\((∃b_,H l=some (.dK b_))\/∃b_ ep,H l=some (.dD b_ ep)):=by
 cases x with
 |dK ks vs=>obtain⟨b_,e,_⟩:=ob;exact⟨⟨l,rfl,.inl ⟨b_,.inl e⟩⟩,.inl ⟨b_,e⟩⟩
 |dD ks vs=>obtain⟨b_,⟨ep,e⟩,_⟩:=ob;exact⟨⟨l,rfl,.inr ⟨b_,ep,.inl e⟩⟩,.inr ⟨b_,ep,e⟩⟩
 |_=>simp only[cb]at h;trivial
def ObR.get{K:Z6}{B B':ZN->Prop}{H:Hp}{x k:D}{l:ZN}{o:Z9 D}{u:V}(ob:ObR K B H x l)(h:cb (some x) (some k)=some o)(rk:Rep K B' H k u):
  ∃r,DGA H l u r/\r.isSome=o.isSome/\∀z,o=some z->∃w,r=some w/\Rep K B H z w:=by
 cases x with
 |dK ks vs=>
  obtain⟨b_,e,rfl,rs⟩:=ob;simp only[cb]at h;split at h
  .rename_i kk hk
   obtain⟨n1,n2⟩:=cE kk rs;have h':ca kk (b_.map (·.1)) vs=o:=Z7 h
   refine⟨d6 b_ kk,.inl ⟨b_,kk,.inl e,dQ hk rk,rfl⟩,?_,λz hz=>n2 z (h'.trans hz)⟩
   rw[<-h'];cases q:ca kk (b_.map (·.1)) vs with
   |none=>rw[n1 q];rfl
   |some z=>obtain⟨w,e,_⟩:=n2 z q;rw[e];rfl
  .trivial
 |dD ks vs=>
  obtain⟨b_,⟨ep,e⟩,rfl,rs⟩:=ob;simp only[cb]at h;split at h
  .rename_i hk
   rw[ZH]at hk;obtain⟨b,rfl⟩:=dM hk.2 rk;obtain⟨n1,n2⟩:=cE k rs;have h':ca k (b_.map (·.1)) vs=o:=Z7 h
   refine⟨d6 b_ k,.inr ⟨b_,ep,k,b,.inl e,rfl,hk.1,rk.key hk.1,rfl⟩,?_,λz hz=>n2 z (h'.trans hz)⟩
   rw[<-h'];cases q:ca k (b_.map (·.1)) vs with
   |none=>rw[n1 q];rfl
   |some z=>obtain⟨w,e,_⟩:=n2 z q;rw[e];rfl
  .trivial
 |_=>simp only[cb]at h;trivial
theorem pG(hu:X.A.units+64<cLine)(n:Nm X i x)(hb:DE X false b fb)(hc:DE X false c fc)(base:attributeBase (.Name x px) "setdefault" X.env (eval (.Name x px) X.env)=eval (.Name x px) X.env:=by rfl)(few:((backTo ka (starEach [b,c] X.env)).all (λx=>!x.1)&&(backToKw ka (keywordEach [] X.env)).all (λx=>x.1.isSome)&&decide (([b,c]).length+([]:Z8 Keyword).length+(if([]:Z8 Keyword).isEmpty then 0 else 1)<30))=true:=by rfl)(line:(apos.endLine==ka.line)=true:=by rfl)(FP:starEach [b,c] X.env=(false,eval b X.env)::starEach [c] X.env:=by rfl)(Ge:starEach [c] X.env=[(false,eval c X.env)]:=by rfl)(plain:(backTo ka (starEach [c] X.env)).any (·.1)=false:=by rfl):
  DX X (.Call (.Attribute (.Name x px) "setdefault" apos) [b,c] [] ka) (λδ=>sdO i (fb δ) (fc δ) δ):=
 (pQ PySem.F.slot_dict_setdefault PySem.F.type_dict_setdefault (jO hu) (aT n.at' n.vis n.d1 n.d2) (aq hb (aq hc aI Ge) FP) base few line FP plain).imp λσ H Q hz=>by
  obtain⟨B,Hk,δ,d,h_,R,e,k⟩:=hz;dsimp only at e;unfold sdO at e;split at e
  .rename_i d0 kd vd q0 q1 q2
   have h1:=bv q0;obtain⟨l,h2,h3,ob⟩:=R.own i _ h1;obtain⟨og,Mu⟩:∃o,cb (some d0) (some kd)=some o:=by
    cases q:cb (some d0) (some kd)with
    |none=>rw[q]at e;trivial
    |some o=>exact⟨o,rfl⟩
   refine⟨.ref l,h2,(ob.dictAt (v:=vd) (y:=d0) Mu).1,two (m:=false) (m':=false) R q1 q2 λu z H' s R' r1 r2=>?_⟩
   have Jy:=ob.ext (R.ext s) λo q n=>s.get l o n q
   have ow:=(Jy.dictAt (v:=vd) (y:=d0) Mu).2;obtain⟨rr,g,gs,gz⟩:=Jy.get Mu r1;rw[Mu]at e;cases og with
   |some dd=>
    simp only at e;cases e;obtain⟨w,rfl,E_⟩:=gz _ rfl;exact⟨l,u,z,w,rfl,rfl,.inl ⟨g,k w H' (R.ext s) R' E_,ow⟩⟩
   |none=>
    simp only at e;split at e
    .rename_i y qy
     cases e;have hr:rr=none:=by cases rr with
      |none=>rfl
      |some _=>simp at gs
     subst hr;refine⟨l,u,z,z,rfl,rfl,.inr ⟨g,rfl,nz qy Jy r1 r2 λho new=>?_⟩⟩
     obtain⟨x1,x2⟩:=R'.oset h1 h2 new;exact k z _ ((R.ext s).trans x1) x2 (r2.ext x1)
    .trivial
  .trivial
def AY(hu:X.A.units+64<cLine)(ha:DX X a ga)(hb:DE X false b fb)(hm:behindInMarks .NotEq b=false:=by rfl):
  DTX X (.Compare a [.NotEq] [b] pos) (λδ=>ae (ga δ) λp=>match neO (some p.1) (fb p.2)with|some c=>some (c,p.2)|none=>none):=
 (c8 (wK hu) ha hb hm).imp λσ H Q hz=>by
  obtain⟨B,Hk,δ,t,h_,R,e,k⟩:=hz;obtain⟨⟨d1,t_⟩,e1,e2⟩:=ak e;simp only at e2;split at e2
  .rename_i cc qc
   cases e2;refine⟨B,Hk,δ,d1,_,R,e1,λv H1 x1 R1 r1=>?_⟩
   unfold neO gR at qc;cases q:eqO (some d1) (fb h_)with
   |none=>rw[q]at qc;trivial
   |some c0=>
    rw[q]at qc;obtain rfl:=Z7 qc;obtain⟨d,d2,z1,z2,h1,h2,rfl⟩:=eU q;obtain rfl:=Z7 z1;refine⟨B,Hk,h_,d2,R1,z2,λu H2 s2 r2=>⟨B,_,d1,d2,h1,h2,r1.ext (R1.ext s2),r2,_,rfl,k H2 (x1.trans (R1.ext s2)) (R1.to s2)⟩⟩
  .trivial
def ifX(t:Z9 (Bool×DEnv))(g1 g2:DEnv->Z9 Out):Z9 Out:=match t with
 |some (true,δ)=>g1 δ
 |some (false,δ)=>g2 δ
 |none=>none
theorem AC{x y:Z8 Stmt}(hc:DTX X c gt)(ha:DSs X x g1)(hb:DSs X y g2):DS X (.If c x y pos) (λδ=>ifX (gt δ) g1 g2):=
 (vU hc ha hb).imp λDn σ H hz=>by
  obtain⟨B,Hk,δ,o,R,e,k⟩:=hz;dsimp only at e;unfold ifX at e;split at e
  .rename_i h_ q
   exact⟨B,Hk,δ,true,h_,R,q,λH1 x1 R1=>v8 ⟨B,Hk,h_,o,R1,e,k.ext x1⟩⟩
  .rename_i h_ q
   exact⟨B,Hk,δ,false,h_,R,q,λH1 x1 R1=>vA ⟨B,Hk,h_,o,R1,e,k.ext x1⟩⟩
  .trivial
end
section
variable{A:Za}
def jg(hd:(d==sysModules)=false)(ho:s.heap.get? d=some o)(hc:o.ExactDict)(A_:o.data=.dict es ep)(hQ:Q (.ref s.heap.objs.size) {s with heap:=s.heap.push {cls:=.type "dict_keyiterator",data:=.fields #[.ref d,.int 0 0,.int es.size 0,.int ep 0]}}):wpAny (model prog w) A (pyIter (.ref d)) Q E s:=by
 have ty:s.TypeIs (.ref d) "dict":=⟨o,ho,hc.1⟩;refine wpAny_pyIter_slot ty F.slot_dict_iter (Y8 F.slot_dict_iter ty F.entry_dict_iter ?_ (F.args_dict_iter_1 _))
 unfold Builtin.«dict.__iter__»;refine Z_ ?_
 unfold Builtin.Dict.dictSlotNone;refine Z_ (wpAny_notOrdered_dict ty (Z4 ?_))
 change wpAny _ _ (Builtin.Dict.showsAll d >>= _) _ E s;unfold Builtin.Dict.showsAll;rw[ZY (by rw[hd];exact Zn)]
 refine Z_ (Z4 (Z_ (WT ho A_ (Z_ (wpAny_dictEpoch ho A_ (Z_ (Y7 (Z4 ⟨_,rfl,"dict_keyiterator",_,⟨_,ZK _ rfl,rfl⟩,W9.lookup,?_⟩))))))))
 simpa[rawInt]using hQ
def dv(hh:A.handled=none)(hit:s.heap.IsKeyIter it d i es.size ep)(ho:s.heap.get? d=some o)(A_:o.data=.dict es ep)(item:∀e,es[i]?=some e->∀h',h'.IsKeyIter it d (i+1) es.size ep->Heap.SameBut it s.heap h'->Q (some e.key) {s with heap:=h'})(stop:es[i]?=none->∀h',Heap.ExtBut it s.heap h'->Q none {s with heap:=h'}):wpAny (model prog w) A (pyNext (.ref it)) Q E s:=by
 obtain⟨oi,gi,ci,di⟩:=id hit;unfold pyNext;refine Z_ (XX (YF (name:=Str.ofString "__next__") hit.typeIs W9 (Y8 W9 hit.typeIs F.entry_dict_keyiterator_next ?_ (F.args_dict_keyiterator_next_1 _))))
 refine Z_ (Z4 (Z_ (Z_ ?_)))
 first|refine Z_ (Xd hit.typeIs (Z4 ?_))|refine Z_ (WM hit.typeIs (Z4 ?_))
 refine Z_ (W2 gi di ?_)
 simp only[show Builtin.Dict_items.ownsTuple "dict_keyiterator"=false by decide,ZJ,Zc]
 change wpAny _ _ (if(Value.ref d==Value.none)=true then _ else _) _ _ s
 rw[ZY (by exact Zn)]
 refine Z_ (Z4 (Z_ (WT ho A_ ?_)))
 rw[ZY (by simp)]
 refine Z_ (Z4 (Z_ (wpAny_dictEpoch ho A_ ?_)))
 rw[ZY (by simp)]
 refine Z4 ?_
 by_cases k_:i<es.size
 .have hx:=YY k_
  simp only[show ¬((i:Int)<0) from by lia,Zc,Int.toNat_natCast,hx]
  refine Z_ ?_
  first|refine Z_ (Xd hit.typeIs (Z4 ?_))|refine Z_ (WM hit.typeIs (Z4 ?_))
  refine Z_ (wpAny_isOneOf_keyiter hit.typeIs ?_)
  change wpAny _ _ (setField (.ref it) 1 (rawInt ((i:Int)+1)) >>= _) _ _ s;have nx:(s.heap.update it (Obj.mapFields (·.setIfInBounds 1 (rawInt ((i:Int)+1))))).IsKeyIter it d (i+1) es.size ep:=⟨_,Zj _ gi (X8 (Zb di _)),(Xk ..).trans ci,by rw[Zb di];simp[rawInt]⟩
  refine Z_ (Yn gi di (by simp) (Z_ (Y3 (Z_ (wpAny_isOneOf_keyiter (s:={s with heap:=s.heap.update it (Obj.mapFields (·.setIfInBounds 1 (rawInt ((i:Int)+1))))}) nx.typeIs ?_)))))
  change wpAny _ _ (pure es[i].key) _ _ _;exact Z4 (Z4 ⟨_,rfl,Z4 (item _ hx _ nx (Ze ..))⟩)
 .have hx:es[i]?=none:=XR (by lia)
  simp only[show ¬((i:Int)<0) from by lia,Zc,Int.toNat_natCast,hx]
  refine Z_ ?_
  first|refine Z_ (Xd hit.typeIs (Z4 ?_))|refine Z_ (WM hit.typeIs (Z4 ?_))
  change wpAny _ _ (setField (.ref it) 0 .none >>= _) _ _ s;refine Z_ (Yn gi di (by simp) ?_)
  change wpAny _ _ (newExc (.type "StopIteration") [] >>= _) _ _ _;simp only[newExc,newTuple,raiseNew];refine Z_ (Z_ (Y7 ?_ (by size_fits)))
  refine Z_ (m:=firstArgMember _ _) (Wu (a:=Value.none) (by first|rfl|(simp only[firstArgMember];rfl)) (Y7 ?_ (by size_fits)))
  refine Z_ (wpAny_handled ?_)
  rw[show A.in1.handled=none from hh]
  refine Z_ (Z4 (wpAny_throw ?_))
  refine Z_ (Yh (T:="StopIteration") (b:=true) ⟨_,ZK _ rfl,rfl⟩ W0 ?_)
  exact Z4 (stop hx _ (((Ze ..).extBut.push _).push _))
end
noncomputable def Itk(a:ZN)(b_:Z8 (D×V))(ep:Nat):It:=
 ⟨λi H=>Rd H a (.dD b_ ep)/\i<b_.length,λi H v H'=>H'=H/\∃p,b_[i]?=some p/\KR H p.1 v,λi H=>Rd H a (.dD b_ ep)/\b_.length<=i⟩
theorem DPairs.get:∀{b_:Z8 (D×V)}{xs:Z8 (D×ZN×Z3)}{i:Nat}{p:D×V},DPairs H b_ xs->b_[i]?=some p->∃q,xs[i]?=some q/\KR H p.1 (.ref q.2.1)
 |_,_,_,_,.nil,h=>by simp at h
 |_,_,0,_,.cons r _,h=>by simp at h;subst h;exact⟨_,rfl,r.2.2.1⟩
 |_,_,i+1,p,.cons _ t,h=>by
  obtain⟨q,h1,h2⟩:=DPairs.get (i:=i) (p:=p) t (by simpa using h)
  exact⟨q,by simpa using h1,h2⟩
def pL{P:Y1}{w:YO}{K:Z6}{tg:Expr}{a it:ZN}{b_:Z8 (D×V)}{ep:Nat}:Turn P w K tg (Itk a b_ ep) [it] it (λi h=>h.IsKeyIter it a i b_.length ep) where
 mem:=by simp
 obj:=λi h st b hb=>by
  have e:b=it:=by simpa using hb
  subst e;obtain⟨o,e,c,d⟩:=st;exact⟨o,e,λv z=>by rw[d]at z;cases z⟩
 keep:=λi h h' st k=>st.at λo e=>k it (by simp) o e
 item:=by
  intro X hP hw hK hc i a_ s σ H E I hf st hg;subst hP hw hK;obtain⟨rd,hi⟩:=hg;obtain⟨z,y,xs,r,o,es,h1,h2,h3,h4,h5⟩:=(show ObjOk X.prog X.w H s.heap a (.dD b_ ep) from nR I.hok rd)
  have hsz:es.size=b_.length:=by rw[Xa h4,<-Yo r]
  have hp:b_[i]?=some b_[i]:=by simp[hi]
  obtain⟨q,hq,kr⟩:=r.get hp;obtain⟨f0,f1,f2,f3,f4,f5⟩:=hf it (by simp)
  rw[<-hsz]at st;refine dv (I.ok.hd hc) st h1 h3 (λe he h' i_ sb=>?_) λhn=>?_
  .have ek:e.key=.ref q.2.1:=by
    rw[entry_at h4 i,hq]at he;have:=Z7 he;rw[<-this];rfl
   have I1:Inv X a_ σ H {s with heap:=h'}:=I.turned (t':=s.toks) (λb o hb e=>(sb.2 b hb).trans e) f0 f1 f3 f4 f5
   rw[hsz]at i_;obtain⟨o',e',c',d'⟩:=id i_;rw[ek];exact⟨_,rfl,ue (s:={s with heap:=h'}) e' c' d' (by decide) ⟨.ref q.2.1,H,I1,rfl,⟨rfl,b_[i],hp,kr⟩,i_,λb hb=>(hf b hb).1⟩⟩
  .exfalso
   rw[YY (by lia)]at hn
   trivial
 done:=by
  intro X hP hw hK hc i a_ s σ H E I hf st hg;subst hP hw hK;obtain⟨rd,hi⟩:=hg;obtain⟨z,y,xs,r,o,es,h1,h2,h3,h4,h5⟩:=(show ObjOk X.prog X.w H s.heap a (.dD b_ ep) from nR I.hok rd)
  have hsz:es.size=b_.length:=by rw[Xa h4,<-Yo r]
  obtain⟨f0,f1,f2,f3,f4,f5⟩:=hf it (by simp)
  rw[<-hsz]at st;refine dv (I.ok.hd hc) st h1 h3 (λe he h' i_ sb=>?_) λhn h' eb=>⟨rfl,I.turned (t':=s.toks) (λb o hb e=>eb b o hb e) f0 f1 f3 f4 f5⟩
  exfalso;rw[XR (by lia)]at he
  trivial
 self:=λ_ _ _ _ _ st h=>wpAny_pyIter_keyiter st h
section
variable{a:Expr}
def CF(te:TE):TI:=λσ H R=>te σ H λx H1=>∃a b_ ep,x=.ref a/\Rd H1 a (.dD b_ ep)/\R (Itk a b_ ep) H1
def ya{te:TE}(h:PE X a te):PI X tg a (CF te):=by
 intro a_ s σ H R I hq;refine thn (h a_ s σ H _ I hq) λv s1 hz=>?_
 obtain⟨x,H1,I1,r1,l,b_,ep,e,rd,q⟩:=hz;subst e;cases r1;obtain⟨z,y,xs,r,o,es,h1,h2,h3,h4,h5⟩:=(show ObjOk X.prog X.w H1 s1.heap l (.dD b_ ep) from nR I1.hok rd)
 have hsz:es.size=b_.length:=by rw[Xa h4,<-Yo r]
 refine jg y h1 h2 h3 ?_
 rw[hsz];refine⟨s1.heap.objs.size,[s1.heap.objs.size],_,_,H1,rfl,I1.kept (t':=s1.toks) λb o e=>Z5 _ e,pL,⟨_,ZK _ rfl,rfl,rfl⟩,λb hb=>?_,q⟩
 have e:b=s1.heap.objs.size:=by simpa using hb
 subst e;exact I1.fpOk (ZQ _) (I1.hok.fresh (ZQ _))
def vH(x:Z9 D):Z9 (Z8 D):=match x with|some (.dD ks vs)=>some ks|_=>none
theorem yC(h:DE X m a fa):DI X m tg a (λδ=>vH (fa δ)):=
 (ya h).imp λσ H Q hz=>by
  obtain⟨B,Hk,δ,ds,R,e,k⟩:=hz;dsimp only at e;unfold vH at e;split at e
  .rename_i ks vs q1
   obtain rfl:=Z7 e;refine⟨B,Hk,δ,_,R,q1,λv H' s r=>?_⟩
   simp only[Rep]at r;obtain⟨l,b_,rfl,⟨ep,hq⟩,rfl,rs⟩:=r;have rd:∀{H2:Hp},Ext (bb m B δ σ) H' H2->Rd H2 l (.dD b_ ep):=λ{H2} x=>by
    rcases hq with⟨b,hq⟩|⟨o,hq⟩
    .exact .inl ((x.lent l b).trans hq)
    .exact .inr ⟨o,x.frzs _ _ _ hq⟩
   refine⟨l,b_,ep,rfl,rd Ext.refl,k _ H' s λH2 x=>?_⟩
   refine⟨⟨rd x,by simp⟩,λi d hd=>?_⟩
   rw[Yv]at hd
   cases hp:b_[i]? with
   |none=>rw[hp]at hd;trivial
   |some p=>
    rw[hp]at hd;have D_:p.1=d:=Z7 hd;refine⟨⟨rd x,(ZV.mp hp).1⟩,λz H3 ⟨e3,p',Gh,kr⟩=>?_⟩
    rw[hp]at Gh;obtain rfl:=Z7 Gh;rw[e3];exact⟨Same.refl _,by rw[<-D_];exact kr.rep⟩
  .trivial
end
section
variable{X:Cx}{apos p:Pos}{m':Bool}{a b c:Expr}
noncomputable def Ah(K:Z6):R2:=λx y H Q=>∃a b xs ys,x=.ref a/\y=.ref b/\SqT K H a xs/\SqT K H b ys/\xs.length+ys.length<=sizeLine/\(xs=[]->Q (.ref b) H)/\(ys=[]->Q (.ref a) H)/\∀p,H p=none->Q (.ref p) (upd H p (.tup (xs++ys)))
def uJ:OpR X (binaryOp .Add) (Ah X.K):=by
 intro a_ s σ H x y v u Q I rx ry h;obtain⟨t,b,xs,ys,rfl,rfl,ht,hb,hz,q0,q1,q2⟩:=h;cases rx;cases ry;obtain⟨vs,r1,p1,_⟩:=I.tuple ht;obtain⟨ws,r2,p2,_⟩:=I.tuple hb;have l1:=r1.length;have l2:=r2.length;obtain⟨⟨cls,dd,data,sl⟩,ho,hc,n,hd⟩:=id p1;obtain⟨⟨Jf,Gy,data2,Gw⟩,GI,GV,n2,hd2⟩:=id p2;simp only at hc hd GV hd2;subst hc hd GV hd2
 by_cases hv:vs=[]
 .have hx:xs=[]:=by cases xs with
   |nil=>rfl
   |cons _ _=>rw[hv]at l1;simp at l1
  exact concat_meets ⟨_,ho,rfl⟩ ⟨_,GI,rfl⟩ noFill_tuple_add seq_tuple_add WX WZ (W4 _ _) (tuple_addW0 t b vs.toArray ws.toArray n n2 dd Gy sl Gw (by simp[hv])) ⟨ho,GI,.ref b,H,I,rfl,q0 hx⟩
 .by_cases hw:ws=[]
  .have hy:ys=[]:=by cases ys with
    |nil=>rfl
    |cons _ _=>rw[hw]at l2;simp at l2
   exact concat_meets ⟨_,ho,rfl⟩ ⟨_,GI,rfl⟩ noFill_tuple_add seq_tuple_add WX WZ (W4 _ _) (tuple_addW1 t b vs.toArray ws.toArray n n2 dd Gy sl Gw (by simpa using hv) (by simp[hw])) ⟨ho,GI,.ref t,H,I,rfl,q1 hy⟩
  .refine concat_meets ⟨_,ho,rfl⟩ ⟨_,GI,rfl⟩ noFill_tuple_add seq_tuple_add WX WZ (W4 _ _) (tuple_addW2 t b vs.toArray ws.toArray n n2 dd Gy sl Gw (by simpa using hv) (by simpa using hw) (by rw[ZU,ZU];lia)) ⟨ho,GI,.ref s.heap.objs.size,_,?_,rfl,q2 _ (I.hok.fresh (ZQ _))⟩
   refine I.laid (t':=s.toks) (λb u e=>Z5 _ e) (ZQ _) ⟨by rw[Zy];exact hz,vs++ws,r1.append r2,⟨_,ZK _ rfl,rfl,0,?_⟩⟩
   simp
noncomputable def rS(x y:Z9 D):Z9 D:=match x,y with|some (.tup xs),some (.tup ys)=>if xs.length+ys.length<=lim then some (.tup (xs++ys)) else none|_,_=>none
theorem v3(ha:DE X m a fa)(hb:DE X m b fb):DE X m (.BinOp a .Add b pos) (λδ=>rS (fa δ) (fb δ)):=
 (u9 uJ ha hb).imp λσ H Q hz=>by
  obtain⟨B,Hk,δ,d,R,e,k⟩:=hz;dsimp only at e;unfold rS at e;split at e
  .rename_i ds es q1 q2
   split at e
   .rename_i hl
    obtain rfl:=Z7 e;refine two R q1 q2 λv u H' s R' r1 r2=>?_
    simp only[Rep]at r1 r2;obtain⟨t,xs,rfl,ht,rx⟩:=r1;obtain⟨b,ys,rfl,hb,ry⟩:=r2;have l1:=rx.length;have l2:=ry.length;refine⟨t,b,xs,ys,rfl,rfl,SqT.of ht,SqT.of hb,by rw[<-l1,<-l2];exact aB hl,λhx=>?_,λhy=>?_,λp hp=>?_⟩
    .have:ds=[]:=by cases ds with
      |nil=>rfl
      |cons _ _=>rw[hx]at l1;simp at l1
     subst this;exact k _ H' s (by simp only[Rep,List.nil_append];exact⟨b,ys,rfl,hb,ry⟩)
    .have:es=[]:=by cases es with
      |nil=>rfl
      |cons _ _=>rw[hy]at l2;simp at l2
     subst this;exact k _ H' s (by simp only[Rep,Y_];exact⟨t,xs,rfl,ht,rx⟩)
    .have s2:=au (o:=.tup (xs++ys)) hp
     exact k _ _ (s.trans s2) (by simp only[Rep];exact⟨p,xs++ys,rfl,ah,(rx.append ry).same R' s2⟩)
   .trivial
  .trivial
def eA:Z8 D->Z9 (Z8 Bool)
 |[]=>some []
 |.bl b::ds=>(match eA ds with|some bs=>some (b::bs)|none=>none)
 |_=>none
theorem gT:∀{ds:Z8 D}{bs:Z8 Bool},eA ds=some bs->ds=bs.map D.bl
 |[],bs,h=>by obtain rfl:=Z7 h;rfl
 |.bl b::ds,bs,h=>by
  simp only[eA]at h;split at h
  .rename_i TX q
   obtain rfl:=Z7 h;rw[gT q];rfl
  .trivial
 |.non::ds,bs,h=>by simp[eA]at h
 |.int _::ds,bs,h=>by simp[eA]at h
 |.str _::ds,bs,h=>by simp[eA]at h
 |.tup _::ds,bs,h=>by simp[eA]at h
 |.lst _::ds,bs,h=>by simp[eA]at h
 |.dK _ _::ds,bs,h=>by simp[eA]at h
 |.dD _ _::ds,bs,h=>by simp[eA]at h
def s0(hc:X.calm=true):eM X (.builtin "any") (λxs H Q=>∃(q:ZN)(bs:Z8 Bool),xs=[.ref q]/\SqL X.K H q (bs.map V.bl)/\Q (.bl (bs.any id)) H):=by
 intro a_ s σ H xs us Q I rv h;obtain⟨q,bs,rfl,hq,k⟩:=h;obtain⟨u,rfl,ru⟩:=rv.one;cases ru;obtain⟨its,r,pl,hz⟩:=I.list hq;have hl:=r.length;rw[ZI]at hl;have FW:q≠s.heap.objs.size:=Zw (by obtain⟨o,e,_⟩:=pl.isList;exact ZT e)
 refine call_any_walk (WU pl.isList ⟨s.heap.objs.size,_,_,its.toArray.size,_,_,λi=>bs.getD i false,rfl,Walks.list (A:=X.A.in1) (show X.A.in1.handled=none from I.ok.hd hc) s.heap.objs.size q FW its.toArray,⟨⟨_,ZK _ rfl,rfl,rfl⟩,pl.isList.push _⟩,λi v s' Q' E' hv Sb=>?_,λh' tk hk=>?_⟩)
 .have Gm:its[i]?=some v:=by simpa using hv
  have hi:i<bs.length:=by have:=(ZV.mp Gm).1;lia
  obtain⟨v',e1,e2⟩:=r.get (i:=i) (x:=.bl bs[i]) (by simp[hi])
  rw[Gm]at e1;obtain rfl:=Z7 e1;cases e2;refine X4 ?_
  rw[show bs[i]=bs.getD i false by simp[hi]]
  exact Sb
 .have e:(List.range its.toArray.size).any (λi=>bs.getD i false)=bs.any id:=by
   rw[ZU,<-hl,YG,X0,X0];constructor
   .rintro⟨i,hi,h1⟩
    have s_:=Yq.mp hi;exact⟨bs[i],XD s_,by simpa[s_]using h1⟩
   .rintro⟨x,hx,h1⟩
    obtain⟨i,hi,rfl⟩:=WG.mp hx;exact⟨i,Yq.mpr hi,by simpa[hi]using h1⟩
  rw[e];refine⟨.bl (bs.any id),H,?_,rfl,k⟩
  exact(I.kept (t':=tk) λb o eb=>hk b o (λz=>by
   have:b=s.heap.objs.size:=by simpa using z
   rw[this]at eb;exact absurd (ZT eb) (Zd _)) (Z5 _ eb))
def Cd(x:Z9 D):Z9 D:=match x with|some (.lst ds)=>(match eA ds with|some bs=>some (.bl (bs.any id))|none=>none)|_=>none
theorem Reps.bols{K:Z6}{B:ZN->Prop}{H:Hp}:∀{bs:Z8 Bool}{xs:Z8 V},Reps K B H (bs.map D.bl) xs->xs=bs.map V.bl
 |[],xs,r=>r
 |b::bs,xs,r=>by
  rw[Z1]at r;simp only[Reps]at r;obtain⟨x,t,rfl,r1,r2⟩:=r;simp only[Rep]at r1;rw[r1,Reps.bols r2];rfl
theorem AF(hc:X.calm=true)(g:Gl X "any")(hm:X.mg "any"=none)(ha:DE X m a fa)(hs:starEach [a] X.env=[(false,eval a X.env)]:=by rfl):DE X mm (.Call (.Name "any" p) [a] [] pos) (λδ=>Cd (fa δ)):=
 (cN (s0 hc) g hm boot_any (aq ha aI hs) (he:=hs)).imp λσ H Q hz=>by
  obtain⟨B,Hk,δ,d,R,e,k⟩:=hz;unfold Cd at e;dsimp only at e;split at e
  .rename_i ds q
   split at e
   .rename_i bs qn
    obtain rfl:=Z7 e;obtain rfl:=gT qn;refine pq R q λv H' s R' r=>?_
    simp only[Rep]at r;obtain⟨c,xs,rfl,hq,rs⟩:=r;obtain rfl:=rs.bols;exact⟨c,bs,rfl,hq.sq,k _ H' s (by simp only[Rep])⟩
   .trivial
  .trivial
def rGetA:V->Z8 V->Hp->VK->Prop:=λx vs H Q=>∃l y z o,x=.ref l/\vs=[y,z]/\DGA H l y o/\Q (o.getD z) H
def yI(hu:X.A.units+64<cLine):MtM X "dict.get" rGetA:=by
 intro a_ s σ H x vs v us Q I rx rv h;obtain⟨l,y,z,o,rfl,rfl,g,q⟩:=h;cases rx;obtain⟨u1,u2,rfl,r1,r2⟩:=rv.two
 rcases g with g|⟨b_,ep,k,b,e,rfl,hk,kb,rfl⟩
 .exact BT (by lia) I g r1 r2 λw' s' I' E_=>⟨_,H,I',E_,q⟩
 .cases (show u1=Value.ref b from r1)
  obtain⟨z1,hd,xs,rel,dd⟩:=lF I.hok e;refine call_meetsIn WK dd.typeIs PySem.F.entry_dict_get (PySem.F.args_dict_get_3 _ _ _) (meetsH_dict_get_default (br X.prog X.w) l b hd u2) ⟨by show X.A.units+1+30<cLine;lia,k,xs,de I hk kb,dd,⟨_,H,I.tok _,?_,q⟩⟩
  exact(rel.val k).getD r2
def jX(x k y:Z9 D):Z9 D:=match cb x k,y with|some o,some z=>some (o.getD z)|_,_=>none
theorem xY(hu:X.A.units+64<cLine)(ha:DE X m a fa)(hb:DE X m b fb)(hc:DE X m c fc)(base:attributeBase a "get" X.env (eval a X.env)=eval a X.env:=by rfl)(few:((backTo ka (starEach [b,c] X.env)).all (λx=>!x.1)&&(backToKw ka (keywordEach [] X.env)).all (λx=>x.1.isSome)&&decide (([b,c]).length+([]:Z8 Keyword).length+(if([]:Z8 Keyword).isEmpty then 0 else 1)<30))=true:=by rfl)(line:(apos.endLine==ka.line)=true:=by rfl)(FP:starEach [b,c] X.env=(false,eval b X.env)::starEach [c] X.env:=by rfl)(Ge:starEach [c] X.env=[(false,eval c X.env)]:=by rfl)(plain:(backTo ka (starEach [c] X.env)).any (·.1)=false:=by rfl):
  DE X m (.Call (.Attribute a "get" apos) [b,c] [] ka) (λδ=>jX (fa δ) (fb δ) (fc δ)):=
 (pQ WK PySem.F.type_dict_get (yI hu) ha (aq hb (aq hc aI Ge) FP) base few line FP plain).imp λσ H Q hz=>by
  obtain⟨B,Hk,δ,d,R,e,k⟩:=hz;dsimp only at e;unfold jX at e;split at e
  .rename_i o z q1 q2
   obtain rfl:=Z7 e;obtain⟨d1,d2,e1,e2,_⟩:=dJ (K:=X.K) (B:=bb m B δ σ) (B':=bb m B δ σ) (H:=H) q1;refine⟨B,Hk,δ,d1,R,e1,λv H1 s1 r1=>?_⟩
   have R1:=R.to s1;have RU:nO v H1:=by
    unfold cb at q1;rw[e1,e2]at q1;cases d1 with
    |dK ks vs=>simp only[Rep]at r1;obtain⟨a,b_,rfl,hq,_⟩:=r1;exact⟨a,rfl,.inl ⟨b_,hq.imp And.right id⟩⟩
    |dD ks vs=>simp only[Rep]at r1;obtain⟨a,b_,rfl,⟨ep,hq⟩,_⟩:=r1;exact⟨a,rfl,.inr ⟨b_,ep,hq.imp And.right id⟩⟩
    |_=>simp at q1
   refine⟨RU,two (m:=m) (m':=m) R1 e2 q2 λu w H' s R' r2 r3=>?_⟩
   obtain⟨SQ,SO,Lp,Lo,go⟩:=dJ (K:=X.K) (B:=bb m B δ σ) (B':=bb m B δ σ) (H:=H') q1;rw[e1]at Lp;obtain rfl:=Z7 Lp;rw[e2]at Lo;obtain rfl:=Z7 Lo;obtain⟨c',r,ev,g,gs,gz⟩:=go (r1.same R1 s) r2;refine⟨c',u,w,r,ev,rfl,g,?_⟩
   cases o with
   |none=>
    cases r with
    |none=>exact k w H' (s1.trans s) r3
    |some _=>simp at gs
   |some dd=>
    obtain⟨w',rfl,E_⟩:=gz _ rfl;exact k w' H' (s1.trans s) E_
  .trivial
end
section
variable{A:Za}{E:Z3->ZP->Prop}{s:ZP}
def nV(hh:A.handled=none)(I d:ZN)(FW:d≠I)(A_:o.data=.dict es ep):
  Walks prog w A I [I,d] [I] es.size (λi v=>∃e,es[i]?=some e/\v=e.key) (λi h=>h.IsKeyIter I d i es.size ep/\h.get? d=some o) where
 sub:=λb hb=>by simp at hb;simp[hb]
 frame:=λ_ _ _ st hk=>⟨st.1.at λo e=>hk I (by simp) o e,hk d (by simp) _ st.2⟩
 item:=λi s Q E hi st hQ=>dv hh st.1 st.2 A_ (λe he h' IQ sb=>hQ _ h' s.toks ⟨e,he,rfl⟩ ⟨IQ,(sb.2 d FW).trans st.2⟩ λb o hb e=>(sb.2 b (λz=>hb (by simp[z]))).trans e) λhn=>by
  rw[YY hi]at hn;trivial
 done:=λs Q E st hQ=>dv hh st.1 st.2 A_ (λe he=>by rw[XR (ZQ _)]at he;trivial) λ_ h' eb=>hQ h' s.toks λb o hb e=>eb b o (λz=>hb (by simp[z])) e
 self:=λ_ _ _ _ st hQ=>wpAny_pyIter_keyiter st.1 hQ
def k6(hh:A.handled=none)(hd:(d==sysModules)=false)(ho:s.heap.get? d=some o)(hc:o.ExactDict)(A_:o.data=.dict es ep)(hn:es.size<=sizeLine)(res:Z3)(hS:s.heap.get? S=some {cls:=.type "list",data:=.seq #[] Kc})(hR:∀h' tk m_ c',(∀b o,b≠S->s.heap.get? b=some o->h'.get? b=some o)->h'.get? S=some {cls:=.type "list",dict:=none,data:=.seq m_ c',slots:=#[]}->ItemsOf (λi v=>∃e,es[i]?=some e/\v=e.key) m_ es.size->R (.ok (.ret res)) {s with heap:=h',toks:=tk}):
  wpAny (model prog w) A.in1 (Builtin.List.listExtendWith (.ref S) (.ref d) res)
   (λfin s'=>match fin with|.done f=>R (.ok f) s'|.again c'=>c'.quiet=true/\codeAny (model prog w) A c' R s') (λe s'=>R (.error e) s') s:=by
 have ty:s.TypeIs (.ref d) "dict":=⟨o,ho,hc.1⟩;have M6:S≠d:=λe=>by rw[e,ho]at hS;have:=Z7 hS;rw[this]at A_;trivial
 have OP:S≠s.heap.objs.size:=Zw (ZT hS);have QU:d≠s.heap.objs.size:=Zw (ZT ho);have QW:S∉[s.heap.objs.size,d]:=λhm=>by
  rcases ZZ.mp hm with e|hm
  .exact OP e
  .exact M6 (ZE.mp hm)
 unfold Builtin.List.listExtendWith;refine Z_ (WD ty ?_)
 simp only[show Builtin.List.listSameRef (.ref S) (.ref d)=false by simp[Builtin.List.listSameRef,M6],show(Value.type "dict"==Value.type "list")=false by decide,show(Value.type "dict"==Value.type "tuple")=false by decide,Bool.or_false,ZJ,Zc]
 refine Z_ (jg hd ho hc A_ (Z_ (Y3 ?_)))
 have Lb:(s.heap.push {cls:=.type "dict_keyiterator",data:=.fields #[.ref d,.int 0 0,.int es.size 0,.int ep 0]}).get? d=some o:=Z5 _ ho
 have MM:Shared.TypeIs {s with heap:=s.heap.push {cls:=.type "dict_keyiterator",data:=.fields #[.ref d,.int 0 0,.int es.size 0,.int ep 0]}} (.ref d) "dict":=⟨o,Lb,hc.1⟩
 unfold Builtin.List.listLengthHint;refine Z_ (X6 MM F.slot_dict_len.lookup ?_)
 wp_delta
 refine Z_ (Yh MM (b:=true) (by rw[Wr];kernel_rfl) ?_)
 change wpAny _ _ (typeOf (Value.ref d) >>= _) _ _ _;refine Z_ (WD MM (Z4 ?_))
 rw[Z0 (by decide)]
 have Lk:(s.heap.push {cls:=.type "dict_keyiterator",data:=.fields #[.ref d,.int 0 0,.int es.size 0,.int ep 0]}).get? S=some {cls:=.type "list",data:=.seq #[] Kc}:=Z5 _ hS
 refine Z_ (YV (Z_ ?_))
 change wpAny _ A.in1 (updateSeq S (·.push .none) >>= λ_=>updateSeq S (·.pop)) _ _ _
 have IU:=Zj (Obj.mapSeq (·.push Value.none)) Lk rfl
 refine Z_ (Ym Lk rfl (Ym (hz:=by seq_fits) IU rfl ?_))
 have JO:=Zj (Obj.mapSeq (·.pop)) IU rfl
 have GD:∀b o,b≠S->(s.heap.push {cls:=.type "dict_keyiterator",data:=.fields #[.ref d,.int 0 0,.int es.size 0,.int ep 0]}).get? b=some o->(((s.heap.push {cls:=.type "dict_keyiterator",data:=.fields #[.ref d,.int 0 0,.int es.size 0,.int ep 0]}).update S (Obj.mapSeq (·.push Value.none))).update S (Obj.mapSeq (·.pop))).get? b=some o:=
  λb o hb e=>(Zm _ _ (ZD hb)).trans ((Zm _ _ (ZD hb)).trans e)
 refine Z4 ⟨Yp XQ _,codeAny_extend_loopS (nV (A:=A.in1) (show A.in1.handled=none from hh) s.heap.objs.size d QU A_).toS hn _ QW _ es.size 0 _ _ _ rfl (Zs _) ⟨⟨_,GD _ _ (ZD OP) (ZK _ rfl),rfl,rfl⟩,GD _ _ (ZD M6) Lb⟩ JO (ItemsOf.nil _) λs' m_ c' hm IV v_=>?_⟩
 rw[Moved.eq_with hm];refine hR s'.heap s'.toks m_ c' (λb ob hb e=>hm.heap b ob (λH0=>?_) (GD b ob hb (Z5 _ e))) IV v_
 rcases ZZ.mp H0 with e'|H0
 .exact hb e'
 .rw[ZE.mp H0]at e;exact absurd (ZT e) (Zd _)
def gd(hh:A.handled=none)(hd:(d==sysModules)=false)(ho:s.heap.get? d=some o)(hc:o.ExactDict)(A_:o.data=.dict es ep)(hn:es.size<=sizeLine)(hQ:∀h' tk m_ c',(∀b o,s.heap.get? b=some o->h'.get? b=some o)->h'.get? s.heap.objs.size=some {cls:=.type "list",dict:=none,data:=.seq m_ c',slots:=#[]}->ItemsOf (λi v=>∃e,es[i]?=some e/\v=e.key) m_ es.size->Q (.ref s.heap.objs.size) {s with heap:=h',toks:=tk}):
  wpAny (model prog w) A (call (.type "list") [.ref d]) Q E s:=by
 refine callType_codes (Q₁:=λobj g_=>obj=.ref s.heap.objs.size/\g_={s with heap:=s.heap.push {cls:=.type "list",data:=.seq #[]}}) F.called_list (F.typeCall_list_1 _) F.entry_list_init (code_list_new _ ⟨rfl,rfl⟩) λobj g_ F6=>?_
 obtain⟨rfl,rfl⟩:=F6;have hS:(s.heap.push {cls:=.type "list",data:=.seq #[]}).get? s.heap.objs.size=some {cls:=.type "list",data:=.seq #[]}:=ZK _ rfl
 refine⟨⟨_,hS,rfl⟩,F.args_list_init_2 _ _,?_⟩
 change wpAny _ _ (do let old <-Builtin.List.listItems (.ref s.heap.objs.size);Builtin.List.listUpdate (.ref s.heap.objs.size) (λ_=>#[]);letGo old.toList.reverse;Builtin.List.listExtendWith (.ref s.heap.objs.size) (.ref d) .none) _ _ _
 refine Z_ ?_
 unfold Builtin.List.listItems;refine Z_ (Ys hS rfl (Z4 ?_))
 change wpAny _ _ (updateSeq s.heap.objs.size (λ_=>#[]) >>= λ_=>letGo (#[]:Array Z3).toList.reverse >>= λ_=>Builtin.List.listExtendWith (.ref s.heap.objs.size) (.ref d) .none) _ _ _
 have IU:=Zj (Obj.mapSeq (λ_=>(#[]:Array Z3))) hS rfl
 have up:∀b ob,s.heap.get? b=some ob->((s.heap.push {cls:=.type "list",data:=.seq #[]}).update s.heap.objs.size (Obj.mapSeq (λ_=>(#[]:Array Z3)))).get? b=some ob:=λb ob e=>(Zm _ _ (ZD (Zw (ZT e)))).trans (Z5 _ e)
 refine Z_ (Ym hS rfl (Z_ (Ws ?_)))
 exact k6 (A:=A.in1) hh hd (up d o ho) hc A_ hn .none IU λh' tk m_ c' hk IV v_=>⟨rfl,hQ h' tk m_ c' (λb ob e=>hk b ob (Zw (ZT e)) (up b ob e)) IV v_⟩
end
section
variable{X:Cx}{m:Bool}
theorem DPairs.keys:∀{b_:Z8 (D×V)}{xs:Z8 (D×ZN×Z3)},DPairs H b_ xs->KRs H (b_.map (·.1)) (xs.map λq=>V.ref q.2.1)
 |_,_,.nil=>by simp only[Y6,KRs]
 |_,_,.cons r t=>by
  simp only[Z1,KRs];exact⟨_,_,rfl,r.2.2.1,DPairs.keys t⟩
def o8(hc:X.calm=true):eM X (.type "list") (λxs H Q=>∃d b_ ep,xs=[.ref d]/\Rd H d (.dD b_ ep)/\∀ks p,KRs H (b_.map (·.1)) ks->H p=none->Q (.ref p) (upd H p (.lst ks))):=by
 intro a_ s σ H xs us Q I rv h;obtain⟨d,b_,ep,rfl,rd,k⟩:=h;obtain⟨u,rfl,ru⟩:=rv.one;cases ru;obtain⟨z,y,xs,r,o,es,h1,h2,h3,h4,h5⟩:=(show ObjOk X.prog X.w H s.heap d (.dD b_ ep) from nR I.hok rd)
 have hsz:es.size=b_.length:=by rw[Xa h4,<-Yo r]
 refine gd (I.ok.hd hc) y h1 h2 h3 (by rw[hsz];exact z) λh' tk acc c' hk hS v_=>?_
 have hf:H s.heap.objs.size=none:=I.hok.fresh (ZQ _);have Mr:xs.length=b_.length:=(Yo r).symm;have hv:Vals (xs.map λq=>V.ref q.2.1) acc.toList:=by
  have hlen:acc.toList.length=xs.length:=by rw[Array.length_toList,v_.1,hsz,Mr]
  have key:∀(l:Z8 (D×ZN×Z3))(m:Z8 Z3),m.length=l.length->(∀(i:Nat) q v,l[i]?=some q->m[i]?=some v->v=.ref q.2.1)->Vals (l.map λq=>V.ref q.2.1) m:=by
   intro l
   induction l with
   |nil=>intro m hm _;cases m with
    |nil=>exact .nil
    |cons _ _=>simp at hm
   |cons q l ih=>intro m hm hp;cases m with
    |nil=>simp at hm
    |cons v m=>exact .cons (hp 0 q v rfl rfl) (ih m (by simpa using hm) λi q' v' a1 a2=>hp (i+1) q' v' (by simpa using a1) (by simpa using a2))
  refine key xs acc.toList hlen λi q v a1 a2=>?_
  obtain⟨e,he,rfl⟩:=v_.2 i v (by simpa using a2)
  rw[entry_at h4 i,a1]at he;rw[<-Z7 he];rfl
 refine⟨.ref s.heap.objs.size,_,I.laid (t':=tk) (o:=.lst (xs.map λq=>V.ref q.2.1)) hk (ZQ _) ⟨by rw[ZI,Mr];exact z,acc.toList,c',hv,by rw[hS]⟩,rfl,k _ _ r.keys hf⟩
def mF(x:Z9 D):Z9 D:=match x with|some (.dD ks vs)=>some (.lst ks)|_=>none
def mM:bootBuiltins "list"=some (.type "list"):=by decide +kernel
theorem vI(hc:X.calm=true)(g:Gl X "list")(hm:X.mg "list"=none)(ha:DE X false a fa)(hs:starEach [a] X.env=[(false,eval a X.env)]:=by rfl):DF X (.Call (.Name "list" p) [a] [] pos) (λδ=>mF (fa δ)):=
 (dw (o8 hc) g hm mM (aq ha aI hs) (he:=hs)).imp λσ H Q hz=>by
  obtain⟨B,Hk,δ,d,R,e,k⟩:=hz;dsimp only at e;unfold mF at e;split at e
  .rename_i ks vs q
   obtain rfl:=Z7 e;refine pq R q λv H' s R' r=>?_
   simp only[Rep]at r;obtain⟨c,b_,rfl,⟨ep,hq⟩,rfl,rs⟩:=r;refine⟨c,b_,ep,rfl,hq.imp And.right id,λks p kr hp=>?_⟩
   have s2:=au (o:=.lst ks) hp;exact k p _ (s.trans s2) (s.free hp) ⟨_,ah,(KRs.rep kr).same (m:=false) R' s2⟩
  .trivial
end
section
variable{K:Z6}{B:ZN->Prop}{Hk H H' H1:Hp}
theorem NRep.ext(h:NRep K B Hk H d v)(s:Same H H')(x:Ext B H H'):NRep K B Hk H' d v:=by
 cases d with
 |lst es=>obtain⟨b,xs,h1,h2,h3,h4⟩:=h;exact⟨b,xs,h1,h2,s _ _ h3,h4.ext x⟩
 |_=>exact Rep.ext x h
theorem NReps.ext(s:Same H H')(x:Ext B H H'):∀{ds:Z8 D}{vs:Z8 V},NReps K B Hk H ds vs->NReps K B Hk H' ds vs
 |[],vs,h=>h
 |d::ds,vs,h=>by obtain⟨y,r,e,h1,h2⟩:=h;exact⟨y,r,e,h1.ext s x,NReps.ext s x h2⟩
theorem ObR.more(h:ObR K B H d a)(e:∀a,B a->B' a):ObR K B' H d a:=by
 cases d with
 |lst ds=>obtain⟨xs,h1,h2⟩:=h;exact⟨xs,h1,Reps.more e h2⟩
 |dK ks ds=>obtain⟨xs,h1,h0,h2⟩:=h;exact⟨xs,h1,h0,Reps.more e h2⟩
 |dD ks ds=>obtain⟨xs,h1,h0,h2⟩:=h;exact⟨xs,h1,h0,Reps.more e h2⟩
 |_=>exact(show False from h).elim
def BN(B:ZN->Prop)(H1 H:Hp)(b:ZN):Prop:=B b\/(H1 b=none/\∃xs,H b=some (.lst xs))
def NRep.view(h:NRep K B H1 H d v):Rep K (BN B H1 H) H d v:=by
 cases d with
 |lst es=>
  obtain⟨b,xs,h1,h2,h3,h4⟩:=h;simp only[Rep];exact⟨b,xs,h1,.inl ⟨.inr ⟨h2,xs,h3⟩,h3⟩,Reps.more (λ_ z=>.inl z) h4⟩
 |_=>exact Rep.more (λ_ z=>.inl z) h
theorem NReps.view:∀{ds:Z8 D}{vs:Z8 V},NReps K B H1 H ds vs->Reps K (BN B H1 H) H ds vs
 |[],vs,h=>by rw[show vs=[] from h];exact Reps.nil
 |d::ds,vs,h=>by obtain⟨y,r,rfl,h1,h2⟩:=h;exact Reps.cons h1.view (NReps.view h2)
def Rel.unset(R:Rel K B Hk δ σ H)(hi:i<σ.length):Rel K B Hk (δ.set i none) (σ.set i (some v)) H:=by
 have s_:i<δ.length:=by rw[R.len];exact hi
 have key:∀(j:Nat) p,(δ.set i none)[j]?=some (some p)->j≠i/\δ[j]?=some (some p)/\(σ.set i (some v))[j]?=σ[j]?:=λj p q=>by
  by_cases hj:j=i
  .subst hj;rw[ZR s_]at q;cases q
  .rw[ZW (ZD hj)]at q
   exact⟨hj,q,by rw[ZW (ZD hj)]⟩
 refine⟨R.same,R.bor,by simpa using R.len,λj e q=>?_,λj e q=>?_,λj k e f q Hb h1 h2 h3 h4=>?_⟩
 .obtain⟨_,q1,q2⟩:=key j _ q
  obtain⟨u,q3,q4⟩:=R.var j e q1;exact⟨u,by rw[q2];exact q3,q4⟩
 .obtain⟨_,q1,q2⟩:=key j _ q
  obtain⟨a,q3,q4⟩:=R.own j e q1;exact⟨a,by rw[q2];exact q3,q4⟩
 .obtain⟨_,q1,q2⟩:=key j _ h1
  obtain⟨_,q3,q4⟩:=key k _ h2;rw[q2]at h3;rw[q4]at h4;exact R.dis j k e f q Hb q1 q3 h3 h4
def dz{δ:DEnv}(h:δ[i]?=some none):δ.set i none=δ:=by
 apply Xp;intro j
 by_cases hj:j=i
 .subst hj;rw[ZR (ZV.mp h).1,h]
 .rw[ZW (ZD hj)]
def Rel.updN(R:Rel K B Hk δ σ H)(s1:Same Hk H1)(h1:H1 b=none)(hb:H b=some (.lst xs))(h3:∀(k:Nat) e a,δ[k]?=some (some (e,true))->σ[k]?=some (some (.ref a))->∃o:HOn,H1 a=some o.1):
  Ext B H (upd H b (.lst ys))/\Rel K B Hk δ σ (upd H b (.lst ys)):=by
 have hk:Hk b=none:=s1.free h1;have nb:¬B b:=λz=>by obtain⟨o,q⟩:=R.bor b z;rw[hk]at q;trivial
 have ex:Ext B H (upd H b (.lst ys)):=bx hb trivial nb;refine⟨ex,R.same.put hk,R.bor,R.len,λj e q=>?_,λj e q=>?_,R.dis⟩
 .obtain⟨v,q1,q2⟩:=R.var j e q;exact⟨v,q1,q2.ext ex⟩
 .obtain⟨a,q1,q2,q3⟩:=R.own j e q
  obtain⟨o,ho⟩:=h3 j e a q q1;have na:a≠b:=λz=>by subst z;rw[h1]at ho;trivial
  exact⟨a,q1,q2,q3.ext ex λo' z _=>by rw[ai na];exact z⟩
end
def tpO(x:Z9 (D×Bool)):Z9 D:=match x with|some (.tup ds,true)=>some (.tup ds)|_=>none
def ix(x:Z9 Out):Z9 Out:=match x with|some (.ret d fr)=>some (.ret d fr)|_=>none
def jv(h:ix x=some o):x=some o:=by
 unfold ix at h;split at h
 .exact h
 .trivial
section
end
section
end
section
variable{X:Cx}
open Classical in
def AB(hu:X.A.units+64<cLine)(I:Inv X a_ σ H s)(hd:okD 16 d=true)(he:es.all (okD 16)=true)(r1:Rep X.K B H d x)(r2:Reps X.K B' H es xs)(rx:RelV x v)(rv:Vals xs its):∃e:Z3->Bool,(∀y,y∈its.toArray->SeqAt.EqAt X.A.in1 s y v (e y))/\∀(j:Nat) u d',its[j]?=some u->es[j]?=some d'->e u=decide (d'=d):=by
 have one:∀j u,its[j]?=some u->∃d' x',es[j]?=some d'/\okD 16 d'=true/\Rep X.K B' H d' x'/\RelV x' u:=λj u hj=>by
  have hl:=rv.length;have k_:j<xs.length:=by rw[hl];exact(ZV.mp hj).1
  obtain⟨u',Gn,ru⟩:=rv.get (i:=j) (x:=xs[j]) (by simp[k_])
  rw[hj]at Gn;obtain rfl:=Z7 Gn;obtain⟨d',D_,Gx⟩:=r2.get' (i:=j) (x:=xs[j]) (by simp[k_])
  exact⟨d',xs[j],D_,(ZO.mp he) d' (Zg D_),Gx,ru⟩
 have key:∀u d' x',okD 16 d'=true->Rep X.K B' H d' x'->RelV x' u->decide (∃d' x',okD 16 d'=true/\Rep X.K B' H d' x'/\RelV x' u/\d'=d)=decide (d'=d):=λu d' x' o' Gx ru=>by
  rw[YG,Y9,Y9];constructor
  .rintro⟨d2,x2,o2,KZ,KW,e2⟩
   rw[<-e2];have ex:=ru.inj KW;subst ex;exact Rep.inj I o' o2 Gx KZ
  .intro e2
   exact⟨d',x',o',Gx,ru,e2⟩
 refine⟨λu=>decide (∃d' x',okD 16 d'=true/\Rep X.K B' H d' x'/\RelV x' u/\d'=d),λu Gn=>?_,λj u d' hj D_=>?_⟩
 .obtain⟨j,hj⟩:=X_ (show u∈its by simpa using Gn)
  obtain⟨d',x',_,o',Gx,ru⟩:=one j u hj;have q:=(zS I 16 d' d x' x u v X.A.in1 o' hd (by show X.A.units+1+16+1<cLine;lia) Gx r1 ru rx).2.1
  show SeqAt.EqAt X.A.in1 s u v (decide (∃d' x',okD 16 d'=true/\Rep X.K B' H d' x'/\RelV x' u/\d'=d));rw[key u d' x' o' Gx ru];exact q
 .obtain⟨d2,x',e2,o',Gx,ru⟩:=one j u hj
  rw[D_]at e2;obtain rfl:=Z7 e2;exact(key u d' x' o' Gx ru).trans (by congr)
noncomputable def zY(x y:Z9 D):Z9 D:=match x,y with
 |some (.lst ds),some d=>if okD 16 d=true/\ds.all (okD 16)=true/\ds.idxOf d<ds.length/\ds.length<=lim then some (.int (ds.idxOf d)) else none
 |_,_=>none
def vC(hu:X.A.units+64<cLine):MtR X "list.index" (λx vs H Q=>∃B B' l y ds d,x=.ref l/\vs=[y]/\Rep X.K B H (.lst ds) x/\Rep X.K B' H d y/\okD 16 d=true/\ds.all (okD 16)=true/\ds.idxOf d<ds.length/\ds.length<=lim/\Q (.int (ds.idxOf d)) H):=by
 intro a_ s σ H x vs v us Q I rx rv h;obtain⟨B,B',l,y,ds,d,rfl,rfl,r1,r2,o1,o2,hj,hz,q⟩:=h;cases rx;obtain⟨u,rfl,ru⟩:=rv.one;simp only[Rep]at r1;obtain⟨l',xs,e,hq,rs⟩:=r1;cases e;obtain⟨its,r,pl,_⟩:=I.list hq.sq;obtain⟨e,g1,g2⟩:=AB hu I o1 o2 r2 rs ru r;obtain⟨⟨cl,dd,dt,sl⟩,n,e1,e2,e3,e4⟩:=pl;simp only at e2 e3 e4;subst e2;subst e3;subst e4;have Ho:=r.length;have Mx:=rs.length;have hsz:ds.idxOf d<its.toArray.size:=by rw[ZU];lia
 have at1:∀(i:Nat)(hi:i<its.length),e its[i]=decide (ds[i]'(by lia)=d):=λi hi=>g2 i its[i] (ds[i]'(by lia)) (by simp) (by simp)
 refine WA F.slot_list_index ⟨_,e1,rfl⟩ F.entry_list_index (F.args_list_index_2 _ _) (SeqAt.list_indexAt l its.toArray n none sl u e (ds.idxOf d) hsz ?_ ?_ ?_) ⟨e1,g1,?_⟩
 .have:lim<2 ^ 63 - 1:=by decide +kernel
  lia
 .rw[List.getElem_toArray,at1]
  simp
 .intro i hi k_
  rw[List.getElem_toArray,at1 i (by simpa using hi)]
  have:=List.not_of_lt_findIdx (p:=λz=>z==d) (xs:=ds) (i:=i) k_
  simpa using this
 .exact⟨.int _,H,I.tok _,⟨_,rfl⟩,q⟩
def sM(h:zY x y=some z):∃ds d,x=some (.lst ds)/\y=some d/\okD 16 d=true/\ds.all (okD 16)=true/\ds.idxOf d<ds.length/\ds.length<=lim/\z=.int (ds.idxOf d):=by
 unfold zY at h;split at h
 .rename_i ds d
  split at h
  .rename_i c;obtain rfl:=Z7 h;exact⟨ds,d,rfl,rfl,c.1,c.2.1,c.2.2.1,c.2.2.2,rfl⟩
  .trivial
 .trivial
theorem vX(hu:X.A.units+64<cLine)(ha:DE X m a fa)(hb:DE X m' b fb)(mc:Mc X.env a "index" b [] apos ka):DE X mm (.Call (.Attribute a "index" apos) [b] [] ka) (λδ=>zY (fa δ) (fb δ)):=
 (ky Yy PySem.F.slot_list_index PySem.F.type_list_index (vC hu) ha (aq hb aI mc.s) mc).imp λσ H Q hz=>by
  obtain⟨B,Hk,δ,d,R,e,k⟩:=hz;obtain⟨ds,d0,e1,e2,o1,o2,h1,h2,rfl⟩:=sM e;refine⟨B,Hk,δ,_,R,e1,λv H1 s1 r1=>?_⟩
  have R1:=R.to s1;obtain⟨l,xs,ev,hq,rs⟩:∃l xs,v=.ref l/\LstS X.K (bb m B δ σ) H1 l xs/\Reps X.K (bb m B δ σ) H1 ds xs:=by simpa only[Rep]using r1
  subst ev;refine⟨.inl ⟨rfl,xs,hq.sq⟩,B,Hk,δ,_,R1,e2,λy H2 s2 r2=>?_⟩
  exact⟨_,_,l,y,ds,d0,rfl,rfl,r1.same R1 s2,r2,o1,o2,h1,h2,k _ H2 (s1.trans s2) (by simp only[Rep])⟩
end
end L2
namespace L2
open PySem
def aY:Z8 (D×Z8 D)->D->D->Z8 (D×Z8 D)
 |[],k,e=>[(k,[e])]
 |p::r,k,e=>if p.1=k then(p.1,if e∈p.2 then p.2 else p.2++[e])::r else p::aY r k e
def mV(g:Z8 (D×Z8 D)):D:=.dD (g.map (·.1)) (g.map λp=>.dD p.2 (p.2.map λ_=>.bl true))
end L2
namespace L2
open PySem PySem.Spec PyProof.Rows
variable[Lams]
def InAt(Hk H:Hp)(l:ZN)(v:V)(es:Z8 D):Prop:=∃a ks ep,v=.ref a/\a≠l/\Hk a=none/\H a=some (.dD ks ep)/\ks.map (·.1)=es/\∀x∈ks,x.2=.bl true
def GL(Hk H:Hp)(l:ZN):Z8 (D×V)->Z8 (D×Z8 D)->Prop
 |[],g=>g=[]
 |p::r,g=>∃q g',g=q::g'/\p.1=q.1/\InAt Hk H l p.2 q.2/\GL Hk H l r g'
def InAt.to(h:InAt Hk H l v es)(k:∀a ks ep,v=.ref a->H a=some (.dD ks ep)->H' a=some (.dD ks ep)):InAt Hk H' l v es:=by
 obtain⟨a,ks,ep,h1,h2,h3,h4,h5⟩:=h;exact⟨a,ks,ep,h1,h2,h3,k a ks ep h1 h4,h5⟩
theorem GL.to:∀{b_:Z8 (D×V)}{g:Z8 (D×Z8 D)},GL Hk H l b_ g->(∀p∈b_,∀a ks ep,p.2=.ref a->H a=some (.dD ks ep)->H' a=some (.dD ks ep))->GL Hk H' l b_ g
 |[],g,h,k=>h
 |p::r,g,h,k=>by
  obtain⟨q,g',h1,h2,h3,h4⟩:=h;exact⟨q,g',h1,h2,h3.to (k p (ZX ..)),GL.to h4 λp' hp=>k p' (Z2 _ hp)⟩
theorem GL.length:∀{b_:Z8 (D×V)}{g:Z8 (D×Z8 D)},GL Hk H l b_ g->b_.length=g.length
 |[],g,h=>by rw[show g=[] from h];rfl
 |p::r,g,h=>by obtain⟨q,g',rfl,_,_,h4⟩:=h;simp[GL.length h4]
theorem GL.mem:∀{b_:Z8 (D×V)}{g:Z8 (D×Z8 D)}{p:D×V},GL Hk H l b_ g->p∈b_->∃es,InAt Hk H l p.2 es/\∃q∈g,q.2=es
 |[],g,p,h,hp=>by trivial
 |p'::r,g,p,h,hp=>by
  obtain⟨q,g',rfl,h2,h3,h4⟩:=h
  rcases ZZ.mp hp with rfl|hp
  .exact⟨q.2,h3,q,ZX ..,rfl⟩
  .obtain⟨es,h5,q',h6,h7⟩:=GL.mem h4 hp
   exact⟨es,h5,q',Z2 _ h6,h7⟩
def iO{b_:Z8 (D×V)}{k:D}{v:V}(h:d6 b_ k=some v):∃p∈b_,p.2=v/\p.1=k:=by
 unfold d6 at h;obtain⟨p,h1,h2⟩:=Xr.mp h;exact⟨p,W_ h1,h2,by simpa using List.find?_some h1⟩
theorem GL.add{Hk H:Hp}{l a:ZN}{ks:Z8 (D×V)}{k e:D}{ep:Nat}:∀{b_:Z8 (D×V)}{g:Z8 (D×Z8 D)},GL Hk H l b_ g->(b_.map (·.2)).Nodup->d6 b_ k=some (.ref a)->H a=some (.dD ks ep)->∀FX,GL Hk (upd H a (.dD (d7 ks e (.bl true)) FX)) l b_ (aY g k e)
 |[],g,h,nd,hv,ha=>by trivial
 |p::r,g,h,nd,hv,ha=>by
  intro FX;obtain⟨q,g',rfl,h2,h3,h4⟩:=h;rw[Z1,YJ]at nd;unfold aY
  by_cases c:p.1=k
  .rw[bG c]at hv
   rw[Z0 (by rw[<-h2];exact c)]
   refine⟨_,_,rfl,h2,?_,h4.to λp' Gh a' OV HM e1 e2=>?_⟩
   .obtain⟨a',OV,HM,e1,e2,e3,e4,e5,e6⟩:=h3
    have Gm:p.2=.ref a:=Z7 hv;rw[e1]at Gm;cases Gm;rw[ha]at e4;cases e4;refine⟨a,_,FX,e1,e2,e3,ah,?_,λx hx=>?_⟩
    .rw[ff];unfold l8;rw[e5]
    .unfold d7 at hx
     split at hx
     .obtain⟨y,hy,rfl⟩:=ZL.mp hx
      split
      .rfl
      .exact e6 y hy
     .rcases Zv.mp hx with hx|hx
      .exact e6 x hx
      .rw[ZE.mp hx]
   .have:a'≠a:=λz=>by
     subst z;exact nd.1 (ZL.mpr ⟨p',Gh,by rw[e1];exact(Z7 hv).symm⟩)
    rw[ai this];exact e2
  .rw[bE c]at hv
   rw[ZY (by rw[<-h2];exact c)]
   refine⟨_,_,rfl,h2,h3.to λa' OV HM e1 e2=>?_,GL.add h4 nd.2 hv ha FX⟩
   obtain⟨p',Gh,e3,_⟩:=iO hv;have:a'≠a:=λz=>by
    subst z;exact nd.1 (ZL.mpr ⟨p',Gh,by rw[e3,e1]⟩)
   rw[ai this];exact e2
theorem GL.keys:∀{b_:Z8 (D×V)}{g:Z8 (D×Z8 D)},GL Hk H l b_ g->b_.map (·.1)=g.map (·.1)
 |[],g,h=>by rw[show g=[] from h];rfl
 |p::r,g,h=>by obtain⟨q,g',rfl,h2,_,h4⟩:=h;simp[GL.keys h4,h2]
theorem GL.snoc:∀{b_:Z8 (D×V)}{g:Z8 (D×Z8 D)},GL Hk H l b_ g->InAt Hk H l (.ref a) es->GL Hk H l (b_++[(k,.ref a)]) (g++[(k,es)])
 |[],g,h,i=>by rw[show g=[] from h];exact⟨_,_,rfl,rfl,i,rfl⟩
 |p::r,g,h,i=>by obtain⟨q,g',rfl,h2,h3,h4⟩:=h;exact⟨_,_,rfl,h2,h3,GL.snoc h4 i⟩
theorem GL.lens{n:Nat}{Hk H:Hp}{l:ZN}:∀{g:Z8 (D×Z8 D)},(∀q∈g,q.2.length<=n)->∀q∈aY g k e,q.2.length<=n+1
 |[],h,q,hq=>by unfold aY at hq;rw[ZE.mp hq];simp
 |p::r,h,q,hq=>by
  unfold aY at hq;split at hq
  .rcases ZZ.mp hq with rfl|hq
   .have:=h p (ZX ..)
    dsimp only;split
    .lia
    .rw[Zy,List.length_singleton];lia
   .have:=h q (Z2 _ hq);lia
  .rcases ZZ.mp hq with rfl|hq
   .have:=h q (ZX ..);lia
   .exact GL.lens (Hk:=Hk) (H:=H) (l:=l) (λq' Hn=>h q' (Z2 _ Hn)) q hq
theorem gC:∀(g:Z8 (D×Z8 D))(k e:D),(aY g k e).length<=g.length+1
 |[],k,e=>by simp[aY]
 |p::r,k,e=>by
  unfold aY;split
  .simp
  .have:=gC r k e;simp only[List.length_cons];lia
def InM(K:Z6)(B:ZN->Prop)(Hk H:Hp)(l:ZN)(v:V)(es:Z8 D):Prop:=Rep K B H (.dD es (es.map λ_=>.bl true)) v\/InAt Hk H l v es
def GM(K:Z6)(B:ZN->Prop)(Hk H:Hp)(l:ZN):Z8 (D×V)->Z8 (D×Z8 D)->Prop
 |[],g=>g=[]
 |p::r,g=>∃q g',g=q::g'/\p.1=q.1/\InM K B Hk H l p.2 q.2/\GM K B Hk H l r g'
theorem GL.m{K:Z6}{B:ZN->Prop}{Hk H:Hp}{l:ZN}:∀{b_:Z8 (D×V)}{g:Z8 (D×Z8 D)},GL Hk H l b_ g->GM K B Hk H l b_ g
 |[],g,h=>h
 |p::r,g,h=>by obtain⟨q,g',h1,h2,h3,h4⟩:=h;exact⟨q,g',h1,h2,.inr h3,GL.m h4⟩
theorem Ac{K:Z6}{B:ZN->Prop}{H:Hp}:∀{ks:Z8 (D×V)},(∀x∈ks,x.2=.bl true)->Reps K B H ((ks.map (·.1)).map λ_=>.bl true) (ks.map (·.2))
 |[],h=>Reps.nil
 |p::r,h=>Reps.cons (by simp only[Rep];exact h p (ZX ..)) (Ac λx hx=>h x (Z2 _ hx))
def InAt.obR{K:Z6}{B:ZN->Prop}{Hk H:Hp}{l:ZN}{v:V}{es:Z8 D}(h:InAt Hk H l v es):∃a,v=.ref a/\a≠l/\Hk a=none/\ObR K B H (.dD es (es.map λ_=>.bl true)) a:=by
 obtain⟨a,ks,ep,h1,h2,h3,h4,rfl,h6⟩:=h;exact⟨a,h1,h2,h3,ks,⟨ep,h4⟩,rfl,Ac h6⟩
theorem GM.frz1{K:Z6}{B:ZN->Prop}{Hk H:Hp}{l b:ZN}{u:HO}{o:Obj}(hx:H b=some u)(mu:Mut (some u))(nb:¬B b):∀{b_:Z8 (D×V)}{g:Z8 (D×Z8 D)},GM K B Hk H l b_ g->GM K B Hk (upd H b (.frz o u)) l b_ g
 |[],g,h=>h
 |p::r,g,h=>by
  obtain⟨q,g',h1,h2,h3,h4⟩:=h;refine⟨q,g',h1,h2,?_,GM.frz1 hx mu nb h4⟩
  rcases h3 with h3|h3
  .exact .inl (h3.ext (bx hx mu nb))
  .by_cases c:p.2=.ref b
   .obtain⟨a,e1,e2,e3,ob⟩:=h3.obR (K:=K) (B:=B)
    rw[c]at e1;cases e1;rw[c];exact .inl (ob.frozen hx nb λ_ z=>z)
   .exact .inr (h3.to λa ks ep e1 e2=>by rw[ai (λz=>c (by rw[e1,z]))];exact e2)
theorem CB{X:Cx}{a_:Z8 (ZN×Obj)}{σ:St}{s:ZP}{B:ZN->Prop}{Hk:Hp}{l:ZN}{ol:HO}(hB:∀a,B a->∃o:HOn,Hk a=some o.1):∀(b_:Z8 (D×V))(g:Z8 (D×Z8 D))(H:Hp),Inv X a_ σ H s->GM X.K B Hk H l b_ g->H l=some ol->
  ∃H',Inv X a_ σ H' s/\Ext B H H'/\(∀c o o',Hk c=some o'->H c=some o->H' c=some o)/\H' l=some ol/\Reps X.K B H' (g.map λp=>.dD p.2 (p.2.map λ_=>.bl true)) (b_.map (·.2))
 |[],g,H,I,h,hl=>⟨H,I,Ext.refl,λ_ _ _ _ q=>q,hl,by rw[show g=[] from h];exact Reps.nil⟩
 |p::r,g,H,I,h,hl=>by
  obtain⟨q,g',rfl,h2,h3,h4⟩:=h
  rcases h3 with h3|h3
  .obtain⟨H',I',e',k',l',r'⟩:=CB hB r g' H I h4 hl
   exact⟨H',I',e',k',l',Reps.cons (h3.ext e') r'⟩
  .obtain⟨a,e1,e2,e3,ob⟩:=h3.obR (K:=X.K) (B:=B)
   obtain⟨u,hu,mu⟩:=ob.mut;obtain⟨o,I1⟩:=I.frz hu mu;have nb:¬B a:=λz=>by obtain⟨o',w⟩:=hB a z;rw[e3]at w;trivial
   have ex:Ext B H (upd H a (.frz o u)):=bx hu mu nb;obtain⟨H',I',e',k',l',r'⟩:=CB hB r g' _ I1 (GM.frz1 hu mu nb h4) (by rw[ai (ZD e2)];exact hl)
   refine⟨H',I',ex.trans e',λc o' o2 q1 q2=>k' c o' o2 q1 (by rw[ai (ar q1 e3)];exact q2),l',Reps.cons ?_ r'⟩
   dsimp only;rw[e1];exact(ob.frozen hu nb λ_ z=>z).ext e'
def wE(δ:DEnv):Bool:=δ.all λo=>match o with|some (_,true)=>false|_=>true
def rq(h:wE δ=true):aX δ:=λi d e=>by
 have:=(ZO.mp h) _ (Zg e);simp at this
def d8(h:aX δ):aX (δ.set i none):=λj e q=>by
 by_cases hj:i=j
 .subst hj
  rw[List.getElem?_set]at q
  split at q
  .split at q<;>cases q
  .exact h i e q
 .rw[ZW hj]at q
  exact h j e q
def Rel.updX{K:Z6}{B:ZN->Prop}{Hk H:Hp}{δ:DEnv}{σ:St}{l:ZN}{u o:HO}(R:Rel K B Hk δ σ H)(no:aX δ)(hk:Hk l=none)(hl:H l=some u)(mu:Mut (some u)):Ext B H (upd H l o)/\Rel K B Hk δ σ (upd H l o):=by
 have nb:¬B l:=λz=>by obtain⟨o,q⟩:=R.bor l z;rw[hk]at q;trivial
 have ex:Ext B H (upd H l o):=bx hl mu nb;refine⟨ex,R.same.put hk,R.bor,R.len,λj e q=>?_,λj e q=>(no j e q).elim,R.dis⟩
 obtain⟨v,q1,q2⟩:=R.var j e q;exact⟨v,q1,q2.ext ex⟩
noncomputable def bW(ib ik ir:Nat)(fk fe:DEnv->Z9 D):Z8 D->DEnv->Z8 (D×Z8 D)->Z9 (Z8 (D×Z8 D))
 |[],_,g=>some g
 |d::ds,δ,g=>match fk (δ.set ib (some (d,false)))with
  |some k=>(match fe (((δ.set ib (some (d,false))).set ik (some (k,false))).set ir none)with
   |some e=>if(bP 8 k&&vn k&&(bP 8 e&&vn e))=true then bW ib ik ir fk fe ds (((δ.set ib (some (d,false))).set ik (some (k,false))).set ir none) (aY g k e) else none
   |none=>none)
  |none=>none
noncomputable def AL(ig ib ik ir:Nat)(fi:DEnv->Z9 (Z8 D))(fk fe:DEnv->Z9 D)(δ:DEnv):Z9 Out:=
 if wE δ=true/\ig<δ.length/\ib<δ.length/\ik<δ.length/\ir<δ.length then
  (match fi (δ.set ig none)with
  |some ds=>if ds.length<lim then(match bW ib ik ir fk fe ds (δ.set ig none) []with|some g=>some (.ret (mV g) true)|none=>none) else none
  |none=>none) else none
def qE(h:AL ig ib ik ir fi fk fe δ=some o):aX δ/\(ig<δ.length/\ib<δ.length/\ik<δ.length/\ir<δ.length)/\∃ds g,fi (δ.set ig none)=some ds/\ds.length<lim/\bW ib ik ir fk fe ds (δ.set ig none) []=some g/\o=.ret (mV g) true:=by
 unfold AL at h;split at h
 .rename_i c
  split at h
  .rename_i ds q1
   split at h
   .rename_i hl
    split at h
    .rename_i g q2
     cases h;exact⟨rq c.1,c.2,ds,g,q1,hl,q2,rfl⟩
    .trivial
   .trivial
  .trivial
 .trivial
theorem fu:∀{g:Z8 (D×Z8 D)}{k e:D},¬k∈g.map (·.1)->aY (g++[(k,[])]) k e=aY g k e
 |[],k,e,_=>by simp[aY]
 |p::r,k,e,h=>by
  simp only[Z1,ZZ,Xs]at h;show aY (p::(r++[(k,[])])) k e=_;unfold aY;rw[ZY (λz=>h.1 z.symm),ZY (λz=>h.1 z.symm),fu h.2]
def v5{b_:Z8 (D×V)}{k:D}{v:V}(h:d6 b_ k=none):d6 (b_++[(k,v)]) k=some v:=by
 induction b_ with
 |nil=>exact bG rfl
 |cons p r ih=>
  by_cases c:p.1=k
  .rw[bG c]at h;trivial
  .rw[bE c]at h
   rw[List.cons_append,bE c];exact ih h
structure GInv (K:Z6)(B:ZN->Prop)(Hk:Hp)(ig l n:Nat)(δ:DEnv)(σ:St)(H:Hp)(g:List (D×List D)):Prop where
 rel:Rel K B Hk δ σ H
 no:aX δ
 at':σ[ig]?=some (some (.ref l))
 new:Hk l=none
 dict:∃b_ ep,H l=some (.dD b_ ep)/\GL Hk H l b_ g/\(b_.map (·.2)).Nodup
 len:g.length<=n
 lens:∀q∈g,q.2.length<=n
section
variable{X:Cx}{ig ib ik ir:Nat}{fk fe:DEnv->Z9 D}{p3 OI OH:Pos}
noncomputable def tGR(K:Z6)(ig:Nat):TS:=λDn σ H=>∃B Hk l b_ ep g,(∀a,B a->∃o:HOn,Hk a=some o.1)/\σ[ig]?=some (some (.ref l))/\H l=some (.dD b_ ep)/\GL Hk H l b_ g/\
 ∀H',Ext B H H'->(∀c o o',Hk c=some o'->H c=some o->H' c=some o)->ObR K B H' (mV g) l->Dn.rt (.ref l) H'
def zR(ng:Nm X ig xg):PS X (.Return (some (.Name xg QL)) QK) (tGR X.K ig):=by
 intro a_ s σ H Dn I ⟨B,Hk,l,b_,ep,g,hB,Nb,hl,gl,k⟩;obtain⟨H',I',e',k',l',r'⟩:=CB hB b_ g H I gl.m hl;exact gM (aT ng.at' ng.vis ng.d1 ng.d2) a_ s σ H' Dn I' ⟨.ref l,Nb,k H' e' k' ⟨b_,⟨ep,l'⟩,gl.keys,r'⟩⟩
def u0{K:Z6}{B:ZN->Prop}{Hk:Hp}{l n:Nat}{δ:DEnv}{σ:St}{H H3 H4:Hp}{g:Z8 (D×Z8 D)}{d k e:D}{v vk:V}{N:St->Hp->Prop}{Dn:Ends}
  (k_:ig<σ.length/\ib<σ.length/\ik<σ.length/\ir<σ.length) (h1:ig≠ib) (h2:ig≠ik) (h3:ig≠ir) (h5:ik≠ir) (hn:n<lim)
  (G:GInv K B Hk ig l n δ σ H g) (sy:Same H H3) (rv:Rep K B H3 d v) (qk:fk (δ.set ib (some (d,false)))=some k) (s4:Same H3 H4) (rk:Rep K B H4 k vk)
  (qe:fe (((δ.set ib (some (d,false))).set ik (some (k,false))).set ir none)=some e) (Pk:(bP 8 k&&vn k&&(bP 8 e&&vn e))=true)
  (fin:∀j_ H',Ext B H H'->GInv K B Hk ig l (n+1) (((δ.set ib (some (d,false))).set ik (some (k,false))).set ir none) j_ H' (aY g k e)->N j_ H'):
  DC (xB (DP rSetdef (tX ig) (oD (tX ik) (oD tDNewD tNil))) (gf ir)) (sPA (tX ir) (tM K false fe) (tC (.bl true))) {Dn with nx:=N} ((σ.set ib (some v)).set ik (some vk)) H4:=by
 simp only[ZH]at Pk;obtain⟨⟨k8,kt⟩,e8,et⟩:=Pk;obtain⟨lg,lb,lk,lr⟩:=k_;have R3:=(G.rel.to sy).set (i:=ib) lb rv;have R4:=(R3.to s4).set (i:=ik) (by rw[Zl];exact lk) rk
 have M4:aX ((δ.set ib (some (d,false))).set ik (some (k,false))):=fH (fH G.no);obtain⟨b_,ep,hl,gl,nd⟩:=G.dict;have Mg:=sy.trans s4;have Nr:H4 l=some (.dD b_ ep):=Mg l _ hl;have PR:GL Hk H4 l b_ g:=gl.to λp hp a ks HM e1 e2=>Mg a _ e2
 obtain⟨b,rfl⟩:=dM kt rk;have kr:KR H4 k (.ref b):=rk.key k8;have Ou:((σ.set ib (some v)).set ik (some (.ref b)))[ig]?=some (some (.ref l)):=by
  rw[ZW (ZD h2),ZW (ZD h1)];exact G.at'
 have Qb:((σ.set ib (some v)).set ik (some (.ref b)))[ik]?=some (some (.ref b)):=ZR (by rw[Zl];exact lk)
 refine⟨.ref l,Ou,⟨l,rfl,.inr ⟨b_,ep,.inl Nr⟩⟩,.ref b,Qb,λc hc=>?_⟩
 have cl:c≠l:=λz=>by subst z;rw[Nr]at hc;trivial
 have sc:=au (o:=.dD [] 0) hc;have KG:upd H4 c (.dD [] 0) l=some (.dD b_ ep):=sc l _ Nr;have MH:GL Hk (upd H4 c (.dD [] 0)) l b_ g:=PR.to λp hp a ks HM e1 e2=>sc a _ e2
 have M8:KR (upd H4 c (.dD [] 0)) k (.ref b):=(rk.ext (R4.ext sc)).key k8;have Rc:=R4.to sc;have xc:Ext B H (upd H4 c (.dD [] 0)):=G.rel.ext (Mg.trans sc);have am:∀(H5:Hp)(a:ZN)(G3:Z8 (D×V))(Ln:Nat)(g1:Z8 (D×Z8 D)),Ext B H H5->Rel K B Hk ((δ.set ib (some (d,false))).set ik (some (k,false))) ((σ.set ib (some v)).set ik (some (.ref b))) H5->H5 l=some (.dD G3 Ln)->GL Hk H5 l G3 g1->(G3.map (·.2)).Nodup->
   d6 G3 k=some (.ref a)->aY g1 k e=aY g k e->(∀q∈g1,q.2.length<=n)->
   sPA (tX ir) (tM K false fe) (tC (.bl true)) {Dn with nx:=N} (((σ.set ib (some v)).set ik (some (.ref b))).set ir (some (.ref a))) H5:=by
  intro H5 a G3 Ln g1 x5 R5 Rw PN OO O2 P1 OT;have R6:=R5.unset (i:=ir) (v:=.ref a) (by rw[Zl,Zl];exact lr)
  refine⟨.ref a,ZR (by rw[Zl,Zl];exact lr),B,Hk,_,e,R6,qe,λy H6 s6 ry=>?_⟩
  obtain⟨b2,rfl⟩:=dM et ry;obtain⟨p,hp,e1,e2⟩:=iO O2;obtain⟨es,⟨a',ks,HM,f1,f2,f3,f4,f5,f6⟩,q,hq,O7⟩:=PN.mem hp;rw[e1]at f1;cases f1;have NM:H6 a=some (.dD ks HM):=s6 a _ f4;have Jl:ks.length<=n:=by
   have:=OT q hq;rw[O7,<-f5,ZI]at this;exact this
  refine⟨a,rfl,.inr ⟨ks,HM,e,b2,NM,rfl,e8,ry.key e8,?_,λFX=>?_⟩⟩
  .exact ZA (Nat.lt_of_le_of_lt Jl hn) (aB (ZQ _))
  .have R7:=R6.to s6
   have Sr:GL Hk H6 l G3 g1:=PN.to λp hp a ks HM e1 e2=>s6 a _ e2
   obtain⟨x8,R8⟩:=R7.updX (o:=.dD (d7 ks e (.bl true)) FX) (d8 M4) f3 NM trivial;refine fin _ _ ((x5.trans (R5.ext s6)).trans x8) ⟨R8,d8 M4,?_,G.new,⟨G3,Ln,?_,?_,OO⟩,?_,?_⟩
   .rw[ZW (ZD h3)];exact Ou
   .rw[ai (ZD f2)];exact s6 l _ Rw
   .rw[<-P1];exact Sr.add OO O2 NM FX
   .have:=gC g k e;have:=G.len;lia
   .rw[<-P1];exact GL.lens (Hk:=Hk) (H:=H) (l:=l) OT
 cases hv:d6 b_ k with
 |some w=>
  obtain⟨p,hp,e1,e2⟩:=iO hv;obtain⟨es,⟨a,ks,HM,f1,f2,f3,f4,f5,f6⟩,q,hq,O7⟩:=MH.mem hp;have ew:w=.ref a:=by rw[<-e1,f1]
  subst ew;refine⟨l,.ref b,.ref c,.ref a,rfl,rfl,.inl ⟨.inr ⟨b_,ep,k,b,.inl KG,rfl,k8,M8,hv.symm⟩,?_,.inr ⟨b_,ep,KG⟩⟩⟩
  exact am _ a b_ ep g xc Rc KG MH nd hv rfl G.lens
 |none=>
  refine⟨l,.ref b,.ref c,.ref c,rfl,rfl,.inr ⟨.inr ⟨b_,ep,k,b,.inl KG,rfl,k8,M8,hv.symm⟩,rfl,.inr ⟨b_,ep,k,b,KG,rfl,k8,M8,?_,λFX=>?_⟩⟩⟩
  .rw[gl.length];exact ZA (Nat.lt_of_le_of_lt G.len hn) (aB (ZQ _))
  .have Ry:Hk c=none:=G.rel.same.free ((Mg.free hc))
   obtain⟨x5,R5⟩:=Rc.updX (o:=.dD (d7 b_ k (.ref c)) FX) M4 G.new KG trivial;have ek:¬k∈g.map (·.1):=by rw[<-gl.keys];exact vc hv
   refine am _ c (d7 b_ k (.ref c)) FX (g++[(k,[])]) (xc.trans x5) R5 ah ?_ ?_ ?_ (fu ek) ?_
   .rw[iu _ hv]
    refine GL.snoc (MH.to λp hp a ks HM e1 e2=>?_) ⟨c,[],0,rfl,cl,Ry,?_,rfl,λx hx=>by cases hx⟩
    .have:a≠l:=λz=>by
      obtain⟨es,⟨a2,QZ,SG,z1,z2,_⟩,_⟩:=MH.mem hp;rw[e1]at z1;cases z1;exact z2 z
     rw[ai this];exact e2
    .rw[ai cl];exact ah
   .rw[iu _ hv,Y0]
    refine Yb.mpr ⟨nd,by simp,λx hx y hy z=>?_⟩
    obtain rfl:y=.ref c:=by simpa using hy
    subst z;obtain⟨p,hp,e1⟩:=ZL.mp hx;obtain⟨es,⟨a2,QZ,SG,z1,z2,z3,z4,_⟩,_⟩:=PR.mem hp;rw[e1]at z1;cases z1;rw[hc]at z4;trivial
   .rw[iu _ hv];exact v5 hv
   .intro q hq
    rcases Zv.mp hq with hq|hq
    .exact G.lens q hq
    .rw[ZE.mp hq];exact Zs _
theorem pU(hp:PassesOwn (model X.prog X.w) X.A X.env X.xe)(hc:X.calm=true)(hu:X.A.units+64<cLine)(hN:X.N.Nodup)(ng:Nm X ig xg)(lg:Lc X ig xg)(lb:Lc X ib xb)(nk:Nm X ik xk)(lk:Lc X ik xk)(nr:Nm X ir xr)(lr:Lc X ir xr)
  (h1:ig≠ib) (h2:ig≠ik) (h3:ig≠ir) (h5:ik≠ir) (hi:DI X false (.Name xb p4) iter fi) (hk:DE X false ke fk) (he:DE X false ve fe)
  (hs:∀x,foldedSetIterable iter X.env x=pure x)
  (N7:swapsWith (.Dict [] [] p2) (some (.Name xg p1)) p3.line X.env=pure false)
  (J4:swapsWith ke (some (.Name xk p5)) p6.line X.env=pure false)
  (JZ:swapsWith (.Call (.Attribute (.Name xg p8) "setdefault" ap) [.Name xk p9,.Dict [] [] Jj] [] cp) (some (.Name xr p7)) OI.line X.env=pure false)
  (N6:swapsWith (.Constant (.bool true) kk QM) (some (.Subscript (.Name xr QO) ve QN)) OH.line X.env=pure false)
  (base:attributeBase (.Name xg p8) "setdefault" X.env (eval (.Name xg p8) X.env)=eval (.Name xg p8) X.env)
  (few:((backTo cp (starEach [.Name xk p9,.Dict [] [] Jj] X.env)).all (λx=>!x.1)&&(backToKw cp (keywordEach [] X.env)).all (λx=>x.1.isSome)&&decide (([Expr.Name xk p9,.Dict [] [] Jj]).length+([]:Z8 Keyword).length+(if([]:Z8 Keyword).isEmpty then 0 else 1)<30))=true)
  (line:(ap.endLine==cp.line)=true)(FP:starEach [.Name xk p9,.Dict [] [] Jj] X.env=(false,eval (.Name xk p9) X.env)::starEach [.Dict [] [] Jj] X.env)(Ge:starEach [.Dict [] [] Jj] X.env=[(false,eval (.Dict [] [] Jj) X.env)])(plain:(backTo cp (starEach [.Dict [] [] Jj] X.env)).any (·.1)=false):
  DSs X (.Assign [.Name xg p1] (.Dict [] [] p2) p3::
   .For (.Name xb p4) iter (.Assign [.Name xk p5] ke p6::
    .Assign [.Name xr p7] (.Call (.Attribute (.Name xg p8) "setdefault" ap) [.Name xk p9,.Dict [] [] Jj] [] cp) OI::
    .Assign [.Subscript (.Name xr QO) ve QN] (.Constant (.bool true) kk QM) OH::[]) [] Tg::
   .Return (some (.Name xg QL)) QK::[]) (AL ig ib ik ir fi fk fe):=by
 intro a_ s σ H Dn I hq;obtain⟨B,Hk,δ,o,R,e,M9⟩:=hq;obtain⟨no,⟨q1,q2,q3,q4⟩,ds,g,Gq,hl,hg,rfl⟩:=qE e;have Nb:=R.len;refine aR (fV hN lg.at' lg.loc iK N7 lg.fnl)
  (aR (mJ hp hc hi (iN hN lb.at' lb.loc lb.fnl)
   (aR (fV hN lk.at' lk.loc hk J4 lk.fnl)
    (aR (fV hN lr.at' lr.loc (pQ PySem.F.slot_dict_setdefault PySem.F.type_dict_setdefault (jO hu) (aT ng.at' ng.vis ng.d1 ng.d2) (aq (aT nk.at' nk.vis nk.d1 nk.d2) (aq iK aI Ge) FP) base few line FP plain) JZ lr.fnl)
     (c7 (mS hu (aT nr.at' nr.vis nr.d1 nr.d2) he Bw N6)))) hs)
   (c7 (zR ng))) a_ s σ H Dn I ?_
 intro p O9;have s1:=au (o:=.dD [] 0) O9;have R1:=(R.to s1).unset (i:=ig) (v:=.ref p) (by lia)
 have My:Hk p=none:=R.same.free O9;refine⟨B,Hk,_,ds,R1,Gq,λJ H2 s2 it=>?_⟩
 have IQ:ItD X.K B H2 J ds:=it;refine⟨λi n j_ H'=>n=ds.length - i/\i<=ds.length/\Ext B H2 H'/\∃h_ g',GInv X.K B Hk ig p i h_ j_ H' g'/\j_.length=σ.length/\bW ib ik ir fk fe (ds.drop i) h_ g'=some g,
  ⟨ds.length,by simp,Zs _,Ext.refl,_,[],⟨R1.to s2,d8 no,ZR (by lia),My,⟨[],0,s2 p _ ah,rfl,YX⟩,Zs _,λq hq=>by cases hq⟩,by rw[Zl],by simpa using hg⟩,?_⟩
 intro i n j_ H' hz;obtain⟨rfl,s_,x,h_,g',G,hlen,e'⟩:=hz;obtain⟨GG,JG⟩:=IQ H' x
 by_cases k_:i<ds.length
 .obtain⟨go,yl⟩:=JG i ds[i] (by simp[k_])
  refine .inr ⟨go,λF1 H3=>Ext B H2 H3/\∃h_ g',GInv X.K B Hk ig p (i+1) h_ F1 H3 g'/\F1.length=σ.length/\bW ib ik ir fk fe (ds.drop (i+1)) h_ g'=some g,λF1 H3 z=>⟨_,by lia,rfl,k_,z⟩,λv H3 hy=>?_⟩
  obtain⟨sy,rv⟩:=yl v H3 hy;rw[Zo k_]at e';simp only[bW]at e';split at e'
  .rename_i k qk
   split at e'
   .rename_i e2 qe
    split at e'
    .rename_i h8
     refine⟨B,Hk,_,k,(G.rel.to sy).set (i:=ib) (by lia) rv,qk,λvk H4 s4 rk=>?_⟩
     refine u0 (Dn:=Dn) ⟨by lia,by lia,by lia,by lia⟩ h1 h2 h3 h5 (by lia) G sy rv qk s4 rk qe h8 λF1 H5 x5 G5=>⟨x.trans x5,_,_,G5,?_,e'⟩
     have r1:=G5.rel.len;have r2:=G.rel.len;simp only[Zl]at r1
     lia
    .trivial
   .trivial
  .trivial
 .have Jo:i=ds.length:=by lia
  subst Jo;rw[Xm]at e';simp only[bW]at e';cases e';obtain⟨b_,ep,Ho,gl,nd⟩:=G.dict;refine .inl ⟨GG,B,Hk,p,b_,ep,g,R.bor,G.at',Ho,gl,λH' x' k' ob=>?_⟩
  have same:Same Hk H':=G.rel.same.keep k';exact M9 (.ref p) H' (((R.ext s1).trans (R1.ext s2)).trans (x.trans x')) same (by unfold ll;rw[Z0 rfl];exact .inl ⟨p,rfl,My,ob⟩)
end
abbrev IsZ(h:Heap)(z P O:ZN)(f:Z3)(b:Bool):Prop:=
 h.get? z=some {cls:=.type "zip",dict:=none,data:=.fields #[f,.bool b,.bool false,.ref P,.ref O],slots:=#[]}
structure Zq (t u:Bool)(h:Heap)(z P O c d p q:ZN)(n:Nat)(T:ZN)(b:Bool):Prop where
 zz:IsZ h z P O (rawInt T) b
 al:∃o,h.get? T=some o
 pp:IsPair h P (.ref c) (.ref d)
 oo:∃a b,IsPair h O a b
 cc:ItAt t h c p n
 dd:ItAt u h d q n
section
variable{A:Za}{E:Z3->ZP->Prop}{s:ZP}
def dZ(h:Q (s.heap.get? a) s):wpAny M A (loadIfAlive a) Q E s:=λΓ p _=>by
 unfold loadIfAlive;rw[Sem.wp_loadIfAlive];exact(Sem.wp_pure ..).mpr h
def ud{bo:Bool}{z P O T:ZN}{oT:Obj}{Q:Bool->ZP->Prop}(zz:IsZ s.heap z P O (rawInt T) bo)(al:s.heap.get? T=some oT)(h:∀GP,IsZ GP z P O (rawInt T) true->Heap.SameBut z s.heap GP->Q false {s with heap:=GP}):
  wpAny (model prog w) A (Builtin.SmallTypes.ownedTupleIsFree (.ref z)) Q E s:=by
 unfold Builtin.SmallTypes.ownedTupleIsFree;have RW:s.heap.get? (Int.toNat (T:Int))=some oT:=by rw[Int.toNat_natCast];exact al
 refine Z_ (XM zz rfl (x:=rawInt T) rfl ?_)
 unfold rawInt;dsimp only;refine Z_ (dZ ?_)
 rw[RW];simp only[Option.isNone_some,ZJ,Zc];refine Z_ (XM zz rfl (x:=.bool bo) rfl ?_)
 cases bo with
 |true=>
  rw[ZY (by decide)]
  exact Z4 (h _ zz ⟨rfl,λ_ _=>rfl⟩)
 |false=>
  rw[Z0 (by decide)]
  exact Z_ (Ye zz (by simp) λGP Ka x_=>Z4 (h GP Ka x_))
def pM{t u bo:Bool}{z P O c d p q T:ZN}{n:Nat}{xs ys:Array Z3}{Q:Z3->ZP->Prop}(hh:A.handled=none)(ap:Ap z P O c d p q)(hT:T∉[z,P,O,c,d])(Z:Zq t u s.heap z P O c d p q n T bo)
  (hp:SqAt t s.heap p xs) (hq:SqAt u s.heap q ys)
  (item:∀x y,xs[n]?=some x->ys[n]?=some y->∀h',Zq t u h' z P O c d p q (n+1) T true->IsPair h' s.heap.objs.size x y->h'.objs.size=s.heap.objs.size+1->
   (∀b o,b∉[z,P,O,c,d]->s.heap.get? b=some o->h'.get? b=some o)->Q (.ref s.heap.objs.size) {s with heap:=h'})
  (stop:(xs[n]?=none\/ys[n]?=none)->∀h' e,(∀b o,b∉[z,P,O,c,d]->s.heap.get? b=some o->h'.get? b=some o)->(∃o,h'.get? e=some o/\o.cls=.type "StopIteration")->E (.ref e) {s with heap:=h'}):
  wpAny (model prog w) A (Builtin.«zip.__next__» ⟨[.ref z],[]⟩) (λr s'=>∃v,r=.done (.ret v)/\Q v s') E s:=by
 obtain⟨zz,⟨oT,al⟩,pp,⟨a,b,oo⟩,cc,dd⟩:=Z;have nd:=ap.nd;have np:=ap.p;have nq:=ap.q;simp only[YJ,ZZ,Zu,YQ,Xs,YX,and_true,W8]at nd np nq hT;obtain⟨⟨zP,zO,zc,zd⟩,⟨PO,Pc,Pd⟩,⟨Oc,Od⟩,cd⟩:=nd;obtain⟨pz,pP,pO,pc,pd⟩:=np;obtain⟨qz,qP,qO,qc,qd⟩:=nq;obtain⟨Tz,TP,TO,Tc,Td⟩:=hT;change wpAny _ _ (field (.ref z) 2 >>= _) _ E s;refine Z_ (XM zz rfl (x:=.bool false) rfl ?_)
 change wpAny _ _ (field (.ref z) 3 >>= _) _ E s;refine Z_ (XM zz rfl (x:=.ref P) rfl (Z_ (Ys pp rfl ?_)))
 change wpAny _ _ (Builtin.SmallTypes.ownedTupleIsFree (.ref z) >>= _) _ E s;refine Z_ (ud zz al λGP HV x_=>?_)
 simp only[ZJ,Zc];rw[<-Array.forIn_toList];simp only[WO,List.forIn_nil];refine Z_ (Z_ (Z_ (Y3 ?_)))
 change wpAny _ _ (Builtin.SmallTypes.nextOf (.ref c) >>= _) _ _ _;refine Z_ (Ck (t:=t) hh (cc.to λo e=>ag x_ (ZD zc) e) (hp.to λo e=>ag x_ pz e) (λx hx Hy Je w_=>Z4 ?_) λhx Hy e w_ he=>?_)
 .dsimp only
  refine Z4 ?_
  dsimp only;refine Z_ (Z_ (Y3 ?_))
  change wpAny _ _ (Builtin.SmallTypes.nextOf (.ref d) >>= _) _ _ _;refine Z_ (Ck (t:=u) hh (dd.to λo e=>ag w_ (ZD cd) (ag x_ (ZD zd) e)) (hq.to λo e=>ag w_ qc (ag x_ qz e)) (λy hy FN Kb FQ=>Z4 ?_) λhy FN e FQ he=>?_)
  .dsimp only
   refine Z4 (Z4 ?_)
   dsimp only;refine Z_ (Wt (Z4 ⟨_,rfl,?_⟩) (by show 2<=sizeLine;rw[X3];lia))
   have sz:FN.objs.size=s.heap.objs.size:=by rw[FQ.1,w_.1,x_.1]
   have old:∀f o,f≠z->f≠c->f≠d->s.heap.get? f=some o->FN.get? f=some o:=λf o n1 n3 n4 e=>ag FQ n4 (ag w_ n3 (ag x_ n1 e))
   have IW:IsZ FN z P O (rawInt T) true:=ag FQ zd (ag w_ zc HV);have up:∀f o,FN.get? f=some o->(FN.push {cls:=.type "tuple",data:=.seq #[x,y]}).get? f=some o:=λf o e=>Z5 _ e
   have new:IsPair (FN.push {cls:=.type "tuple",data:=.seq #[x,y]}) FN.objs.size x y:=ZK _ rfl
   have KQ:(FN.push {cls:=.type "tuple",data:=.seq #[x,y]}).objs.size=FN.objs.size+1:=YM ..;show Q (.ref FN.objs.size) _;rw[sz]at new KQ⊢;refine item x y hx hy _ ⟨up _ _ IW,⟨oT,up _ _ (old _ _ Tz Tc Td al)⟩,up _ _ (old _ _ (ZD zP) Pc Pd pp),⟨a,b,up _ _ (old _ _ (ZD zO) Oc Od oo)⟩,?_,?_⟩ new KQ λf o hf e=>?_
   .exact Je.to λo e=>up _ o (ag FQ cd e)
   .exact Kb.to λo e=>up _ o e
   .simp only[ZZ,Zu,YQ,Xs]at hf
    exact up f o (old f o hf.1 hf.2.2.2.1 hf.2.2.2.2 e)
  .refine stop (.inr hy) FN e (λf o hf g=>?_) he
   simp only[ZZ,Zu,YQ,Xs]at hf;obtain⟨n1,_,n2,n3,n4⟩:=hf;exact FQ _ _ n4 (ag w_ n3 (ag x_ n1 g))
 .refine stop (.inl hx) Hy e (λf o hf g=>?_) he
  simp only[ZZ,Zu,YQ,Xs]at hf;exact w_ _ _ hf.2.2.2.1 (ag x_ hf.1 g)
def ZS(t u:Bool)(h:Heap)(z P O c d p q:ZN)(n:Nat):Prop:=Zp t u h z P O c d p q n .none\/∃T b,T∉[z,P,O,c,d]/\Zq t u h z P O c d p q n T b
theorem ZS.to(Z:ZS t u h z P O c d p q n)(k:∀b o,b≠S->h.get? b=some o->h'.get? b=some o)(hS:S∉[z,P,O,c,d])(he:∃o,h'.get? S=some o):ZS t u h' z P O c d p q n:=by
 have ne:∀b∈[z,P,O,c,d],b≠S:=λb hb e=>hS (by rw[<-e];exact hb)
 rcases Z with⟨zz,pp,⟨a,b,oo⟩,cc,dd⟩|⟨T,bo,nT,⟨zz,⟨o,al⟩,pp,⟨a,b,oo⟩,cc,dd⟩⟩
 .exact .inl ⟨k _ _ (ne z (by simp)) zz,k _ _ (ne P (by simp)) pp,⟨a,b,k _ _ (ne O (by simp)) oo⟩,cc.to λo e=>k _ o (ne c (by simp)) e,dd.to λo e=>k _ o (ne d (by simp)) e⟩
 .refine .inr ⟨T,bo,nT,k _ _ (ne z (by simp)) zz,?_,k _ _ (ne P (by simp)) pp,⟨a,b,k _ _ (ne O (by simp)) oo⟩,cc.to λo e=>k _ o (ne c (by simp)) e,dd.to λo e=>k _ o (ne d (by simp)) e⟩
  by_cases e:T=S
  .rw[e];exact he
  .exact⟨o,k _ _ e al⟩
def jM(hh:A.handled=none)(ap:Ap z P O c d p q)(Z:ZS t u s.heap z P O c d p q n)(hp:SqAt t s.heap p xs)(hq:SqAt u s.heap q ys)(item:∀x y,xs[n]?=some x->ys[n]?=some y->∀h',ZS t u h' z P O c d p q (n+1)->IsPair h' s.heap.objs.size x y->h'.objs.size=s.heap.objs.size+1->
   (∀b o,b∉[z,P,O,c,d]->s.heap.get? b=some o->h'.get? b=some o)->Q (some (.ref s.heap.objs.size)) {s with heap:=h'}) (stop:(xs[n]?=none\/ys[n]?=none)->∀h',(∀b o,b∉[z,P,O,c,d]->s.heap.get? b=some o->h'.get? b=some o)->Q none {s with heap:=h'}):
  wpAny (model prog w) A (pyNext (.ref z)) Q E s:=by
 have lts:∀b∈[z,P,O,c,d],b<s.heap.objs.size:=λb hb=>by
  rcases Z with⟨zz,pp,⟨a,b',oo⟩,cc,dd⟩|⟨T,bo,nT,⟨zz,⟨o,al⟩,pp,⟨a,b',oo⟩,cc,dd⟩⟩<;>
   (simp only[ZZ,Zu,YQ]at hb
    rcases hb with rfl|rfl|rfl|rfl|rfl
    .exact ZT zz
    .exact ZT pp
    .exact ZT oo
    .obtain⟨o,e,_⟩:=cc.obj;exact ZT e
    .obtain⟨o,e,_⟩:=dd.obj;exact ZT e)
 rcases Z with Z|⟨T,bo,nT,Z⟩
 .refine iC hh ap Z hp hq (λx y hx hy h' Z' new sz k=>item x y hx hy h' (.inr ⟨s.heap.objs.size,false,λhm=>Zd _ (lts _ hm),?_⟩) new sz k) stop
  obtain⟨zz,pp,oo,cc,dd⟩:=Z';exact⟨zz,⟨_,new⟩,pp,oo,cc,dd⟩
 .have ty:s.TypeIs (.ref z) "zip":=⟨_,Z.zz,rfl⟩
  unfold pyNext;refine Z_ (XX (YF (name:=Str.ofString "__next__") ty Ww (Y8 Ww ty F.entry_zip_next (pM hh ap nT Z hp hq (λx y hx hy h' b1 b2 b3 b4=>Z4 (item x y hx hy h' (.inr ⟨T,true,nT,b1⟩) b2 b3 b4)) λhn h' e k he=>?_) (F.args_zip_next_1 _))))
  obtain⟨o,ho,hc⟩:=he;exact Z_ (Yh (T:="StopIteration") (b:=true) ⟨o,ho,hc⟩ W0 (Z4 (stop hn h' k)))
def Made(h:Heap)(lo:ZN)(xs ys:Array Z3):Nat->Z8 Z3->Prop
 |_,[]=>True
 |i,v::r=>∃T x y,v=.ref T/\lo<=T/\xs[i]?=some x/\ys[i]?=some y/\IsPair h T x y/\(∀v'∈r,v'≠v)/\Made h lo xs ys (i+1) r
theorem Made.to{h h':Heap}{lo:ZN}{xs ys:Array Z3}:∀{i:Nat}{l:Z8 Z3},Made h lo xs ys i l->(∀T,.ref T∈l->∀o,h.get? T=some o->h'.get? T=some o)->Made h' lo xs ys i l
 |_,[],_,_=>trivial
 |i,v::r,hz,k=>by obtain⟨T,x,y,h1,h2,h3,h4,h5,h6,h7⟩:=hz;exact⟨T,x,y,h1,h2,h3,h4,k T (by rw[h1];simp) _ h5,h6,h7.to λT' hT=>k T' (Z2 _ hT)⟩
theorem Made.snoc{h:Heap}{lo T:ZN}{xs ys:Array Z3}{x y:Z3}:∀{i:Nat}{l:Z8 Z3},Made h lo xs ys i l->lo<=T->xs[i+l.length]?=some x->ys[i+l.length]?=some y->IsPair h T x y->(∀v∈l,v≠.ref T)->Made h lo xs ys i (l++[.ref T])
 |i,[],_,a1,a2,a3,a4,_=>⟨T,x,y,rfl,a1,a2,a3,a4,λv hv=>(by trivial),trivial⟩
 |i,v::r,hz,a1,a2,a3,a4,a5=>by
  obtain⟨T',x',y',h1,h2,h3,h4,h5,h6,h7⟩:=hz;refine⟨T',x',y',h1,h2,h3,h4,h5,λv' Gm=>?_,h7.snoc a1 (by rw[List.length_cons]at a2;rw[show i+1+r.length=i+(r.length+1) by lia];exact a2) (by rw[List.length_cons]at a3;rw[show i+1+r.length=i+(r.length+1) by lia];exact a3) a4 λv' Gm=>a5 v' (Z2 _ Gm)⟩
  rcases Zv.mp Gm with Gm|Gm
  .exact h6 v' Gm
  .rw[ZE.mp Gm];exact ZD (a5 v (ZX ..))
theorem Made.lt{h:Heap}{lo:ZN}{xs ys:Array Z3}:∀{i:Nat}{l:Z8 Z3},Made h lo xs ys i l->∀v∈l,∃T,v=.ref T/\T<h.objs.size/\lo<=T
 |_,[],_,v,hv=>by trivial
 |i,v::r,hz,v',hv=>by
  obtain⟨T,x,y,h1,h2,h3,h4,h5,h6,h7⟩:=hz
  rcases ZZ.mp hv with rfl|hv
  .exact⟨T,h1,ZT h5,h2⟩
  .exact h7.lt v' hv
def lL{R:Result->ZP->Prop}{t u:Bool}{z P O c d p q S lo:ZN}{xs ys:Array Z3}{res:Z3}{n:Nat}(hh:A.handled=none)(ap:Ap z P O c d p q)(hS:S∉[z,P,O,c,d])(pS:p≠S)(qS:q≠S)(S_:n=min xs.size ys.size)(hn:n<=sizeLine)(bl:∀b∈[z,P,O,c,d],lo<=b)(bS:lo<=S):
  ∀(k i:Nat)(s:ZP)(acc:Array Z3)(e:Nat),n - i=k->i<=n->ZS t u s.heap z P O c d p q i->SqAt t s.heap p xs->SqAt u s.heap q ys->s.heap.get? S=some {cls:=.type "list",dict:=none,data:=.seq acc e,slots:=#[]}->acc.size=i->Made s.heap lo xs ys 0 acc.toList->lo<=s.heap.objs.size->(∀T,.ref T∈acc.toList->T∉S::[z,P,O,c,d])->
  (∀s' m_ e',(∀b o,b∉S::[z,P,O,c,d]->s.heap.get? b=some o->s'.heap.get? b=some o)->s'.heap.get? S=some {cls:=.type "list",dict:=none,data:=.seq m_ e',slots:=#[]}->m_.size=n->Made s'.heap lo xs ys 0 m_.toList->(∃h' tk,s'={s with heap:=h',toks:=tk})->R (.ok (.ret res)) s')->
  codeAny (model prog w) A (.builtin "list.extend.loop" ⟨[.ref S,.ref z,res],[]⟩) R s:=by
 intro k
 induction k with
 |zero=>
  intro i s acc e hk hi Z hp hq hL ha hm Ha hT hR;have Hr:i=n:=by lia
  subst Hr;refine YC F.entry_extend_loop ?_
  rw[Y4 XQ _];show wpAny _ A.in1 (pyNext (.ref z) >>= _) _ _ s;refine Z_ (jM (show A.in1.handled=none from hh) ap Z hp hq (λx y hx hy=>?_) λ_ h' kp=>?_)
  .exfalso
   have a1:=(XF.mp hx).1
   have a2:=(XF.mp hy).1
   lia
  .refine Z4 (hR _ acc e (λb o hb g=>kp b o (λz=>hb (Z2 _ z)) g) (kp S _ hS hL) ha (hm.to λT GJ o g=>kp T o (λz=>hT T GJ (Z2 _ z)) g) ⟨h',s.toks,rfl⟩)
 |succ k ih=>
  intro i s acc e hk hi Z hp hq hL ha hm Ha hT hR;have k_:i<n:=by lia
  refine YC F.entry_extend_loop ?_
  rw[Y4 XQ _];show wpAny _ A.in1 (pyNext (.ref z) >>= _) _ _ s;refine Z_ (jM (show A.in1.handled=none from hh) ap Z hp hq (λx y hx hy h' Z' new sz kp=>?_) λHJ h' kp=>?_)
  .have PL:=kp S _ hS hL
   have Ov:∀b∈S::[z,P,O,c,d],b≠s.heap.objs.size:=λb hb e'=>by
    rcases ZZ.mp hb with rfl|hb
    .exact absurd (ZT hL) (by rw[e'];exact Zd _)
    .have:b<s.heap.objs.size:=by
      rcases Z with⟨zz,pp,⟨a,b',oo⟩,cc,dd⟩|⟨T,bo,nT,⟨zz,⟨o,al⟩,pp,⟨a,b',oo⟩,cc,dd⟩⟩<;>
       (simp only[ZZ,Zu,YQ]at hb
        rcases hb with rfl|rfl|rfl|rfl|rfl
        .exact ZT zz
        .exact ZT pp
        .exact ZT oo
        .obtain⟨o,e,_⟩:=cc.obj;exact ZT e
        .obtain⟨o,e,_⟩:=dd.obj;exact ZT e)
     rw[e']at this;exact Zd _ this
   show wpAny _ A.in1 (updateSeq S (·.push (.ref s.heap.objs.size)) >>= _) _ _ _
   refine Z_ (Ym PL rfl (Z4 ⟨Yp XQ _,?_⟩) (by rw[ha];lia) (by show(acc.push _).size<=sizeLine+1;rw[Array.size_push,ha];lia))
   have sb:=Ze h' S (Obj.mapSeq (·.push (.ref s.heap.objs.size)))
   have GD:∀b o,b≠S->h'.get? b=some o->(h'.update S (Obj.mapSeq (·.push (.ref s.heap.objs.size)))).get? b=some o:=λb o hb g=>(sb.2 b hb).trans g
   have gS:=Zj (Obj.mapSeq (·.push (Value.ref s.heap.objs.size))) PL rfl
   refine ih (i+1) _ (acc.push (.ref s.heap.objs.size)) _ (by lia) k_ (Z'.to GD hS ⟨_,gS⟩) (hp.to λo g=>GD _ o pS (kp _ o ap.p g)) (hq.to λo g=>GD _ o qS (kp _ o ap.q g)) gS (by rw[Array.size_push,ha]) ?_ ?_ ?_ λs' m_ e' k1 k2 k3 k4 k5=>?_
   .rw[YA]
    refine(hm.to λT GJ o g=>GD _ o (λz=>hT T GJ (by rw[z];exact ZX ..)) (kp T o (λz=>hT T GJ (Z2 _ z)) g)).snoc Ha ?_ ?_ (GD _ _ (ZD (Ov S (ZX ..))) new) λv hv z=>?_
    .rw[Array.length_toList,ha,XT];exact hx
    .rw[Array.length_toList,ha,XT];exact hy
    .obtain⟨T,rfl,lt,_⟩:=hm.lt v hv
     cases z;exact Zd _ lt
   .show lo<=(Heap.update h' S _).objs.size
    rw[sb.1,sz];exact Zr Ha (Xj _)
   .intro T GJ
    rw[YA]at GJ
    rcases Zv.mp GJ with GJ|GJ
    .exact hT T GJ
    .have:T=s.heap.objs.size:=by simpa using GJ
     intro JD;exact Ov T JD this
   .refine hR s' m_ e' (λb o hb g=>k1 b o hb (GD b o (λz=>hb (by rw[z];exact ZX ..)) (kp b o (λz=>hb (Z2 _ z)) g))) k2 k3 k4 ?_
    obtain⟨h2,tk,e2⟩:=k5;exact⟨h2,tk,e2⟩
  .exfalso
   rcases HJ with HJ|HJ
   .rw[Array.getElem?_eq_none_iff]at HJ;lia
   .rw[Array.getElem?_eq_none_iff]at HJ;lia
def kg:typeLookup (.type "zip") "__len__"=pure none:=by rw[Wx,Xg];kernel_rfl
def iZ:typeLookup (.type "zip") "__length_hint__"=pure none:=by rw[Wx,Xg];kernel_rfl
def oO{R:Result->ZP->Prop}(hh:A.handled=none){t u:Bool}{z P O c d p q S lo:ZN}{xs ys:Array Z3}{Kc:Nat}(ap:Ap z P O c d p q)(hS:S∉[z,P,O,c,d])(pS:p≠S)(qS:q≠S)(hn:min xs.size ys.size<=sizeLine)(bl:∀b∈[z,P,O,c,d],lo<=b)(bS:lo<=S)(res:Z3)
  (Z:Zp t u s.heap z P O c d p q 0 .none) (hp:SqAt t s.heap p xs) (hq:SqAt u s.heap q ys) (Ha:lo<=s.heap.objs.size)
  (hL:s.heap.get? S=some {cls:=.type "list",data:=.seq #[] Kc})
  (hR:∀s' m_ e',(∀b o,b∉S::[z,P,O,c,d]->s.heap.get? b=some o->s'.heap.get? b=some o)->s'.heap.get? S=some {cls:=.type "list",dict:=none,data:=.seq m_ e',slots:=#[]}->m_.size=min xs.size ys.size->Made s'.heap lo xs ys 0 m_.toList->(∃h' tk,s'={s with heap:=h',toks:=tk})->R (.ok (.ret res)) s'):
  wpAny (model prog w) A.in1 (Builtin.List.listExtendWith (.ref S) (.ref z) res)
   (λfin s'=>match fin with|.done f=>R (.ok f) s'|.again c'=>c'.quiet=true/\codeAny (model prog w) A c' R s') (λe s'=>R (.error e) s') s:=by
 have ty:s.TypeIs (.ref z) "zip":=⟨_,Z.zz,rfl⟩;have QV:S≠z:=λe=>hS (by rw[e];simp)
 unfold Builtin.List.listExtendWith;refine Z_ (WD ty ?_)
 simp only[show Builtin.List.listSameRef (.ref S) (.ref z)=false by simp[Builtin.List.listSameRef,QV],show(Value.type "zip"==Value.type "list")=false by decide,show(Value.type "zip"==Value.type "tuple")=false by decide,Bool.or_false,ZJ,Zc]
 refine Z_ (wpAny_pyIter_zip Z.zz (Z_ (Y3 ?_)))
 unfold Builtin.List.listLengthHint;refine Z_ (X6 ty kg ?_)
 dsimp only;change wpAny _ _ (specialOf (.ref z) "__length_hint__" >>= _) _ _ _;refine Z_ (X6 ty iZ (Z4 ?_))
 rw[Z0 (by simp)]
 refine Z_ (YV (Z_ ?_))
 change wpAny _ A.in1 (updateSeq S (·.push .none) >>= λ_=>updateSeq S (·.pop)) _ _ _
 have IU:=Zj (Obj.mapSeq (·.push Value.none)) hL rfl
 refine Z_ (Ym hL rfl (Ym (hz:=by seq_fits) IU rfl ?_))
 have JO:=Zj (Obj.mapSeq (·.pop)) IU rfl
 have GD:∀b o,b≠S->s.heap.get? b=some o->((s.heap.update S (Obj.mapSeq (·.push Value.none))).update S (Obj.mapSeq (·.pop))).get? b=some o:=
  λb o hb e=>(Zm _ _ (ZD hb)).trans ((Zm _ _ (ZD hb)).trans e)
 refine Z4 ⟨Yp XQ _,lL hh ap hS pS qS rfl hn bl bS _ 0 _ _ _ rfl (Zs _) ((show ZS t u s.heap z P O c d p q 0 from .inl Z).to GD hS ⟨_,JO⟩) (hp.to λo e=>GD _ o pS e) (hq.to λo e=>GD _ o qS e) JO (by simp) (by simp[Made]) ?_ (by simp) λs' m_ e' k1 k2 k3 k4 k5=>?_⟩
 .show lo<=(Heap.update (Heap.update s.heap S _) S _).objs.size
  rw[Xy,Xy];exact Ha
 .obtain⟨h',tk,e2⟩:=k5
  exact hR s' m_ e' (λb o hb e=>k1 b o hb (GD b o (λz=>hb (by rw[z];exact ZX ..)) e)) k2 k3 k4 ⟨h',tk,e2⟩
def hJ{Q:Z3->ZP->Prop}(hh:A.handled=none){t u:Bool}{z P O c d p q:ZN}{xs ys:Array Z3}(ap:Ap z P O c d p q)(hn:min xs.size ys.size<=sizeLine){lo:ZN}(bl:∀b∈[z,P,O,c,d],lo<=b)(Ha:lo<=s.heap.objs.size)
  (Z:Zp t u s.heap z P O c d p q 0 .none) (hp:SqAt t s.heap p xs) (hq:SqAt u s.heap q ys)
  (hQ:∀h' tk m_ e',(∀b o,b∉[z,P,O,c,d]->s.heap.get? b=some o->h'.get? b=some o)->h'.get? s.heap.objs.size=some {cls:=.type "list",dict:=none,data:=.seq m_ e',slots:=#[]}->m_.size=min xs.size ys.size->Made h' lo xs ys 0 m_.toList->Q (.ref s.heap.objs.size) {s with heap:=h',toks:=tk}):
  wpAny (model prog w) A (call (.type "list") [.ref z]) Q E s:=by
 refine callType_codes (Q₁:=λobj g_=>obj=.ref s.heap.objs.size/\g_={s with heap:=s.heap.push {cls:=.type "list",data:=.seq #[]}}) F.called_list (F.typeCall_list_1 _) F.entry_list_init (code_list_new _ ⟨rfl,rfl⟩) λobj g_ F6=>?_
 obtain⟨rfl,rfl⟩:=F6;have hS:(s.heap.push {cls:=.type "list",data:=.seq #[]}).get? s.heap.objs.size=some {cls:=.type "list",data:=.seq #[]}:=ZK _ rfl
 refine⟨⟨_,hS,rfl⟩,F.args_list_init_2 _ _,?_⟩
 change wpAny _ _ (do let old <-Builtin.List.listItems (.ref s.heap.objs.size);Builtin.List.listUpdate (.ref s.heap.objs.size) (λ_=>#[]);letGo old.toList.reverse;Builtin.List.listExtendWith (.ref s.heap.objs.size) (.ref z) .none) _ _ _
 refine Z_ ?_
 unfold Builtin.List.listItems;refine Z_ (Ys hS rfl (Z4 ?_))
 change wpAny _ _ (updateSeq s.heap.objs.size (λ_=>#[]) >>= λ_=>letGo (#[]:Array Z3).toList.reverse >>= λ_=>Builtin.List.listExtendWith (.ref s.heap.objs.size) (.ref z) .none) _ _ _
 have IU:=Zj (Obj.mapSeq (λ_=>(#[]:Array Z3))) hS rfl
 have up:∀b ob,s.heap.get? b=some ob->((s.heap.push {cls:=.type "list",data:=.seq #[]}).update s.heap.objs.size (Obj.mapSeq (λ_=>(#[]:Array Z3)))).get? b=some ob:=λb ob e=>(Zm _ _ (ZD (Zw (ZT e)))).trans (Z5 _ e)
 have lts:∀b∈[z,P,O,c,d],b<s.heap.objs.size:=λb hb=>by
  obtain⟨zz,pp,⟨a,b',oo⟩,cc,dd⟩:=Z;simp only[ZZ,Zu,YQ]at hb
  rcases hb with rfl|rfl|rfl|rfl|rfl
  .exact ZT zz
  .exact ZT pp
  .exact ZT oo
  .obtain⟨o,e,_⟩:=cc.obj;exact ZT e
  .obtain⟨o,e,_⟩:=dd.obj;exact ZT e
 have lp:p<s.heap.objs.size:=by cases t<;>(obtain⟨o,e,_⟩:=hp;exact ZT e)
 have lq:q<s.heap.objs.size:=by cases u<;>(obtain⟨o,e,_⟩:=hq;exact ZT e)
 refine Z_ (Ym hS rfl (Z_ (Ws ?_)))
 obtain⟨zz,pp,⟨a,b',oo⟩,cc,dd⟩:=Z;refine oO (A:=A.in1) hh ap (λhm=>Zd _ (lts _ hm)) (Zw lp) (Zw lq) hn bl Ha .none ⟨up _ _ zz,up _ _ pp,⟨a,b',up _ _ oo⟩,cc.to λo e=>up _ o e,dd.to λo e=>up _ o e⟩ (hp.to λo e=>up _ o e) (hq.to λo e=>up _ o e) ?_ IU λs' m_ e' k1 k2 k3 k4 k5=>?_
 .show lo<=(Heap.update (Heap.push s.heap _) _ _).objs.size
  rw[Xy,YM];exact Zr Ha (Xj _)
 .obtain⟨h',tk,rfl⟩:=k5
  exact⟨rfl,hQ h' tk m_ e' (λb ob hb e=>k1 b ob (λhm=>(ZZ.mp hm).elim (λz=>Zw (ZT e) z) hb) (up b ob e)) k2 k3 k4⟩
end
def ZipV(H:Hp):Z8 V->Z8 V->Z8 V->Prop
 |x::xs,y::ys,vs=>∃T r,vs=.ref T::r/\H T=some (.tup [x,y])/\ZipV H xs ys r
 |_,_,vs=>vs=[]
section
variable{X:Cx}{a_:Z8 (ZN×Obj)}{σ:St}{s:ZP}
theorem gH{lo:ZN}{is js:Z8 Z3}(Ha:X.o_.heap.objs.size<=lo):∀(l:Z8 Z3)(i:Nat)(H:Hp)(xs ys:Z8 V),Inv X a_ σ H s->Made s.heap lo is.toArray js.toArray i l->(∀T,.ref T∈l->eP X a_ H T)->Vals xs (is.drop i)->Vals ys (js.drop i)->l.length=min xs.length ys.length->
  ∃H' vs,Inv X a_ σ H' s/\Same H H'/\(∀c,.ref c∉l->H' c=H c)/\ZipV H' xs ys vs/\Vals vs l
 |[],i,H,xs,ys,I,m,f,vx,vy,hl=>by
  refine⟨H,[],I,Same.refl H,λ_ _=>rfl,?_,.nil⟩
  cases xs with
  |nil=>exact rfl
  |cons x xs=>cases ys with
   |nil=>exact rfl
   |cons y ys=>simp at hl
 |v::r,i,H,xs,ys,I,hz,f,vx,vy,hl=>by
  obtain⟨T,x,y,e1,e2,e3,e4,e5,e6,e7⟩:=hz;subst e1;cases xs with
  |nil=>simp at hl
  |cons x' xs=>cases ys with
   |nil=>simp at hl
   |cons y' ys=>
    have hi:i<is.length:=by simpa using(XF.mp e3).1
    have hj:i<js.length:=by simpa using(XF.mp e4).1
    rw[Zo hi]at vx;rw[Zo hj]at vy;cases vx with
    |cons a1 a2=>cases vy with
     |cons b1 b2=>
      have ex:is[i]=x:=by simpa[hi]using e3
      have ey:js[i]=y:=by simpa[hj]using e4
      rw[ex]at a1;rw[ey]at b1;have fT:=f T (ZX ..);have I1:=I.track (o:=.tup [x',y']) fT (Zr Ha e2) ⟨by show 2<=sizeLine;rw[X3];lia,[x,y],.cons a1 (.cons b1 .nil),⟨_,e5,rfl,_,rfl⟩⟩
      have ne:∀T',Value.ref T'∈r->T'≠T:=λT' GJ z=>e6 _ GJ (by rw[z])
      obtain⟨H',vs,i1,i2,i3,i4,i5⟩:=gH Ha r (i+1) (upd H T (.tup [x',y'])) xs ys I1 e7 (λT' GJ=>⟨by rw[ai (ne T' GJ)];exact(f T' (Z2 _ GJ)).1,(f T' (Z2 _ GJ)).2⟩) a2 b2 (by simp at hl;lia)
      have sT:=au (o:=.tup [x',y']) fT.1;refine⟨H',.ref T::vs,i1,sT.trans i2,λc hc=>?_,⟨T,vs,rfl,i2 T _ ah,i4⟩,.cons rfl i5⟩
      rw[i3 c (λz=>hc (Z2 _ z)),ai (λz=>hc (by rw[z];exact ZX ..))]
variable{t u:Bool}{ta:TA}{p:Pos}
noncomputable def tLZ(t u:Bool)(K:Z6)(ta:TA):TE:=λσ H Q=>ta σ H λvs H1=>∃p q xs ys,vs=[.ref p,.ref q]/\SqV t K H1 p xs/\SqV u K H1 q ys/\min xs.length ys.length<=sizeLine/\∀S H2,Same H1 H2->H1 S=none->(∃vs,H2 S=some (.lst vs)/\ZipV H2 xs ys vs)->Q (.ref S) H2
theorem ZipV.to(s:∀T xs,H T=some (.tup xs)->H' T=some (.tup xs)):∀{xs ys vs:Z8 V},ZipV H xs ys vs->ZipV H' xs ys vs
 |[],ys,vs,h=>by cases ys<;>exact h
 |x::xs,[],vs,h=>h
 |x::xs,y::ys,vs,hz=>by obtain⟨T,r,h1,h2,h3⟩:=hz;exact⟨T,r,h1,s _ _ h2,h3.to s⟩
def oM(hc:X.calm=true)(gl:Gl X "list")(hl:X.mg "list"=none)(gz:Gl X "zip")(hz:X.mg "zip"=none)(ha:PA X [a,b] ta)(hs:starEach [a,b] X.env=[(false,eval a X.env),(false,eval b X.env)]:=by rfl)(Gp:starEach [b] X.env=[(false,eval b X.env)]:=by rfl)
  (K_:starEach [.Call (.Name "zip" p2) [a,b] [] F2] X.env=[(false,eval (.Call (.Name "zip" p2) [a,b] [] F2) X.env)]:=by rfl):
  PE X (.Call (.Name "list" p) [.Call (.Name "zip" p2) [a,b] [] F2] [] pos) (tLZ t u X.K ta):=by
 intro a_ s σ H Q I h;refine XJ (dG I gl hl mM (Yw ?_ K_ (by rfl)) (by decide) (by decide))
 rw[K_];show wpAny _ _ (spliced ((false,eval (.Call (.Name "zip" p2) [a,b] [] F2) X.env)::backTo pos (starEach [] X.env))) _ _ s;refine Calls.spliced_cons (XJ (dG I gz hz boot_zip (Yw (thn (ha F2 a_ s σ H _ I h) λus s1 ⟨vs,H1,I1,r1,q1⟩=>?_) (by rw[hs,Gp]) (by rw[Gp];rfl)) (by decide) (by decide)))
 obtain⟨l1,l2,xs,ys,e,h1,h2,hm,q⟩:=q1;subst e;cases r1 with
 |cons r rr=>
  cases rr with
  |cons r' rr=>
   cases rr;cases r;cases r';obtain⟨is,ri,sp⟩:=I1.seqV h1;obtain⟨js,rj,sq⟩:=I1.seqV h2;refine mX sp sq λz P O c d h' ap Z hi k=>Calls.spliced_nil ?_
   have up1:SqAt t h' l1 is.toArray:=sp.to λo e=>k _ o e
   have Qr:SqAt u h' l2 js.toArray:=sq.to λo e=>k _ o e
   have hsz:s1.heap.objs.size<=h'.objs.size:=Zr (hi z (by simp)) (WW (ZT Z.zz))
   refine hJ (s:={s1 with heap:=h'}) (I1.ok.hd hc) ap (by rw[ZU,ZU,<-ri.length,<-rj.length];exact hm) (lo:=s1.heap.objs.size) hi hsz Z up1 Qr λh2 tk acc e' k1 k2 k3 k4=>?_
   have kk:∀b o,s1.heap.get? b=some o->h2.get? b=some o:=λb o e=>k1 b o (λhm=>absurd (ZA (ZT e) (hi b hm)) (Zd _)) (k b o e)
   have I2:Inv X a_ σ H1 {s1 with heap:=h2,toks:=tk}:=I1.kept kk
   have nw:∀T,s1.heap.objs.size<=T->eP X a_ H1 T:=λT hT=>I1.fpOk hT (I1.hok.fresh hT)
   obtain⟨H3,vs,i1,i2,i3,i4,i5⟩:=gH (lo:=s1.heap.objs.size) (is:=is) (js:=js) (X:=X) I1.sz acc.toList 0 H1 xs ys I2 k4 (λT hT=>by
    obtain⟨T',e,_,lo⟩:=k4.lt _ hT;cases e;exact nw T lo) (by simpa using ri) (by simpa using rj) (by rw[Array.length_toList,k3,ZU,ZU,<-ri.length,<-rj.length])
   have fS:=nw h'.objs.size hsz;have nS:Value.ref h'.objs.size∉acc.toList:=λhm=>by
    have key:∀(l:Z8 Z3)(i:Nat),Made h2 s1.heap.objs.size is.toArray js.toArray i l->∀T,.ref T∈l->∃x y,IsPair h2 T x y:=by
     intro l
     induction l with
     |nil=>intro i _ T hT;trivial
     |cons v l ih=>
      rintro i ⟨T',x,y,e1,e2,e3,e4,e5,e6,e7⟩ T hT
      rcases ZZ.mp hT with e|hT
      .rw[e1]at e;cases e;exact⟨x,y,e5⟩
      .exact ih _ e7 T hT
    obtain⟨x,y,g⟩:=key _ _ k4 _ hm;have g':=Eq.trans (Eq.symm (show h2.get? h'.objs.size=_ from k2)) g
    have g2:=congrArg (λo:Z9 Obj=>o.map (·.cls)) g'
    simp at g2
   have JO:H3 h'.objs.size=none:=by rw[i3 _ nS];exact fS.1
   have lv:=i5.length;have I4:=i1.track (a:=h'.objs.size) (o:=.lst vs) ⟨JO,fS.2⟩ (Zr I1.sz hsz) ⟨by rw[lv,Array.length_toList,k3,ZU,ZU,<-ri.length,<-rj.length];exact hm,acc.toList,e',i5,by simpa using k2⟩
   have s4:=au (o:=.lst vs) JO;exact⟨.ref h'.objs.size,_,I4,rfl,q _ _ (i2.trans s4) fS.1 ⟨vs,ah,i4.to λT xs e=>s4 T _ e⟩⟩
end
section
variable{X:Cx}{t u:Bool}
def kZ(t u:Bool)(x y:Z9 D):Z9 D:=match vG t u x y with|some ds=>if ds.length<=lim then some (.lst ds) else none|none=>none
theorem ZipV.reps{K:Z6}{B:ZN->Prop}{H:Hp}:∀{ds es:Z8 D}{xs ys vs:Z8 V},Reps K B H ds xs->Reps K B H es ys->ZipV H xs ys vs->Reps K B H (bJ ds es) vs
 |[],es,xs,ys,vs,r1,r2,h=>by
  simp only[Reps]at r1;subst r1;cases ys<;>(rw[show vs=[] from h];exact Reps.nil)
 |d::ds,[],xs,ys,vs,r1,r2,h=>by
  simp only[Reps]at r1 r2;obtain⟨x,r,rfl,_⟩:=r1;subst r2;rw[show vs=[] from h];exact Reps.nil
 |d::ds,e::es,xs,ys,vs,r1,r2,h=>by
  simp only[Reps]at r1 r2;obtain⟨x,r,rfl,q1,q2⟩:=r1;obtain⟨y,r',rfl,q3,q4⟩:=r2;obtain⟨T,w,rfl,hT,z⟩:=h;exact Reps.cons (by simp only[Rep];exact⟨T,[x,y],rfl,hT,Reps.cons q1 (Reps.cons q3 Reps.nil)⟩) (ZipV.reps q2 q4 z)
theorem oY(t u:Bool)(hc:X.calm=true)(gl:Gl X "list")(hl:X.mg "list"=none)(gz:Gl X "zip")(hz:X.mg "zip"=none)(h:DE X false a fa)(h':DE X false b fb)(hs:starEach [a,b] X.env=[(false,eval a X.env),(false,eval b X.env)]:=by rfl)(Gp:starEach [b] X.env=[(false,eval b X.env)]:=by rfl)(K_:starEach [.Call (.Name "zip" p2) [a,b] [] F2] X.env=[(false,eval (.Call (.Name "zip" p2) [a,b] [] F2) X.env)]:=by rfl):
  DF X (.Call (.Name "list" p) [.Call (.Name "zip" p2) [a,b] [] F2] [] pos) (λδ=>kZ t u (fa δ) (fb δ)):=
 (oM (t:=t) (u:=u) hc gl hl gz hz (aq h (aq h' aI Gp) (by rw[hs,Gp])) hs Gp K_).imp λσ H Q hz=>by
  obtain⟨B,Hk,δ,d,R,e,k⟩:=hz;dsimp only at e;unfold kZ at e;split at e
  .rename_i ds e0
   split at e
   .rename_i FZ
    obtain rfl:=Z7 e;obtain⟨as,q1,e⟩:=ak e0;obtain⟨bs,q2,e⟩:=ak e;obtain rfl:=Z7 e;obtain⟨d1,e1⟩:∃d,fa δ=some d:=by
     cases q:fa δ with
     |none=>rw[q]at q1;cases t<;>trivial
     |some d=>exact⟨d,rfl⟩
    obtain⟨d2,e2⟩:∃d,fb δ=some d:=by
     cases q:fb δ with
     |none=>rw[q]at q2;cases u<;>trivial
     |some d=>exact⟨d,rfl⟩
    refine two R e1 e2 λv w H' s R' r1 r2=>?_
    obtain⟨l1,xs,rfl,Mh,Me⟩:=eQ q1 e1 r1;obtain⟨l2,ys,rfl,HP,Md⟩:=eQ q2 e2 r2;refine⟨l1,l2,xs,ys,rfl,Me _ Ext.refl,Md _ Ext.refl,?_,λS H2 s2 hS ⟨vs,Q7,zv⟩=>?_⟩
    .rw[fy,Mh.length,HP.length]at FZ
     exact aB FZ
    .exact k S H2 (s.trans s2) (s.free hS) ⟨vs,Q7,ZipV.reps (Mh.same (m:=false) R' s2) (HP.same (m:=false) R' s2) zv⟩
   .trivial
  .trivial
end
def jj:Expr->Z9 D
 |.Constant (.int i) _ _=>some (.int i)
 |.Constant (.str x) _ _=>some (.str x)
 |.Constant .none _ _=>some .non
 |_=>none
section
def vB(h:jj e=some d):DE X m e (λ_=>some d):=by
 unfold jj at h;split at h
 .obtain rfl:=Z7 h;exact j3
 .obtain rfl:=Z7 h;exact wG
 .obtain rfl:=Z7 h;exact nI
 .trivial
def oG(h:jj e=some d):starEach (e::es) env=(false,eval e env)::starEach es env:=by
 unfold jj at h;split at h
 .rfl
 .rfl
 .rfl
 .trivial
theorem jf:∀{es:Z8 Expr}{ds:Z8 D},es.map jj=ds.map some->DA X m es (λ_=>some ds)
 |[],[],_=>fG
 |[],_::_,h=>by simp at h
 |_::_,[],h=>by simp at h
 |e::es,d::ds,h=>by
  rw[Z1,Z1,Yg]at h;exact bQ (vB h.1) (jf h.2) (oG h.1)
end
def leT(a b:Str):Bool:=!decide (b.cps.toList<a.cps.toList)
def cj(a b c:Str)(h1:leT a b=true)(h2:leT b c=true):leT a c=true:=by
 unfold leT at*;simp only[Yu,Xw]at*;exact List.le_trans h1 h2
def dl(a b:Str):(leT a b||leT b a)=true:=by
 unfold leT
 by_cases h:b.cps.toList<a.cps.toList
 .have:¬a.cps.toList<b.cps.toList:=λh'=>absurd (List.lt_trans h h') (List.lt_irrefl _)
  simp[this]
 .simp[h]
def nh(a b:Str)(h1:leT a b=true)(h2:leT b a=true):a=b:=by
 unfold leT at*;simp only[Yu,Xw]at*;exact Str.ext' (Array.toList_inj.mp (List.le_antisymm h1 h2))
def dS(ss:Z8 Str):Z8 Str:=ss.mergeSort leT
def be(ss:Z8 Str):(dS ss).Perm ss:=List.mergeSort_perm ss leT
theorem fR:∀(l:Z8 Str)(p:Str),risingS p l=true->(p::l).Pairwise (λa b=>leT a b=true)
 |[],p,_=>by simp
 |x::r,p,h=>by
  have h':(!ltCps x.cps.toList p.cps.toList&&risingS x r)=true:=h;rw[ZH,ltCps_eq]at h';have ih:=fR r x h'.2;refine Yk.mpr ⟨λy hy=>?_,ih⟩
  rcases ZZ.mp hy with rfl|hy
  .exact h'.1
  .exact cj _ _ _ h'.1 ((Yk.mp ih).1 y hy)
def k9:∀(l:Z8 Str),sortedS l=true->l.Pairwise (λa b=>leT a b=true)
 |[],_=>.nil
 |x::r,h=>fR r x h
def rK(hp:Jx.Perm ss)(hs:sortedS Jx=true):Jx=dS ss:=
 List.Perm.eq_of_pairwise (le:=λa b=>leT a b=true) (λa b _ _ h1 h2=>nh a b h1 h2) (k9 _ hs) (Xv cj dl ss) (hp.trans (be ss).symm)
def gN(hp:Jx.Perm ss):dS Jx=dS ss:=
 List.Perm.eq_of_pairwise (le:=λa b=>leT a b=true) (λa b _ _ h1 h2=>nh a b h1 h2) (Xv cj dl Jx) (Xv cj dl ss) ((be Jx).trans (hp.trans (be ss).symm))
theorem dN:∀{ss:Z8 Str}{us:Z8 Z3},StrsAre us ss->Vals (ss.map V.str) us
 |_,_,.nil=>.nil
 |_,_,.cons x t h=>.cons ⟨t,rfl⟩ (dN h)
theorem jQ{K:Z6}{B:ZN->Prop}{H:Hp}:∀ss:Z8 Str,Reps K B H (ss.map D.str) (ss.map V.str)
 |[]=>Reps.nil
 |x::ss=>Reps.cons (by simp only[Rep]) (jQ ss)
section
variable{X:Cx}
def jC(I:Inv X a_ σ H s)(k1:∀b o,s.heap.get? b=some o->h1.get? b=some o)(hsz:s.heap.objs.size<=h1.objs.size)(v:StrsAre us ss)(IF:us.length<64)(q:∀l,H l=none->Q (.ref l) (upd H l (.lst ((dS ss).map V.str)))):
  wpAny (model X.prog X.w) X.A.in1 (do
   let l <-newList us
   let _ <-holding [l] (call (.builtin "list.sort") [l] [])
   ret l) (λfin s'=>∃w,fin=.done (.ret w)/\EP X a_ σ Q w s') X.xe {s with heap:=h1,toks:=t1}:=by
 have hz:us.length<=sizeLine:=by rw[X3];lia
 refine Z_ (WL ?_ hz)
 have g0:(h1.push (seqObj "list" us.toArray 0)).get? h1.objs.size=some (seqObj "list" us.toArray 0):=ZK _ rfl
 have k2:∀b o,s.heap.get? b=some o->b≠h1.objs.size/\b<(h1.push (seqObj "list" us.toArray 0)).objs.size/\(h1.push (seqObj "list" us.toArray 0)).get? b=some o:=λb o e=>
  ⟨Zw (ZT (k1 b o e)),ZT (Z5 _ (k1 b o e)),Z5 _ (k1 b o e)⟩
 refine Z_ (Y3 (Y8 slot_list_sort ⟨_,g0,rfl⟩ entry_list_sort ?_ (args_list_sort _)))
 refine list_sort_treeK (s:={s with heap:=h1.push (seqObj "list" us.toArray 0),toks:=t1}) strKind_oneLt g0 v.keysOf (λS3 S2 am e=>keyKind_strs (by rw[<-e];exact v)) IF λi_ hp hs=>?_
 obtain⟨Jx,a1,a2,a3⟩:=sorted_out_str v hp hs;have e:=rK a2 a3;subst e;obtain⟨c,hc⟩:=sortedHeap_at (vs:=us) (out:=(arrOf i_).map (·.2)) g0
 have Hs:H h1.objs.size=none:=I.hok.fresh hsz;have hl:((dS ss).map V.str).length<=sizeLine:=by
  have h1:=dN a1;have h2:=a2.length_eq;have h3:=(dN v).length;rw[ZI]at h3⊢
  lia
 refine⟨_,rfl,Z4 ⟨_,rfl,.ref h1.objs.size,_,I.laid (a:=h1.objs.size) (o:=.lst ((dS ss).map V.str)) (h':=sortedHeap (h1.push (seqObj "list" us.toArray 0)) h1.objs.size us ((arrOf i_).map (·.2))) (t':=t1) (λb o e=>(sortedHeap_old (k2 b o e).1 (k2 b o e).2.1).trans (k2 b o e).2.2) hsz ?_,rfl,q _ Hs⟩⟩
 exact⟨hl,_,c,dN a1,by rw[Array.toArray_toList];exact hc⟩
theorem Bm:∀ts:Z8 (Str×Tok),StrsAre (ts.map λp=>.str p.1 p.2) (ts.map (·.1))
 |[]=>.nil
 |p::ts=>.cons p.1 p.2 (Bm ts)
def jE(hc:X.calm=true):eM X (.builtin "sorted") (λxs H Q=>∃S us,xs=[.ref S]/\H S=some (vm X.w S us)/\us.length<64/\∀l,H l=none->Q (.ref l) (upd H l (.lst ((dS us).map V.str)))):=by
 intro a_ s σ H xs us Q I r h;obtain⟨S,ss,rfl,hS,IF,q⟩:=h;obtain⟨u,rfl,rx⟩:=gm r;cases rx;obtain⟨⟨F7,p1,o,ep,t,ho,hex,hd,hf,Gu,hpl⟩,_,_⟩:=I.hok S _ hS;have Ho:=p1.length_eq;rw[ZI]at Ho;have st:SetIs s.heap S (F7.map (tE X.w)) ep t:=⟨⟨o,ho,hex,hd⟩,by simpa using hf⟩
 refine Calls.call_function_entry kind_sorted plain_sorted entry_sorted (args_sorted1 _) ?_
 unfold Builtin.«sorted»;refine Z_ (m:=checkCount "sorted" 1 1 _) (Z4 (Z_ (lZ (by simp[I.ok.hd hc]) st Gu (hpl.imp (λh=>by simp[h]) id) (by rw[ZI];lia) λvs h' d tk hp GU hsz=>?_)))
 rw[Xe]at hp;obtain⟨KP,p2,rfl⟩:=cK (λp:Str×Tok=>Value.str p.1 p.2) hp F7 rfl
 have Mx:=p2.length_eq;refine jC (s:={s with drawn:=d}) (t1:=tk) (I.drawn d) GU hsz (Bm KP) (by rw[ZI];lia) λl F4=>?_
 rw[gN ((p2.map (·.1)).trans p1)]
 exact q l F4
noncomputable def cy(x:Z9 D):Z9 D:=match x with
 |some (.lst ds)=>(match cR ds with|some ss=>if ss.length<64 then some (.lst ((dS (uS ss)).map D.str)) else none|none=>none)
 |_=>none
theorem fK{K:Z6}{B:ZN->Prop}{H:Hp}:∀{ss:Z8 Str}{ys:Z8 V},Reps K B H (ss.map D.str) ys->ys=ss.map V.str
 |[],ys,r=>r
 |x::ss,ys,r=>by
  obtain⟨y,rr,rfl,r1,r2⟩:=r;simp only[Rep]at r1;rw[r1,fK r2];rfl
theorem iX(hc:X.calm=true)(g:Gl X "sorted")(hm:X.mg "sorted"=none)(g2:Gl X "set")(Ld:X.mg "set"=none)(ha:DE X false a fa)(hs:starEach [a] X.env=[(false,eval a X.env)]:=by rfl)
  (Gp:starEach [.Call (.Name "set" p2) [a] [] F2] X.env=[(false,eval (.Call (.Name "set" p2) [a] [] F2) X.env)]:=by rfl):
  DF X (.Call (.Name "sorted" p) [.Call (.Name "set" p2) [a] [] F2] [] pos) (λδ=>cy (fa δ)):=
 (cN (jE hc) g hm fM (aq (dw (sv hc) g2 Ld AK (aq ha aI hs) (he:=hs)) aI Gp) (he:=Gp)).imp λσ H Q hz=>by
  obtain⟨B,Hk,δ,d,R,e,k⟩:=hz;unfold cy at e;dsimp only at e;split at e
  .rename_i ds qd
   split at e
   .rename_i us qu
    cases dT qu
    by_cases cc:us.length<64
    .rw[Z0 cc]at e;obtain rfl:=Z7 e
     simp only[tCB,oD,tNil];refine⟨B,Hk,δ,_,R,qd,λv H' s r=>?_⟩
     have R':=R.to s;simp only[Rep]at r;obtain⟨l,xs,rfl,hq,rs⟩:=r;cases fK rs;refine⟨l,us,rfl,hq.sq,cc,λS ss hS Rq H0 hlen=>?_⟩
     have s2:=au (o:=vm X.w S ss) hS;refine⟨S,ss,rfl,ah,by lia,λl' F4=>?_⟩
     rw[gN ((XH Rq (dy us)).mpr λx=>(H0 x).trans (gG x us).symm)]
     have s3:=au (o:=.lst ((dS (uS us)).map V.str)) F4;exact k l' _ (s.trans (s2.trans s3)) (s.free (s2.free F4)) ⟨_,ah,jQ _⟩
    .rw[ZY cc]at e;trivial
   .trivial
  .trivial
end
end L2
namespace L2
open PySem PySem.StrLaws
variable[Lams]
def sU(ss:Z8 Str):Z8 D:=(dS (uS ss)).map D.str
def jN(hu:ss.length<64):cy (some (.lst (ss.map D.str)))=some (.lst (sU ss)):=by
 unfold cy sU;simp only[kh,Z0 hu]
def bf(x y:Str):eqO (some (.str x)) (some (.str y))=some (decide (x=y)):=by
 rw[o6 _ _ rfl];congr 1;simp
end L2
namespace L2
open PySem
variable[Lams]
def ifV{α:Type}(c:Z9 Bool)(x y:Z9 α):Z9 α:=match c with|some true=>x|some false=>y|none=>none
def CC(x y:Z9 D):Z9 D:=match tyB x with|some true=>y|some false=>some (.bl false)|none=>none
def neX(x:Z9 (D×DEnv))(fb:DEnv->Z9 D):Z9 (Bool×DEnv):=ae x λp=>match neO (some p.1) (fb p.2)with|some c=>some (c,p.2)|none=>none
section
variable{X:Cx}{m mm:Bool}{a b c:Expr}{am:Z8 Expr}{fa fb:DEnv->Z9 D}{fc:DEnv->Z9 Bool}{pos:Pos}
theorem zi(ha:DE X m a fa)(hb:DE X mm (.BoolOp .And (b::am) pos) fb):DE X mm (.BoolOp .And (a::b::am) pos) (λδ=>CC (fa δ) (fb δ)):=Au ha hb
theorem yO(hu:X.A.units+64<cLine)(ha:DX X a ga)(hb:DE X false b fb)(hm:behindInMarks .NotEq b=false:=by rfl):DTX X (.Compare a [.NotEq] [b] pos) (λδ=>neX (ga δ) fb):=AY hu ha hb hm
end
end L2
namespace L2
open PySem PySem.Spec PyProof.Rows
variable[Lams]
theorem yR(ha:DE X mm a fa):DE X mm (.BoolOp op [a] pos) fa:=AD ha rfl
noncomputable def eJ(τ:D->DEnv->Z9 DEnv)(fc:DEnv->Z9 Bool):Z8 D->DEnv->Z9 Out
 |[],δ=>some (.next δ)
 |d::ds,δ=>ae (τ d δ) λt_=>match fc t_ with|some true=>some (.ret .non false)|some false=>eJ τ fc ds t_|none=>none
noncomputable def fW(τ:D->DEnv->Z9 DEnv)(fc:DEnv->Z9 Bool)(x:Z9 (Z8 D))(δ:DEnv):Z9 Out:=match x with|some ds=>if D.flats ds=true then eJ τ fc ds δ else none|none=>none
def rl{ds:Z8 D}{i:Nat}{d:D}(h:D.flats ds=true)(e:ds[i]?=some d):d.flat=true:=by
 rw[D.flats_all]at h;exact ZO.mp h d (Zg e)
section
variable{X:Cx}
theorem qZ(hp:PassesOwn (model X.prog X.w) X.A X.env X.xe)(hc:X.calm=true)(hi:DI X true tg iter fi)(hg:DG X tg τ)(ht:DT X c fc)(hs:∀x,foldedSetIterable iter X.env x=pure x:=by intro _;rfl):
  DS X (.For tg iter [.If c [.Return (some (.Constant .none j p3)) p2] [] p1] [] pos) (λδ=>fW τ fc (fi δ) δ):=
 (mJ hp hc hi hg (c7 (vU ht (c7 (gM (nI (m:=false) (j:=j) (pos:=p3)))) kH)) hs).imp λDn σ H hz=>by
  obtain⟨B,Hk,δ,o,R,e,k⟩:=hz;unfold fW at e;dsimp only at e;split at e
  .rename_i ds e1
   by_cases hf:D.flats ds=true
   .rw[Z0 hf]at e
    refine⟨B,Hk,δ,ds,R,e1,λJ H1 s1 it=>?_⟩
    have R1:=R.to s1;refine⟨λi n j_ H'=>n=ds.length - i/\i<=ds.length/\Same H1 H'/\∃h_,Rel X.K B Hk h_ j_ H'/\eJ τ fc (ds.drop i) h_=some o,⟨ds.length,by simp,Zs _,Same.refl _,δ,R1,e⟩,?_⟩
    rintro i n j_ H' ⟨rfl,hi,x,h_,R',e'⟩
    obtain⟨GG,JG⟩:=it H' (x.ext (R1.bsH true));have xx:Ext B H H':=(R.ext s1).trans (R1.ext x)
    by_cases k_:i<ds.length
    .obtain⟨go,yl⟩:=JG i ds[i] (by simp[k_])
     refine .inr ⟨go,λF1 H2=>Same H1 H2/\∃Kp,Rel X.K B Hk Kp F1 H2/\eJ τ fc (ds.drop (i+1)) Kp=some o,λF1 H2 z=>⟨_,by lia,rfl,k_,z⟩,λv H2 hy=>?_⟩
     obtain⟨sy,rv⟩:=yl v H2 hy;have R2:=R'.to sy;rw[Zo k_]at e';simp only[eJ]at e';obtain⟨t_,q1,q2⟩:=ak e';refine⟨B,Hk,h_,ds[i],t_,R2,rv.flat (rl (i:=i) hf (by simp[k_])),q1,λGk R3=>?_⟩
     split at q2
     .rename_i qc
      obtain rfl:=Z7 q2;refine⟨B,Hk,t_,true,R3,qc,λH3 s3=>v8 ⟨B,Hk,t_,.non,R3.to s3,rfl,λv4 H4 s4 r4=>?_⟩⟩
      have x4:=(xx.trans (R'.ext sy)).trans (R3.ext (s3.trans s4));exact k v4 H4 x4 ((R3.to (s3.trans s4)).same) (by unfold ll;rw[ZY Zn];exact r4)
     .rename_i qc
      exact⟨B,Hk,t_,false,R3,qc,λH3 s3=>vA ⟨x.trans (sy.trans s3),t_,R3.to s3,q2⟩⟩
     .trivial
    .have s_:i=ds.length:=by lia
     subst s_;rw[Xm]at e';simp only[eJ]at e';obtain rfl:=Z7 e';exact .inl ⟨GG,k j_ H' xx R'⟩
   .rw[ZY hf]at e;trivial
  .trivial
end
noncomputable def zT(i:Nat)(δ:DEnv):Z9 Out:=match bB i δ with|some (.lst ds)=>if ds.length=0 then none else some (.next (δ.set i (some (.lst ds.dropLast,true))))|_=>none
def sn(h:zT i δ=some o):∃ds,δ[i]?=some (some (.lst ds,true))/\0<ds.length/\o=.next (δ.set i (some (.lst ds.dropLast,true))):=by
 unfold zT at h;split at h
 .rename_i ds q
  by_cases hl:ds.length=0
  .rw[Z0 hl]at h;trivial
  .rw[ZY hl]at h;cases h;exact⟨ds,bv q,by lia,rfl⟩
 .trivial
section
variable{pos:Pos}
theorem Reps.dropLast{K:Z6}{B:ZN->Prop}{H:Hp}{ds:Z8 D}{xs:Z8 V}(r:Reps K B H ds xs):Reps K B H ds.dropLast xs.dropLast:=by
 rw[List.dropLast_eq_take,List.dropLast_eq_take,r.length];exact r.take _
theorem Bz(n:Nm X i x)(Iv:attributeBase (.Name x px) "pop" X.env (eval (.Name x px) X.env)=eval (.Name x px) X.env:=by rfl)(Iq:(apos.endLine==ka.line)=true:=by rfl)(GY:swapsWith (.Call (.Attribute (.Name x px) "pop" apos) [] [] ka) none pos.line X.env=pure false:=by rfl):DS X (.Expr (.Call (.Attribute (.Name x px) "pop" apos) [] [] ka) pos) (λδ=>zT i δ):=
 (dX (Bf Yy PySem.F.slot_list_pop PySem.F.type_list_pop BR (aT n.at' n.vis n.d1 n.d2) Iv Iq) GY).imp λDn σ H hz=>by
  obtain⟨B,Hk,δ,o,R,e,k⟩:=hz;obtain⟨ds,h1,hl,rfl⟩:=sn e;obtain⟨l,h2,h3,xs,h4,h5⟩:=R.own i _ h1;have hx:xs.length=ds.length:=h5.length.symm;obtain⟨x1,x2⟩:=R.lset (ds':=ds.dropLast) (xs':=xs.dropLast) h1 h2 h4 h5.dropLast;exact⟨.ref l,h2,.inl ⟨rfl,xs,SqL.of h4⟩,l,xs,xs[xs.length - 1],rfl,rfl,h4,by simp,k σ _ x1 x2⟩
end
section
variable{K:Z6}{B:ZN->Prop}{Hk H:Hp}
def RepL(K:Z6)(B:ZN->Prop)(Hk H:Hp)(ds:Z8 D)(v:V):Prop:=∃a xs,v=.ref a/\Hk a=none/\H a=some (.lst xs)/\NReps K B Hk H ds xs/\V.ref a∉xs
def NRep.old(s:Same Hk H1)(h:NRep K B H1 H d v):NRep K B Hk H d v:=by
 cases d with
 |lst es=>obtain⟨b,xs,h1,h2,h3,h4⟩:=h;exact⟨b,xs,h1,s.free h2,h3,h4⟩
 |_=>exact h
theorem NReps.old(s:Same Hk H1):∀{ds:Z8 D}{vs:Z8 V},NReps K B H1 H ds vs->NReps K B Hk H ds vs
 |[],vs,h=>h
 |d::ds,vs,h=>by obtain⟨y,r,e,h1,h2⟩:=h;exact⟨y,r,e,h1.old s,NReps.old s h2⟩
theorem RepL.old(s:Same Hk H1)(h:RepL K B H1 H ds v):RepL K B Hk H ds v:=by
 obtain⟨a,xs,h1,h2,h3,h4,h5⟩:=h;exact⟨a,xs,h1,s.free h2,h3,h4.old s,h5⟩
theorem RepL.ext(h:RepL K B Hk H ds v)(s:Same H H')(x:Ext B H H'):RepL K B Hk H' ds v:=by
 obtain⟨a,xs,h1,h2,h3,h4,h5⟩:=h;exact⟨a,xs,h1,h2,s _ _ h3,h4.ext s x,h5⟩
theorem RepL.view(h:RepL K B H1 H ds v):Rep K (BN B H1 H) H (.lst ds) v:=by
 obtain⟨a,xs,h1,h2,h3,h4,h5⟩:=h;simp only[Rep];exact⟨a,xs,h1,.inl ⟨.inr ⟨h2,xs,h3⟩,h3⟩,h4.view⟩
theorem NReps.upd(x:Ext B H (upd H p o)):∀{ds:Z8 D}{vs:Z8 V},NReps K B Hk H ds vs->V.ref p∉vs->NReps K B Hk (upd H p o) ds vs
 |[],vs,h,_=>h
 |d::ds,vs,h,n=>by
  obtain⟨y,r,rfl,h1,h2⟩:=h;refine⟨y,r,rfl,?_,NReps.upd x h2 λz=>n (.tail _ z)⟩
  cases d with
  |lst es=>
   obtain⟨b,xs,rfl,n1,n2,n3⟩:=h1;exact⟨b,xs,rfl,n1,by rw[ai (λz=>n (by subst z;exact .head _))];exact n2,n3.ext x⟩
  |_=>exact Rep.ext x h1
theorem NReps.app:∀{ds es:Z8 D}{vs us:Z8 V},NReps K B Hk H ds vs->NReps K B Hk H es us->NReps K B Hk H (ds++es) (vs++us)
 |[],es,vs,us,h,h'=>by rw[show vs=[] from h];exact h'
 |d::ds,es,vs,us,h,h'=>by obtain⟨y,r,rfl,h1,h2⟩:=h;exact⟨y,r++us,rfl,h1,NReps.app h2 h'⟩
end
noncomputable def spN(K:Z6)(f:Z8 D->Z9 (D×Bool)):Sp:=λvs H Q _=>∃B ds r fr,(∀a,B a->∃o:HOn,H a=some o.1)/\Reps K B H ds vs/\f ds=some (.lst r,fr)/\∀v H',Same H H'->RepL K B H H' r v->Q v H'
structure FnN (P:Y1)(w:YO)(K:Z6)(mg:Str->Z9 Z3)(base:Heap)(k:Nat)(x:Str)(f:List D->Z9 (D×Bool)):Prop where
 ex:∃(p:ZN)(fd:FuncData)(ps:List Str),FnOk P w K mg base CX0 k p fd ps (spN K f)/\mg x=some (.ref p)/\PySem.W.keepIn K (.ref p)=true/\Binds K fd ps []
noncomputable def tU(K:Z6)(f:DEnv->Z9 D):TE:=λσ H Q=>∃B Hk δ r,Rel K B Hk δ σ H/\f δ=some (.lst r)/\∀v H1 H',Same H H1->Same H1 H'->RepL K B H1 H' r v->Q v H'
abbrev DU(X:Cx)(e:Expr)(f:DEnv->Z9 D):Prop:=PE X e (tU X.K f)
noncomputable def tUs(K:Z6)(g:DEnv->Z9 Out):TS:=λDn σ H=>∃B Hk δ r fr,Rel K B Hk δ σ H/\g δ=some (.ret (.lst r) fr)/\∀v H',Ext B H H'->Same Hk H'->RepL K B Hk H' r v->Dn.rt v H'
abbrev DUs(X:Cx)(Jw:Z8 Stmt)(g:DEnv->Z9 Out):Prop:=PSs X Jw (tUs X.K g)
section
variable{X:Cx}{e:Expr}{es:Z8 Expr}{st:Stmt}{am:Z8 Stmt}{g1 g2:DEnv->Z9 Out}{pos p ka:Pos}{k:Nat}{y:Str}{f:Z8 D->Z9 (D×Bool)}{fs:DEnv->Z9 (Z8 D)}{fe:DEnv->Z9 D}
theorem Ad(h:DU X e fe):DUs X [.Return (some e) pos] (λδ=>eL (fe δ)):=
 (c7 (gM h)).imp λDn σ H hz=>by
  obtain⟨B,Hk,δ,r,fr,R,e,kk⟩:=hz;cases q:fe δ with
  |none=>simp only[q,eL]at e;trivial
  |some d=>
   simp only[q,eL,ZM,Out.ret.injEq]at e;obtain⟨rfl,rfl⟩:=e;exact⟨B,Hk,δ,r,R,q,λv H1 H' s1 s2 rr=>kk v H' (R.ext (s1.trans s2)) (R.same.trans (s1.trans s2)) (rr.old (R.same.trans s1))⟩
theorem yZ(h1:DS X st g1)(h2:DUs X am g2)(hn:∀δ o,g1 δ=some o->∃h_,o=.next h_):DUs X (st::am) (λδ=>aG (g1 δ) g2):=
 (aR h1 h2).imp λDn σ H hz=>by
  obtain⟨B,Hk,δ,r,fr,R,e,kk⟩:=hz;cases q:g1 δ with
  |none=>simp only[q,aG]at e;trivial
  |some o1=>
   obtain⟨t_,rfl⟩:=hn δ o1 q;simp only[q,aG]at e;exact⟨B,Hk,δ,_,R,q,λj_ H' x R'=>⟨B,Hk,t_,r,fr,R',e,λv H2 x2 s2 rr=>kk v H2 (x.trans x2) s2 rr⟩⟩
theorem ye(F:FnN X.prog X.w X.K X.mg X.base k y f)(hr:Room k X.A)(g:Gb X y)(ha:DA X false (e::es) fs)(he:starEach (e::es) X.env=(false,eval e X.env)::starEach es X.env:=by rfl)(hpl:(backTo pos (starEach es X.env)).any (·.1)=false:=by rfl):
  DU X (.Call (.Name y p) (e::es) [] pos) (λδ=>frO (ae (fs δ) f)):=by
 obtain⟨q,fd,ps,h1,h2,h3,h4⟩:=F.ex;refine(qN (ds:=[]) (dvs:=[]) h1 hr g.gl h2 h3 h4 .nil BP ha g.d1 he hpl).imp λσ H Q hz=>?_
 obtain⟨B,Hk,δ,r,R,e,kk⟩:=hz;cases q:ae (fs δ) f with
 |none=>simp only[q,frO]at e;trivial
 |some p=>
  obtain⟨d',fr⟩:=p;obtain⟨ds,e1,e2⟩:=ak q;have hd:d'=.lst r:=by
   cases fr with
   |false=>cases d'<;>simp only[q,frO]at e<;>trivial
   |true=>cases d'<;>simp only[q,frO]at e<;>first|trivial|exact Z7 e
  subst hd;refine⟨B,Hk,δ,ds,R,e1,λvs H1 s1 rs=>?_⟩
  show spN X.K f (vs++[]) H1 Q E0;rw[Y_];exact⟨B,ds,r,fr,(R.to s1).borH,rs,e2,λv H' s2 rr=>kk v H1 H' s1 s2 rr⟩
end
section
variable{P:Y1}{w:YO}{K:Z6}{mg:Str->Z9 Z3}{base:Heap}
def Bl{x qual:Str}{st:Stmt}{f:ZN}{fd:FuncData}{N ps:Z8 Str}{k:Nat}{g:DEnv->Z9 Out}(F:Fun K x qual st f fd)(S:FnScope N ps (defScope st))(hb:Binds K fd ps [])(hm:mg x=some (.ref f))(hn:ps.length<=N.length)
  (body:∀(A:Za)(outer:Z8 Env)(s:ZP)(H:Hp)(E:XK),Room k (A.deeper (envOfC qual (defScope st) s.heap.objs.size f fd.code))->DUs (mG CX0 P w K mg base N qual (defScope st) f fd.code A outer s H E).nox (defBody st) g):
  FnN P w K mg base (k+1) x (bZ N.length ps.length g):=by
 refine⟨f,fd,ps,?_,hm,F.kp,hb⟩
 refine F.ok S (λvs H Q E h=>?_) (λA outer s H vs Q E hr h=>?_)
 .obtain⟨B,ds,r,fr,_,hr,hf,_⟩:=h
  unfold bZ at hf
  by_cases q:ds.length=ps.length
  .rw[<-hr.length,q]
  .rw[ZY q]at hf;trivial
 .obtain⟨B,ds,r,fr,hB,FV,hf,kk⟩:=h
  refine⟨_,body A outer s H E hr,?_⟩
  unfold bZ at hf
  by_cases q:ds.length=ps.length
  .rw[Z0 q]at hf
   have R:Rel K B H (bY N.length ds) (cw N vs) H:=fA hB FV (by lia)
   refine⟨B,H,bY N.length ds,r,fr,R,?_,λv H' x s rr=>kk v H' s rr⟩
   cases qo:g (bY N.length ds)with
   |none=>rw[qo]at hf;trivial
   |some o=>
    rw[qo]at hf;cases o with
    |ret d Sw=>
     simp only[pC,ZM,XA]at hf;obtain⟨rfl,rfl⟩:=hf;rfl
    |next δ=>simp only[pC,ZM,XA]at hf;cases hf.1
    |brk δ=>simp only[pC]at hf;trivial
    |cont δ=>simp only[pC]at hf;trivial
  .rw[ZY q]at hf;trivial
end
section
variable{X:Cx}{fi:DEnv->Z9 (Z8 D)}{fe:DEnv->Z9 D}{bs:Z8 Bool}
def nY{K:Z6}{σ:St}{H:Hp}{Q:VK}(GF:Anew τ)(hl:bs.length=σ.length)(Ny:∀δ d,fe δ=some d->∃es,d=.lst es){B:ZN->Prop}{Hk:Hp}{δ:DEnv}{ds ls:Z8 D}(R:Rel K B Hk δ σ H)(e1:fi δ=some ds)(e2:b0 false bs τ (λ_=>some true) fe δ ds=some ls)
  (k:∀v H1 H',Same H H1->Same H1 H'->RepL K B H1 H' ls v->Q v H'):nQ (tI K false fi) bs (tG K τ) (tMT K λ_=>some true) (tF K fe) σ H Q:=by
 refine nH (J:=λH3 H4 y v=>∃a,v=.ref a/\H3 a=none/\ObR K B H4 y a/\∃es,y=.lst es) (Js:=λH1 acc H l ys=>NReps K B H1 H l ys/\V.ref acc∉ys) GF hl R e1 e2 (λH1 t_ Gk H3 y R3 qe Q kk=>⟨_,H1,t_,y,R3,qe,λa H4 s4 n4 ob=>kk _ H4 s4 ⟨a,rfl,n4,ob,Ny _ _ qe⟩⟩) (λ_ _ _=>⟨rfl,Zu⟩) (λr s x=>⟨r.1.ext s x,r.2⟩) (λ{H1 acc H3 H4 l ys y v} s ha r r4 x=>?_)
  λH1 a H' s1 s2 n hz=>by obtain⟨xs,h1,h2⟩:=hz;exact k _ H1 H' s1 s2 ⟨a,xs,rfl,n,h1,h2⟩
 obtain⟨a4,rfl,n4,ob,es,rfl⟩:=r4;obtain⟨zs,z1,z2⟩:=ob;have Mo:V.ref acc∉ys++[.ref a4]:=λz=>by
  rcases Zv.mp z with z|z
  .exact r.2 z
  .cases ZE.mp z;rw[ha]at n4;trivial
 exact⟨NReps.upd x (r.1.app ⟨_,[],rfl,⟨a4,zs,rfl,s.free n4,z1,z2⟩,rfl⟩) Mo,Mo⟩
theorem yi(hc:X.calm=true)(GF:Anew τ)(hi:DI X false tg iter fi)(S:CompScope X scope bs)(hg:∀cl C d_ e_ ex pn,DG (ax X scope cl C d_ e_ ex pn) tg τ)(he:∀cl C d_ e_ ex pn,DF (ax X scope cl C d_ e_ ex pn) elt fe)(Ny:∀δ d,fe δ=some d->∃es,d=.lst es)(hs:∀x,foldedSetIterable iter X.env x=pure x:=by intro _;rfl):DU X (.ListComp elt [⟨tg,iter,[],0⟩] scope pos) (λδ=>av (ae (fi δ) (b0 false bs τ (λ_=>some true) fe δ))):=by
 intro a_ s σ H Q I ⟨B,Hk,δ,r,R,e,k⟩;cases q:ae (fi δ) (b0 false bs τ (λ_=>some true) fe δ)with
 |none=>simp only[q,av]at e;trivial
 |some ls=>
  simp only[q,av]at e;obtain rfl:=D.lst.inj (Z7 e);obtain⟨ds,e1,e2⟩:=ak q;exact rG hc hi S hg (λ_ _ _ _ _ _=>ja) he hs a_ s σ H Q I (nY GF (by rw[S.len,I.len]) Ny R e1 e2 k)
end
section
variable{K:Z6}{B:ZN->Prop}{Hk H H1:Hp}
def NewQ(K:Z6)(B:ZN->Prop)(Hk:Hp)(δ:DEnv)(σ:St)(H:Hp)(ds:Z8 D)(v:V):Prop:=
 ∃H1,Same Hk H1/\RepL K B H1 H ds v/\∀(k:Nat) e a,δ[k]?=some (some (e,true))->σ[k]?=some (some (.ref a))->∃o:HOn,H1 a=some o.1
def NewQ.same(h:NewQ K B Hk δ σ H ds v)(R:Rel K B Hk δ σ H)(s:Same H H'):NewQ K B Hk δ σ H' ds v:=by
 obtain⟨H1,h1,h2,h3⟩:=h;exact⟨H1,h1,h2.ext s (R.ext s),h3⟩
open Classical in
def Rel.viewL(R:Rel K B Hk δ σ H)(hv:σ[i]?=some (some v))(n:NewQ K B Hk δ σ H ds v):∃B' MI,Rel K B' MI (δ.set i (some (.lst ds,false))) σ H:=by
 obtain⟨H1,h1,h2,h3⟩:=n;have hi:i<σ.length:=(ZV.mp hv).1
 have s_:i<δ.length:=by rw[R.len];exact hi
 have nk:∀a o,H1 a=some o->∀z:H1 a=none/\∃xs,H a=some (.lst xs),False:=λa o q z=>by rw[q]at z;cases z.1
 refine⟨BN B H1 H,λa=>if H1 a=none/\∃xs,H a=some (.lst xs) then H a else Hk a,⟨⟨λa o nt q=>?_,λa lq ps q=>?_⟩,λa q=>?_,by simpa using R.len,λj e q=>?_,λj e q=>?_,λj k e f q Hb h1 h2 h3 h4=>?_⟩⟩
 .split at q
  .exact q
  .exact R.same.get a o nt q
 .split at q
  .exact⟨#[],by rw[Xb];exact q⟩
  .exact R.same.tbl a lq ps q
 .by_cases z:H1 a=none/\∃xs,H a=some (.lst xs)
  .obtain⟨_,xs,hx⟩:=id z
   exact⟨⟨_,rfl⟩,by rw[Z0 z];exact hx⟩
  .rcases q with q|q
   .obtain⟨o,q⟩:=R.bor a q
    exact⟨o,by rw[ZY z];exact q⟩
   .exact(z q).elim
 .by_cases hj:j=i
  .subst hj
   rw[ZR s_]at q
   cases q;exact⟨v,hv,h2.view⟩
  .rw[ZW (ZD hj)]at q
   obtain⟨u,q1,q2⟩:=R.var j e q;exact⟨u,q1,Rep.more (λ_ z=>.inl z) q2⟩
 .by_cases hj:j=i
  .subst hj
   rw[ZR s_]at q
   cases q
  .rw[ZW (ZD hj)]at q
   obtain⟨a,q1,q2,q3⟩:=R.own j e q;obtain⟨o,ho⟩:=h3 j e a q q1;refine⟨a,q1,by rw[ZY (nk a o ho)];exact q2,ObR.more (show ObR K B H e a from q3) λ_ z=>.inl z⟩
 .have hj:¬j=i:=λz=>by subst z;rw[ZR s_]at h1;cases h1
  have hk:¬k=i:=λz=>by subst z;rw[ZR s_]at h2;cases h2
  rw[ZW (ZD hj)]at h1
  rw[ZW (ZD hk)]at h2
  exact R.dis j k e f q Hb h1 h2 h3 h4
end
noncomputable def tQ(K:Z6)(i:Nat)(g:DEnv->Z9 Out):TS:=λDn σ H=>∃B Hk δ ds v o,Rel K B Hk δ σ H/\δ[i]?=some none/\σ[i]?=some (some v)/\NewQ K B Hk δ σ H ds v/\g (δ.set i (some (.lst ds,false)))=some o/\OutK K B Hk H Dn o
abbrev DQs(X:Cx)(i:Nat)(Jw:Z8 Stmt)(g:DEnv->Z9 Out):Prop:=PSs X Jw (tQ X.K i g)
def lsO(x:Z9 D):Z9 D:=match x with|some (.lst r)=>some (.lst r)|_=>none
def ifQ(i:Nat)(gb:DEnv->Z9 Out)(x:Z9 Bool)(y:Z9 Out)(δ:DEnv):Z9 Out:=ifO x (ix (gb (δ.set i none))) y
def uX(h:lsO x=some d):∃r,x=some (.lst r)/\d=.lst r:=by
 unfold lsO at h;split at h
 .obtain rfl:=Z7 h;exact⟨_,rfl,rfl⟩
 .trivial
def Ca(n:Nat)(d:D):Bool:=match d with|.lst es=>decide (es.length+n<lim)|_=>false
noncomputable def uk(i j:Nat)(k:DEnv->Z9 Out)(δ:DEnv):Z9 Out:=match δ[i]? with
 |some (some (.lst ds,false))=>if(decide (j<δ.length)&&(decide (ds.length<lim)&&ds.all (Ca ds.length)))=true then k ((δ.set i none).set j none) else none
 |_=>none
section
variable{X:Cx}{i j:Nat}{x y:Str}{am:Z8 Stmt}{gr gb:DEnv->Z9 Out}{pos pos':Pos}{e a:Expr}{fe:DEnv->Z9 D}{ft:DEnv->Z9 Bool}
theorem BW(hN:X.N.Nodup)(l:Lc X i x)(he:DU X e fe)(C_:DQs X i am gr)(hs:swapsWith e (some (.Name x pos')) pos.line X.env=pure false:=by rfl):
  DSs X (.Assign [.Name x pos'] e pos::am) (λδ=>aG (bK i (lsO (fe δ)) δ) gr):=
 (aR (fV hN l.at' l.loc he hs l.fnl) C_).imp λDn σ H hz=>by
  obtain⟨B,Hk,δ,o,R,e,kk⟩:=hz;cases q:bK i (lsO (fe δ)) δ with
  |none=>simp only[q,aG]at e;trivial
  |some o1=>
   obtain⟨d,e1,hi,rfl⟩:=fZ q;simp only[q,aG]at e;obtain⟨r,e2,rfl⟩:=uX e1;have s_:i<σ.length:=by rw[<-R.len];exact hi
   refine⟨B,Hk,δ,r,R,e2,λv H1 H' s1 s2 rr=>?_⟩
   have s:=s1.trans s2;refine⟨B,Hk,δ.set i none,r,v,o,(R.to s).unset s_,ZR hi,ZR s_,⟨H1,R.same.trans s1,rr,λj c a h1 h2=>?_⟩,by rw[XS];exact e,kk.ext (R.ext s)⟩
   have hj:j≠i:=λz=>by subst z;rw[ZR hi]at h1;cases h1
   rw[ZW (ZD hj)]at h1 h2
   obtain⟨a',q1,_,q3⟩:=R.own j c h1;rw[h2]at q1;cases q1;obtain⟨o',ho⟩:=q3.there;exact⟨o',s1 _ _ ho⟩
theorem C6(hc:DT X e ft)(hb:DSs X body gb)(C_:DQs X i am gr):DQs X i (.If e body [] pos::am) (λδ=>ifQ i gb (ft δ) (gr δ) δ):=by
 refine(aR (vU hc hb kH) C_).imp λDn σ H hz=>?_
 obtain⟨B,Hk,δ,d,v,o,R,hd,hv,n,e,kk⟩:=hz;obtain⟨B',MI,R'⟩:=R.viewL hv n;unfold ifQ ifO at e;dsimp only at e;split at e
 .rename_i q
  refine⟨B',MI,_,true,R',q,λH1 s1=>v8 ?_⟩
  have e':=jv e;rw[XS,dz hd]at e';refine⟨B,Hk,δ,o,R.to s1,e',?_⟩
  have M9:=kk.ext (R.ext s1);unfold ix at e;split at e
  .obtain rfl:=Z7 e;exact M9
  .trivial
 .rename_i q
  refine⟨B',MI,_,false,R',q,λH1 s1=>vA ?_⟩
  exact⟨B,Hk,δ,d,v,o,R.to s1,hd,hv,n.same R s1,e,kk.ext (R.ext s1)⟩
 .trivial
end
theorem NReps.lsts{K:Z6}{B:ZN->Prop}{Hk H:Hp}{n:Nat}:∀{ds:Z8 D}{vs:Z8 V},NReps K B Hk H ds vs->ds.all (Ca n)=true->∀v∈vs,∃b xs,v=.ref b/\Hk b=none/\H b=some (.lst xs)/\xs.length+n<lim
 |[],vs,h,_,v,hv=>by rw[show vs=[] from h]at hv;cases hv
 |d::ds,vs,h,e,v,hv=>by
  obtain⟨y,r,rfl,h1,h2⟩:=h;rw[List.all_cons,ZH]at e
  rcases ZZ.mp hv with rfl|hv
  .cases d with
   |lst es=>obtain⟨b,xs,n1,n2,n3,n4⟩:=h1;exact⟨b,xs,n1,n2,n3,by rw[<-n4.length];exact Zf e.1⟩
   |_=>exact(nomatch e.1)
  .exact NReps.lsts h2 e.2 v hv
def Rel.drop{K:Z6}{B:ZN->Prop}{Hk H:Hp}{δ:DEnv}{σ:St}{j:Nat}(R:Rel K B Hk δ σ H):Rel K B Hk (δ.set j none) σ H:=by
 have key:∀(k:Nat) p,(δ.set j none)[k]?=some (some p)->δ[k]?=some (some p):=λk p q=>by
  rw[List.getElem?_set]at q
  split at q
  .split at q<;>cases q
  .exact q
 exact⟨R.same,R.bor,by simpa using R.len,λk e q=>R.var k e (key k _ q),λk e q=>R.own k e (key k _ q),λk l e f a h h1 h2=>R.dis k l e f a h (key k _ h1) (key l _ h2)⟩
section
variable{X:Cx}{i j:Nat}{x y:Str}{am:Z8 Stmt}{gr:DEnv->Z9 Out}{pos p1 p2 p3 p4 a1 c1 p5 p6 a2 c2 p7 p0:Pos}{n1 n2:Nat}
theorem yY(hp:PassesOwn (model X.prog X.w) X.A X.env X.xe)(hc:X.calm=true)(hN:X.N.Nodup)(nx:Nm X i x)(ny:Nm X j y)(ly:Lc X j y)(IC:j≠i)(C_:DSs X am gr)
  (hs:∀z,foldedSetIterable (.Name x p1) X.env z=pure z:=by intro _;rfl)
  (OS:Mc X.env (.Name y p3) "append" (.Constant .none n1 p4) [] a1 c1)
  (K5:swapsWith (.Call (.Attribute (.Name y p3) "append" a1) [.Constant .none n1 p4] [] c1) none p2.line X.env=pure false:=by rfl)
  (OR:Mc X.env (.Name x p6) "append" (.Constant .none n2 p7) [] a2 c2)
  (K4:swapsWith (.Call (.Attribute (.Name x p6) "append" a2) [.Constant .none n2 p7] [] c2) none p5.line X.env=pure false:=by rfl):
  DQs X i (.For (.Name y pos) (.Name x p1) [.Expr (.Call (.Attribute (.Name y p3) "append" a1) [.Constant .none n1 p4] [] c1) p2] [] p0::.Expr (.Call (.Attribute (.Name x p6) "append" a2) [.Constant .none n2 p7] [] c2) p5::am) (uk i j gr):=
 (aR (mJ hp hc (kU (aT nx.at' nx.vis nx.d1 nx.d2)) (iN hN ly.at' ly.loc ly.fnl) (c7 (dX (ky Yy W5 W6 dh (aT ny.at' ny.vis ny.d1 ny.d2) (aq qM aI OS.s) OS) K5)) hs)
  (aR (dX (ky Yy W5 W6 dh (aT nx.at' nx.vis nx.d1 nx.d2) (aq qM aI OR.s) OR) K4) C_)).imp
 λDn σ H hz=>by
  obtain⟨B,Hk,δ,ds,v,o,R,hd,hv,⟨H1,s1,⟨a,xs,rfl,PF,ha,rs,Mo⟩,own⟩,e,kk⟩:=hz;have hi:i<δ.length:=(ZV.mp hd).1
  unfold uk at e;rw[ZR hi]at e
  dsimp only at e
  by_cases c:(decide (j<(δ.set i (some (D.lst ds,false))).length)&&(decide (ds.length<lim)&&ds.all (Ca ds.length)))=true
  .rw[Z0 c,XS,dz hd]at e
   rw[ZH,ZH,Zi,Zi,Zl,rs.length]at c;obtain⟨hj,c1,c2⟩:=c;have lst:=rs.lsts c2;have NX:∀(k:Nat) e b,(δ.set j none)[k]?=some (some (e,true))->σ[k]?=some (some (.ref b))->∃o:HOn,H1 b=some o.1:=λk e b h1 h2=>by
    have hk:k≠j:=λz=>by subst z;rw[ZR hj]at h1;cases h1
    rw[ZW (ZD hk)]at h1
    exact own k e b h1 h2
   refine⟨.ref a,hv,a,rfl,⟨xs,.inl (.inl ha)⟩,λt n j_ H'=>n=xs.length - t/\t<=xs.length/\Ext B H H'/\Rel X.K B Hk (δ.set j none) j_ H'/\H' a=some (.lst xs)/\j_[i]?=some (some (.ref a))/\(∀(k:Nat) e b,(δ.set j none)[k]?=some (some (e,true))->j_[k]?=some (some (.ref b))->∃o:HOn,H1 b=some o.1)/\∀v∈xs,∃b ys,v=.ref b/\H1 b=none/\H' b=some (.lst ys)/\ys.length+xs.length<lim+t,
    ⟨xs.length,by simp,Zs _,Ext.refl,R.drop,ha,hv,NX,lst⟩,?_⟩
   .intro t n j_ H' hz;obtain⟨rfl,ht,x,R',JM,Gm,LD,LI⟩:=hz
    have hq:SqL X.K H' a xs:=.inl (.inl JM)
    by_cases k_:t<xs.length
    .refine .inr ⟨⟨xs,xs[t],hq,by simp⟩,λF1 H2=>Ext B H H2/\Rel X.K B Hk (δ.set j none) F1 H2/\H2 a=some (.lst xs)/\F1[i]?=some (some (.ref a))/\(∀(k:Nat) e b,(δ.set j none)[k]?=some (some (e,true))->F1[k]?=some (some (.ref b))->∃o:HOn,H1 b=some o.1)/\∀v∈xs,∃b ys,v=.ref b/\H1 b=none/\H2 b=some (.lst ys)/\ys.length+xs.length<lim+(t+1),λF1 H2 z=>⟨_,by lia,rfl,k_,z⟩,λv H2 ⟨e2,hx⟩=>?_⟩
     subst e2;obtain rfl:xs[t]=v:=by have:=hx xs hq;simpa[k_]using this
     obtain⟨b,ys,eb,nb,hb,lb⟩:=LI xs[t] (XD _);have Jm:j<j_.length:=by rw[<-R'.len,Zl];exact hj
     have R2:=R'.unset (v:=xs[t]) Jm;rw[XS]at R2;have JT:∀(k:Nat) e b,(δ.set j none)[k]?=some (some (e,true))->(j_.set j (some xs[t]))[k]?=some (some (.ref b))->∃o:HOn,H1 b=some o.1:=λk e b h1 h2=>by
      have hk:k≠j:=λz=>by subst z;rw[ZR hj]at h1;cases h1
      rw[ZW (ZD hk)]at h2
      exact LD k e b h1 h2
     obtain⟨x1,x2⟩:=R2.updN (ys:=ys++[.non]) s1 nb hb JT;refine⟨xs[t],ZR Jm,?_⟩
     rw[eb]at x2 JT⊢;refine⟨.inl ⟨rfl,ys,SqL.of hb⟩,b,ys,.non,rfl,rfl,hb,?_,x.trans x1,x2,?_,?_,JT,λv hv=>?_⟩
     .have:=aB (ZQ lim);lia
     .rw[ai λz=>Mo (by subst z;rw[<-eb];exact XD _)];exact JM
     .rw[ZW IC];exact Gm
     .obtain⟨b',Ow,z1,z2,z3,z4⟩:=LI v hv
      by_cases ME:b'=b
      .subst ME
       rw[hb]at z3;cases z3;exact⟨b',ys++[.non],z1,z2,ah,by rw[Zy,List.length_singleton];lia⟩
      .exact⟨b',Ow,z1,z2,by rw[ai ME];exact z3,by lia⟩
    .obtain⟨x1,x2⟩:=R'.updN (ys:=xs++[.non]) s1 PF JM LD
     refine .inl ⟨⟨xs,hq,by lia⟩,.ref a,Gm,.inl ⟨rfl,xs,SqL.of JM⟩,a,xs,.non,rfl,rfl,JM,?_,B,Hk,_,o,x2,e,kk.ext (x.trans x1)⟩
     exact ZA c1 (aB (ZQ _))
  .rw[ZY c]at e;trivial
end
def v9{fa fb:DEnv->Z9 D}:∀δ d,kZ t u (fa δ) (fb δ)=some d->∃es,d=.lst es:=λδ d h=>by
 unfold kZ at h;split at h
 .split at h
  .obtain rfl:=Z7 h;exact⟨_,rfl⟩
  .trivial
 .trivial
def xG{fa:DEnv->Z9 D}:∀δ o,bK i (fa δ) δ=some o->∃h_,o=.next h_:=λδ o h=>by
 obtain⟨_,_,_,rfl⟩:=fZ h;exact⟨_,rfl⟩
end L2
namespace JP
open PySem L2
inductive Ce where|nm (w:Str)|bk (n:Int)
deriving DecidableEq,Inhabited
inductive Te where|any (l:Str)|nm (w:Str)
deriving DecidableEq
def ceD:Ce->D|.nm w=>.tup [.str "name",.str w]|.bk n=>.tup [.str "blank",.int n]
def teD:Te->D|.any l=>.tup [.str "any",.str l]|.nm w=>.tup [.str "name",.str w]
def eh(h:ceD a=ceD b):a=b:=by
 cases a<;>cases b<;>simp[ceD]at h
 .rw[h]
 .rw[h]
abbrev Row:=Str×Z8 Ce
abbrev Pat:=Str×Z8 Te
def aC(r:Row):D:=.tup [.str r.1,.tup (r.2.map ceD)]
def aJ(p:Pat):D:=.tup [.str p.1,.tup (p.2.map teD)]
abbrev Fit:=Str->Ce
def ev(φ:Fit):Te->Ce|.any l=>φ l|.nm w=>.nm w
def q5(rows:Z8 Row)(φ:Fit)(p:Pat):Prop:=∃r∈rows,r.1=p.1/\r.2=p.2.map (ev φ)
def ans:Z8 Te->Z8 Str
 |[]=>[]
 |.any l::ts=>l::ans ts
 |.nm _::ts=>ans ts
theorem iS:∀{ts:Z8 Te},(∀l∈ans ts,φ l=ψ l)->ts.map (ev φ)=ts.map (ev ψ)
 |[],_=>rfl
 |.any l::ts,h=>by
  rw[Z1,Z1,iS (ts:=ts) λl' hl=>h l' (Z2 _ hl)]
  simp only[ev];rw[h l (ZX ..)]
 |.nm w::ts,h=>by rw[Z1,Z1,iS (ts:=ts) h];rfl
def oB(h:∀l∈ans p.2,φ l=ψ l)(i:q5 rows φ p):q5 rows ψ p:=by
 obtain⟨r,h1,h2,h3⟩:=i;exact⟨r,h1,h2,by rw[h3,iS h]⟩
abbrev Bi:=Z8 (Str×Ce)
def gt(b:Bi)(l:Str):Z9 Ce:=(b.find? λq=>decide (q.1=l)).map (·.2)
def da(b:Bi)(k:Str)(c:Ce)(l:Str):gt ((k,c)::b) l=if k=l then some c else gt b l:=by
 unfold gt;rw[List.find?_cons]
 by_cases h:k=l<;>simp[h]
theorem j8(l:Str):∀(b b':Bi),gt (b++b') l=(gt b l).or (gt b' l)
 |[],b'=>by simp[gt]
 |(k,c)::b,b'=>by
  rw[List.cons_append,da,da,j8 l b b'];split<;>simp
noncomputable def bnd:Z8 Te->Z8 Ce->Bi->Z9 Bi
 |.any l::ts,c::cs,b=>(match gt b l with|some c'=>if c'=c then bnd ts cs b else none|none=>bnd ts cs (b++[(l,c)]))
 |.nm w::ts,c::cs,b=>if Ce.nm w=c then bnd ts cs b else none
 |_,_,b=>some b
theorem bM:∀{ts:Z8 Te}{cs:Z8 Ce}{b b':Bi},ts.length=cs.length->bnd ts cs b=some b'->(∀l c,gt b l=some c->gt b' l=some c)/\(∀l∈ans ts,∃c,gt b' l=some c)/\∀φ:Fit,(∀l∈ans ts,gt b' l=some (φ l))->cs=ts.map (ev φ)
 |[],[],b,b',_,h=>by simp only[bnd,ZM]at h;subst h;exact⟨λ_ _ h=>h,λ_ h=>by simp[ans]at h,λ_ _=>rfl⟩
 |.any l::ts,c::cs,b,b',hl,h=>by
  simp only[bnd]at h;have F4:ts.length=cs.length:=by simpa using hl
  split at h
  .rename_i c' e
   split at h
   .rename_i ec
    subst ec;obtain⟨h1,h2,h3⟩:=bM F4 h;refine⟨h1,λl' F4=>?_,λφ F3=>?_⟩
    .rcases ZZ.mp F4 with rfl|hm
     .exact⟨_,h1 _ _ e⟩
     .exact h2 l' hm
    .have:=F3 l (ZX ..)
     rw[h1 _ _ e]at this;rw[Z1,<-h3 φ λl' hm=>F3 l' (Z2 _ hm)]
     simp only[ev];rw[Z7 this]
   .trivial
  .rename_i e
   obtain⟨h1,h2,h3⟩:=bM F4 h;have hg:gt b' l=some c:=h1 l c (by rw[j8,e];simp[gt])
   refine⟨λl' c' e'=>h1 l' c' (by rw[j8,e'];rfl),λl' F4=>?_,λφ F3=>?_⟩
   .rcases ZZ.mp F4 with rfl|hm
    .exact⟨_,hg⟩
    .exact h2 l' hm
   .have:=F3 l (ZX ..)
    rw[hg]at this;rw[Z1,<-h3 φ λl' hm=>F3 l' (Z2 _ hm)]
    simp only[ev];rw[Z7 this]
 |.nm w::ts,c::cs,b,b',hl,h=>by
  simp only[bnd]at h;split at h
  .rename_i ec
   subst ec;obtain⟨h1,h2,h3⟩:=bM (by simpa using hl) h
   exact⟨h1,h2,λφ F3=>by rw[Z1,<-h3 φ F3];rfl⟩
  .trivial
theorem dk:∀(ts:Z8 Te)(b:Bi),(∀l c,gt b l=some c->φ l=c)->∃b',bnd ts (ts.map (ev φ)) b=some b'/\∀l c,gt b' l=some c->φ l=c
 |[],b,h=>⟨b,rfl,h⟩
 |.any l::ts,b,h=>by
  simp only[Z1,ev,bnd];cases e:gt b l with
  |some c=>
   simp only;rw[Z0 (h l c e).symm];exact dk ts b h
  |none=>
   refine dk ts _ λl' c hc=>?_
   rw[j8]at hc;cases e':gt b l' with
   |some c'=>rw[e']at hc;simp at hc;subst hc;exact h _ _ e'
   |none=>
    rw[e']at hc;simp only[Option.none_or]at hc;rw[da]at hc;split at hc
    .rename_i q;subst q;exact Z7 hc
    .simp[gt]at hc
 |.nm w::ts,b,h=>by
  simp only[Z1,ev,bnd,Y2];exact dk ts b h
def eX(p:Pat)(r:Row):Z9 Bi:=if r.1=p.1/\r.2.length=p.2.length then bnd p.2 r.2 [] else none
def binds(rows:Z8 Row)(p:Pat):Z8 Bi:=rows.filterMap (eX p)
def c9(h:b∈binds rows p):(∀l∈ans p.2,∃c,gt b l=some c)/\∀φ:Fit,(∀l∈ans p.2,gt b l=some (φ l))->q5 rows φ p:=by
 obtain⟨r,hr,e⟩:=Yj.mp h;unfold eX at e;split at e
 .rename_i c
  obtain⟨_,h2,h3⟩:=bM c.2.symm e;exact⟨h2,λφ F3=>⟨r,hr,c.1,h3 φ F3⟩⟩
 .trivial
def pb(h:q5 rows φ p):∃b∈binds rows p,∀l∈ans p.2,gt b l=some (φ l):=by
 obtain⟨r,hr,h1,h2⟩:=h;obtain⟨b,e,hb⟩:=dk (φ:=φ) p.2 [] (λl c e=>by simp[gt]at e)
 have hm:eX p r=some b:=by unfold eX;rw[Z0 ⟨h1,by rw[h2];simp⟩,h2];exact e
 have Hr:b∈binds rows p:=Yj.mpr ⟨r,hr,hm⟩;refine⟨b,Hr,λl hl=>?_⟩
 obtain⟨c,hc⟩:=(c9 Hr).1 l hl;rw[hc,hb l c hc]
def vl(b:Bi)(ls:Z8 Str):Z8 Ce:=ls.map λl=>(gt b l).getD default
abbrev Gr:=Z8 (Z8 Ce×Z8 (Z8 Ce))
def lI:Gr->Z8 Ce->Z8 Ce->Gr
 |[],k,e=>[(k,[e])]
 |p::r,k,e=>if p.1=k then(p.1,if e∈p.2 then p.2 else p.2++[e])::r else p::lI r k e
def cf(g:Gr)(k:Z8 Ce):Z8 (Z8 Ce):=((g.find? λq=>decide (q.1=k)).map (·.2)).getD []
def aP(g:Gr)(q:Z8 Ce×Z8 (Z8 Ce))(k:Z8 Ce):cf (q::g) k=if q.1=k then q.2 else cf g k:=by
 unfold cf;rw[List.find?_cons]
 by_cases h:q.1=k<;>simp[h]
theorem me:∀(g:Gr)(k e k' x:Z8 Ce),x∈cf (lI g k e) k'↔x∈cf g k'\/(k'=k/\x=e)
 |[],k,e,k',x=>by
  unfold lI;rw[aP]
  by_cases h:k=k'
  .simp[h,cf]
  .simp[h,cf];intro z;exact absurd z.symm h
 |p::r,k,e,k',x=>by
  unfold lI
  by_cases h:p.1=k
  .rw[Z0 h,aP,aP]
   dsimp only
   by_cases h':p.1=k'
   .rw[Z0 h',Z0 h']
    have hk:k'=k:=h'.symm.trans h;split
    .rename_i m
     constructor
     .exact .inl
     .rintro(q|⟨_,rfl⟩)
      .exact q
      .exact m
    .simp[hk]
   .rw[ZY h',ZY h']
    constructor
    .exact .inl
    .rintro(q|⟨rfl,_⟩)
     .exact q
     .exact absurd h h'
  .rw[ZY h,aP,aP]
   by_cases h':p.1=k'
   .rw[Z0 h',Z0 h']
    constructor
    .exact .inl
    .rintro(q|⟨rfl,_⟩)
     .exact q
     .exact absurd h' h
   .rw[ZY h',ZY h'];exact me r k e k' x
def grp(bs:Z8 Bi)(sh ad:Z8 Str):Gr:=bs.foldl (λg b=>lI g (vl b sh) (vl b ad)) []
def lX(bs:Z8 Bi)(sh ad:Z8 Str)(k x:Z8 Ce):x∈cf (grp bs sh ad) k↔∃b∈bs,vl b sh=k/\vl b ad=x:=by
 have key:∀(bs:Z8 Bi)(g:Gr),x∈cf (bs.foldl (λg b=>lI g (vl b sh) (vl b ad)) g) k↔x∈cf g k\/∃b∈bs,vl b sh=k/\vl b ad=x:=by
  intro bs
  induction bs with
  |nil=>intro g;simp
  |cons b bs ih=>
   intro g;rw[List.foldl_cons,ih,me];constructor
   .rintro((q|⟨q1,q2⟩)|⟨b',m,q⟩)
    .exact .inl q
    .exact .inr ⟨b,ZX ..,q1.symm,q2.symm⟩
    .exact .inr ⟨b',Z2 _ m,q⟩
   .rintro(q|⟨b',m,q1,q2⟩)
    .exact .inl (.inl q)
    .rcases ZZ.mp m with rfl|m
     .exact .inl (.inr ⟨q1.symm,q2.symm⟩)
     .exact .inr ⟨b',m,q1,q2⟩
 rw[grp,key];simp[cf]
def aQ(ls known:Z8 Str):Z8 Nat:=ls.map λl=>known.idxOf l
def pk(c:Z8 Ce)(ps:Z8 Nat):Z8 Ce:=ps.map λi=>c.getD i default
def bi(h:∀l∈ls,l∈known):pk (known.map φ) (aQ ls known)=ls.map φ:=by
 unfold pk aQ;rw[Xe];refine YB λl hl=>?_
 have hi:=YN (h l hl);simp[hi]
def ins(x:Z8 Ce)(l:Z8 (Z8 Ce)):Z8 (Z8 Ce):=if x∈l then l else l++[x]
def yA:y∈ins x l↔y∈l\/y=x:=by
 unfold ins;split
 .constructor
  .exact .inl
  .rintro(h|rfl)<;>assumption
 .simp
def AH(h:l.Nodup):(ins x l).Nodup:=by
 unfold ins;split
 .exact h
 .rename_i n
  rw[Yb];exact⟨h,by simp,λa ha b hb e=>n (by simp at hb;rw[<-hb,<-e];exact ha)⟩
def oK(g:Gr)(sp kp:Z8 Nat)(l:Z8 (Z8 Ce))(c:Z8 Ce):Z8 (Z8 Ce):=(cf g (pk c sp)).foldl (λl a=>ins (pk c kp++a) l) l
def ext(found:Z8 (Z8 Ce))(sp kp:Z8 Nat)(g:Gr):Z8 (Z8 Ce):=found.foldl (oK g sp kp) []
def yL(g:Gr)(sp kp:Z8 Nat)(c:Z8 Ce)(l:Z8 (Z8 Ce))(h:l.Nodup):(oK g sp kp l c).Nodup/\∀x,x∈oK g sp kp l c↔x∈l\/∃a∈cf g (pk c sp),x=pk c kp++a:=by
 unfold oK;generalize cf g (pk c sp)=as
 induction as generalizing l with
 |nil=>exact⟨h,λx=>by simp⟩
 |cons a as ih=>
  rw[List.foldl_cons];obtain⟨h1,h2⟩:=ih _ (AH h);refine⟨h1,λx=>?_⟩
  rw[h2,yA];simp only[ZZ,exists_eq_or_imp];constructor
  .rintro((q|q)|q)
   .exact .inl q
   .exact .inr (.inl q)
   .exact .inr (.inr q)
  .rintro(q|q|q)
   .exact .inl (.inl q)
   .exact .inl (.inr q)
   .exact .inr q
def Be(found:Z8 (Z8 Ce))(sp kp:Z8 Nat)(g:Gr):(ext found sp kp g).Nodup/\∀x,x∈ext found sp kp g↔∃c∈found,∃a∈cf g (pk c sp),x=pk c kp++a:=by
 have key:∀(found l:Z8 (Z8 Ce)),l.Nodup->(found.foldl (oK g sp kp) l).Nodup/\∀x,x∈found.foldl (oK g sp kp) l↔x∈l\/∃c∈found,∃a∈cf g (pk c sp),x=pk c kp++a:=by
  intro found
  induction found with
  |nil=>intro l h;exact⟨h,λx=>by simp⟩
  |cons c found ih=>
   intro l h;obtain⟨e1,e2⟩:=yL g sp kp c l h;obtain⟨h1,h2⟩:=ih _ e1;rw[List.foldl_cons];refine⟨h1,λx=>?_⟩
   rw[h2,e2];simp only[ZZ,exists_eq_or_imp];constructor
   .rintro((q|q)|q)
    .exact .inl q
    .exact .inr (.inl q)
    .exact .inr (.inr q)
   .rintro(q|q|q)
    .exact .inl (.inl q)
    .exact .inl (.inr q)
    .exact .inr q
 obtain⟨h1,h2⟩:=key found [] YX;exact⟨h1,λx=>by rw[ext,h2];simp⟩
structure Jn (rows:List Row)(wanted:List Str)(done am:List Pat)(known:List Str)(found:List (List Ce)):Prop where
 nk:known.Nodup
 nf:found.Nodup
 mem:∀x,x∈found↔∃φ:Fit,x=known.map φ/\∀p∈done,q5 rows φ p
 has:∀l,(∃p∈done,l∈ans p.2)->(l∈wanted\/∃p∈am,l∈ans p.2)->l∈known
 few:∀l∈known,l∈wanted\/∃p∈am,l∈ans p.2
 old:∀l∈known,∃p∈done,l∈ans p.2
def we(rows:Z8 Row)(wanted:Z8 Str)(am:Z8 Pat):Jn rows wanted [] am [] [[]]:=
 ⟨YX,by simp,λx=>⟨λh=>⟨λ_=>default,by simpa using h,λp hp=>(by trivial)⟩,λhz=>by obtain⟨φ,e,_⟩:=hz;simpa using e⟩,λl hz=>by obtain⟨p,hp,_⟩:=hz;exact(by trivial),λl h=>(by trivial),λl h=>(by trivial)⟩
def zB{rows:Z8 Row}{wanted:Z8 Str}{done am:Z8 Pat}{p:Pat}{known own later:Z8 Str}{found:Z8 (Z8 Ce)}(J:Jn rows wanted done (p::am) known found)
  (G4:∀l,l∈own↔l∈ans p.2)(HI:own.Nodup)(Hz:∀l,l∈later↔l∈wanted\/∃q∈am,l∈ans q.2):
  Jn rows wanted (done++[p]) am (known.filter (λl=>decide (l∈later))++own.filter λl=>decide (l∈later)&&!decide (l∈known))
   (ext found (aQ (own.filter λl=>decide (l∈known)) known) (aQ (known.filter λl=>decide (l∈later)) known)
    (grp (binds rows p) (own.filter λl=>decide (l∈known)) (own.filter λl=>decide (l∈later)&&!decide (l∈known)))):=by
 obtain⟨e1,e2⟩:=Be found (aQ (own.filter λl=>decide (l∈known)) known) (aQ (known.filter λl=>decide (l∈later)) known) (grp (binds rows p) (own.filter λl=>decide (l∈known)) (own.filter λl=>decide (l∈later)&&!decide (l∈known)))
 have HW:∀l∈own.filter (λl=>decide (l∈known)),l∈known:=λl hl=>by simp at hl;exact hl.2
 have Hx:∀l∈known.filter (λl=>decide (l∈later)),l∈known:=λl hl=>by simp at hl;exact hl.1
 refine⟨?_,e1,λx=>?_,λl hd hw=>?_,λl hl=>?_,λl hl=>?_⟩
 .rw[Yb]
  refine⟨J.nk.filter _,HI.filter _,λa ha b hb e=>?_⟩
  subst e;simp at ha hb;exact hb.2.2 ha.1
 .rw[e2]
  constructor
  .rintro⟨c,hc,a,ha,rfl⟩
   obtain⟨φ,rfl,F3⟩:=(J.mem c).mp hc;rw[bi HW,lX]at ha;obtain⟨b,hb,h1,h2⟩:=ha;obtain⟨SU,SS⟩:=c9 hb;have hv:∀l∈own,∃c,gt b l=some c:=λl hl=>SU l ((G4 l).mp hl)
   refine⟨λl=>if l∈own then(gt b l).getD default else φ l,?_,λq hq=>?_⟩
   .rw[bi Hx,Y0]
    congr 1
    .refine YB λl hl=>?_
     split
     .rename_i ho
      have hs:l∈own.filter (λl=>decide (l∈known)):=by simp;exact⟨ho,Hx l hl⟩
      have:=congrArg (λz=>z) h1
      unfold vl at h1;exact((List.map_inj_left.mp h1) l hs).symm
     .rfl
    .rw[<-h2]
     unfold vl;refine YB λl hl=>?_
     simp at hl;rw[Z0 hl.1]
   .rcases Zv.mp hq with hq|hq
    .refine oB (λl hl=>?_) (F3 q hq)
     split
     .rename_i ho
      have hk:l∈known:=J.has l ⟨q,hq,hl⟩ (.inr ⟨p,ZX ..,(G4 l).mp ho⟩);have hs:l∈own.filter (λl=>decide (l∈known)):=by simp;exact⟨ho,hk⟩
      unfold vl at h1;exact((List.map_inj_left.mp h1) l hs).symm
     .rfl
    .rw[ZE.mp hq]
     refine SS _ λl hl=>?_
     have ho:=(G4 l).mpr hl;obtain⟨c,hc⟩:=hv l ho;rw[Z0 ho,hc];rfl
  .rintro⟨φ,rfl,F3⟩
   obtain⟨b,hb,Lj⟩:=pb (F3 p (ZG _ (ZE.mpr rfl)));refine⟨known.map φ,(J.mem _).mpr ⟨φ,rfl,λq hq=>F3 q (YZ _ hq)⟩,(own.filter λl=>decide (l∈later)&&!decide (l∈known)).map φ,?_,?_⟩
   .rw[bi HW,lX]
    refine⟨b,hb,?_,?_⟩
    .unfold vl;refine YB λl hl=>?_
     rw[Lj l ((G4 l).mp (YI.mp hl).1)];rfl
    .unfold vl;refine YB λl hl=>?_
     rw[Lj l ((G4 l).mp (YI.mp hl).1)];rfl
   .rw[bi Hx,Y0]
 .have Pe:l∈later:=(Hz l).mpr hw
  obtain⟨q,hq,hl⟩:=hd
  by_cases hk:l∈known
  .exact YZ _ (YI.mpr ⟨hk,by simpa using Pe⟩)
  .rcases Zv.mp hq with hq|hq
   .exfalso
    refine hk (J.has l ⟨q,hq,hl⟩ ?_)
    rcases hw with hw|⟨q',Hn,F4⟩
    .exact .inl hw
    .exact .inr ⟨q',Z2 _ Hn,F4⟩
   .rw[ZE.mp hq]at hl
    exact ZG _ (YI.mpr ⟨(G4 l).mpr hl,by simp[Pe,hk]⟩)
 .rcases Zv.mp hl with hl|hl
  .exact(Hz l).mp (by simpa using(YI.mp hl).2)
  .have:=(YI.mp hl).2
   simp at this;exact(Hz l).mp this.1
 .rcases Zv.mp hl with hl|hl
  .obtain⟨q,hq,h⟩:=J.old l (YI.mp hl).1
   exact⟨q,YZ _ hq,h⟩
  .exact⟨p,ZG _ (ZE.mpr rfl),(G4 l).mp (YI.mp hl).1⟩
def AW(J:Jn rows wanted done [] known found)(hw:∀l∈wanted,∃p∈done,l∈ans p.2):
  (found.map λc=>pk c (aQ wanted known)).Nodup/\∀x,x∈found.map (λc=>pk c (aQ wanted known))↔∃φ:Fit,x=wanted.map φ/\∀p∈done,q5 rows φ p:=by
 have wk:∀l∈wanted,l∈known:=λl hl=>J.has l (hw l hl) (.inl hl)
 have kw:∀l∈known,l∈wanted:=λl hl=>(J.few l hl).elim id λhz=>by obtain⟨p,hp,_⟩:=hz;trivial
 constructor
 .rw[List.nodup_iff_pairwise_ne,Yc]
  refine J.nf.imp_of_mem λ{c d} hc hd FW e=>FW ?_
  obtain⟨φ,rfl,_⟩:=(J.mem c).mp hc;obtain⟨ψ,rfl,_⟩:=(J.mem d).mp hd;rw[bi wk,bi wk]at e;exact YB λl hl=>(List.map_inj_left.mp e) l (kw l hl)
 .intro x
  rw[ZL];constructor
  .rintro⟨c,hc,rfl⟩
   obtain⟨φ,rfl,F3⟩:=(J.mem c).mp hc;exact⟨φ,bi wk,F3⟩
  .rintro⟨φ,rfl,F3⟩
   exact⟨known.map φ,(J.mem _).mpr ⟨φ,rfl,F3⟩,bi wk⟩
end JP
namespace L2
open PySem PySem.Spec PyProof.Rows PySem.W
section
theorem gA:∀{l:Frag},l.lookup a=some o->(a,o)∈l
 |[],h=>nomatch h
 |(b,p)::l,h=>by
  rw[List.lookup_cons]at h;cases e:a==b with
  |true=>rw[e]at h;cases h;rw[Zx.mp e];exact .head _
  |false=>rw[e]at h;exact .tail _ (gA h)
def vM(h:Heap):(zC h).In h:=λa o e=>by
 obtain⟨b,_,hb⟩:=Yj.mp (gA e);obtain⟨p,h1,h2⟩:=Option.bind_eq_some_iff.mp hb;split at h2
 .cases h2;exact h1
 .cases h2
structure Seen (defs:List (Str×Stmt))(bl:List Str)(cs:List (Str×ZN))(K:Frag):Prop where
 fn:defs.map (λp=>B9 K p.1)=defs.map λp=>some (ur p.1 p.2)
 bl:bl.map (nsIn K mainGlobals)=bl.map λ_=>some none
 cd:cs.map (λp=>mq K p.1)=cs.map λp=>some (.ref p.2)
theorem mE{α β:Type}{f g:α->β}:∀{l:Z8 α}{i:Nat}{x:α},l.map f=l.map g->l[i]?=some x->f x=g x
 |[],_,_,_,h=>by simp at h
 |y::l,0,x,e,h=>by cases h;exact(List.cons.inj e).1
 |y::l,i+1,x,e,h=>mE (List.cons.inj e).2 h
def map_mem{α β:Type}{f g:α->β}{l:Z8 α}{x:α}(e:l.map f=l.map g)(h:x∈l):f x=g x:=by
 obtain⟨i,hi⟩:=X_ h
 exact mE e hi
section
variable{defs:Z8 (Str×Stmt)}{bl:Z8 Str}{cs:Z8 (Str×ZN)}{K:Frag}{h:Heap}{mg:Str->Z9 Z3}
def Seen.df0(S:Seen defs bl cs K)(X:K.In h)(G:h.Ns mainGlobals mg)(i:Nat){x:Str}{st:Stmt}(e:defs[i]?=some (x,st)):∃f fd,Fun K x x st f fd/\mg x=some (.ref f)/\mq K x=some fd.code:=by
 have q:B9 K x=some (ur x st):=mE S.fn e;unfold B9 at q;unfold mq;split at q
 .rename_i f hf
  split at q
  .rename_i oc od fd sl hl
   split at q
   .rename_i hc
    refine⟨f,fd,⟨⟨oc,od,fd.kwdefaults,fd.doc,fd.pyModule,fd.annotations,fd.code,fd.closureTuple,sl,?_,hl,hc⟩,?_⟩,mg_of X G hf,rfl⟩
    .have q':=Z7 q
     obtain⟨a1,a2,a3,a4,a5,a6,a7,a8,a9,T4,T3,T2,T1,TZ,TY⟩:=fd;simp only[A0,ur,XA]at q';obtain⟨rfl,rfl,rfl,rfl,rfl,rfl,rfl,rfl,rfl⟩:=q';rfl
    .unfold keepIn;dsimp only;rw[hl]
   .cases q
  .cases q
 .cases q
def Seen.df(S:Seen defs bl cs K)(X:K.In h)(G:h.Ns mainGlobals mg)(i:Nat){x:Str}{st:Stmt}(e:defs[i]?=some (x,st)):∃f fd,Fun K x x st f fd/\mg x=some (.ref f):=by
 obtain⟨f,fd,F,hm,_⟩:=S.df0 X G i e;exact⟨f,fd,F,hm⟩
def Seen.dfC(S:Seen defs bl cs K)(X:K.In h)(G:h.Ns mainGlobals mg)(i j:Nat){x:Str}{st:Stmt}{c:ZN}(e:defs[i]?=some (x,st))(e':cs[j]?=some (x,c)):∃f fd,Fun K x x st f fd/\mg x=some (.ref f)/\fd.code=.ref c:=by
 obtain⟨f,fd,F,hm,hc⟩:=S.df0 X G i e;exact⟨f,fd,F,hm,Z7 (hc.symm.trans (mE S.cd e'))⟩
def Seen.txt(S:Seen defs bl cs K)(X:K.In h)(G:h.Ns mainGlobals mg):∀x∈bl,mg x=none:=λx hx=>mg_none_of X G (map_mem S.bl hx)
end
variable[Lams]
def DV(cs:Z8 (Str×ZN))(K:Frag):Prop:=(Lams.tb.zip cs).map (λq=>codeHdIn K q.2.2 q.1.1)=(Lams.tb.zip cs).map (λ_=>true)/\Lams.tb.map (λq=>K.lookup q.1)=Lams.tb.map (λ_=>none)
def YH(defs:Z8 (Str×Stmt))(bl:Z8 Str)(cs:Z8 (Str×ZN))(_:YO)(h:Heap):Prop:=∃K:Frag,K.In h/\Seen defs bl cs K/\Lams.tb.map (λq=>h.get? q.1)=Lams.tb.map (λ_=>some EA)/\DV cs K
def yh_of(w:YO)(s:ZP)(e:YfH defs bl cs s=YaH defs bl cs w):YH defs bl cs w s.heap:=by
 unfold YfH YaH at e;simp only[XA]at e;exact⟨zC s.heap,vM _,⟨e.1,e.2.1,e.2.2.1⟩,e.2.2.2.1,e.2.2.2.2.1,e.2.2.2.2.2⟩
def yh_keeps(w:YO)(h h':Heap)(y:YH defs bl cs w h)(k:∀b o,h.get? b=some o->h'.get? b=some o):YH defs bl cs w h':=by
 obtain⟨K,hK,hS,ht,hc⟩:=y;refine⟨K,hK.keeps k,hS,?_,hc⟩
 exact YB λq hq=>k _ _ (map_mem ht hq)
theorem qq{α β:Type}:∀{l:Z8 α}{m:Z8 β}{x:α},l.length=m.length->x∈l->∃y,(x,y)∈l.zip m
 |a::l,b::m,x,e,h=>by
  rcases ZZ.mp h with rfl|h
  .exact⟨b,.head _⟩
  .obtain⟨y,hy⟩:=qq (Nat.succ.inj e) h
   exact⟨y,.tail _ hy⟩
def walk_H{l:OpenLaw}{d:DefRec}{cs:Z8 (Str×ZN)}{sp:Frag->Sp}(hn:l.most=some n)(Rt:n<=sizeLine)(KI:d.params.defaults=[])(hr:Room k callerA)(NA:Lams.tb.length=cs.length)(F:∀(w:YO)(mg:Str->Z9 Z3)(fa:ZN)(h:Heap)(K:Frag),Seen defs bl cs K->DV cs K->K.In h->h.Ns mainGlobals mg->mg d.name=some (.ref fa)->
   ∃fd:FuncData,(∀(s:ZP)(u:Z3),BindsTo s fd ⟨[u],[]⟩ [(x,u)])/\
    ∀base:Heap,K.In base->base.Ns mainGlobals mg->FnOk l.prog w K mg base CX k fa fd [x] (sp K)) (Jk:∀(K:Frag)(H:Hp)(a:ZN)(ns:Z8 Int),ns.length<=n->Di H->SqL K H a (ns.map V.int)->sp K [.ref a] H (λv _=>v=.bl true) λ_ _ _=>False) (NJ:∀(H:Hp)(s:ZP)(e:Z3)(s':ZP),CX [] H s (λ_ _ _=>False) e s'->False) (JN:∀q∈Lams.tb,∀r∈Lams.tb,q.1=r.1->q=r):
  WalkO q loose XP (YH defs bl cs) l.row.toRowW d [] (λf vs=>PySem.call f vs):=by
 refine Att.attach_call hn KI λw o_ g_ mg mb fa o pm cd doc a vs ns G Y ho hd Gi hmg J7 hints hlen hg=>?_
 obtain⟨K,KX,S,ht,hL⟩:=Y;obtain⟨fd,hb,hF⟩:=F w mg fa _ K S hL KX G.T.g hmg;exact u8 KX G.T.g G.T.b G.T.builtins G.T.nolimit hg J7 hints (Zr hlen Rt) hr hF hb (λH hO hS=>Jk K H a ns hlen hO hS) (λH e s'=>NJ H g_ e s') G.T.bmain (λq hq=>⟨map_mem ht hq,map_mem hL.2 hq,by
  obtain⟨c,hz⟩:=qq NA hq;obtain⟨o,vs,_,_,_,_,_,_,_,e1,e2,e3,e4,_⟩:=codeHd_of_K KX (map_mem hL.1 hz);exact⟨c.2,o,vs,e1,e2,e3,e4⟩⟩) JN
end
end L2
namespace L2
open PySem
def Txb(bl:Z8 Str)(mg:Str->Z9 Z3):Prop:=∀x∈bl,mg x=none
def Txb.get(T:Txb bl mg)(h:decide (x∈bl)=true):mg x=none:=T x (Zf h)
def us0{P:Z8 Z3->Prop}(h:P []):∀us:Z8 Z3,us.length=0->P us
 |[],_=>h
def usS{n:Nat}{P:Z8 Z3->Prop}(h:∀a us,us.length=n->P (a::us)):∀us:Z8 Z3,us.length=n+1->P us
 |a::us,e=>h a us (Nat.succ.inj e)
def Df(K:Z6)(mg:Str->Z9 Z3)(x:Str)(st:Stmt):Prop:=∃f fd,Fun K x x st f fd/\mg x=some (.ref f)
def DfC(K:Z6)(mg:Str->Z9 Z3)(x:Str)(st:Stmt)(c:ZN):Prop:=∃f fd,Fun K x x st f fd/\mg x=some (.ref f)/\fd.code=.ref c
section
variable[Lams]{mg:Str->Z9 Z3}{st:Stmt}{f:ZN}
def mkF(n:Nat)(N:Z8 Str)(g:DEnv->Z9 Out)(F:Fun K x x st f fd)(hm:mg x=some (.ref f))(S:FnScope N (N.take n) (defScope st))(hb:∀(kV doc pm:Z3)(an:Z9 ZN)(F5 ct:Z3)(us:Z8 Z3),us.length=(N.take n).length->bindArgs (PySem.W.fnOf x x (defArgs st) (defBody st) (defScope st) .none kV doc pm an F5 ct) ⟨us,[]⟩=pure ((N.take n).zip us))(body:∀X:Cx,X.prog=P->X.w=w->X.K=K->X.mg=mg->X.base=base->Has X N (defScope st)->(∀x,X.fn x=true)->PassesOwn (model X.prog X.w) X.A X.env X.xe->Room k X.A->DSs X (defBody st) g):
  FnOk P w K mg base CX0 (k+1) f fd (N.take n) (spM K (bZ N.length (N.take n).length g))/\FnM P w K mg base (k+1) x (bZ N.length (N.take n).length g):=
 wv (P:=P) (w:=w) (base:=base) (g:=g) F S (F.binds hb) hm (by rw[XE];exact Nat.min_le_right ..) λA outer s H E hr=>body _ rfl rfl rfl rfl rfl (Bs S.nd) (λ_=>rfl) PassesOwn.never hr
def mk(n:Nat)(N:Z8 Str)(g:DEnv->Z9 Out)(D:Df K mg x st)(S:FnScope N (N.take n) (defScope st))(hb:∀(kV doc pm:Z3)(an:Z9 ZN)(F5 ct:Z3)(us:Z8 Z3),us.length=(N.take n).length->bindArgs (PySem.W.fnOf x x (defArgs st) (defBody st) (defScope st) .none kV doc pm an F5 ct) ⟨us,[]⟩=pure ((N.take n).zip us))(body:∀X:Cx,X.prog=P->X.w=w->X.K=K->X.mg=mg->X.base=base->Has X N (defScope st)->(∀x,X.fn x=true)->PassesOwn (model X.prog X.w) X.A X.env X.xe->Room k X.A->DSs X (defBody st) g):FnM P w K mg base (k+1) x (bZ N.length (N.take n).length g):=by
 obtain⟨f,fd,F,hm⟩:=D;exact(mkF n N g F hm S hb body).2
def mkN(n:Nat)(N:Z8 Str)(g:DEnv->Z9 Out)(D:Df K mg x st)(S:FnScope N (N.take n) (defScope st))(hb:∀(kV doc pm:Z3)(an:Z9 ZN)(F5 ct:Z3)(us:Z8 Z3),us.length=(N.take n).length->bindArgs (PySem.W.fnOf x x (defArgs st) (defBody st) (defScope st) .none kV doc pm an F5 ct) ⟨us,[]⟩=pure ((N.take n).zip us))(body:∀X:Cx,X.prog=P->X.w=w->X.K=K->X.mg=mg->X.base=base->Has X N (defScope st)->(∀x,X.fn x=true)->PassesOwn (model X.prog X.w) X.A X.env X.xe->Room k X.A->DUs X (defBody st) g):FnN P w K mg base (k+1) x (bZ N.length (N.take n).length g):=by
 obtain⟨f,fd,F,hm⟩:=D;exact Bl (P:=P) (w:=w) (base:=base) (g:=g) F S (F.binds hb) hm (by rw[XE];exact Nat.min_le_right ..) λA outer s H E hr=>body _ rfl rfl rfl rfl rfl (Bs S.nd) (λ_=>rfl) PassesOwn.never hr
end
end L2
namespace K11
open PySem L2
variable[Lams]
local macro_rules| `(tactic|walk_at "z")=> `(tactic|first
 |fail_if_success refine(?_:(_:Prop))
 |rfl
 |assumption
 |(((with_reducible first|refine' @nv .. |refine' @j3 .. |refine' @wG .. |refine' @v7 .. |refine' @nC .. |refine' @xW .. |refine' @BX .. |refine' @Bh .. |refine' @Af .. |refine' @v3 .. |refine' @xY .. |refine' @vX .. |refine' @A9 .. |refine' @AF .. |refine' @zi .. |refine' @Ab .. |refine' @AI .. |refine' @Aj .. |refine' @yK .. |refine' @tV .. |refine' @Ao .. |refine' @vj .. |refine' @C4 .. |refine' @wI .. |refine' @CT .. |refine' @Bg .. |refine' @Dk .. |refine' @nI .. |refine' @zh .. |refine' @yS .. |refine' @vI .. |refine' @jq .. |refine' @iX .. |refine' @mD .. |refine' @mQ .. |refine' @sP .. |refine' @oY .. |refine' @yj .. |refine' @rO .. |refine' @wV .. |refine' @xf .. |refine' @uB .. |refine' @pW .. |refine' @vq .. |refine' @zg .. |refine' @Bt .. |refine' @AN .. |refine' @Cp .. |refine' @uN .. |refine' @Dj .. |refine' @C9 .. |refine' @xu .. |refine' @qZ .. |refine' @qU .. |refine' @mv .. |refine' @zt .. |refine' @uT .. |refine' @iJ .. |refine' @Bz .. |refine' @o9 .. |refine' @gE .. |refine' @zw .. |refine' @B4 .. |refine' @Dq .. |refine' @rV .. |refine' @AC .. |refine' @mP .. |refine' @fG .. |refine' @bQ .. |refine' @jf .. |refine' @yC .. |refine' @lV .. |refine' @Bj .. |refine' @xL .. |refine' @yU .. |refine' @BD .. |refine' @AZ .. |refine' @iq .. |refine' @uv .. |refine' @yk .. |refine' @yy .. |refine' @zo .. |refine' @ja .. |refine' @qf .. |refine' @pG .. |refine' @yO .. |refine' @zN .. |refine' @Bv .. |refine' @Ct .. |refine' @BJ .. |refine' @yR .. |refine' @xF .. |refine' @BW .. |refine' @C6 .. |refine' @yY .. |refine' @Ad .. |refine' @yZ .. |refine' @yi .. |refine' @ye .. |refine' @xS .. |refine' @pU .. |refine' @dj .. |refine' @lw .. |refine' @DF.share .. |refine' @wz .. |refine' @Ak .. |refine' PW.pt ..)<;>walk_at "z");all_goals exact false)
 |(have h:=(by assumption:Has _ _ _);first|exact Has.nm h (by decide +kernel)|exact Has.nm (Has.comp h ..) (by decide +kernel)|exact Has.nm (Has.comp (Has.comp h ..) ..) (by decide +kernel))
 |(have h:=(by assumption:Has _ _ _);first|exact Has.lc h (by assumption) (by decide +kernel)|exact Has.lcl (Has.comp h ..) (by decide +kernel)|exact Has.lcl (Has.comp (Has.comp h ..) ..) (by decide +kernel))
 |(refine Gb.gl ?_;walk_at "z")
 |(have h:=(by assumption:Has _ _ _);first|exact Has.gb h (by decide +kernel)|exact Has.gb (Has.comp h ..) (by decide +kernel)|exact Has.gb (Has.comp (Has.comp h ..) ..) (by decide +kernel))
 |(have h:=(by assumption:Txb _ _);exact Txb.get h (by decide +kernel))
 |(have h:=(by assumption:Room _ _);exact Room.mono h (by decide))
 |(have h:=(by assumption:Has _ _ _);first|exact Has.calm h|exact Has.calm (Has.comp h ..)|exact Has.calm (Has.comp (Has.comp h ..) ..))
 |(have h:=(by assumption:Has _ _ _);first|exact Has.nd h|exact Has.nd (Has.comp h ..)|exact Has.nd (Has.comp (Has.comp h ..) ..))
 |(have h:=(by assumption:Has _ _ _);first|exact CompScope.of' h (by decide +kernel)|exact CompScope.of' (Has.comp h ..) (by decide +kernel))
 |exact fN _
 |exact pY _ _ (by decide)
 |exact Dm
 |exact CA
 |exact Do
 |exact Cy
 |exact Ay
 |exact xA
 |exact BU
 |exact tf
 |exact mI
 |exact bt (bt fv)
 |exact bt fv
 |exact bt (bt (bt fv))
 |exact⟨rfl,rfl,rfl,rfl,rfl⟩|(have h:=(by assumption:Has _ _ _);exact ei h (by decide +kernel))
 |exact v9
 |exact xG
 |decide +kernel
 |decide
 |(simp;done)
 |(intros;rfl)
 |(intro _;walk_at "z"))
local macro_rules| `(tactic|walk_at "sc")=> `(tactic|first
 |exact⟨rfl,rfl,rfl,by decide +kernel,rfl,by decide +kernel,by decide +kernel⟩)
local macro_rules| `(tactic|walk_at "bi")=> `(tactic|first
 |exact λ_ _ _ _ _ _=>usS λ_=>us0 rfl
 |exact λ_ _ _ _ _ _=>usS λ_=>usS λ_=>us0 rfl
 |exact λ_ _ _ _ _ _=>usS λ_=>usS λ_=>usS λ_=>us0 rfl
 |exact λ_ _ _ _ _ _=>usS λ_=>usS λ_=>usS λ_=>usS λ_=>us0 rfl
 |exact λ_ _ _ _ _ _=>usS λ_=>usS λ_=>usS λ_=>usS λ_=>usS λ_=>us0 rfl)
local macro_rules| `(tactic|walk_at "mk")=> `(tactic|first
 |(intro X e1 e2 e3 e4 e5 h f p r;subst e1 e2 e3 e4 e5;have u:=r.units;(conv in defBody _=>whnf);walk_at "z"))
abbrev Txt:(Str->Z9 Z3)->Prop:=Txb blK
abbrev EN:Z8 Str:=["patterns","letters","table","terms","term"]
abbrev nJ(δ:DEnv):Z9 D:=ixO (rd false 4 δ) (some (.int 1))
noncomputable abbrev sC(δ:DEnv):Z9 Out:=xE 1 (av (ae (z0 (rd false 3 δ)) (b0 false [false,false,false,false,false] (aa 4) (λδ=>eqO (ixO (rd false 4 δ) (some (.int 0))) (some (.str "any"))) nJ δ))) δ
abbrev wY(δ:DEnv):Z9 Out:=eL (cy (rd false 1 δ))
noncomputable abbrev Ds(δ:DEnv):Z9 Out:=aG (d9 1 (ce (some [])) δ) (λδ=>aG (ae (cr (rd false 0 δ)) λds=>ao (λd δ=>ae ((aM (aj (aa 2) (aj (aa 3) (toNil)))) d δ) sC) ds δ) (λδ=>wY (frzE 1 δ)))
def FO:Z8 D->Z9 (D×Bool):=bZ 5 1 Ds
abbrev FA:Z8 Str:=["terms","cells","binding","term","cell"]
abbrev wp(δ:DEnv):Z9 (Bool×DEnv):=neX (sdO 2 (ixO (rd false 3 δ) (some (.int 1))) (rd false 4 δ) δ) (λδ=>rd false 4 δ)
noncomputable abbrev jB(δ:DEnv):Z9 Out:=ifO (eqO (ixO (rd false 3 δ) (some (.int 0))) (some (.str "any"))) (ifX (wp δ) (λδ=>f8 (some .non)) (λδ=>nextO δ)) (ifO (neO (rd false 3 δ) (rd false 4 δ)) (f8 (some .non)) (nextO δ))
noncomputable abbrev Cu(δ:DEnv):Z9 Out:=aG (d9 2 (some (.dK [] [])) δ) (λδ=>aG (ae (vG true true (rd false 0 δ) (rd false 1 δ)) λds=>ao (λd δ=>ae ((aM (aj (aa 3) (aj (aa 4) (toNil)))) d δ) jB) ds δ) (λδ=>eL (bB 2 δ)))
def Il:Z8 D->Z9 (D×Bool):=bZ 5 2 Cu
abbrev Fc:Z8 Str:=["rows","pattern","found","table","cells","binding"]
noncomputable abbrev gy(δ:DEnv):Z9 Out:=ifO (pD (eqO (rd false 3 δ) (ixO (rd false 1 δ) (some (.int 0)))) (eqO (f9 (rd false 4 δ)) (f9 (ixO (rd false 1 δ) (some (.int 1)))))) (aG (bK 5 (shO (ae (af (ixO (rd false 1 δ) (some (.int 1))) (af (rd false 4 δ) (some []))) Il)) δ) (λδ=>ifO (gR (pT (rd false 5 δ))) (gw 2 (rd false 5 δ) δ) (nextO δ))) (nextO δ)
noncomputable abbrev Dy(δ:DEnv):Z9 Out:=aG (d9 2 (ce (some [])) δ) (λδ=>aG (ae (cr (rd false 0 δ)) λds=>ao (λd δ=>ae ((aM (aj (aa 3) (aj (aa 4) (toNil)))) d δ) gy) ds δ) (λδ=>eL (bB 2 δ)))
def HC:Z8 D->Z9 (D×Bool):=bZ 6 2 Dy
abbrev E3:Z8 Str:=["pattern","known","letter"]
abbrev tR(δ:DEnv):Z9 D:=ofB (inO (rd false 2 δ) (rd false 1 δ))
noncomputable abbrev Da(δ:DEnv):Z9 Out:=f8 (Cd (av (ae (cr (frO (ae (af (ce (af (rd false 0 δ) (some []))) (some [])) FO))) (b0 false [false,true,false] (aa 2) (λδ=>some true) tR δ))))
def G8:Z8 D->Z9 (D×Bool):=bZ 3 2 Da
abbrev CV:Z8 Str:=["rows","body","known","rest","placed","bound","linked","taken","pattern","pair"]
abbrev kF(δ:DEnv):Z9 D:=kG (af (rd false 8 δ) (af (frO (ae (af (rd false 0 δ) (af (rd false 8 δ) (some []))) HC)) (some [])))
abbrev gZ(δ:DEnv):Z9 D:=f9 (ixO (rd false 0 δ) (some (.int 1)))
abbrev nN(δ:DEnv):Z9 D:=ixO (rd false 9 δ) (some (.int 0))
abbrev nL(δ:DEnv):Z9 Bool:=tyB (shO (ae (af (ixO (rd false 9 δ) (some (.int 0))) (af (rd false 5 δ) (some []))) G8))
abbrev qW(δ:DEnv):Z9 Out:=gw 4 (rd false 7 δ) δ
abbrev jZ(δ:DEnv):Z9 Bool:=t5 (rd true 3 δ)
noncomputable abbrev jl(δ:DEnv):Z9 Out:=aG (bK 5 (v6 (iz (rd false 2 δ)) (flO (ae (af (av (fU (ae (cr (rd true 4 δ)) (b0 true [false,false,false,false,false,false,false,false,false,false] (aa 9) (λδ=>some true) nN δ)))) (some [])) FO))) δ) (λδ=>qh 3 6 7 9 [false,false,false,false,false,true,false,false,false,false] nL δ qW)
noncomputable abbrev Jc(δ:DEnv):Z9 Out:=aG (d9 3 (gY (av (ae (cr (rd false 1 δ)) (b0 false [true,false,false,false,false,false,false,false,false,false] (aa 8) (λδ=>some true) kF δ))) (λd=>gZ [some (d,false)])) δ) (λδ=>aG (d9 4 (ce (some [])) δ) (λδ=>aG (cY jZ jl 1000 δ) (λδ=>eL (bB 4 δ))))
def Im:Z8 D->Z9 (D×Bool):=bZ 10 3 Jc
abbrev FF:Z8 Str:=["letters","known","letter"]
abbrev tz(δ:DEnv):Z9 D:=zY (rd false 1 δ) (rd false 2 δ)
abbrev CS(δ:DEnv):Z9 Out:=eL (av (ae (cr (rd false 0 δ)) (b0 false [false,true,false] (aa 2) (λδ=>some true) tz δ)))
def G7:Z8 D->Z9 (D×Bool):=bZ 3 2 CS
abbrev EQ:Z8 Str:=["found","shared","added","groups","binding","key","group","letter"]
abbrev Gg(δ:DEnv):Z9 D:=zX (rd false 4 δ) (rd false 7 δ)
abbrev wZ(δ:DEnv):Z9 D:=zX (rd false 4 δ) (rd false 7 δ)
abbrev wx(δ:DEnv):Z9 (Z8 D):=cr (rd false 0 δ)
noncomputable abbrev mZ(δ:DEnv):Z9 D:=dF (av (ae (cr (rd false 1 δ)) (b0 false [false,false,false,false,true,false,false,false] (aa 7) (λδ=>some true) Gg δ)))
noncomputable abbrev mH(δ:DEnv):Z9 D:=dF (av (ae (cr (rd false 2 δ)) (b0 false [false,false,false,false,true,false,false,false] (aa 7) (λδ=>some true) wZ δ)))
abbrev C7(δ:DEnv):Z9 Out:=AL 3 4 5 6 wx mZ mH δ
def Ik:Z8 D->Z9 (D×Bool):=bZ 8 3 C7
abbrev Fy:Z8 Str:=["cells","places","place"]
abbrev ql(δ:DEnv):Z9 D:=ixO (rd false 0 δ) (rd false 2 δ)
abbrev CP(δ:DEnv):Z9 Out:=f8 (dF (av (ae (cr (rd false 1 δ)) (b0 false [true,false,false] (aa 2) (λδ=>some true) ql δ))))
def GS:Z8 D->Z9 (D×Bool):=bZ 3 2 CP
abbrev ES:Z8 Str:=["found","shared_places","kept_places","groups","longer","cells","kept","added"]
abbrev qF(δ:DEnv):Z9 Out:=vY 4 (rS (rd false 6 δ) (rd false 7 δ)) (some (.bl true)) δ
noncomputable abbrev rU(δ:DEnv):Z9 Out:=aG (bK 6 (shO (ae (af (rd false 5 δ) (af (rd false 2 δ) (some []))) GS)) δ) (λδ=>ae (vH (jX (rd false 3 δ) (shO (ae (af (rd false 5 δ) (af (rd false 1 δ) (some []))) GS)) (some (.dD [] [])))) λds=>ao (λd δ=>ae ((aa 7) d δ) qF) ds δ)
abbrev wN(δ:DEnv):Z9 Out:=eL (mF (rd false 4 δ))
noncomputable abbrev DB(δ:DEnv):Z9 Out:=aG (d9 4 (some (.dD [] [])) δ) (λδ=>aG (ae (cr (rd false 0 δ)) λds=>ao (λd δ=>ae ((aa 5) d δ) rU) ds δ) (λδ=>wN (frzE 4 δ)))
def Ij:Z8 D->Z9 (D×Bool):=bZ 8 4 DB
noncomputable abbrev EC:Z8 Str:=["rows","body","wanted","known","found","pairs","place","pair","later","own","shared","added","kept","groups","wanted_places","letter","cells","behind"]
abbrev sS(δ:DEnv):Z9 D:=ixO (rd false 17 δ) (some (.int 0))
abbrev wP(δ:DEnv):Z9 D:=rd false 15 δ
abbrev xq(δ:DEnv):Z9 D:=rd false 15 δ
abbrev wu(δ:DEnv):Z9 D:=rd false 15 δ
noncomputable abbrev wH(δ:DEnv):Z9 Out:=aG (bK 13 (frO (ae (af (ixO (rd false 7 δ) (some (.int 1))) (af (rd false 10 δ) (af (rd false 11 δ) (some [])))) Ik)) δ) (λδ=>aG (bK 4 (frO (ae (af (rd false 4 δ) (af (frO (ae (af (rd false 10 δ) (af (rd false 3 δ) (some []))) G7)) (af (frO (ae (af (rd false 12 δ) (af (rd false 3 δ) (some []))) G7)) (af (rd false 13 δ) (some []))))) Ij)) δ) (λδ=>bK 3 (v6 (rd false 12 δ) (rd false 11 δ)) δ))
noncomputable abbrev wy(δ:DEnv):Z9 Out:=aG (d9 12 (av (ae (cr (rd false 3 δ)) (b0 false [false,false,false,false,false,false,false,false,true,false,false,false,false,false,false,false,false,false] (aa 15) (λδ=>inO (rd false 15 δ) (rd false 8 δ)) wu δ))) δ) (λδ=>wH (frzE 12 δ))
noncomputable abbrev xa(δ:DEnv):Z9 Out:=aG (d9 11 (av (ae (cr (rd false 9 δ)) (b0 false [false,false,false,true,false,false,false,false,true,false,false,false,false,false,false,false,false,false] (aa 15) (λδ=>pD (inO (rd false 15 δ) (rd false 8 δ)) (bX (rd false 15 δ) (rd false 3 δ))) xq δ))) δ) (λδ=>wy (frzE 11 δ))
noncomputable abbrev jx(δ:DEnv):Z9 Out:=aG (bK 8 (v6 (iz (rd false 2 δ)) (frO (ae (af (av (ae (cr (oW (rd false 5 δ) (iM (gj (rd false 6 δ) (some (.int 1)))) (some none))) (b0 false [false,false,false,false,false,false,false,false,false,false,false,false,false,false,false,false,false,false] (aa 17) (λδ=>some true) sS δ))) (some [])) FO))) δ) (λδ=>aG (bK 9 (frO (ae (af (ce (af (ixO (rd false 7 δ) (some (.int 0))) (some []))) (some [])) FO)) δ) (λδ=>aG (d9 10 (av (ae (cr (rd false 9 δ)) (b0 false [false,false,false,true,false,false,false,false,false,false,false,false,false,false,false,false,false,false] (aa 15) (λδ=>inO (rd false 15 δ) (rd false 3 δ)) wP δ))) δ) (λδ=>xa (frzE 10 δ))))
abbrev w9(δ:DEnv):Z9 D:=shO (ae (af (rd false 16 δ) (af (rd false 14 δ) (some []))) GS)
noncomputable abbrev Dv(δ:DEnv):Z9 Out:=aG (bK 5 (frO (ae (af (rd false 0 δ) (af (rd false 1 δ) (af (rd false 3 δ) (some [])))) Im)) δ) (λδ=>aG (ae (vV (rd false 5 δ)) λds=>ao (λd δ=>ae ((aM (aj (aa 6) (aj (aa 7) (toNil)))) d δ) jx) ds δ) (λδ=>aG (bK 14 (frO (ae (af (rd false 2 δ) (af (rd false 3 δ) (some []))) G7)) δ) (λδ=>eL (fE .tt (av (ae (cr (rd false 4 δ)) (b0 false [false,false,false,false,false,false,false,false,false,false,false,false,false,false,true,false,false,false] (aa 16) (λδ=>some true) w9 δ)))))))
def HD:Z8 D->Z9 (D×Bool):=bZ 18 5 Dv
abbrev DH:Z8 Str:=["rows","body","known","found","letters","cells"]
abbrev wW(δ:DEnv):Z9 D:=kZ false true (rd false 4 δ) (rd false 5 δ)
noncomputable abbrev Ci(δ:DEnv):Z9 Out:=aG (bK 4 (frO (ae (af (rd false 1 δ) (some [])) FO)) δ) (λδ=>eL (av (ae (cr (frO (ae (af (rd false 0 δ) (af (rd false 1 δ) (af (rd false 4 δ) (af (rd false 2 δ) (af (rd false 3 δ) (some [])))))) HD))) (b0 false [false,false,false,false,true,false] (aa 5) (λδ=>some true) wW δ))))
def G9:Z8 D->Z9 (D×Bool):=bZ 6 4 Ci
abbrev DM:Z8 Str:=["rows","body"]
noncomputable abbrev Cg(δ:DEnv):Z9 Out:=eL (frO (ae (af (rd false 0 δ) (af (rd false 1 δ) (af (ce (some [])) (af (ce (af (kG (some [])) (some []))) (some []))))) G9))
def Gv:Z8 D->Z9 (D×Bool):=bZ 2 2 Cg
abbrev FD:Z8 Str:=["_law_cell","_law_j","_law_number"]
noncomputable abbrev CN(δ:DEnv):Z9 Out:=aG (bK 2 (cS (gj (tN (rd false 0 δ) (gj (tN (some (.int 2)) (rd false 1 δ)) (some (.int 3)))) (rd false 1 δ)) (some (.int 2147483629))) δ) (λδ=>f8 (cS (tN (gj (tN (rd false 2 δ) (rd false 2 δ)) (some (.int 1))) (some (.int 48271))) (some (.int 2147483629))))
def p_:Z8 D->Z9 (D×Bool):=bZ 3 2 CN
abbrev EW:Z8 Str:=["_law_cell","_law_letters_here","_law_size","_law_stem","_law_at","_law_found","_law_k","_law_sign"]
noncomputable abbrev q8(δ:DEnv):Z9 D:=t4 (rd false 1 δ) (cS (shO (ae (af (rd false 0 δ) (af (gj (some (.int 2)) (rd false 6 δ)) (some []))) p_)) (some (.int 26)))
noncomputable abbrev sY(δ:DEnv):Z9 Out:=aG (bK 7 (t4 (rd false 1 δ) (cS (gj (uf (rd false 1 δ) (t4 (rd false 3 δ) (rd false 4 δ))) (tN (some (.int 7)) (rd false 6 δ))) (some (.int 26)))) δ) (λδ=>gw 5 (xH (xH (lf (rd false 3 δ) (some none) (iM (rd false 4 δ))) (rd false 7 δ)) (lf (rd false 3 δ) (iM (gj (rd false 4 δ) (some (.int 1)))) (some none))) δ)
noncomputable abbrev wq(δ:DEnv):Z9 Out:=eL (v6 (rd false 5 δ) (ce (af (xH (rd false 3 δ) (t4 (rd false 1 δ) (cS (shO (ae (af (rd false 0 δ) (af (some (.int 10)) (some []))) p_)) (some (.int 26))))) (af (lf (rd false 3 δ) (some none) (iM (Cm (rd false 2 δ) (some (.int 1))))) (some [])))))
noncomputable abbrev CK(δ:DEnv):Z9 Out:=aG (bK 1 (some (.str "abcdefghijklmnopqrstuvwxyz")) δ) (λδ=>aG (bK 2 (gj (some (.int 2)) (cS (shO (ae (af (rd false 0 δ) (af (some (.int 1)) (some []))) p_)) (some (.int 6)))) δ) (λδ=>aG (bK 3 (tL (some (.str "")) (av (ae (t7 (rd false 2 δ)) (b0 false [true,true,false,false,false,false,false,false] (aa 6) (λδ=>some true) q8 δ)))) δ) (λδ=>aG (bK 4 (cS (shO (ae (af (rd false 0 δ) (af (some (.int 9)) (some []))) p_)) (rd false 2 δ)) δ) (λδ=>aG (d9 5 (ce (some [])) δ) (λδ=>aG (ae (t7 (some (.int 4))) λds=>ao (λd δ=>ae ((aa 6) d δ) sY) ds δ) (λδ=>wq (frzE 5 δ)))))))
def Ii:Z8 D->Z9 (D×Bool):=bZ 8 1 CK
abbrev E7:Z8 Str:=["_law_cell"]
noncomputable abbrev Dc(δ:DEnv):Z9 Out:=f8 (kG (af (frO (ae (af (rd false 0 δ) (some [])) Ii)) (af (cS (shO (ae (af (rd false 0 δ) (af (some (.int 11)) (some []))) p_)) (some (.int 400000))) (af (gj (some (.int 1)) (cS (shO (ae (af (rd false 0 δ) (af (some (.int 12)) (some []))) p_)) (some (.int 50000)))) (some [])))))
def Ih:Z8 D->Z9 (D×Bool):=bZ 1 1 Dc
abbrev Fi:Z8 Str:=["_law_cell","_law_letters_here","_law_start","_law_step","_law_k"]
abbrev ro(δ:DEnv):Z9 D:=t4 (rd false 1 δ) (cS (gj (rd false 2 δ) (tN (rd false 3 δ) (rd false 4 δ))) (some (.int 26)))
noncomputable abbrev CU(δ:DEnv):Z9 Out:=aG (bK 1 (some (.str "ABCDEFGHIJKLMNOPQRSTUVWXYZ")) δ) (λδ=>aG (bK 2 (cS (shO (ae (af (rd false 0 δ) (af (some (.int 13)) (some []))) p_)) (some (.int 26))) δ) (λδ=>aG (bK 3 (ixO (ce (some [(.int 1),(.int 3),(.int 5),(.int 7),(.int 9),(.int 11)])) (cS (shO (ae (af (rd false 0 δ) (af (some (.int 14)) (some []))) p_)) (some (.int 6)))) δ) (λδ=>eL (av (ae (t7 (some (.int 4))) (b0 false [false,true,true,true,false] (aa 4) (λδ=>some true) ro δ))))))
def Ig:Z8 D->Z9 (D×Bool):=bZ 5 1 CU
abbrev Fv:Z8 Str:=["_law_world_here","_law_number","_law_words_here","_law_start","_law_step"]
noncomputable abbrev Cf(δ:DEnv):Z9 Out:=aG (tY (rd false 0 δ) (aM (aj (aa 2) (aj (aa 3) (aj (aa 4) (toNil))))) δ) (λδ=>aG (ifO (eqO (cS (rd false 1 δ) (some (.int 2))) (some (.int 0))) (f8 (kG (af (some (.str "blank")) (af (gj (rd false 3 δ) (tN (rd false 4 δ) (t6 (cS (t6 (rd false 1 δ) (some (.int 2))) (some (.int 12))) (gj (some (.int 1)) (cS (t6 (rd false 1 δ) (some (.int 24))) (some (.int 4))))))) (some []))))) (nextO δ)) (λδ=>f8 (kG (af (some (.str "name")) (af (ixO (rd false 2 δ) (t6 (cS (t6 (rd false 1 δ) (some (.int 2))) (some (.int 6))) (gj (some (.int 1)) (cS (t6 (rd false 1 δ) (some (.int 12))) (some (.int 3)))))) (some []))))))
def HB:Z8 D->Z9 (D×Bool):=bZ 5 2 Cf
abbrev EX:Z8 Str:=["_law_world_here","_law_cell","_law_size","_law_cells","_law_k"]
noncomputable abbrev sI(δ:DEnv):Z9 D:=shO (ae (af (rd false 0 δ) (af (shO (ae (af (rd false 1 δ) (af (gj (some (.int 3)) (rd false 4 δ)) (some []))) p_)) (some []))) HB)
noncomputable abbrev wA(δ:DEnv):Z9 Out:=f8 (kG (af (ixO (ixO (rd false 0 δ) (some (.int 0))) (t6 (cS (shO (ae (af (rd false 1 δ) (af (some (.int 2)) (some []))) p_)) (some (.int 3))) (gj (some (.int 1)) (cS (shO (ae (af (rd false 1 δ) (af (some (.int 7)) (some []))) p_)) (some (.int 2)))))) (af (dF (rd false 3 δ)) (some []))))
noncomputable abbrev CO(δ:DEnv):Z9 Out:=aG (bK 2 (gj (some (.int 1)) (cS (shO (ae (af (rd false 1 δ) (af (some (.int 1)) (some []))) p_)) (some (.int 3)))) δ) (λδ=>aG (d9 3 (av (ae (t7 (rd false 2 δ)) (b0 false [true,true,false,false,false] (aa 4) (λδ=>some true) sI δ))) δ) (λδ=>wA (frzE 3 δ)))
def G6:Z8 D->Z9 (D×Bool):=bZ 5 2 CO
abbrev EF:Z8 Str:=["_law_rows","_law_found","_law_row_here"]
abbrev nM(δ:DEnv):Z9 Out:=ifO (bX (rd false 2 δ) (rd true 1 δ)) (gw 1 (rd false 2 δ) δ) (nextO δ)
noncomputable abbrev DD(δ:DEnv):Z9 Out:=aG (d9 1 (ce (some [])) δ) (λδ=>aG (ae (cr (fE .ts (rd false 0 δ))) λds=>ao (λd δ=>ae ((aa 2) d δ) nM) ds δ) (λδ=>eL (bB 1 δ)))
def Ie:Z8 D->Z9 (D×Bool):=bZ 3 1 DD
abbrev Ff:Z8 Str:=["_law_world_here","_law_letters_here","_law_rows","_law_cell","_law_table","_law_cells","_law_terms","_law_k","_law_drawn"]
noncomputable abbrev mW(δ:DEnv):Z9 Out:=aG (bK 8 (shO (ae (af (rd false 3 δ) (af (gj (some (.int 17)) (rd false 7 δ)) (some []))) p_)) δ) (λδ=>ifO (orO (eqO (ixO (ixO (rd false 5 δ) (rd false 7 δ)) (some (.int 0))) (some (.str "blank"))) (eqO (cS (rd false 8 δ) (some (.int 2))) (some (.int 1)))) (gw 6 (kG (af (some (.str "any")) (af (ixO (rd false 1 δ) (cS (t6 (rd false 8 δ) (some (.int 2))) (some (.int 4)))) (some [])))) δ) (gw 6 (ixO (rd false 5 δ) (rd false 7 δ)) δ))
abbrev wT(δ:DEnv):Z9 Out:=f8 (kG (af (rd false 4 δ) (af (dF (rd false 6 δ)) (some []))))
noncomputable abbrev Cq(δ:DEnv):Z9 Out:=aG (tY (shO (ae (af (rd false 0 δ) (af (rd false 3 δ) (some []))) G6)) (aM (aj (aa 4) (aj (aa 5) (toNil)))) δ) (λδ=>aG (ifO (pD (neO (rd false 2 δ) (ce (some []))) (cI gGt (cS (shO (ae (af (rd false 3 δ) (af (some (.int 15)) (some []))) p_)) (some (.int 8))) (some (.int 0)))) (tY (ixO (rd false 2 δ) (cS (shO (ae (af (rd false 3 δ) (af (some (.int 16)) (some []))) p_)) (f9 (rd false 2 δ)))) (aM (aj (aa 4) (aj (aa 5) (toNil)))) δ) (nextO δ)) (λδ=>aG (d9 6 (ce (some [])) δ) (λδ=>aG (ae (t7 (f9 (rd false 5 δ))) λds=>ao (λd δ=>ae ((aa 7) d δ) mW) ds δ) (λδ=>aG (ifO (eqO (cS (shO (ae (af (rd false 3 δ) (af (some (.int 21)) (some []))) p_)) (some (.int 8))) (some (.int 1))) (gw 6 (kG (af (some (.str "any")) (af (ixO (rd false 1 δ) (cS (shO (ae (af (rd false 3 δ) (af (some (.int 22)) (some []))) p_)) (some (.int 4)))) (some [])))) δ) (nextO δ)) (λδ=>aG (ifO (pD (eqO (cS (shO (ae (af (rd false 3 δ) (af (some (.int 21)) (some []))) p_)) (some (.int 8))) (some (.int 2))) (cI gGt (f9 (rd true 6 δ)) (some (.int 1)))) (zT 6 δ) (nextO δ)) (λδ=>wT (frzE 6 δ)))))))
def Ic:Z8 D->Z9 (D×Bool):=bZ 9 4 Cq
abbrev Fz:Z8 Str:=["_law_fit","_law_terms","_law_cells","_law_found","_law_term","_law_cell","_law_letter","_law_known"]
abbrev eF(δ:DEnv):Z9 Bool:=pD (eqO (rd false 6 δ) (ixO (rd false 4 δ) (some (.int 1)))) (neO (rd false 7 δ) (rd false 5 δ))
noncomputable abbrev jW(δ:DEnv):Z9 Out:=aG (ifO (pD (eqO (ixO (rd false 4 δ) (some (.int 0))) (some (.str "name"))) (neO (rd false 4 δ) (rd false 5 δ))) (f8 (some .non)) (nextO δ)) (λδ=>ifO (eqO (ixO (rd false 4 δ) (some (.int 0))) (some (.str "any"))) (aG (fW (aM (aj (aa 6) (aj (aa 7) (toNil)))) eF (cr (rd true 3 δ)) δ) (λδ=>ifO (bX (kG (af (ixO (rd false 4 δ) (some (.int 1))) (af (rd false 5 δ) (some [])))) (rd true 3 δ)) (gw 3 (kG (af (ixO (rd false 4 δ) (some (.int 1))) (af (rd false 5 δ) (some [])))) δ) (nextO δ))) (nextO δ))
noncomputable abbrev CJ(δ:DEnv):Z9 Out:=aG (ifO (neO (f9 (rd false 1 δ)) (f9 (rd false 2 δ))) (f8 (some .non)) (nextO δ)) (λδ=>aG (d9 3 (iz (rd false 0 δ)) δ) (λδ=>aG (ae (vG true true (rd false 1 δ) (rd false 2 δ)) λds=>ao (λd δ=>ae ((aM (aj (aa 4) (aj (aa 5) (toNil)))) d δ) jW) ds δ) (λδ=>eL (bB 3 δ))))
def Ib:Z8 D->Z9 (D×Bool):=bZ 8 3 CJ
abbrev Fm:Z8 Str:=["_law_rows","_law_body","_law_found","_law_pattern_here","_law_more","_law_row_here","_law_fit","_law_due_here"]
noncomputable abbrev sH(δ:DEnv):Z9 Out:=ifO (eqO (ixO (rd false 5 δ) (some (.int 0))) (ixO (rd false 3 δ) (some (.int 0)))) (gw 4 (shO (ae (af (rd false 6 δ) (af (ixO (rd false 3 δ) (some (.int 1))) (af (ixO (rd false 5 δ) (some (.int 1))) (some [])))) Ib)) δ) (nextO δ)
abbrev sg(δ:DEnv):Z9 Out:=ae (cr (rd false 2 δ)) λds=>ao (λd δ=>ae ((aa 6) d δ) sH) ds δ
abbrev wM(δ:DEnv):Z9 D:=rd false 6 δ
abbrev xw(δ:DEnv):Z9 Out:=nextO δ
noncomputable abbrev xv(δ:DEnv):Z9 Out:=aG (d9 2 (av (ae (cr (rd false 4 δ)) (b0 false [false,false,false,false,false,false,false,false] (aa 6) (λδ=>gR (pT (rd false 6 δ))) wM δ))) δ) (λδ=>xw (frzE 2 δ))
noncomputable abbrev md(δ:DEnv):Z9 Out:=aG (d9 4 (ce (some [])) δ) (λδ=>aG (ae (cr (rd false 0 δ)) λds=>ao (λd δ=>ae ((aa 5) d δ) sg) ds δ) (λδ=>xv (frzE 4 δ)))
abbrev rA(δ:DEnv):Z9 D:=fE .ts (rd false 6 δ)
noncomputable abbrev sR(δ:DEnv):Z9 Out:=ifO (orO (eqO (rd true 7 δ) (ce (some []))) (neO (ixO (rd true 7 δ) (Cm (f9 (rd true 7 δ)) (some (.int 1)))) (rd false 6 δ))) (gw 7 (rd false 6 δ) δ) (nextO δ)
noncomputable abbrev CY(δ:DEnv):Z9 Out:=aG (bK 2 (ce (af (ce (some [])) (some []))) δ) (λδ=>aG (ae (cr (rd false 1 δ)) λds=>ao (λd δ=>ae ((aa 3) d δ) md) ds δ) (λδ=>aG (d9 7 (ce (some [])) δ) (λδ=>aG (ae (cr (fE .ls (av (ae (cr (rd false 2 δ)) (b0 false [false,false,false,false,false,false,false,false] (aa 6) (λδ=>some true) rA δ))))) λds=>ao (λd δ=>ae ((aa 6) d δ) sR) ds δ) (λδ=>eL (bB 7 δ)))))
def Ia:Z8 D->Z9 (D×Bool):=bZ 8 2 CY
abbrev Fn:Z8 Str:=["_law_found","_law_due_here","_law_fit","_law_right","_law_pair"]
noncomputable abbrev rh(δ:DEnv):Z9 Out:=ifO (orO (gR (tyB (pv "tuple" (rd false 4 δ)))) (orO (gR (tyB (pv "tuple" (ixO (rd false 4 δ) (some (.int 1)))))) (tyB (pv "bool" (ixO (ixO (rd false 4 δ) (some (.int 1))) (some (.int 1))))))) (f8 (some (.bl false))) (nextO δ)
noncomputable abbrev sB(δ:DEnv):Z9 Out:=aG (ifO (orO (gR (tyB (pv "list" (rd false 2 δ)))) (neO (rd false 2 δ) (rd false 3 δ))) (f8 (some (.bl false))) (nextO δ)) (λδ=>ae (cr (rd false 2 δ)) λds=>ao (λd δ=>ae ((aa 4) d δ) rh) ds δ)
noncomputable abbrev CG(δ:DEnv):Z9 Out:=aG (ifO (orO (gR (tyB (pv "list" (rd false 0 δ)))) (neO (f9 (rd false 0 δ)) (f9 (rd false 1 δ)))) (f8 (some (.bl false))) (nextO δ)) (λδ=>aG (ae (vG false false (rd false 0 δ) (rd false 1 δ)) λds=>ao (λd δ=>ae ((aM (aj (aa 2) (aj (aa 3) (toNil)))) d δ) sB) ds δ) (λδ=>f8 (some (.bl true))))
def H_:Z8 D->Z9 (D×Bool):=bZ 5 2 CG
noncomputable abbrev N_law:Z8 Str:=["_law_script","_law_total","_law_many","_law_cells","_law_world_here","_law_letters_here","_law_rows","_law_body","_law_kept","_law_due_here","_law_found","_law_fit","_law_k","_law_cell"]
abbrev lB(δ:DEnv):Z9 D:=shO (ae (af (rd false 4 δ) (af (rd false 13 δ) (some []))) G6)
noncomputable abbrev lh(δ:DEnv):Z9 D:=shO (ae (af (rd false 4 δ) (af (rd false 5 δ) (af (rd false 6 δ) (af (gj (gj (tN (rd false 1 δ) (some (.int 7))) (tN (rd false 12 δ) (rd false 12 δ))) (rd false 12 δ)) (some []))))) Ic)
noncomputable abbrev qH(δ:DEnv):Z9 Out:=aG (bK 8 (ce (af (iz (rd false 6 δ)) (af (iz (rd false 7 δ)) (some [])))) δ) (λδ=>aG (bK 9 (frO (ae (af (rd false 6 δ) (af (rd false 7 δ) (some []))) Ia)) δ) (λδ=>aG (bK 10 (lsO (frO (ae (af (rd false 6 δ) (af (rd false 7 δ) (some []))) Gv))) δ) (λδ=>ifQ 10 (λδ=>f8 (some (.bl false))) (orO (gR (tyB (shO (ae (af (rd false 10 δ) (af (rd false 9 δ) (some []))) H_)))) (neO (ce (af (rd false 6 δ) (af (rd false 7 δ) (some [])))) (rd false 8 δ))) (uk 10 11 (λδ=>f8 (CC (ofB (eqO (ce (af (rd false 6 δ) (af (rd false 7 δ) (some [])))) (rd false 8 δ))) (CC (ofB (eqO (frO (ae (af (rd false 6 δ) (af (rd false 7 δ) (some []))) Gv)) (rd false 9 δ))) (ofB (eqO (frO (ae (af (rd false 6 δ) (af (ce (some [])) (some []))) Gv)) (ce (af (ce (some [])) (some [])))))))) δ) δ)))
noncomputable abbrev yW(δ:DEnv):Z9 Out:=aG (bK 1 (cS (Ai (oW (rd false 0 δ) (some none) (iM (some (.int 63))))) (some (.int 1000003))) δ) (λδ=>aG (bK 2 (cS (shO (ae (af (rd false 1 δ) (af (some (.int 30)) (some []))) p_)) (some (.int 5))) δ) (λδ=>aG (bK 3 (oW (rd false 0 δ) (some none) (iM (ixO (ce (some [(.int 40),(.int 40),(.int 40),(.int 9),(.int 5)])) (rd false 2 δ)))) δ) (λδ=>aG (bK 4 (shO (ae (af (rd false 1 δ) (some [])) Ih)) δ) (λδ=>aG (bK 5 (frO (ae (af (rd false 1 δ) (some [])) Ig)) δ) (λδ=>aG (bK 6 (frO (ae (af (av (ae (cr (rd false 3 δ)) (b0 false [false,false,false,false,true,false,false,false,false,false,false,false,false,false] (aa 13) (λδ=>some true) lB δ))) (some [])) Ie)) δ) (λδ=>aG (d9 7 (av (ae (t7 (rd false 2 δ)) (b0 false [false,true,false,false,true,true,true,false,false,false,false,false,false,false] (aa 12) (λδ=>some true) lh δ))) δ) (λδ=>qH (frzE 7 δ))))))))
def f_law:Z8 D->Z9 (D×Bool):=bZ 14 1 yW
section
variable{P:Y1}{w:YO}{K:Z6}{mg:Str->Z9 Z3}{base:Heap}
theorem E1(T:Txt mg)(D:Df K mg "letters_of" Ed):FnM P w K mg base 1 "letters_of" FO:=
 mk 1 EN Ds D (by walk_at "sc") (by walk_at "bi") (by walk_at "mk")
theorem Fj(T:Txt mg)(D:Df K mg "binding_of" D0):FnM P w K mg base 1 "binding_of" Il:=
 mk 2 FA Cu D (by walk_at "sc") (by walk_at "bi") (by walk_at "mk")
theorem Fa(T:Txt mg)(D:Df K mg "bindings" Et)(_:FnM P w K mg base 1 "binding_of" Il):FnM P w K mg base 2 "bindings" HC:=
 mk 2 Fc Dy D (by walk_at "sc") (by walk_at "bi") (by walk_at "mk")
theorem EY(T:Txt mg)(D:Df K mg "is_linked" Ev)(_:FnM P w K mg base 1 "letters_of" FO):FnM P w K mg base 2 "is_linked" G8:=
 mk 2 E3 Da D (by walk_at "sc") (by walk_at "bi") (by walk_at "mk")
def Br:FnScope CV (["rows","body","known"]:Z8 Str) (defScope zV):=⟨rfl,rfl,rfl,by decide +kernel,rfl,by decide +kernel,by decide +kernel⟩
theorem ED{X:Cx}(hX:Has X CV (defScope zV))(hf:∀x,X.fn x=true)(hp:PassesOwn (model X.prog X.w) X.A X.env X.xe)(hr:Room 3 X.A)(T:Txt X.mg)(P_ c_:ZN)(Ll:((P_,("search_order.<locals>.<lambda>":Str)):ZN×Str)∈Lams.tb)(Se:X.env.qual++"<lambda>"=("search_order.<locals>.<lambda>":Str))(Lm:PySem.W.CodeHd X.base c_ P_)(Sf:X.env.code=.ref c_)(Kf:FnM X.prog X.w X.K X.mg X.base 1 "letters_of" FO)(Kd:FnM X.prog X.w X.K X.mg X.base 2 "bindings" HC)(Ke:FnM X.prog X.w X.K X.mg X.base 2 "is_linked" G8):
  DSs X (defBody zV) Jc:=by
 have hu:=hr.units;have n1:Nm X 1 "body":=hX.nm (by decide +kernel)
 have n2:Nm X 2 "known":=hX.nm (by decide +kernel)
 have n3:Nm X 3 "rest":=hX.nm (by decide +kernel)
 have l3:Lc X 3 "rest":=hX.lc hf (by decide +kernel)
 have n4:Nm X 4 "placed":=hX.nm (by decide +kernel)
 have l4:Lc X 4 "placed":=hX.lc hf (by decide +kernel)
 have l5:Lc X 5 "bound":=hX.lc hf (by decide +kernel)
 have n6:Nm X 6 "linked":=hX.nm (by decide +kernel)
 have n7:Nm X 7 "taken":=hX.nm (by decide +kernel)
 have l7:Lc X 7 "taken":=hX.lc hf (by decide +kernel)
 have L0:Gb X "letters_of":=hX.gb (by decide +kernel)
 have Jg:Gb X "list":=hX.gb (by decide +kernel)
 have HF:Gb X "sorted":=hX.gb (by decide +kernel)
 refine' @dj _ _ _ _ _ _ ?z1 ?_
 case z1=>
  refine' @iJ _ _ _ _ _ _ _ _ hX.nd l3 ?z2 (by rfl)
  case z2=>
   refine' @lJ _ _ _ _ _ gZ _ _ _ _ _ _ _ _ _ "pair" 0 (hr.mono (by decide)) HF.gl (Txb.get (x:="sorted") T (by decide +kernel)) Ll Se Lm Sf rfl rfl ⟨rfl,rfl,rfl,by decide +kernel,rfl,by decide +kernel,by decide +kernel⟩ (λ_ _ _ _ _=>.of_eq rfl) ?z3 ?z4 (by rfl)
   case z3=>
    intro _ _ _ _ _ _;exact @tV _ _ false false _ _ _ _ ((Bs (N:=["pair"]) (by decide +kernel)).gb (x:="len") (by decide +kernel)) (Txb.get (x:="len") T (by decide +kernel)) (@v7 _ _ false false _ _ _ _ _ (@nv _ _ _ _ _ false ((Bs (N:=["pair"]) (by decide +kernel)).nm (i:=0) (by decide +kernel))) (@j3 _ _ false _ _ _) (by exact λ_ _=>rfl)) (by rfl)
   case z4=>
    refine' @DF.share _ _ false _ _ ?z5
    case z5=>
     refine' @pW _ _ _ _ _ _ _ _ _ _ _ _ _ hX.calm (fN 8) (@lV _ _ false _ _ _ (@nv _ _ _ _ _ false n1)) (CompScope.of' hX (by decide +kernel)) (λcl C d_ e_ ex pn=>@iq _ _ _ _ _ (hX.comp _ cl C d_ e_ ex pn).nd ((hX.comp _ cl C d_ e_ ex pn).lcl (i:=8) (by decide +kernel))) (λcl C d_ e_ ex pn=>@ja _ _) ?z6 (by intro _;rfl)
     case z6=>
      intro cl C d_ e_ ex pn;refine' @wI _ _ false _ _ _ _ ?z7
      case z7=>
       refine' @bQ _ _ false _ _ _ _ (@nv _ _ _ _ _ false ((hX.comp _ cl C d_ e_ ex pn).nm (i:=8) (by decide +kernel))) ?z8 (by rfl)
       case z8=>
        refine' @bQ _ _ false _ _ _ _ ?z9 (@fG _ _ _) (by rfl)
        case z9=>
         refine' @DF.share _ _ false _ _ ?L_
         case L_=>
          refine' @mQ _ _ _ _ _ _ _ _ _ _ Kd (hr.mono (by decide)) ((hX.comp _ cl C d_ e_ ex pn).gb (x:="bindings") (by decide +kernel)) ?L9 (by rfl) (by rfl)
          case L9=>
           exact @bQ _ _ false _ _ _ _ (@nv _ _ _ _ _ false ((hX.comp _ cl C d_ e_ ex pn).nm (i:=0) (by decide +kernel))) (@bQ _ _ false _ _ _ _ (@nv _ _ _ _ _ false ((hX.comp _ cl C d_ e_ ex pn).nm (i:=8) (by decide +kernel))) (@fG _ _ _) (by rfl)) (by rfl)
 refine' @dj _ _ _ _ _ _ ?L8 ?_
 case L8=>
  exact @iJ _ _ _ _ _ _ _ _ hX.nd l4 (@wV _ _ _ _ _ (@fG _ _ _)) (by rfl)
 refine @dj _ _ _ _ _ _ (@mP _ _ _ _ jZ jl _ 1000 hp (@xu _ _ _ _ _ (@nv _ _ _ _ _ true n3) (by intro _;rfl)) ?_) ?_
 .refine' @dj _ _ _ _ _ _ ?L7 ?_
  case L7=>
   refine' @qU _ _ _ _ _ _ _ _ hX.nd l5 ?Qo (by rfl)
   case Qo=>
    refine' @DF.share _ _ false _ _ ?Qn
    case Qn=>
     refine' @xf _ _ _ _ _ _ _ ?Qm ?Ql
     case Qm=>
      exact @DF.share _ _ false _ _ (@sP _ _ _ _ _ _ Jg.gl (Txb.get (x:="list") T (by decide +kernel)) (@nv _ _ _ _ _ false n2) (by rfl))
     case Ql=>
      refine' @DF.share _ _ false _ _ ?Qk
      case Qk=>
       refine' @jq _ _ _ _ _ _ _ _ _ _ Kf (hr.mono (by decide)) L0 ?Qj (by rfl) (by rfl)
       case Qj=>
        refine' @bQ _ _ _ _ _ _ _ ?Qi (@fG _ _ _) (by rfl)
        case Qi=>
         refine' @DF.share _ _ true _ _ ?Qh
         case Qh=>
          refine' @mD _ _ _ _ _ _ _ _ _ _ _ _ _ hX.calm (fN 9) (@lV _ _ _ _ _ _ (@nv _ _ _ _ _ true n4)) (CompScope.of' hX (by decide +kernel)) (λcl C d_ e_ ex pn=>@iq _ _ _ _ _ (hX.comp _ cl C d_ e_ ex pn).nd ((hX.comp _ cl C d_ e_ ex pn).lcl (i:=9) (by decide +kernel))) (λcl C d_ e_ ex pn=>@ja _ _) ?Qg (by intro _;rfl)
          case Qg=>
           intro cl C d_ e_ ex pn;exact @v7 _ _ false false _ _ _ _ _ (@nv _ _ _ _ _ false ((hX.comp _ cl C d_ e_ ex pn).nm (i:=9) (by decide +kernel))) (@j3 _ _ false _ _ _) (by exact λ_ _=>rfl)
  refine' @rN _ _ 3 9 6 7 _ _ _ _ ([false,false,false,false,false,true,false,false,false,false]) _ _ nL _ qW _ _ _ _ _ _ _ _ _ _ _ _ _ _ _ _ _ _ _ _ _ _ _ hu hX.nd hX.calm n3 n6 n7 l7 (jb hX (by decide +kernel)) (by decide) (by decide) (by decide) (CompScope.of' hX (by decide +kernel)) (λcl C d_ e_ ex pn=>iN (hX.comp _ cl C d_ e_ ex pn).nd ((hX.comp _ cl C d_ e_ ex pn).lcl (i:=9) (x:="pair") (by decide +kernel)).at' ((hX.comp _ cl C d_ e_ ex pn).lcl (i:=9) (x:="pair") (by decide +kernel)).loc ((hX.comp _ cl C d_ e_ ex pn).lcl (i:=9) (x:="pair") (by decide +kernel)).fnl) ?Qf (λcl C d_ e_ ex pn=>aT ((hX.comp _ cl C d_ e_ ex pn).nm (i:=9) (x:="pair") (by decide +kernel)).at' ((hX.comp _ cl C d_ e_ ex pn).nm (i:=9) (x:="pair") (by decide +kernel)).vis (by decide) (by decide)) ?_ (ei hX (by decide +kernel)) (by intro _;rfl) (by rfl) (by intro _;rfl) (λ_ _=>rfl) (λ_ _=>rfl) ⟨by rfl,by rfl,by rfl,by rfl,by rfl⟩ (by rfl)
  case Qf=>
   intro cl C d_ e_ ex pn;refine' @qf _ _ _ _ ?Qe
   case Qe=>
    refine' @wz _ _ false _ _ ?Qd (by intro _;rfl)
    case Qd=>
     refine' @nC _ _ false _ _ _ _ _ _ _ _ Ke (hr.mono (by decide)) ((hX.comp _ cl C d_ e_ ex pn).gb (x:="is_linked") (by decide +kernel)) ?Qc (by rfl) (by rfl)
     case Qc=>
      exact @bQ _ _ false _ _ _ _ (@v7 _ _ false false _ _ _ _ _ (@nv _ _ _ _ _ false ((hX.comp _ cl C d_ e_ ex pn).nm (i:=9) (by decide +kernel))) (@j3 _ _ false _ _ _) (by exact λ_ _=>rfl)) (@bQ _ _ false _ _ _ _ (@nv _ _ _ _ _ false ((hX.comp _ cl C d_ e_ ex pn).nm (i:=5) (by decide +kernel))) (@fG _ _ _) (by rfl)) (by rfl)
  refine @lw _ _ _ _ (@gE _ _ _ _ _ _ _ _ _ _ n4 (@nv _ _ _ _ _ false n7) ⟨by rfl,by rfl,by rfl,by rfl,by rfl⟩ (by rfl))
 refine @lw _ _ _ _ (@mv _ _ _ _ _ _ n4)
theorem FB{c_ P_:ZN}(D:DfC K mg "search_order" zV c_)(T:Txt mg)(Ll:((P_,("search_order.<locals>.<lambda>":Str)):ZN×Str)∈Lams.tb)(Lm:PySem.W.CodeHd base c_ P_)(Kf:FnM P w K mg base 1 "letters_of" FO)(Kd:FnM P w K mg base 2 "bindings" HC)(Ke:FnM P w K mg base 2 "is_linked" G8):
  FnM P w K mg base 4 "search_order" Im:=by
 obtain⟨f,fd,F,hm,LY⟩:=D;have hb:=F.binds (ps:=["rows","body","known"]) (by walk_at "bi")
 have h:=wv (P:=P) (w:=w) (base:=base) (k:=3) (g:=Jc) F Br hb hm (by decide) λA outer s H E hr=>by
  exact @ED _ ((mG CX0 P w K mg base CV "search_order" (defScope zV) f fd.code A outer s H E).nox) (Bs Br.nd) (λ_=>rfl) PassesOwn.never hr T P_ c_ Ll rfl Lm LY Kf Kd Ke
 exact h.2
theorem FH(T:Txt mg)(D:Df K mg "places_of" Ea):FnM P w K mg base 1 "places_of" G7:=
 mk 2 FF CS D (by walk_at "sc") (by walk_at "bi") (by walk_at "mk")
theorem EG(T:Txt mg)(D:Df K mg "grouped" D9):FnM P w K mg base 1 "grouped" Ik:=
 mk 3 EQ C7 D (by walk_at "sc") (by walk_at "bi") (by walk_at "mk")
theorem Fg(T:Txt mg)(D:Df K mg "picked" Eg):FnM P w K mg base 1 "picked" GS:=
 mk 2 Fy CP D (by walk_at "sc") (by walk_at "bi") (by walk_at "mk")
theorem EI(T:Txt mg)(D:Df K mg "extended" D8)(_:FnM P w K mg base 1 "picked" GS):FnM P w K mg base 2 "extended" Ij:=
 mk 4 ES DB D (by walk_at "sc") (by walk_at "bi") (by walk_at "mk")
theorem EL(T:Txt mg)(D:Df K mg "joined_from" EB)(_:FnM P w K mg base 1 "letters_of" FO)(_:FnM P w K mg base 4 "search_order" Im)(_:FnM P w K mg base 1 "places_of" G7)(_:FnM P w K mg base 1 "grouped" Ik)(_:FnM P w K mg base 1 "picked" GS)(_:FnM P w K mg base 2 "extended" Ij):FnM P w K mg base 5 "joined_from" HD:=
 mk 5 EC Dv D (by walk_at "sc") (by walk_at "bi") (by walk_at "mk")
theorem FL(T:Txt mg)(D:Df K mg "fits_from" Cs)(_:FnM P w K mg base 1 "letters_of" FO)(_:FnM P w K mg base 5 "joined_from" HD):FnM P w K mg base 6 "fits_from" G9:=
 mk 4 DH Ci D (by walk_at "sc") (by walk_at "bi") (by walk_at "mk")
def kK(T:Txt mg)(D:Df K mg "fits_from" Cs)(_:FnM P w K mg base 1 "letters_of" FO)(_:FnM P w K mg base 5 "joined_from" HD):FnN P w K mg base 6 "fits_from" G9:=
 mkN 4 DH Ci D (by walk_at "sc") (by walk_at "bi") (by walk_at "mk")
theorem Fl(T:Txt mg)(D:Df K mg "fits" Dz)(_:FnM P w K mg base 6 "fits_from" G9):FnM P w K mg base 7 "fits" Gv:=
 mk 2 DM Cg D (by walk_at "sc") (by walk_at "bi") (by walk_at "mk")
def BF(T:Txt mg)(D:Df K mg "fits" Dz)(_:FnN P w K mg base 6 "fits_from" G9):FnN P w K mg base 7 "fits" Gv:=
 mkN 2 DM Cg D (by walk_at "sc") (by walk_at "bi") (by walk_at "mk")
theorem FE(T:Txt mg)(D:Df K mg "_law_mix" Ee):FnM P w K mg base 1 "_law_mix" p_:=
 mk 2 FD CN D (by walk_at "sc") (by walk_at "bi") (by walk_at "mk")
theorem EJ(T:Txt mg)(D:Df K mg "_law_words" Em)(_:FnM P w K mg base 1 "_law_mix" p_):FnM P w K mg base 2 "_law_words" Ii:=
 mk 1 EW CK D (by walk_at "sc") (by walk_at "bi") (by walk_at "mk")
theorem EV(T:Txt mg)(D:Df K mg "_law_world" DR)(_:FnM P w K mg base 1 "_law_mix" p_)(_:FnM P w K mg base 2 "_law_words" Ii):FnM P w K mg base 3 "_law_world" Ih:=
 mk 1 E7 Dc D (by walk_at "sc") (by walk_at "bi") (by walk_at "mk")
theorem EH(T:Txt mg)(D:Df K mg "_law_letters" Ej)(_:FnM P w K mg base 1 "_law_mix" p_):FnM P w K mg base 2 "_law_letters" Ig:=
 mk 1 Fi CU D (by walk_at "sc") (by walk_at "bi") (by walk_at "mk")
theorem Ft(T:Txt mg)(D:Df K mg "_law_cell_by" Es):FnM P w K mg base 1 "_law_cell_by" HB:=
 mk 2 Fv Cf D (by walk_at "sc") (by walk_at "bi") (by walk_at "mk")
theorem Fu(T:Txt mg)(D:Df K mg "_law_row" Ew)(_:FnM P w K mg base 1 "_law_mix" p_)(_:FnM P w K mg base 1 "_law_cell_by" HB):FnM P w K mg base 2 "_law_row" G6:=
 mk 2 EX CO D (by walk_at "sc") (by walk_at "bi") (by walk_at "mk")
theorem FC(T:Txt mg)(D:Df K mg "_law_stand" D7):FnM P w K mg base 1 "_law_stand" Ie:=
 mk 1 EF DD D (by walk_at "sc") (by walk_at "bi") (by walk_at "mk")
theorem EU(T:Txt mg)(D:Df K mg "_law_pattern" Ex)(_:FnM P w K mg base 1 "_law_mix" p_)(_:FnM P w K mg base 2 "_law_row" G6):FnM P w K mg base 3 "_law_pattern" Ic:=
 mk 4 Ff Cq D (by walk_at "sc") (by walk_at "bi") (by walk_at "mk")
theorem E5(T:Txt mg)(D:Df K mg "_law_joined" Ep):FnM P w K mg base 1 "_law_joined" Ib:=
 mk 3 Fz CJ D (by walk_at "sc") (by walk_at "bi") (by walk_at "mk")
theorem ET(T:Txt mg)(D:Df K mg "_law_due" DQ)(_:FnM P w K mg base 1 "_law_joined" Ib):FnM P w K mg base 2 "_law_due" Ia:=
 mk 2 Fm CY D (by walk_at "sc") (by walk_at "bi") (by walk_at "mk")
theorem FG(T:Txt mg)(D:Df K mg "_law_is_fits" DN):FnM P w K mg base 1 "_law_is_fits" H_:=
 mk 2 Fn CG D (by walk_at "sc") (by walk_at "bi") (by walk_at "mk")
def Cz(F:Fun K "law" "law" s_law f fd)(hm:mg "law"=some (.ref f))(T:Txt mg)(_:FnM P w K mg base 7 "fits" Gv)(_:FnN P w K mg base 7 "fits" Gv)(_:FnM P w K mg base 1 "_law_mix" p_)(_:FnM P w K mg base 3 "_law_world" Ih)(_:FnM P w K mg base 2 "_law_letters" Ig)(_:FnM P w K mg base 2 "_law_row" G6)(_:FnM P w K mg base 1 "_law_stand" Ie)(_:FnM P w K mg base 3 "_law_pattern" Ic)(_:FnM P w K mg base 2 "_law_due" Ia)(_:FnM P w K mg base 1 "_law_is_fits" H_):FnOk P w K mg base CX0 8 f fd (N_law.take 1) (spM K f_law):=
 (mkF 1 N_law yW F hm (by walk_at "sc") (by walk_at "bi") (by walk_at "mk")).1
end
end K11
namespace K11
open PySem L2
variable[Lams]
def all_mk{l:PySem.W.OpenLaw}(S:Seen defsK blK [("search_order",c_)] K)(X:K.In h)(G:h.Ns mainGlobals mg)(MB:mg "law"=some (.ref fa))(Ll:((P_,("search_order.<locals>.<lambda>":Str)):ZN×Str)∈Lams.tb)(Lm:PySem.W.codeHdIn K c_ P_=true):
  ∃fd:FuncData,(∀(s:ZP)(v:Z3),BindsTo s fd ⟨[v],[]⟩ [("_law_script",v)])/\∀base:Heap,K.In base->base.Ns mainGlobals mg->FnOk l.prog w K mg base CX0 8 fa fd ["_law_script"] (spM K f_law):=by
 have T:Txt mg:=S.txt X G;obtain⟨f,fd,F,hm⟩:=S.df X G 23 rfl;cases MB.symm.trans hm;have F':=F;obtain⟨oc,od,kV,doc,pm,an,F5,ct,Kw,rfl,_,_⟩:=F'.ex;refine⟨PySem.W.fnOf "law" "law" (defArgs s_law) (defBody s_law) (defScope s_law) .none kV doc pm an F5 ct,λs v=>.of_eq rfl,λbase KB _=>?_⟩
 have M_letters_of:=@E1 _ l.prog w K mg base T (S.df X G 0 rfl);have M_binding_of:=@Fj _ l.prog w K mg base T (S.df X G 1 rfl);have M_bindings:=@Fa _ l.prog w K mg base T (S.df X G 2 rfl) M_binding_of;have M_is_linked:=@EY _ l.prog w K mg base T (S.df X G 3 rfl) M_letters_of;have M_search_order:=@FB _ l.prog w K mg base c_ P_ (S.dfC X G 4 0 rfl rfl) T Ll (PySem.W.codeHd_of_K KB Lm) M_letters_of M_bindings M_is_linked;have M_places_of:=@FH _ l.prog w K mg base T (S.df X G 5 rfl);have M_grouped:=@EG _ l.prog w K mg base T (S.df X G 6 rfl);have M_picked:=@Fg _ l.prog w K mg base T (S.df X G 7 rfl);have M_extended:=@EI _ l.prog w K mg base T (S.df X G 8 rfl) M_picked;have M_joined_from:=@EL _ l.prog w K mg base T (S.df X G 9 rfl) M_letters_of M_search_order M_places_of M_grouped M_picked M_extended;have M_fits_from:=@FL _ l.prog w K mg base T (S.df X G 10 rfl) M_letters_of M_joined_from;have M_fits:=@Fl _ l.prog w K mg base T (S.df X G 11 rfl) M_fits_from;have Km:=BF (P:=l.prog) (w:=w) (base:=base) T (S.df X G 11 rfl) (kK T (S.df X G 10 rfl) M_letters_of M_joined_from);have M__law_mix:=@FE _ l.prog w K mg base T (S.df X G 12 rfl);have M__law_words:=@EJ _ l.prog w K mg base T (S.df X G 13 rfl) M__law_mix;have M__law_world:=@EV _ l.prog w K mg base T (S.df X G 14 rfl) M__law_mix M__law_words;have M__law_letters:=@EH _ l.prog w K mg base T (S.df X G 15 rfl) M__law_mix;have M__law_cell_by:=@Ft _ l.prog w K mg base T (S.df X G 16 rfl);have M__law_row:=@Fu _ l.prog w K mg base T (S.df X G 17 rfl) M__law_mix M__law_cell_by;have M__law_stand:=@FC _ l.prog w K mg base T (S.df X G 18 rfl);have M__law_pattern:=@EU _ l.prog w K mg base T (S.df X G 19 rfl) M__law_mix M__law_row;have M__law_joined:=@E5 _ l.prog w K mg base T (S.df X G 20 rfl);have M__law_due:=@ET _ l.prog w K mg base T (S.df X G 21 rfl) M__law_joined;have M__law_is_fits:=@FG _ l.prog w K mg base T (S.df X G 22 rfl);exact Cz F MB T M_fits Km M__law_mix M__law_world M__law_letters M__law_row M__law_stand M__law_pattern M__law_due M__law_is_fits
end K11
namespace K11
open PySem L2 JP
variable[Lams]
def na:(("name":Str)="any")=False:=by simp;decide +kernel
theorem at0(a b:D):atI [a,b] 0=some a:=rfl
theorem at1(a b:D):atI [a,b] 1=some b:=rfl
def FM(a:D)(r:Z8 D):atI (a::r) 0=some a:=by unfold atI ixN;simp
theorem iy:∀ts:Z8 Te,(ans ts).length<=ts.length
 |[]=>ZQ _
 |.any m::ts=>by have:=iy ts;simp[ans];lia
 |.nm w::ts=>by have:=iy ts;simp[ans];lia
def cU(ps:Z8 Pat):Z8 Str:=(ps.map λp=>ans p.2).flatten
def hU:l∈cU ps↔∃p∈ps,l∈ans p.2:=by
 unfold cU;rw[List.mem_flatten];constructor
 .rintro⟨x,hx,hl⟩
  obtain⟨p,hp,rfl⟩:=ZL.mp hx;exact⟨p,hp,hl⟩
 .rintro⟨p,hp,hl⟩
  exact⟨_,ZL.mpr ⟨p,hp,rfl⟩,hl⟩
theorem bF:∀{ps:Z8 Pat},(∀p∈ps,p.2.length<=4)->(cU ps).length<=4*ps.length
 |[],_=>ZQ _
 |p::ps,h=>by
  have h1:=bF λq hq=>h q (Z2 _ hq)
  have h2:=iy p.2;have h3:=h p (ZX ..);have:cU (p::ps)=ans p.2++cU ps:=by simp[cU]
  rw[this,Zy,List.length_cons]
  lia
def vK(ts:Z8 Te):bj (aH (aa 4) (λδ=>eqO (ixO (rd false 4 δ) (some (.int 0))) (some (.str "any"))) nJ [none,none,none,none,none]) (ts.map teD)=some ((ans ts).map D.str):=by
 induction ts with
 |nil=>rfl
 |cons c ts ih=>
  rw[Z1];unfold bj;rw[ih];cases c with
  |any n=>simp[aH,teD,nJ,at0,at1,bf,ans]
  |nm w=>simp[aH,teD,nJ,at0,at1,bf,na,ans]
theorem jy:∀(rs:Z8 Pat)(acc:Z8 Str)(a0 x2 x3 x4:Z9 (D×Bool)),(∀r∈rs,r.2.length<=4)->acc.length+4*rs.length<=1000->∃y2 y3,
  ao (λd δ=>ae ((aM (aj (aa 2) (aj (aa 3) (toNil)))) d δ) sC) (rs.map aJ) [a0,some (.lst (acc.map D.str),true),x2,x3,x4]=some (.next [a0,some (.lst ((acc++cU rs).map D.str),true),y2,y3,x4])
 |[],acc,a0,x2,x3,x4,_,_=>⟨x2,x3,by simp[ao,cU]⟩
 |r::rs,acc,a0,x2,x3,x4,h4,hl=>by
  have hr:=h4 r (ZX ..);have hb:=iy r.2;rw[List.length_cons]at hl;obtain⟨y2,y3,e⟩:=jy rs (acc++ans r.2) a0 (some (.str r.1,false)) (some (.tup (r.2.map teD),false)) x4 (λq hq=>h4 q (Z2 _ hq)) (by simp;lia)
  refine⟨y2,y3,?_⟩
  have en:acc++cU (r::rs)=acc++ans r.2++cU rs:=by simp[cU]
  rw[en,<-e,Z1]
  conv=>lhs;unfold ao
  simp[aJ,sC];rw[aS (by simp;lia)]
  simp[aw];have:=vK r.2;rw[this];simp[Bo];rw[Z0 (by lia)]
def aZ(hl:ps.length<=4)(h4:∀p∈ps,p.2.length<=4):FO [.lst (ps.map aJ)]=some (.lst (sU (cU ps)),true):=by
 obtain⟨y2,y3,e⟩:=jy ps [] (some (.lst (ps.map aJ),false)) none none none h4 (by simp;lia)
 have:=bF h4;rw[az (f:=FO) (δ:=[some (.lst (ps.map aJ),false),none,none,none,none]) rfl rfl rfl];rw[Y6]at e;simp[Ds];rw[e];simp[wY];rw[jN (by lia)]
 simp
def iA(ss:Z8 Str):∃us:Z8 Str,sU ss=us.map D.str/\us.Nodup/\(∀x,x∈us↔x∈ss)/\us.length<=ss.length:=by
 have hp:=be (uS ss);exact⟨dS (uS ss),rfl,hp.nodup_iff.mpr (dy ss),λx=>hp.mem_iff.trans (gG x ss),hp.length_eq▸qp ss⟩
def bD(b:Bi):D:=.dK (b.map λq=>.inr q.1) (b.map λq=>ceD q.2)
theorem tO(l:Str):∀b:Bi,ca (.inr l:Key) (b.map λq=>(.inr q.1:Key)) (b.map λq=>ceD q.2)=(gt b l).map ceD
 |[]=>rfl
 |(k,c)::b=>by
  rw[Z1,Z1,ca,da,tO l b]
  by_cases h:k=l
  .subst h;simp
  .rw[ZY (λz=>h (by cases z;rfl)),ZY h]
def qV(b:Bi)(l:Str):cb (some (bD b)) (some (.str l))=some ((gt b l).map ceD):=by
 unfold bD cb;simp only[fI,tO]
def qC(h:gt b l=none):l∉b.map (·.1):=by
 induction b with
 |nil=>simp
 |cons q b ih=>
  obtain⟨k,c⟩:=q;rw[da]at h;split at h
  .trivial
  .rename_i n
   simp only[Z1,ZZ,Xs];exact⟨λz=>n z.symm,ih h⟩
def yG(h:gt b l=none)(hl:b.length<1000000):jF (bD b) (.str l) (ceD c)=some (bD (b++[(l,c)])):=by
 unfold bD jF;have hm:(.inr l:Key)∉b.map λq=>(.inr q.1:Key):=λz=>by
  obtain⟨q,hq,e⟩:=ZL.mp z;exact qC h (ZL.mpr ⟨q,hq,by cases e;rfl⟩)
 simp only[fI,ZI];rw[Z0 (by rw[lim_eq];exact hl)]
 unfold l8 zZ;rw[ZY hm,ZY hm];simp
def uu(c:Ce):okD 16 (ceD c)=true:=by cases c<;>rfl
def EK(t:Te):okD 16 (teD t)=true:=by cases t<;>rfl
def mx(a b:Ce):neO (some (ceD a)) (some (ceD b))=some (!decide (a=b)):=by
 rw[vh _ _ (by unfold ok2;rw[uu,uu];rfl)]
 congr 2;exact Yl.mpr ⟨eh,λh=>by rw[h]⟩
def DY(a b:Ce):eqO (some (ceD a)) (some (ceD b))=some (decide (a=b)):=by
 rw[o6 _ _ (by unfold ok2;rw[uu,uu];rfl)]
 congr 1;exact Yl.mpr ⟨eh,λh=>by rw[h]⟩
def wR(w:Str)(c:Ce):neO (some (teD (.nm w))) (some (ceD c))=some (!decide (Ce.nm w=c)):=mx (.nm w) c
theorem fP:∀(ts:Z8 Te)(cs:Z8 Ce),bJ (ts.map teD) (cs.map ceD)=(ts.zip cs).map λq=>.tup [teD q.1,ceD q.2]
 |[],cs=>by simp[bJ]
 |t::ts,[]=>by simp[bJ]
 |t::ts,c::cs=>by simp[bJ,fP ts cs]
theorem fC:∀(ts:Z8 Te)(cs:Z8 Ce)(b:Bi)(a0 a1 x3 x4:Z9 (D×Bool)),b.length+ts.length<1000->
  (match bnd ts cs b with
  |some b'=>∃y3 y4,ao (λd δ=>ae ((aM (aj (aa 3) (aj (aa 4) (toNil)))) d δ) jB) ((ts.zip cs).map λq=>.tup [teD q.1,ceD q.2]) [a0,a1,some (bD b,true),x3,x4]=some (.next [a0,a1,some (bD b',true),y3,y4])
  |none=>ao (λd δ=>ae ((aM (aj (aa 3) (aj (aa 4) (toNil)))) d δ) jB) ((ts.zip cs).map λq=>.tup [teD q.1,ceD q.2]) [a0,a1,some (bD b,true),x3,x4]=some (.ret .non false))
 |[],cs,b,a0,a1,x3,x4,_=>⟨x3,x4,by simp[ao]⟩
 |.any l::ts,[],b,a0,a1,x3,x4,_=>⟨x3,x4,by simp[ao]⟩
 |.nm l::ts,[],b,a0,a1,x3,x4,_=>⟨x3,x4,by simp[ao]⟩
 |.any l::ts,c::cs,b,a0,a1,x3,x4,hl=>by
  have ih:=λb hb=>fC ts cs b a0 a1 (some (teD (.any l),false)) (some (ceD c,false)) hb
  rw[List.length_cons]at hl;rw[List.zip_cons_cons,Z1];unfold ao;have e0:eqO (ixO (rd false 3 [a0,a1,some (bD b,true),some (teD (.any l),false),some (ceD c,false)]) (some (.int 0))) (some (.str "any"))=some true:=by simp[teD,at0,bf]
  have e1:ixO (rd false 3 [a0,a1,some (bD b,true),some (teD (.any l),false),some (ceD c,false)]) (some (.int 1))=some (.str l):=by simp[teD,at1]
  have e2:rd false 4 [a0,a1,some (bD b,true),some (teD (.any l),false),some (ceD c,false)]=some (ceD c):=by simp
  simp only[toTup_s,toCons_s,toNil_s,toName_s,Zl,List.length_cons,List.length_nil,bindO_s,List.set_cons_succ,List.set_cons_zero,Nat.reduceAdd,Nat.reduceLT];simp only[jB,e0,ifO_t,wp,e1,e2,sdO,rdOwn_1,rdOwn_0,qV,bnd];cases eg:gt b l with
  |some c'=>
   simp only[Option.map_some,neX,bindO_s,e2,mx]
   by_cases hc:c'=c
   .simp only[hc,XW,YT,ifX,nextO_s,Y2]
    have:=ih b (by lia)
    cases eb:bnd ts cs b with
    |some b'=>rw[eb]at this;exact this
    |none=>rw[eb]at this;exact this
   .simp only[hc,XU,XZ,ifX,retO_s,Zc]
  |none=>
   simp only[Option.map_none,yG eg (show b.length<1000000 by lia)]
   simp only[neX,bindO_s,List.set_cons_succ,List.set_cons_zero];have e3:rd false 4 [a0,a1,some (bD (b++[(l,c)]),true),some (teD (.any l),false),some (ceD c,false)]=some (ceD c):=by simp
   simp only[e3,mx,XW,YT,ifX,nextO_s];have:=ih (b++[(l,c)]) (by simp;lia)
   cases eb:bnd ts cs (b++[(l,c)])with
   |some b'=>rw[eb]at this;exact this
   |none=>rw[eb]at this;exact this
 |.nm w::ts,c::cs,b,a0,a1,x3,x4,hl=>by
  have ih:=fC ts cs b a0 a1 (some (teD (.nm w),false)) (some (ceD c,false)) (by simp at hl;lia)
  rw[List.zip_cons_cons,Z1];unfold ao;have e0:eqO (ixO (rd false 3 [a0,a1,some (bD b,true),some (teD (.nm w),false),some (ceD c,false)]) (some (.int 0))) (some (.str "any"))=some false:=by simp[teD,at0,bf,na]
  have e1:rd false 3 [a0,a1,some (bD b,true),some (teD (.nm w),false),some (ceD c,false)]=some (teD (.nm w)):=by simp
  have e2:rd false 4 [a0,a1,some (bD b,true),some (teD (.nm w),false),some (ceD c,false)]=some (ceD c):=by simp
  simp only[toTup_s,toCons_s,toNil_s,toName_s,Zl,List.length_cons,List.length_nil,bindO_s,List.set_cons_succ,List.set_cons_zero,Nat.reduceAdd,Nat.reduceLT];have SN:eqO (ixO (some (teD (.nm w))) (some (.int 0))) (some (.str "any"))=some false:=by simp[teD,at0,bf,na]
  simp only[jB,e0,SN,ifO_f,e1,e2,wR,bnd]
  by_cases hc:Ce.nm w=c
  .simp only[hc,XW,YT,ifO_f,nextO_s,Y2]
   exact ih
  .rw[ZY hc]
   simp only[hc,XU,XZ,ifO_t,retO_s]
def iR(ts:Z8 Te)(cs:Z8 Ce)(hl:ts.length<=4):Il [.tup (ts.map teD),.tup (cs.map ceD)]=some (match bnd ts cs []with|some b=>(bD b,true)|none=>(.non,false)):=by
 rw[az (f:=Il) (δ:=[some (.tup (ts.map teD),false),some (.tup (cs.map ceD),false),none,none,none]) rfl rfl rfl];have:=fC ts cs [] (some (.tup (ts.map teD),false)) (some (.tup (cs.map ceD),false)) none none (by simp;lia)
 have e0:(.dK [] []:D)=bD []:=rfl;simp only[Cu,setF_s,List.length_cons,List.length_nil,Nat.reduceAdd,Nat.reduceLT,List.set_cons_succ,List.set_cons_zero,seqO_n,rd_0,rd_1,vG,Ae,Y2,tupL_s,bindO_s,fP,e0];cases eb:bnd ts cs []with
 |some b=>
  rw[eb]at this;obtain⟨y3,y4,e⟩:=this;rw[e];simp
 |none=>
  rw[eb]at this;rw[this];simp
end K11
namespace K11
open PySem L2 JP
variable[Lams]
def AS(b:Bi):pT (some (bD b))=some false:=by simp[pT,bD]
theorem gQ(h4:p.2.length<=4):∀(rs:Z8 Row)(acc:Z8 Bi)(a0 x3 x4 x5:Z9 (D×Bool)),acc.length+rs.length<=100000->∃y3 y4 y5,
  ao (λd δ=>ae ((aM (aj (aa 3) (aj (aa 4) (toNil)))) d δ) gy) (rs.map aC) [a0,some (aJ p,false),some (.lst (acc.map bD),true),x3,x4,x5]=some (.next [a0,some (aJ p,false),some (.lst ((acc++binds rs p).map bD),true),y3,y4,y5])
 |[],acc,a0,x3,x4,x5,_=>⟨x3,x4,x5,by simp[ao,binds]⟩
 |r::rs,acc,a0,x3,x4,x5,hl=>by
  rw[List.length_cons]at hl;rw[Z1];have e1:eqO (some (.str r.1)) (ixO (some (aJ p)) (some (.int 0)))=some (decide (r.1=p.1)):=by simp[aJ,at0,bf]
  have e2:eqO (f9 (some (.tup (r.2.map ceD)))) (f9 (ixO (some (aJ p)) (some (.int 1))))=some (decide (r.2.length=p.2.length)):=by
   simp only[aJ,ixO_t,at1,lenL_t,ZI,eqO_int];congr 1;exact Yl.mpr (by lia)
  have e3:ixO (some (aJ p)) (some (.int 1))=some (.tup (p.2.map teD)):=by simp[aJ,at1]
  have body:∃y5,gy [a0,some (aJ p,false),some (.lst (acc.map bD),true),some (.str r.1,false),some (.tup (r.2.map ceD),false),x5]=some (.next [a0,some (aJ p,false),some (.lst ((acc++(eX p r).toList).map bD),true),some (.str r.1,false),some (.tup (r.2.map ceD),false),y5]):=by
   simp only[gy,rd_0,rd_1,e1,e2];unfold eX
   by_cases c1:r.1=p.1
   .by_cases c2:r.2.length=p.2.length
    .rw[Z0 ⟨c1,c2⟩]
     simp only[c1,c2,XW,andO_t,ifO_t,e3,consO_s,bindO_s,iR p.2 r.2 h4];cases eb:bnd p.2 r.2 []with
     |some b=>
      refine⟨some (bD b,false),?_⟩
      simp[AS];rw[eG (ds:=acc.map bD) (bD b) rfl (by simp;lia)]
      simp
     |none=>
      refine⟨some (.non,false),?_⟩
      simp[pT]
    .rw[ZY (λz=>c2 z.2)]
     exact⟨x5,by simp[c1,c2]⟩
   .rw[ZY (λz=>c1 z.1)]
    exact⟨x5,by simp[c1]⟩
  obtain⟨Qp,eb⟩:=body;have hle:(eX p r).toList.length<=1:=by cases eX p r<;>simp
  obtain⟨y3,y4,y5,e⟩:=gQ h4 rs (acc++(eX p r).toList) a0 (some (.str r.1,false)) (some (.tup (r.2.map ceD),false)) Qp (by simp;lia)
  refine⟨y3,y4,y5,?_⟩
  have en:acc++binds (r::rs) p=acc++(eX p r).toList++binds rs p:=by
   unfold binds;rw[List.filterMap_cons];cases eX p r<;>simp
  rw[en,<-e]
  conv=>lhs;unfold ao
  have et:ae ((aM (aj (aa 3) (aj (aa 4) (toNil)))) (aC r) [a0,some (aJ p,false),some (.lst (acc.map bD),true),x3,x4,x5]) gy=gy [a0,some (aJ p,false),some (.lst (acc.map bD),true),some (.str r.1,false),some (.tup (r.2.map ceD),false),x5]:=by
   simp[aC]
  rw[et,eb]
def lD(h4:p.2.length<=4)(hl:rs.length<=1000):HC [.lst (rs.map aC),aJ p]=some (.lst ((binds rs p).map bD),true):=by
 rw[az (f:=HC) (δ:=[some (.lst (rs.map aC),false),some (aJ p,false),none,none,none,none]) rfl rfl rfl];obtain⟨y3,y4,y5,e⟩:=gQ h4 rs [] (some (.lst (rs.map aC),false)) none none none (by simp;lia)
 simp[Dy];rw[Y6]at e;rw[e];simp
def kz(rs:Z8 Row)(p:Pat):(binds rs p).length<=rs.length:=W3 ..
def prD(rs:Z8 Row)(p:Pat):D:=.tup [aJ p,.lst ((binds rs p).map bD)]
def fg(l:Str)(ss:Z8 Str):inO (some (.str l)) (some (.lst (ss.map D.str)))=some (decide (l∈ss)):=by
 unfold inO;simp only[aO];rw[Z0]
 .congr 1
  apply Yl.mpr;simp
 .rw[ZH,ZO]
  refine⟨rfl,λx hx=>?_⟩
  obtain⟨c,_,rfl⟩:=ZL.mp hx;rfl
def u7(bs:Z8 Bool):eA (bs.map D.bl)=some bs:=by
 induction bs with
 |nil=>rfl
 |cons b bs ih=>simp[eA,ih]
def lk(ks:Z8 Str)(p:Pat):Bool:=(ans p.2).any λl=>decide (l∈ks)
def rP(p:Pat)(h4:p.2.length<=4)(ks:Z8 Str):G8 [aJ p,.lst (ks.map D.str)]=some (.bl (lk ks p),false):=by
 rw[az (f:=G8) (δ:=[some (aJ p,false),some (.lst (ks.map D.str),false),none]) rfl rfl rfl];have el:=aZ (ps:=[p]) (by simp) (by simpa using h4)
 obtain⟨us,e1,_,e3,e4⟩:=iA (cU [p]);rw[e1]at el;have Tu:us.length<=1000:=by
  have:=bF (ps:=[p]) (by simpa using h4)
  simp at this;lia
 simp only[Da,rd_0,rd_1,consO_s,bindO_s];rw[lstO_s _ (by simp)]
 simp only[Z1,Y6]at el;simp only[consO_s,bindO_s,el,frO_s,lstL_s];rw[aS (by simp;lia)]
 have hc:bj (aH (aa 2) (λδ=>some true) tR (aw false [false,true,false] [some (aJ p,false),some (.lst (ks.map D.str),false),none])) (us.map D.str)=some ((us.map λl=>decide (l∈ks)).map D.bl):=by
  rw[fX (g:=λd=>match d with|.str l=>.bl (decide (l∈ks))|d=>d)]
  .simp
  .intro d hd
   obtain⟨l,_,rfl⟩:=ZL.mp hd;simp[aH,aw,tR,fg]
 rw[hc];simp only[lstLim_s,Cd,u7,retO_s,outF_r];congr 3;rw[YG];unfold lk;simp only[X0,ZL,id_eq];constructor
 .rintro⟨_,⟨l,hl,rfl⟩,h⟩
  have:=(e3 l).mp hl;simp[cU]at this;exact⟨l,this,h⟩
 .rintro⟨l,hl,h⟩
  exact⟨_,⟨l,(e3 l).mpr (by simp[cU];exact hl),rfl⟩,h⟩
def xQ(h:teD a=teD b):a=b:=by
 cases a<;>cases b<;>simp[teD]at h
 .rw[h]
 .exact absurd h.1 (by decide +kernel)
 .exact absurd h.1 (by decide +kernel)
 .rw[h]
theorem kP{α:Type}{f:α->D}(hf:∀a b,f a=f b->a=b):∀{l m:Z8 α},l.map f=m.map f->l=m
 |[],[],_=>rfl
 |[],_::_,h=>by simp at h
 |_::_,[],h=>by simp at h
 |a::l,b::m,h=>by
  simp only[Z1,Yg]at h;rw[hf _ _ h.1,kP hf h.2]
def uG(h:aJ p=aJ q):p=q:=by
 simp[aJ]at h;exact Prod.ext h.1 (kP (λ_ _=>xQ) h.2)
def yz(t:Te):D.flat (teD t)=true:=by cases t<;>rfl
def vR(p:Pat):D.flat (aJ p)=true:=by
 have:D.flats (p.2.map teD)=true:=by rw[D.flats_all,ZO];intro x hx;obtain⟨t,_,rfl⟩:=ZL.mp hx;exact yz t
 simp[aJ,D.flat,D.flats,this]
def Bk(p:Pat):okD 15 (aJ p)=true:=by
 simp only[aJ,okD,List.all_cons,List.all_nil,Xl,X7,ZO];intro x hx;obtain⟨t,_,rfl⟩:=ZL.mp hx;cases t<;>rfl
def oh(ss:Z8 Str):D.flats (ss.map D.str)=true:=by
 rw[D.flats_all,ZO];intro x hx;obtain⟨t,_,rfl⟩:=ZL.mp hx;rfl
theorem kE:∀{ps:Z8 Pat},(∀p∈ps,f (h p)=some (g p))->cx f (ps.map h)=some (ps.map g)
 |[],_=>rfl
 |p::ps,e=>by simp only[Z1,cx,e p (ZX ..),kE λq hq=>e q (Z2 _ hq)]
def rJ(h:bl≠[]):aF bl<bl.length:=by
 unfold aF;split
 .rename_i m;exact YN m
 .exact List.length_pos_iff.mpr h
def pN(h:i<aF bl):bl[i]?=some false/\bl[aF bl]?=some true:=by
 unfold aF at h⊢;split at h
 .rename_i m
  rw[Z0 m];have hl:=YN m;have h1:=List.not_of_lt_findIdx (p:=λz=>z==true) (xs:=bl) (i:=i) h
  have hi:i<bl.length:=by lia
  refine⟨?_,?_⟩
  .rw[Y5 hi];simp at h1;rw[h1]
  .rw[Y5 hl];simp
 .lia
def yu(rs:Z8 Row)(ks:Z8 Str)(hk:ks.length<=1000){am placed:Z8 Pat}(h4:∀p∈am++placed,p.2.length<=4)(FW:am≠[])(hl:am.length+placed.length<=4)(a0 a1 x5 x6 x7 x8 x9:Z9 (D×Bool)):
  ∃j y5 y6 y7,j<am.length/\jl [a0,a1,some (.lst (ks.map D.str),false),some (.lst (am.map (prD rs)),true),some (.lst (placed.map (prD rs)),true),x5,x6,x7,x8,x9]=
   some (.next [a0,a1,some (.lst (ks.map D.str),false),some (.lst ((am.eraseIdx j).map (prD rs)),true),some (.lst ((placed++(am[j]?).toList).map (prD rs)),true),y5,y6,y7,x8,x9]):=by
 have hpl:placed.length<=4:=by lia
 have el:=aZ (ps:=placed) hpl (λp hp=>h4 p (ZG _ hp))
 obtain⟨us,e1,_,e3,e4⟩:=iA (cU placed);have e5:=bF (ps:=placed) (λp hp=>h4 p (ZG _ hp))
 rw[e1]at el;have hc:bj (aH (aa 9) (λδ=>some true) nN (aw true [false,false,false,false,false,false,false,false,false,false] [a0,a1,some (.lst (ks.map D.str),false),some (.lst (am.map (prD rs)),true),some (.lst (placed.map (prD rs)),true),x5,x6,x7,x8,x9])) (placed.map (prD rs))=some (placed.map aJ):=by
  have:(placed.map aJ)=(placed.map (prD rs)).map λd=>match d with|.tup (x::_)=>x|d=>d:=by rw[Xe];rfl
  rw[this,fX];intro d hd;obtain⟨p,_,rfl⟩:=ZL.mp hd;simp[aH,aw,nN,prD,at0]
 have KH:D.flats (placed.map aJ)=true:=by rw[D.flats_all,ZO];intro x hx;obtain⟨t,_,rfl⟩:=ZL.mp hx;exact vR t
 have hb:v6 (iz (some (.lst (ks.map D.str)))) (flO (ae (af (av (fU (ae (cr (some (.lst (placed.map (prD rs))))) (b0 true [false,false,false,false,false,false,false,false,false,false] (aa 9) (λδ=>some true) nN [a0,a1,some (.lst (ks.map D.str),false),some (.lst (am.map (prD rs)),true),some (.lst (placed.map (prD rs)),true),x5,x6,x7,x8,x9])))) (some [])) FO))=some (.lst ((ks++us).map D.str)):=by
  simp only[lstL_s,bindO_s];rw[aS (by simp;lia),hc]
  simp only[fU,KH,Y2,lstLim_s,consO_s,bindO_s,el,flO,oh,listO_l];rw[catO_s _ _ (by simp;lia)]
  simp
 have hf:cx (λd=>nL ((aw true [false,false,false,false,false,true,false,false,false,false] [a0,a1,some (.lst (ks.map D.str),false),some (.lst (am.map (prD rs)),true),some (.lst (placed.map (prD rs)),true),some (.lst ((ks++us).map D.str),false),x6,x7,x8,x9]).set 9 (some (d,false)))) (am.map (prD rs))=some (am.map (lk (ks++us))):=by
  refine kE λp hp=>?_
  have:=rP p (h4 p (YZ _ hp)) (ks++us);simp only[nL,aw,List.zipWith,List.set_cons_succ,List.set_cons_zero,rd_1,rd_0];have e9:∀(x:Z9 D),x=some (.lst ((ks++us).map D.str))->tyB (shO (ae (af (ixO (some (prD rs p)) (some (.int 0))) (af x (some []))) G8))=some (lk (ks++us) p):=λx hx=>by rw[hx];simp only[prD,ixO_t,at0,consO_s,bindO_s,this,shO_s,tyB_s]
  exact e9 _ rfl
 have Lj:am.map (lk (ks++us))≠[]:=by simpa using FW
 have hj:aF (am.map (lk (ks++us)))<am.length:=by have:=rJ Lj;simpa using this
 generalize Nu:aF (am.map (lk (ks++us)))=j at hj;have MA:(am.map (prD rs)).getD j .non=prD rs am[j]:=by rw[YK];simp[hj]
 refine⟨j,some (.lst ((ks++us).map D.str),false),some (.lst (dg (am.map (prD rs)) (am.map (lk (ks++us)))),true),some (prD rs am[j],false),hj,?_⟩
 have O4:rd true 4 [a0,a1,some (.lst (ks.map D.str),false),some (.lst (am.map (prD rs)),true),some (.lst (placed.map (prD rs)),true),x5,x6,x7,x8,x9]=some (.lst (placed.map (prD rs))):=rfl;simp only[jl,O4,rd_1,rd_0,hb];rw[setO_s _ _ _ (by simp)]
 simp only[seqO_n,List.set_cons_succ,List.set_cons_zero];unfold qh;simp only[List.getElem?_cons_succ,List.getElem?_cons_zero,hf]
 have h0:(am.map (prD rs))[0]?=some (prD rs (am[0]'(by lia))):=by simp[show 0<am.length by lia]
 simp only[h0,Nu];rw[Z0]
 .simp only[qW,List.set_cons_succ,List.set_cons_zero,rd_1,rd_0,MA]
  rw[eG (ds:=placed.map (prD rs)) _ rfl (by simp;lia)]
  have em:(am.map (prD rs)).eraseIdx j=(am.eraseIdx j).map (prD rs):=by rw[Xo,Xo,Y0,List.map_take,List.map_drop]
  simp[em,hj]
 .refine⟨⟨by simp,by simp,by simp,by simp;lia⟩,?_⟩
  rw[ZH,ZO,ZO];refine⟨λd hd=>?_,λd hd=>?_⟩
  .obtain⟨p,_,rfl⟩:=ZL.mp hd;rfl
  .obtain⟨i,hi⟩:=List.mem_iff_getElem?.mp hd
   rw[List.getElem?_take]at hi
   split at hi
   .rename_i IC
    rw[Yv]at hi
    obtain⟨p,hp,rfl⟩:=Xr.mp hi;rw[MA];obtain⟨f1,f2⟩:=pN (bl:=am.map (lk (ks++us))) (i:=i) (by rw[Nu];exact IC)
    rw[Nu]at f2;rw[Yv,hp]at f1
    rw[Yv,Y5 hj]at f2
    simp only[Option.map_some,ZM]at f1 f2;simp only[dR,prD,Bk,Xl,X7,Zi];intro e;rw[uG e,f2]at f1;cases f1
   .cases hi
end K11
namespace K11
open PySem L2 JP
variable[Lams]
theorem bL{α:Type}:∀{l:Z8 α}{j:Nat}{x:α},l[j]?=some x->(x::l.eraseIdx j).Perm l
 |[],j,x,h=>by simp at h
 |a::l,0,x,h=>by simp at h;subst h;exact YW _
 |a::l,j+1,x,h=>by
  rw[List.eraseIdx_cons_succ];exact(List.Perm.swap a x _).trans ((bL (by simpa using h)).cons a)
theorem gB(rs:Z8 Row)(ks:Z8 Str)(hk:ks.length<=1000):∀(n:Nat)(am placed:Z8 Pat)(a0 a1 x5 x6 x7 x8 x9:Z9 (D×Bool))(fuel:Nat),am.length=n->n<fuel->(∀p∈am++placed,p.2.length<=4)->am.length+placed.length<=4->∃o y5 y6 y7,o.Perm am/\
  cY jZ jl fuel [a0,a1,some (.lst (ks.map D.str),false),some (.lst (am.map (prD rs)),true),some (.lst (placed.map (prD rs)),true),x5,x6,x7,x8,x9]=
   some (.next [a0,a1,some (.lst (ks.map D.str),false),some (.lst [],true),some (.lst ((placed++o).map (prD rs)),true),y5,y6,y7,x8,x9])
 |0,am,placed,a0,a1,x5,x6,x7,x8,x9,fuel,hn,hf,h4,hl=>by
  have:am=[]:=YL.mp hn;subst this;obtain⟨f,rfl⟩:∃f,fuel=f+1:=⟨fuel - 1,by lia⟩
  refine⟨[],x5,x6,x7,YW _,?_⟩
  unfold cY;have:jZ [a0,a1,some (.lst (ks.map D.str),false),some (.lst (([]:Z8 Pat).map (prD rs)),true),some (.lst (placed.map (prD rs)),true),x5,x6,x7,x8,x9]=some false:=rfl;rw[this];simp
 |n+1,am,placed,a0,a1,x5,x6,x7,x8,x9,fuel,hn,hf,h4,hl=>by
  obtain⟨f,rfl⟩:∃f,fuel=f+1:=⟨fuel - 1,by lia⟩
  have FW:am≠[]:=λz=>by rw[z]at hn;simp at hn
  obtain⟨j,y5,y6,y7,hj,e⟩:=yu rs ks hk h4 FW hl a0 a1 x5 x6 x7 x8 x9;have Mt:am[j]?=some am[j]:=by simp[hj]
  have hp:=bL Mt;have hlen:(am.eraseIdx j).length=n:=by have:=hp.length_eq;simp at this;lia
  have hm:∀p∈am.eraseIdx j++(placed++am[j]?.toList),p.2.length<=4:=λp Gh=>by
   refine h4 p ?_
   rw[Mt]at Gh;simp only[Option.toList_some,Zv,ZE]at Gh⊢
   rcases Gh with q|q|q
   .exact .inl (hp.mem_iff.mp (Z2 _ q))
   .exact .inr q
   .exact .inl (hp.mem_iff.mp (by rw[q];exact ZX ..))
  obtain⟨o,z5,z6,z7,po,e'⟩:=gB rs ks hk n (am.eraseIdx j) (placed++am[j]?.toList) a0 a1 y5 y6 y7 x8 x9 f hlen (by lia) hm (by rw[Mt];simp;lia)
  refine⟨am[j]::o,z5,z6,z7,(po.cons _).trans hp,?_⟩
  have ht:jZ [a0,a1,some (.lst (ks.map D.str),false),some (.lst (am.map (prD rs)),true),some (.lst (placed.map (prD rs)),true),x5,x6,x7,x8,x9]=some true:=by
   cases am with
   |nil=>exact absurd rfl FW
   |cons a b=>rfl
  unfold cY;rw[ht];simp only[e];rw[e',Mt];simp
theorem mi(rs:Z8 Row):∀ps:Z8 Pat,gh (λd=>gZ [some (d,false)]) (ps.map (prD rs))=some (ps.map λp=>((binds rs p).length:Int))
 |[]=>rfl
 |p::ps=>by
  simp only[Z1,gh,mi rs ps];have:gZ [some (prD rs p,false)]=some (.int (binds rs p).length):=by simp[gZ,prD,at1]
  rw[this]
def k7(ps:Z8 Pat)(ks:Z8 Int)(h:ks.length=ps.length)(h5:ks.length<5):∃o:Z8 Pat,o.Perm ps/\mR (ps.map f) ks=o.map f:=by
 have hp:=eY h5;rw[h]at hp;refine⟨(hV ks).filterMap λi=>ps[i]?,?_,?_⟩
 .have e:(List.range ps.length).filterMap (λi=>ps[i]?)=ps:=by
   clear hp h;have key:∀(l pre:Z8 Pat),((List.range' pre.length l.length).filterMap λi=>(pre++l)[i]?)=l:=by
    intro l
    induction l with
    |nil=>intro pre;rfl
    |cons a l ih=>
     intro pre;rw[List.length_cons,List.range'_succ,List.filterMap_cons];have:(pre++a::l)[pre.length]?=some a:=by simp
     rw[this];have:=ih (pre++[a]);simp only[Zy,List.length_singleton,Zh,List.singleton_append]at this;rw[this]
   have:=key ps []
   simpa[List.range_eq_range']using this
  have:=hp.filterMap λi=>ps[i]?
  rw[e]at this;exact this
 .unfold mR
  rw[List.map_filterMap];have hm:∀i∈hV ks,i<ps.length:=λi hi=>Yq.mp (hp.mem_iff.mp hi)
  generalize hV ks=kp at hm
  induction kp with
  |nil=>rfl
  |cons i l ih=>
   have hi:=hm i (ZX ..);rw[Z1,List.filterMap_cons,ih λj hj=>hm j (Z2 _ hj)]
   have:ps[i]?=some ps[i]:=by simp[hi]
   rw[this];simp[hi]
def fx(rs:Z8 Row)(FV:rs.length<=1000)(ks:Z8 Str)(hk:ks.length<=1000)(h4:∀p∈ps,p.2.length<=4)(hl:ps.length<=4):∃o:Z8 Pat,o.Perm ps/\
  Im [.lst (rs.map aC),.lst (ps.map aJ),.lst (ks.map D.str)]=some (.lst (o.map (prD rs)),true):=by
 obtain⟨o1,p1,e1⟩:=k7 (f:=prD rs) ps (ps.map λp=>((binds rs p).length:Int)) (by simp) (by simp;lia)
 have Sm:∀p∈o1++[],p.2.length<=4:=λp hp=>h4 p (p1.mem_iff.mp (by simpa using hp))
 have Ho:o1.length=ps.length:=p1.length_eq;obtain⟨o,y5,y6,y7,po,e⟩:=gB rs ks hk o1.length o1 [] (some (.lst (rs.map aC),false)) (some (.lst (ps.map aJ),false)) none none none none none 1000 rfl (by lia) Sm (by simp;lia)
 refine⟨o,po.trans p1,?_⟩
 rw[az (f:=Im) (δ:=[some (.lst (rs.map aC),false),some (.lst (ps.map aJ),false),some (.lst (ks.map D.str),false),none,none,none,none,none,none,none]) rfl rfl rfl];have hc:bj (aH (aa 8) (λδ=>some true) kF (aw false [true,false,false,false,false,false,false,false,false,false] [some (.lst (rs.map aC),false),some (.lst (ps.map aJ),false),some (.lst (ks.map D.str),false),none,none,none,none,none,none,none])) (ps.map aJ)=some (ps.map (prD rs)):=by
  have key:∀qs:Z8 Pat,(∀p∈qs,p.2.length<=4)->bj (aH (aa 8) (λδ=>some true) kF (aw false [true,false,false,false,false,false,false,false,false,false] [some (.lst (rs.map aC),false),some (.lst (ps.map aJ),false),some (.lst (ks.map D.str),false),none,none,none,none,none,none,none])) (qs.map aJ)=some (qs.map (prD rs)):=by
   intro qs
   induction qs with
   |nil=>intro _;rfl
   |cons q qs ih=>
    intro h;rw[Z1];unfold bj;have:aH (aa 8) (λδ=>some true) kF (aw false [true,false,false,false,false,false,false,false,false,false] [some (.lst (rs.map aC),false),some (.lst (ps.map aJ),false),some (.lst (ks.map D.str),false),none,none,none,none,none,none,none]) (aJ q)=some (some (prD rs q)):=by
     simp[aH,aw,kF,lD (h q (ZX ..)) FV,prD]
    rw[this,ih λp hp=>h p (Z2 _ hp)]
    rfl
  exact key ps h4
 simp only[Jc,rd_1,rd_0,lstL_s,bindO_s];rw[aS (by simp;lia),hc]
 have hs:gY (av (some (ps.map (prD rs)))) (λd=>gZ [some (d,false)])=some (.lst (o1.map (prD rs))):=by
  unfold gY;simp only[lstLim_s,mi,e1];rw[Z0 (by simp;lia)]
 rw[hs,setF_s _ _ _ (by simp)]
 simp only[seqO_n,List.set_cons_succ,List.set_cons_zero];rw[lstO_s _ (by simp),setF_s _ _ _ (by simp)]
 simp only[seqO_n,List.set_cons_succ,List.set_cons_zero];rw[Y6]at e;rw[e];simp
end K11
namespace K11
open PySem L2 JP
variable[Lams]
theorem eS{α:Type}{f:α->D}{h:α->D}{p:α->Bool}{F:D->Z9 (Z9 D)}:∀{xs:Z8 α},(∀x∈xs,F (f x)=some (if p x=true then some (h x) else none))->bj F (xs.map f)=some ((xs.filter p).map h)
 |[],_=>rfl
 |x::xs,H=>by
  rw[Z1];unfold bj;rw[H x (ZX ..),eS λy hy=>H y (Z2 _ hy),List.filter_cons]
  cases p x<;>rfl
def bR{α:Type}{f:α->D}{h:α->D}{F:D->Z9 (Z9 D)}{xs:Z8 α}(H:∀x∈xs,F (f x)=some (some (h x))):bj F (xs.map f)=some (xs.map h):=by
 have:=eS (f:=f) (h:=h) (p:=λ_=>true) (F:=F) (xs:=xs) λx hx=>by rw[H x hx];rfl
 rwa[List.filter_eq_self.mpr λ_ _=>rfl]at this
def iE(ns:Z8 Nat):D:=.lst (ns.map λn:Nat=>D.int n)
def cD(c:Z8 Ce):D:=.tup (c.map ceD)
def m5{a b:Z8 Ce}(h:cD a=cD b):a=b:=by
 unfold cD at h;injection h with h
 induction a generalizing b with
 |nil=>cases b with
  |nil=>rfl
  |cons=>simp at h
 |cons x a ih=>cases b with
  |nil=>simp at h
  |cons y b=>simp only[Z1,Yg]at h;rw[eh h.1,ih h.2]
def rg(c:Z8 Ce):bP 8 (cD c)=true:=by
 unfold cD;simp only[bP];rw[ZO];intro d hd;obtain⟨x,_,rfl⟩:=ZL.mp hd;cases x<;>rfl
theorem qX(c:Z8 Ce):vn (cD c)=true:=rfl
def Eb(c:Z8 Ce):okD 15 (cD c)=true:=by
 unfold cD;simp only[okD];rw[ZO];intro d hd;obtain⟨x,_,rfl⟩:=ZL.mp hd;cases x<;>rfl
theorem qm(l:Str):∀known:Z8 Str,(known.map D.str).idxOf (.str l)=known.idxOf l
 |[]=>rfl
 |k::known=>by
  rw[Z1,List.idxOf_cons,List.idxOf_cons,qm l known];have:((D.str k==D.str l):Bool)=(k==l):=by
   by_cases h:k=l
   .subst h;rw[X2,X2]
   .have h':¬D.str k=D.str l:=λz=>h (by injection z)
    rw[beq_false_of_ne h,beq_false_of_ne h']
  rw[this]
def uH{l:Str}{known:Z8 Str}(h:l∈known)(hk:known.length<=1000):zY (some (.lst (known.map D.str))) (some (.str l))=some (.int (known.idxOf l)):=by
 unfold zY;simp only[qm];rw[Z0];refine⟨rfl,?_,by rw[ZI];exact YN h,by simp;lia⟩
 rw[ZO];intro d hd;obtain⟨x,_,rfl⟩:=ZL.mp hd;rfl
def cn{ls known:Z8 Str}(h:∀l∈ls,l∈known)(hl:ls.length<=1000)(hk:known.length<=1000):G7 [.lst (ls.map D.str),.lst (known.map D.str)]=some (iE (aQ ls known),true):=by
 rw[az (f:=G7) (δ:=[some (.lst (ls.map D.str),false),some (.lst (known.map D.str),false),none]) rfl rfl rfl];simp only[CS,rd_0,lstL_s,bindO_s];rw[aS (by simp;lia)]
 have:=bR (f:=D.str) (h:=λl=>D.int (known.idxOf l)) (xs:=ls) (F:=aH (aa 2) (λδ=>some true) tz (aw false [false,true,false] [some (.lst (ls.map D.str),false),some (.lst (known.map D.str),false),none])) λl hm=>by
  simp[aH,aw,tz,uH (h l hm) hk]
 rw[this];simp[iE,aQ]
def fo{c:Z8 Ce}{ps:Z8 Nat}(h:∀i∈ps,i<c.length)(hl:ps.length<=1000):GS [cD c,iE ps]=some (cD (pk c ps),false):=by
 rw[az (f:=GS) (δ:=[some (cD c,false),some (iE ps,false),none]) rfl rfl rfl];simp only[CP,rd_0,rd_1,iE,lstL_s,bindO_s];rw[aS (by simp;lia)]
 have:=bR (f:=λn:Nat=>D.int n) (h:=λn=>ceD (c.getD n default)) (xs:=ps) (F:=aH (aa 2) (λδ=>some true) ql (aw false [true,false,false] [some (cD c,false),some (.lst (ps.map λn:Nat=>D.int n),false),none])) λn hm=>by
  have hn:=h n hm;have:atI (c.map ceD) (n:Int)=some (ceD (c.getD n default)):=qQ (by lia) (by simp[hn])
  simp[aH,aw,ql,cD,this]
 rw[this];simp[cD,pk]
def gD(g:Gr):Z8 (D×Z8 D):=g.map λq=>(cD q.1,q.2.map cD)
theorem wQ(k e:Z8 Ce):∀g:Gr,aY (gD g) (cD k) (cD e)=gD (lI g k e)
 |[]=>rfl
 |q::g=>by
  have ih:=wQ k e g;unfold gD at ih⊢;rw[Z1];unfold aY lI;have h1:(cD q.1=cD k)=(q.1=k):=propext ⟨m5,λh=>by rw[h]⟩
  have h2:(cD e∈q.2.map cD)=(e∈q.2):=propext ⟨λh=>by
   obtain⟨x,hx,he⟩:=ZL.mp h;rwa[<-m5 he],λh=>ZL.mpr ⟨e,h,rfl⟩⟩
  simp only[h1,h2,ih];split
  .split<;>simp
  .simp
def BM{b:Bi}{l:Str}{c:Ce}(h:gt b l=some c):zX (some (bD b)) (some (.str l))=some (ceD c):=by
 unfold zX;rw[qV,h];rfl
def tJ{b:Bi}{sh:Z8 Str}(h:∀l∈sh,∃c,gt b l=some c)(ε:DEnv)(hm:ε=[none,none,none,none,some (bD b,false),none,none,none]):
  bj (aH (aa 7) (λδ=>some true) Gg ε) (sh.map D.str)=some ((vl b sh).map ceD):=by
 subst hm;have:=bR (f:=D.str) (h:=λl=>ceD ((gt b l).getD default)) (xs:=sh) (F:=aH (aa 7) (λδ=>some true) Gg [none,none,none,none,some (bD b,false),none,none,none]) λl hm=>by
  obtain⟨c,hc⟩:=h l hm;simp[aH,Gg,BM hc,hc]
 rw[this];simp[vl]
theorem mB{sh ad:Z8 Str}(h1:sh.length<=1000)(h2:ad.length<=1000)(a0:D):∀(bs:Z8 Bi)(g:Gr)(a4 a5:Z9 (D×Bool)),(∀b∈bs,∀l∈sh++ad,∃c,gt b l=some c)->
  bW 4 5 6 mZ mH (bs.map bD) [some (a0,false),some (.lst (sh.map D.str),false),some (.lst (ad.map D.str),false),none,a4,a5,none,none] (gD g)=some (gD (bs.foldl (λg b=>lI g (vl b sh) (vl b ad)) g))
 |[],g,a4,a5,_=>rfl
 |b::bs,g,a4,a5,h=>by
  have hb:=h b (ZX ..);have ih:=mB h1 h2 a0 bs (lI g (vl b sh) (vl b ad)) (some (bD b,false)) (some (cD (vl b sh),false)) λb' Gj=>h b' (Z2 _ Gj)
  rw[Z1,List.foldl_cons,<-ih]
  conv=>lhs;unfold bW
  have e1:mZ [some (a0,false),some (.lst (sh.map D.str),false),some (.lst (ad.map D.str),false),none,some (bD b,false),a5,none,none]=some (cD (vl b sh)):=by
   simp only[mZ,rd_1,rd_0,lstL_s,bindO_s];rw[aS (by simp;lia)]
   exact congrArg (λz=>dF (av z)) (tJ (λl hl=>hb l (YZ _ hl)) _ rfl)
  have e2:mH [some (a0,false),some (.lst (sh.map D.str),false),some (.lst (ad.map D.str),false),none,some (bD b,false),some (cD (vl b sh),false),none,none]=some (cD (vl b ad)):=by
   simp only[mH,rd_1,rd_0,lstL_s,bindO_s];rw[aS (by simp;lia)]
   have:=tJ (λl hl=>hb l (ZG _ hl)) _ rfl
   have hh:(wZ:DEnv->Z9 D)=Gg:=rfl;rw[hh];exact congrArg (λz=>dF (av z)) this
  simp only[List.set_cons_succ,List.set_cons_zero,e1,e2,rg,qX,Bool.and_self,Y2,wQ]
def oN{bs:Z8 Bi}{sh ad:Z8 Str}(h1:sh.length<=1000)(h2:ad.length<=1000)(hl:bs.length<=1000)(h:∀b∈bs,∀l∈sh++ad,∃c,gt b l=some c):
  Ik [.lst (bs.map bD),.lst (sh.map D.str),.lst (ad.map D.str)]=some (mV (gD (grp bs sh ad)),true):=by
 rw[az (f:=Ik) (δ:=[some (.lst (bs.map bD),false),some (.lst (sh.map D.str),false),some (.lst (ad.map D.str),false),none,none,none,none,none]) rfl rfl rfl];unfold C7 AL;rw[Z0 ⟨rfl,by simp,by simp,by simp,by simp⟩]
 have e0:wx ([some (.lst (bs.map bD),false),some (.lst (sh.map D.str),false),some (.lst (ad.map D.str),false),none,none,none,none,none].set 3 none)=some (bs.map bD):=rfl;simp only[e0];rw[Z0 (by simp;lia)]
 have:=mB h1 h2 (.lst (bs.map bD)) bs [] none none h;simp only[List.set_cons_succ,List.set_cons_zero];have hg:gD []=[]:=rfl;rw[hg]at this;rw[this];rfl
theorem wS(k:Z8 Ce):∀g:Gr,(ca (cD k) ((gD g).map (·.1)) ((gD g).map λp=>(.dD p.2 (p.2.map λ_=>.bl true):D))).getD (.dD [] [])=.dD ((cf g k).map cD) ((cf g k).map λ_=>.bl true)
 |[]=>rfl
 |q::g=>by
  have ih:=wS k g;rw[aP];show(ca (cD k) (cD q.1::(gD g).map (·.1)) ((.dD (q.2.map cD) ((q.2.map cD).map λ_=>.bl true):D)::_)).getD _=_
  unfold ca
  by_cases h:q.1=k
  .rw[Z0 (by rw[h]),Z0 h];simp
  .rw[ZY λz=>h (m5 z),ZY h];exact ih
def De(g:Gr)(k:Z8 Ce):jX (some (mV (gD g))) (some (cD k)) (some (.dD [] []))=some (.dD ((cf g k).map cD) ((cf g k).map λ_=>.bl true)):=by
 unfold jX cb mV;simp only[rg,qX,Bool.and_self,Y2,wS]
def vQ(l:Z8 (Z8 Ce)):D:=.dD (l.map cD) (l.map λ_=>.bl true)
def oj{ks:Z8 D}(k:D):∀{n:Z8 (Z8 Ce)},ks.length=n.length->n9 k (.bl true) ks (n.map λ_=>(.bl true:D))=n.map λ_=>.bl true:=by
 induction ks with
 |nil=>intro n h;cases n with
  |nil=>rfl
  |cons=>simp at h
 |cons a ks ih=>intro n h;cases n with
  |nil=>simp at h
  |cons b n=>simp only[Z1,n9,ite_self,ih (by simpa using h)]
def yV(x:Z8 Ce)(l:Z8 (Z8 Ce))(hl:l.length<100000):jF (vQ l) (cD x) (.bl true)=some (vQ (ins x l)):=by
 unfold vQ jF;have hm:(cD x∈l.map cD)=(x∈l):=propext ⟨λh=>by
   obtain⟨y,hy,he⟩:=ZL.mp h;rwa[<-m5 he],λh=>ZL.mpr ⟨x,h,rfl⟩⟩
 simp only[rg,qX,Bool.and_self,X7];rw[Z0 (by simp;lia)]
 unfold l8 zZ ins;simp only[hm];split
 .rw[oj _ (by simp)]
 .simp
def lE(x:Z8 Ce)(l:Z8 (Z8 Ce)):(ins x l).length<=l.length+1:=by unfold ins;split<;>simp
theorem xn(kc:Z8 Ce)(hk:kc.length<=1000)(a0 a1 a2 a3 a5:Z9 (D×Bool)):∀(as:Z8 (Z8 Ce))(l:Z8 (Z8 Ce))(a7:Z9 (D×Bool)),(∀a∈as,a.length<=1000)->l.length+as.length<=50000->∃y7,
  ao (λd δ=>ae ((aa 7) d δ) qF) (as.map cD) [a0,a1,a2,a3,some (vQ l,true),a5,some (cD kc,false),a7]=some (.next [a0,a1,a2,a3,some (vQ (as.foldl (λl a=>ins (kc++a) l) l),true),a5,some (cD kc,false),y7])
 |[],l,a7,_,_=>⟨a7,rfl⟩
 |a::as,l,a7,ha,hl=>by
  rw[List.length_cons]at hl;have hi:=lE (kc++a) l;obtain⟨y7,e⟩:=xn kc hk a0 a1 a2 a3 a5 as (ins (kc++a) l) (some (cD a,false)) (λx hx=>ha x (Z2 _ hx)) (by lia)
  refine⟨y7,?_⟩
  rw[List.foldl_cons,<-e,Z1]
  conv=>lhs;unfold ao
  have hc:rS (some (cD kc)) (some (cD a))=some (cD (kc++a)):=by
   unfold rS cD;have:=ha a (ZX ..);simp only[ZI,lim_eq];rw[Z0 (by lia),Y0]
  simp[qF,vY,hc,yV _ _ (show l.length<100000 by lia)]
theorem mU{sp kp:Z8 Nat}{g:Gr}(h1:sp.length<=1000)(h2:kp.length<=1000)(hg:∀k,((cf g k).length<=400)/\∀a∈cf g k,a.length<=1000)(a0:Z9 (D×Bool)):∀(found l:Z8 (Z8 Ce))(a5 a6 a7:Z9 (D×Bool)),(∀c∈found,∀i∈sp++kp,i<c.length)->l.length+400*found.length<=50000->∃y5 y6 y7,
  ao (λd δ=>ae ((aa 5) d δ) rU) (found.map cD) [a0,some (iE sp,false),some (iE kp,false),some (mV (gD g),false),some (vQ l,true),a5,a6,a7]=some (.next [a0,some (iE sp,false),some (iE kp,false),some (mV (gD g),false),some (vQ (found.foldl (oK g sp kp) l),true),y5,y6,y7])
 |[],l,a5,a6,a7,_,_=>⟨a5,a6,a7,rfl⟩
 |c::found,l,a5,a6,a7,hc,hl=>by
  rw[List.length_cons]at hl;have ND:=hc c (ZX ..);have g1:=(hg (pk c sp)).1;obtain⟨z7,e1⟩:=xn (pk c kp) (by unfold pk;simpa using h2) a0 (some (iE sp,false)) (some (iE kp,false)) (some (mV (gD g),false)) (some (cD c,false)) (cf g (pk c sp)) l a7 (hg _).2 (by lia)
  have hx:(oK g sp kp l c).length<=l.length+400:=by
   unfold oK;have key:∀(as l:Z8 (Z8 Ce)),(as.foldl (λl a=>ins (pk c kp++a) l) l).length<=l.length+as.length:=by
    intro as
    induction as with
    |nil=>intro l;simp
    |cons a as ih=>intro l;rw[List.foldl_cons];have:=ih (ins (pk c kp++a) l);have:=lE (pk c kp++a) l;simp;lia
   have:=key (cf g (pk c sp)) l
   lia
  obtain⟨y5,y6,y7,e⟩:=mU h1 h2 hg a0 found (oK g sp kp l c) (some (cD c,false)) (some (cD (pk c kp),false)) z7 (λx hx=>hc x (Z2 _ hx)) (by lia)
  refine⟨y5,y6,y7,?_⟩
  rw[List.foldl_cons,<-e,Z1]
  conv=>lhs;unfold ao
  simp only[toName_s,List.length_cons,List.length_nil,Nat.reduceAdd,Nat.reduceLT,bindO_s,List.set_cons_succ,List.set_cons_zero];simp only[rU,rd_1,rd_0,consO_s,bindO_s,fo (λi hi=>ND i (ZG _ hi)) h2,shO_s,setO_s,List.length_cons,List.length_nil,Nat.reduceAdd,Nat.reduceLT,seqO_n,List.set_cons_succ,List.set_cons_zero,fo (λi hi=>ND i (YZ _ hi)) h1,De,vH]
  rw[e1];rfl
def lY{found:Z8 (Z8 Ce)}{sp kp:Z8 Nat}{g:Gr}(h1:sp.length<=1000)(h2:kp.length<=1000)(hg:∀k,((cf g k).length<=400)/\∀a∈cf g k,a.length<=1000)(hf:found.length<=125)(h:∀c∈found,∀i∈sp++kp,i<c.length):
  Ij [.lst (found.map cD),iE sp,iE kp,mV (gD g)]=some (.lst ((ext found sp kp g).map cD),true):=by
 rw[az (f:=Ij) (δ:=[some (.lst (found.map cD),false),some (iE sp,false),some (iE kp,false),some (mV (gD g),false),none,none,none,none]) rfl rfl rfl];obtain⟨y5,y6,y7,e⟩:=mU h1 h2 hg (some (.lst (found.map cD),false)) found [] none none none h (by simp;lia)
 have e0:vQ []=.dD [] []:=rfl;rw[e0]at e;simp only[DB,setF_s,List.length_cons,List.length_nil,Nat.reduceAdd,Nat.reduceLT,seqO_n,List.set_cons_succ,List.set_cons_zero,rd_0,lstL_s,bindO_s];rw[e];simp[wN,vQ,mF,ext]
end K11
namespace K11
open PySem L2 JP
variable[Lams]
def uC(g:Gr)(k e k':Z8 Ce):(cf (lI g k e) k').length<=(cf g k').length+1:=by
 induction g with
 |nil=>
  unfold lI;rw[aP];split<;>simp[cf]
 |cons q g ih=>
  unfold lI
  by_cases h:q.1=k
  .rw[Z0 h,aP,aP]
   dsimp only
   by_cases h':q.1=k'
   .rw[Z0 h',Z0 h'];split<;>simp
   .rw[ZY h',ZY h'];lia
  .rw[ZY h,aP,aP]
   by_cases h':q.1=k'
   .rw[Z0 h',Z0 h'];lia
   .rw[ZY h',ZY h'];exact ih
def xC(sh ad:Z8 Str)(k:Z8 Ce)(bs:Z8 Bi):(cf (grp bs sh ad) k).length<=bs.length:=by
 have key:∀(bs:Z8 Bi)(g:Gr),(cf (bs.foldl (λg b=>lI g (vl b sh) (vl b ad)) g) k).length<=(cf g k).length+bs.length:=by
  intro bs
  induction bs with
  |nil=>intro g;simp
  |cons b bs ih=>intro g;rw[List.foldl_cons];have:=ih (lI g (vl b sh) (vl b ad));have:=uC g (vl b sh) (vl b ad) k;simp;lia
 have:=key bs []
 simpa[cf,grp]using this
def yp(h:∀k,(cf g k).length<=n):(ext found sp kp g).length<=found.length*n:=by
 have kin:∀(c:Z8 Ce)(as l:Z8 (Z8 Ce)),(as.foldl (λl a=>ins (pk c kp++a) l) l).length<=l.length+as.length:=by
  intro c as
  induction as with
  |nil=>intro l;simp
  |cons a as ih=>intro l;rw[List.foldl_cons];have:=ih (ins (pk c kp++a) l);have:=lE (pk c kp++a) l;simp;lia
 have key:∀(found l:Z8 (Z8 Ce)),(found.foldl (oK g sp kp) l).length<=l.length+found.length*n:=by
  intro found
  induction found with
  |nil=>intro l;simp
  |cons c found ih=>
   intro l;rw[List.foldl_cons];have h1:=ih (oK g sp kp l c);have h2:=kin c (cf g (pk c sp)) l;have h3:=h (pk c sp);unfold oK at h1⊢;rw[List.length_cons,Nat.add_mul]
   lia
 have:=key found []
 simpa[ext]using this
def oX{α:Type}(f:α->D)(a:Z8 α)(x:α)(b:Z8 α):pX ((a++x::b).map f) (some ((a.length:Int)+1)) none=b.map f:=by
 unfold pX;have e:((a.length:Int)+1)=((a.length+1:Nat):Int):=by lia
 rw[e,HT.sIx_nat,HT.sIx_none];simp only[ZI,Zy,List.length_cons];rw[Nat.min_eq_left (by lia)]
 rw[YE (by simp)]
 rw[<-List.map_drop];congr 1;rw[List.drop_append];simp
def C3(l:Str)(ss:Z8 Str):bX (some (.str l)) (some (.lst (ss.map D.str)))=some (!decide (l∈ss)):=by
 unfold bX;rw[fg];rfl
def hY{own:Z8 Str}{P:Str->Bool}{F:D->Z9 (Z9 D)}(h:∀l∈own,F (.str l)=some (if P l=true then some (.str l) else none)):bj F (own.map D.str)=some ((own.filter P).map D.str):=eS h
def kM{α:Type}(P:α->Bool)(l:Z8 α):(l.filter P).length<=l.length:=List.length_filter_le ..
def zL{rs:Z8 Row}(FV:rs.length<=400){wanted:Z8 Str}(hw:wanted.length<=100){done am:Z8 Pat}{p:Pat}{known:Z8 Str}{found:Z8 (Z8 Ce)}(J:Jn rs wanted done (p::am) known found)(hk:known.length<=100)(hf:found.length<=125)
  (h4:∀q∈p::am,q.2.length<=4) (hl:(p::am).length<=4) (a0 a1 x8 x9 IP IM IL IK IA Iz Iy Iw:Z9 (D×Bool)):∃FT FU y8 y9 Kt Ks Kr Kq,Jn rs wanted (done++[p]) am FT FU/\FT.length<=known.length+4/\FU.length<=found.length*rs.length/\
  jx [a0,a1,some (.lst (wanted.map D.str),false),some (.lst (known.map D.str),false),some (.lst (found.map cD),false),some (.lst ((done++p::am).map (prD rs)),false),some (.int done.length,false),some (prD rs p,false),x8,x9,IP,IM,IL,IK,IA,Iz,Iy,Iw]=
   some (.next [a0,a1,some (.lst (wanted.map D.str),false),some (.lst (FT.map D.str),false),some (.lst (FU.map cD),false),some (.lst ((done++p::am).map (prD rs)),false),some (.int done.length,false),some (prD rs p,false),y8,y9,Kt,Ks,Kr,Kq,IA,Iz,Iy,Iw]):=by
 obtain⟨ls,NO,_,QY,Ts⟩:=iA (cU am);obtain⟨own,Om,Hw,NY,S5⟩:=iA (cU [p]);have O8:=h4 p (ZX ..);have O5:∀q∈am,q.2.length<=4:=λq hq=>h4 q (Z2 _ hq)
 have Ni:am.length<=3:=by simp at hl;lia
 have lr:=bF O5;have lp:(cU [p]).length<=4:=by
  have:=bF (ps:=[p]) λq hq=>by rw[ZE.mp hq];exact O8
  simpa using this
 have mo:∀l,l∈own↔l∈ans p.2:=λl=>by rw[NY,hU];simp
 have ml:∀l,l∈wanted++ls↔l∈wanted\/∃q∈am,l∈ans q.2:=λl=>by rw[Zv,QY,hU]
 have Nn:own.length<=4:=by lia
 generalize Hz:wanted++ls=later at ml;have TB:later.length<=200:=by rw[<-Hz,Zy];lia
 have J':=zB J mo Hw ml;have f1:=kM (λl=>decide (l∈known)) own
 have f2:=kM (λl=>decide (l∈later)&&!decide (l∈known)) own
 have f3:=kM (λl=>decide (l∈later)) known
 have HW:∀l∈own.filter (λl=>decide (l∈known)),l∈known:=λl hl=>by simp at hl;exact hl.2
 have Hx:∀l∈known.filter (λl=>decide (l∈later)),l∈known:=λl hl=>by simp at hl;exact hl.1
 have Hr:∀b∈binds rs p,∀l∈own,∃c,gt b l=some c:=λb hb l hl=>(c9 hb).1 l ((mo l).mp hl)
 have HZ:∀l∈own.filter (λl=>decide (l∈known))++own.filter (λl=>decide (l∈later)&&!decide (l∈known)),l∈own:=λl hl=>(Zv.mp hl).elim (λh=>(YI.mp h).1) λh=>(YI.mp h).1
 have eg:=oN (bs:=binds rs p) (sh:=own.filter (λl=>decide (l∈known))) (ad:=own.filter (λl=>decide (l∈later)&&!decide (l∈known))) (by lia) (by lia) (by have:=kz rs p;lia) λb hb l hl=>Hr b hb l (HZ l hl)
 generalize Nh:own.filter (λl=>decide (l∈known))=sh at*
 generalize RX:own.filter (λl=>decide (l∈later)&&!decide (l∈known))=ad at*
 generalize My:known.filter (λl=>decide (l∈later))=kept at*
 have Pq:∀k,(cf (grp (binds rs p) sh ad) k).length<=rs.length:=λk=>Zr (xC sh ad k _) (kz rs p)
 have ee:=lY (found:=found) (sp:=aQ sh known) (kp:=aQ kept known) (g:=grp (binds rs p) sh ad) (by unfold aQ;simp;lia) (by unfold aQ;simp;lia) (λk=>⟨by have:=Pq k;lia,λa ha=>by
   obtain⟨b,_,_,e⟩:=(lX _ _ _ _ _).mp ha;rw[<-e];unfold vl;simp;lia⟩) hf λc hc i hi=>by
  obtain⟨φ,rfl,_⟩:=(J.mem c).mp hc;rw[ZI];have:∃l∈sh++kept,i=known.idxOf l:=by
   unfold aQ at hi;rw[<-Y0]at hi;obtain⟨l,h1,h2⟩:=ZL.mp hi;exact⟨l,h1,h2.symm⟩
  obtain⟨l,h1,rfl⟩:=this;exact YN ((Zv.mp h1).elim (HW l) (Hx l))
 have Ln:=cn HW (by lia) (by lia)
 have HM:=cn Hx (by lia) (by lia)
 refine⟨_,_,some (.lst (later.map D.str),false),some (.lst (own.map D.str),false),some (.lst (sh.map D.str),false),some (.lst (ad.map D.str),false),some (.lst (kept.map D.str),false),some (mV (gD (grp (binds rs p) sh ad)),false),J',by rw[Zy];lia,yp Pq,?_⟩
 have c1:bj (aH (aa 17) (λδ=>some true) sS (aw false [false,false,false,false,false,false,false,false,false,false,false,false,false,false,false,false,false,false] [a0,a1,some (.lst (wanted.map D.str),false),some (.lst (known.map D.str),false),some (.lst (found.map cD),false),some (.lst ((done++p::am).map (prD rs)),false),some (.int done.length,false),some (prD rs p,false),x8,x9,IP,IM,IL,IK,IA,Iz,Iy,Iw])) (am.map (prD rs))=some (am.map aJ):=bR λq hq=>by
  simp[aH,aw,sS,prD,at0]
 have l1:=aZ (ps:=am) (by lia) O5
 have l2:=aZ (ps:=[p]) (by simp) λq hq=>by rw[ZE.mp hq];exact O8
 have e0:ixO (some (prD rs p)) (some (.int 0))=some (aJ p):=by simp[prD,at0]
 have e1:ixO (some (prD rs p)) (some (.int 1))=some (.lst ((binds rs p).map bD)):=by simp[prD,at1]
 rw[NO]at l1;rw[Om,Z1,Y6]at l2;simp only[jx,rd_1,rd_0,listO_l,addI_s,partI_s,cutLO_s,oX,lstL_s,bindO_s];rw[aS (by simp;lia),c1]
 simp only[lstLim_s,consO_s,bindO_s,l1,frO_s];rw[catO_s _ _ (by simp;lia),<-Y0,Hz,setO_s _ _ _ (by simp)]
 simp only[seqO_n,List.set_cons_succ,List.set_cons_zero,rd_1,rd_0,e0,consO_s];rw[lstO_s _ (by simp)]
 simp only[consO_s,bindO_s,l2,frO_s];rw[setO_s _ _ _ (by simp)]
 simp only[seqO_n,List.set_cons_succ,List.set_cons_zero,rd_1,rd_0,lstL_s,bindO_s];rw[aS (by simp;lia),hY (P:=λl=>decide (l∈known)) λl hl=>by
  by_cases hm:l∈known<;>simp[aH,aw,wP,fg,hm]]
 rw[Nh,lstLim_s,setF_s _ _ _ (by simp)]
 simp only[seqO_n,List.set_cons_succ,List.set_cons_zero,frzE_1,frzE_0,xa,rd_1,rd_0,lstL_s,bindO_s];rw[aS (by simp;lia),hY (P:=λl=>decide (l∈later)&&!decide (l∈known)) λl hl=>by
  by_cases hm:l∈later<;>by_cases hn:l∈known<;>simp[aH,aw,xq,fg,C3,hm,hn]]
 rw[RX,lstLim_s,setF_s _ _ _ (by simp)]
 simp only[seqO_n,List.set_cons_succ,List.set_cons_zero,frzE_1,frzE_0,wy,rd_1,rd_0,lstL_s,bindO_s];rw[aS (by simp;lia),hY (P:=λl=>decide (l∈later)) λl hl=>by
  by_cases hm:l∈later<;>simp[aH,aw,wu,fg,hm]]
 rw[My,lstLim_s,setF_s _ _ _ (by simp)]
 simp only[seqO_n,List.set_cons_succ,List.set_cons_zero,frzE_1,frzE_0,wH,rd_1,rd_0,e1,consO_s,bindO_s,eg];have SJ:frO (some (mV (gD (grp (binds rs p) sh ad)),true))=some (mV (gD (grp (binds rs p) sh ad))):=rfl;rw[SJ,setO_s _ _ _ (by simp)]
 have NP:∀ns,frO (some (iE ns,true))=some (iE ns):=λ_=>rfl
 simp only[seqO_n,List.set_cons_succ,List.set_cons_zero,rd_1,rd_0,consO_s,bindO_s,Ln,HM,NP,ee,frO_s];rw[setO_s _ _ _ (by simp)]
 simp only[seqO_n,List.set_cons_succ,List.set_cons_zero,rd_1,rd_0];rw[catO_s _ _ (by simp;lia),setO_s _ _ _ (by simp),<-Y0]
 rfl
theorem dH:∀{xs ys:Z8 D},(∀x∈xs,∀y∈ys,(lt x y).isSome=true)->(bu lt xs ys).isSome=true
 |[],[],_=>rfl
 |[],_::_,_=>rfl
 |_::_,[],_=>rfl
 |x::xs,y::ys,h=>by
  unfold bu;split
  .exact dH λa ha b hb=>h a (Z2 _ ha) b (Z2 _ hb)
  .exact h x (ZX ..) y (ZX ..)
def bn:¬(Str.ofString "blank")=(Str.ofString "name"):=by decide +kernel
def nb:¬(Str.ofString "name")=(Str.ofString "blank"):=by decide +kernel
def uD(n:Nat)(c e:Ce):(ltD (n+1) (ceD c) (ceD e)).isSome=true:=by
 cases c<;>cases e<;>simp[ceD,ltD,bu,bn,nb]<;>split<;>rfl
def AQ(fs:Z8 (Z8 Ce)):eK (fs.map cD)=true:=by
 unfold eK;rw[ZO];intro x hx;obtain⟨r,_,rfl⟩:=ZL.mp hx;rw[ZH];refine⟨Eb r,?_⟩
 rw[ZO];intro y hy;obtain⟨q,_,rfl⟩:=ZL.mp hy;show(bu (ltD 14) (r.map ceD) (q.map ceD)).isSome=true;refine dH λx hx y hy=>?_
 obtain⟨c,_,rfl⟩:=ZL.mp hx;obtain⟨e,_,rfl⟩:=ZL.mp hy;exact uD 13 c e
def cK{α:Type}{f:α->D}:∀{l:Z8 D}{fs:Z8 α},l.Perm (fs.map f)->∃gs:Z8 α,gs.Perm fs/\l=gs.map f:=by
 intro l fs h;generalize hm:fs.map f=m at h
 induction h generalizing fs with
 |nil=>exact⟨[],by simp at hm;rw[hm],rfl⟩
 |cons x h ih=>
  cases fs with
  |nil=>simp at hm
  |cons a fs=>
   simp only[Z1,Yg]at hm;obtain⟨gs,p,e⟩:=ih hm.2;exact⟨a::gs,p.cons a,by rw[e,<-hm.1];rfl⟩
 |swap x y l=>
  cases fs with
  |nil=>simp at hm
  |cons a fs=>
   cases fs with
   |nil=>simp at hm
   |cons b fs=>
    simp only[Z1,Yg]at hm;exact⟨b::a::fs,List.Perm.swap ..,by rw[<-hm.1,<-hm.2.1,<-hm.2.2];rfl⟩
 |trans h1 h2 Na M_=>
  obtain⟨gs,p,e⟩:=M_ hm;obtain⟨So,p',e'⟩:=Na e.symm;exact⟨So,p'.trans p,e'⟩
def E9{fs:Z8 (Z8 Ce)}(nd:fs.Nodup){n:Nat}(hn:∀c∈fs,c.length=n):fs.length<2\/(fs.map cD).all (dP .tt)=true:=by
 by_cases h1:fs.length<2
 .exact .inl h1
 .have Pa:n≠0:=λz=>by
   subst z
   match fs,nd,hn,h1 with
   |[],_,_,h=>simp at h
   |[_],_,_,h=>simp at h
   |a::b::r,nd,hn,_=>
    have ha:=YL.mp (hn a (by simp))
    have hb:=YL.mp (hn b (by simp))
    simp[ha,hb]at nd
  refine .inr (ZO.mpr λd hd=>?_)
  obtain⟨c,hc,rfl⟩:=ZL.mp hd;have:=hn c hc;cases c with
  |nil=>exact absurd this.symm Pa
  |cons x c=>cases x<;>rfl
def A1{fs:Z8 (Z8 Ce)}(nd:fs.Nodup){n:Nat}(hn:∀c∈fs,c.length=n):fE .tt (some (.lst (fs.map cD)))=some (.lst (ck (fs.map cD))):=
 eT (AQ fs) (by simpa using E9 nd hn)
theorem jJ{rs:Z8 Row}(FV:rs.length<=400){wanted:Z8 Str}(hw:wanted.length<=100)(a0 a1 IA Iz Iy Iw:Z9 (D×Bool)){n:Nat}(hN:∀k,k<n->rs.length ^ k<=125):∀(am done:Z8 Pat)(known:Z8 Str)(found:Z8 (Z8 Ce))(x6 x7 x8 x9 IP IM IL IK:Z9 (D×Bool)),
  done.length+am.length=n->n<=4->(∀q∈am,q.2.length<=4)->Jn rs wanted done am known found->known.length<=4*done.length->found.length<=rs.length ^ done.length->∃FT FU y6 y7 y8 y9 Kt Ks Kr Kq,Jn rs wanted (done++am) [] FT FU/\FT.length<=16/\FU.length<=rs.length ^ n/\
  ao (λd δ=>ae ((aM (aj (aa 6) (aj (aa 7) (toNil)))) d δ) jx) (gg done.length (am.map (prD rs))) [a0,a1,some (.lst (wanted.map D.str),false),some (.lst (known.map D.str),false),some (.lst (found.map cD),false),some (.lst ((done++am).map (prD rs)),false),x6,x7,x8,x9,IP,IM,IL,IK,IA,Iz,Iy,Iw]=
   some (.next [a0,a1,some (.lst (wanted.map D.str),false),some (.lst (FT.map D.str),false),some (.lst (FU.map cD),false),some (.lst ((done++am).map (prD rs)),false),y6,y7,y8,y9,Kt,Ks,Kr,Kq,IA,Iz,Iy,Iw])
 |[],done,known,found,x6,x7,x8,x9,IP,IM,IL,IK,h1,h2,h3,J,hk,hf=>by
  simp at h1;exact⟨known,found,x6,x7,x8,x9,IP,IM,IL,IK,by simpa using J,by lia,by rw[<-h1];exact hf,rfl⟩
 |p::am,done,known,found,x6,x7,x8,x9,IP,IM,IL,IK,h1,h2,h3,J,hk,hf=>by
  have hd:done.length<n:=by simp at h1;lia
  have RQ:found.length<=125:=Zr hf (hN _ hd);obtain⟨k1,f1,z8,z9,L_,L9,L8,L7,J1,TF,RP,e⟩:=zL FV hw J (by lia) RQ h3 (by simp at h1⊢;lia) a0 a1 x8 x9 IP IM IL IK IA Iz Iy Iw
  obtain⟨k2,f2,y6,y7,y8,y9,Kt,Ks,Kr,Kq,J2,Nt,RO,e2⟩:=jJ FV hw a0 a1 IA Iz Iy Iw hN am (done++[p]) k1 f1 (some (.int done.length,false)) (some (prD rs p,false)) z8 z9 L_ L9 L8 L7 (by simp at h1⊢;lia) h2 (λq hq=>h3 q (Z2 _ hq)) J1 (by simp;lia)
   (by rw[Zy,List.length_singleton,Nat.pow_succ];exact Zr RP (Nat.mul_le_mul_right _ hf))
  refine⟨k2,f2,y6,y7,y8,y9,Kt,Ks,Kr,Kq,by simpa using J2,Nt,RO,?_⟩
  rw[Zh,List.singleton_append]at e2;rw[Z1];simp only[gg];unfold ao;have et:(ae ((aM (aj (aa 6) (aj (aa 7) (toNil)))) (.tup [.int (done.length:Int),prD rs p]) [a0,a1,some (.lst (wanted.map D.str),false),some (.lst (known.map D.str),false),some (.lst (found.map cD),false),some (.lst ((done++p::am).map (prD rs)),false),x6,x7,x8,x9,IP,IM,IL,IK,IA,Iz,Iy,Iw]) jx)=some (.next [a0,a1,some (.lst (wanted.map D.str),false),some (.lst (k1.map D.str),false),some (.lst (f1.map cD),false),some (.lst ((done++p::am).map (prD rs)),false),some (.int (done.length:Int),false),some (prD rs p,false),z8,z9,L_,L9,L8,L7,IA,Iz,Iy,Iw]):=by
   rw[<-e];simp only[toTup_s,toCons_s,toNil_s,toName_s,Zl,List.length_cons,List.length_nil,bindO_s,List.set_cons_succ,List.set_cons_zero,Nat.reduceAdd,Nat.reduceLT]
  rw[et];rw[Zy,List.length_singleton]at e2;exact e2
def qD{rs:Z8 Row}(FV:rs.length<=400){ps:Z8 Pat}(GH:ps.length<=4)(h4:∀p∈ps,p.2.length<=4)(hN:∀k,k<ps.length->rs.length ^ k<=125){wanted:Z8 Str}(hw:wanted.length<=100)(Q6:∀l∈wanted,l∈cU ps):∃fs:Z8 (Z8 Ce),fs.Nodup/\(∀x,x∈fs↔∃φ:Fit,x=wanted.map φ/\∀p∈ps,q5 rs φ p)/\
  HD [.lst (rs.map aC),.lst (ps.map aJ),.lst (wanted.map D.str),.lst [],.lst [.tup []]]=some (.lst (ck (fs.map cD)),true)/\fs.length<=50000:=by
 obtain⟨o,po,eo⟩:=fx rs (by lia) [] (by simp) h4 GH
 have ol:=po.length_eq;have ho:∀q∈o,q.2.length<=4:=λq hq=>h4 q (po.mem_iff.mp hq)
 obtain⟨known,found,y6,y7,y8,y9,Kt,Ks,Kr,Kq,J,hk,hf,e⟩:=jJ FV hw (some (.lst (rs.map aC),false)) (some (.lst (ps.map aJ),false)) none none none none (n:=ps.length) hN o [] [] [[]] none none none none none none none none (by simpa using ol) GH ho (we rs wanted o) (by simp) (by simp)
 simp only[List.nil_append]at J e;have OZ:∀l∈wanted,∃p∈o,l∈ans p.2:=λl hl=>by
  obtain⟨p,hp,h⟩:=hU.mp (Q6 l hl);exact⟨p,po.mem_iff.mpr hp,h⟩
 have O0:∀l∈wanted,l∈known:=λl hl=>J.has l (OZ l hl) (.inl hl)
 obtain⟨nd,mem⟩:=AW J OZ;have es:=A1 nd (n:=wanted.length) (λc hc=>by
  obtain⟨d,_,rfl⟩:=ZL.mp hc;unfold pk aQ;simp)
 have RS:found.length<=50000:=by
  refine Zr hf ?_
  rcases Nat.eq_zero_or_pos ps.length with z|z
  .rw[z];simp
  .obtain⟨m,hm⟩:∃m,ps.length=m+1:=⟨ps.length - 1,by lia⟩
   rw[hm,Nat.pow_succ];exact Zr (Nat.mul_le_mul (hN m (by lia)) FV) (by decide)
 refine⟨found.map λc=>pk c (aQ wanted known),nd,λx=>?_,?_⟩
 .rw[mem]
  constructor
  .rintro⟨φ,h1,h2⟩;exact⟨φ,h1,λp hp=>h2 p (po.mem_iff.mpr hp)⟩
  .rintro⟨φ,h1,h2⟩;exact⟨φ,h1,λp hp=>h2 p (po.mem_iff.mp hp)⟩
 .refine⟨?_,by simpa using RS⟩
  .rw[az (f:=HD) (δ:=[some (.lst (rs.map aC),false),some (.lst (ps.map aJ),false),some (.lst (wanted.map D.str),false),some (.lst [],false),some (.lst [.tup []],false),none,none,none,none,none,none,none,none,none,none,none,none,none]) rfl rfl rfl]
   simp only[Y6]at eo;simp only[Dv,rd_1,rd_0,consO_s,bindO_s,eo,frO_s];rw[setO_s _ _ _ (by simp)]
   simp only[seqO_n,List.set_cons_succ,List.set_cons_zero,rd_1,rd_0,vV,bindO_s];simp only[Z1,Y6,List.length_nil]at e;have ec:cD []=.tup []:=rfl;rw[ec]at e;rw[e];simp only[seqO_n,rd_1,rd_0,consO_s,bindO_s];rw[cn O0 (by lia) (by lia)]
   have NP:∀ns,frO (some (iE ns,true))=some (iE ns):=λ_=>rfl
   rw[NP,setO_s _ _ _ (by simp)]
   simp only[seqO_n,List.set_cons_succ,List.set_cons_zero,rd_1,rd_0,lstL_s,bindO_s];rw[aS (by simp;lia),bR (f:=cD) (h:=λc=>cD (pk c (aQ wanted known))) λc hc=>by
    obtain⟨φ,rfl,_⟩:=(J.mem c).mp hc;have:=fo (c:=known.map φ) (ps:=aQ wanted known) (λi hi=>by
     unfold aQ at hi;obtain⟨l,h1,rfl⟩:=ZL.mp hi;rw[ZI];exact YN (O0 l h1)) (by unfold aQ;simp;lia)
    simp[aH,aw,w9,this]]
   have em:found.map (λc=>cD (pk c (aQ wanted known)))=(found.map λc=>pk c (aQ wanted known)).map cD:=by simp
   rw[lstLim_s,em,es];rfl
end K11
namespace K11
open PySem L2 JP
variable[Lams]
def nk(b:Bi):Prop:=(b.map (·.1)).Nodup
def wl(h:nk b)(hg:gt b l=none):nk (b++[(l,c)]):=by
 unfold nk at*;rw[Y0,Yb];refine⟨h,by simp,λa ha d hd e=>?_⟩
 simp at hd;subst hd;exact qC hg (by rw[<-e];exact ha)
theorem cJ:∀{ts:Z8 Te}{cs:Z8 Ce}{b b':Bi},bnd ts cs b=some b'->nk b->nk b'/\b'.length<=b.length+ts.length/\∀l c,gt b' l=some c->gt b l=some c\/l∈ans ts
 |[],cs,b,b',h,hn=>by
  have:b=b':=by cases cs<;>(simp only[bnd,ZM]at h;exact h)
  subst this;exact⟨hn,by simp,λl c e=>.inl e⟩
 |.any l::ts,[],b,b',h,hn=>by simp only[bnd,ZM]at h;subst h;exact⟨hn,by simp,λl c e=>.inl e⟩
 |.nm l::ts,[],b,b',h,hn=>by simp only[bnd,ZM]at h;subst h;exact⟨hn,by simp,λl c e=>.inl e⟩
 |.any l::ts,c::cs,b,b',h,hn=>by
  simp only[bnd]at h;split at h
  .split at h
   .obtain⟨h1,h2,h3⟩:=cJ h hn
    refine⟨h1,by simp;lia,λl' c' e=>?_⟩
    rcases h3 l' c' e with q|q
    .exact .inl q
    .exact .inr (Z2 _ q)
   .trivial
  .rename_i eg
   obtain⟨h1,h2,h3⟩:=cJ h (wl hn eg);refine⟨h1,by simp at h2⊢;lia,λl' c' e=>?_⟩
   rcases h3 l' c' e with q|q
   .rw[j8]at q
    cases e':gt b l' with
    |some TV=>rw[e']at q;simp at q;exact .inl (by rw[q])
    |none=>
     rw[e',Option.none_or,da]at q;split at q
     .rename_i hh;subst hh;exact .inr (ZX ..)
     .simp[gt]at q
   .exact .inr (Z2 _ q)
 |.nm w::ts,c::cs,b,b',h,hn=>by
  simp only[bnd]at h;split at h
  .obtain⟨h1,h2,h3⟩:=cJ h hn
   exact⟨h1,by simp;lia,h3⟩
  .trivial
def an:(("any":Str)="name")=False:=by simp;decide +kernel
def prD2(q:Str×Ce):D:=.tup [.str q.1,ceD q.2]
def cV(b:Bi):D:=.lst (b.map prD2)
def iV(h:prD2 a=prD2 b):a=b:=by
 obtain⟨x,c⟩:=a;obtain⟨y,d⟩:=b;simp only[prD2,D.tup.injEq,Yg,D.str.injEq,and_true]at h;rw[h.1,eh h.2]
def gW(hn:nk b):(l,c)∈b↔gt b l=some c:=by
 induction b with
 |nil=>simp[gt]
 |cons q b ih=>
  obtain⟨k,e⟩:=q;have HJ:k∉b.map (·.1)/\nk b:=by unfold nk at*;rw[Z1,YJ]at hn;exact hn
  rw[da,ZZ]
  by_cases h:k=l
  .subst h
   rw[Z0 rfl];constructor
   .rintro(q|q)
    .cases q;rfl
    .exact absurd (XB (f:=(·.1)) q) HJ.1
   .intro q;cases q;exact .inl rfl
  .rw[ZY h,<-ih HJ.2]
   constructor
   .rintro(q|q)
    .cases q;exact absurd rfl h
    .exact q
   .exact .inr
def AM(q:Str×Ce):okD 16 (prD2 q)=true:=by obtain⟨l,c⟩:=q;cases c<;>rfl
def yJ(b:Bi):D.flats (b.map prD2)=true:=by
 rw[D.flats_all,ZO];intro d hd;obtain⟨q,_,rfl⟩:=ZL.mp hd;obtain⟨l,c⟩:=q;cases c<;>rfl
def Dt(l:Str)(c:Ce)(b:Bi):bX (some (.tup [.str l,ceD c])) (some (.lst (b.map prD2)))=some (!decide ((l,c)∈b)):=by
 unfold bX inO;simp only[aO];rw[Z0]
 .have:decide ((D.tup [.str l,ceD c])∈b.map prD2)=decide ((l,c)∈b):=Yl.mpr ⟨λh=>by
   obtain⟨v,hv,e⟩:=ZL.mp h;rw[iV (a:=v) (b:=(l,c)) e]at hv;exact hv,λh=>ZL.mpr ⟨_,h,rfl⟩⟩
  rw[this];rfl
 .rw[ZH,ZO]
  refine⟨AM (l,c),λx hx=>?_⟩
  obtain⟨v,_,rfl⟩:=ZL.mp hx;exact AM v
abbrev Kn:D->DEnv->Z9 DEnv:=aM (aj (aa 6) (aj (aa 7) (toNil)))
theorem pF(l:Str)(c:Ce)(a0 a1 a2 a3:Z9 (D×Bool)):∀(b:Bi)(x6 x7:Z9 (D×Bool)),
  (if ∃q∈b,q.1=l/\q.2≠c then eJ Kn eF (b.map prD2) [a0,a1,a2,a3,some (teD (.any l),false),some (ceD c,false),x6,x7]=some (.ret .non false)
  else ∃y6 y7,eJ Kn eF (b.map prD2) [a0,a1,a2,a3,some (teD (.any l),false),some (ceD c,false),x6,x7]=some (.next [a0,a1,a2,a3,some (teD (.any l),false),some (ceD c,false),y6,y7]))
 |[],x6,x7=>by rw[ZY (by simp)];exact⟨x6,x7,rfl⟩
 |q::b,x6,x7=>by
  have ih:=pF l c a0 a1 a2 a3 b (some (.str q.1,false)) (some (ceD q.2,false));have e1:ixO (some (teD (.any l))) (some (.int 1))=some (.str l):=by simp[teD,at1]
  have es:eJ Kn eF ((q::b).map prD2) [a0,a1,a2,a3,some (teD (.any l),false),some (ceD c,false),x6,x7]=
    if q.1=l/\q.2≠c then some (.ret .non false) else eJ Kn eF (b.map prD2) [a0,a1,a2,a3,some (teD (.any l),false),some (ceD c,false),some (.str q.1,false),some (ceD q.2,false)]:=by
   rw[Z1];simp only[eJ,prD2,toTup_s,toCons_s,toNil_s,toName_s,Zl,List.length_cons,List.length_nil,bindO_s,List.set_cons_succ,List.set_cons_zero,Nat.reduceAdd,Nat.reduceLT];simp only[eF,rd_1,rd_0,e1,bf,mx]
   by_cases h1:q.1=l
   .by_cases h2:q.2=c
    .simp[h1,h2]
    .simp[h1,h2]
   .simp[h1]
  rw[es]
  by_cases h:q.1=l/\q.2≠c
  .rw[Z0 h,Z0 ⟨q,.head _,h⟩]
  .rw[ZY h]
   by_cases h':∃q∈b,q.1=l/\q.2≠c
   .rw[Z0 h']at ih
    obtain⟨r,hr,e⟩:=h';rw[Z0 ⟨r,.tail _ hr,e⟩];exact ih
   .rw[ZY h']at ih
    rw[ZY λz=>by
     obtain⟨r,hr,e⟩:=z
     rcases ZZ.mp hr with rfl|hr
     .exact h e
     .exact h' ⟨r,hr,e⟩]
    exact ih
theorem lM:∀(ts:Z8 Te)(cs:Z8 Ce)(b:Bi)(a0 a1 a2 x4 x5 x6 x7:Z9 (D×Bool)),nk b->b.length+ts.length<1000->
  (match bnd ts cs b with
  |some b'=>∃y4 y5 y6 y7,ao (λd δ=>ae ((aM (aj (aa 4) (aj (aa 5) (toNil)))) d δ) jW) ((ts.zip cs).map λq=>.tup [teD q.1,ceD q.2]) [a0,a1,a2,some (cV b,true),x4,x5,x6,x7]=some (.next [a0,a1,a2,some (cV b',true),y4,y5,y6,y7])
  |none=>ao (λd δ=>ae ((aM (aj (aa 4) (aj (aa 5) (toNil)))) d δ) jW) ((ts.zip cs).map λq=>.tup [teD q.1,ceD q.2]) [a0,a1,a2,some (cV b,true),x4,x5,x6,x7]=some (.ret .non false))
 |[],cs,b,a0,a1,a2,x4,x5,x6,x7,_,_=>⟨x4,x5,x6,x7,by simp[ao]⟩
 |.any l::ts,[],b,a0,a1,a2,x4,x5,x6,x7,_,_=>⟨x4,x5,x6,x7,by simp[ao]⟩
 |.nm l::ts,[],b,a0,a1,a2,x4,x5,x6,x7,_,_=>⟨x4,x5,x6,x7,by simp[ao]⟩
 |.any l::ts,c::cs,b,a0,a1,a2,x4,x5,x6,x7,hn,hl=>by
  have ih:=λb y6 y7 hn hb=>lM ts cs b a0 a1 a2 (some (teD (.any l),false)) (some (ceD c,false)) y6 y7 hn hb
  rw[List.length_cons]at hl;have hs:=pF l c a0 a1 a2 (some (cV b,true)) b x6 x7;have e0:ixO (some (teD (.any l))) (some (.int 0))=some (.str "any"):=by simp[teD,at0]
  have e1:ixO (some (teD (.any l))) (some (.int 1))=some (.str l):=by simp[teD,at1]
  have se:∀δ,fW Kn eF (cr (some (cV b))) δ=eJ Kn eF (b.map prD2) δ:=λδ=>by
   unfold cV;rw[lstL_s];unfold fW;dsimp only;rw[Z0 (yJ b)]
  have ec:∀y:Bi,(if ∃q∈b,q.1=l/\q.2≠c then False else True)↔∀c',gt b l=some c'->c'=c:=λ_=>by
   split
   .rename_i h
    obtain⟨⟨k,e⟩,h1,rfl,h3⟩:=h;simp only[false_iff];exact λz=>h3 (z e ((gW hn).mp h1))
   .rename_i h
    simp only[true_iff];intro c' hc;exact Decidable.byContradiction λz=>h ⟨(l,c'),(gW hn).mpr hc,rfl,z⟩
  rw[List.zip_cons_cons,Z1];unfold ao;simp only[toTup_s,toCons_s,toNil_s,toName_s,Zl,List.length_cons,List.length_nil,bindO_s,List.set_cons_succ,List.set_cons_zero,Nat.reduceAdd,Nat.reduceLT];simp only[jW,rd_1,rd_0,rd_0o,e0,bf,an,XU,XW,andO_f,ifO_f,ifO_t,nextO_s,seqO_n,se,bnd]
  by_cases h:∃q∈b,q.1=l/\q.2≠c
  .rw[Z0 h]at hs
   obtain⟨⟨k,e⟩,h1,rfl,h3⟩:=h;rw[hs,(gW hn).mp h1];simp only[seqO_r];rw[ZY h3]
   trivial
  .rw[ZY h]at hs
   obtain⟨y6,y7,hs⟩:=hs;have hc:=(ec b).mp (by rw[ZY h];trivial)
   rw[hs];simp only[seqO_n,rd_1,rd_0,rd_0o,e1,consO_s];rw[tupO_s _ (by simp)]
   have Oo:cV b=.lst (b.map prD2):=rfl;rw[Oo,Dt];cases eg:gt b l with
   |some c'=>
    obtain rfl:=hc c' eg;simp only[(gW hn).mpr eg,XW,YT,ifO_f,Y2];have:=ih b y6 y7 hn (by lia)
    cases eb:bnd ts cs b with
    |some b'=>rw[eb]at this;exact this
    |none=>rw[eb]at this;exact this
   |none=>
    have nm:(l,c)∉b:=λz=>by rw[(gW hn).mp z]at eg;cases eg
    simp only[nm,XU,XZ,ifO_t];rw[eG (ds:=b.map prD2) _ rfl (by simp;lia)]
    have ea:(D.lst (b.map prD2++[.tup [.str l,ceD c]]))=cV (b++[(l,c)]):=by unfold cV;rw[Y0];rfl
    simp only[List.set_cons_succ,List.set_cons_zero,ea];have:=ih (b++[(l,c)]) y6 y7 (wl hn eg) (by simp;lia)
    cases eb:bnd ts cs (b++[(l,c)])with
    |some b'=>rw[eb]at this;exact this
    |none=>rw[eb]at this;exact this
 |.nm w::ts,c::cs,b,a0,a1,a2,x4,x5,x6,x7,hn,hl=>by
  have ih:=lM ts cs b a0 a1 a2 (some (teD (.nm w),false)) (some (ceD c,false)) x6 x7 hn (by simp at hl;lia)
  rw[List.zip_cons_cons,Z1];unfold ao;have e0:ixO (some (teD (.nm w))) (some (.int 0))=some (.str "name"):=by simp[teD,at0]
  simp only[toTup_s,toCons_s,toNil_s,toName_s,Zl,List.length_cons,List.length_nil,bindO_s,List.set_cons_succ,List.set_cons_zero,Nat.reduceAdd,Nat.reduceLT];simp only[jW,rd_1,rd_0,e0,bf,na,XU,XW,andO_t,wR,bnd]
  by_cases hc:Ce.nm w=c
  .simp only[hc,XW,YT,ifO_f,nextO_s,seqO_n,rd_1,rd_0,e0,bf,na,XU,Y2]
   exact ih
  .rw[ZY hc]
   simp only[hc,XU,XZ,ifO_t,retO_s,seqO_r]
def jnB(b:Bi)(ts:Z8 Te)(cs:Z8 Ce):Z9 Bi:=if ts.length=cs.length then bnd ts cs b else none
def Av:Z9 Bi->D×Bool|some b=>(cV b,true)|none=>(.non,false)
def iB(hn:nk b)(hb:b.length<=100)(ts:Z8 Te)(cs:Z8 Ce)(h4:ts.length<=4):Ib [cV b,.tup (ts.map teD),.tup (cs.map ceD)]=some (Av (jnB b ts cs)):=by
 rw[az (f:=Ib) (δ:=[some (cV b,false),some (.tup (ts.map teD),false),some (.tup (cs.map ceD),false),none,none,none,none,none]) rfl rfl rfl];have n2:neO (f9 (some (.tup (ts.map teD)))) (f9 (some (.tup (cs.map ceD))))=some (!decide (ts.length=cs.length)):=by
  simp only[lenL_t,ZI];unfold neO;rw[eqO_int];show some (!decide ((ts.length:Int)=cs.length))=_;congr 2;exact Yl.mpr (by lia)
 simp only[CJ,rd_1,rd_0,n2];unfold jnB
 by_cases c2:ts.length=cs.length
 .rw[Z0 c2]
  have el:iz (some (cV b))=some (cV b):=rfl;simp only[c2,XW,YT,ifO_f,nextO_s,seqO_n,rd_0,el];rw[setF_s _ _ _ (by simp)]
  have:=lM ts cs b (some (cV b,false)) (some (.tup (ts.map teD),false)) (some (.tup (cs.map ceD),false)) none none none none hn (by lia)
  simp only[seqO_n,List.set_cons_succ,List.set_cons_zero,rd_1,rd_0,vG,Ae,Y2,tupL_s,bindO_s,fP];cases eb:bnd ts cs b with
  |some b'=>
   rw[eb]at this;obtain⟨y4,y5,y6,y7,e⟩:=this;rw[e];rfl
  |none=>
   rw[eb]at this;simp only at this;rw[this];rfl
 .rw[ZY c2]
  simp only[c2,XU,XZ,ifO_t,retO_s,seqO_r];rfl
end K11
namespace K11
open PySem L2 JP
variable[Lams]
def dm(o:Z9 Bi):D:=(Av o).1
def b9(found:Z8 Bi)(p:Pat)(r:Row):Z8 (Z9 Bi):=if r.1=p.1 then found.map λb=>jnB b p.2 r.2 else[]
def b8(rs:Z8 Row)(found:Z8 Bi)(p:Pat):Z8 Bi:=rs.flatMap λr=>if r.1=p.1 then found.filterMap λb=>jnB b p.2 r.2 else[]
def LF(rs:Z8 Row)(ps:Z8 Pat):Z8 Bi:=ps.foldl (b8 rs) [[]]
def jU(found:Z8 Bi)(p:Pat)(r:Row):(b9 found p r).length<=found.length:=by unfold b9;split<;>simp
theorem pH(h4:p.2.length<=4)(r:Row)(a0 a1 a2:Z9 (D×Bool)):∀(found:Z8 Bi)(more:Z8 (Z9 Bi))(x6:Z9 (D×Bool)),(∀b∈found,nk b/\b.length<=100)->more.length+found.length<=200000->∃y6,
  ao (λd δ=>ae ((aa 6) d δ) sH) (found.map cV) [a0,a1,a2,some (aJ p,false),some (.lst (more.map dm),true),some (aC r,false),x6,none]=some (.next [a0,a1,a2,some (aJ p,false),some (.lst ((more++b9 found p r).map dm),true),some (aC r,false),y6,none])
 |[],more,x6,_,_=>⟨x6,by unfold b9;split<;>simp[ao]⟩
 |b::found,more,x6,hb,hl=>by
  have p0:ixO (some (aJ p)) (some (.int 0))=some (.str p.1):=by simp[aJ,at0]
  have p1:ixO (some (aJ p)) (some (.int 1))=some (.tup (p.2.map teD)):=by simp[aJ,at1]
  have r0:ixO (some (aC r)) (some (.int 0))=some (.str r.1):=by simp[aC,at0]
  have r1:ixO (some (aC r)) (some (.int 1))=some (.tup (r.2.map ceD)):=by simp[aC,at1]
  have PB:=hb b (.head _);simp at hl;rw[Z1];unfold ao;rw[toName_s _ _ _ (by simp)]
  simp only[bindO_s,List.set_cons_succ,List.set_cons_zero,sH,rd_1,rd_0,p0,p1,r0,r1,bf]
  by_cases c:r.1=p.1
  .obtain⟨y6,e⟩:=pH h4 r a0 a1 a2 found (more++[jnB b p.2 r.2]) (some (cV b,false)) (λb' h'=>hb b' (.tail _ h')) (by simp;lia)
   refine⟨y6,?_⟩
   simp only[c,XW,ifO_t,consO_s,bindO_s,iB PB.1 PB.2 p.2 r.2 h4];have es:shO (some (Av (jnB b p.2 r.2)))=some (dm (jnB b p.2 r.2)):=rfl;rw[es,eG (ds:=more.map dm) _ rfl (by simp;lia)]
   simp only[List.set_cons_succ,List.set_cons_zero];have em:more.map dm++[dm (jnB b p.2 r.2)]=(more++[jnB b p.2 r.2]).map dm:=by simp
   rw[em,e];have er:more++[jnB b p.2 r.2]++b9 found p r=more++b9 (b::found) p r:=by unfold b9;rw[Z0 c,Z0 c];simp
   rw[er]
  .obtain⟨y6,e⟩:=pH h4 r a0 a1 a2 found more (some (cV b,false)) (λb' h'=>hb b' (.tail _ h')) (by lia)
   refine⟨y6,?_⟩
   simp only[c,XU,ifO_f,nextO_s];rw[e];have er:b9 found p r=b9 (b::found) p r:=by unfold b9;rw[ZY c,ZY c]
   rw[er]
theorem mw(h4:p.2.length<=4)(a0 a1:Z9 (D×Bool))(hb:∀b∈found,nk b/\b.length<=100):∀(rs:Z8 Row)(more:Z8 (Z9 Bi))(x5 x6:Z9 (D×Bool)),more.length+rs.length*found.length<=100000->found.length<=100000->∃y5 y6,
  ao (λd δ=>ae ((aa 5) d δ) sg) (rs.map aC) [a0,a1,some (.lst (found.map cV),false),some (aJ p,false),some (.lst (more.map dm),true),x5,x6,none]=some (.next [a0,a1,some (.lst (found.map cV),false),some (aJ p,false),some (.lst ((more++rs.flatMap (b9 found p)).map dm),true),y5,y6,none])
 |[],more,x5,x6,_,_=>⟨x5,x6,by simp[ao]⟩
 |r::rs,more,x5,x6,hl,hf=>by
  have hm:=jU found p r;simp only[List.length_cons,Nat.succ_mul]at hl;obtain⟨z6,e⟩:=pH h4 r a0 a1 (some (.lst (found.map cV),false)) found more x6 hb (by lia)
  obtain⟨y5,y6,e2⟩:=mw h4 a0 a1 hb rs (more++b9 found p r) (some (aC r,false)) z6 (by simp;lia) hf
  refine⟨y5,y6,?_⟩
  rw[Z1];unfold ao;rw[toName_s _ _ _ (by simp)]
  simp only[bindO_s,List.set_cons_succ,List.set_cons_zero,sg,rd_1,rd_0,lstL_s];rw[e];simp only;rw[e2];simp
def sJ(rs:Z8 Row)(found:Z8 Bi)(p:Pat):(rs.flatMap (b9 found p)).filterMap id=b8 rs found p:=by
 unfold b8;rw[List.filterMap_flatMap];congr 1
 funext r
 unfold b9;split
 .rw[List.filterMap_map];rfl
 .rfl
def je(rs:Z8 Row)(found:Z8 Bi)(p:Pat):(b8 rs found p).length<=rs.length*found.length:=by
 unfold b8
 induction rs with
 |nil=>simp
 |cons r rs ih=>
  rw[List.flatMap_cons,Zy,List.length_cons,Nat.succ_mul];have:(if r.1=p.1 then found.filterMap λb=>jnB b p.2 r.2 else[]).length<=found.length:=by
   split
   .exact W3 ..
   .simp
  lia
def AO(o:Z9 Bi):pT (some (dm o))=some (!o.isSome):=by cases o<;>simp[pT,dm,Av,cV]
theorem ln:∀l:Z8 (Z9 Bi),(l.filter (·.isSome)).map dm=(l.filterMap id).map cV
 |[]=>rfl
 |none::l=>by simpa using ln l
 |some b::l=>by simpa[dm,Av]using ln l
def qa(h4:p.2.length<=4)(FV:rs.length<=400)(hb:∀b∈found,nk b/\b.length<=100)(hf:found.length<=125)(a1 x3 x4 x5 x6:Z9 (D×Bool)):∃y4 y5 y6,
  ae ((aa 3) (aJ p) [some (.lst (rs.map aC),false),a1,some (.lst (found.map cV),false),x3,x4,x5,x6,none]) md=some (.next [some (.lst (rs.map aC),false),a1,some (.lst ((b8 rs found p).map cV),false),some (aJ p,false),y4,y5,y6,none]):=by
 have hm:rs.length*found.length<=400*125:=Nat.mul_le_mul FV hf;obtain⟨y5,y6,e⟩:=mw h4 (some (.lst (rs.map aC),false)) a1 hb rs [] x5 x6 (by simp;lia) (by lia)
 have ml:(rs.flatMap (b9 found p)).length<=50000:=by
  have:∀rs:Z8 Row,(rs.flatMap (b9 found p)).length<=rs.length*found.length:=λrs=>by
   induction rs with
   |nil=>simp
   |cons r rs ih=>rw[List.flatMap_cons,Zy,List.length_cons,Nat.succ_mul];have:=jU found p r;lia
  exact Zr (this rs) (by lia)
 refine⟨some (.lst ((rs.flatMap (b9 found p)).map dm),false),y5,y6,?_⟩
 rw[toName_s _ _ _ (by simp)]
 simp only[bindO_s,List.set_cons_succ,List.set_cons_zero,md];rw[lstO_s [] (by simp),setF_s _ _ _ (by simp)]
 simp only[seqO_n,List.set_cons_succ,List.set_cons_zero,rd_1,rd_0,lstL_s,bindO_s];simp only[Y6,List.nil_append]at e;rw[e];simp only[seqO_n,frzE_1,frzE_0,xv,rd_1,rd_0,lstL_s,bindO_s];rw[aS (by rw[ZI,lim_eq];lia),eS (f:=dm) (h:=dm) (p:=λo=>o.isSome) λo _=>by
  unfold aH;have em:(aw false [false,false,false,false,false,false,false,false] [some (.lst (rs.map aC),false),a1,some (.lst (found.map cV),false),some (aJ p,false),some (.lst ((rs.flatMap (b9 found p)).map dm),false),y5,y6,none])=[none,none,none,none,none,none,none,none]:=by simp[aw]
  rw[em,toName_s _ _ _ (by simp)]
  simp only[bindO_s,List.set_cons_succ,List.set_cons_zero,rd_1,rd_0,AO,notO_s,Bool.not_not,wM];cases o<;>rfl]
 rw[ln,sJ,lstLim_s,setF_s _ _ _ (by simp)]
 simp only[seqO_n,List.set_cons_succ,List.set_cons_zero,xw,frzE_1,frzE_0,nextO_s]
def m4(h:jnB b ts cs=some b')(hn:nk b):nk b'/\b'.length<=b.length+ts.length/\∀l c,gt b' l=some c->gt b l=some c\/l∈ans ts:=by
 unfold jnB at h;split at h
 .exact cJ h hn
 .cases h
def dC:b'∈b8 rs found p↔∃r∈rs,r.1=p.1/\∃b∈found,jnB b p.2 r.2=some b':=by
 unfold b8;rw[List.mem_flatMap];constructor
 .rintro⟨r,hr,h⟩
  split at h
  .rename_i c;obtain⟨b,hb,e⟩:=Yj.mp h;exact⟨r,hr,c,b,hb,e⟩
  .cases h
 .rintro⟨r,hr,c,b,hb,e⟩
  exact⟨r,hr,by rw[Z0 c];exact Yj.mpr ⟨b,hb,e⟩⟩
theorem jS(FV:rs.length<=400)(hN:∀k,k<n->rs.length ^ k<=125)(a1:Z9 (D×Bool)):∀(ps:Z8 Pat)(k:Nat)(found:Z8 Bi)(x3 x4 x5 x6:Z9 (D×Bool)),k+ps.length=n->n<=4->(∀p∈ps,p.2.length<=4)->(∀b∈found,nk b/\b.length<=4*k)->found.length<=rs.length ^ k->∃y3 y4 y5 y6,
  ao (λd δ=>ae ((aa 3) d δ) md) (ps.map aJ) [some (.lst (rs.map aC),false),a1,some (.lst (found.map cV),false),x3,x4,x5,x6,none]=some (.next [some (.lst (rs.map aC),false),a1,some (.lst ((ps.foldl (b8 rs) found).map cV),false),y3,y4,y5,y6,none])
 |[],k,found,x3,x4,x5,x6,_,_,_,_,_=>⟨x3,x4,x5,x6,by simp[ao]⟩
 |p::ps,k,found,x3,x4,x5,x6,h1,h2,h4,hb,hf=>by
  simp at h1;have hp:=h4 p (.head _);obtain⟨z4,z5,z6,e⟩:=qa hp FV (λb h=>⟨(hb b h).1,by have:=(hb b h).2;lia⟩) (Zr hf (hN k (by lia))) a1 x3 x4 x5 x6
  obtain⟨y3,y4,y5,y6,e2⟩:=jS FV hN a1 ps (k+1) (b8 rs found p) (some (aJ p,false)) z4 z5 z6 (by lia) h2 (λq hq=>h4 q (.tail _ hq)) (λb' h'=>by
   obtain⟨r,_,_,b,JJ,hj⟩:=dC.mp h';obtain⟨q1,q2,_⟩:=m4 hj (hb b JJ).1;have:=(hb b JJ).2;exact⟨q1,by lia⟩) (Zr (je rs found p) (by rw[Nat.pow_succ,Nat.mul_comm];exact Nat.mul_le_mul_right _ hf))
  refine⟨y3,y4,y5,y6,?_⟩
  rw[Z1];unfold ao;rw[e];simp only[List.foldl_cons];exact e2
end K11
namespace K11
open PySem L2 JP
variable[Lams]
structure Fd (rs:List Row)(done:List Pat)(found:List Bi):Prop where
 nd:∀b∈found,nk b
 has:∀b∈found,∀l∈cU done,∃c,gt b l=some c
 lts:∀b∈found,∀l c,gt b l=some c->l∈cU done
 snd:∀b∈found,∀φ:Fit,(∀l∈cU done,gt b l=some (φ l))->∀p∈done,q5 rs φ p
 cpl:∀φ:Fit,(∀p∈done,q5 rs φ p)->∃b∈found,∀l c,gt b l=some c->φ l=c
def dL(ps:Z8 Pat)(p:Pat)(l:Str):l∈cU (ps++[p])↔l∈cU ps\/l∈ans p.2:=by simp[cU]
def yM(F:Fd rs done found)(p:Pat):Fd rs (done++[p]) (b8 rs found p):=by
 have key:∀b'∈b8 rs found p,∃r∈rs,r.1=p.1/\∃b∈found,p.2.length=r.2.length/\bnd p.2 r.2 b=some b':=λb' h=>by
  obtain⟨r,hr,c,b,hb,e⟩:=dC.mp h;unfold jnB at e;split at e
  .rename_i hl;exact⟨r,hr,c,b,hb,hl,e⟩
  .cases e
 refine⟨λb' h=>?_,λb' h l hl=>?_,λb' h l c hc=>?_,λb' h φ F3 q hq=>?_,λφ F3=>?_⟩
 .obtain⟨r,_,_,b,hb,_,e⟩:=key b' h
  exact(cJ e (F.nd b hb)).1
 .obtain⟨r,_,_,b,hb,F4,e⟩:=key b' h
  obtain⟨s1,s2,_⟩:=bM F4 e
  rcases(dL done p l).mp hl with q|q
  .obtain⟨c,hc⟩:=F.has b hb l q;exact⟨c,s1 l c hc⟩
  .exact s2 l q
 .obtain⟨r,_,_,b,hb,_,e⟩:=key b' h
  rcases(cJ e (F.nd b hb)).2.2 l c hc with z|z
  .exact(dL done p l).mpr (.inl (F.lts b hb l c z))
  .exact(dL done p l).mpr (.inr z)
 .obtain⟨r,hr,c,b,hb,F4,e⟩:=key b' h
  obtain⟨s1,_,s3⟩:=bM F4 e
  rcases Zv.mp hq with hq|hq
  .refine F.snd b hb φ (λl hl=>?_) q hq
   obtain⟨d,hd⟩:=F.has b hb l hl;have:=F3 l ((dL done p l).mpr (.inl hl));rw[s1 l d hd]at this;rw[hd];exact this
  .rw[ZE.mp hq]
   exact⟨r,hr,c,s3 φ λl hl=>F3 l ((dL done p l).mpr (.inr hl))⟩
 .obtain⟨b,hb,hg⟩:=F.cpl φ λq hq=>F3 q (YZ _ hq)
  obtain⟨r,hr,h1,h2⟩:=F3 p (ZG _ (.head _));obtain⟨b',e,Gj⟩:=dk (φ:=φ) p.2 b λl c h=>hg l c h
  refine⟨b',dC.mpr ⟨r,hr,h1,b,hb,?_⟩,Gj⟩
  unfold jnB;rw[Z0 (by rw[h2];simp),h2];exact e
theorem wg(rs:Z8 Row):∀(ps done:Z8 Pat)(found:Z8 Bi),Fd rs done found->Fd rs (done++ps) (ps.foldl (b8 rs) found)
 |[],done,found,F=>by simpa using F
 |p::ps,done,found,F=>by
  have:=wg rs ps (done++[p]) (b8 rs found p) (yM F p);rwa[Zh]at this
def BB(rs:Z8 Row)(ps:Z8 Pat):Fd rs ps (LF rs ps):=
 wg rs ps [] [[]] ⟨λb hb=>by rw[ZE.mp hb];exact YX,λb _ l hl=>by simp[cU]at hl,λb hb l c h=>by rw[ZE.mp hb]at h;simp[gt]at h,λ_ _ _ _ p hp=>(nomatch hp),λφ _=>⟨[],.head _,λl c h=>by simp[gt]at h⟩⟩
def Aw(b:Bi)(ls:Z8 Str):(vl b ls).length=ls.length:=by unfold vl;simp
def xsF(rs:Z8 Row)(ps:Z8 Pat)(ls:Z8 Str):Z8 (Z8 Ce):=(LF rs ps).map λb=>vl b ls
def xJ(rs:Z8 Row)(ps:Z8 Pat)(hl:∀l∈ls,l∈cU ps)(x:Z8 Ce):x∈xsF rs ps ls↔∃φ:Fit,x=ls.map φ/\∀p∈ps,q5 rs φ p:=by
 have F:=BB rs ps;unfold xsF;rw[ZL];constructor
 .rintro⟨b,hb,rfl⟩
  refine⟨λl=>(gt b l).getD default,rfl,F.snd b hb _ λl F4=>?_⟩
  obtain⟨c,hc⟩:=F.has b hb l F4;rw[hc];rfl
 .rintro⟨φ,rfl,F3⟩
  obtain⟨b,hb,hg⟩:=F.cpl φ F3;refine⟨b,hb,?_⟩
  unfold vl;refine YB λl F4=>?_
  obtain⟨c,hc⟩:=F.has b hb l (hl l F4);rw[hc,hg l c hc];rfl
def uL(ps:Z8 Pat):Z8 Str:=dS (uS (cU ps))
def CI(ps:Z8 Pat):(uL ps).Nodup:=(be _).nodup_iff.mpr (dy _)
def tq(ps:Z8 Pat)(x:Str):x∈uL ps↔x∈cU ps:=(be _).mem_iff.trans (gG x _)
def sF(ps:Z8 Pat):(uL ps).length<=(cU ps).length:=(be (uS (cU ps))).length_eq▸qp _
def A6(ps:Z8 Pat):(uL ps).Pairwise λa b=>leT a b=true:=Xv cj dl _
def fL(us:Z8 Str)(c:Z8 Ce):D:=.lst ((us.zip c).map prD2)
def yw(x y:Ce):ltD 13 (ceD x) (ceD y)=ltD 14 (ceD x) (ceD y):=by
 cases x<;>cases y<;>simp[ceD,ltD,bu,bn,nb]
theorem tu:∀(us:Z8 Str)(c d:Z8 Ce),c.length=us.length->d.length=us.length->bu (ltD 14) ((us.zip c).map prD2) ((us.zip d).map prD2)=bu (ltD 14) (c.map ceD) (d.map ceD)
 |[],c,d,h1,h2=>by rw[YL.mp h1,YL.mp h2];rfl
 |u::us,[],d,h1,h2=>by simp at h1
 |u::us,x::c,[],h1,h2=>by simp at h2
 |u::us,x::c,y::d,h1,h2=>by
  simp only[List.zip_cons_cons,Z1,bu]
  by_cases e:x=y
  .subst e
   rw[Z0 rfl,Z0 rfl];exact tu us c d (by simpa using h1) (by simpa using h2)
  .rw[ZY λz=>e (congrArg Prod.snd (iV z)),ZY λz=>e (eh z)]
   show bu (ltD 13) [.str u,ceD x] [.str u,ceD y]=_;simp only[bu];rw[Z0 trivial,ZY λz=>e (eh z)]
   exact yw x y
def Bx(h1:c.length=us.length)(h2:d.length=us.length):leD (fL us c) (fL us d)↔leD (cD c) (cD d):=by
 have e:ltD 15 (fL us d) (fL us c)=ltD 15 (cD d) (cD c):=tu us d c h2 h1;unfold leD;rw[e]
def xi(q:Str×Ce)(n:Nat):okD (n+3) (prD2 q)=true:=by obtain⟨l,c⟩:=q;cases c<;>simp[prD2,ceD,okD]
def Aq(us:Z8 Str)(c:Z8 Ce)(n:Nat):okD (n+4) (fL us c)=true:=by
 simp only[fL,okD,List.all_map,ZO];exact λq _=>xi q n
def vJ{us:Z8 Str}{xs:Z8 (Z8 Ce)}(h:∀c∈xs,c.length=us.length):eK (xs.map (fL us))=true:=by
 unfold eK;rw[ZO];intro x hx;obtain⟨c,hc,rfl⟩:=ZL.mp hx;rw[ZH];refine⟨Aq us c 11,?_⟩
 rw[ZO];intro y hy;obtain⟨d,hd,rfl⟩:=ZL.mp hy;have e:ltD 15 (fL us c) (fL us d)=ltD 15 (cD c) (cD d):=tu us c d (h c hc) (h d hd);rw[e];show(bu (ltD 14) (c.map ceD) (d.map ceD)).isSome=true;refine dH λx hx y hy=>?_
 obtain⟨c,_,rfl⟩:=ZL.mp hx;obtain⟨e,_,rfl⟩:=ZL.mp hy;exact uD 13 c e
def wJ(h1:c.length=us.length)(h2:d.length=us.length)(h:fL us c=fL us d):c=d:=by
 have e:=kP (f:=prD2) (λ_ _=>iV) (D.lst.inj h)
 have:=congrArg (List.map Prod.snd) e;rwa[List.map_snd_zip (by lia),List.map_snd_zip (by lia)]at this
theorem qT:∀us:Z8 Str,us.zip (us.map f)=us.map λl=>(l,f l)
 |[]=>rfl
 |u::us=>by rw[Z1,List.zip_cons_cons,qT us];rfl
def rY(b:Bi):eK (b.map prD2)=true:=by
 unfold eK;rw[ZO];intro x hx;obtain⟨⟨l,c⟩,_,rfl⟩:=ZL.mp hx;rw[ZH];refine⟨xi (l,c) 12,?_⟩
 rw[ZO];intro y hy;obtain⟨⟨k,d⟩,_,rfl⟩:=ZL.mp hy;show(bu (ltD 14) [.str l,ceD c] [.str k,ceD d]).isSome=true;simp only[bu];split
 .split
  .rfl
  .exact uD 13 c d
 .rfl
def BH{us:Z8 Str}(hn:nk b)(hu:us.Nodup)(hs:us.Pairwise λa b=>leT a b=true)(hm:∀l,l∈us↔∃c,gt b l=some c):ck (b.map prD2)=(us.zip (vl b us)).map prD2:=by
 have ez:us.zip (vl b us)=us.map λl=>(l,(gt b l).getD default):=qT us
 have p:(us.zip (vl b us)).Perm b:=by
  rw[ez];refine(XH ?_ ?_).mpr λq=>?_
  .refine List.Pairwise.map _ (λa c h z=>h (congrArg Prod.fst z)) hu
  .exact List.Pairwise.of_map (·.1) (λa c h z=>h (congrArg Prod.fst z)) hn
  .obtain⟨l,c⟩:=q
   rw[gW hn,ZL];constructor
   .rintro⟨k,hk,e⟩
    cases e;obtain⟨c,hc⟩:=(hm l).mp hk;rw[hc];rfl
   .intro h
    exact⟨l,(hm l).mpr ⟨c,h⟩,by rw[h];rfl⟩
 refine cL (rY b) _ _ (λy hy=>(bd _).mem_iff.mp hy) ((bd _).trans (p.map prD2).symm) (bC (rY b)) ?_
 rw[ez,Xe];refine List.Pairwise.map _ (R:=λa c=>leT a c=true/\a≠c) (λa c h=>?_) (List.Pairwise.and hs hu)
 show bu (ltD 14) [.str c,_] [.str a,_]≠some true;simp only[bu];rw[ZY λz=>h.2 (D.str.inj z).symm]
 have:=h.1;unfold leT at this;simp only[ltD];intro z;rw[Z7 z]at this
 trivial
def cW(acc:Z8 (Z8 Ce))(x:Z8 Ce):Z8 (Z8 Ce):=if acc.getLast?=some x then acc else acc++[x]
theorem yN{le:Z8 Ce->Z8 Ce->Prop}{S:Z8 (Z8 Ce)}(as:∀a∈S,∀b∈S,le a b->le b a->a=b):∀ss acc:Z8 (Z8 Ce),(∀a∈acc++ss,a∈S)->(acc++ss).Pairwise le->acc.Nodup->
  (ss.foldl cW acc).Nodup/\(ss.foldl cW acc).Pairwise le/\∀x,x∈ss.foldl cW acc↔x∈acc\/x∈ss
 |[],acc,h1,h2,h3=>⟨h3,by simpa using h2,λx=>by simp⟩
 |x::ss,acc,h1,h2,h3=>by
  rw[List.foldl_cons]
  by_cases hl:acc.getLast?=some x
  .rw[show cW acc x=acc from Z0 hl]
   have hx:x∈acc:=List.mem_of_getLast? hl;obtain⟨q1,q2,q3⟩:=yN as ss acc (λa ha=>h1 a (by rcases Zv.mp ha with z|z<;>simp[z])) (List.Pairwise.sublist (List.Sublist.append_left (List.sublist_cons_self ..) acc) h2) h3
   refine⟨q1,q2,λy=>?_⟩
   rw[q3,ZZ];constructor
   .rintro(z|z)
    .exact .inl z
    .exact .inr (.inr z)
   .rintro(z|rfl|z)
    .exact .inl z
    .exact .inl hx
    .exact .inr z
  .rw[show cW acc x=acc++[x] from ZY hl]
   have hx:x∉acc:=λhx=>by
    obtain⟨p2,_,p3⟩:=Yx.mp h2;have ne:acc≠[]:=List.ne_nil_of_mem hx;obtain⟨l,z,rfl⟩:∃l z,acc=l++[z]:=⟨acc.dropLast,acc.getLast ne,(List.dropLast_concat_getLast ne).symm⟩;have hz:z≠x:=λe=>hl (by rw[e];simp)
    rcases Zv.mp hx with hx|hx
    .have a1:=(Yx.mp p2).2.2 x hx z (by simp)
     have a2:=p3 z (by simp) x (by simp)
     exact hz (as z (h1 z (by simp)) x (h1 x (by simp)) a2 a1)
    .exact hz (ZE.mp hx).symm
   obtain⟨q1,q2,q3⟩:=yN as ss (acc++[x]) (λa ha=>h1 a (by simpa using ha)) (by simpa using h2) (Yb.mpr ⟨h3,by simp,λa ha b hb e=>hx (by rw[<-ZE.mp hb,<-e];exact ha)⟩)
   refine⟨q1,q2,λy=>?_⟩
   rw[q3,Zv,ZE,ZZ];constructor
   .rintro((z|z)|z)
    .exact .inl z
    .exact .inr (.inl z)
    .exact .inr (.inr z)
   .rintro(z|z|z)
    .exact .inl (.inl z)
    .exact .inl (.inr z)
    .exact .inr z
def Dh{rs:Z8 Row}{ps:Z8 Pat}:∀{found:Z8 Bi}{k:Nat},(∀p∈ps,p.2.length<=4)->(∀b∈found,nk b/\b.length<=4*k)->(∀b∈ps.foldl (b8 rs) found,nk b/\b.length<=4*(k+ps.length))/\(ps.foldl (b8 rs) found).length<=rs.length ^ ps.length*found.length:=by
 induction ps with
 |nil=>intro found k _ h;simpa using h
 |cons p ps ih=>
  intro found k h4 hb;have hp:=h4 p (.head _);obtain⟨q1,q2⟩:=ih (found:=b8 rs found p) (k:=k+1) (λq hq=>h4 q (.tail _ hq)) λb' h'=>by
   obtain⟨r,_,_,b,JJ,hj⟩:=dC.mp h';obtain⟨q1,q2,_⟩:=m4 hj (hb b JJ).1;have:=(hb b JJ).2;exact⟨q1,by lia⟩
  refine⟨λb h=>⟨(q1 b h).1,by have:=(q1 b h).2;simp;lia⟩,?_⟩
  rw[List.foldl_cons,List.length_cons,Nat.pow_succ,Nat.mul_assoc];exact Zr q2 (Nat.mul_le_mul_left _ (je rs found p))
end K11
namespace K11
open PySem L2 JP
variable[Lams]
def jp(r:Row)(n:Nat):okD (n+3) (aC r)=true:=by
 simp only[aC,okD,List.all_cons,List.all_nil,Xl,X7,List.all_map,ZO];intro c _;cases c<;>simp[ceD,okD]
def zm(rs:Z8 Row):okD 16 (.lst (rs.map aC))=true:=by
 simp only[okD,List.all_map,ZO];intro r _;exact jp r 12
open Classical in
def b7(c j:Int):Int:=((c*(2*j+3)+j)%2147483629*((c*(2*j+3)+j)%2147483629)+1)*48271%2147483629
def aN(c j:Int):0<=b7 c j:=by unfold b7;lia
def Dr(c j:Int):b7 c j<2147483629:=by unfold b7;lia
def ba(c j:Int)(h0: -1000<=j)(h1:j<=1000):p_ [.int c,.int j]=some (.int (b7 c j),false):=by
 rw[az (f:=p_) (δ:=[some (.int c,false),some (.int j,false),none]) rfl rfl rfl];have e1:(0:Int)<=(c*(2*j+3)+j)%2147483629:=by lia
 have e2:(c*(2*j+3)+j)%2147483629<2147483629:=by lia
 simp[CN,mulI_s c (2*j+3) (by lia),mulI_s ((c*(2*j+3)+j)%2147483629) ((c*(2*j+3)+j)%2147483629) (by lia),b7]
def dY:Str.length "abcdefghijklmnopqrstuvwxyz"=26:=by decide +kernel
def vp(c:Int):∃ws:Z8 Str,ws.length=6/\Ii [.int c]=some (.lst (ws.map .str),true):=by
 have m1:=aN c 1;generalize hsz:2+b7 c 1%6=sz;have Gp:2<=sz:=by lia
 have Tv:sz<=7:=by lia
 obtain⟨g,eg,gl,gp⟩:=cH (ds:=g8 0 sz.toNat) (P:=λ_ y=>∃x:Str,x.length=1/\y=.str x)
  (h:=aH (aa 6) (λδ=>some true) q8 [some (.int c,false),some (.str "abcdefghijklmnopqrstuvwxyz",false),none,none,none,none,none,none]) λd hd=>by
   obtain⟨i,hi,rfl⟩:=cF hd;have h0:=aN c (2+(0+(i:Int)));obtain⟨x,hx,ex⟩:=fm "abcdefghijklmnopqrstuvwxyz" (b7 c (2+(0+(i:Int)))%26) (by rw[dY];decide) (by lia) (by rw[dY];lia)
   refine⟨.str x,?_,x,hx,rfl⟩
   simp[aH,q8];rw[ba c _ (by lia) (by lia),shO_s,modI_s _ _ (by decide)]
   have e0:(0:Int)+(i:Int)=i:=by lia
   rw[e0]at ex;rw[ex]
 obtain⟨ss,rfl,K8⟩:=qv (Q:=λx=>x.length=1) gl gp λd y hz=>by obtain⟨x,hx,e⟩:=hz;exact⟨x,e,hx⟩
 rw[aU,ZI]at gl;have hj:=xV "" ss (by rw[mK K8,show Str.length ""=0 by decide +kernel];lia)
 have RC:(Txt.join "" ss).length=ss.length:=by rw[qA,mK K8]
 generalize Txt.join "" ss=Gs at hj RC;have m9:=aN c 9;generalize HL:b7 c 9%sz=at';have RY:0<=at':=by rw[<-HL];exact Int.emod_nonneg _ (by lia)
 have PF:at'<sz:=by rw[<-HL];exact Int.emod_lt_of_pos _ (by lia)
 have P9:Gs.length<=7:=by lia
 obtain⟨h_,el,fs,KH,x6,x7,rfl⟩:=fz (body:=λd δ=>ae ((aa 6) d δ) sY) (λpre δ=>∃fs:Z8 Str,fs.length=pre.length/\∃x6 x7,
   δ=[some (.int c,false),some (.str "abcdefghijklmnopqrstuvwxyz",false),some (.int sz,false),some (.str Gs,false),some (.int at',false),some (.lst (fs.map D.str),true),x6,x7]) (g8 0 4) []
  [some (.int c,false),some (.str "abcdefghijklmnopqrstuvwxyz",false),some (.int sz,false),some (.str Gs,false),some (.int at',false),some (.lst [],true),none,none] ⟨[],rfl,none,none,rfl⟩
  λp d q δ JA hz=>by
   obtain⟨fs,RM,x6,x7,e⟩:=hz;have hd:d∈g8 0 4:=by
    rw[List.nil_append]at JA;rw[<-JA];simp
   have hp:p.length<4:=by
    have:=congrArg List.length JA;rw[List.nil_append,aU]at this;simp at this;lia
   obtain⟨i,hi,rfl⟩:=cF hd;subst e;obtain⟨y,hy,ey⟩:=fm Gs at' (by have:lim=1000000:=rfl;lia) RY (by lia)
   obtain⟨z,hz,ez⟩:=fm "abcdefghijklmnopqrstuvwxyz" ((Txt.find "abcdefghijklmnopqrstuvwxyz" y+7*(0+(i:Int)))%26) (by rw[dY];decide) (by lia) (by rw[dY];lia)
   have c1:=i0 Gs none (some at');have c2:=i0 Gs (some (at'+1)) none;have FZ:lim=1000000:=rfl;refine⟨_,.inl ?_,fs++[tZ Gs none (some at')++z++tZ Gs (some (at'+1)) none],by simp[RM],some (.int (0+(i:Int)),false),some (.str z,false),rfl⟩
   have e0:(0:Int)+(i:Int)=i:=by lia
   rw[e0]at ez⊢;simp[sY,ey,ez];rw[cutSO_s _ _ _ (by lia),cutSO_s _ _ _ (by lia),addS_s _ _ (by lia),addS_s _ _ (by rw[Str.length_append];lia)]
   rw[eG (ds:=fs.map D.str) _ (by rfl) (by rw[ZI];lia)]
   simp
 rw[List.nil_append,aU]at KH;have Tq:=aN c 10;obtain⟨z,hz,ez⟩:=fm "abcdefghijklmnopqrstuvwxyz" (b7 c 10%26) (by rw[dY];decide) (by lia) (by rw[dY];lia)
 refine⟨fs++[Gs++z,tZ Gs none (some (sz - 1))],by simp[KH],?_⟩
 rw[az (f:=Ii) (δ:=[some (.int c,false),none,none,none,none,none,none,none]) rfl rfl rfl];simp[CK];rw[ba c 1 (by lia) (by lia),shO_s,modI_s _ _ (by decide),addI_s,hsz]
 simp;rw[gx sz (by lia),bindO_s,aS (by rw[aU,lim_eq];lia)]
 simp[aw];rw[eg,lstLim_s,hj];simp;rw[ba c 9 (by lia) (by lia),shO_s,modI_s _ _ (by lia),HL]
 simp;rw[gx 4 (by lia),bindO_s]
 rw[show(4:Int).toNat=4 from rfl]
 rw[el];simp[wq];have FZ:lim=1000000:=rfl;rw[ba c 10 (by lia) (by lia),shO_s,modI_s _ _ (by decide),ez,addS_s _ _ (by lia),cutSO_s _ _ _ (by lia)]
 simp;rw[catO_s _ _ (by simp;lia)]
 simp
def qG:Str.length "ABCDEFGHIJKLMNOPQRSTUVWXYZ"=26:=by decide +kernel
def nZ(c:Int):∃ws:Z8 Str,ws.length=4/\Ig [.int c]=some (.lst (ws.map .str),true):=by
 have m1:=aN c 13;have m2:=aN c 14;obtain⟨st,GG,_,Sz⟩:=nG (xs:=[D.int 1,.int 3,.int 5,.int 7,.int 9,.int 11]) (i:=b7 c 14%6) (by lia) (by simp;lia)
 obtain⟨sp,K_,Tw,rfl⟩:∃sp:Int,0<=sp/\sp<=11/\st=.int sp:=by
  simp at GG
  rcases GG with rfl|rfl|rfl|rfl|rfl|rfl<;>exact⟨_,by lia,by lia,rfl⟩
 obtain⟨g,eg,gl,gp⟩:=cH (ds:=g8 0 4) (P:=λ_ y=>∃x:Str,x.length=1/\y=.str x)
  (h:=aH (aa 4) (λδ=>some true) ro [none,some (.str "ABCDEFGHIJKLMNOPQRSTUVWXYZ",false),some (.int (b7 c 13%26),false),some (.int sp,false),none]) λd hd=>by
   obtain⟨i,hi,rfl⟩:=cF hd;obtain⟨x,hx,ex⟩:=fm "ABCDEFGHIJKLMNOPQRSTUVWXYZ" ((b7 c 13%26+sp*(0+(i:Int)))%26) (by rw[qG];decide) (by lia) (by rw[qG];lia)
   refine⟨.str x,?_,x,hx,rfl⟩
   have e0:(0:Int)+(i:Int)=i:=by lia
   rw[e0]at ex;simp[aH,ro];rw[mulI_s _ _ (by lia),addI_s,modI_s _ _ (by decide),ex]
 obtain⟨ss,rfl,K8⟩:=qv (Q:=λx=>x.length=1) gl gp λd y hz=>by obtain⟨x,hx,e⟩:=hz;exact⟨x,e,hx⟩
 rw[aU,ZI]at gl;refine⟨ss,by lia,?_⟩
 rw[az (f:=Ig) (δ:=[some (.int c,false),none,none,none,none]) rfl rfl rfl];have FZ:lim=1000000:=rfl;simp[CU,FZ];rw[ba c 13 (by lia) (by lia),shO_s,modI_s _ _ (by decide)]
 simp;rw[ba c 14 (by lia) (by lia),shO_s,modI_s _ _ (by decide)]
 simp;rw[Sz];simp;rw[gx 4 (by lia),bindO_s,aS (by rw[aU];decide)]
 simp[aw];rw[eg];simp
theorem mf(x:D):∀l:Z8 D,(l6 x l).length=l.length+1
 |[]=>rfl
 |y::ys=>by
  unfold l6;split
  .simp[mf x ys]
  .simp
theorem mN:∀{l:Z8 D},z∈l6 x l->z=x\/z∈l
 |[],h=>by simpa[l6]using h
 |y::ys,h=>by
  unfold l6 at h;split at h
  .rcases ZZ.mp h with h|h
   .exact .inr (ZZ.mpr (.inl h))
   .rcases mN h with h|h
    .exact .inl h
    .exact .inr (Z2 _ h)
  .rcases ZZ.mp h with h|h
   .exact .inl h
   .exact .inr h
theorem jG:∀l:Z8 D,(ck l).length=l.length
 |[]=>rfl
 |x::l=>by show(l6 x (ck l)).length=_;rw[mf,jG l];rfl
theorem kn:∀{l:Z8 D},z∈ck l->z∈l
 |[],h=>h
 |x::l,h=>by
  rcases mN (show z∈l6 x (ck l) from h)with h|h
  .exact ZZ.mpr (.inl h)
  .exact Z2 _ (kn h)
def m3{ws:Z8 Str}{i:Int}(h0:0<=i)(h1:i<ws.length):∃w,atI (ws.map D.str) i=some (.str w):=by
 obtain⟨v,hv,_,e⟩:=nG (xs:=ws.map D.str) h0 (by simpa using h1)
 obtain⟨w,_,rfl⟩:=ZL.mp hv;exact⟨w,e⟩
def lm{α:Type}{F:α->D}{P:D->D->Prop}{ds g:Z8 D}{Q:α->Prop}(hl:g.length=ds.length)(h:∀(i:Nat) d,ds[i]?=some d->∃y,g[i]?=some y/\P d y)(hP:∀d y,P d y->∃x,y=F x/\Q x):∃ss:Z8 α,g=ss.map F/\∀x∈ss,Q x:=by
 have hy:∀y∈g,∃x,y=F x/\Q x:=λy hy=>by
  obtain⟨i,hi,e⟩:=WG.mp hy;obtain⟨z,ez,p⟩:=h i (ds[i]'(by lia)) (by simp[show i<ds.length by lia])
  rw[Y5 hi]at ez
  obtain rfl:=Z7 ez;rw[<-e];exact hP _ _ p
 clear h hl
 induction g with
 |nil=>exact⟨[],rfl,by simp⟩
 |cons y g ih=>
  obtain⟨x,e,q⟩:=hy y (ZX ..);obtain⟨ss,e2,q2⟩:=ih λz hz=>hy z (Z2 _ hz)
  refine⟨x::ss,by rw[e,e2];rfl,λz hz=>?_⟩
  rcases ZZ.mp hz with hz|hz
  .rw[hz];exact q
  .exact q2 z hz
def Cc(ns:Z8 Int)(l u:Z9 Int):∃cs:Z8 Int,pX (ns.map D.int) l u=cs.map D.int/\cs.length<=ns.length:=by
 unfold pX;refine⟨_,by rw[<-List.map_drop,<-List.map_take],?_⟩
 simp;lia
def BG(n:Nat)(r q:Row):(ltD (n+3) (aC r) (aC q)).isSome=true:=by
 show(bu (ltD (n+2)) [.str r.1,.tup (r.2.map ceD)] [.str q.1,.tup (q.2.map ceD)]).isSome=true;unfold bu;split
 .unfold bu
  split
  .rfl
  .show(bu (ltD (n+1)) (r.2.map ceD) (q.2.map ceD)).isSome=true
   refine dH λx hx y hy=>?_
   obtain⟨c,_,rfl⟩:=ZL.mp hx;obtain⟨e,_,rfl⟩:=ZL.mp hy;exact uD n c e
 .rfl
def uj(rs:Z8 Row):eK (rs.map aC)=true:=by
 unfold eK;rw[ZO];intro x hx;obtain⟨r,_,rfl⟩:=ZL.mp hx;rw[ZH];refine⟨jp r 12,?_⟩
 rw[ZO];intro y hy;obtain⟨q,_,rfl⟩:=ZL.mp hy;exact BG 12 r q
def xZ(rs:Z8 Row):(rs.map aC).all (dP .ts)=true:=by
 rw[ZO];intro x hx;obtain⟨r,_,rfl⟩:=ZL.mp hx;rfl
def ui{α:Type}{F:α->D}{P:α->Prop}(h:∀x∈l,∃a,P a/\x=F a):∃as:Z8 α,l=as.map F/\∀a∈as,P a:=by
 induction l with
 |nil=>exact⟨[],rfl,by simp⟩
 |cons x l ih=>
  obtain⟨a,pa,e⟩:=h x (ZX ..);obtain⟨as,e2,QJ⟩:=ih λy hy=>h y (Z2 _ hy)
  refine⟨a::as,by rw[e,e2];rfl,λb hb=>?_⟩
  rcases ZZ.mp hb with rfl|hb
  .exact pa
  .exact QJ b hb
def uW(rs:Z8 Row)(h:rs.length<64):∃fs:Z8 Row,(∀r∈fs,r∈rs)/\fs.length<=rs.length/\Ie [.lst (rs.map aC)]=some (.lst (fs.map aC),true):=by
 obtain⟨ss,es,K8⟩:=ui (F:=aC) (l:=ck (rs.map aC)) (P:=λr=>r∈rs) λx hx=>by
  obtain⟨r,hr,e⟩:=ZL.mp (kn hx);exact⟨r,hr,e.symm⟩
 have K9:ss.length=rs.length:=by have:=congrArg List.length es;rw[jG]at this;simpa using this.symm
 have loop:∀(qs fs:Z8 Row)(x2:Z9 (D×Bool)),fs.length+qs.length<64->∃(JQ:Z8 Row)(y2:Z9 (D×Bool)),(∀r∈JQ,r∈fs\/r∈qs)/\JQ.length<=fs.length+qs.length/\
   ao (λd δ=>ae ((aa 2) d δ) nM) (qs.map aC) [some (.lst (rs.map aC),false),some (.lst (fs.map aC),true),x2]=some (.next [some (.lst (rs.map aC),false),some (.lst (JQ.map aC),true),y2]):=by
  intro qs
  induction qs with
  |nil=>intro fs x2 _;exact⟨fs,x2,λr hr=>.inl hr,by simp,rfl⟩
  |cons q qs ih=>
   intro fs x2 hl;rw[List.length_cons]at hl;have Hr:inO (some (aC q)) (some (.lst (fs.map aC)))=some (decide (aC q∈fs.map aC)):=by
    unfold inO;simp only[aO];rw[Z0];rw[jp q 13,X7,ZO];intro x hx;obtain⟨r,_,rfl⟩:=ZL.mp hx;exact jp r 13
   by_cases hm:aC q∈fs.map aC
   .obtain⟨JQ,y2,h1,h2,h3⟩:=ih fs (some (aC q,false)) (by lia)
    refine⟨JQ,y2,λr hr=>(h1 r hr).imp id λz=>Z2 _ z,by rw[List.length_cons];lia,?_⟩
    rw[Z1,<-h3]
    conv=>lhs;unfold ao
    simp[nM,bX,Hr,hm]
   .obtain⟨JQ,y2,h1,h2,h3⟩:=ih (fs++[q]) (some (aC q,false)) (by simp;lia)
    refine⟨JQ,y2,λr hr=>?_,by simp at h2⊢;lia,?_⟩
    .rcases h1 r hr with z|z
     .rcases Zv.mp z with z|z
      .exact .inl z
      .rw[ZE.mp z];exact .inr (ZX ..)
     .exact .inr (Z2 _ z)
    .rw[Z1,<-h3]
     conv=>lhs;unfold ao
     have JD:decide (aC q∈fs.map aC)=false:=ZC hm;simp only[nM,bX,toName_s,rd_1,rd_0,rd_0o,List.length_cons,List.length_nil,List.set_cons_succ,List.set_cons_zero,bindO_s,XT,Nat.reduceAdd,Nat.reduceLT,Hr,JD,notO_s,XZ,ifO_t,AT,rdOwn_0,rdOwn_1];rw[Z0 (by rw[ZI,lim_eq];lia)]
     simp
 obtain⟨fs,y2,h1,h2,h3⟩:=loop ss [] none (by simp;lia)
 refine⟨fs,λr hr=>?_,by simp at h2;lia,?_⟩
 .rcases h1 r hr with z|z
  .simp at z
  .exact K8 r z
 .rw[az (f:=Ie) (δ:=[some (.lst (rs.map aC),false),none,none]) rfl rfl rfl]
  have Rf:fE .ts (some (.lst (rs.map aC)))=some (.lst (ss.map aC)):=by
   rw[eT (uj rs) (.inr (xZ rs)),es]
  rw[Y6]at h3;simp[DD,Rf];rw[h3];simp
def aE(ws:Z8 Str)(st sp:Int):D:=.tup [.lst (ws.map .str),.int st,.int sp]
def uO(c:Int):∃ws st sp,ws.length=6/\0<=st/\st<400000/\0<=sp/\sp<=50000/\Ih [.int c]=some (aE ws st sp,false):=by
 obtain⟨ws,hw,ew⟩:=vp c;have m1:=aN c 11;have m2:=aN c 12;refine⟨ws,b7 c 11%400000,1+b7 c 12%50000,hw,by lia,by lia,by lia,by lia,?_⟩
 rw[az (f:=Ih) (δ:=[some (.int c,false)]) rfl rfl rfl];simp[Dc,ew];rw[ba c 11 (by lia) (by lia),ba c 12 (by lia) (by lia)]
 simp[aE]
def qx{a b m:Int}(h0:0<=a)(h1:a<m)(hb:1<=b):0<=a / b/\a / b<m:=⟨Int.ediv_nonneg h0 (by lia),Int.lt_of_le_of_lt (Int.ediv_le_self b h0) h1⟩
def xK{ws:Z8 Str}{st sp:Int}(hw:ws.length=6)(h0:0<=st)(h1:st<400000)(h2:0<=sp)(h3:sp<=50000)(c:Int)(hc:0<=c):∃e:Ce,HB [aE ws st sp,.int c]=some (ceD e,false):=by
 have d1:=qx (a:=c / 2%6) (b:=1+c / 12%3) (m:=6) (by lia) (by lia) (by lia)
 have d2:=qx (a:=c / 2%12) (b:=1+c / 24%4) (m:=12) (by lia) (by lia) (by lia)
 obtain⟨w,ew⟩:=m3 (ws:=ws) (i:=c / 2%6 / (1+c / 12%3)) d1.1 (by have:=d1.2;lia)
 by_cases hm:c%2=0
 .refine⟨.bk (st+sp*(c / 2%12 / (1+c / 24%4))),?_⟩
  rw[az (f:=HB) (δ:=[some (aE ws st sp,false),some (.int c,false),none,none,none]) rfl rfl rfl];simp[Cf,aE,hm];rw[divI_s _ _ (by lia),mulI_s sp _ (by lia)]
  simp[ceD]
 .refine⟨.nm w,?_⟩
  rw[az (f:=HB) (δ:=[some (aE ws st sp,false),some (.int c,false),none,none,none]) rfl rfl rfl];simp[Cf,aE,hm];rw[divI_s _ _ (by lia),ixO_l,ew]
  simp[ceD]
def wC{ws:Z8 Str}{st sp:Int}(hw:ws.length=6)(h0:0<=st)(h1:st<400000)(h2:0<=sp)(h3:sp<=50000)(c:Int):∃r:Row,r.2.length<=3/\G6 [aE ws st sp,.int c]=some (aC r,false):=by
 have m1:=aN c 1;have m2:=aN c 2;have m7:=aN c 7;generalize hsz:1+b7 c 1%3=sz;have d1:=qx (a:=b7 c 2%3) (b:=1+b7 c 7%2) (m:=3) (by lia) (by lia) (by lia)
 obtain⟨t,et⟩:=m3 (ws:=ws) (i:=b7 c 2%3 / (1+b7 c 7%2)) d1.1 (by have:=d1.2;lia)
 have Sx:atI [D.lst (ws.map .str),.int st,.int sp] 0=some (.lst (ws.map .str)):=rfl;obtain⟨g,eg,gl,gp⟩:=cH (ds:=g8 0 sz.toNat) (P:=λ_ y=>∃e:Ce,True/\y=ceD e)
  (h:=aH (aa 4) (λδ=>some true) sI [some (aE ws st sp,false),some (.int c,false),none,none,none]) λd hd=>by
   obtain⟨i,hi,rfl⟩:=cF hd;obtain⟨e,ee⟩:=xK hw h0 h1 h2 h3 (b7 c (3+(0+(i:Int)))) (aN _ _);refine⟨ceD e,?_,e,trivial,rfl⟩
   have e0:(0:Int)+(i:Int)=i:=by lia
   rw[e0]at ee⊢;simp[aH,sI];rw[ba c _ (by lia) (by lia)]
   simp[ee]
 obtain⟨cs,rfl,NA⟩:=lm (F:=ceD) (Q:=λ_=>True) gl gp λd y hz=>by obtain⟨e,a,b⟩:=hz;exact⟨e,b,a⟩
 rw[aU,ZI]at gl;refine⟨(t,cs),by simp only;lia,?_⟩
 rw[az (f:=G6) (δ:=[some (aE ws st sp,false),some (.int c,false),none,none,none]) rfl rfl rfl];simp[CO];rw[ba c 1 (by lia) (by lia),shO_s,modI_s _ _ (by decide),addI_s,hsz]
 simp;rw[gx sz (by lia),bindO_s,aS (by rw[aU,lim_eq];lia)]
 simp[aw];rw[eg];simp[wA,aE,Sx];rw[ba c 2 (by lia) (by lia),ba c 7 (by lia) (by lia),shO_s,shO_s,modI_s _ _ (by decide),modI_s _ _ (by decide),addI_s,divI_s _ _ (by lia),ixO_l,et]
 simp[aC]
end K11
namespace K11
open PySem L2 JP
variable[Lams]
def D5(a b:D)(i j:Nat)(δ:DEnv)(hi:i<δ.length)(hj:j<δ.length):tY (some (.tup [a,b])) (aM (aj (aa i) (aj (aa j) (toNil)))) δ=some (.next ((δ.set i (some (a,false))).set j (some (b,false)))):=by
 unfold tY;simp only[toTup_s,toCons_s,toNil_s,toName_s i a δ hi,bindO_s];rw[toName_s j b _ (by simpa using hj)]
 rfl
def DJ:¬(Str.ofString "blank")=(Str.ofString "any"):=by decide +kernel
def Cl(c:Ce)(d:Int)(l:Str):Te:=match c with|.bk _=>.any l|.nm w=>if d%2=1 then .any l else .nm w
def Wd(w:D):Prop:=∃ws st sp,ws.length=6/\0<=st/\st<400000/\0<=sp/\sp<=50000/\w=aE ws st sp
def vw{ls:Z8 Str}(hl:ls.length=4)(c:Int)(a0 a2 a4:Z9 (D×Bool))(cs:Z8 Ce)(NA:cs.length<=4):∃ts:Z8 Te,ts.length=cs.length/\∃x7 x8,
  ao (λd δ=>ae ((aa 7) d δ) mW) (g8 0 cs.length) [a0,some (.lst (ls.map .str),false),a2,some (.int c,false),a4,some (.tup (cs.map ceD),false),some (.lst [],true),none,none]=
   some (.next [a0,some (.lst (ls.map .str),false),a2,some (.int c,false),a4,some (.tup (cs.map ceD),false),some (.lst (ts.map teD),true),x7,x8]):=by
 obtain⟨h_,el,ts,hpl,x7,x8,rfl⟩:=fz (body:=λd δ=>ae ((aa 7) d δ) mW) (λpre δ=>∃ts:Z8 Te,ts.length=pre.length/\∃x7 x8,
   δ=[a0,some (.lst (ls.map .str),false),a2,some (.int c,false),a4,some (.tup (cs.map ceD),false),some (.lst (ts.map teD),true),x7,x8]) (g8 0 cs.length) []
  [a0,some (.lst (ls.map .str),false),a2,some (.int c,false),a4,some (.tup (cs.map ceD),false),some (.lst [],true),none,none] ⟨[],rfl,none,none,rfl⟩
  λp d q δ JA hz=>by
   obtain⟨ts,GH,x7,x8,e⟩:=hz;have hd:d∈g8 0 cs.length:=by
    rw[List.nil_append]at JA;rw[<-JA];simp
   have hp:p.length<4:=by
    have:=congrArg List.length JA;rw[List.nil_append,aU]at this;simp at this;lia
   obtain⟨i,hi,rfl⟩:=cF hd;subst e;have e0:(0:Int)+(i:Int)=i:=by lia
   rw[e0];have h0:=aN c (17+(i:Int));obtain⟨l,el⟩:=m3 (ws:=ls) (i:=b7 c (17+(i:Int)) / 2%4) (by lia) (by lia)
   have hc:atI (cs.map ceD) (i:Int)=some (ceD cs[i]):=qQ (by lia) (by simp[hi])
   have hm:=ba c (17+(i:Int)) (by lia) (by lia)
   have ap:∀(t:Te)(x7 x8:Z9 (D×Bool)),gw 6 (some (teD t)) [a0,some (.lst (ls.map .str),false),a2,some (.int c,false),a4,some (.tup (cs.map ceD),false),some (.lst (ts.map teD),true),x7,x8]=some (.next [a0,some (.lst (ls.map .str),false),a2,some (.int c,false),a4,some (.tup (cs.map ceD),false),some (.lst ((ts++[t]).map teD),true),x7,x8]):=λt x7 x8=>by
    rw[eG (ds:=ts.map teD) _ (by rfl) (by rw[ZI,lim_eq];lia)]
    simp
   refine⟨_,.inl ?_,ts++[Cl cs[i] (b7 c (17+(i:Int))) l],by simp[GH],some (.int i,false),some (.int (b7 c (17+(i:Int))),false),rfl⟩
   simp only[toName_s,List.length_cons,List.length_nil,Nat.reduceAdd,Nat.reduceLT,bindO_s,List.set_cons_succ,List.set_cons_zero,mW,rd_1,rd_0,addI_s,consO_s,hm,shO_s,setO_s,seqO_n,ixO_t,hc,ixO_l,modI_s _ _ (show(0:Int)<2 by lia),modI_s _ _ (show(0:Int)<4 by lia),divI_s _ _ (show(0:Int)<2/\(2:Int)<1073741824 by lia),el]
   rw[tupO_s _ (by simp)]
   have ta:(.tup [.str "any",.str l]:D)=teD (.any l):=rfl;rw[ta,ap];cases TL:cs[i]with
   |bk n=>
    have:eqO (ixO (some (ceD (.bk n))) (some (.int 0))) (some (.str "blank"))=some true:=by simp[ceD,at0,bf]
    rw[this];simp[Cl]
   |nm w=>
    have:eqO (ixO (some (ceD (.nm w))) (some (.int 0))) (some (.str "blank"))=some false:=by simp[ceD,at0,bf,nb]
    rw[this];have tn:ceD (.nm w)=teD (.nm w):=rfl;rw[tn,ap]
    by_cases hm:b7 c (17+(i:Int))%2=1
    .simp[hm,Cl]
    .simp[hm,Cl]
 rw[List.nil_append,aU]at hpl;exact⟨ts,hpl,x7,x8,el⟩
def nX(hw:Wd w){ls:Z8 Str}(hl:ls.length=4){rs:Z8 Row}(FV:rs.length<=63)(h4:∀r∈rs,r.2.length<=3)(c:Int):∃p:Pat,p.2.length<=4/\Ic [w,.lst (ls.map .str),.lst (rs.map aC),.int c]=some (aJ p,false):=by
 obtain⟨ws,st,sp,w1,w2,w3,w4,w5,rfl⟩:=hw;obtain⟨r0,O6,SF⟩:=wC w1 w2 w3 w4 w5 c;have Tp:=aN c 15;have To:=aN c 16;have Tn:=aN c 21;have Tj:=aN c 22;have dg:∃r:Row,r.2.length<=3/\ifO (pD (neO (some (.lst (rs.map aC))) (ce (some []))) (cI gGt (cS (shO (ae (af (some (.int c)) (af (some (.int 15)) (some []))) p_)) (some (.int 8))) (some (.int 0)))) (tY (ixO (some (.lst (rs.map aC))) (cS (shO (ae (af (some (.int c)) (af (some (.int 16)) (some []))) p_)) (f9 (some (.lst (rs.map aC)))))) (aM (aj (aa 4) (aj (aa 5) (toNil)))) [some (aE ws st sp,false),some (.lst (ls.map .str),false),some (.lst (rs.map aC),false),some (.int c,false),some (.str r0.1,false),some (.tup (r0.2.map ceD),false),none,none,none]) (nextO [some (aE ws st sp,false),some (.lst (ls.map .str),false),some (.lst (rs.map aC),false),some (.int c,false),some (.str r0.1,false),some (.tup (r0.2.map ceD),false),none,none,none])=
   some (.next [some (aE ws st sp,false),some (.lst (ls.map .str),false),some (.lst (rs.map aC),false),some (.int c,false),some (.str r.1,false),some (.tup (r.2.map ceD),false),none,none,none]):=by
  have en:neO (some (.lst (rs.map aC))) (ce (some []))=some (!decide (rs=[])):=by
   rw[lstO_s _ (by simp),vh _ _ (by unfold ok2;rw[zm];rfl)]
   congr 2;exact Yl.mpr (by simp)
  rw[en]
  by_cases hn:rs=[]
  .refine⟨r0,O6,?_⟩
   rw[Zt hn];rfl
  .simp only[ZC hn,XZ,andO_t,consO_s,bindO_s,ba c 15 (by lia) (by lia),shO_s,modI_s _ _ (show(0:Int)<8 by lia),cI_s]
   cases gGt (b7 c 15%8) 0 with
   |false=>exact⟨r0,O6,rfl⟩
   |true=>
    have S8:0<rs.length:=List.length_pos_iff.mpr hn;have a0:(0:Int)<=b7 c 16%(rs.length:Int):=Int.emod_nonneg _ (by lia)
    have a1:b7 c 16%(rs.length:Int)<rs.length:=Int.emod_lt_of_pos _ (by lia)
    obtain⟨v,hv,_,ev⟩:=nG (xs:=rs.map aC) a0 (by simpa using a1)
    obtain⟨r,hr,rfl⟩:=ZL.mp hv;refine⟨r,h4 r hr,?_⟩
    simp only[ifO_t,ba c 16 (by lia) (by lia),shO_s,lenL_l,ZI,modI_s _ _ (show(0:Int)<rs.length by lia),ixO_l,ev]
    unfold aC;rw[D5 _ _ _ _ _ (by simp) (by simp)]
    rfl
 obtain⟨r,hr,er⟩:=dg;obtain⟨ts,ht,x7,x8,el⟩:=vw hl c (some (aE ws st sp,false)) (some (.lst (rs.map aC),false)) (some (.str r.1,false)) r.2 (by lia)
 obtain⟨l,SH⟩:=m3 (ws:=ls) (i:=b7 c 22%4) (by lia) (by lia)
 obtain⟨t1,Rb,e1⟩:∃t1:Z8 Te,t1.length<=4/\ifO (some (decide (b7 c 21%8=1))) (gw 6 (some (teD (.any l))) [some (aE ws st sp,false),some (.lst (ls.map .str),false),some (.lst (rs.map aC),false),some (.int c,false),some (.str r.1,false),some (.tup (r.2.map ceD),false),some (.lst (ts.map teD),true),x7,x8]) (nextO [some (aE ws st sp,false),some (.lst (ls.map .str),false),some (.lst (rs.map aC),false),some (.int c,false),some (.str r.1,false),some (.tup (r.2.map ceD),false),some (.lst (ts.map teD),true),x7,x8])=
   some (.next [some (aE ws st sp,false),some (.lst (ls.map .str),false),some (.lst (rs.map aC),false),some (.int c,false),some (.str r.1,false),some (.tup (r.2.map ceD),false),some (.lst (t1.map teD),true),x7,x8]):=by
  by_cases h:b7 c 21%8=1
  .refine⟨ts++[.any l],by simp;lia,?_⟩
   rw[Zt h,ifO_t,eG (ds:=ts.map teD) _ rfl (by rw[ZI,lim_eq];lia)]
   simp
  .exact⟨ts,by lia,by rw[ZC h];rfl⟩
 obtain⟨t2,Ra,e2⟩:∃t2:Z8 Te,t2.length<=4/\ifO (pD (some (decide (b7 c 21%8=2))) (some (gGt (t1.length:Int) 1))) (zT 6 [some (aE ws st sp,false),some (.lst (ls.map .str),false),some (.lst (rs.map aC),false),some (.int c,false),some (.str r.1,false),some (.tup (r.2.map ceD),false),some (.lst (t1.map teD),true),x7,x8]) (nextO [some (aE ws st sp,false),some (.lst (ls.map .str),false),some (.lst (rs.map aC),false),some (.int c,false),some (.str r.1,false),some (.tup (r.2.map ceD),false),some (.lst (t1.map teD),true),x7,x8])=
   some (.next [some (aE ws st sp,false),some (.lst (ls.map .str),false),some (.lst (rs.map aC),false),some (.int c,false),some (.str r.1,false),some (.tup (r.2.map ceD),false),some (.lst (t2.map teD),true),x7,x8]):=by
  cases hb:(decide (b7 c 21%8=2)&&gGt (t1.length:Int) 1)with
  |true=>
   rw[ZH]at hb;have hg:(1:Int)<t1.length:=Zf hb.2;refine⟨t1.dropLast,by simp;lia,?_⟩
   rw[hb.1,hb.2];rw[andO_t,ifO_t];unfold zT;simp only[rdOwn_1,rdOwn_0];rw[ZY (by rw[ZI];lia),List.map_dropLast]
   rfl
  |false=>
   refine⟨t1,Rb,?_⟩
   cases ha:decide (b7 c 21%8=2)with
   |false=>rfl
   |true=>rw[ha,X7]at hb;rw[hb];rfl
 refine⟨(r.1,t2),Ra,?_⟩
 rw[az (f:=Ic) (δ:=[some (aE ws st sp,false),some (.lst (ls.map .str),false),some (.lst (rs.map aC),false),some (.int c,false),none,none,none,none,none]) rfl rfl rfl];simp only[Cq,rd_1,rd_0,consO_s,bindO_s,SF,shO_s];have SE:aC r0=.tup [.str r0.1,.tup (r0.2.map ceD)]:=rfl;rw[SE,D5 _ _ _ _ _ (by simp) (by simp)]
 simp only[seqO_n,List.set_cons_succ,List.set_cons_zero,rd_1,rd_0];simp only[consO_s,bindO_s]at er;simp only[consO_s,bindO_s];rw[er];simp only[seqO_n];rw[lstO_s _ (by simp),setF_s _ _ _ (by simp)]
 simp only[seqO_n,List.set_cons_succ,List.set_cons_zero,rd_1,rd_0,lenL_t,ZI];rw[gx _ (by lia),bindO_s,Int.toNat_natCast,el]
 have ta:(.tup [.str "any",.str l]:D)=teD (.any l):=rfl;simp only[seqO_n,rd_1,rd_0,consO_s,bindO_s,ba c 21 (by lia) (by lia),ba c 22 (by lia) (by lia),shO_s,modI_s _ _ (show(0:Int)<8 by lia),modI_s _ _ (show(0:Int)<4 by lia),eqO_int,ixO_l,SH]
 rw[tupO_s _ (by simp),ta,e1]
 simp only[seqO_n,rd_1,rd_0,rd_0o,consO_s,bindO_s,ba c 21 (by lia) (by lia),shO_s,modI_s _ _ (show(0:Int)<8 by lia),eqO_int,lenL_l,ZI,cI_s]
 rw[e2];simp only[seqO_n,frzE_1,frzE_0,wT,rd_1,rd_0,tupleO_l,consO_s];rw[tupO_s _ (by simp)]
 rfl
end K11
namespace K11
open PySem L2 JP
variable[Lams]
def nA(xs:Z8 Int)(k:Nat):pX (xs.map D.int) none (some (k:Int))=(xs.take k).map D.int:=by
 unfold pX;rw[HT.sIx_nat,HT.sIx_none,List.drop_zero,Nat.sub_zero,<-List.map_take,ZI];congr 1
 by_cases h:xs.length<=k
 .rw[Nat.min_eq_right h,YE h,YE (ZQ _)]
 .rw[Nat.min_eq_left (by lia)]
def gV(h:∀d∈ds,okD n d=true):okD (n+1) (.lst ds)=true:=by simp only[okD];exact ZO.mpr h
def Db(n:Nat)(ss:Z8 Str):okD (n+1) (.lst (ss.map D.str))=true:=gV λd hd=>by obtain⟨s,_,rfl⟩:=ZL.mp hd;cases n<;>rfl
def Ag(t:Te)(n:Nat):okD (n+1) (teD t)=true:=by cases t<;>simp[teD,okD]
def zn(n:Nat)(ps:Z8 Pat):okD (n+4) (.lst (ps.map aJ))=true:=gV λd hd=>by
 obtain⟨p,_,rfl⟩:=ZL.mp hd;simp only[aJ,okD,List.all_cons,List.all_nil,Xl,X7];exact ZO.mpr λx hx=>by obtain⟨t,_,rfl⟩:=ZL.mp hx;exact Ag t n
def vE(n:Nat)(rs:Z8 Row):okD (n+4) (.lst (rs.map aC))=true:=gV λd hd=>by obtain⟨r,_,rfl⟩:=ZL.mp hd;exact jp r n
def Fb(fs:Z8 (Z8 Ce)):okD 16 (.lst (fs.map cD))=true:=gV λd hd=>by obtain⟨c,_,rfl⟩:=ZL.mp hd;exact Eb c
def ie(h:okD 16 d=true):eqO (some d) (some d)=some true:=by rw[o6 _ _ (by unfold ok2;rw[h];rfl)];simp
def li(h:okD 16 d=true):neO (some d) (some d)=some false:=by rw[vh _ _ (by unfold ok2;rw[h];rfl)];simp
end K11
namespace K11
open PySem L2 JP
variable[Lams]
def Ax(us:Z8 Str)(ss:Z8 (Z8 Ce))(n:Nat):okD (n+5) (.lst (ss.map (fL us)))=true:=gV λd hd=>by obtain⟨c,_,rfl⟩:=ZL.mp hd;exact Aq us c n
theorem tm(us:Z8 Str)(a0 a1 a2 a3 a4 a5:Z9 (D×Bool)):∀(ss acc:Z8 (Z8 Ce))(x6:Z9 (D×Bool)),(∀c∈acc++ss,c.length=us.length)->acc.length+ss.length<100000->∃y6,
  ao (λd δ=>ae ((aa 6) d δ) sR) (ss.map (fL us)) [a0,a1,a2,a3,a4,a5,x6,some (.lst (acc.map (fL us)),true)]=some (.next [a0,a1,a2,a3,a4,a5,y6,some (.lst ((ss.foldl cW acc).map (fL us)),true)])
 |[],acc,x6,_,_=>⟨x6,by simp[ao]⟩
 |c::ss,acc,x6,h,hl=>by
  have hs:∀d∈cW acc c++ss,d∈acc++c::ss:=λd hd=>by
   unfold cW at hd;split at hd
   .rcases Zv.mp hd with z|z<;>simp[z]
   .simpa using hd
  have K9:(cW acc c).length<=acc.length+1:=by unfold cW;split<;>simp
  simp at hl;obtain⟨y6,e⟩:=tm us a0 a1 a2 a3 a4 a5 ss (cW acc c) (some (fL us c,false)) (λd hd=>h d (hs d hd)) (by lia)
  refine⟨y6,?_⟩
  rw[Z1];unfold ao;rw[toName_s _ _ _ (by simp)]
  simp only[bindO_s,List.set_cons_succ,List.set_cons_zero,sR,rd_1,rd_0,rd_0o,lenL_l,ZI,subI_s,ixO_l];have test:orO (eqO (some (.lst (acc.map (fL us)))) (ce (some []))) (neO (atI (acc.map (fL us)) ((acc.length:Int) - 1)) (some (fL us c)))=some (!decide (acc.getLast?=some c)):=by
   rw[lstO_s _ (by simp)]
   by_cases hn:acc=[]
   .subst hn
    rw[Y6,ie (show okD 16 (.lst [])=true from rfl),orO_t]
    rfl
   .obtain⟨l,z,rfl⟩:∃l z,acc=l++[z]:=⟨acc.dropLast,acc.getLast hn,(List.dropLast_concat_getLast hn).symm⟩
    rw[o6 _ _ (by unfold ok2;rw[Ax us _ 11];rfl),ZC (by simp),orO_f]
    have ea:atI ((l++[z]).map (fL us)) (((l++[z]).length:Int) - 1)=some (fL us z):=by
     have:=qQ (xs:=(l++[z]).map (fL us)) (i:=((l++[z]).length:Int) - 1) (v:=fL us z) (by simp) (by simp)
     exact this
    rw[ea,vh _ _ (by unfold ok2;rw[Aq us z 12,Aq us c 12];rfl)]
    congr 2;refine Yl.mpr ?_
    rw[List.getLast?_concat,ZM]
    exact⟨λq=>wJ (h z (by simp)) (h c (by simp)) q,λq=>by rw[q]⟩
  rw[test]
  by_cases hg:acc.getLast?=some c
  .rw[show cW acc c=acc from Z0 hg]at e
   rw[List.foldl_cons,show cW acc c=acc from Z0 hg,Zt hg]
   exact e
  .rw[show cW acc c=acc++[c] from ZY hg]at e
   rw[List.foldl_cons,show cW acc c=acc++[c] from ZY hg,ZC hg,XZ,ifO_t,eG (ds:=acc.map (fL us)) _ rfl (by rw[ZI,lim_eq];lia)]
   rw[Y0]at e;exact e
def A7(FV:rs.length<=400)(h4:∀p∈ps,p.2.length<=4)(hN:∀k,k<ps.length->rs.length ^ k<=125):(LF rs ps).length<=50000:=by
 obtain⟨o1,o2⟩:=Dh (rs:=rs) (ps:=ps) (found:=[[]]) (k:=0) h4 λb hb=>by rw[ZE.mp hb];exact⟨YX,by simp⟩
 refine Zr o2 ?_
 simp only[List.length_cons,List.length_nil,XT,Nat.mul_one]
 rcases Nat.eq_zero_or_pos ps.length with z|z
 .rw[z];simp
 .obtain⟨m,hm⟩:∃m,ps.length=m+1:=⟨ps.length - 1,by lia⟩
  rw[hm,Nat.pow_succ];exact Zr (Nat.mul_le_mul (hN m (by lia)) FV) (by decide)
structure Fs (rs:List Row)(ps:List Pat)(ss:List (List Ce)):Prop where
 nd:ss.Nodup
 mem:∀x,x∈ss↔∃φ:Fit,x=(uL ps).map φ/\∀p∈ps,q5 rs φ p
 srt:(ss.map (fL (uL ps))).Pairwise leD
def Fs.len(F:Fs rs ps ss):∀c∈ss,c.length=(uL ps).length:=λc hc=>by
 obtain⟨φ,rfl,_⟩:=(F.mem c).mp hc;simp
def Fs.one(F:Fs rs ps ss)(G:Fs rs ps tt):ss.map (fL (uL ps))=tt.map (fL (uL ps)):=
 cL (vJ F.len) _ _ (λy hy=>hy) (((XH F.nd G.nd).mpr λx=>by rw[F.mem,G.mem]).map _) F.srt G.srt
def oQ(FV:rs.length<=400)(GH:ps.length<=4)(h4:∀p∈ps,p.2.length<=4)(hN:∀k,k<ps.length->rs.length ^ k<=125):
  ∃ss,Fs rs ps ss/\Ia [.lst (rs.map aC),.lst (ps.map aJ)]=some (.lst (ss.map (fL (uL ps))),true):=by
 have F:=BB rs ps;have hlen:=A7 FV h4 hN;have hx:∀c∈xsF rs ps (uL ps),c.length=(uL ps).length:=λc hc=>by
  unfold xsF at hc;obtain⟨b,_,rfl⟩:=ZL.mp hc;exact Aw b _
 obtain⟨ss,MY,P0⟩:=cK (bd ((xsF rs ps (uL ps)).map (fL (uL ps))));have hs:∀c∈ss,c.length=(uL ps).length:=λc hc=>hx c (MY.mem_iff.mp hc)
 have srt:=bC (vJ hx);rw[P0]at srt;obtain⟨d1,d2,d3⟩:=yN (le:=λa b=>leD (fL (uL ps) a) (fL (uL ps) b)) (S:=ss) (λa ha b hb h1 h2=>wJ (hs a ha) (hs b hb) (wn (vJ hs) (XB ha) (XB hb) h1 h2)) ss [] (λa ha=>by simpa using ha) (by simpa using Yc.mp srt) YX
 refine⟨ss.foldl cW [],⟨d1,λx=>?_,Yc.mpr d2⟩,?_⟩
 .rw[d3,<-xJ rs ps (λl hl=>(tq ps l).mp hl) x,<-MY.mem_iff]
  simp
 rw[az (f:=Ia) (δ:=[some (.lst (rs.map aC),false),some (.lst (ps.map aJ),false),none,none,none,none,none,none]) rfl rfl rfl];obtain⟨y3,y4,y5,y6,e⟩:=jS FV hN (some (.lst (ps.map aJ),false)) ps 0 [[]] none none none none (by simp) GH h4 (λb hb=>by rw[ZE.mp hb];exact⟨YX,by simp⟩) (by simp)
 simp only[CY];rw[lstO_s [] (by simp)]
 simp only[consO_s];rw[lstO_s _ (by simp),setO_s _ _ _ (by simp)]
 have ef:([[]]:Z8 Bi).map cV=[.lst []]:=rfl;rw[ef]at e;simp only[seqO_n,List.set_cons_succ,List.set_cons_zero,rd_1,rd_0,lstL_s,bindO_s];rw[e];simp only[seqO_n];rw[setF_s _ _ _ (by simp)]
 simp only[seqO_n,List.set_cons_succ,List.set_cons_zero,rd_1,rd_0,lstL_s,bindO_s];have ec:bj (aH (aa 6) (λδ=>some true) rA [none,none,none,none,none,none,none,none]) ((LF rs ps).map cV)=some ((LF rs ps).map λb=>fL (uL ps) (vl b (uL ps))):=bR λb hb=>by
  unfold aH;rw[toName_s _ _ _ (by simp)]
  simp only[bindO_s,List.set_cons_succ,List.set_cons_zero,rd_1,rd_0,rA];have es:fE .ts (some (cV b))=some (fL (uL ps) (vl b (uL ps))):=by
   unfold cV fL;rw[eT (rY b) (.inr (ZO.mpr λx hx=>by obtain⟨q,_,rfl⟩:=ZL.mp hx;rfl)),BH (F.nd b hb) (CI ps) (A6 ps) λl=>?_]
   rw[tq];constructor
   .exact F.has b hb l
   .rintro⟨c,hc⟩
    exact F.lts b hb l c hc
  rw[es]
 have Sh:ps.foldl (b8 rs) [[]]=LF rs ps:=rfl;rw[Sh,aS (by rw[ZI,lim_eq];lia)]
 have em:∀(x y z u v w t s:Z9 (D×Bool)),aw false [false,false,false,false,false,false,false,false] [x,y,z,u,v,w,t,s]=[none,none,none,none,none,none,none,none]:=λ_ _ _ _ _ _ _ _=>by simp[aw]
 rw[em,ec,lstLim_s];have ex:((LF rs ps).map λb=>fL (uL ps) (vl b (uL ps)))=(xsF rs ps (uL ps)).map (fL (uL ps)):=by unfold xsF;rw[Xe];rfl
 rw[ex,eT (vJ hx) (.inr (ZO.mpr λx hx=>by obtain⟨q,_,rfl⟩:=ZL.mp hx;rfl)),P0,lstL_s,bindO_s]
 have K9:ss.length<=50000:=by rw[MY.length_eq];unfold xsF;rw[ZI];exact hlen
 obtain⟨z6,e2⟩:=tm (uL ps) (some (.lst (rs.map aC),false)) (some (.lst (ps.map aJ),false)) (some (.lst ((LF rs ps).map cV),false)) y3 y4 y5 ss [] y6 (by simpa using hs) (by simp;lia)
 simp only[Y6]at e2;rw[e2];simp only[seqO_n,rdOwn_1,rdOwn_0,retF_s,outF_r]
end K11
namespace K11
open PySem L2 JP
variable[Lams]
theorem ww:∀(us:Z8 Str)(c:Z8 Ce),bJ (us.map D.str) (c.map ceD)=(us.zip c).map prD2
 |[],c=>by cases c<;>rfl
 |u::us,[]=>rfl
 |u::us,x::c=>by rw[Z1,Z1,bJ,ww us c];rfl
def xO(h:us.length<=1000)(c:Z8 Ce):kZ false true (some (.lst (us.map D.str))) (some (cD c))=some (fL us c):=by
 have e:vG false true (some (.lst (us.map D.str))) (some (cD c))=some ((us.zip c).map prD2):=by
  show some (bJ (us.map D.str) (c.map ceD))=_;rw[ww]
 unfold kZ;rw[e];dsimp only;rw[Z0 (by simp;lia)]
 rfl
def pZ(FV:rs.length<=400)(GH:ps.length<=4)(h4:∀p∈ps,p.2.length<=4)(hN:∀k,k<ps.length->rs.length ^ k<=125):
  ∃ss,Fs rs ps ss/\ss.length<=50000/\Gv [.lst (rs.map aC),.lst (ps.map aJ)]=some (.lst (ss.map (fL (uL ps))),true):=by
 have hu:(uL ps).length<=16:=Zr (sF ps) (Zr (bF h4) (by lia))
 obtain⟨fs,n1,m1,ej,hl⟩:=qD FV GH h4 hN (wanted:=uL ps) (by lia) λl hl=>(tq ps l).mp hl
 obtain⟨gs,pg,eg⟩:=cK (bd (fs.map cD));have hg:∀c∈gs,c.length=(uL ps).length:=λc hc=>by
  obtain⟨φ,rfl,_⟩:=(m1 c).mp (pg.mem_iff.mp hc);simp
 have srt:=bC (AQ fs);rw[eg]at srt ej;refine⟨gs,⟨pg.nodup_iff.mpr n1,λx=>by rw[pg.mem_iff];exact m1 x,?_⟩,by rw[pg.length_eq];exact hl,?_⟩
 .refine Yc.mpr ((Yc.mp srt).imp_of_mem λ{a b} ha hb h=>(Bx (hg a ha) (hg b hb)).mpr h)
 .have ef:G9 [.lst (rs.map aC),.lst (ps.map aJ),.lst [],.lst [.tup []]]=some (.lst (gs.map (fL (uL ps))),true):=by
   rw[az (f:=G9) (δ:=[some (.lst (rs.map aC),false),some (.lst (ps.map aJ),false),some (.lst [],false),some (.lst [.tup []],false),none,none]) rfl rfl rfl];have el:FO [.lst (ps.map aJ)]=some (.lst ((uL ps).map D.str),true):=aZ GH h4;simp only[Ci,rd_1,rd_0,consO_s,bindO_s,el,frO_s];rw[setO_s _ _ _ (by simp)]
   simp only[seqO_n,List.set_cons_succ,List.set_cons_zero,rd_1,rd_0,consO_s,bindO_s,ej,frO_s,lstL_s];rw[aS (by rw[ZI,lim_eq,pg.length_eq];lia),bR (f:=cD) (h:=fL (uL ps)) λc hc=>by
    unfold aH;have em:aw false [false,false,false,false,true,false] [some (.lst (rs.map aC),false),some (.lst (ps.map aJ),false),some (.lst [],false),some (.lst [.tup []],false),some (.lst ((uL ps).map D.str),false),none]=[none,none,none,none,some (.lst ((uL ps).map D.str),false),none]:=by simp[aw]
    rw[em,toName_s _ _ _ (by simp)]
    simp only[bindO_s,List.set_cons_succ,List.set_cons_zero,rd_1,rd_0,wW,xO (show(uL ps).length<=1000 by lia)]]
   rw[lstLim_s];rfl
  rw[az (f:=Gv) (δ:=[some (.lst (rs.map aC),false),some (.lst (ps.map aJ),false)]) rfl rfl rfl];simp only[Cg,rd_1,rd_0];rw[lstO_s [] (by simp),tupO_s [] (by simp)]
  simp only[consO_s];rw[lstO_s _ (by simp)]
  simp only[consO_s,bindO_s,ef,frO_s,retF_s,outF_r]
theorem rR(a0 a1 a2 a3:Z9 (D×Bool)):∀(qs:Z8 (Str×Ce))(x4:Z9 (D×Bool)),∃y4,
  ao (λd δ=>ae ((aa 4) d δ) rh) (qs.map prD2) [a0,a1,a2,a3,x4]=some (.next [a0,a1,a2,a3,y4])
 |[],x4=>⟨x4,by simp[ao]⟩
 |q::qs,x4=>by
  obtain⟨y4,e⟩:=rR a0 a1 a2 a3 qs (some (prD2 q,false));refine⟨y4,?_⟩
  rw[Z1];unfold ao;rw[toName_s _ _ _ (by simp)]
  have i1:pv "tuple" (some (prD2 q))=some (.bl true):=rfl;have i2:ixO (some (prD2 q)) (some (.int 1))=some (ceD q.2):=by simp[prD2,at1]
  have i3:pv "tuple" (some (ceD q.2))=some (.bl true):=by cases q.2<;>rfl
  have i4:pv "bool" (ixO (some (ceD q.2)) (some (.int 1)))=some (.bl false):=by
   cases q.2 with
   |bk n=>simp[ceD,at1];rfl
   |nm w=>simp[ceD,at1];rfl
  simp only[bindO_s,List.set_cons_succ,List.set_cons_zero,rh,rd_1,rd_0,i1,i2,i3,i4,tyB_s,notO_s,YT,orO_f,ifO_f,nextO_s];exact e
theorem mj:∀ds:Z8 D,bJ ds ds=ds.map λd=>.tup [d,d]
 |[]=>rfl
 |d::ds=>by rw[bJ,mj ds];rfl
theorem sd(us:Z8 Str)(a0 a1:Z9 (D×Bool)):∀(ss:Z8 (Z8 Ce))(x2 x3 x4:Z9 (D×Bool)),∃y2 y3 y4,
  ao (λd δ=>ae ((aM (aj (aa 2) (aj (aa 3) (toNil)))) d δ) sB) ((ss.map (fL us)).map λd=>.tup [d,d]) [a0,a1,x2,x3,x4]=some (.next [a0,a1,y2,y3,y4])
 |[],x2,x3,x4=>⟨x2,x3,x4,by simp[ao]⟩
 |c::ss,x2,x3,x4=>by
  obtain⟨z4,e1⟩:=rR a0 a1 (some (fL us c,false)) (some (fL us c,false)) (us.zip c) x4;obtain⟨y2,y3,y4,e⟩:=sd us a0 a1 ss (some (fL us c,false)) (some (fL us c,false)) z4;refine⟨y2,y3,y4,?_⟩
  rw[Z1,Z1];unfold ao;have i1:pv "list" (some (fL us c))=some (.bl true):=rfl;have i2:cr (some (fL us c))=some ((us.zip c).map prD2):=rfl;simp only[toTup_s,toCons_s,toNil_s,toName_s,Zl,List.length_cons,List.length_nil,bindO_s,List.set_cons_succ,List.set_cons_zero,Nat.reduceAdd,Nat.reduceLT,sB,rd_1,rd_0,i1,tyB_s,notO_s,YT,orO_f,li (Aq us c 12),ifO_f,nextO_s,seqO_n,i2];rw[e1];exact e
def oE(us:Z8 Str)(ss:Z8 (Z8 Ce)):H_ [.lst (ss.map (fL us)),.lst (ss.map (fL us))]=some (.bl true,false):=by
 rw[az (f:=H_) (δ:=[some (.lst (ss.map (fL us)),false),some (.lst (ss.map (fL us)),false),none,none,none]) rfl rfl rfl];obtain⟨y2,y3,y4,e⟩:=sd us (some (.lst (ss.map (fL us)),false)) (some (.lst (ss.map (fL us)),false)) ss none none none;have i1:pv "list" (some (.lst (ss.map (fL us))))=some (.bl true):=rfl;have ni:∀n:Int,neO (some (.int n)) (some (.int n))=some false:=λn=>li rfl
 have ez:vG false false (some (.lst (ss.map (fL us)))) (some (.lst (ss.map (fL us))))=some ((ss.map (fL us)).map λd=>.tup [d,d]):=by
  rw[<-mj];rfl
 simp only[CG,rd_1,rd_0,i1,tyB_s,notO_s,YT,orO_f,lenL_l,ni,ifO_f,nextO_s,seqO_n,ez,bindO_s];rw[e];simp only[seqO_n,retO_s,outF_r]
def uq{rs:Z8 Row}(FV:rs.length<=400):Gv [.lst (rs.map aC),.lst []]=some (.lst [.lst []],true):=by
 obtain⟨ss,F,_,e⟩:=pZ FV (ps:=[]) (by simp) (by simp) (by simp)
 have hu:uL []=[]:=by
  have:=sF [];have l0:cU []=[]:=rfl;rw[l0]at this;exact YL.mp (by simpa using this)
 have hs:ss=[[]]:=by
  have:ss.Perm [[]]:=(XH F.nd (by simp)).mpr λx=>by
   rw[F.mem,hu];constructor
   .rintro⟨φ,rfl,_⟩;simp
   .intro h;simp at h;subst h;exact⟨λ_=>default,rfl,λp hp=>nomatch hp⟩
  exact List.perm_singleton.mp this
 rw[hs,hu]at e;exact e
end K11
namespace K11
open PySem L2 JP
variable[Lams]
def E4(h0:0<=m)(h1:m<5):∃k:Nat,k<=40/\(m=3->k<=9)/\(m=4->k<=5)/\atI [D.int 40,.int 40,.int 40,.int 9,.int 5] m=some (.int (k:Int)):=by
 have:m=0\/m=1\/m=2\/m=3\/m=4:=by lia
 rcases this with rfl|rfl|rfl|rfl|rfl
 .exact⟨40,by lia,by lia,by lia,rfl⟩
 .exact⟨40,by lia,by lia,by lia,rfl⟩
 .exact⟨40,by lia,by lia,by lia,rfl⟩
 .exact⟨9,by lia,by lia,by lia,rfl⟩
 .exact⟨5,by lia,by lia,by lia,rfl⟩
def pure(ns:Z8 Int)(hn:ns.length<=63):f_law [.lst (ns.map D.int)]=some (.bl true,false):=by
 have ec:pX (ns.map D.int) none (some 63)=(ns.take 63).map D.int:=nA ns 63;generalize N5:(ns.take 63).sum%1000003=Hl;have Ti:=aN Hl 30;obtain⟨k,k1,k2,k3,ek⟩:=E4 (m:=b7 Hl 30%5) (by lia) (by lia)
 obtain⟨ws,st,sp,w1,w2,w3,w4,w5,ew⟩:=uO Hl;obtain⟨ls,hl,el⟩:=nZ Hl;obtain⟨g,eg,gl,gp⟩:=cH (ds:=(ns.take k).map D.int) (P:=λ_ y=>∃r:Row,r.2.length<=3/\y=aC r)
  (h:=aH (aa 13) (λδ=>some true) lB [none,none,none,none,some (aE ws st sp,false),none,none,none,none,none,none,none,none,none]) λd hd=>by
   obtain⟨c,_,rfl⟩:=ZL.mp hd;obtain⟨r,hr,er⟩:=wC w1 w2 w3 w4 w5 c;exact⟨aC r,by simp[aH,lB,er],r,hr,rfl⟩
 obtain⟨qs,rfl,Rh⟩:=lm (F:=aC) (Q:=λr=>r.2.length<=3) gl gp λd y hz=>by obtain⟨e,a,b⟩:=hz;exact⟨e,b,a⟩
 rw[ZI,ZI]at gl;have hk:(ns.take k).length<=k:=by simp;lia
 obtain⟨rs,QX,Tr,SD⟩:=uW qs (by lia)
 have FV:rs.length<=63:=by lia
 have Sl:∀r∈rs,r.2.length<=3:=λr hr=>Rh r (QX r hr)
 have hW:Wd (aE ws st sp):=⟨ws,st,sp,w1,w2,w3,w4,w5,rfl⟩;obtain⟨g2,SI,PU,Sq⟩:=cH (ds:=g8 0 (b7 Hl 30%5).toNat) (P:=λ_ y=>∃p:Pat,p.2.length<=4/\y=aJ p)
  (h:=aH (aa 12) (λδ=>some true) lh [none,some (.int Hl,false),none,none,some (aE ws st sp,false),some (.lst (ls.map .str),false),some (.lst (rs.map aC),false),none,none,none,none,none,none,none]) λd hd=>by
   obtain⟨i,hi,rfl⟩:=cF hd;obtain⟨u,hu,eu⟩:=nX hW hl FV Sl (Hl*7+(0+(i:Int))*(0+(i:Int))+(0+(i:Int)));refine⟨aJ u,?_,u,hu,rfl⟩
   have e0:(0:Int)+(i:Int)=i:=by lia
   rw[e0]at eu⊢;simp[aH,lh,mulI_s (Hl) 7 (by lia),mulI_s (i:Int) (i:Int) (by lia),eu]
 obtain⟨ps,rfl,h4⟩:=lm (F:=aJ) (Q:=λp=>p.2.length<=4) PU Sq λd y hz=>by obtain⟨e,a,b⟩:=hz;exact⟨e,b,a⟩
 rw[aU,ZI]at PU;have GH:ps.length<=4:=by lia
 have hN:∀j,j<ps.length->rs.length ^ j<=125:=λj hj=>by
  have RD:j=0\/j=1\/(j=2/\rs.length<=9)\/(j=3/\rs.length<=5):=by
   by_cases c:b7 Hl 30%5=3
   .have:=k2 c;lia
   .by_cases c4:b7 Hl 30%5=4
    .have:=k3 c4;lia
    .lia
  rcases RD with rfl|rfl|⟨rfl,h9⟩|⟨rfl,h5⟩
  .simp
  .simp;lia
  .exact Zr (Nat.pow_le_pow_left h9 2) (by decide)
  .exact Zr (Nat.pow_le_pow_left h5 3) (by decide)
 have hu:(uL ps).length<=16:=Zr (sF ps) (Zr (bF h4) (by lia))
 obtain⟨ss,F,sl,ef⟩:=pZ (rs:=rs) (by lia) GH h4 hN
 obtain⟨tt,G,ed⟩:=oQ (rs:=rs) (by lia) GH h4 hN
 rw[G.one F]at ed;have eR:=oE (uL ps) ss;have e0:=uq (rs:=rs) (by lia)
 have OJ:okD 16 (.lst [.lst (rs.map aC),.lst (ps.map aJ)])=true:=gV λd hd=>by
  simp only[ZZ,Zu,YQ]at hd
  rcases hd with rfl|rfl
  .exact vE 11 rs
  .exact zn 11 ps
 have QR:okD 16 (.lst (ss.map (fL (uL ps))))=true:=Ax (uL ps) ss 11;have ct:∀n:Nat,n=14->(decide (11<n)&&(decide ((ss.map (fL (uL ps))).length<lim)&&(ss.map (fL (uL ps))).all (Ca (ss.map (fL (uL ps))).length)))=true:=λn hn=>by
  subst hn;rw[Zt (by decide),Zt (by rw[ZI,lim_eq];lia),X7,X7,ZO]
  intro d hd;obtain⟨c,_,rfl⟩:=ZL.mp hd;refine Zt ?_
  rw[ZI,ZI,List.length_zip,lim_eq]
  lia
 rw[az (f:=f_law) (δ:=[some (.lst (ns.map D.int),false),none,none,none,none,none,none,none,none,none,none,none,none,none]) rfl rfl rfl];simp only[yW,rd_0,partI_s,cutLO_s,ec,Al,modI_s _ _ (show(0:Int)<1000003 by lia),N5]
 rw[setO_s _ _ _ (by simp)]
 simp only[seqO_n,List.set_cons_succ,List.set_cons_zero,rd_1,rd_0,consO_s,bindO_s,ba Hl 30 (by lia) (by lia),shO_s,modI_s _ _ (show(0:Int)<5 by lia)]
 rw[setO_s _ _ _ (by simp)]
 simp only[seqO_n,List.set_cons_succ,List.set_cons_zero,rd_1,rd_0];rw[lstO_s _ (by simp),ixO_l,ek,partI_s,cutLO_s,nA,setO_s _ _ _ (by simp)]
 simp only[seqO_n,List.set_cons_succ,List.set_cons_zero,rd_1,rd_0,consO_s,bindO_s,ew,shO_s];rw[setO_s _ _ _ (by simp)]
 simp only[seqO_n,List.set_cons_succ,List.set_cons_zero,rd_1,rd_0,consO_s,bindO_s,el,frO_s];rw[setO_s _ _ _ (by simp)]
 simp only[seqO_n,List.set_cons_succ,List.set_cons_zero,rd_1,rd_0,lstL_s,bindO_s];rw[aS (by simp;lia)]
 have Nq:∀(x y z u v:Z9 (D×Bool)),aw false [false,false,false,false,true,false,false,false,false,false,false,false,false,false] [x,y,z,u,some (aE ws st sp,false),v,none,none,none,none,none,none,none,none]=[none,none,none,none,some (aE ws st sp,false),none,none,none,none,none,none,none,none,none]:=λ_ _ _ _ _=>by simp[aw]
 rw[Nq,eg,lstLim_s];simp only[consO_s,bindO_s,SD,frO_s];rw[setO_s _ _ _ (by simp)]
 simp only[seqO_n,List.set_cons_succ,List.set_cons_zero,rd_1,rd_0];rw[gx _ (by lia),bindO_s,aS (by rw[aU,lim_eq];lia)]
 have Ld:∀(x z u:Z9 (D×Bool)),aw false [false,true,false,false,true,true,true,false,false,false,false,false,false,false] [x,some (.int Hl,false),z,u,some (aE ws st sp,false),some (.lst (ls.map .str),false),some (.lst (rs.map aC),false),none,none,none,none,none,none,none]=[none,some (.int Hl,false),none,none,some (aE ws st sp,false),some (.lst (ls.map .str),false),some (.lst (rs.map aC),false),none,none,none,none,none,none,none]:=λ_ _ _=>by simp[aw]
 rw[Ld,SI,lstLim_s,setF_s _ _ _ (by simp)]
 simp only[seqO_n,List.set_cons_succ,List.set_cons_zero,frzE_1,frzE_0,qH,rd_1,rd_0,listO_l,consO_s];rw[lstO_s _ (by simp),setO_s _ _ _ (by simp)]
 simp only[seqO_n,List.set_cons_succ,List.set_cons_zero,rd_1,rd_0,consO_s,bindO_s,ed,frO_s];rw[setO_s _ _ _ (by simp)]
 simp only[seqO_n,List.set_cons_succ,List.set_cons_zero,rd_1,rd_0,consO_s,bindO_s,ef,frO_s];have NO:lsO (some (.lst (ss.map (fL (uL ps)))))=some (.lst (ss.map (fL (uL ps)))):=rfl;rw[NO,setO_s _ _ _ (by simp)]
 have l3:ce (some [.lst (rs.map aC),.lst (ps.map aJ)])=some (.lst [.lst (rs.map aC),.lst (ps.map aJ)]):=lstO_s _ (by simp)
 have l0:ce (some [])=some (.lst []):=lstO_s _ (by simp)
 have l1:ce (some [.lst []])=some (.lst [.lst []]):=lstO_s _ (by simp)
 simp only[seqO_n,List.set_cons_succ,List.set_cons_zero,ifQ,rd_1,rd_0,consO_s,bindO_s,eR,shO_s,tyB_s,notO_s,YT,orO_f,l3,li OJ,ifO_f];unfold uk;simp only[List.getElem?_cons_succ,List.getElem?_cons_zero]
 rw[Z0 (by simp only[List.length_cons,List.length_nil];exact ct _ rfl)]
 simp only[List.set_cons_succ,List.set_cons_zero,rd_1,rd_0,consO_s,bindO_s,ef,frO_s,l3,l0,l1,e0,ie OJ,ie QR,ie (show okD 16 (.lst [.lst []])=true from rfl),ofB_s]
 rfl
end K11
set_option maxRecDepth 100000 in
set_option maxHeartbeats 0 in
theorem PySem.Challenge.cw_mustrows_k11_fits_holds : PySem.Challenge.rw_mustrows_k11_fits.Holds := by
 letI:L2.Lams:=⟨[(38,"search_order.<locals>.<lambda>")]⟩
 refine PySem.W.holds_law K11.hl1 fun said=>?_
 refine PySem.W.holds_open (d:=PySem.DefRec.mk "law" (L2.defArgs K11.s_law) (L2.defBody K11.s_law) (L2.defScope K11.s_law) K11.s_law.pos) (kwd:=[]) (q:=PySem.W.view PySem.Challenge.pw_mustrows_k11_fits CQ) (loose:=[]) (Xt:=fun _=>true) (XP:=fun _ _=>True) (Yf:=L2.YfH K11.defsK K11.blK [("search_order",40)]) (Ya:=L2.YaH K11.defsK K11.blK [("search_order",40)]) (YP:=L2.YH K11.defsK K11.blK [("search_order",40)]) (N:=2000) ?hl L2.yh_of L2.yh_keeps (fun _ _=>trivial) (fun _ _ _ _ _=>trivial) (by kernel_rfl) (by kernel_rfl) (by kernel_rfl) (fun s _=>PySem.W.recFacts_of (by kernel_rfl)) (by kernel_rfl) said K11.hl7 ⟨rfl,rfl,rfl,rfl,rfl,by decide +kernel⟩ ?hw ?hc
 case hl=>exact K11.hl0
 case hw=>w_witness2
 case hc=>
  refine L2.walk_H (l:=PySem.Challenge.rw_mustrows_k11_fits) (n:=63) (k:=8) (x:="_law_script") (CX:=L2.CX0) (sp:=fun K=>L2.spM K K11.f_law) rfl (by decide) rfl ⟨rfl,by decide,by decide⟩ rfl (fun w mg fa h K S L X G hmg=>K11.all_mk S X G hmg (.head _) (L2.map_mem L.1 (.head _))) (fun K H a ns hl hO hS=>L2.spM_law hS (K11.pure ns hl)) (fun _ _ _ _ h=>h) (fun q hq r hr _=>by rw[List.mem_singleton.mp hq,List.mem_singleton.mp hr])
