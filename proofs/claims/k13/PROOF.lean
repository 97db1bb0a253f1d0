import PyProof.Rows.All
import PyProof.ZipIter
import Wide.All
import OpenK.AllK
import Wide.FinOn
import Lean
import PyProof.EqAt
import PyProof.EqKinds
import PyProof.TupleCall
import PyProof.DictRoadsH
import KE.KLam
import KE.KNestM
import PyProof.NeKinds
import PyProof.Rows.SortRuns
import KE.KSortTup
import KE.KSortKey
import PyProof.Conv_int_bool
import PyProof.EnumStmt
import PyProof.DictIter
import PyProof.DictWalks
import PyProof.ConsumeWalk
import PyProof.ListStr
import KE.KIntText
import KE.KDictOf
import KE.IntTextLaws
import PyProof.Rows.SortStr
import PyProof.StrLawsTight
import PyProof.StrLawsOcc
import PySem.Challenge.RW_mustrows_k13_answers
set_option Elab.async false
set_option linter.all false
set_option genSizeOf false
set_option maxRecDepth 100000
set_option maxHeartbeats 4000000
local macro_rules | `(tactic| obtain $p:rcasesPatMed := $e:term) => do
  let n := (p.raw.reprint.getD "").foldl (fun n c => if c == ',' then n + 1 else n) 0
  let q := Lean.mkIdent `hzz
  if n < 2 then `(tactic| rcases $e:term with $p:rcasesPatMed) else `(tactic| (refine Classical.byContradiction fun $q => ?_; rcases $e:term with $p:rcasesPatMed; refine $q ?_; clear $q))
local macro_rules| `(tactic|trivial)=> `(tactic|contradiction)
abbrev Z_:=@Option
abbrev Z9:=@Option.some.inj
abbrev Z8:=@PySem.wpAny_bind
abbrev Z7:=@PySem.Value
abbrev Z6:=@PySem.Heap.get?_push_of_some
abbrev Z5:=@PySem.W.Frag
abbrev Z4:=@PySem.Shared
abbrev Z3:=@PySem.wpAny_pure
abbrev Z2:=@PySem.Addr
abbrev Z1:=@List.map_cons
abbrev Z0:=@if_pos
abbrev ZZ:=@List.mem_cons_of_mem
abbrev ZY:=@if_neg
abbrev ZX:=@List.mem_cons
abbrev ZW:=@List.getElem?_eq_some_iff
abbrev ZV:=@List.mem_cons_self
abbrev ZU:=@Nat.le_refl
abbrev ZT:=@PySem.Heap.get?_push_size
abbrev ZR:=@Option.some.injEq
abbrev ZQ:=@List.size_toArray
abbrev ZP:=@List.getElem?_set_ne
abbrev ZO:=@PySem.Heap.lt_size
abbrev ZN:=@decide_eq_false
abbrev ZM:=@List.all_eq_true
abbrev ZL:=@List.mem_map
abbrev ZK:=@Bool.false_eq_true
abbrev ZJ:=@List.length_map
abbrev ZI:=@List.mem_append_right
abbrev ZH:=@Bool.and_eq_true
abbrev ZG:=@PyProof.Rows.wpS_bind
abbrev ZF:=@List.getElem?_set_self
abbrev ZE:=@List.mem_singleton
abbrev ZD:=@PyProof.Rows.wpS_pure
abbrev ZC:=@PySem.Program
abbrev ZA:=@Nat.lt_of_lt_of_le
abbrev Zz:=@List.length_append
abbrev Zy:=@Ne.symm
abbrev Zx:=@beq_iff_eq
abbrev Zw:=@Nat.ne_of_lt
abbrev Zv:=@Bool.false_ne_true
abbrev Zu:=@PySem.Around
abbrev Zt:=@Nat.zero_le
abbrev Zs:=@Array.toList_append
abbrev Zr:=@PySem.Heap.get?_update_other
abbrev Zo:=@PySem.World
abbrev Zn:=@decide_eq_true_eq
abbrev Zm:=@decide_eq_true
abbrev Zl:=@List.mem_append
abbrev Zk:=@List.length_set
abbrev Zj:=@List.mem_of_getElem?
abbrev Zi:=@PySem.Heap.get?_update_self
abbrev Zh:=@Nat.le_trans
abbrev Zg:=@List.append_assoc
abbrev Zf:=@List.drop_eq_getElem_cons
abbrev Ze:=@List.not_mem_nil
abbrev Zd:=@PySem.wpAny_newObj_type
abbrev Zc:=@of_decide_eq_true
abbrev Zb:=@PySem.Heap.SameBut.update
abbrev Za:=@if_false
abbrev Y_:=@PySem.wpAny_call_entry
abbrev Y9:=@PySem.Obj.data_mapFields
abbrev Y8:=@decide_eq_true_iff
abbrev Y7:=@List.map_nil
abbrev Y6:=@List.append_nil
abbrev Y5:=@Nat.lt_irrefl
abbrev Y4:=@List.getElem?_eq_getElem
abbrev Y3:=@List.nodup_nil
abbrev Y2:=@if_true
abbrev Y1:=@List.mem_append_left
abbrev Y0:=@Array.getElem?_eq_getElem
abbrev YZ:=@PySem.W.kia_one
abbrev YY:=@List.map_append
abbrev YX:=@List.Perm.refl
abbrev YW:=@PySem.wpAny_rule
abbrev YV:=@PySem.wpAny_mono
abbrev YU:=@Bool.not_true
abbrev YT:=@PySem.mem_of_lookup
abbrev YS:=@List.getElem?_eq_none
abbrev YR:=@List.idxOf_lt_length_of_mem
abbrev YQ:=@PySem.wpAny_holding
abbrev YO:=@List.getD_eq_getElem?_getD
abbrev YN:=@List.nodup_cons
abbrev YM:=@List.mem_filter
abbrev YL:=@Bool.eq_iff_iff
abbrev YK:=@List.take_of_length_le
abbrev YJ:=@PySem.Heap.size_push
abbrev YI:=@PySem.Around.under_plainId
abbrev YG:=@PyProof.Rows.wpS_forRange
abbrev YF:=@PySem.Paired.length
abbrev YE:=@List.map_congr_left
abbrev YD:=@List.getElem?_map
abbrev YC:=@PySem.wpAny_callSpecial?_slot
abbrev YB:=@Bool.not_eq_true'
abbrev YA:=@List.getElem?_append_left
abbrev Yz:=@PySem.codeAny_builtin
abbrev Yy:=@or_false
abbrev Yx:=@List.mem_range
abbrev Yw:=@Array.toList_push
abbrev Yv:=@List.cons.injEq
abbrev Yu:=@PySem.wpAny_setField
abbrev Yt:=@decide_eq_decide
abbrev Ys:=@List.pairwise_cons
abbrev Yr:=@List.mem_filterMap
abbrev Yq:=@List.getElem?_append_right
abbrev Yp:=@PySem.wpAny_isInstance
abbrev Yo:=@PySem.wpAny_seqItems
abbrev Yn:=@PySem.MeetsSeq.plain_remove_loop
abbrev Ym:=@List.pairwise_append
abbrev Yl:=@List.getElem?_of_mem
abbrev Yk:=@Array.toList_reverse
abbrev Yj:=@PySem.Obj.isFreed_of_fields
abbrev Yi:=@List.reverse_append
abbrev Yh:=@beq_self_eq_true
abbrev Yg:=@Nat.lt_succ_self
abbrev Ye:=@List.mem_reverse
abbrev Yd:=@List.length_eq_zero_iff
abbrev Yc:=@List.any_eq_true
abbrev Yb:=@PyProof.Rows.wpS_modify
abbrev X_:=@PySem.plainId_quiet
abbrev X9:=@decide_true
abbrev X8:=@decide_false
abbrev X7:=@Option.map_eq_some_iff
abbrev X6:=@Array.getElem?_eq_none
abbrev X5:=@PyProof.Rows.wpS_mono
abbrev X4:=@List.take_append_drop
abbrev X3:=@PyProof.Rows.callWith_type1
abbrev X2:=@List.nodup_append
abbrev X1:=@PySem.wpAny_setField_rec
abbrev X0:=@PySem.wpAny_updateSeq
abbrev XZ:=@PySem.wpAny_specialOf
abbrev XY:=@PySem.wpAny_passesOwn
abbrev XX:=@PySem.F.slot_dict_keyiterator_next
abbrev XW:=@Bool.not_false
abbrev XU:=@Array.toList_extract
abbrev XT:=@PySem.wpAny_attempt
abbrev XS:=@Nat.zero_add
abbrev XR:=@PySem.wpAny_truthy_bool
abbrev XQ:=@PySem.wpAny_setState_of
abbrev XO:=@PySem.sizeLine_eq
abbrev XN:=@PySem.isSubtype_type
abbrev XM:=@Prod.mk.injEq
abbrev XJ:=@Bool.true_and
abbrev XI:=@PySem.wpAny_askSetting
abbrev XH:=@PySem.F.called_set
abbrev XG:=@decide_eq_false_iff_not
abbrev XF:=@PySem.F.plainAttrs_list
abbrev XE:=@PySem.wpAny_setEntries_of
abbrev XD:=@List.length_range
abbrev XC:=@PySem.size_of_entries
abbrev XB:=@PySem.wpAny_Call_Name_kw
abbrev XA:=@List.eraseIdx_eq_take_drop_succ
abbrev Xz:=@PySem.F.slot_dict_get
abbrev Xy:=@Array.getElem?_toList
abbrev Xx:=@List.length_take
abbrev Xw:=@List.drop_length
abbrev Xv:=@Bool.and_true
abbrev Xu:=@PySem.wpAny_dictEntries
abbrev Xs:=@PySem.Obj.cls_mapFields
abbrev Xr:=@List.reverse_reverse
abbrev Xq:=@PyProof.Rows.listUpdate_at
abbrev Xp:=@PySem.builtinLookup_eq_fast
abbrev Xo:=@List.mem_map_of_mem
abbrev Xn:=@PySem.wpAny_forIn_list
abbrev Xm:=@PySem.wpAny_typeNameOfWhole_keyiter
abbrev Xl:=@PySem.wpAny_field
abbrev Xk:=@PySem.Obj.data_mapDictKeys
abbrev Xj:=@List.mem_of_find?_eq_some
abbrev Xi:=@Nat.le_succ
abbrev Xh:=@List.ext_getElem?
abbrev Xg:=@PySem.wpAny_typeOf
abbrev Xf:=@not_or
abbrev Xe:=@PySem.codeAny_mono
abbrev Xd:=@PySem.F.args_tuple_add_2
abbrev Xc:=@List.length_filterMap_le
abbrev Xb:=@PySem.wpAny_fieldsOf
abbrev Xa:=@PySem.tupleKind_room_in1
abbrev W_:=@PySem.F.entry_tuple_add
abbrev W9:=@PySem.F.args_dict_get_3
abbrev W8:=@List.pairwise_mergeSort
abbrev W7:=@List.getElem_mem
abbrev W6:=@PySem.W.cellsFrom_some
abbrev W5:=@PySem.F.slot_tuple_add
abbrev W4:=@PySem.F.entry_dict_get
abbrev W3:=@Nat.le_of_lt
abbrev W2:=@List.set_set
abbrev W0:=@PySem.Calls.call_function_entry
abbrev WZ:=@PySem.wpAny_pyIter_slot
abbrev WY:=@PySem.wpAny_pyIter_list
abbrev WX:=@PyProof.Rows.get?_update_seq
abbrev WW:=@List.of_mem_zip
abbrev WV:=@PySem.F.slot_tuple_hash
abbrev WU:=@PySem.F.plain_list_iadd
abbrev WT:=@PySem.wpAny_typeNameOf_keyiter
abbrev WR:=@PySem.wpAny_newList
abbrev WQ:=@List.getElem?_zipWith
abbrev WO:=@PySem.AutoSeq1.sub_tuple_tuple
abbrev WN:=@Nat.mul_le_mul
abbrev WM:=@List.mem_iff_getElem
abbrev WL:=@Bool.and_false
abbrev WK:=@List.length_pos_iff
abbrev WJ:=@PySem.Calls.callWith_builtin
abbrev WI:=@PySem.wpAny_execs_nil
abbrev WH:=@PySem.typeLookup_type
abbrev WG:=@PyProof.Rows.wpS_get
abbrev WE:=@PySem.wpAny_notOrdered_dict
abbrev WD:=@PySem.wpAny_of_eq
abbrev WB:=@PySem.isSubtype_stop
abbrev WA:=@PySem.codeAny_extend_loopS
abbrev Wz:=@PyProof.Rows.F.plain_set_update_loop
abbrev Wy:=@PySem.F.plain_extend_loop
abbrev Wx:=@PyProof.Rows.listItems_at
noncomputable section
namespace L2
open PySem PySem.Spec PyProof.Rows PySem.W
class Lams where
 tb:List (Z2×Str)
variable[Lams]
noncomputable def defArgs(s:Stmt):Arguments:=match s with
 |.FunctionDef _ a _ _ _ _ _ _ _ _=>a
 |_=>{posonlyargs:=[],args:=[],vararg:=none,kwonlyargs:=[],kw_defaults:=[],kwarg:=none,defaults:=[]}
def defBody(s:Stmt):List Stmt:=match s with
 |.FunctionDef _ _ b _ _ _ _ _ _ _=>b
 |_=>[]
noncomputable def defScope(s:Stmt):Scope:=match s with
 |.FunctionDef _ _ _ _ _ _ sc _ _ _=>sc
 |_=>{kind:=.function,names:=[],isGenerator:=false,isCoroutine:=false}
def yJ(h:Heap):Frag:=(List.range h.objs.size).filterMap fun a=>(h.get? a).bind fun o=>if o.cls != .none||a==mainGlobals then some (a,o) else none
abbrev FSig:=Str×Str×Arguments×FuncBody×Scope×Z2×List (Str×Z2)×Z7×Z2
def zT(fd:FuncData):FSig:=(fd.name,fd.qualname,fd.params,fd.body,fd.scope,fd.globals,fd.closure,fd.defaults,fd.builtins)
noncomputable def Bx(K:Frag)(x:Str):Z_ FSig:=match nsIn K mainGlobals x with
 |some (some (.ref f))=>(match K.lookup f with
  |some ⟨_,_,.func fd,_⟩=>if codeIn K fd.code x then some (zT fd) else none
  |_=>none)
 |_=>none
def u6(x:Str)(st:Stmt):FSig:=(x,x,defArgs st,.stmts (defBody st),defScope st,mainGlobals,[],.none,builtinsNs)
noncomputable def m6(K:Frag)(x:Str):Z_ Z7:=match nsIn K mainGlobals x with
 |some (some (.ref f))=>(match K.lookup f with
  |some ⟨_,_,.func fd,_⟩=>some fd.code
  |_=>none)
 |_=>none
def CP:Obj:={cls:=.none,data:=.fields #[]}
noncomputable def YfH(defs:List (Str×Stmt))(bl:List Str)(cs:List (Str×Z2))(s:Z4):=
 (fun(h:Heap) (K:Frag)=>(defs.map (fun p=>Bx K p.1),bl.map (nsIn K mainGlobals),cs.map (fun p=>m6 K p.1),Lams.tb.map (fun q=>h.get? q.1),(Lams.tb.zip cs).map (fun q=>codeHdIn K q.2.2 q.1.1),Lams.tb.map (fun q=>K.lookup q.1))) s.heap (yJ s.heap)
noncomputable def YaH(defs:List (Str×Stmt))(bl:List Str)(cs:List (Str×Z2))(_:Zo):=
 (defs.map (fun p=>some (u6 p.1 p.2)),bl.map (fun _=>some (none:Z_ Z7)),cs.map (fun p=>some (Value.ref p.2)),Lams.tb.map (fun _=>some CP),(Lams.tb.zip cs).map (fun _=>true),Lams.tb.map (fun _=>(none:Z_ Obj)))
end L2
namespace K13
open PySem L2
def top(i:Nat):Stmt:=PySem.Challenge.pw_mustrows_k13_answers.main.body.getD i (.Pass ⟨0,0,0,0⟩)
abbrev CS:Stmt:=top 2
abbrev Dv:Stmt:=top 8
abbrev CU:Stmt:=top 7
abbrev Dw:Stmt:=top 6
abbrev zo:Stmt:=top 5
abbrev C7:Stmt:=top 11
abbrev Dp:Stmt:=top 9
abbrev Dd:Stmt:=top 12
abbrev CQ:Stmt:=top 10
abbrev C4:Stmt:=top 4
abbrev DD:Stmt:=top 3
abbrev DH:Stmt:=top 1
abbrev CN:Stmt:=top 14
abbrev Dr:Stmt:=top 15
abbrev CZ:Stmt:=top 16
abbrev Dg:Stmt:=top 17
abbrev De:Stmt:=top 18
abbrev CW:Stmt:=top 19
abbrev Dt:Stmt:=top 20
abbrev C9:Stmt:=top 21
abbrev Dk:Stmt:=top 22
abbrev CL:Stmt:=top 23
abbrev Dh:Stmt:=top 24
abbrev Db:Stmt:=top 25
abbrev Du:Stmt:=top 26
abbrev s_law:Stmt:=top 27
abbrev blK:List Str:=["any","enumerate","isinstance","len","list","range","set","sorted","sum","tuple","zip"]
noncomputable def defsK:List (Str×Stmt):=[("letters_of",CS),("binding_of",Dv),("bindings",CU),("is_linked",Dw),("search_order",zo),("places_of",C7),("grouped",Dp),("picked",Dd),("extended",CQ),("joined_from",C4),("joined",DD),("answers",DH),("_law_mix",CN),("_law_words",Dr),("_law_world",CZ),("_law_letters",Dg),("_law_cell_by",De),("_law_row",CW),("_law_stand",Dt),("_law_pattern",C9),("_law_joined",Dk),("_law_fits",CL),("_law_asked",Dh),("_law_due",Db),("_law_right",Du),("law",s_law)]
end K13
noncomputable def BJ:List Nat:=((PySem.Challenge.pw_mustrows_k13_answers.main.body.zipIdx.filter fun p=>match p.1 with|.FunctionDef .. =>true|_=>false).map (·.2))
set_option maxHeartbeats 0 in
theorem K13.hl0:PySem.W.LeftO PySem.Challenge.rw_mustrows_k13_answers.row.prog (PySem.W.view PySem.Challenge.pw_mustrows_k13_answers BJ) [] (fun _=>true) (@L2.YfH ⟨[(40,"search_order.<locals>.<lambda>")]⟩ K13.defsK K13.blK [("search_order",42)]) (@L2.YaH ⟨[(40,"search_order.<locals>.<lambda>")]⟩ K13.defsK K13.blK [("search_order",42)]) 2000:=fun w=>by kernel_rfl
set_option maxHeartbeats 0 in
theorem K13.hl1:PySem.Challenge.rw_mustrows_k13_answers.wellSaid=true:=by kernel_rfl
set_option maxHeartbeats 0 in
theorem K13.hl7:(PySem.W.chainsOk (PySem.W.view PySem.Challenge.pw_mustrows_k13_answers BJ)&&PySem.W.opensWell PySem.Challenge.rw_mustrows_k13_answers.row.prog&&(PySem.W.frees PySem.Challenge.rw_mustrows_k13_answers.row.toRowW&&PySem.Challenge.rw_mustrows_k13_answers.row.within.isEmpty))=true:=by kernel_rfl
namespace L2
open PySem PySem.Spec PyProof.Rows
abbrev Key:=Sum Int Str
inductive D where
 |non|bl (b:Bool)|int (i:Int)|str (x:Str)|tup (ds:List D)|lst (ds:List D)|dT (ks:List (List Key)) (vs:List D)|dK (ks:List Key) (vs:List D)
 |dD (ks vs:List D)
 |sp (k:Bool) (x:Str)
noncomputable instance:DecidableEq D:=fun _ _=>Classical.propDecidable _
def bH:Nat->D->Bool
 |_,.int _=>true
 |_,.str _=>true
 |n+1,.tup ds=>ds.all (bH n)
 |_,_=>false
mutual
def eA(w:Zo):D->Int
 |.int i=>hashInt i
 |.str x=>hashStr w x
 |.tup ds=>reduceHash (Builtin.Tuple.tupleHashOf (jp w ds))
 |_=>0
def jp(w:Zo):List D->List Int
 |[]=>[]
 |d::ds=>eA w d::jp w ds
end
theorem gE(w:Zo):∀ds:List D,jp w ds=ds.map (eA w)
 |[]=>by simp[jp]
 |d::ds=>by simp[jp,gE w ds]
def dy{n:Nat}{ds:List D}(h:bH n (.tup ds)=true):∃k,n=k+1/\ds.all (bH k)=true:=by
 cases n with
 |zero=>simp[bH]at h
 |succ n=>exact⟨n,rfl,by simpa[bH]using h⟩
mutual
def dW:D->Nat
 |.int _=>1
 |.str _=>1
 |.tup ds=>bS ds+1
 |_=>0
def bS:List D->Nat
 |[]=>0
 |d::ds=>dW d+bS ds
end
theorem fo(d:D):∀ds:List D,bS (ds++[d])=bS ds+dW d
 |[]=>by simp[bS]
 |x::ds=>by rw[List.cons_append];simp only[bS];rw[fo d ds];lia
mutual
def RH(h:Heap):D->Z7->Prop
 |.int i,v=>∃t,v=.int i t
 |.str x,v=>∃t,v=.str x t
 |.tup ds,v=>∃a its,v=.ref a/\IsTup h a its.toArray/\RHs h ds its
 |_,_=>False
def RHs(h:Heap):List D->List Z7->Prop
 |[],vs=>vs=[]
 |d::ds,vs=>∃v r,vs=v::r/\RH h d v/\RHs h ds r
end
theorem RHs.length{h:Heap}:∀{ds:List D}{vs:List Z7},RHs h ds vs->ds.length=vs.length
 |[],vs,r=>by simp only[RHs]at r;subst r;rfl
 |d::ds,vs,r=>by
  simp only[RHs]at r;obtain⟨v,q,rfl,_,r2⟩:=r;simp[RHs.length r2]
theorem RHs.get{h:Heap}:∀{ds:List D}{vs:List Z7}{i:Nat}{d:D},RHs h ds vs->ds[i]?=some d->∃v,vs[i]?=some v/\RH h d v
 |[],vs,i,d,_,e=>by simp at e
 |x::ds,vs,0,d,r,e=>by
  simp only[RHs]at r;obtain⟨v,q,rfl,r1,_⟩:=r;simp at e;subst e;exact⟨v,rfl,r1⟩
 |x::ds,vs,i+1,d,r,e=>by
  simp only[RHs]at r;obtain⟨v,q,rfl,_,r2⟩:=r;obtain⟨u,h1,h2⟩:=RHs.get (i:=i) (d:=d) r2 (by simpa using e)
  exact⟨u,by simpa using h1,h2⟩
mutual
theorem RH.inj{h:Heap}:∀{d e:D}{v:Z7},RH h d v->RH h e v->d=e
 |.int i,e,v,r,q=>by
  simp only[RH]at r;obtain⟨t,rfl⟩:=r;cases e<;>simp only[RH]at q<;>first
   |(obtain⟨t',z⟩:=q;cases z;rfl)
   |(obtain⟨t',z⟩:=q;cases z;done)
   |(obtain⟨a,its,z,_⟩:=q;cases z)
   |cases q
 |.str i,e,v,r,q=>by
  simp only[RH]at r;obtain⟨t,rfl⟩:=r;cases e<;>simp only[RH]at q<;>first
   |(obtain⟨t',z⟩:=q;cases z;rfl)
   |(obtain⟨t',z⟩:=q;cases z;done)
   |(obtain⟨a,its,z,_⟩:=q;cases z)
   |cases q
 |.tup ds,e,v,r,q=>by
  simp only[RH]at r;obtain⟨a,its,rfl,⟨o,g,_,n,hd⟩,rs⟩:=r;cases e with
  |tup es=>
   simp only[RH]at q;obtain⟨b,N4,z,⟨o',g',_,n',C_⟩,qs⟩:=q;cases z;rw[g]at g';obtain rfl:=Z9 g';rw[hd]at C_;have:its.toArray=N4.toArray:=by injection C_
   have e2:its=N4:=by simpa using this
   subst e2;rw[RHs.inj rs qs]
  |int _=>simp only[RH]at q;obtain⟨t',z⟩:=q;trivial
  |str _=>simp only[RH]at q;obtain⟨t',z⟩:=q;trivial
  |_=>simp only[RH]at q
 |.non,e,v,r,q=>by simp only[RH]at r
 |.bl _,e,v,r,q=>by simp only[RH]at r
 |.lst _,e,v,r,q=>by simp only[RH]at r
 |.dT _ _,e,v,r,q=>by simp only[RH]at r
 |.dK _ _,e,v,r,q=>by simp only[RH]at r
 |.dD _ _,e,v,r,q=>by simp only[RH]at r
 |.sp _ _,e,v,r,q=>by simp only[RH]at r
theorem RHs.inj{h:Heap}:∀{ds es:List D}{vs:List Z7},RHs h ds vs->RHs h es vs->ds=es
 |[],es,vs,r,q=>by
  simp only[RHs]at r;subst r;cases es with
  |nil=>rfl
  |cons e es=>simp only[RHs]at q;obtain⟨v,z,e,_⟩:=q;trivial
 |d::ds,es,vs,r,q=>by
  simp only[RHs]at r;obtain⟨v,z,rfl,r1,r2⟩:=r;cases es with
  |nil=>simp only[RHs]at q;trivial
  |cons e es=>
   simp only[RHs]at q;obtain⟨v',z',e',q1,q2⟩:=q;cases e';rw[RH.inj r1 q1,RHs.inj r2 q2]
end
mutual
theorem RH.to{h h':Heap}(k:∀a o,h.get? a=some o->o.cls=.type "tuple"->(∃its n,o.data=.seq its n)->h'.get? a=some o):∀{d:D}{v:Z7},RH h d v->RH h' d v
 |.int i,v,r=>by simp only[RH]at r⊢;exact r
 |.str i,v,r=>by simp only[RH]at r⊢;exact r
 |.tup ds,v,r=>by
  simp only[RH]at r⊢;obtain⟨a,its,e,⟨o,g,hc,n,hd⟩,rs⟩:=r;exact⟨a,its,e,⟨o,k a o g hc ⟨_,_,hd⟩,hc,n,hd⟩,RHs.to k rs⟩
 |.non,v,r=>by simp only[RH]at r
 |.bl _,v,r=>by simp only[RH]at r
 |.lst _,v,r=>by simp only[RH]at r
 |.dT _ _,v,r=>by simp only[RH]at r
 |.dK _ _,v,r=>by simp only[RH]at r
 |.dD _ _,v,r=>by simp only[RH]at r
 |.sp _ _,v,r=>by simp only[RH]at r
theorem RHs.to{h h':Heap}(k:∀a o,h.get? a=some o->o.cls=.type "tuple"->(∃its n,o.data=.seq its n)->h'.get? a=some o):∀{ds:List D}{vs:List Z7},RHs h ds vs->RHs h' ds vs
 |[],vs,r=>by simp only[RHs]at r⊢;exact r
 |d::ds,vs,r=>by
  simp only[RHs]at r⊢;obtain⟨v,z,e,r1,r2⟩:=r;exact⟨v,z,e,RH.to k r1,RHs.to k r2⟩
end
def An{P:ZC}{w:Zo}:∀(n:Nat)(d:D)(u:Z7)(A:Zu)(s:Z4)(Q:Int->Z4->Prop)(E:Z7->Z4->Prop),bH n d=true->A.units+2*n+2<cLine->RH s.heap d u->
  Q (eA w d) {s with toks:=s.toks+dW d}->wpAny (model P w) A (pyHash u) Q E s:=by
 intro n
 induction n using Nat.strongRecOn with
 |ind n ih=>
 intro d u A s Q E hd hA rd hQ;cases d with
 |int i=>
  simp only[RH]at rd;obtain⟨t,rfl⟩:=rd;simp only[eA,dW]at hQ;exact wpAny_pyHash_int hQ
 |str i=>
  simp only[RH]at rd;obtain⟨t,rfl⟩:=rd;simp only[eA,dW]at hQ;exact wpAny_pyHash_str hQ
 |tup ds=>
  simp only[RH]at rd;obtain⟨a,its,rfl,⟨o,ho,hc,m,q_⟩,hr⟩:=rd;obtain⟨k,rfl,C_⟩:=dy hd;have hT:s.TypeIs (.ref a) "tuple":=⟨o,ho,hc⟩;unfold pyHash;unfold pyHashByItsType;refine Z8 (wpAny_cRoomFor_or (.inr (by lia)) (Z8 (XZ hT WV.lookup ?_)))
  show wpAny _ _ (if(some (Value.builtin "tuple.__hash__")==some Value.none)=true then _ else _) Q E _
  rw[ZY (by rw[beq_builtin_none];exact Zv)]
  refine Z8 (XZ hT WV.lookup ?_)
  show wpAny _ _ (callSpecialIfBoundUnlessNone? (.ref a) "__hash__" _ >>= _) Q E _;refine Z8 (wpAny_callSpecialIfBoundUnlessNone?_slot hT WV (Y_ WV hT F.entry_tuple_hash ?_ (F.args_tuple_hash_1 _)))
  show wpAny _ _ (Builtin.Tuple.tupleItemsOf (.ref a) >>= _) _ _ _;refine Z8 (wpAny_tupleItemsOf ho q_ (Z8 ?_))
  rw[<-Array.forIn_toList];refine Xn _
   (fun ao (b:Array Int) s'=>∃done left,ds=done++left/\RHs s.heap left ao/\b.toList=done.map (eA w)/\s'={s with toks:=s.toks+bS done})
   _ ?_ ?_ _ _ ⟨[],ds,rfl,by simpa using hr,rfl,rfl⟩
  .rintro v ao b s' ⟨done,left,rfl,hl,hb,rfl⟩
   cases left with
   |nil=>simp only[RHs]at hl;trivial
   |cons d' Gq=>
    simp only[RHs]at hl;obtain⟨v',r',e',r1,r2⟩:=hl;cases e';have FN:bH k d'=true:=by
     rw[List.all_append,ZH,List.all_cons,ZH]at C_;exact C_.2.1
    refine Z8 (ih k (by lia) d' v _ _ _ _ FN ?_ r1 ?_)
    .show A.units+1+2*k+2<cLine;lia
    .have et:({s with toks:=s.toks+bS done+dW d'}:Z4)={s with toks:=s.toks+bS (done++[d'])}:=by rw[fo,Nat.add_assoc]
     first
      |exact Z3 ⟨done++[d'],Gq,by simp,r2,by simp[hb],et⟩
      |exact Z8 (Z3 (Z3 ⟨done++[d'],Gq,by simp,r2,by simp[hb],et⟩))
  .rintro b s' ⟨done,left,rfl,hl,hb,rfl⟩
   have K8:left=[]:=by
    have:=hl.length;cases left with
    |nil=>rfl
    |cons _ _=>simp at this
   subst K8;rw[Y6]at hQ;simp only[eA,gE,dW]at hQ;show wpAny _ _ (retInt (Builtin.Tuple.tupleHashOf b.toList)) _ _ _;rw[hb];refine wpAny_ret_mkInt ?_
   show wpAny _ _ (if(decide (-(2:Int) ^ 63<=Builtin.Tuple.tupleHashOf (done.map (eA w)))&&decide (Builtin.Tuple.tupleHashOf (done.map (eA w))<2 ^ 63))=true then _ else _) Q E _
   unfold reduceHash at hQ
   by_cases hr:(decide (-(2:Int) ^ 63<=Builtin.Tuple.tupleHashOf (done.map (eA w)))&&decide (Builtin.Tuple.tupleHashOf (done.map (eA w))<2 ^ 63))=true
   .rw[Z0 hr]
    rw[Z0 hr]at hQ;exact Z3 hQ
   .rw[ZY hr]
    rw[ZY hr]at hQ;exact Z8 (YW (Z3 hQ))
 |_=>simp[bH]at hd
def yi{P:ZC}{w:Zo}:∀(n:Nat)(d:D)(u:Z7)(A:Zu)(s:Z4)(Q:Bool->Z4->Prop)(E:Z7->Z4->Prop),bH n d=true->RH s.heap d u->Q true s->wpAny (model P w) A (eqIsQuiet n u) Q E s:=by
 intro n
 induction n using Nat.strongRecOn with
 |ind n ih=>
 intro d u A s Q E hd rd hQ;cases d with
 |int i=>simp only[RH]at rd;obtain⟨t,rfl⟩:=rd;unfold eqIsQuiet;exact Z3 hQ
 |str i=>simp only[RH]at rd;obtain⟨t,rfl⟩:=rd;unfold eqIsQuiet;exact Z3 hQ
 |tup ds=>
  simp only[RH]at rd;obtain⟨a,its,rfl,⟨o,ho,hc,m,q_⟩,hr⟩:=rd;obtain⟨k,rfl,C_⟩:=dy hd;have hT:s.TypeIs (.ref a) "tuple":=⟨o,ho,hc⟩;unfold eqIsQuiet;refine Z8 (XZ hT F.slot_tuple_eq.lookup ?_)
  dsimp only;refine Z8 (Yp hT isSubtype_tuple_tuple ?_)
  simp only[YU,ZK,Za];refine Z8 (Yo ho q_ (Z8 ?_))
  simp only[Option.getD_some];rw[<-Array.forIn_toList];refine Xn _ (fun ao b s'=>b.1=none/\s'=s/\∃left,left.all (bH k)=true/\RHs s.heap left ao) _ ?_ ?_ _ _ ⟨rfl,rfl,ds,C_,by simpa using hr⟩
  .rintro v ao b s' ⟨hb,rfl,left,FZ,hl⟩
   cases left with
   |nil=>simp only[RHs]at hl;trivial
   |cons d' Gq=>
    simp only[RHs]at hl;obtain⟨v',r',e',r1,r2⟩:=hl;cases e';rw[List.all_cons,ZH]at FZ;refine Z8 (ih k (by lia) d' v _ _ _ _ FZ.1 r1 ?_)
    simp only[YU,ZK,Za];exact Z3 ⟨rfl,rfl,Gq,FZ.2,r2⟩
  .rintro⟨b1,b2⟩ s' ⟨hb,rfl,_⟩
   simp only at hb;subst hb;exact Z3 hQ
 |_=>simp[bH]at hd
def zE:∀(ds es:List D),ds.length=es.length->((List.range ds.length).all fun j=>decide (ds[j]?=es[j]?))=decide (ds=es):=by
 intro ds es hl;rw[YL,ZM,Y8];constructor
 .intro h
  refine Xh fun j=>?_
  by_cases hj:j<ds.length
  .exact Zc (h j (Yx.mpr hj))
  .rw[YS (by lia),YS (by lia)]
 .rintro rfl j _
  exact Zm rfl
def xC(ds es:List D):(((List.range (min ds.length es.length)).all fun j=>decide (ds[j]?=es[j]?))&&ds.length==es.length)=decide (ds=es):=by
 by_cases hl:ds.length=es.length
 .rw[hl,Nat.min_self,Yh,Xv,<-hl,zE ds es hl]
 .rw[show(ds.length==es.length)=false by simpa using hl,WL,ZN fun z=>hl (by rw[z])]
open SeqAt in
def Ej{s:Z4}:∀(n:Nat)(d e:D)(u w:Z7)(A:Zu),bH n d=true->bH n e=true->A.units+n+1<cLine->RH s.heap d u->RH s.heap e w->EqAt A s u w (decide (d=e)):=by
 intro n
 induction n using Nat.strongRecOn with
 |ind n ih=>
 intro d e u w A hd he hA rd re;have hu:A.units<cLine:=by lia
 cases d with
 |int i=>
  simp only[RH]at rd;obtain⟨t',rfl⟩:=rd;cases e with
  |int j=>
   simp only[RH]at re;obtain⟨t,rfl⟩:=re;rw[show decide (D.int i=D.int j)=(i==j) by rw[YL,Y8,Zx,D.int.injEq]]
   exact EqAt.int_int i t' j t
  |str j=>simp only[RH]at re;obtain⟨t,rfl⟩:=re;rw[ZN nofun];exact EqAt.int_str i t' j t
  |tup es=>simp only[RH]at re;obtain⟨b,its,rfl,ht,_⟩:=re;rw[ZN nofun];exact EqAt.int_tuple i t' ht hu
  |_=>simp[bH]at he
 |str i=>
  simp only[RH]at rd;obtain⟨t',rfl⟩:=rd;cases e with
  |int j=>simp only[RH]at re;obtain⟨t,rfl⟩:=re;rw[ZN nofun];exact EqAt.str_int i t' j t
  |str j=>
   simp only[RH]at re;obtain⟨t,rfl⟩:=re;rw[show decide (D.str i=D.str j)=(i==j) by rw[YL,Y8,Zx,D.str.injEq]]
   exact EqAt.str_str i t' j t
  |tup es=>simp only[RH]at re;obtain⟨b,its,rfl,ht,_⟩:=re;rw[ZN nofun];exact EqAt.str_tuple i t' ht hu
  |_=>simp[bH]at he
 |tup ds=>
  have PM:=rd;simp only[RH]at rd;obtain⟨a,its,rfl,B_,hr⟩:=rd;obtain⟨k,rfl,C_⟩:=dy hd;cases e with
  |int j=>simp only[RH]at re;obtain⟨t,rfl⟩:=re;rw[ZN nofun];exact EqAt.tuple_int j t B_ hu
  |str j=>simp only[RH]at re;obtain⟨t,rfl⟩:=re;rw[ZN nofun];exact EqAt.tuple_str j t B_ hu
  |tup es=>
   have PL:=re;simp only[RH]at re;obtain⟨b,l_,rfl,Gi,GV⟩:=re;obtain⟨k',e',Ic⟩:=dy he;cases e';have l1:=hr.length;have l2:=GV.length
   by_cases HK:a=b
   .subst HK
    rw[Zm (RH.inj PM PL)];exact EqAt.same _
   .have el:∀j (h1:j<its.toArray.size) (h2:j<l_.toArray.size),EqAt A.in1 s its.toArray[j] l_.toArray[j] (decide (ds[j]?=es[j]?)):=fun j h1 h2=>by
     simp only[ZQ]at h1 h2;obtain⟨d',FN⟩:∃d',ds[j]?=some d':=⟨ds[j]'(by lia),by simp⟩
     obtain⟨e',G6⟩:∃e',es[j]?=some e':=⟨es[j]'(by lia),by simp⟩
     obtain⟨u',Gy,J5⟩:=hr.get FN;obtain⟨w',Ke,A_⟩:=GV.get G6;have q:=ih k (Yg k) d' e' u' w' A.in1 ((ZM.mp C_) d' (Zj FN)) ((ZM.mp Ic) e' (Zj G6)) (by show A.units+1+k+1<cLine;lia) J5 A_
     have g1:its.toArray[j]=u':=by simpa using(ZW.mp Gy).2
     have g2:l_.toArray[j]=w':=by simpa using(ZW.mp Ke).2
     rw[g1,g2,FN,G6,show decide (some d'=some e')=decide (d'=e') by simp]
     exact q
    have key:((List.range (min its.toArray.size l_.toArray.size)).all (fun j=>decide (ds[j]?=es[j]?))&&its.toArray.size==l_.toArray.size)=decide (D.tup ds=D.tup es):=by
     rw[ZQ,ZQ,<-l1,<-l2,xC];simp only[D.tup.injEq]
    have rc:=RcAt.tuples B_ Gi hu el;rw[key]at rc;exact EqAt.of_refs HK rc
  |_=>simp[bH]at he
 |_=>simp[bH]at hd
noncomputable def br(P:ZC)(w:Zo):HeapKind P w D where
 is h d a:=bH 8 d=true/\RH h d (.ref a)
 hash:=eA w
 draws:=dW
 room A:=A.units+30<cLine
 inj hx hy:=RH.inj hx.2 hy.2
 keeps:=fun{h h' k a d o es ep} hk ho hd hs=>⟨hk.1,hk.2.to fun b u g _ ⟨its,n,q⟩=>((hs.2 b (fun e=>by subst e;rw[ho]at g;obtain rfl:=Z9 g;rw[hd]at q;trivial)).trans g)⟩
 pyHash:=fun{A E s k a Q} hr hk h=>An 8 k _ A s Q E hk.1 (by lia) hk.2 h
 eqBool:=fun{A E s x y a b Q} hr hx hy h=>Ej 8 x y _ _ A hx.1 hy.1 (by lia) hx.2 hy.2 P w E Q h
 quiet:=fun{A E s k a Q} hk h=>yi 8 k _ A s Q E hk.1 hk.2 h
def nZ:Key->Z7->Bool
 |.inl k,v=>Value.isInt k v
 |.inr x,v=>Value.isStrOf x v
def EJ(w:Zo):Key->Int
 |.inl k=>hashInt k
 |.inr x=>hashStr w x
def aI:∀{k:Key}{v:Z7},nZ k v=true->(∃i t,k=Sum.inl i/\v=Value.int i t)\/(∃x t,k=Sum.inr x/\v=Value.str x t)
 |.inl i,v,h=>by
  obtain⟨t,e⟩:=Value.isInt_shape (k:=i) (v:=v) h;exact .inl ⟨i,t,rfl,e⟩
 |.inr x,v,h=>by
  obtain⟨t,e⟩:=Value.isStrOf_shape (x:=x) (v:=v) h;exact .inr ⟨x,t,rfl,e⟩
def sQ(i:Int)(t:Tok):nZ (.inl i) (.int i t)=true:=by simp[nZ,Value.isInt]
def sV(x:Str)(t:Tok):nZ (.inr x) (.str x t)=true:=by simp[nZ,Value.isStrOf]
def Az(a b:Int):decide ((Sum.inl a:Key)=Sum.inl b)=(a==b):=by
 by_cases e:a=b
 .subst e;simp
 .have h:¬(Sum.inl a:Key)=Sum.inl b:=fun q=>e (Sum.inl.inj q)
  rw[ZN h];exact(beq_eq_false_iff_ne.mpr e).symm
def zG(a b:Str):decide ((Sum.inr a:Key)=Sum.inr b)=decide (a=b):=by
 by_cases e:a=b
 .subst e;simp
 .have h:¬(Sum.inr a:Key)=Sum.inr b:=fun q=>e (Sum.inr.inj q)
  rw[ZN h,ZN e]
def AW(a:Int)(b:Str):decide ((Sum.inl a:Key)=Sum.inr b)=false:=ZN (fun q=>nomatch q)
def zX(a:Str)(b:Int):decide ((Sum.inr a:Key)=Sum.inl b)=false:=ZN (fun q=>nomatch q)
noncomputable def aS(prog:ZC)(w:Zo):PySem.KeyKind prog w Key where
 is:=nZ
 hash:=EJ w
 inj:=fun v a b ha hb=>by
  rcases aI ha with⟨i,t,rfl,rfl⟩|⟨x,t,rfl,rfl⟩
  .rcases aI hb with⟨j,u,rfl,e⟩|⟨y,u,rfl,e⟩
   .injection e with e1 _;rw[e1]
   .exact nomatch e
  .rcases aI hb with⟨j,u,rfl,e⟩|⟨y,u,rfl,e⟩
   .exact nomatch e
   .injection e with e1 _;rw[e1]
 byValue:=fun k v h=>by
  rcases aI h with⟨i,t,rfl,rfl⟩|⟨x,t,rfl,rfl⟩<;>rfl
 pyHash:=fun hv h=>by
  rcases aI hv with⟨i,t,rfl,rfl⟩|⟨x,t,rfl,rfl⟩
  .exact wpAny_pyHash_int h
  .exact wpAny_pyHash_str h
 eqBool:=fun hu hv h=>by
  rcases aI hu with⟨i,t,rfl,rfl⟩|⟨x,t,rfl,rfl⟩
  .rcases aI hv with⟨j,u,rfl,rfl⟩|⟨y,u,rfl,rfl⟩
   .rw[Az]at h;exact wpAny_eqBool_int h
   .rw[AW]at h;exact SeqAt.EqAt.int_str i t y u _ _ _ _ h
  .rcases aI hv with⟨j,u,rfl,rfl⟩|⟨y,u,rfl,rfl⟩
   .rw[zX]at h;exact SeqAt.EqAt.str_int x t j u _ _ _ _ h
   .rw[zG]at h;exact wpAny_eqBool_str h
 «strs»:=fun k x t v h=>by
  rcases aI h with⟨i,u,rfl,e⟩|⟨y,u,rfl,e⟩
  .exact nomatch e
  .injection e with e1 _
   subst e1;cases v<;>rfl
def kW(prog:ZC)(w:Zo)(i:Int)(t:Tok):(aS prog w).is (.inl i) (.int i t)=true:=sQ i t
def lQ(prog:ZC)(w:Zo)(x:Str)(t:Tok):(aS prog w).is (.inr x) (.str x t)=true:=sV x t
inductive V where
 |non|bl (b:Bool)|int (i:Int)|str (x:Str)|byt (b:Array UInt8)|flt (b:UInt64)|ref (a:Z2)|ty (n:String)
 deriving DecidableEq
def RelV:V->Z7->Prop
 |.non,u=>u=Value.none
 |.bl b,u=>u=Value.bool b
 |.int i,u=>∃t,u=Value.int i t
 |.str x,u=>∃t,u=Value.str x t
 |.byt b,u=>∃t,u=Value.bytes b t
 |.flt b,u=>∃t,u=Value.float b t
 |.ref a,u=>u=Value.ref a
 |.ty n,u=>u=Value.type n
abbrev Vals:List V->List Z7->Prop:=Paired RelV
theorem Vals.length{xs:List V}{us:List Z7}(r:Vals xs us):xs.length=us.length:=YF r
theorem Vals.get:∀{xs:List V}{us:List Z7}{i:Nat}{x:V},Vals xs us->xs[i]?=some x->∃u,us[i]?=some u/\RelV x u
 |_,_,_,_,.nil,e=>by simp at e
 |_,_,0,_,.cons r _,e=>by simp at e;subst e;exact⟨_,rfl,r⟩
 |_,_,i+1,x,.cons _ t,e=>by
  obtain⟨u,h1,h2⟩:=Vals.get (i:=i) (x:=x) t (by simpa using e)
  exact⟨u,by simpa using h1,h2⟩
theorem Vals.append:∀{xs ys:List V}{us ws:List Z7},Vals xs us->Vals ys ws->Vals (xs++ys) (us++ws)
 |_,_,_,_,.nil,s=>s
 |_,_,_,_,.cons r t,s=>.cons r (Vals.append t s)
theorem Vals.take:∀{xs:List V}{us:List Z7}(n:Nat),Vals xs us->Vals (xs.take n) (us.take n)
 |_,_,0,_=>.nil
 |_,_,_+1,.nil=>.nil
 |_,_,n+1,.cons r t=>.cons r (Vals.take n t)
theorem Vals.drop:∀{xs:List V}{us:List Z7}(n:Nat),Vals xs us->Vals (xs.drop n) (us.drop n)
 |_,_,0,r=>r
 |_,_,_+1,.nil=>.nil
 |_,_,n+1,.cons _ t=>Vals.drop n t
def RelO:Z_ V->Z_ Z7->Prop
 |some v,some u=>RelV v u
 |none,none=>True
 |_,_=>False
def KV{κ:Type}:List (κ×V)->List (κ×Z7)->Prop:=Paired fun(p:κ×V) (q:κ×Z7)=>p.1=q.1/\RelV p.2 q.2
def kV:Key->V
 |.inl i=>.int i
 |.inr x=>.str x
inductive HO where
 |lst (xs:List V)
 |tup (xs:List V)
 |dK (b_:List (Key×V))|dT (b_:List (List Key×V))|dD (b_:List (D×V)) (ep:Nat)
 |set (S:Int->Bool) (n:Nat)
 |ins (C dx:Z2) (fs:List (Str×V))
 |own (x:Z2)
 |xd (fs:List (Str×V))
 |met (f x:Z2)
 |rng (lo hi:Int)
 |frz (o:Obj) (u:HO)
 |tbl (lq:Str) (ps:Array Z7)
 |ext (φ:Heap->Prop)
abbrev Hp:=Z2->Z_ HO
def upd(H:Hp)(a:Z2)(o:HO):Hp:=fun b=>if b=a then some o else H b
def ag{H:Hp}{a:Z2}{o:HO}:upd H a o a=some o:=by unfold upd;rw[Z0 rfl]
def ai{H:Hp}{a b:Z2}{o:HO}(h:b≠a):upd H a o b=H b:=by unfold upd;rw[ZY h]
def u8{H:Hp}{a b:Z2}{o u:HO}(h:H a=some o)(h':H b=some u)(d:o≠u):a≠b:=by
 intro e;subst e;rw[h]at h';exact d (Z9 h')
def aq{H:Hp}{a b:Z2}{o:HO}(h:H a=some o)(h':H b=none):a≠b:=by
 intro e;subst e;rw[h]at h';trivial
mutual
def KR(H:Hp):D->V->Prop
 |.int i,v=>v=.int i
 |.str x,v=>v=.str x
 |.tup ds,v=>∃a xs,v=.ref a/\H a=some (.tup xs)/\KRs H ds xs
 |_,_=>False
def KRs(H:Hp):List D->List V->Prop
 |[],xs=>xs=[]
 |d::ds,xs=>∃x r,xs=x::r/\KR H d x/\KRs H ds r
end
mutual
theorem KR.to{H H':Hp}(t:∀a xs,H a=some (.tup xs)->H' a=some (.tup xs)):∀{d:D}{v:V},KR H d v->KR H' d v
 |.int i,v,r=>by simp only[KR]at r⊢;exact r
 |.str i,v,r=>by simp only[KR]at r⊢;exact r
 |.tup ds,v,r=>by
  simp only[KR]at r⊢;obtain⟨a,xs,e,g,rs⟩:=r;exact⟨a,xs,e,t a xs g,KRs.to t rs⟩
 |.non,v,r=>by simp only[KR]at r
 |.bl _,v,r=>by simp only[KR]at r
 |.lst _,v,r=>by simp only[KR]at r
 |.dT _ _,v,r=>by simp only[KR]at r
 |.dK _ _,v,r=>by simp only[KR]at r
 |.dD _ _,v,r=>by simp only[KR]at r
 |.sp _ _,v,r=>by simp only[KR]at r
theorem KRs.to{H H':Hp}(t:∀a xs,H a=some (.tup xs)->H' a=some (.tup xs)):∀{ds:List D}{xs:List V},KRs H ds xs->KRs H' ds xs
 |[],xs,r=>by simp only[KRs]at r⊢;exact r
 |d::ds,xs,r=>by
  simp only[KRs]at r⊢;obtain⟨x,q,e,r1,r2⟩:=r;exact⟨x,q,e,KR.to t r1,KRs.to t r2⟩
end
def DPairs(H:Hp):List (D×V)->List (D×Z2×Z7)->Prop:=Paired fun p q=>p.1=q.1/\bH 8 p.1=true/\KR H p.1 (.ref q.2.1)/\RelV p.2 q.2.2
section
variable(P:ZC)(w:Zo)
def ObjOk(H:Hp)(h:Heap)(a:Z2):HO->Prop
 |.lst xs=>xs.length<=sizeLine/\∃(its:List Z7)(n:Nat),Vals xs its/\h.get? a=some {cls:=.type "list",data:=.seq its.toArray n}
 |.tup xs=>xs.length<=sizeLine/\∃its:List Z7,Vals xs its/\IsTup h a its.toArray
 |.dK b_=>b_.length<=sizeLine/\(a==sysModules)=false/\∃vs,KV b_ vs/\h.DictOf (aS P w) a vs
 |.dT b_=>b_.length<=sizeLine/\(a==sysModules)=false/\∃xs:List (List Key×Z2×Z7),
   Paired (fun(p:List Key×V) (q:List Key×Z2×Z7)=>p.1=q.1/\H q.2.1=some (.tup (p.1.map kV))/\RelV p.2 q.2.2) b_ xs/\
   ∃o es ep,h.get? a=some o/\o.ExactDict/\o.data=.dict es ep/\es.toList=xs.map (entryOfKey (tupleKind (aS P w)))/\(xs.map (·.1)).Nodup
 |.dD b_ ep=>b_.length<=sizeLine/\(a==sysModules)=false/\∃xs,DPairs H b_ xs/\
   ∃o es,h.get? a=some o/\o.ExactDict/\o.data=.dict es ep/\es.toList=xs.map (entryOfKey (br P w))/\(xs.map (·.1)).Nodup
 |.set S n=>h.SetOf (intKind P w) a S n
 |.ins C dx fs=>H dx=some (.own a)/\fs.length<=1000/\dx≠a/\h.get? a=some (PySem.W.instObj C dx)/\
   ∃mA,h.Ns1 dx mA/\(∀f,RelO (fs.lookup f) (mA f))/\PySem.Within mA (fs.map (·.1))
 |.own _=>∃o,h.get? a=some o
 |.xd fs=>∃mA,h.Ns1 a mA/\∀f,RelO (fs.lookup f) (mA f)
 |.rng lo hi=>∃t u v,h.get? a=some {cls:=.type "range",data:=.fields #[.int lo t,.int hi u,.int 1 v]}
 |.frz o u=>h.get? a=some o/\ObjOk H h a u
 |.tbl lq ps=>h.get? a=some {cls:=.none,data:=.fields ps}/\TriplesOk ps.toList/\∀pos cv,codeAmong pos ps.toList=some cv->
   ∃c' oc vs t,cv=.ref c'/\H c'=some (.own a)/\h.get? c'=some oc/\oc.data=.fields vs/\vs[1]?=some (.str lq t)
 |.met f x=>h.get? a=some (PySem.W.methodObj (.ref f) (.ref x))
 |.ext φ=>φ h/\(∃o,h.get? a=some o)/\∀h1 h2:Heap,φ h1->(∀o,h1.get? a=some o->h2.get? a=some o)->φ h2
def HOk(H:Hp)(h:Heap):Prop:=∀a o,H a=some o->ObjOk P w H h a o
end
section
variable{P:ZC}{w:Zo}{H H':Hp}{h h':Heap}{a:Z2}{o:HO}
theorem ObjOk.lt(x:ObjOk P w H h a o):a<h.objs.size:=by
 cases o with
 |lst xs=>obtain⟨_,_,_,_,e⟩:=x;exact ZO e
 |tup xs=>obtain⟨_,_,_,p⟩:=x;exact p.lt
 |dK b_=>obtain⟨_,_,_,_,o,_,_,e,_⟩:=x;exact ZO e
 |dT b_=>obtain⟨_,_,_,_,o,_,_,e,_⟩:=x;exact ZO e
 |dD b_ ep=>obtain⟨_,_,_,_,o,_,e,_⟩:=x;exact ZO e
 |set S n=>obtain⟨o,_,_,_,e,_⟩:=x;exact ZO e
 |ins C dx fs=>obtain⟨_,_,_,e,_⟩:=x;exact ZO e
 |own y=>obtain⟨_,e⟩:=x;exact ZO e
 |xd fs=>obtain⟨_,⟨_,_,_,e,_⟩,_⟩:=x;exact ZO e
 |rng lo hi=>obtain⟨_,_,_,e⟩:=x;exact ZO e
 |frz ob u=>obtain⟨e,_⟩:=x;exact ZO e
 |tbl lq ps=>exact ZO x.1
 |met f y=>exact ZO (show h.get? a=some _ from x)
 |ext φ=>obtain⟨_,⟨_,e⟩,_⟩:=x;exact ZO e
theorem Paired.mapP{α β:Type}{F G:α->β->Prop}:∀{KQ:List α}{KP:List β},Paired F KQ KP->(∀a b,F a b->G a b)->Paired G KQ KP
 |_,_,.nil,_=>.nil
 |_,_,.cons r t,f=>.cons (f _ _ r) (Paired.mapP t f)
def ObjOk.stay(x:ObjOk P w H h a o)(k:∀b u,(b=a\/H b=some (.own a))->h.get? b=some u->h'.get? b=some u)
  (ho:∀b,H b=some (.own a)->H' b=some (.own a))(ht:∀b xs,H b=some (.tup xs)->H' b=some (.tup xs)):ObjOk P w H' h' a o:=by
 induction o with
 |lst xs=>obtain⟨z,its,n,r,e⟩:=x;exact⟨z,its,n,r,k _ _ (.inl rfl) e⟩
 |tup xs=>obtain⟨z,its,r,ob,e,c⟩:=x;exact⟨z,its,r,ob,k _ _ (.inl rfl) e,c⟩
 |dK b_=>obtain⟨z,y,vs,r,ob,es,ep,e,c⟩:=x;exact⟨z,y,vs,r,ob,es,ep,k _ _ (.inl rfl) e,c⟩
 |dT b_=>
  obtain⟨z,y,xs,r,ob,es,ep,e,c⟩:=x;exact⟨z,y,xs,Paired.mapP r fun p q z=>⟨z.1,ht _ _ z.2.1,z.2.2⟩,ob,es,ep,k _ _ (.inl rfl) e,c⟩
 |dD b_ ep=>
  obtain⟨z,y,xs,r,ob,es,e,c⟩:=x;exact⟨z,y,xs,Paired.mapP r fun p q z=>⟨z.1,z.2.1,KR.to ht z.2.2.1,z.2.2.2⟩,ob,es,k _ _ (.inl rfl) e,c⟩
 |set S n=>obtain⟨ob,es,ep,t,e,c⟩:=x;exact⟨ob,es,ep,t,k _ _ (.inl rfl) e,c⟩
 |ins C dx fs=>
  obtain⟨d,z,ne,e,mA,⟨od,es,ep,e2,c⟩,r⟩:=x;exact⟨ho _ d,z,ne,k _ _ (.inl rfl) e,mA,⟨od,es,ep,k _ _ (.inr d) e2,c⟩,r⟩
 |own y=>obtain⟨ob,e⟩:=x;exact⟨ob,k _ _ (.inl rfl) e⟩
 |xd fs=>obtain⟨mA,⟨od,es,ep,e,c⟩,r⟩:=x;exact⟨mA,⟨od,es,ep,k _ _ (.inl rfl) e,c⟩,r⟩
 |rng lo hi=>obtain⟨t,u,v,e⟩:=x;exact⟨t,u,v,k _ _ (.inl rfl) e⟩
 |frz ob u ih=>obtain⟨e,q⟩:=x;exact⟨k _ _ (.inl rfl) e,ih q⟩
 |tbl lq ps=>
  obtain⟨e,tr,r⟩:=x;refine⟨k _ _ (.inl rfl) e,tr,fun pos cv q=>?_⟩
  obtain⟨c',oc,vs,t,e1,e2,e3,e4⟩:=r pos cv q;exact⟨c',oc,vs,t,e1,ho _ e2,k _ _ (.inr e2) e3,e4⟩
 |met f y=>
  have e:h.get? a=some (PySem.W.methodObj (.ref f) (.ref y)):=x;show h'.get? a=some (PySem.W.methodObj (.ref f) (.ref y));exact k a _ (.inl rfl) e
 |ext φ=>obtain⟨p,⟨o,e⟩,st⟩:=x;exact⟨st _ _ p fun o q=>k _ _ (.inl rfl) q,⟨o,k _ _ (.inl rfl) e⟩,st⟩
theorem HOk.lt(x:HOk P w H h)(e:H a=some o):a<h.objs.size:=(x a o e).lt
def HOk.fresh(x:HOk P w H h)(e:h.objs.size<=a):H a=none:=by
 cases q:H a with
 |none=>rfl
 |some u=>exact absurd (ZA (x.lt q) e) (Y5 _)
def HOk.kept(x:HOk P w H h)(k:∀b u,h.get? b=some u->h'.get? b=some u):HOk P w H h':=fun a o e=>
 (x a o e).stay (fun b u _ q=>k b u q) (fun _ q=>q) fun _ _ q=>q
def HOk.laid(x:HOk P w H h)(k:∀b u,h.get? b=some u->h'.get? b=some u)(hp:h.objs.size<=a)(new:ObjOk P w (upd H a o) h' a o):HOk P w (upd H a o) h':=fun b u e=>by
 have hn:=x.fresh hp
 by_cases hb:b=a
 .subst hb;rw[ag]at e;obtain rfl:=Z9 e;exact new
 .rw[ai hb]at e
  exact(x b u e).stay (fun c v _ q=>k c v q) (fun c q=>by rw[ai (aq q hn)];exact q) fun c xs q=>by rw[ai (aq q hn)];exact q
end
def Rd(H:Hp)(a:Z2)(u:HO):Prop:=H a=some u\/∃o,H a=some (.frz o u)
def Rd.ok{P:ZC}{w:Zo}{H:Hp}{h:Heap}{a:Z2}{u:HO}(r:Rd H a u)(x:HOk P w H h):ObjOk P w H h a u:=by
 rcases r with r|⟨o,r⟩
 .exact x a u r
 .obtain⟨_,q⟩:=x a _ r
  exact q
def Mut:Z_ HO->Prop
 |some (.lst _)=>True
 |some (.dK _)=>True
 |some (.dT _)=>True
 |some (.dD _ _)=>True
 |some (.set _ _)=>True
 |some (.ins _ _ _)=>True
 |some (.ext _)=>True
 |_=>False
section
variable{P:ZC}{w:Zo}{H:Hp}{h h':Heap}{x e:Z2}{o':HO}
def HOk.write(ok:HOk P w H h)(mu:Mut (H x))(he:e=x\/H e=some (.own x))(k:∀b u,b≠e->h.get? b=some u->h'.get? b=some u)(Iu:∃u,h'.get? e=some u)
  (new:ObjOk P w (upd H x o') h' x o'):HOk P w (upd H x o') h':=fun b u q=>by
 have GI:∀c y,H c=some (.own y)->c≠x:=fun c y r z=>by subst z;rw[r]at mu;exact mu
 have IZ:∀c xs,H c=some (.tup xs)->c≠x:=fun c xs r z=>by subst z;rw[r]at mu;exact mu
 by_cases hb:b=x
 .subst hb;rw[ag]at q;obtain rfl:=Z9 q;exact new
 .rw[ai hb]at q
  by_cases IS:b=e
  .have q':H b=some (.own x):=by
    rcases he with z|z
    .exact absurd (IS.trans z) hb
    .rw[IS];exact z
   rw[q]at q';obtain rfl:=Z9 q';obtain⟨v,hv⟩:=Iu;exact⟨v,by rw[IS];exact hv⟩
  .refine(ok b u q).stay (fun c v hc r=>k c v ?_ r) (fun c r=>by rw[ai (GI c b r)];exact r) fun c xs r=>by rw[ai (IZ c xs r)];exact r
   rcases hc with rfl|hc
   .exact IS
   .rintro rfl
    rcases he with z|z
    .exact GI c b hc z
    .rw[hc]at z;cases z;exact hb rfl
end
structure Un (fs ex:List Z2)(H H':Hp)(h h':Heap):Prop where
 keep:∀b o,h.get? b=some o->H b=none->b∉fs->b∉ex->h'.get? b=some o
 slot:∀b o,h.get? b=some o->H b=none->b∈fs->b∉ex->∃sl,h'.get? b=some {o with slots:=sl}
 free:∀b o,h.get? b=some o->H b=none->b∉ex->H' b=none
 there:∀b o,h.get? b=some o->b∉ex->∃o',h'.get? b=some o'
 tups:∀b xs,H b=some (.tup xs)->H' b=some (.tup xs)
 frzs:∀b o u,H b=some (.frz o u)->H' b=some (.frz o u)
 tbls:∀b lq ps,H b=some (.tbl lq ps)->∃more,H' b=some (.tbl lq (ps++more))
section
variable{fs Ie ex SG:List Z2}{H H1 H2:Hp}{h h1 h2 h':Heap}{a x e:Z2}{o:HO}
def Un.any(u:Un fs ex H H1 h h1){b:Z2}{ob:Obj}(q:h.get? b=some ob)(n:H b=none)(hx:b∉ex):∃sl,h1.get? b=some {ob with slots:=sl}:=by
 by_cases hb:b∈fs
 .exact u.slot b ob q n hb hx
 .exact⟨ob.slots,u.keep b ob q n hb hx⟩
def Un.kept(k:∀b u,h.get? b=some u->h'.get? b=some u):Un fs ex H H h h':=
 ⟨fun b ob q _ _ _=>k b ob q,fun b ob q _ _ _=>⟨ob.slots,k b ob q⟩,fun _ _ _ n _=>n,fun b ob q _=>⟨ob,k b ob q⟩,fun _ _ q=>q,fun _ _ _ q=>q,fun _ lq ps q=>⟨#[],by rw[q];simp⟩⟩
def Un.refl:Un fs ex H H h h:=Un.kept fun _ _ q=>q
def Un.laid(k:∀b u,h.get? b=some u->h'.get? b=some u)(hp:h.objs.size<=a)(hn:H a=none):Un fs ex H (upd H a o) h h' where
 keep:=fun b u q _ _ _=>k b u q
 slot:=fun b u q _ _ _=>⟨u.slots,k b u q⟩
 free:=fun b u q n _=>by rw[ai (Zw (ZA (ZO q) hp))];exact n
 there:=fun b u q _=>⟨u,k b u q⟩
 tups:=fun b xs q=>by rw[ai (aq q hn)];exact q
 frzs:=fun b u xs q=>by rw[ai (aq q hn)];exact q
 tbls:=fun b lq ps q=>⟨#[],by rw[ai (aq q hn),q];simp⟩
def Un.write(mu:Mut (H x))(he:e=x\/H e=some (.own x))(k:∀b u,b≠e->h.get? b=some u->h'.get? b=some u)(Iu:∃u,h'.get? e=some u):Un fs ex H (upd H x o) h h':=by
 have hx:∀b,H b=none->b≠x:=fun b n z=>by subst z;rw[n]at mu;exact mu
 have hb:∀b,H b=none->b≠e:=fun b n z=>by
  subst z
  rcases he with r|r
  .exact hx b n r
  .rw[n]at r;trivial
 have hm:∀b u,H b=some u->¬Mut (some u)->b≠x:=fun b u q nm z=>by subst z;rw[q]at mu;exact nm mu
 refine⟨fun b u q n _ _=>k b u (hb b n) q,fun b u q n _ _=>⟨u.slots,k b u (hb b n) q⟩,fun b u q n _=>by rw[ai (hx b n)];exact n,fun b u q _=>?_,
  fun b xs q=>by rw[ai (hm b _ q fun z=>z)];exact q,fun b u xs q=>by rw[ai (hm b _ q fun z=>z)];exact q,fun b lq ps q=>⟨#[],by rw[ai (hm b _ q fun z=>z),q];simp⟩⟩
 by_cases IS:b=e
 .subst IS;exact Iu
 .exact⟨u,k b u IS q⟩
end
def trk(h:Heap)(H:Hp):List Z2:=(List.range h.objs.size).filter fun a=>(H a).isSome
def uC(h:Heap)(H:Hp):Heap:=PySem.W.hideAll h (trk h H)
def sO(h:Heap)(H:Hp):(uC h H).objs.size=h.objs.size:=PySem.W.hideAll_size _ _
def uY{h:Heap}{H:Hp}{b:Z2}{o:Obj}(e:h.get? b=some o)(n:H b=none):(uC h H).get? b=some o:=
 PySem.W.hideAll_get _ e fun hm=>by
  have q:(H b).isSome=true:=(YM.mp hm).2;rw[n]at q;simp at q
def yK{h:Heap}{H:Hp}{b:Z2}{o:Obj}(e:(uC h H).get? b=some o):h.get? b=some o/\H b=none:=by
 have e':h.get? b=some o:=PySem.W.of_hideAll (trk h H) e;refine⟨e',?_⟩
 cases q:H b with
 |none=>rfl
 |some x=>
  have hm:b∈trk h H:=YM.mpr ⟨Yx.mpr (ZO e'),by simp[q]⟩
  have z:(uC h H).get? b=none:=PySem.W.hideAll_none (trk h H) hm;rw[z]at e;trivial
noncomputable def yb(g h:Heap)(L:Z2):List (Z2×Obj):=(List.range h.objs.size).filterMap fun a=>if a=L\/(g.get? a).isSome=true then none else(h.get? a).map fun o=>(a,o)
def ao(g h:Heap)(L d:Z2):List (Z2×Obj):=(yb g h L).filter fun p=>decide (p.1≠d)
section
structure Mod (K:Z5)(mg:Str->Z_ Z7)(base:Heap):Prop where
 kin:K.In base
 glob:base.Ns mainGlobals mg
 blt:∃mb,base.Ns builtinsNs mb/\∀x:Str,x≠"__name__"->mb x=bootBuiltins x
 nolimit:base.NoLimit
 bmain:∃bm ob,mg "__builtins__"=some (.ref bm)/\bm≠builtinsNs/\base.get? bm=some ob/\ob.cls=.type "module"/\ob.dict=some builtinsNs/\ob.data=.plain
structure Cx where
 prog:ZC
 w:Zo
 K:Z5
 mg:Str->Z_ Z7
 base:Heap
 A:Zu
 N:List Str
 p_:Z4
 GR:Hp
 env:Env
 outer:List Env
 stack:List Env
 ex:List Z2
 fn:Str->Bool
 calm:Bool
 pn:List (Z2×Obj)
 xe:Z7->Z4->Prop
def frs(l:List Env):List Z2:=l.filterMap (·.frame)
abbrev Cx.fs(X:Cx):List Z2:=frs X.outer
def Vis(sc:Scope)(x:Str):Prop:=sc.names.lookup x=some .local\/sc.names.lookup x=some .cell\/sc.names.lookup x=some .free
def Loc(sc:Scope)(x:Str):Prop:=sc.names.lookup x=some .local\/sc.names.lookup x=some .cell
def Ek(env:Env)(h:Heap)(m:Str->Z_ Z7)(x:Str)(u:Z7):Prop:=
 (env.kindOf x=some .local/\m x=some u)\/((env.kindOf x=some .cell\/env.kindOf x=some .free)/\∃c,env.cells.lookup x=some c/\h.IsCell c (some u))
variable[Lams]
def TabH(H:Hp):Prop:=∀q∈Lams.tb,∃ps,H q.1=some (.tbl q.2 ps)
def TabH.to{H H':Hp}(h:TabH H)(tb:∀b lq ps,H b=some (.tbl lq ps)->∃more,H' b=some (.tbl lq (ps++more))):TabH H':=fun q hq=>by
 obtain⟨ps,e⟩:=h q hq;obtain⟨m,e'⟩:=tb _ _ _ e;exact⟨_,e'⟩
structure Cx.Ok (X:Cx):Prop where
 mod:Mod X.K X.mg X.base
 kind:X.env.scope.kind=.function
 glob:X.env.globals=mainGlobals
 blt:X.env.builtins=builtinsNs
 above:X.p_.heap.objs.size<=X.env.locals
 inj:∀x y c,X.env.cells.lookup x=some c->X.env.cells.lookup y=some c->x=y
 has:∀x,(X.env.kindOf x=some .cell\/X.env.kindOf x=some .free)->∃c,X.env.cells.lookup x=some c
 cab:∀x c,X.fn x=true->X.env.cells.lookup x=some c->X.p_.heap.objs.size<=c
 hd:X.calm=true->X.A.handled=none
 frames:X.A.frames=some X.stack
 stk:X.stack=X.outer\/(X.stack=X.env::X.outer/\X.env.frame=some X.env.locals)
 exf:∀b∈X.ex,b≠X.env.locals/\∀x c,X.env.cells.lookup x=some c->c≠b
 bs:∀b o,X.base.get? b=some o->X.p_.heap.get? b=some o/\X.GR b=none
 bsz:X.base.objs.size<=X.p_.heap.objs.size
 noex:∀b o,X.base.get? b=some o->b∉X.ex
 exfs:∀b∈X.ex,b∉X.fs
 funs:X.p_.heap.FunFrames X.base X.outer
 frf:∀b∈X.fs,X.GR b=none
 tabs:TabH X.GR
structure Inv (X:Cx)(a_:List (Z2×Obj))(σ:List (Z_ V))(H:Hp)(s:Z4):Prop where
 ok:X.Ok
 os:s.os=X.p_.os
 bare:AllBare s.gens
 base:Un X.fs X.ex X.GR H X.p_.heap s.heap
 loc:∃m,s.heap.Ns X.env.locals m/\∀(i:Nat)(x:Str)(v:V),X.N[i]?=some x->σ[i]?=some (some v)->Vis X.env.scope x->∃u,RelV v u/\Ek X.env s.heap m x u
 cell:∀x c,X.env.cells.lookup x=some c->∃v,s.heap.IsCell c v
 free:H X.env.locals=none
 freeC:∀x c,X.env.cells.lookup x=some c->H c=none
 pin:∀p∈X.pn++a_,s.heap.get? p.1=some p.2/\H p.1=none/\p.1≠X.env.locals/\p.1∉X.fs/\∀v,p.2.data≠.cell v
 hok:HOk X.prog X.w H s.heap
 len:σ.length=X.N.length
section
variable{X:Cx}{a_:List (Z2×Obj)}{σ:List (Z_ V)}{H H':Hp}{s:Z4}{h':Heap}
def Cx.Ok.nofr(ok:X.Ok){b:Z2}{o:Obj}(e:X.base.get? b=some o):b∉X.fs:=fun hb=>by
 have:=(ok.funs.mem hb).1;rw[e]at this;trivial
theorem Inv.bs(I:Inv X a_ σ H s):∀b o,X.base.get? b=some o->s.heap.get? b=some o/\H b=none:=fun b o e=>
 ⟨I.base.keep b o (I.ok.bs b o e).1 (I.ok.bs b o e).2 (I.ok.nofr e) (I.ok.noex b o e),I.base.free b o (I.ok.bs b o e).1 (I.ok.bs b o e).2 (I.ok.noex b o e)⟩
def Inv.bk(I:Inv X a_ σ H s):∀b o,X.base.get? b=some o->s.heap.get? b=some o:=fun b o e=>(I.bs b o e).1
theorem Inv.mod(I:Inv X a_ σ H s):Mod X.K X.mg X.base:=I.ok.mod
def Inv.kIn(I:Inv X a_ σ H s):X.K.In s.heap:=I.ok.mod.kin.keeps I.bk
theorem Inv.lt(I:Inv X a_ σ H s):X.env.locals<s.heap.objs.size:=let ⟨_,hn,_⟩:=I.loc;hn.lt
def Inv.sz(I:Inv X a_ σ H s):X.p_.heap.objs.size<=s.heap.objs.size:=Zh I.ok.above (W3 I.lt)
def Inv.nofs(I:Inv X a_ σ H s){a:Z2}(h:s.heap.objs.size<=a):a∉X.fs:=fun hb=>by
 obtain⟨_,o,ho,_⟩:=I.ok.funs.mem hb;exact absurd (ZA (ZO ho) (Zh I.sz h)) (Y5 _)
def Inv.cne(I:Inv X a_ σ H s):∀x c,X.env.cells.lookup x=some c->c≠X.env.locals:=fun x c e z=>by
 obtain⟨v,o,ho,hd⟩:=I.cell x c e;obtain⟨m,⟨o',es,ep,IK,C_,_⟩,_⟩:=I.loc;rw[z,IK]at ho;obtain rfl:=Z9 ho;rw[C_]at hd;trivial
theorem Inv.funs(I:Inv X a_ σ H s):s.heap.FunFrames X.base X.outer:=by
 have all:∀(l:List Env),(∀b∈frs l,b∈X.fs)->X.p_.heap.FunFrames X.base l->s.heap.FunFrames X.base l:=by
  intro l
  induction l with
  |nil=>intro _ _;trivial
  |cons env r ih=>
   intro hs hl;obtain⟨hk,⟨L,o,hf,hn,ho,hd⟩,hr⟩:=hl;have hL:L∈X.fs:=hs L (by unfold frs;rw[List.filterMap_cons,hf];exact ZV)
   obtain⟨sl,e⟩:=I.base.slot L o ho (I.ok.frf L hL) hL fun z=>I.ok.exfs L z hL
   exact⟨hk,⟨L,_,hf,hn,e,hd⟩,ih (fun b hb=>hs b (by unfold frs;rw[List.filterMap_cons,hf];exact ZZ _ hb)) hr⟩
 exact all X.outer (fun _ hb=>hb) I.ok.funs
theorem Inv.stack(I:Inv X a_ σ H s):s.heap.FunFrames X.base X.stack:=by
 rcases I.ok.stk with e|⟨e,hf⟩
 .rw[e];exact I.funs
 .rw[e]
  obtain⟨m,hn,_⟩:=I.loc;refine .cons (by rw[I.ok.kind];decide) hf hn ?_ I.funs
  exact Heap.get?_none_of_le (Zh I.ok.bsz I.ok.above)
def Inv.stkSub(I:Inv X a_ σ H s):∀b∈frs X.stack,b∈X.env.locals::X.fs:=fun b hb=>by
 rcases I.ok.stk with e|⟨e,hf⟩
 .rw[e]at hb;exact ZZ _ hb
 .rw[e]at hb
  unfold frs at hb;rw[List.filterMap_cons,hf]at hb;exact hb
def Inv.stkFree(I:Inv X a_ σ H s):∀b∈frs X.stack,H b=none:=fun b hb=>by
 rcases ZX.mp (I.stkSub b hb)with e|hb
 .rw[e];exact I.free
 .obtain⟨_,o,ho,_⟩:=I.ok.funs.mem hb
  exact I.base.free b o ho (I.ok.frf b hb) fun z=>I.ok.exfs b z hb
def Inv.step{g':Array GenState}{t':Nat}{d':Drawn}{ch:List Z2}(I:Inv X a_ σ H s)
  (HI:∀b∈ch,(b∈X.ex\/X.p_.heap.objs.size<=b)/\b≠X.env.locals/\(∀x c,X.env.cells.lookup x=some c->c≠b)/\∀p∈X.pn++a_,p.1≠b)
  (keep:∀b o,b≠X.env.locals->b∉X.fs->b∉ch->s.heap.get? b=some o->H b=none->h'.get? b=some o)
  (slot:∀b o,b≠X.env.locals->b∈X.fs->b∉ch->s.heap.get? b=some o->H b=none->∃sl,h'.get? b=some {o with slots:=sl}) (free:∀b o,b∉ch->s.heap.get? b=some o->H b=none->H' b=none)
  (there:∀b o,b∉ch->s.heap.get? b=some o->∃o',h'.get? b=some o')
  (tups:∀b xs,H b=some (.tup xs)->H' b=some (.tup xs)) (frzs:∀b o u,H b=some (.frz o u)->H' b=some (.frz o u)) (tbls:∀b lq ps,H b=some (.tbl lq ps)->∃more,H' b=some (.tbl lq (ps++more)))
  (ns:∀m,s.heap.Ns X.env.locals m->h'.Ns X.env.locals m)(hok:HOk X.prog X.w H' h')(hg:AllBare g'):
  Inv X a_ σ H' {s with heap:=h',gens:=g',drawn:=d',toks:=t'}:=by
 have NX:∀b o,X.p_.heap.get? b=some o->b≠X.env.locals:=fun b o e=>Zw (ZA (ZO e) I.ok.above)
 have Ls:∀b o,X.p_.heap.get? b=some o->b∉X.ex->b∉ch:=fun b o e hx hb=>by
  rcases(HI b hb).1 with z|z
  .exact hx z
  .exact absurd (ZA (ZO e) z) (Y5 _)
 have cellK:∀x c,X.env.cells.lookup x=some c->∀v,s.heap.IsCell c v->h'.IsCell c v:=fun x c e v hz=>by
  obtain⟨o,ho,hd⟩:=hz;have Kb:c∉ch:=fun z=>(HI c z).2.2.1 x c e rfl
  by_cases hc:c∈X.fs
  .obtain⟨sl,q⟩:=slot c o (I.cne x c e) hc Kb ho (I.freeC x c e)
   exact⟨_,q,hd⟩
  .exact⟨o,keep c o (I.cne x c e) hc Kb ho (I.freeC x c e),hd⟩
 refine⟨I.ok,I.os,hg,⟨fun b o e n hb hx=>?_,fun b o e n hb hx=>?_,fun b o e n hx=>?_,fun b o e hx=>?_,fun b xs e=>tups b xs (I.base.tups b xs e),fun b o xs e=>frzs b o xs (I.base.frzs b o xs e),fun b lq ps e=>?_⟩,?_,fun x c e=>?_,?_,fun x c e=>?_,fun p hp=>?_,hok,I.len⟩
 .exact keep b o (NX b o e) hb (Ls b o e hx) (I.base.keep b o e n hb hx) (I.base.free b o e n hx)
 .obtain⟨sl,e1⟩:=I.base.slot b o e n hb hx
  obtain⟨Pz,e2⟩:=slot b _ (NX b o e) hb (Ls b o e hx) e1 (I.base.free b o e n hx);exact⟨Pz,e2⟩
 .obtain⟨o',e1⟩:=I.base.there b o e hx
  exact free b o' (Ls b o e hx) e1 (I.base.free b o e n hx)
 .obtain⟨o',e1⟩:=I.base.there b o e hx
  exact there b o' (Ls b o e hx) e1
 .obtain⟨m1,e1⟩:=I.base.tbls b lq ps e
  obtain⟨m2,e2⟩:=tbls b lq _ e1;exact⟨m1++m2,by rw[e2,Array.append_assoc]⟩
 .obtain⟨m,hn,hl⟩:=I.loc
  refine⟨m,ns m hn,fun i x v e1 e2 e3=>?_⟩
  obtain⟨u,r,l⟩:=hl i x v e1 e2 e3;refine⟨u,r,?_⟩
  rcases l with l|⟨k,c,e,z⟩
  .exact .inl l
  .exact .inr ⟨k,c,e,cellK x c e _ z⟩
 .obtain⟨v,z⟩:=I.cell x c e
  exact⟨v,cellK x c e v z⟩
 .obtain⟨m,⟨o,_,_,ho,_⟩,_⟩:=I.loc
  exact free _ o (fun z=>(HI _ z).2.1 rfl) ho I.free
 .obtain⟨v,o,ho,hd⟩:=I.cell x c e
  exact free c o (fun z=>(HI c z).2.2.1 x c e rfl) ho (I.freeC x c e)
 .obtain⟨e,n,ne,nf,d⟩:=I.pin p hp
  have Kb:p.1∉ch:=fun z=>(HI p.1 z).2.2.2 p hp rfl
  exact⟨keep p.1 p.2 ne nf Kb e n,free p.1 p.2 Kb e n,ne,nf,d⟩
def Inv.un{t':Nat}(I:Inv X a_ σ H s)(u:Un X.fs [] H H' s.heap h')(hok:HOk X.prog X.w H' h'):Inv X a_ σ H' {s with heap:=h',toks:=t'}:=by
 obtain⟨m,⟨o,es,ep,ho,r⟩,_⟩:=id I.loc;obtain⟨sl,hL⟩:=u.any ho I.free (by simp)
 exact I.step (g':=s.gens) (d':=s.drawn) (ch:=[]) (fun _ z=>nomatch z) (fun b o _ hb _ e n=>u.keep b o e n hb (by simp)) (fun b o _ hb _ e n=>u.slot b o e n hb (by simp)) (fun b o _ e n=>u.free b o e n (by simp)) (fun b o _ e=>u.there b o e (by simp)) u.tups u.frzs u.tbls (fun m' hm=>by
  obtain⟨o',MQ,Fe,IK,r'⟩:=hm;rw[ho]at IK;obtain rfl:=Z9 IK;exact⟨_,MQ,Fe,hL,r'⟩) hok I.bare
def Inv.call{g':Array GenState}{t':Nat}{d':Drawn}{ch:List Z2}(I:Inv X a_ σ H s)(u:Un (frs X.stack) ch H H' s.heap h')(hok:HOk X.prog X.w H' h')(hg:AllBare g')
  (HI:∀b∈ch,(b∈X.ex\/X.p_.heap.objs.size<=b)/\b≠X.env.locals/\(∀x c,X.env.cells.lookup x=some c->c≠b)/\∀p∈X.pn++a_,p.1≠b):
  Inv X a_ σ H' {s with heap:=h',gens:=g',drawn:=d',toks:=t'}:=by
 obtain⟨m,⟨o,es,ep,ho,r⟩,_⟩:=id I.loc;obtain⟨sl,hL⟩:=u.any ho I.free fun z=>(HI _ z).2.1 rfl
 exact I.step (ch:=ch) HI (fun b o hL hb hc e n=>u.keep b o e n (fun z=>(ZX.mp (I.stkSub b z)).elim hL hb) hc) (fun b o _ _ hc e n=>u.any e n hc) (fun b o hc e n=>u.free b o e n hc) (fun b o hc e=>u.there b o e hc) u.tups u.frzs u.tbls (fun m' hm=>by
  obtain⟨o',MQ,Fe,IK,r'⟩:=hm;rw[ho]at IK;obtain rfl:=Z9 IK;exact⟨_,MQ,Fe,hL,r'⟩) hok hg
def Inv.turned{t':Nat}{it:Z2}(I:Inv X a_ σ H s)(k:∀b o,b≠it->s.heap.get? b=some o->h'.get? b=some o)(hn:H it=none)(hL:it≠X.env.locals)
  (h1:it∈X.ex\/X.p_.heap.objs.size<=it)(h2:∀x c,X.env.cells.lookup x=some c->c≠it)(h3:∀p∈X.pn++a_,p.1≠it):Inv X a_ σ H {s with heap:=h',toks:=t'}:=by
 have NW:∀b u,H b=some u->b≠it:=fun b u e z=>by rw[z,hn]at e;trivial
 refine I.step (g':=s.gens) (d':=s.drawn) (ch:=[it]) (fun b hb=>?_) (fun b o _ _ hc e _=>k b o (fun z=>hc (by simp[z])) e) (fun b o _ _ hc e _=>⟨o.slots,k b o (fun z=>hc (by simp[z])) e⟩) (fun _ _ _ _ n=>n)
  (fun b o hc e=>⟨o,k b o (fun z=>hc (by simp[z])) e⟩) (fun _ _ e=>e) (fun _ _ _ e=>e) (fun b lq ps e=>⟨#[],by rw[e];simp⟩) (fun m hm=>?_) (fun b u e=>?_) I.bare
 .have e:b=it:=by simpa using hb
  subst e;exact⟨h1,hL,h2,h3⟩
 .obtain⟨o,es,ep,ho,r⟩:=hm
  exact⟨o,es,ep,k _ o (Zy hL) ho,r⟩
 .refine(I.hok b u e).stay (fun c v hc q=>k c v ?_ q) (fun _ q=>q) fun _ _ q=>q
  rcases hc with z|z
  .rw[z];exact NW b u e
  .exact NW c _ z
def Inv.tok(I:Inv X a_ σ H s)(t:Nat):Inv X a_ σ H {s with toks:=t}:=I.un (h':=s.heap) (t':=t) Un.refl I.hok
theorem Inv.kept{t':Nat}(I:Inv X a_ σ H s)(k:∀b u,s.heap.get? b=some u->h'.get? b=some u):Inv X a_ σ H {s with heap:=h',toks:=t'}:=I.un (Un.kept k) (I.hok.kept k)
theorem Inv.laid{a:Z2}{o:HO}{t':Nat}(I:Inv X a_ σ H s)(k:∀b u,s.heap.get? b=some u->h'.get? b=some u)(hp:s.heap.objs.size<=a)(new:ObjOk X.prog X.w (upd H a o) h' a o):
  Inv X a_ σ (upd H a o) {s with heap:=h',toks:=t'}:=I.un (Un.laid k hp (I.hok.fresh hp)) (I.hok.laid k hp new)
theorem Inv.write{x e:Z2}{o:HO}{t':Nat}(I:Inv X a_ σ H s)(mu:Mut (H x))(he:e=x\/H e=some (.own x))(k:∀b u,b≠e->s.heap.get? b=some u->h'.get? b=some u)(Iu:∃u,h'.get? e=some u)
  (new:ObjOk X.prog X.w (upd H x o) h' x o):Inv X a_ σ (upd H x o) {s with heap:=h',toks:=t'}:=I.un (Un.write mu he k Iu) (I.hok.write mu he k Iu new)
def Inv.pins_of{Fg:List (Z2×Obj)}(I:Inv X a_ σ H s)(h:∀p∈Fg,s.heap.get? p.1=some p.2/\H p.1=none/\p.1≠X.env.locals/\p.1∉X.fs/\∀v,p.2.data≠.cell v):Inv X Fg σ H s:=
 ⟨I.ok,I.os,I.bare,I.base,I.loc,I.cell,I.free,I.freeC,fun p hp=>(Zl.mp hp).elim (fun z=>I.pin p (Y1 _ z)) (h p),I.hok,I.len⟩
def l6{N:List Str}(hN:N.Nodup){i j:Nat}{x:Str}(a:N[i]?=some x)(b:N[j]?=some x):i=j:=by
 obtain⟨h1,e1⟩:=ZW.mp a
 obtain⟨h2,e2⟩:=ZW.mp b
 exact(List.getElem_inj hN).mp (e1.trans e2.symm)
def jd{M:Model}{A:Zu}{E:Z7->Z4->Prop}{i:Nat}{x:Str}{v:V}{u:Z7}{Q:Unit->Z4->Prop}(I:Inv X a_ σ H s)(hN:X.N.Nodup)(hi:X.N[i]?=some x)(hx:Loc X.env.scope x)(r:RelV v u)
  (h:∀s',Inv X a_ (σ.set i (some v)) H s'->(∃a,Heap.SameBut a s.heap s'.heap/\(a=X.env.locals\/X.env.cells.lookup x=some a))->Q () s')(hf:X.fn x=true\/X.env.scope.names.lookup x=some .local:=by first|exact .inl rfl|exact .inr rfl|assumption):wpAny M A (storeName X.env x u) Q E s:=by
 obtain⟨m,hn,hl⟩:=id I.loc;have Nk:(X.env.scope.kind==.class||(X.env.scope.kind==.module&&X.env.locals != X.env.globals))=false:=by rw[I.ok.kind];rfl
 have K0:i<σ.length:=by rw[I.len];exact(ZW.mp hi).1
 have cne:=I.cne;have tracked:∀{a:Z2}{h':Heap},(∃o,s.heap.get? a=some o/\H a=none)->Heap.SameBut a s.heap h'->HOk X.prog X.w H h':=fun{a h'} ha hs b ob e=>by
  obtain⟨_,_,Iz⟩:=ha;refine(I.hok b ob e).stay (fun c w' hc q=>(hs.2 c ?_).trans q) (fun _ q=>q) fun _ _ q=>q
  rintro rfl
  rcases hc with rfl|hc
  .rw[Iz]at e;trivial
  .rw[Iz]at hc;trivial
 rcases hx with hk|hk
 .refine wpAny_storeName_local hk hn (fun h' Ia hs=>?_) Nk
  obtain⟨oL,_,_,II,_⟩:=id hn;refine h _ ⟨I.ok,I.os,I.bare,⟨fun b o e n hb hx=>?_,fun b o e n hb hx=>?_,I.base.free,fun b o e hx=>?_,I.base.tups,I.base.frzs,I.base.tbls⟩,⟨_,Ia,fun j y v' e1 e2 e3=>?_⟩,fun y c e=>?_,I.free,I.freeC,fun p hp=>?_,tracked ⟨oL,II,I.free⟩ hs,by simpa using I.len⟩ ⟨_,hs,.inl rfl⟩
  .exact(hs.2 b (Zw (ZA (ZO e) I.ok.above))).trans (I.base.keep b o e n hb hx)
  .obtain⟨sl,e1⟩:=I.base.slot b o e n hb hx
   exact⟨sl,(hs.2 b (Zw (ZA (ZO e) I.ok.above))).trans e1⟩
  .obtain⟨o',e1⟩:=I.base.there b o e hx
   exact⟨o',(hs.2 b (Zw (ZA (ZO e) I.ok.above))).trans e1⟩
  .by_cases hj:j=i
   .subst hj
    rw[hi]at e1;obtain rfl:=Z9 e1;rw[ZF K0]at e2
    cases e2;exact⟨u,r,.inl ⟨hk,by simp⟩⟩
   .rw[ZP (Zy hj)]at e2
    obtain⟨u',r',q⟩:=hl j y v' e1 e2 e3;refine⟨u',r',?_⟩
    rcases q with⟨k,e⟩|⟨k,c,e,z⟩
    .refine .inl ⟨k,?_⟩
     have:y≠x:=fun e=>hj (l6 hN e1 (e▸hi))
     simp[this,e]
    .exact .inr ⟨k,c,e,z.sameBut hs (cne y c e)⟩
  .obtain⟨w',z⟩:=I.cell y c e
   exact⟨w',z.sameBut hs (cne y c e)⟩
  .obtain⟨e,n,ne,nf,d⟩:=I.pin p hp
   exact⟨(hs.2 p.1 ne).trans e,n,ne,nf,d⟩
 .have MB:X.fn x=true:=by
   rcases hf with z|z
   .exact z
   .rw[z]at hk;trivial
  obtain⟨c,hc⟩:=I.ok.has x (.inl hk);obtain⟨w',z⟩:=I.cell x c hc;refine wpAny_storeName_cell I.ok.kind hk hc z (fun h' Kp hs=>?_)
  obtain⟨oc,Kh,Ng⟩:=id z;refine h {s with heap:=h'} ⟨I.ok,I.os,I.bare,⟨fun b o e n hb hx=>?_,fun b o e n hb hx=>?_,I.base.free,fun b o e hx=>?_,I.base.tups,I.base.frzs,I.base.tbls⟩,⟨m,hn.sameBut hs (Zy (cne x c hc)),fun j y v' e1 e2 e3=>?_⟩,fun y c' e=>?_,I.free,I.freeC,fun p hp=>?_,tracked ⟨oc,Kh,I.freeC x c hc⟩ hs,by simpa using I.len⟩ ⟨c,hs,.inr hc⟩
  .exact(hs.2 b (Zw (ZA (ZO e) (I.ok.cab x c MB hc)))).trans (I.base.keep b o e n hb hx)
  .obtain⟨sl,e1⟩:=I.base.slot b o e n hb hx
   exact⟨sl,(hs.2 b (Zw (ZA (ZO e) (I.ok.cab x c MB hc)))).trans e1⟩
  .obtain⟨o',e1⟩:=I.base.there b o e hx
   exact⟨o',(hs.2 b (Zw (ZA (ZO e) (I.ok.cab x c MB hc)))).trans e1⟩
  .by_cases hj:j=i
   .subst hj
    rw[hi]at e1;obtain rfl:=Z9 e1;rw[ZF K0]at e2
    cases e2;exact⟨u,r,.inr ⟨.inl hk,c,hc,Kp⟩⟩
   .rw[ZP (Zy hj)]at e2
    obtain⟨u',r',q⟩:=hl j y v' e1 e2 e3;refine⟨u',r',?_⟩
    rcases q with q|⟨k,c',e,z'⟩
    .exact .inl q
    .refine .inr ⟨k,c',e,z'.sameBut hs ?_⟩
     rintro rfl
     exact hj (l6 hN e1 (I.ok.inj _ _ _ e hc▸hi))
  .by_cases OF:c'=c
   .subst OF;exact⟨_,Kp⟩
   .obtain⟨w2,z2⟩:=I.cell y c' e
    exact⟨w2,z2.sameBut hs OF⟩
  .obtain⟨e,n,ne,nf,d⟩:=I.pin p hp
   refine⟨(hs.2 p.1 ?_).trans e,n,ne,nf,d⟩
   intro q;rw[q,Kh]at e;have q':oc=p.2:=Z9 e;exact d w' (by rw[<-q'];exact Ng)
def mD{M:Model}{A:Zu}{E:Z7->Z4->Prop}{i:Nat}{x:Str}{v:V}{u:Z7}{Q:Unit->Z4->Prop}(I:Inv X a_ σ H s)(hN:X.N.Nodup)(hi:X.N[i]?=some x)(hx:Loc X.env.scope x)(r:RelV v u)
  (h:∀s',Inv X a_ (σ.set i (some v)) H s'->Q () s')(hf:X.fn x=true\/X.env.scope.names.lookup x=some .local:=by first|exact .inl rfl|exact .inr rfl|assumption):wpAny M A (storeName X.env x u) Q E s:=
 jd I hN hi hx r (fun s' I' _=>h s' I') hf
def Inv.call'{s':Z4}{ch:List Z2}(I:Inv X a_ σ H s)(ho:s'.os=s.os)(u:Un (frs X.stack) ch H H' s.heap s'.heap)(hok:HOk X.prog X.w H' s'.heap)(hg:AllBare s'.gens)
  (HI:∀b∈ch,(b∈X.ex\/X.p_.heap.objs.size<=b)/\b≠X.env.locals/\(∀x c,X.env.cells.lookup x=some c->c≠b)/\∀p∈X.pn++a_,p.1≠b):Inv X a_ σ H' s':=by
 obtain⟨h',g',d',t',o'⟩:=s';have e:o'=s.os:=ho;subst e;exact I.call (g':=g') (t':=t') (d':=d') u hok hg HI
end
abbrev XK:=Z7->Z_ Z2->Hp->Prop
abbrev St:=List (Z_ V)
abbrev VK:=V->Hp->Prop
abbrev TE:=St->Hp->VK->Prop
abbrev TT:=St->Hp->(Bool->Hp->Prop)->Prop
abbrev TA:=St->Hp->(List V->Hp->Prop)->Prop
structure Ends where
 nx:St->Hp->Prop
 rt:VK
 bk:St->Hp->Prop:=fun _ _=>False
 ct:St->Hp->Prop:=fun _ _=>False
abbrev TS:=Ends->St->Hp->Prop
def EP(X:Cx)(a_:List (Z2×Obj))(σ:St)(Q:VK)(u:Z7)(s':Z4):Prop:=∃v H',Inv X a_ σ H' s'/\RelV v u/\Q v H'
def TP(X:Cx)(a_:List (Z2×Obj))(σ:St)(Q:Bool->Hp->Prop)(b:Bool)(s':Z4):Prop:=∃H',Inv X a_ σ H' s'/\Q b H'
def AP(X:Cx)(a_:List (Z2×Obj))(σ:St)(Q:List V->Hp->Prop)(us:List Z7)(s':Z4):Prop:=∃vs H',Inv X a_ σ H' s'/\Vals vs us/\Q vs H'
def SP(X:Cx)(a_:List (Z2×Obj))(D:Ends)(f:Flow)(s':Z4):Prop:=
 match f with
 |.next=>∃j_ H',Inv X a_ j_ H' s'/\D.nx j_ H'
 |.brk=>∃j_ H',Inv X a_ j_ H' s'/\D.bk j_ H'
 |.cont=>∃j_ H',Inv X a_ j_ H' s'/\D.ct j_ H'
 |.ret u=>∃v j_ H',Inv X a_ j_ H' s'/\RelV v u/\D.rt v H'
def PE(X:Cx)(e:Expr)(t:TE):Prop:=
 ∀(a_:List (Z2×Obj))(s:Z4)(σ:St)(H:Hp)(Q:VK),Inv X a_ σ H s->t σ H Q->wpAny (model X.prog X.w) X.A (eval e X.env) (EP X a_ σ Q) X.xe s
def PT(X:Cx)(e:Expr)(t:TT):Prop:=
 ∀(a_:List (Z2×Obj))(s:Z4)(σ:St)(H:Hp)(Q:Bool->Hp->Prop),Inv X a_ σ H s->t σ H Q->wpAny (model X.prog X.w) X.A (isTrue e X.env (eval e X.env)) (TP X a_ σ Q) X.xe s
def PW(X:Cx)(e:Expr)(t:TT):Prop:=
 ∀(whole:Sem Z7)(a_:List (Z2×Obj))(s:Z4)(σ:St)(H:Hp)(Q:Bool->Hp->Prop),Inv X a_ σ H s->t σ H Q->wpAny (model X.prog X.w) X.A (isTrue e X.env whole) (TP X a_ σ Q) X.xe s
def PW.pt{X:Cx}{e:Expr}{t:TT}(h:PW X e t):PT X e t:=h _
def PA(X:Cx)(es:List Expr)(t:TA):Prop:=
 ∀(pos:Pos)(a_:List (Z2×Obj))(s:Z4)(σ:St)(H:Hp)(Q:List V->Hp->Prop),Inv X a_ σ H s->t σ H Q->wpAny (model X.prog X.w) X.A (spliced (backTo pos (starEach es X.env))) (AP X a_ σ Q) X.xe s
def PS(X:Cx)(st:Stmt)(t:TS):Prop:=
 ∀(a_:List (Z2×Obj))(s:Z4)(σ:St)(H:Hp)(D:Ends),Inv X a_ σ H s->t D σ H->wpAny (model X.prog X.w) X.A (exec st X.env) (SP X a_ D) X.xe s
def PSs(X:Cx)(st:List Stmt)(t:TS):Prop:=
 ∀(a_:List (Z2×Obj))(s:Z4)(σ:St)(H:Hp)(D:Ends),Inv X a_ σ H s->t D σ H->wpAny (model X.prog X.w) X.A (execs st X.env) (SP X a_ D) X.xe s
def thn{α:Type}{t:Sem α}{Q Q':α->Z4->Prop}{M:Model}{A:Zu}{E:Z7->Z4->Prop}{s:Z4}(h:wpAny M A t Q E s)(hQ:∀a s,Q a s->Q' a s):wpAny M A t Q' E s:=YV h hQ fun _ _ x=>x
end
end L2
namespace L2
open PySem PySem.Spec PyProof.Rows
variable[Lams]
section
variable{X:Cx}
def tq(i:Nat):TE:=fun σ H Q=>∃v,σ[i]?=some (some v)/\Q v H
def tC(v:V):TE:=fun _ H Q=>Q v H
def bg{i:Nat}{x:Str}{pos:Pos}(hN:X.N[i]?=some x)(hv:Vis X.env.scope x)(hd:(x==("__debug__":Str))=false:=by decide)(Fo:(x==("__classdict__":Str))=false:=by decide):PE X (.Name x pos) (tq i):=by
 intro a_ s σ H Q I h;obtain⟨v,e,h⟩:=h;obtain⟨m,hn,hl⟩:=I.loc;obtain⟨u,r,l⟩:=hl i x v hN e hv;have fin:EP X a_ σ Q u s:=⟨v,H,I,r,h⟩
 rcases l with⟨hk,hm⟩|⟨hk,c,hc,IA⟩
 .exact wpAny_Name (wpAny_loadName_local I.ok.kind hk hn hm fin) hd
 .rcases hk with hk|hk
  .exact wpAny_Name (wpAny_loadName_cell I.ok.kind hk hc IA fin) hd
  .exact wpAny_Name (wpAny_loadName_free I.ok.kind hk hc IA fin Fo) hd
def sG{i j pos}:PE X (.Constant (.int i) j pos) (tC (.int i)):=fun _ _ _ H _ I h=>wpAny_Constant_int ⟨.int i,H,I.tok _,⟨_,rfl⟩,h⟩
def Av{b j pos}:PE X (.Constant (.bool b) j pos) (tC (.bl b)):=fun _ _ _ H _ I h=>Constant_bool ⟨.bl b,H,I,rfl,h⟩
def zL{j pos}:PE X (.Constant .none j pos) (tC .non):=fun _ _ _ H _ I h=>Constant_none ⟨.non,H,I,rfl,h⟩
def AA{x j pos}:PE X (.Constant (.str x) j pos) (tC (.str x)):=fun _ _ _ H _ I h=>Calls.Constant_str ⟨.str x,H,I.tok _,⟨_,rfl⟩,h⟩
def Gl(X:Cx)(x:Str):Prop:=X.env.kindOf x=some .globalImplicit
def xQ{E:Z7->Z4->Prop}{a_:List (Z2×Obj)}{s:Z4}{σ:St}{H:Hp}{x:Str}{u:Z7}{pos:Pos}{Q:Z7->Z4->Prop}(I:Inv X a_ σ H s)(hg:Gl X x)(hm:X.mg x=some u)(h:Q u s)
  (hd:(x==("__debug__":Str))=false:=by decide):wpAny (model X.prog X.w) X.A (eval (.Name x pos) X.env) Q E s:=
 Calls.Name_function_global I.ok.kind hg (Calls.loadGlobal_global (by rw[I.ok.glob];exact I.mod.glob.keeps I.bk) hm h) hd
def d6{E:Z7->Z4->Prop}{a_:List (Z2×Obj)}{s:Z4}{σ:St}{H:Hp}{x:Str}{u:Z7}{pos:Pos}{Q:Z7->Z4->Prop}(I:Inv X a_ σ H s)(hg:Gl X x)(hm:X.mg x=none)(hv:bootBuiltins x=some u)(h:Q u s)
  (hn:x≠"__name__":=by decide)(hd:(x==("__debug__":Str))=false:=by decide):wpAny (model X.prog X.w) X.A (eval (.Name x pos) X.env) Q E s:=by
 obtain⟨mb,h1,h2⟩:=I.mod.blt;exact Calls.Name_function_global I.ok.kind hg (Calls.loadGlobal_builtin (by rw[I.ok.glob];exact I.mod.glob.keeps I.bk) hm (by rw[I.ok.blt];exact h1.keeps I.bk) ((h2 x hn).trans hv) h) hd
def xq{x:Str}{v:V}{u:Z7}{pos:Pos}(hg:Gl X x)(hm:X.mg x=none)(hv:bootBuiltins x=some u)(r:RelV v u)(hn:x≠"__name__":=by decide)(hd:(x==("__debug__":Str))=false:=by decide):PE X (.Name x pos) (tC v):=
 fun _ _ _ H _ I h=>d6 I hg hm hv ⟨v,H,I,r,h⟩ hn hd
variable{a b:Expr}{ta tb:TE}{pos:Pos}
def PC(X:Cx)(op:CmpOp)(a b:Expr)(t:TE):Prop:=
 ∀(a_:List (Z2×Obj))(s:Z4)(σ:St)(H:Hp)(Q:VK),Inv X a_ σ H s->t σ H Q->
  wpAny (model X.prog X.w) X.A (eval a X.env) (fun v h_=>wpAny (model X.prog X.w) X.A (eval b X.env) (fun u d_=>wpAny (model X.prog X.w) X.A (compareOp op v u) (EP X a_ σ Q) X.xe d_) X.xe h_) X.xe s
def tW(b:Expr){op:CmpOp}(h:op≠.In)(h2:op≠.NotIn):behindInMarks op b=false:=by
 have e1:(op==CmpOp.In)=false:=by cases op<;>first|rfl|exact absurd rfl h
 have e2:(op==CmpOp.NotIn)=false:=by cases op<;>first|rfl|exact absurd rfl h2
 cases b<;>simp[behindInMarks,e1,e2]
def tB(t:TE):TT:=fun σ H Q=>t σ H fun x H1=>∃c,x=.bl c/\Q c H1
def Di{op:CmpOp}{t:TE}(h:PC X op a b t)(h1:behindInMarks op b=false:=by first|exact tW _ (by decide) (by decide)|rfl):PT X (.Compare a [op] [b] pos) (tB t):=by
 intro a_ s σ H Q I hw;refine wpAny_isTrue_Compare1 (thn (h a_ s σ H _ I hw) fun v s1 h1=>thn h1 fun u s2 h2=>thn h2 fun c s3 ⟨x,H1,I1,r1,q1⟩=>?_) h1
 obtain⟨d,rfl,q⟩:=q1;cases r1;exact XR ⟨H1,I1,q⟩
def Ab{e:Expr}{t:TE}(h:PE X e t)(he:∀whole,isTrue e X.env whole=(do let v <-whole;standAt e.pos;holding [v] (truthy v)):=by intro _;rfl):PT X e (tB t):=by
 intro a_ s σ H Q I hw;refine isTrue_plain (thn (h a_ s σ H _ I hw) fun v s1 ⟨x,H1,I1,r1,q1⟩=>?_) (he _)
 obtain⟨d,rfl,q⟩:=q1;cases r1;exact XR ⟨H1,I1,q⟩
variable{tA Lk:TT}{ao:List Expr}
def EY(t u:TT):TT:=fun σ H Q=>t σ H fun c H1=>if c=true then u σ H1 Q else Q false H1
def tOr(t u:TT):TT:=fun σ H Q=>t σ H fun c H1=>if c=true then Q true H1 else u σ H1 Q
def DJ(t:TT):TT:=fun σ H Q=>t σ H fun c H1=>Q (!c) H1
def xo(ha:PT X a tA):PW X (.BoolOp .And [a] pos) tA:=by
 intro wh a_ s σ H Q I h;refine isTrue_and (thn (ha a_ s σ H Q I h) fun c s1 e=>?_)
 cases c with
 |true=>exact isTrue_and_nil e
 |false=>exact e
def AY(ha:PT X a tA):PW X (.BoolOp .Or [a] pos) tA:=by
 intro wh a_ s σ H Q I h;refine isTrue_or (thn (ha a_ s σ H Q I h) fun c s1 e=>?_)
 cases c with
 |false=>exact isTrue_or_nil e
 |true=>exact e
def zK(ha:PT X a tA)(hb:PW X (.BoolOp .And (b::ao) pos) Lk):PW X (.BoolOp .And (a::b::ao) pos) (EY tA Lk):=by
 intro wh a_ s σ H Q I h;refine isTrue_and (thn (ha a_ s σ H _ I h) fun c s1 hz=>?_)
 obtain⟨H1,I1,q1⟩:=hz;cases c with
 |true=>exact hb wh a_ s1 σ H1 Q I1 q1
 |false=>exact⟨H1,I1,q1⟩
def BW(ha:PT X a tA)(hb:PW X (.BoolOp .Or (b::ao) pos) Lk):PW X (.BoolOp .Or (a::b::ao) pos) (tOr tA Lk):=by
 intro wh a_ s σ H Q I h;refine isTrue_or (thn (ha a_ s σ H _ I h) fun c s1 hz=>?_)
 obtain⟨H1,I1,q1⟩:=hz;cases c with
 |true=>exact⟨H1,I1,q1⟩
 |false=>exact hb wh a_ s1 σ H1 Q I1 q1
def AR(ha:PT X a tA):PT X (.UnaryOp .Not a pos) (DJ tA):=by
 intro a_ s σ H Q I h;exact isTrue_not (ha a_ s σ H (fun c H1=>Q (!c) H1) I h)
def CI(ta tb:TE):TE:=fun σ H Q=>ta σ H fun x H1=>∃c,x=.bl c/\if c=true then tb σ H1 Q else Q (.bl false) H1
def Ar{op}{t:TE}(h:PE X a t):PE X (.BoolOp op [a] pos) t:=fun a_ s σ H Q I hw=>BoolOp_one (h a_ s σ H Q I hw)
def zN(ha:PE X a ta)(hb:PE X (.BoolOp .And (b::ao) pos) tb):PE X (.BoolOp .And (a::b::ao) pos) (CI ta tb):=by
 intro a_ s σ H Q I h;refine BoolOp_and (thn (ha a_ s σ H _ I h) fun v s1 hz=>?_)
 obtain⟨x,H1,I1,r1,q1⟩:=hz;obtain⟨c,rfl,q1⟩:=q1;cases r1;refine XR ?_
 cases c with
 |true=>exact hb a_ s1 σ H1 Q I1 q1
 |false=>exact⟨.bl false,H1,I1,rfl,q1⟩
def tIf(t:TT)(ta tb:TE):TE:=fun σ H Q=>t σ H fun c H1=>if c=true then ta σ H1 Q else tb σ H1 Q
def tV{c:Expr}(hc:PT X c tA)(ha:PE X a ta)(hb:PE X b tb):PE X (.IfExp c a b pos) (tIf tA ta tb):=by
 intro a_ s σ H Q I h;refine wpAny_IfExp (thn (hc a_ s σ H _ I h) fun d s1 hz=>?_)
 obtain⟨H1,I1,q1⟩:=hz;cases d with
 |true=>exact ha a_ s1 σ H1 Q I1 q1
 |false=>exact hb a_ s1 σ H1 Q I1 q1
end
def SqL(K:Z5)(H:Hp)(a:Z2)(xs:List V):Prop:=
 Rd H a (.lst xs)\/
  ∃(o:Obj)(its:Array Z7)(n:Nat),K.lookup a=some o/\o.cls=.type "list"/\o.dict=none/\o.data=.seq its n/\its.size<=sizeLine/\Vals xs its.toList
def SqT(K:Z5)(H:Hp)(a:Z2)(xs:List V):Prop:=
 Rd H a (.tup xs)\/
  ∃(o:Obj)(its:Array Z7)(n:Nat),K.lookup a=some o/\o.cls=.type "tuple"/\o.data=.seq its n/\its.size<=sizeLine/\Vals xs its.toList
noncomputable def DR:Z7->Z_ V
 |.none=>some .non
 |.bool b=>some (.bl b)
 |.int i _=>some (.int i)
 |.str x _=>some (.str x)
 |.bytes b _=>some (.byt b)
 |.float b _=>some (.flt b)
 |.ref a=>some (.ref a)
 |.type n=>some (.ty n)
 |_=>none
def RelV.abs{x:V}{u:Z7}(r:RelV x u):DR u=some x:=by
 cases x with
 |non=>cases r;rfl
 |bl _=>cases r;rfl
 |int _=>obtain⟨t,rfl⟩:=r;rfl
 |str _=>obtain⟨t,rfl⟩:=r;rfl
 |byt _=>obtain⟨t,rfl⟩:=r;rfl
 |flt _=>obtain⟨t,rfl⟩:=r;rfl
 |ref _=>cases r;rfl
 |ty _=>cases r;rfl
theorem RelV.inj{x y:V}{u:Z7}(r:RelV x u)(q:RelV y u):x=y:=Z9 (r.abs.symm.trans q.abs)
theorem Vals.inj:∀{xs ys:List V}{us:List Z7},Vals xs us->Vals ys us->xs=ys
 |_,_,_,.nil,.nil=>rfl
 |_,_,_,.cons r t,.cons r' t'=>by rw[r.inj r',Vals.inj t t']
section
variable{X:Cx}{a_:List (Z2×Obj)}{σ:St}{H:Hp}{s:Z4}{a:Z2}{xs ys:List V}
def SqL.of{K:Z5}(h:H a=some (.lst xs)):SqL K H a xs:=.inl (.inl h)
def SqT.of{K:Z5}(h:H a=some (.tup xs)):SqT K H a xs:=.inl (.inl h)
def Inv.list(I:Inv X a_ σ H s)(h:SqL X.K H a xs):∃its:List Z7,Vals xs its/\PlainL s.heap a its.toArray/\xs.length<=sizeLine:=by
 rcases h with h|⟨o,its,n,hk,hc,hd,hs,hz,r⟩
 .obtain⟨z,its,n,r,e⟩:=h.ok I.hok
  exact⟨its,r,⟨_,n,e,rfl,rfl,rfl⟩,z⟩
 .refine⟨its.toList,r,⟨o,n,I.kIn a o hk,hc,hd,by simpa using hs⟩,?_⟩
  have e:=r.length;simp only[Array.length_toList]at e
  lia
def Inv.tuple(I:Inv X a_ σ H s)(h:SqT X.K H a xs):∃its:List Z7,Vals xs its/\IsTup s.heap a its.toArray/\xs.length<=sizeLine:=by
 rcases h with h|⟨o,its,n,hk,hc,hs,hz,r⟩
 .obtain⟨z,its,r,p⟩:=h.ok I.hok
  exact⟨its,r,p,z⟩
 .refine⟨its.toList,r,⟨o,I.kIn a o hk,hc,n,by simpa using hs⟩,?_⟩
  have e:=r.length;simp only[Array.length_toList]at e
  lia
def Inv.list_inj(I:Inv X a_ σ H s)(h:SqL X.K H a xs)(h':SqL X.K H a ys):xs=ys:=by
 obtain⟨its,r,⟨o,n,e,_,_,d⟩,_⟩:=I.list h;obtain⟨its',r',⟨o',n',e',_,_,d'⟩,_⟩:=I.list h';rw[e]at e';obtain rfl:=Z9 e';rw[d]at d';injection d' with d1 _
 have:its=its':=by simpa using congrArg Array.toList d1
 subst this;exact r.inj r'
def Inv.tuple_inj(I:Inv X a_ σ H s)(h:SqT X.K H a xs)(h':SqT X.K H a ys):xs=ys:=by
 obtain⟨its,r,⟨o,e,_,n,d⟩,_⟩:=I.tuple h;obtain⟨its',r',⟨o',e',_,n',d'⟩,_⟩:=I.tuple h';rw[e]at e';obtain rfl:=Z9 e';rw[d]at d';injection d' with d1 _
 have:its=its':=by simpa using congrArg Array.toList d1
 subst this;exact r.inj r'
end
abbrev Cx.wish(X:Cx)(E:Z7->Z4->Prop):Cx:={X with xe:=E}
abbrev Cx.nox(X:Cx):Cx:=X.wish fun _ _=>False
theorem Cx.Ok.wish{X:Cx}(ok:X.Ok)(E:Z7->Z4->Prop):(X.wish E).Ok:=
 ⟨ok.mod,ok.kind,ok.glob,ok.blt,ok.above,ok.inj,ok.has,ok.cab,ok.hd,ok.frames,ok.stk,ok.exf,ok.bs,ok.bsz,ok.noex,ok.exfs,ok.funs,ok.frf,ok.tabs⟩
def Cx.Ok.unwish{X:Cx}{E:Z7->Z4->Prop}(ok:(X.wish E).Ok):X.Ok:=
 ⟨ok.mod,ok.kind,ok.glob,ok.blt,ok.above,ok.inj,ok.has,ok.cab,ok.hd,ok.frames,ok.stk,ok.exf,ok.bs,ok.bsz,ok.noex,ok.exfs,ok.funs,ok.frf,ok.tabs⟩
section
variable{X:Cx}{a_:List (Z2×Obj)}{σ:St}{H:Hp}{s:Z4}{E:Z7->Z4->Prop}
theorem Inv.wish(I:Inv X a_ σ H s)(E:Z7->Z4->Prop):Inv (X.wish E) a_ σ H s:=⟨I.ok.wish E,I.os,I.bare,I.base,I.loc,I.cell,I.free,I.freeC,I.pin,I.hok,I.len⟩
theorem Inv.unwish(I:Inv (X.wish E) a_ σ H s):Inv X a_ σ H s:=⟨I.ok.unwish,I.os,I.bare,I.base,I.loc,I.cell,I.free,I.freeC,I.pin,I.hok,I.len⟩
theorem SP.unwish{D:Ends}{f:Flow}{s':Z4}(h:SP (X.wish E) a_ D f s'):SP X a_ D f s':=by
 cases f with
 |next=>obtain⟨j_,H',I,q⟩:=h;exact⟨j_,H',I.unwish,q⟩
 |brk=>obtain⟨j_,H',I,q⟩:=h;exact⟨j_,H',I.unwish,q⟩
 |cont=>obtain⟨j_,H',I,q⟩:=h;exact⟨j_,H',I.unwish,q⟩
 |ret u=>obtain⟨v,j_,H',I,r,q⟩:=h;exact⟨v,j_,H',I.unwish,r,q⟩
theorem PE.nox{e:Expr}{t:TE}(h:PE X.nox e t):PE X e t:=fun a_ s σ H Q I hw=>
 YV (h a_ s σ H Q (I.wish _) hw) (fun _ _ hz=>by obtain⟨v,H',I',r,q⟩:=hz;exact⟨v,H',I'.unwish,r,q⟩) fun _ _ z=>False.elim z
theorem PSs.nox{st:List Stmt}{t:TS}(h:PSs X.nox st t):PSs X st t:=fun a_ s σ H D I hw=>
 YV (h a_ s σ H D (I.wish _) hw) (fun _ _ q=>q.unwish) fun _ _ z=>False.elim z
end
section
variable{X:Cx}{st:Stmt}{ao:List Stmt}{t u:TS}{e:Expr}{te:TE}{pos:Pos}
def tNext:TS:=fun D σ H=>D.nx σ H
def BT(t u:TS):TS:=fun D σ H=>t {D with nx:=u D} σ H
def sj:PSs X [] tNext:=fun _ _ σ H _ I h=>WI ⟨σ,H,I,h⟩
def bx(h1:PS X st t)(h2:PSs X ao u):PSs X (st::ao) (BT t u):=by
 intro a_ s σ H D I h;refine wpAny_execs_cons (thn (h1 a_ s σ H {D with nx:=u D} I h) fun f s1 q=>?_)
 cases f with
 |next=>
  obtain⟨j_,H',I',q⟩:=q;exact h2 a_ s1 j_ H' D I' q
 |ret v=>exact q
 |brk=>exact q
 |cont=>exact q
def eQ(h1:PS X st t):PSs X [st] t:=by
 intro a_ s σ H D I h;refine wpAny_execs_cons (thn (h1 a_ s σ H D I h) fun f s1 q=>?_)
 cases f with
 |next=>exact WI q
 |ret v=>exact q
 |brk=>exact q
 |cont=>exact q
def Inv.quiet{a_:List (Z2×Obj)}{σ:St}{H:Hp}{s:Z4}(I:Inv X a_ σ H s):interactive X.env=false:=by simp[interactive,I.ok.kind]
def zt(te:TE):TS:=fun D σ H=>te σ H fun _ H1=>D.nx σ H1
def lm(he:PE X e te)(hs:swapsWith e none pos.line X.env=pure false:=by rfl):PS X (.Expr e pos) (zt te):=by
 intro a_ s σ H D I h;exact wpAny_Expr_any (thn (he a_ s σ H _ I h) fun v s1 hz=>by obtain⟨x,H1,I1,r1,q1⟩:=hz;exact⟨σ,H1,I1,q1⟩) I.quiet hs
def Eb(te:TE):TS:=fun D σ H=>te σ H D.rt
def iZ(he:PE X e te):PS X (.Return (some e) pos) (Eb te):=by
 intro a_ s σ H D I h;exact wpAny_Return_some (thn (he a_ s σ H _ I h) fun v s1 hz=>by obtain⟨x,H1,I1,r1,q1⟩:=hz;exact⟨x,σ,H1,I1,r1,q1⟩)
def ER(c:TT)(t u:TS):TS:=fun D σ H=>c σ H fun b H1=>if b=true then t D σ H1 else u D σ H1
def xz{c:Expr}{a b:List Stmt}{tc:TT}(hc:PT X c tc)(ha:PSs X a t)(hb:PSs X b u):PS X (.If c a b pos) (ER tc t u):=by
 intro a_ s σ H D I h;refine wpAny_If (thn (hc a_ s σ H _ I h) fun d s1 hz=>?_)
 obtain⟨H1,I1,q1⟩:=hz;cases d with
 |true=>exact ha a_ s1 σ H1 D I1 q1
 |false=>exact hb a_ s1 σ H1 D I1 q1
end
abbrev TG:=V->St->Hp->(St->Hp->Prop)->Prop
abbrev TGs:=List V->St->Hp->(St->Hp->Prop)->Prop
def PG(X:Cx)(target:Expr)(t:TG):Prop:=
 ∀(a_:List (Z2×Obj))(s:Z4)(σ:St)(H:Hp)(v:V)(u:Z7)(Q:St->Hp->Prop),Inv X a_ σ H s->RelV v u->t v σ H Q->
  wpAny (model X.prog X.w) X.A (assign target X.env u) (fun _ s'=>∃j_ H',Inv X a_ j_ H' s'/\Q j_ H') X.xe s
def PGs(X:Cx)(ts:List Expr)(t:TGs):Prop:=
 ∀(a_:List (Z2×Obj))(s:Z4)(σ:St)(H:Hp)(vs:List V)(us:List Z7)(Q:St->Hp->Prop),Inv X a_ σ H s->Vals vs us->t vs σ H Q->
  wpAny (model X.prog X.w) X.A (assignInOrder ((assignEach ts X.env).map (·.2)) us) (fun _ s'=>∃j_ H',Inv X a_ j_ H' s'/\Q j_ H') X.xe s
section
variable{X:Cx}{pos:Pos}
def fw(i:Nat):TG:=fun v σ H Q=>Q (σ.set i (some v)) H
def lW{i:Nat}{x:Str}(hN:X.N.Nodup)(hi:X.N[i]?=some x)(hx:Loc X.env.scope x)(hf:X.fn x=true\/X.env.scope.names.lookup x=some .local:=by first|exact .inl rfl|exact .inr rfl|assumption):PG X (.Name x pos) (fw i):=by
 intro a_ s σ H v u Q I r h;exact wpAny_assign_Name (mD I hN hi hx r (fun s' I'=>⟨_,H,I',h⟩) hf)
def gNil:TGs:=fun vs σ H Q=>vs=[]/\Q σ H
def CK(t:TG)(u:TGs):TGs:=fun vs σ H Q=>∃v r,vs=v::r/\t v σ H fun j_ H'=>u r j_ H' Q
def yA:PGs X [] gNil:=by
 intro a_ s σ H vs us Q I r h;obtain⟨e,h⟩:=h;subst e;cases r;exact assignInOrder_nil ⟨σ,H,I,h⟩
def vI{e:Expr}{es:List Expr}{t:TG}{u:TGs}(h1:PG X e t)(h2:PGs X es u)
  (hs:(assignEach (e::es) X.env).map (·.2)=assign e X.env::(assignEach es X.env).map (·.2):=by rfl):PGs X (e::es) (CK t u):=by
 intro a_ s σ H vs us Q I r h;obtain⟨v,vr,e1,h⟩:=h;subst e1;cases r with
 |cons r rr=>
  rw[hs];refine assignInOrder_cons (thn (h1 a_ s σ H _ _ _ I r h) fun _ s1 hz=>?_)
  obtain⟨HN,H1,I1,q1⟩:=hz;exact h2 a_ s1 HN H1 _ _ Q I1 rr q1
def Ei(K:Z5)(n:Nat)(t:TGs):TG:=fun v σ H Q=>∃a xs,v=.ref a/\SqT K H a xs/\xs.length=n/\t xs σ H Q
def A0{es:List Expr}{k:Nat}{t:TGs}{n:Nat}(hc:X.calm=true)(h:PGs X es t)
  (hn:(assignEach es X.env).length=n:=by rfl)(FD:(assignEach es X.env).findIdx? (·.1)=none:=by rfl):PG X (.Tuple es k pos) (Ei X.K n t):=by
 intro a_ s σ H v u Q I r hw;obtain⟨a,xs,e1,hq,hl,hw⟩:=hw;subst e1;cases r;obtain⟨its,rv,ht,hz⟩:=I.tuple hq;refine assign_Tuple_tuple (I.ok.hd hc) ht (by simp[hn,<-hl,rv.length]) FD fun h' hx=>?_
 have I1:Inv X a_ σ H {s with heap:=h'}:=I.kept (t':=s.toks) fun b o e=>hx b o (Zw (ZO e)) e
 exact h a_ _ σ H xs _ Q I1 (by simpa using rv) hw
def xY(te:TE)(g:TG):TS:=fun D σ H=>te σ H fun x H1=>g x σ H1 D.nx
def A6{tg e:Expr}{te:TE}{g:TG}(he:PE X e te)(hg:PG X tg g)(hs:swapsWithSole [tg] e pos.line X.env=pure false:=by rfl)(hw:swappedStores [tg] e X.env=pure none:=by rfl)
  (h1:(assignEach [tg] X.env).map (·.2)=[assign tg X.env]:=by rfl):PS X (.Assign [tg] e pos) (xY te g):=by
 intro a_ s σ H D I h;refine wpAny_Assign_stores (thn (he a_ s σ H _ I h) fun v s1 ⟨x,H1,I1,r1,q1⟩=>?_) hs hw
 rw[h1];exact thn (hg a_ s1 σ H1 x v _ I1 r1 q1) fun _ s2 q=>q
def gN{i:Nat}{x:Str}{e:Expr}{te:TE}{pos':Pos}(hN:X.N.Nodup)(hi:X.N[i]?=some x)(hx:Loc X.env.scope x)(he:PE X e te)(hs:swapsWith e (some (.Name x pos')) pos.line X.env=pure false:=by rfl)(hf:X.fn x=true\/X.env.scope.names.lookup x=some .local:=by first|exact .inl rfl|exact .inr rfl|assumption):
  PS X (.Assign [.Name x pos'] e pos) (xY te (fw i)):=by
 intro a_ s σ H D I h;refine wpAny_Assign_Name (thn (he a_ s σ H _ I h) fun v s1 ⟨y,H1,I1,r1,q1⟩=>?_) hs
 exact mD I1 hN hi hx r1 (fun s2 I2=>⟨_,H1,I2,q1⟩) hf
end
section
variable{X:Cx}{pos:Pos}
def zw(c:TT)(tb:TS):TS:=fun D σ H=>∃W:Nat->St->Hp->Prop,(∃m,W m σ H)/\∀m σ H,W m σ H->
 c σ H fun b H1=>if b=true then ∃N:St->Hp->Prop,(∀j_ H',N j_ H'->∃m',m'<m/\W m' j_ H')/\tb {D with nx:=N,ct:=N,bk:=D.nx} σ H1 else D.nx σ H1
def uA{c:Expr}{body:List Stmt}{tc:TT}{tb:TS}(hp:PassesOwn (model X.prog X.w) X.A X.env X.xe)(hc:PT X c tc)(hb:PSs X body tb):PS X (.While c body [] pos) (zw tc tb):=by
 intro a_ s σ H D I h;obtain⟨W,⟨m0,w0⟩,turn⟩:=h;refine wpAny_While (codeAny_whileLoop (fun n s'=>∃j_ H',Inv X a_ j_ H' s'/\W n j_ H') ?_ m0 ⟨σ,H,I,w0⟩)
 rintro n s1 ⟨HN,H1,I1,w1⟩
 refine XY hp (thn (hc a_ s1 HN H1 _ I1 (turn n HN H1 w1)) fun b s2 hz=>?_)
 obtain⟨H2,I2,q2⟩:=hz;cases b with
 |true=>
  obtain⟨N,hN,q2⟩:=q2;rw[Z0 rfl];refine XY hp (thn (hb a_ s2 HN H2 _ I2 q2) fun f s3 q3=>?_)
  cases f with
  |next=>
   obtain⟨F6,H3,I3,n3⟩:=q3;obtain⟨m',hm,w3⟩:=hN F6 H3 n3;exact⟨m',hm,F6,H3,I3,w3⟩
  |cont=>
   obtain⟨F6,H3,I3,n3⟩:=q3;obtain⟨m',hm,w3⟩:=hN F6 H3 n3;exact⟨m',hm,F6,H3,I3,w3⟩
  |brk=>exact q3
  |ret v=>exact q3
 |false=>
  rw[ZY Zv];exact WI ⟨HN,H2,I2,q2⟩
end
structure It where
 go:Nat->Hp->Prop
 yld:Nat->Hp->V->Hp->Prop
 stop:Nat->Hp->Prop
def fY(X:Cx)(a_:List (Z2×Obj))(H:Hp)(b:Z2):Prop:=
 H b=none/\b≠X.env.locals/\b∉X.fs/\(b∈X.ex\/X.p_.heap.objs.size<=b)/\(∀x c,X.env.cells.lookup x=some c->c≠b)/\∀p∈X.pn++a_,p.1≠b
def Inv.fpOk{X:Cx}{a_:List (Z2×Obj)}{σ:St}{H H':Hp}{s:Z4}{b:Z2}(I:Inv X a_ σ H s)(hb:s.heap.objs.size<=b)(hn:H' b=none):fY X a_ H' b:=by
 refine⟨hn,Nat.ne_of_gt (ZA I.lt hb),I.nofs hb,.inr (Zh I.sz hb),fun x c e z=>?_,fun p hp z=>?_⟩
 .obtain⟨v,q⟩:=I.cell x c e
  exact absurd (ZA q.lt (by rw[z];exact hb)) (Y5 _)
 .exact absurd (ZA (ZO (I.pin p hp).1) (by rw[z];exact hb)) (Y5 _)
structure Turn (P:ZC)(w:Zo)(K:Z5)(tg:Expr)(J:It)(fp:List Z2)(it:Z2)(tn:Nat->Heap->Prop):Prop where
 mem:it∈fp
 obj:∀i h,tn i h->∀b∈fp,∃o,h.get? b=some o/\∀v,o.data≠.cell v
 keep:∀i h h',tn i h->(∀b∈fp,∀o,h.get? b=some o->h'.get? b=some o)->tn i h'
 item:∀(X:Cx),X.prog=P->X.w=w->X.K=K->X.calm=true->∀(i:Nat)(a_:List (Z2×Obj))(s:Z4)(σ:St)(H:Hp)(E:Z7->Z4->Prop),Inv X a_ σ H s->(∀b∈fp,fY X a_ H b)->tn i s.heap->J.go i H->
  wpAny (model P w) X.A (pyNext (.ref it)) (fun r s1=>∃u,r=some u/\
   wpAny (model P w) X.A (letOwnedTupleGo tg (.ref it) u) (fun _ s2=>∃x H',Inv X a_ σ H' s2/\RelV x u/\J.yld i H x H'/\tn (i+1) s2.heap/\∀b∈fp,H' b=none) E s1) E s
 done:∀(X:Cx),X.prog=P->X.w=w->X.K=K->X.calm=true->∀(i:Nat)(a_:List (Z2×Obj))(s:Z4)(σ:St)(H:Hp)(E:Z7->Z4->Prop),Inv X a_ σ H s->(∀b∈fp,fY X a_ H b)->tn i s.heap->J.stop i H->
  wpAny (model P w) X.A (pyNext (.ref it)) (fun r s1=>r=none/\Inv X a_ σ H s1) E s
 self:∀(A:Zu)(i:Nat)(s:Z4)(Q:Z7->Z4->Prop)(E:Z7->Z4->Prop),tn i s.heap->Q (.ref it) s->wpAny (model P w) A (pyIter (.ref it)) Q E s
abbrev TI:=St->Hp->(It->Hp->Prop)->Prop
def PIE(X:Cx)(a_:List (Z2×Obj))(σ:St)(tg:Expr)(R:It->Hp->Prop)(Lu:Z7)(s2:Z4):Prop:=
 ∃(it:Z2)(fp:List Z2)(tn:Nat->Heap->Prop)(J:It)(H':Hp),Lu=.ref it/\Inv X a_ σ H' s2/\Turn X.prog X.w X.K tg J fp it tn/\tn 0 s2.heap/\(∀b∈fp,fY X a_ H' b)/\R J H'
def PI(X:Cx)(tg iter:Expr)(wi:TI):Prop:=
 ∀(a_:List (Z2×Obj))(s:Z4)(σ:St)(H:Hp)(R:It->Hp->Prop),Inv X a_ σ H s->wi σ H R->
  wpAny (model X.prog X.w) X.A (eval iter X.env) (fun v s1=>wpAny (model X.prog X.w) X.A (pyIter v) (PIE X a_ σ tg R) X.xe s1) X.xe s
def t6{M:Model}{A:Zu}{E:Z7->Z4->Prop}{s:Z4}{tg:Expr}{it:Z2}{u:Z7}{o:Obj}{n:String}{vs:Array Z7}{Q:Unit->Z4->Prop}(ho:s.heap.get? it=some o)(hc:o.cls=.type n)(hd:o.data=.fields vs)
  (hn:["enumerate","zip","dict_itemiterator","dict_reverseitemiterator","odict_iterator","itertools.zip_longest","itertools.pairwise"].contains n=false)(hQ:Q () s):wpAny M A (letOwnedTupleGo tg (.ref it) u) Q E s:=by
 unfold letOwnedTupleGo;cases tg<;>first
  |exact Z3 hQ
  |(cases u<;>first
    |exact Z3 hQ
    |(refine Z8 (wpAny_load ho ?_)
      rw[hc,hd];show wpAny M A (if(["enumerate","zip","dict_itemiterator","dict_reverseitemiterator","odict_iterator","itertools.zip_longest","itertools.pairwise"].contains n&&vs[0]?==some (rawInt _))=true then _ else _) Q E s
      rw[ZY (by intro h;rw[hn,Bool.false_and]at h;trivial)]
      exact Z3 hQ))
noncomputable def Itl(K:Z5)(a:Z2):It:=
 ⟨fun i H=>∃xs x,SqL K H a xs/\xs[i]?=some x,fun i H x H'=>H'=H/\∀xs,SqL K H a xs->xs[i]?=some x,fun i H=>∃xs,SqL K H a xs/\xs.length<=i⟩
noncomputable def Itt(K:Z5)(a:Z2):It:=
 ⟨fun i H=>∃xs x,SqT K H a xs/\xs[i]?=some x,fun i H x H'=>H'=H/\∀xs,SqT K H a xs->xs[i]?=some x,fun i H=>∃xs,SqT K H a xs/\xs.length<=i⟩
def Itr(lo:Int)(n:Nat):It:=⟨fun i _=>i<n,fun i H x H'=>H'=H/\x=.int (lo+i),fun i _=>n<=i⟩
def sN{P:ZC}{w:Zo}{K:Z5}{tg:Expr}(a it:Z2):Turn P w K tg (Itl K a) [it] it (fun i h=>h.IsListIter it a i) where
 mem:=by simp
 obj:=fun i h st b hb=>by
  have e:b=it:=by simpa using hb
  subst e;obtain⟨o,e,c,d⟩:=st;exact⟨o,e,fun v z=>by rw[d]at z;cases z⟩
 keep:=fun i h h' st k=>st.at fun o e=>k it (by simp) o e
 item:=by
  intro X hP hw hK hc i a_ s σ H E I hf st hg;subst hP hw hK;obtain⟨xs,x,hq,hx⟩:=hg;obtain⟨its,rv,p,hz⟩:=I.list hq;obtain⟨u,hu,ru⟩:=rv.get hx;obtain⟨f0,f1,f2,f3,f4,f5⟩:=hf it (by simp)
  refine wpAny_pyNext_list_item st p.isList (x:=u) (by simpa using hu) fun h' g_ sb=>?_
  have I1:Inv X a_ σ H {s with heap:=h'}:=I.turned (t':=s.toks) (fun b o hb e=>(sb.2 b hb).trans e) f0 f1 f3 f4 f5
  obtain⟨o,e,c,d⟩:=id g_;exact⟨u,rfl,t6 (s:={s with heap:=h'}) e c d (by decide) ⟨x,H,I1,ru,⟨rfl,fun ys hy=>by rw[I.list_inj hy hq];exact hx⟩,g_,fun b hb=>(hf b hb).1⟩⟩
 done:=by
  intro X hP hw hK hc i a_ s σ H E I hf st hg;subst hP hw hK;obtain⟨xs,hq,hx⟩:=hg;obtain⟨its,rv,p,hz⟩:=I.list hq;obtain⟨f0,f1,f2,f3,f4,f5⟩:=hf it (by simp)
  have hl:=rv.length;exact wpAny_pyNext_list_end (I.ok.hd hc) st p.isList (by simp;lia) fun h' eb=>⟨rfl,I.turned (t':=s.toks) (fun b o hb e=>eb b o hb e) f0 f1 f3 f4 f5⟩
 self:=fun _ _ _ _ _ st h=>wpAny_pyIter_listiter st h
def oz{P:ZC}{w:Zo}{K:Z5}{tg:Expr}(a it:Z2):Turn P w K tg (Itt K a) [it] it (fun i h=>h.IsTupleIter it a i) where
 mem:=by simp
 obj:=fun i h st b hb=>by
  have e:b=it:=by simpa using hb
  subst e;obtain⟨o,e,c,d⟩:=st;exact⟨o,e,fun v z=>by rw[d]at z;cases z⟩
 keep:=fun i h h' st k=>st.at fun o e=>k it (by simp) o e
 item:=by
  intro X hP hw hK hc i a_ s σ H E I hf st hg;subst hP hw hK;obtain⟨xs,x,hq,hx⟩:=hg;obtain⟨its,rv,p,hz⟩:=I.tuple hq;obtain⟨u,hu,ru⟩:=rv.get hx;obtain⟨f0,f1,f2,f3,f4,f5⟩:=hf it (by simp)
  refine wpAny_pyNext_tuple_item st (show s.heap.IsTuple a its.toArray from p) (x:=u) (by simpa using hu) fun h' g_ sb=>?_
  have I1:Inv X a_ σ H {s with heap:=h'}:=I.turned (t':=s.toks) (fun b o hb e=>(sb.2 b hb).trans e) f0 f1 f3 f4 f5
  obtain⟨o,e,c,d⟩:=id g_;exact⟨u,rfl,t6 (s:={s with heap:=h'}) e c d (by decide) ⟨x,H,I1,ru,⟨rfl,fun ys hy=>by rw[I.tuple_inj hy hq];exact hx⟩,g_,fun b hb=>(hf b hb).1⟩⟩
 done:=by
  intro X hP hw hK hc i a_ s σ H E I hf st hg;subst hP hw hK;obtain⟨xs,hq,hx⟩:=hg;obtain⟨its,rv,p,hz⟩:=I.tuple hq;obtain⟨f0,f1,f2,f3,f4,f5⟩:=hf it (by simp)
  have hl:=rv.length;exact wpAny_pyNext_tuple_end (I.ok.hd hc) st (show s.heap.IsTuple a its.toArray from p) (by simp;lia) fun h' eb=>⟨rfl,I.turned (t':=s.toks) (fun b o hb e=>eb b o hb e) f0 f1 f3 f4 f5⟩
 self:=fun _ _ _ _ _ st h=>wpAny_pyIter_tupleiter st h
def oA{P:ZC}{w:Zo}{K:Z5}{tg:Expr}(it:Z2)(lo:Int)(n:Nat):Turn P w K tg (Itr lo n) [it] it (fun i h=>IsRangeIter h it (lo+(i:Nat)*1) ((n:Int) - (i:Nat)) 1) where
 mem:=by simp
 obj:=fun i h st b hb=>by
  have e:b=it:=by simpa using hb
  subst e;exact⟨_,st,fun v z=>by
   have z':Data.fields _=Data.cell v:=z;cases z'⟩
 keep:=fun i h h' st k=>k it (by simp) _ st
 item:=by
  intro X hP hw hK hc i a_ s σ H E I hf st hg;subst hP hw hK;obtain⟨f0,f1,f2,f3,f4,f5⟩:=hf it (by simp)
  have W:=Walks.range (prog:=X.prog) (w:=X.w) (I.ok.hd hc) it lo 1 n;refine W.item i s _ _ hg st fun v h' tk hv g_ kk=>?_
  obtain⟨t,rfl⟩:=hv;have I1:Inv X a_ σ H {s with heap:=h',toks:=tk}:=I.turned (fun b o hb e=>kk b o (by simpa using hb) e) f0 f1 f3 f4 f5
  refine⟨_,rfl,t6 (s:={s with heap:=h',toks:=tk}) (n:="range_iterator") g_ rfl rfl (by decide) ⟨.int (lo+i),H,I1,⟨t,?_⟩,⟨rfl,rfl⟩,g_,fun b hb=>(hf b hb).1⟩⟩
  rw[Int.mul_one]
 done:=by
  intro X hP hw hK hc i a_ s σ H E I hf st hg;subst hP hw hK;obtain⟨f0,f1,f2,f3,f4,f5⟩:=hf it (by simp)
  exact wpAny_pyNext_range_end (I.ok.hd hc) st (by have:n<=i:=hg;lia) fun h' eb=>⟨rfl,I.turned (t':=s.toks) (fun b o hb e=>eb b o hb e) f0 f1 f3 f4 f5⟩
 self:=fun _ _ _ _ _ st h=>wpAny_pyIter_rangeiter st h
section
variable{X:Cx}{tg:Expr}
def Ad(K:Z5)(tl:TE):TI:=fun σ H R=>tl σ H fun x H1=>∃a,x=.ref a/\(∃xs,SqL K H1 a xs)/\R (Itl K a) H1
def Eh(K:Z5)(tl:TE):TI:=fun σ H R=>tl σ H fun x H1=>∃a,x=.ref a/\(∃xs,SqT K H1 a xs)/\R (Itt K a) H1
def r9{l:Expr}{tl:TE}(hl:PE X l tl):PI X tg l (Ad X.K tl):=by
 intro a_ s σ H R I h;refine thn (hl a_ s σ H _ I h) fun v s1 hz=>?_
 obtain⟨x,H1,I1,r1,q1⟩:=hz;obtain⟨a,e,⟨xs,hq⟩,q⟩:=q1;subst e;cases r1;obtain⟨its,rv,p,hz⟩:=I1.list hq;refine WY p.isList ?_
 refine⟨s1.heap.objs.size,[s1.heap.objs.size],_,_,H1,rfl,I1.kept (t':=s1.toks) fun b o e=>Z6 _ e,sN a _,⟨_,ZT _ rfl,rfl,rfl⟩,fun b hb=>?_,q⟩
 have e:b=s1.heap.objs.size:=by simpa using hb
 subst e;exact I1.fpOk (ZU _) (I1.hok.fresh (ZU _))
def zY{l:Expr}{tl:TE}(hl:PE X l tl):PI X tg l (Eh X.K tl):=by
 intro a_ s σ H R I h;refine thn (hl a_ s σ H _ I h) fun v s1 hz=>?_
 obtain⟨x,H1,I1,r1,q1⟩:=hz;obtain⟨a,e,⟨xs,hq⟩,q⟩:=q1;subst e;cases r1;obtain⟨its,rv,p,hz⟩:=I1.tuple hq;refine wpAny_pyIter_tuple (show s1.heap.IsTuple a its.toArray from p) ?_
 refine⟨s1.heap.objs.size,[s1.heap.objs.size],_,_,H1,rfl,I1.kept (t':=s1.toks) fun b o e=>Z6 _ e,oz a _,⟨_,ZT _ rfl,rfl,rfl⟩,fun b hb=>?_,q⟩
 have e:b=s1.heap.objs.size:=by simpa using hb
 subst e;exact I1.fpOk (ZU _) (I1.hok.fresh (ZU _))
def vF{a_:List (Z2×Obj)}{σ:St}{H:Hp}{s:Z4}{R:It->Hp->Prop}{E:Z7->Z4->Prop}{lo hi:Int}{t u v:Tok}{tk:Nat}(I:Inv X a_ σ H s)(h1: -(2 ^ 62)<=lo)(h2:lo<2 ^ 62)(h3: -(2 ^ 62)<=hi)(h4:hi<2 ^ 62)
  (q:R (Itr lo (hi - lo).toNat) H):wpAny (model X.prog X.w) X.A (pyIter (.ref s.heap.objs.size)) (PIE X a_ σ tg R) E {s with heap:=s.heap.push {cls:=.type "range",data:=.fields #[.int lo t,.int hi u,.int 1 v]},toks:=tk}:=by
 refine wpAny_pyIter_range (IsRange.new ..) (small_one h1 h2 h3 h4) ?_
 have I1:Inv X a_ σ H {s with heap:=s.heap.push {cls:=.type "range",data:=.fields #[.int lo t,.int hi u,.int 1 v]},toks:=tk}:=I.kept fun b o e=>Z6 _ e
 refine⟨(s.heap.push {cls:=.type "range",data:=.fields #[.int lo t,.int hi u,.int 1 v]}).objs.size,[(s.heap.push {cls:=.type "range",data:=.fields #[.int lo t,.int hi u,.int 1 v]}).objs.size],_,_,H,rfl,
  I1.kept (t':=tk) fun b o e=>Z6 _ e,oA _ lo (hi - lo).toNat,?_,fun b hb=>?_,q⟩
 .have e1:lo+((0:Nat):Int)*1=lo:=by simp
  have e2:(((hi - lo).toNat:Nat):Int) - ((0:Nat):Int)=Builtin.Range.rangeSize lo hi 1:=by rw[rangeSize_one];split<;>lia
  show IsRangeIter _ _ (lo+((0:Nat):Int)*1) ((((hi - lo).toNat:Nat):Int) - ((0:Nat):Int)) 1;rw[e1,e2];exact ZT _ rfl
 .have e:b=(s.heap.push {cls:=.type "range",data:=.fields #[.int lo t,.int hi u,.int 1 v]}).objs.size:=by simpa using hb
  subst e;exact I1.fpOk (ZU _) (I1.hok.fresh (ZU _))
def BF(ta:TA):TI:=fun σ H R=>ta σ H fun vs H1=>∃j:Int,vs=[.int j]/\ -(2 ^ 62)<=j/\j<2 ^ 62/\R (Itr 0 j.toNat) H1
def qa{a:Expr}{ta:TA}{p pos:Pos}(hg:Gl X "range")(hm:X.mg "range"=none)(ha:PA X [a] ta)(hs:starEach [a] X.env=[(false,eval a X.env)]:=by rfl):PI X tg (.Call (.Name "range" p) [a] [] pos) (BF ta):=by
 intro a_ s σ H R I h;refine Call_ (d6 I hg hm boot_range (X3 (thn (ha pos a_ s σ H _ I h) fun us s1 ⟨vs,H1,I1,r1,q1⟩=>?_) hs rfl))
 obtain⟨j,e,q1,q2,q⟩:=q1;subst e;cases r1 with
 |cons r rr=>
  cases rr;obtain⟨t,rfl⟩:=r;exact call_range_1 (vF I1 (by lia) (by lia) q1 q2 (by simpa using q))
def Ez(wi:TI)(g:TG)(tb:TS):TS:=fun D σ H=>wi σ H fun J H1=>∃W:Nat->Nat->St->Hp->Prop,(∃m,W 0 m σ H1)/\∀i m σ H,W i m σ H->
 (J.stop i H/\D.nx σ H)\/(J.go i H/\∃N:St->Hp->Prop,(∀j_ H',N j_ H'->∃m',m'<m/\W (i+1) m' j_ H')/\∀x H',J.yld i H x H'->g x σ H' fun Fz H2=>tb {D with nx:=N,ct:=N,bk:=D.nx} Fz H2)
def jG(fp:List Z2)(h:Heap):List (Z2×Obj):=fp.filterMap fun b=>(h.get? b).map fun o=>(b,o)
def cN{fp:List Z2}{h:Heap}{b:Z2}{o:Obj}(hb:b∈fp)(e:h.get? b=some o):(b,o)∈jG fp h:=Yr.mpr ⟨b,hb,by rw[e];rfl⟩
def qx{fp:List Z2}{h:Heap}{p:Z2×Obj}(hp:p∈jG fp h):p.1∈fp/\h.get? p.1=some p.2:=by
 obtain⟨b,hb,e⟩:=Yr.mp hp;cases q:h.get? b with
 |none=>rw[q]at e;trivial
 |some o=>
  rw[q]at e;have e':(b,o)=p:=Z9 e;subst e';exact⟨hb,q⟩
def Inv.pinned{a_:List (Z2×Obj)}{σ:St}{H:Hp}{s:Z4}{fp:List Z2}(I:Inv X a_ σ H s)(hf:∀b∈fp,fY X a_ H b)(ho:∀b∈fp,∃o,s.heap.get? b=some o/\∀v,o.data≠.cell v):Inv X (a_++jG fp s.heap) σ H s:=
 I.pins_of fun p hp=>(Zl.mp hp).elim (fun z=>I.pin p (ZI _ z)) fun z=>by
  obtain⟨hb,e⟩:=qx z;obtain⟨f0,f1,f2,_⟩:=hf p.1 hb;obtain⟨o,e',d⟩:=ho p.1 hb;rw[e]at e';obtain rfl:=Z9 e';exact⟨e,f0,f1,f2,d⟩
def Inv.unpinned{a_ pl:List (Z2×Obj)}{σ:St}{H:Hp}{s:Z4}(I:Inv X (a_++pl) σ H s):Inv X a_ σ H s:=I.pins_of fun p hp=>I.pin p (ZI _ (Y1 _ hp))
def rX{iter:Expr}{body:List Stmt}{wi:TI}{g:TG}{tb:TS}{pos:Pos}(hp:PassesOwn (model X.prog X.w) X.A X.env X.xe)(hc:X.calm=true)(hi:PI X tg iter wi)(hg:PG X tg g)(hb:PSs X body tb)
  (hs:∀x,foldedSetIterable iter X.env x=pure x:=by intro _;rfl):PS X (.For tg iter body [] pos) (Ez wi g tb):=by
 intro a_ s σ H D I h;refine wpAny_For (thn (hi a_ s σ H _ I h) fun v s1 h1=>thn h1 fun Lu s2 h2=>?_) hs
 obtain⟨it,fp,tn,J,H2,e,I2,T,JX,f2,W,⟨m0,w0⟩,turn⟩:=h2;subst e;have Ga:∀{H':Hp},(∀b∈fp,H' b=none)->∀b∈fp,fY X a_ H' b:=fun hn b hb=>⟨hn b hb,(f2 b hb).2⟩
 refine codeAny_forLoop_any (fun n s'=>∃i j_ H',Inv X a_ j_ H' s'/\tn i s'.heap/\(∀b∈fp,H' b=none)/\W i n j_ H') ?_ m0 ⟨0,σ,H2,I2,JX,fun b hb=>(f2 b hb).1,w0⟩
 rintro n s3 ⟨i,F6,H3,I3,NF,OU,w3⟩
 rcases turn i n F6 H3 w3 with⟨stop,qn⟩|⟨go,N,hN,step⟩
 .refine XY hp (thn (T.done X rfl rfl rfl hc i a_ s3 F6 H3 X.xe I3 (Ga OU) NF stop) fun r s4 hz=>?_)
  obtain⟨hr,I4⟩:=hz;subst hr;exact WI ⟨F6,H3,I4,qn⟩
 .refine XY hp (thn (T.item X rfl rfl rfl hc i a_ s3 F6 H3 X.xe I3 (Ga OU) NF go) fun r s4 hz=>?_)
  obtain⟨u,hr,h4⟩:=hz;subst hr;refine XY hp (thn h4 fun _ s5 hz=>?_)
  obtain⟨x,H5,I5,r5,y5,LV,Rm⟩:=hz;have RK:=I5.pinned (Ga Rm) (T.obj _ _ LV);refine XY hp (thn (hg _ s5 F6 H5 x u _ RK r5 (step x H5 y5)) fun _ s6 hz=>?_)
  obtain⟨JA,H6,I6,q6⟩:=hz;refine XY hp (thn (hb _ s6 JA H6 _ I6 q6) fun f s7 q7=>?_)
  have again:∀{G2:St}{H7:Hp},Inv X (a_++jG fp s5.heap) G2 H7 s7->N G2 H7->∃m,m<n/\∃i j_ H',Inv X a_ j_ H' s7/\tn i s7.heap/\(∀b∈fp,H' b=none)/\W i m j_ H':=fun{G2 H7} I7 n7=>by
   obtain⟨m',hm,w7⟩:=hN G2 H7 n7;refine⟨m',hm,i+1,G2,H7,I7.unpinned,T.keep _ _ _ LV fun b hb o e=>(I7.pin (b,o) (ZI _ (ZI _ (cN hb e)))).1,fun b hb=>?_,w7⟩
   obtain⟨o,e,d⟩:=T.obj _ _ LV b hb;exact(I7.pin (b,o) (ZI _ (ZI _ (cN hb e)))).2.1
  cases f with
  |next=>obtain⟨G2,H7,I7,n7⟩:=q7;exact again I7 n7
  |cont=>obtain⟨G2,H7,I7,n7⟩:=q7;exact again I7 n7
  |brk=>obtain⟨G2,H7,I7,q7⟩:=q7;exact⟨G2,H7,I7.unpinned,q7⟩
  |ret v=>obtain⟨x7,G2,H7,I7,r7,q7⟩:=q7;exact⟨x7,G2,H7,I7.unpinned,r7,q7⟩
end
abbrev R2:=V->V->Hp->VK->Prop
def OpR(X:Cx)(f:Z7->Z7->Sem Z7)(r:R2):Prop:=
 ∀(a_:List (Z2×Obj))(s:Z4)(σ:St)(H:Hp)(x y:V)(v u:Z7)(Q:VK),Inv X a_ σ H s->RelV x v->RelV y u->r x y H Q->
  wpAny (model X.prog X.w) X.A (f v u) (EP X a_ σ Q) X.xe s
def ei(X:Cx)(f:Z7)(r:List V->Hp->VK->Prop):Prop:=
 ∀(a_:List (Z2×Obj))(s:Z4)(σ:St)(H:Hp)(xs:List V)(us:List Z7)(Q:VK),Inv X a_ σ H s->Vals xs us->r xs H Q->
  wpAny (model X.prog X.w) X.A (call f us) (EP X a_ σ Q) X.xe s
def Et(X:Cx)(r:V->Hp->(Bool->Hp->Prop)->Prop):Prop:=
 ∀(a_:List (Z2×Obj))(s:Z4)(σ:St)(H:Hp)(x:V)(v:Z7)(Q:Bool->Hp->Prop),Inv X a_ σ H s->RelV x v->r x H Q->
  wpAny (model X.prog X.w) X.A (truthy v) (TP X a_ σ Q) X.xe s
def tOp(r:R2)(ta tb:TE):TE:=fun σ H Q=>ta σ H fun x H1=>tb σ H1 fun y H2=>r x y H2 Q
def rI(C:Int->Int->Prop)(g:Int->Int->V):R2:=fun x y H Q=>∃i j,x=.int i/\y=.int j/\C i j/\Q (g i j) H
def rI0(g:Int->Int->V):R2:=fun x y H Q=>∃i j,x=.int i/\y=.int j/\Q (g i j) H
section
variable{X:Cx}{a b c:Expr}{ta tb tc:TE}{pos:Pos}
def BP(ha:PE X a ta)(hb:PE X b tb){a_:List (Z2×Obj)}{s:Z4}{σ:St}{H:Hp}{R:V->V->Hp->Prop}(I:Inv X a_ σ H s)
  (h:ta σ H fun x H1=>tb σ H1 fun y H2=>R x y H2) {Q:Z7->Z4->Prop}{f:Z7->Z7->Sem Z7}
  (hf:∀v u s2 x y H2,Inv X a_ σ H2 s2->RelV x v->RelV y u->R x y H2->wpAny (model X.prog X.w) X.A (f v u) Q X.xe s2):
  wpAny (model X.prog X.w) X.A (eval a X.env) (fun v h_=>wpAny (model X.prog X.w) X.A (eval b X.env) (fun u d_=>wpAny (model X.prog X.w) X.A (f v u) Q X.xe d_) X.xe h_) X.xe s:=by
 refine thn (ha a_ s σ H _ I h) fun v s1 hz=>?_
 obtain⟨x,H1,I1,r1,q1⟩:=hz;refine thn (hb a_ s1 σ H1 _ I1 q1) fun u s2 hz=>?_
 obtain⟨y,H2,I2,r2,q2⟩:=hz;exact hf v u s2 x y H2 I2 r1 r2 q2
def uI{op:Operator}{r:R2}(ho:OpR X (binaryOp op) r)(ha:PE X a ta)(hb:PE X b tb):PE X (.BinOp a op b pos) (tOp r ta tb):=by
 intro a_ s σ H Q I h;exact wpAny_BinOp (BP ha hb I h fun v u s2 x y H2 I2 rx ry q=>ho a_ s2 σ H2 x y v u Q I2 rx ry q)
def opI{f:Z7->Z7->Sem Z7}{C:Int->Int->Prop}{g:Int->Int->Int}
  (rule:∀(i j:Int)(t u:Tok)(s:Z4)(Q:Z7->Z4->Prop)(E:Z7->Z4->Prop),C i j->Q (.int (g i j) s.toks) {s with toks:=s.toks+1}->wpAny (model X.prog X.w) X.A (f (.int i t) (.int j u)) Q E s):
  OpR X f (rI C fun i j=>.int (g i j)):=by
 intro a_ s σ H x y v u Q I rx ry h;obtain⟨i,j,rfl,rfl,hc,q⟩:=h;obtain⟨t,rfl⟩:=rx;obtain⟨t',rfl⟩:=ry;exact rule i j t t' s _ _ hc ⟨.int (g i j),H,I.tok _,⟨_,rfl⟩,q⟩
def CO{f:Z7->Z7->Sem Z7}{g:Int->Int->Int}
  (rule:∀(i j:Int)(t u:Tok)(s:Z4)(Q:Z7->Z4->Prop)(E:Z7->Z4->Prop),Q (.int (g i j) s.toks) {s with toks:=s.toks+1}->wpAny (model X.prog X.w) X.A (f (.int i t) (.int j u)) Q E s):
  OpR X f (rI0 fun i j=>.int (g i j)):=by
 intro a_ s σ H x y v u Q I rx ry h;obtain⟨i,j,rfl,rfl,q⟩:=h;obtain⟨t,rfl⟩:=rx;obtain⟨t',rfl⟩:=ry;exact rule i j t t' s _ _ ⟨.int (g i j),H,I.tok _,⟨_,rfl⟩,q⟩
def Bu{f:Z7->Z7->Sem Z7}{g:Int->Int->Bool}
  (rule:∀(i j:Int)(t u:Tok)(s:Z4)(Q:Z7->Z4->Prop)(E:Z7->Z4->Prop),Q (.bool (g i j)) s->wpAny (model X.prog X.w) X.A (f (.int i t) (.int j u)) Q E s):
  OpR X f (rI0 fun i j=>.bl (g i j)):=by
 intro a_ s σ H x y v u Q I rx ry h;obtain⟨i,j,rfl,rfl,q⟩:=h;obtain⟨t,rfl⟩:=rx;obtain⟨t',rfl⟩:=ry;exact rule i j t t' s _ _ ⟨.bl (g i j),H,I,rfl,q⟩
def EU(i j:Int):Prop:=0<j/\j<1073741824
def CMul(i j:Int):Prop:=(-(2 ^ 64)<i/\i<2 ^ 64)\/(-(2 ^ 64)<j/\j<2 ^ 64)
def CMul.ok{i j:Int}(h:CMul i j):IntMulOk i j:=by
 rcases h with⟨h1,h2⟩|⟨h1,h2⟩
 .exact .of_left (intBits_le_64 h1 h2)
 .exact .of_right (intBits_le_64 h1 h2)
def AU:OpR X (binaryOp .Add) (rI0 fun i j=>.int (i+j)):=CO fun _ _ _ _ _ _ _ q=>add_int q
def A7:OpR X (binaryOp .Sub) (rI0 fun i j=>.int (i - j)):=CO fun _ _ _ _ _ _ _ q=>sub_int q
def zS:OpR X (binaryOp .Mult) (rI CMul fun i j=>.int (i*j)):=opI fun _ _ _ _ _ _ _ hc q=>mul_int q hc.ok
def zg:OpR X (binaryOp .FloorDiv) (rI EU fun i j=>.int (i / j)):=opI fun i j _ _ _ _ _ hc q=>by
 have h1:(0:Int)<j:=hc.1;have h2:j<1073741824:=hc.2;exact floordiv_int (by lia) (by rw[Int.fdiv_eq_ediv_of_nonneg i (by lia)];exact q) (.inl (PyProof.noPylong_small (by lia)))
def zJ:OpR X (binaryOp .Mod) (rI (fun _ j=>0<j) fun i j=>.int (i%j)):=opI fun i j _ _ _ _ _ hc q=>by
 have h1:(0:Int)<j:=hc;exact mod_int' (by lia) (by rw[Int.fmod_eq_emod_of_nonneg i (by lia)];exact q)
end
section
variable{X:Cx}{a b c:Expr}{ta tb tc:TE}{pos:Pos}
def AO{a_:List (Z2×Obj)}{σ:St}{H:Hp}{s:Z4}{Q:VK}{k k':Bool}(I:Inv X a_ σ H s)(q:Q (.bl k) H)(e:k=k'):EP X a_ σ Q (.bool k') s:=by
 subst e;exact⟨.bl k,H,I,rfl,q⟩
def BD:OpR X (compareOp .Lt) (rI0 fun i j=>.bl (decide (i<j))):=Bu fun _ _ _ _ _ _ _ q=>lt_int q
def CF:OpR X (compareOp .LtE) (rI0 fun i j=>.bl (decide (i<=j))):=Bu fun _ _ _ _ _ _ _ q=>le_int q
def BY:OpR X (compareOp .Gt) (rI0 fun i j=>.bl (decide (j<i))):=Bu fun _ _ _ _ _ _ _ q=>gt_int q
def Ck:OpR X (compareOp .GtE) (rI0 fun i j=>.bl (decide (j<=i))):=Bu fun _ _ _ _ _ _ _ q=>ge_int q
def yk:OpR X (compareOp .IsNot) (fun x y H Q=>y=.non/\Q (.bl (!decide (x=.non))) H):=by
 intro a_ s σ H x y v u Q I rx ry h;obtain⟨rfl,q⟩:=h;cases ry;refine isnot_none_gen (AO I q ?_)
 cases x<;>first
  |(cases rx;rfl)
  |(obtain⟨t,rfl⟩:=rx;rfl)
def q5(b:Expr){op:CmpOp}(h:op≠.In:=by decide)(h2:op≠.NotIn:=by decide):behindInMarks op b=false:=by
 have e1:(op==CmpOp.In)=false:=by cases op<;>first|rfl|exact absurd rfl h
 have e2:(op==CmpOp.NotIn)=false:=by cases op<;>first|rfl|exact absurd rfl h2
 cases b<;>simp[behindInMarks,e1,e2]
def rW{op:CmpOp}{r:R2}(ho:OpR X (compareOp op) r)(ha:PE X a ta)(hb:PE X b tb)(hm:behindInMarks op b=false):PE X (.Compare a [op] [b] pos) (tOp r ta tb):=by
 intro a_ s σ H Q I h;exact wpAny_Compare1 (BP ha hb I h fun v u s2 x y H2 I2 rx ry q=>ho a_ s2 σ H2 x y v u Q I2 rx ry q) hm
def B1(t:TE):TT:=fun σ H Q=>t σ H fun x H'=>∃k,x=.bl k/\Q k H'
def dR{op:CmpOp}{r:R2}(ho:OpR X (compareOp op) r)(ha:PE X a ta)(hb:PE X b tb)(hm:behindInMarks op b=false):PT X (.Compare a [op] [b] pos) (B1 (tOp r ta tb)):=by
 intro a_ s σ H Q I h;refine wpAny_isTrue_Compare1 (thn (ha a_ s σ H _ I h) fun v s1 ⟨x,H1,I1,r1,q1⟩=>thn (hb a_ s1 σ H1 _ I1 q1) fun u s2 ⟨y,H2,I2,r2,q2⟩=>
  thn (ho a_ s2 σ H2 x y v u _ I2 r1 r2 q2) fun c s3 ⟨z,H3,I3,r3,k,e,q3⟩=>?_) hm
 subst e;cases r3;exact XR ⟨H3,I3,q3⟩
def CM(K:Z5)(x:V)(H:Hp)(k:Bool):Prop:=
 match x with
 |.non=>k=false
 |.bl b=>k=b
 |.int i=>k=(i != 0)
 |.str y=>y.length<=sizeLine/\k=((y.length:Int) != 0)
 |.byt y=>y.size<=sizeLine/\k=((y.size:Int) != 0)
 |.ref p=>(∃xs,SqL K H p xs/\k=!xs.isEmpty)\/(∃xs,SqT K H p xs/\k=!xs.isEmpty)\/∃b_,H p=some (.dK b_)/\k=!b_.isEmpty
 |_=>False
def nY{κ:Type}{b_:List (κ×V)}{vs:List (κ×Z7)}(r:KV b_ vs):(!vs.isEmpty)=!b_.isEmpty:=by
 cases r<;>rfl
def gn{xs:List V}{its:List Z7}(r:Vals xs its):(!its.toArray.isEmpty)=!xs.isEmpty:=by
 cases r<;>simp
def jM:(sizeLine:Nat)<2 ^ 63:=by rw[XO];decide
def A3:Et X (fun x H Q=>∃k,CM X.K x H k/\Q k H):=by
 intro a_ s σ H x v Q I rx h;obtain⟨k,e,q⟩:=h;have hl:=jM;have hs:sizeLine=16777216:=XO;cases x with
 |non=>
  cases rx;have e':k=false:=e;subst e';exact truthy_none ⟨H,I,q⟩
 |bl b=>
  cases rx;have e':k=b:=e;subst e';exact XR ⟨H,I,q⟩
 |int i=>
  obtain⟨t,rfl⟩:=rx;have e':k=(i != 0):=e;subst e';exact PySem.P.truthy_int ⟨H,I,q⟩
 |str y=>
  obtain⟨t,rfl⟩:=rx;obtain⟨hy,e'⟩:y.length<=sizeLine/\k=((y.length:Int) != 0):=e;subst e';exact PySem.P.truthy_str (by lia) ⟨H,I.tok _,q⟩
 |byt y=>
  obtain⟨t,rfl⟩:=rx;obtain⟨hy,e'⟩:y.size<=sizeLine/\k=((y.size:Int) != 0):=e;subst e';exact PySem.W.truthy_bytes (by lia) ⟨H,I.tok _,q⟩
 |ref p=>
  cases rx;have e':(∃xs,SqL X.K H p xs/\k=!xs.isEmpty)\/(∃xs,SqT X.K H p xs/\k=!xs.isEmpty)\/∃b_,H p=some (.dK b_)/\k=!b_.isEmpty:=e
  rcases e' with⟨xs,hx,e'⟩|⟨xs,hx,e'⟩|⟨b_,hx,e'⟩
  .subst e'
   obtain⟨its,r,pl,hz⟩:=I.list hx;have hlen:=r.length;exact wpAny_truthy_list pl.isList (by simp only[ZQ];lia) ⟨H,I.tok _,by rw[gn r];exact q⟩
  .subst e'
   obtain⟨its,r,pl,hz⟩:=I.tuple hx;have hlen:=r.length;exact truthy_tuple pl (by simp only[ZQ];lia) ⟨H,I.tok _,by rw[gn r];exact q⟩
  .subst e'
   obtain⟨hz,hS,vs,r,m⟩:b_.length<=sizeLine/\(p==sysModules)=false/\∃vs,KV b_ vs/\s.heap.DictOf (aS X.prog X.w) p vs:=I.hok p _ hx;have hlen:b_.length=vs.length:=YF r;exact wpAny_truthy_dict hS m (by lia) ⟨H,I.tok _,by rw[nY r];exact q⟩
 |_=>exact(show False from e).elim
def mC(ha:PE X a ta)(he:∀whole,isTrue a X.env whole=(do let v <-whole;standAt a.pos;holding [v] (truthy v))):
  PT X a (fun σ H Q=>ta σ H fun x H'=>∃k,CM X.K x H' k/\Q k H'):=by
 intro a_ s σ H Q I h;exact isTrue_plain (thn (ha a_ s σ H _ I h) fun v s1 hz=>by obtain⟨x,H1,I1,r1,q1⟩:=hz;exact A3 a_ s1 σ H1 x v Q I1 r1 q1) (he _)
def oI:OpR X (binaryOp .Add) (fun x y H Q=>∃i j,x=.str i/\y=.str j/\i.length+j.length<=sizeLine/\Q (.str (i++j)) H):=by
 intro a_ s σ H x y v u Q I rx ry h;obtain⟨i,j,rfl,rfl,hz,q⟩:=h;obtain⟨t,rfl⟩:=rx;obtain⟨t',rfl⟩:=ry;exact add_str (fun t' tk=>⟨.str (i++j),H,I.tok _,⟨_,rfl⟩,q⟩) hz
def gd{x:V}{us:List Z7}(r:Vals [x] us):∃u,us=[u]/\RelV x u:=by
 cases r with
 |cons r1 r2=>cases r2;exact⟨_,rfl,r1⟩
def B8{x y:V}{us:List Z7}(r:Vals [x,y] us):∃u w',us=[u,w']/\RelV x u/\RelV y w':=by
 cases r with
 |cons r1 r2=>
  cases r2 with
  |cons r3 r4=>cases r4;exact⟨_,_,rfl,r1,r3⟩
end
structure ObjM (h:Heap)(x dx C:Z2)(mA:Str->Z_ Z7):Prop where
 obj:h.get? x=some (PySem.W.instObj C dx)
 ns:h.Ns1 dx mA
 ne:dx≠x
def rZ{h:Heap}{dx:Z2}{mA:Str->Z_ Z7}(n:h.Ns1 dx mA):∃od,h.get? dx=some od/\∀name,PySem.W.lookIn name od=some (mA name):=by
 obtain⟨o,es,ep,ho,hd,hk,_,hm⟩:=n;refine⟨o,ho,fun name=>?_⟩
 have e:=hm name;unfold nsFind findBy at e;rw[<-Array.find?_toList]at e
 unfold PySem.W.lookIn;rw[hd];dsimp only;split
 .rename_i y q
  rw[q]at e;exact congrArg some e
 .rename_i q
  rw[q]at e;have a:es.toList.any (·.refKey)=false:=by
   rw[List.any_eq_false];intro y hy;obtain⟨z,t,v_⟩:=hk y (Array.mem_toList_iff.mp hy);simp[DictEntry.refKey,v_]
  have a':¬es.toList.any (·.refKey)=true:=by rw[a];exact Zv
  rw[ZY a'];exact congrArg some e
def ObjM.look{h:Heap}{x dx C:Z2}{mA:Str->Z_ Z7}(I:ObjM h x dx C mA):∃od,PySem.W.InstAt h x (PySem.W.instObj C dx) C (some od)/\∀name,PySem.W.lookIn name od=some (mA name):=
 let ⟨od,ho,hl⟩:=rZ I.ns
 ⟨od,⟨I.obj,rfl,rfl,ho⟩,hl⟩
section
variable{prog:ZC}{w:Zo}{A:Zu}{E:Z7->Z4->Prop}{s:Z4}{K:Z5}{x dx C f:Z2}{mA:Str->Z_ Z7}{name:Str}{v:Z7}
end
def RelO.some_of{v:V}{o:Z_ Z7}(r:RelO (some v) o):∃u,o=some u/\RelV v u:=by
 cases o with
 |none=>exact(show False from r).elim
 |some u=>exact⟨u,rfl,r⟩
def RelO.none_of{o:Z_ Z7}(r:RelO none o):o=none:=by
 cases o with
 |none=>rfl
 |some u=>exact(show False from r).elim
section
variable{P:ZC}{w:Zo}{H H':Hp}{h h':Heap}{a C dx:Z2}{fs Ie:List (Str×V)}
def xh(hok:HOk P w H h)(e:H a=some (.ins C dx fs)):∃mA,ObjM h a dx C mA/\(∀f,RelO (fs.lookup f) (mA f))/\PySem.Within mA (fs.map (·.1))/\fs.length<=1000/\H dx=some (.own a):=by
 obtain⟨d,z,ne,ob,mA,n,r,q⟩:=(show ObjOk P w H h a (.ins C dx fs) from hok a _ e)
 exact⟨mA,⟨ob,n,ne⟩,r,q,z,d⟩
end
structure Cls (K:Z5)(C:Z2):Prop where
 pg:PySem.W.plainGet K C Str.empty=true
 hd:PySem.W.hasDictIn K C=true
 po:PySem.W.plainOver K C=true
 sa:PySem.W.findIn K (.ref C) "__setattr__"=some (some (.builtin "object.__setattr__"))
def Cls.get{K:Z5}{C:Z2}(c:Cls K C)(f:Str):PySem.W.plainGet K C f=true:=c.pg
section
variable{X:Cx}{a_:List (Z2×Obj)}{σ:St}{H:Hp}{s:Z4}{a C dx:Z2}{fs:List (Str×V)}{f:Str}{v:V}{A:Zu}{E:Z7->Z4->Prop}
end
section
variable{X:Cx}{o e value:Expr}{f:Str}{pos pos' MX:Pos}{ta tv:TE}
end
section
variable{X:Cx}{a_:List (Z2×Obj)}{σ:St}{H:Hp}{s:Z4}{A:Zu}{E:Z7->Z4->Prop}{Q:Z7->Z4->Prop}{c:Z7}{b:Bool}
inductive TyOf (K:Z5)(H:Hp):V->Z7->Prop where
 |non:TyOf K H .non (.type "NoneType")
 |bl (x:Bool):TyOf K H (.bl x) (.type "bool")
 |int (i:Int):TyOf K H (.int i) (.type "int")
 |str (x:Str):TyOf K H (.str x) (.type "str")
 |flt (x:UInt64):TyOf K H (.flt x) (.type "float")
 |lst {a:Z2}{xs:List V}(e:H a=some (.lst xs)):TyOf K H (.ref a) (.type "list")
 |frz {a:Z2}{o:Obj}{xs:List V}(e:H a=some (.frz o (.lst xs))):TyOf K H (.ref a) (.type "list")
 |tup {a:Z2}{xs:List V}(e:H a=some (.tup xs)):TyOf K H (.ref a) (.type "tuple")
 |dK {a:Z2}{b_:List (Key×V)}(e:H a=some (.dK b_)):TyOf K H (.ref a) (.type "dict")
 |dT {a:Z2}{b_:List (List Key×V)}(e:H a=some (.dT b_)):TyOf K H (.ref a) (.type "dict")
 |ins {a C dx:Z2}{fs:List (Str×V)}(e:H a=some (.ins C dx fs)) (cl:Cls K C) (ha:PySem.W.findIn K (.ref C) "__class__"=some (some (.builtin "object.__class__")))
   (hn:PySem.W.specialIn K (.builtin "object.__class__") "__get__"=some (some (.builtin "getset_descriptor.__get__"))) (Oa:PySem.W.takesIn K (.builtin "object.__class__")=some true)
   (hm:PySem.W.mroIn K C (.type "object")=some true):TyOf K H (.ref a) (.ref C)
def dz{x:V}{u t:Z7}(I:Inv X a_ σ H s)(rx:RelV x u)(ty:TyOf X.K H x t)(e:PySem.W.kitOne X.K t c=some b)(h:∀tk,Q (.bool b) {s with toks:=tk}):
  wpAny (model X.prog X.w) A (call (.builtin "isinstance") [u,c]) Q E s:=by
 cases ty with
 |non=>cases (show u=Value.none from rx);exact YZ PySem.W.kitx_none I.kIn True.intro e (fun z=>nomatch z) h
 |bl y=>cases (show u=Value.bool y from rx);exact YZ PySem.W.kitx_bool I.kIn True.intro e (fun z=>nomatch z) h
 |int i=>obtain⟨t,q⟩:=(show ∃t,u=Value.int i t from rx);cases q;exact YZ PySem.W.kitx_int I.kIn True.intro e (fun z=>nomatch z) h
 |str y=>obtain⟨t,q⟩:=(show ∃t,u=Value.str y t from rx);cases q;exact YZ PySem.W.kitx_str I.kIn True.intro e (fun z=>nomatch z) h
 |flt y=>obtain⟨t,q⟩:=(show ∃t,u=Value.float y t from rx);cases q;exact YZ PySem.W.kitx_float I.kIn True.intro e (fun z=>nomatch z) h
 | @lst a xs ea=>
  cases (show u=Value.ref a from rx)
  obtain⟨_,_,n,_,h1⟩:=(show ObjOk X.prog X.w H s.heap a (.lst xs) from I.hok a _ ea)
  exact YZ PySem.W.kitx_list I.kIn ⟨_,h1,rfl⟩ e (fun z=>nomatch z) h
 | @frz a ob xs ea=>
  cases (show u=Value.ref a from rx)
  obtain⟨_,_,_,n,_,h1⟩:=(show ObjOk X.prog X.w H s.heap a (.frz ob (.lst xs)) from I.hok a _ ea)
  exact YZ PySem.W.kitx_list I.kIn ⟨_,h1,rfl⟩ e (fun z=>nomatch z) h
 | @tup a xs ea=>
  cases (show u=Value.ref a from rx)
  obtain⟨_,_,_,p⟩:=(show ObjOk X.prog X.w H s.heap a (.tup xs) from I.hok a _ ea)
  obtain⟨o,h1,h2,_⟩:=p;exact YZ PySem.W.kitx_tuple I.kIn ⟨o,h1,h2⟩ e (fun z=>nomatch z) h
 | @dK a b_ ea=>
  cases (show u=Value.ref a from rx)
  obtain⟨_,_,vs,_,p⟩:=(show ObjOk X.prog X.w H s.heap a (.dK b_) from I.hok a _ ea)
  obtain⟨o,es,ep,h1,h2,_⟩:=p;exact YZ PySem.W.kitx_dict I.kIn ⟨o,h1,h2.1⟩ e (fun z=>nomatch z) h
 | @dT a b_ ea=>
  cases (show u=Value.ref a from rx)
  obtain⟨_,_,xs,_,o,es,ep,h1,h2,_⟩:=(show ObjOk X.prog X.w H s.heap a (.dT b_) from I.hok a _ ea)
  exact YZ PySem.W.kitx_dict I.kIn ⟨o,h1,h2.1⟩ e (fun z=>nomatch z) h
 | @ins a C dx fs ea cl ha hn Oa hm=>
  cases (show u=Value.ref a from rx)
  obtain⟨mA,O,_⟩:=xh I.hok ea;obtain⟨od,J,_⟩:=O.look;exact YZ (PySem.W.kitx_own (cl.get _) cl.hd ha hn Oa hm) I.kIn J e (fun z=>nomatch z) h
end
structure Room (k:Nat)(A:Zu):Prop where
 hd:A.handled=none
 dp:A.depth+3*k+5<recursionLimit
 un:A.units+16*k+200<cLine
def Room.mono{j k:Nat}{A:Zu}(r:Room k A)(h:j<=k):Room j A:=⟨r.hd,by have:=r.dp;lia,by have:=r.un;lia⟩
theorem Room.deeper{k:Nat}{A:Zu}(r:Room (k+1) A)(env:Env):Room k (A.deeper env):=
 ⟨r.hd,by have:=r.dp;show A.depth+1+3*k+5<_;lia,by have:=r.un;show A.units+3+16*k+200<_;lia⟩
theorem Room.in1{k:Nat}{A:Zu}(r:Room (k+1) A):Room k A.in1:=
 ⟨r.hd,by have:=r.dp;show A.depth+3*k+5<_;lia,by have:=r.un;show A.units+1+16*k+200<_;lia⟩
theorem Room.depth{k:Nat}{A:Zu}(r:Room k A):A.depth<recursionLimit:=by have:=r.dp;lia
theorem Room.units{k:Nat}{A:Zu}(r:Room k A):A.units+64<cLine:=by have:=r.un;lia
def tNil:TA:=fun _ H Q=>Q [] H
def n5(ta:TE)(tr:TA):TA:=fun σ H Q=>ta σ H fun x H1=>tr σ H1 fun xs H2=>Q (x::xs) H2
section
variable{X:Cx}{e:Expr}{es:List Expr}{te:TE}{t:TA}{pos:Pos}
def aO:PA X [] tNil:=fun _ _ _ _ H Q I h=>Calls.spliced_nil ⟨[],H,I,.nil,h⟩
def aw(ha:PE X e te)(hr:PA X es t)(hs:starEach (e::es) X.env=(false,eval e X.env)::starEach es X.env:=by rfl):PA X (e::es) (n5 te t):=by
 intro pos a_ s σ H Q I h;rw[hs];show wpAny _ _ (spliced ((false,eval e X.env)::backTo pos (starEach es X.env))) _ _ s;refine Calls.spliced_cons (thn (ha a_ s σ H _ I h) fun u s1 hz=>?_)
 obtain⟨x,H1,I1,r1,q1⟩:=hz;exact thn (hr pos a_ s1 σ H1 _ I1 q1) fun us s2 hz=>by obtain⟨xs,H2,I2,r2,q2⟩:=hz;exact⟨x::xs,H2,I2,.cons r1 r2,q2⟩
def D4(t:TA):TE:=fun σ H Q=>t σ H fun xs H1=>xs.length<=sizeLine/\∀p,H1 p=none->Q (.ref p) (upd H1 p (.tup xs))
def EG(t:TA):TE:=fun σ H Q=>t σ H fun xs H1=>xs.length<=sizeLine/\∀p,H1 p=none->Q (.ref p) (upd H1 p (.lst xs))
def A2{x1}(h:PA X es t):PE X (.Tuple es x1 pos) (D4 t):=by
 intro a_ s σ H Q I hq;refine wpAny_Tuple_spliced (thn (h pos a_ s σ H _ I hq) fun us s1 ⟨xs,H1,I1,r,z,q⟩=>⟨by rw[<-r.length];exact z,?_⟩)
 have hf:H1 s1.heap.objs.size=none:=I1.hok.fresh (ZU _);refine⟨.ref s1.heap.objs.size,upd H1 s1.heap.objs.size (.tup xs),I1.laid (t':=s1.toks) (fun b u e=>Z6 _ e) (ZU _) ?_,rfl,q _ hf⟩
 exact⟨z,us,r,⟨_,ZT _ rfl,rfl,_,rfl⟩⟩
def A5(h:PA X es t):PE X (.List es pos) (EG t):=by
 intro a_ s σ H Q I hq;refine wpAny_List_spliced (thn (h pos a_ s σ H _ I hq) fun us s1 ⟨xs,H1,I1,r,z,q⟩=>⟨by rw[<-r.length];exact z,?_⟩)
 have hf:H1 s1.heap.objs.size=none:=I1.hok.fresh (ZU _);refine⟨.ref s1.heap.objs.size,upd H1 s1.heap.objs.size (.lst xs),I1.laid (t':=s1.toks) (fun b u e=>Z6 _ e) (ZU _) ?_,rfl,q _ hf⟩
 exact⟨z,us,0,r,ZT _ rfl⟩
end
abbrev Sp:=List V->Hp->VK->XK->Prop
abbrev CXT:=List Env->Hp->Z4->XK->Z7->Z4->Prop
structure Env0 (P:ZC)(w:Zo)(K:Z5)(mg:Str->Z_ Z7)(base:Heap)(A:Zu)(outer:List Env)(s:Z4)(H:Hp):Prop where
 frames:A.frames=some outer
 mod:Mod K mg base
 bs:∀b o,base.get? b=some o->s.heap.get? b=some o/\H b=none
 bsz:base.objs.size<=s.heap.objs.size
 funs:s.heap.FunFrames base outer
 frf:∀b∈frs outer,H b=none
 hok:HOk P w H s.heap
 bare:AllBare s.gens
 tabs:TabH H
def CE(outer:List Env)(P:ZC)(w:Zo)(H:Hp)(s:Z4)(Q:VK)(u:Z7)(s':Z4):Prop:=
 ∃v H',s'.os=s.os/\AllBare s'.gens/\Un (frs outer) [] H H' s.heap s'.heap/\HOk P w H' s'.heap/\RelV v u/\Q v H'
def CR(CX:CXT)(outer:List Env)(P:ZC)(w:Zo)(H:Hp)(s:Z4)(Q:VK)(E:XK)(r:Result)(s':Z4):Prop:=
 match r with
 |.ok (.ret u)=>CE outer P w H s Q u s'
 |.ok _=>False
 |.error e=>CX outer H s E e s'
structure FnOk (P:ZC)(w:Zo)(K:Z5)(mg:Str->Z_ Z7)(base:Heap)(CX:CXT)(k:Nat)(f:Z2)(fd:FuncData)(ps:List Str)(sp:Sp):Prop where
 len:∀vs H Q E,sp vs H Q E->vs.length=ps.length
 run:∀(A:Zu)(outer:List Env)(s:Z4)(H:Hp)(args:Args)(us:List Z7)(vs:List V)(Q:VK)(E:XK),Room k A->Env0 P w K mg base A outer s H->BindsTo s fd args (ps.zip us)->Vals vs us->sp vs H Q E->
  codeAny (model P w) A (.call (.ref f) args) (CR CX outer P w H s Q E) s
theorem Env0.in1{P:ZC}{w:Zo}{K:Z5}{mg:Str->Z_ Z7}{base:Heap}{A:Zu}{outer:List Env}{s:Z4}{H:Hp}(e:Env0 P w K mg base A outer s H):
  Env0 P w K mg base A.in1 outer s H:=⟨e.frames,e.mod,e.bs,e.bsz,e.funs,e.frf,e.hok,e.bare,e.tabs⟩
section
variable{X:Cx}{a_:List (Z2×Obj)}{σ:St}{H:Hp}{s s':Z4}
def Inv.env0(I:Inv X a_ σ H s):Env0 X.prog X.w X.K X.mg X.base X.A X.stack s H:=
 ⟨I.ok.frames,I.ok.mod,I.bs,Zh I.ok.bsz I.sz,I.stack,I.stkFree,I.hok,I.bare,I.ok.tabs.to I.base.tbls⟩
def Inv.after{Q:VK}{u:Z7}(I:Inv X a_ σ H s)(h:CE X.stack X.prog X.w H s Q u s'):EP X a_ σ Q u s':=by
 obtain⟨v,H',os,bare,un,hok,r,q⟩:=h;obtain⟨hh,g,d,t,PZ⟩:=s';obtain rfl:PZ=s.os:=os;exact⟨v,H',I.call (h':=hh) (g':=g) (d':=d) (t':=t) (ch:=[]) un hok bare (fun b z=>absurd z (by simp)),r,q⟩
end
def Cm(sp:Sp)(dvs:List V)(E:XK)(t:TA):TE:=fun σ H Q=>t σ H fun vs H1=>sp (vs++dvs) H1 Q E
def Binds(K:Z5)(fd:FuncData)(ps:List Str)(ds:List Z7):Prop:=
 ∀(s:Z4)(us:List Z7),K.In s.heap->(us++ds).length=ps.length->BindsTo s fd ⟨us,[]⟩ (ps.zip (us++ds))
def Binds.all{K:Z5}{fd:FuncData}{ps:List Str}(h:∀us:List Z7,us.length=ps.length->bindArgs fd ⟨us,[]⟩=pure (ps.zip us)):Binds K fd ps []:=fun s us _ hl=>by
 rw[Y6]at hl⊢;exact .of_eq (h us hl)
def sY(CX:CXT)(X:Cx)(E:XK):Prop:=∀(a_:List (Z2×Obj))(σ:St)(H:Hp)(s:Z4)(e:Z7)(s':Z4),Inv X a_ σ H s->CX X.stack H s E e s'->X.xe e s'
section
variable{X:Cx}{CX:CXT}{k:Nat}{f C:Z2}{fd:FuncData}{ps:List Str}{sp:Sp}{dvs:List V}{ds:List Z7}{E:XK}{x m:Str}{p pos apos:Pos}{e o:Expr}{es:List Expr}{ta:TE}{t:TA}
def AL{a_:List (Z2×Obj)}{σ:St}{H:Hp}{s:Z4}{Q:VK}{us:List Z7}{vs:List V}(F:FnOk X.prog X.w X.K X.mg X.base CX k f fd ps sp)(hr:Room k X.A)(hb:Binds X.K fd ps ds)(hd:Vals dvs ds)(hx:sY CX X E)
  (I:Inv X a_ σ H s)(r:Vals vs us)(h:sp (vs++dvs) H Q E):wpAny (model X.prog X.w) X.A (call (.ref f) us) (EP X a_ σ Q) X.xe s:=by
 have r2:Vals (vs++dvs) (us++ds):=r.append hd;have hl:(us++ds).length=ps.length:=by rw[<-r2.length];exact F.len _ _ _ _ h
 refine wpAny_call (Xe (F.run X.A X.stack s H ⟨us,[]⟩ (us++ds) (vs++dvs) Q E hr I.env0 (hb s us I.kIn hl) r2 h) fun r s' hq=>?_)
 cases r with
 |error e=>exact hx a_ σ H s e s' I hq
 |ok fl=>
  cases fl with
  |ret u=>exact I.after hq
  |next=>exact False.elim hq
  |brk=>exact False.elim hq
  |cont=>exact False.elim hq
def xa(F:FnOk X.prog X.w X.K X.mg X.base CX k f fd ps sp)(hr:Room k X.A)(hg:Gl X x)(hm:X.mg x=some (.ref f))(hk:PySem.W.keepIn X.K (.ref f)=true)(hb:Binds X.K fd ps ds)(hd:Vals dvs ds)(hx:sY CX X E)
  (ha:PA X (e::es) t)(GC:(x==("__debug__":Str))=false:=by decide)(he:starEach (e::es) X.env=(false,eval e X.env)::starEach es X.env:=by rfl)(hpl:(backTo pos (starEach es X.env)).any (·.1)=false:=by rfl):
  PE X (.Call (.Name x p) (e::es) [] pos) (Cm sp dvs E t):=by
 intro a_ s σ H Q I h;refine XB (xQ I hg hm ?_ GC)
 refine PySem.W.callWith_K (h₀:=X.base) I.ok.mod.kin hk (thn (ha pos a_ s σ H _ I h) fun us s1 ⟨vs,H1,I1,r,q⟩=>⟨I1.kIn,?_⟩) he hpl
 exact AL F hr hb hd hx I1 r q
end
section
variable{X:Cx}{CX:CXT}{k:Nat}{f C:Z2}{fd:FuncData}{ps ks:List Str}{sp:Sp}{E:XK}{x m:Str}{p pos apos RQ:Pos}{e o:Expr}{es:List Expr}{Sg:List Keyword}{te ta:TE}{t tk:TA}{nm:Z_ Str}
variable{g:List Z7->List Z7->List Z7}{gV:List V->List V->List V}
end
structure FnScope (N P:List Str)(sc:Scope):Prop where
 kind:sc.kind=.function
 co:sc.isCoroutine=false
 gen:sc.isGenerator=false
 nd:N.Nodup
 pre:N.take P.length=P
 par:∀x∈P,sc.names.lookup x=some .local\/sc.names.lookup x=some .cell
 nofree:∀y∈sc.names,y.2≠.free
theorem jh{kindOf:Str->Z_ NameKind}{x:Str}:∀{binds:List (Str×Z7)}{m:Str->Z_ Z7},(∀v,(x,v)∉binds)->bindL kindOf binds m x=m x
 |[],_,_=>rfl
 |(n,v)::r,m,h=>by
  unfold bindL;rw[jh fun w hw=>h w (ZZ _ hw)]
  split
  .have:x≠n:=by rintro rfl;exact h v ZV
   simp[this]
  .rfl
theorem jg{kindOf:Str->Z_ NameKind}{x:Str}:∀{binds:List (Str×Z7)}{m:Str->Z_ Z7},(∀v,(x,v)∉binds)->bindC kindOf binds m x=m x
 |[],_,_=>rfl
 |(n,v)::r,m,h=>by
  unfold bindC;rw[jg fun w hw=>h w (ZZ _ hw)]
  split
  .rfl
  .have:x≠n:=by rintro rfl;exact h v ZV
   simp[this]
theorem ku{kindOf:Str->Z_ NameKind}{x:Str}{v:Z7}:∀{P:List Str}{vs:List Z7}{i:Nat}{m:Str->Z_ Z7},P.Nodup->P[i]?=some x->vs[i]?=some v->kindOf x=some .local->
  bindL kindOf (P.zip vs) m x=some v
 |[],_,_,_,_,h,_,_=>by simp at h
 |_::_,[],_,_,_,_,h,_=>by simp at h
 |p::P,w::vs,0,m,nd,h1,h2,hk=>by
  simp at h1 h2;subst h1;subst h2;show bindL kindOf ((p,w)::P.zip vs) m p=_;unfold bindL;rw[jh fun v hv=>(YN.mp nd).1 (WW hv).1,Z0 hk]
  simp
 |p::P,w::vs,i+1,m,nd,h1,h2,hk=>by
  show bindL kindOf ((p,w)::P.zip vs) m x=_;unfold bindL;exact ku (i:=i) (YN.mp nd).2 (by simpa using h1) (by simpa using h2) hk
theorem j3{kindOf:Str->Z_ NameKind}{x:Str}{v:Z7}:∀{P:List Str}{vs:List Z7}{i:Nat}{m:Str->Z_ Z7},P.Nodup->P[i]?=some x->vs[i]?=some v->kindOf x≠some .local->
  bindC kindOf (P.zip vs) m x=some v
 |[],_,_,_,_,h,_,_=>by simp at h
 |_::_,[],_,_,_,_,h,_=>by simp at h
 |p::P,w::vs,0,m,nd,h1,h2,hk=>by
  simp at h1 h2;subst h1;subst h2;show bindC kindOf ((p,w)::P.zip vs) m p=_;unfold bindC;rw[jg fun v hv=>(YN.mp nd).1 (WW hv).1,ZY hk]
  simp
 |p::P,w::vs,i+1,m,nd,h1,h2,hk=>by
  show bindC kindOf ((p,w)::P.zip vs) m x=_;unfold bindC;exact j3 (i:=i) (YN.mp nd).2 (by simpa using h1) (by simpa using h2) hk
def bM(N:List Str)(vs:List V):St:=vs.map some++List.replicate (N.length - vs.length) none
noncomputable def kC(CX:CXT)(P:ZC)(w:Zo)(K:Z5)(mg:Str->Z_ Z7)(base:Heap)(N:List Str)(qual:Str)(scope:Scope)(f:Z2)(cd:Z7)(A:Zu)(outer:List Env)(s:Z4)(H:Hp)(E:XK):Cx where
 prog:=P
 w:=w
 K:=K
 mg:=mg
 base:=base
 A:=A.deeper (envOfC qual scope s.heap.objs.size f cd)
 N:=N
 p_:=s
 GR:=H
 env:=envOfC qual scope s.heap.objs.size f cd
 outer:=outer
 stack:=envOfC qual scope s.heap.objs.size f cd::outer
 ex:=[]
 calm:=true
 fn:=fun _=>true
 pn:=[]
 xe:=fun e s'=>wpAny (model P w) (A.deeper (envOfC qual scope s.heap.objs.size f cd)) (leaving (envOfC qual scope s.heap.objs.size f cd) e) (fun _ Gx=>CX outer H s E e Gx) (fun e' Gx=>CX outer H s E e' Gx) s'
def my{sc:Scope}{n:Nat}{x:Str}(h:sc.names.lookup x=some .cell):∃c,(cellsFrom n sc.names []).lookup x=some c:=by
 have q:=W6 sc.names n [] (.inl h);exact Option.isSome_iff_exists.mp q
def jH{CX:CXT}{P:ZC}{w:Zo}{K:Z5}{mg:Str->Z_ Z7}{base:Heap}{N ps:List Str}{qual:Str}{scope:Scope}{f:Z2}{cd:Z7}{A:Zu}{outer:List Env}{s s1:Z4}{H:Hp}{E:XK}{us:List Z7}{vs:List V}
  (S:FnScope N ps scope) (hd:A.handled=none) (e0:Env0 P w K mg base A outer s H) (hl:vs.length=ps.length) (r:Vals vs us)
  (x:InCallC s s.heap.objs.size (bindL (envOfC qual scope s.heap.objs.size f cd).kindOf (ps.zip us) fun _=>none) (cellsFrom (s.heap.objs.size+1) scope.names []) (bindC (envOfC qual scope s.heap.objs.size f cd).kindOf (ps.zip us) fun _=>none) s1):
  Inv (kC CX P w K mg base N qual scope f cd A outer s H E) [] (bM N vs) H s1:=by
 have hpl:ps.length<=N.length:=by have:=congrArg List.length S.pre;rw[Xx]at this;lia
 obtain⟨h1,tk,rfl,hk⟩:=x.done;have Ka:∀b:Z2,b∉(kC CX P w K mg base N qual scope f cd A outer s H E).ex:=fun b z=>absurd (show b∈([]:List Z2) from z) (by simp)
 refine⟨⟨e0.mod,S.kind,rfl,rfl,ZU _,fun y z c h1 h2=>?_,fun y hy=>?_,fun y c _ h=>?_,fun _=>hd,Around.frames_deeper e0.frames,.inr ⟨rfl,rfl⟩,fun b z=>absurd z (Ka b),e0.bs,e0.bsz,fun b _ _=>Ka b,fun b z=>absurd z (Ka b),e0.funs,e0.frf,e0.tabs⟩,
  rfl,e0.bare,Un.kept hk,⟨_,x.toInCall.ns,fun i y v h1 h2 h3=>?_⟩,fun y c h=>⟨_,x.cell y c h⟩,e0.hok.fresh (ZU _),fun y c h=>?_,fun p hp=>absurd (show p∈([]:List (Z2×Obj)) from hp) (by simp),e0.hok.kept hk,?_⟩
 .exact name_of_addr x.apart (YT h1) (YT h2)
 .have hy:scope.names.lookup y=some .cell\/scope.names.lookup y=some .free:=hy
  rcases hy with hy|hy
  .exact my hy
  .exact absurd rfl (S.nofree _ (YT hy))
 .exact W3 (x.above y c (YT h))
 .have hi:i<vs.length:=by
   unfold bM at h2
   by_cases hi:i<vs.length
   .exact hi
   .rw[Yq (by simpa using hi)]at h2
    rw[List.getElem?_replicate]at h2
    split at h2<;>cases h2
  have ha:vs[i]?=some v:=by
   unfold bM at h2;rw[YA (by simpa using hi),YD]at h2
   cases e:vs[i]? with
   |none=>rw[e]at h2;trivial
   |some a=>rw[e]at h2;cases h2;rfl
  obtain⟨u,hu,rv⟩:=r.get ha;have hp:ps[i]?=some y:=by
   rw[<-S.pre,List.getElem?_take_of_lt (by lia)];exact h1
  have NY:ps.Nodup:=by rw[<-S.pre];exact S.nd.sublist (List.take_sublist _ _)
  refine⟨u,rv,?_⟩
  rcases S.par y (Zj hp)with k|k
  .exact .inl ⟨k,ku NY hp hu k⟩
  .obtain⟨c,e⟩:=my (n:=s.heap.objs.size+1) k
   refine .inr ⟨.inl k,c,e,?_⟩
   have q:=x.cell y c e;rw[j3 NY hp hu (by show scope.names.lookup y≠_;rw[k];decide)]at q
   exact q
 .exact e0.hok.fresh (W3 (x.above y c (YT h)))
 .unfold bM
  show _=N.length;rw[Zz,ZJ,List.length_replicate]
  lia
def Aa{CX:CXT}{P:ZC}{w:Zo}{K:Z5}{mg:Str->Z_ Z7}{base:Heap}{k:Nat}{f:Z2}{name qual:Str}{params:Arguments}{body:List Stmt}{scope:Scope}{dV kV doc pm E5 ct oc:Z7}{an od:Z_ Z2}
  {IE:Array (Z_ Z7)}{N ps:List Str}{sp:Sp}(lk:K.lookup f=some ⟨oc,od,.func (PySem.W.fnOf name qual params body scope dV kV doc pm an E5 ct),IE⟩) (Fo:PySem.W.codeIn K E5 qual=true) (S:FnScope N ps scope)
  (len:∀vs H Q E,sp vs H Q E->vs.length=ps.length)
  (Fh:∀(A:Zu)(outer:List Env)(s:Z4)(H:Hp)(vs:List V)(Q:VK)(E:XK),Room k (A.deeper (envOfC qual scope s.heap.objs.size f E5))->sp vs H Q E->
   ∃t,PSs (kC CX P w K mg base N qual scope f E5 A outer s H E) body t/\t {nx:=fun _ H'=>Q .non H',rt:=Q} (bM N vs) H):
  FnOk P w K mg base CX (k+1) f (PySem.W.fnOf name qual params body scope dV kV doc pm an E5 ct) ps sp:=by
 refine⟨len,fun A outer s H args us vs Q E hr e0 hb r HH=>?_⟩
 have hl:=len _ _ _ _ HH;have KX:K.In s.heap:=e0.mod.kin.keeps fun b o e=>(e0.bs b o e).1
 have lim:s.heap.NoLimit:=e0.mod.nolimit.keeps fun b o e=>(e0.bs b o e).1
 have Hy:∀y∈ps.zip us,scope.names.lookup y.1=some .local\/(scope.names.lookup y.1=some .cell/\((cellsFrom (s.heap.objs.size+1) scope.names []).lookup y.1).isSome=true):=fun⟨n,v⟩ hy=>by
  rcases S.par n (WW hy).1 with q|q
  .exact .inl q
  .exact .inr ⟨q,W6 _ _ _ (.inl q)⟩
 refine codeAny_call_function hr.depth (KX _ _ lk) rfl S.co S.gen rfl (PySem.W.codeRec_of KX Fo) (hb _ _ _ _ ?_)
 refine wpAny_newFunctionEnv_cells S.kind Hy fun env he s1 x=>?_
 subst he;refine⟨lim.keeps x.toInCall.keep,codeAny_func ?_⟩
 obtain⟨t,ht,hq⟩:=Fh A outer s H vs Q E (hr.deeper _) HH;have I:Inv (kC CX P w K mg base N qual scope f E5 A outer s H E) [] (bM N vs) H s1:=jH S hr.hd e0 hl r x;refine YV (ht [] s1 (bM N vs) H _ I hq) (fun fl s' hs=>?_) fun e s' hs=>hs
 have fin:∀{j_:St}{H':Hp}{v:V}{u:Z7},Inv (kC CX P w K mg base N qual scope f E5 A outer s H E) [] j_ H' s'->RelV v u->Q v H'->CE outer P w H s Q u s':=
  fun{j_ H' v u} J rv q=>⟨v,H',J.os,J.bare,J.base,J.hok,rv,q⟩
 cases fl with
 |ret u=>
  obtain⟨v,j_,H',J,rv,q⟩:=hs;exact fin J rv q
 |next=>
  obtain⟨j_,H',J,q⟩:=hs;exact fin (v:=V.non) (u:=Value.none) J rfl q
 |brk=>
  obtain⟨_,_,_,q⟩:=hs;exact False.elim q
 |cont=>
  obtain⟨_,_,_,q⟩:=hs;exact False.elim q
section
variable{X:Cx}{x:Str}{p pos:Pos}{e:Expr}{es:List Expr}{t:TA}{id T:String}{r:List V->Hp->VK->Prop}
def tCB(r:List V->Hp->VK->Prop)(t:TA):TE:=fun σ H Q=>t σ H fun vs H1=>r vs H1 Q
def cH(hc:ei X (.builtin id) r)(hg:Gl X x)(hm:X.mg x=none)(hv:bootBuiltins x=some (.builtin id))(ha:PA X (e::es) t)(hn:x≠"__name__":=by decide)(GC:(x==("__debug__":Str))=false:=by decide)
  (he:starEach (e::es) X.env=(false,eval e X.env)::starEach es X.env:=by rfl)(hpl:(backTo pos (starEach es X.env)).any (·.1)=false:=by rfl):PE X (.Call (.Name x p) (e::es) [] pos) (tCB r t):=by
 intro a_ s σ H Q I h;refine XB (d6 I hg hm hv ?_ hn GC)
 exact PyProof.Rows.callWith_builtin1 (thn (ha pos a_ s σ H _ I h) fun us s1 hz=>by obtain⟨vs,H1,I1,r1,q1⟩:=hz;exact hc a_ s1 σ H1 vs us Q I1 r1 q1) he hpl
def dG(hc:ei X (.type T) r)(hg:Gl X x)(hm:X.mg x=none)(hv:bootBuiltins x=some (.type T))(ha:PA X (e::es) t)(hn:x≠"__name__":=by decide)(GC:(x==("__debug__":Str))=false:=by decide)
  (he:starEach (e::es) X.env=(false,eval e X.env)::starEach es X.env:=by rfl)(hpl:(backTo pos (starEach es X.env)).any (·.1)=false:=by rfl):PE X (.Call (.Name x p) (e::es) [] pos) (tCB r t):=by
 intro a_ s σ H Q I h;refine XB (d6 I hg hm hv ?_ hn GC)
 exact X3 (thn (ha pos a_ s σ H _ I h) fun us s1 hz=>by obtain⟨vs,H1,I1,r1,q1⟩:=hz;exact hc a_ s1 σ H1 vs us Q I1 r1 q1) he hpl
end
section
variable{κ:Type}[DecidableEq κ]
def dH(b_:List (κ×V))(k:κ):Z_ V:=(b_.find? fun kv=>decide (kv.1=k)).map (·.2)
noncomputable def c6(b_:List (κ×V))(k:κ)(v:V):List (κ×V):=
 if(b_.any fun kv=>decide (kv.1=k))=true then b_.map (fun kv=>if kv.1=k then(kv.1,v) else kv) else b_++[(k,v)]
def bA{p:κ×V}{r:List (κ×V)}{k:κ}(e:p.1=k):dH (p::r) k=some p.2:=by simp[dH,List.find?_cons,e]
def bB{p:κ×V}{r:List (κ×V)}{k:κ}(e:¬p.1=k):dH (p::r) k=dH r k:=by simp[dH,List.find?_cons,e]
theorem dw(k:κ):∀b_:List (κ×V),(b_.any fun kv=>decide (kv.1=k))=(dH b_ k).isSome
 |[]=>rfl
 |p::r=>by
  rw[List.any_cons]
  by_cases e:p.1=k
  .simp only[bA e,Zm e,Bool.true_or,Option.isSome_some]
  .rw[bB e,ZN e,Bool.false_or];exact dw k r
def be(b_:List (κ×V))(k:κ)(v:V):(c6 b_ k v).length<=b_.length+1:=by
 unfold c6;split
 .rw[ZJ];lia
 .rw[Zz,List.length_cons,List.length_nil];lia
def iD{b_:List (κ×V)}{k:κ}(v:V)(h:dH b_ k=none):c6 b_ k v=b_++[(k,v)]:=by
 unfold c6;rw[dw,h];exact ZY (by decide)
def RelO.isSome_eq{o:Z_ V}{u:Z_ Z7}(r:RelO o u):o.isSome=u.isSome:=by
 cases o with
 |none=>cases u with
  |none=>rfl
  |some _=>exact(show False from r).elim
 |some _=>cases u with
  |none=>exact(show False from r).elim
  |some _=>rfl
theorem RelO.getD{o:Z_ V}{u:Z_ Z7}{d:V}{d':Z7}(r:RelO o u)(rd:RelV d d'):RelV (o.getD d) (u.getD d'):=by
 cases o with
 |none=>cases u with
  |none=>exact rd
  |some _=>exact(show False from r).elim
 |some _=>cases u with
  |none=>exact(show False from r).elim
  |some _=>exact r
def KV.val{b_:List (κ×V)}{vs:List (κ×Z7)}(r:KV b_ vs)(k:κ):RelO (dH b_ k) (valueAt vs k):=by
 unfold KV at r
 induction r with
 |nil=>exact True.intro
 | @cons p q ps qs h t ih=>
  obtain⟨h1,h2⟩:=h
  by_cases e:p.1=k
  .have e':q.1=k:=h1.symm.trans e
   have b:valueAt (q::qs) k=some q.2:=by simp[valueAt,List.find?_cons,e']
   rw[bA e,b];exact h2
  .have e':¬q.1=k:=fun z=>e (h1.trans z)
   have b:valueAt (q::qs) k=valueAt qs k:=by simp[valueAt,List.find?_cons,e']
   rw[bB e,b];exact ih
theorem KV.any{b_:List (κ×V)}{vs:List (κ×Z7)}(r:KV b_ vs)(k:κ):(b_.any fun kv=>decide (kv.1=k))=vs.any fun kv=>decide (kv.1=k):=by
 unfold KV at r
 induction r with
 |nil=>rfl
 |cons h t ih=>rw[List.any_cons,List.any_cons,ih,h.1]
def KV.repl{b_:List (κ×V)}{vs:List (κ×Z7)}(r:KV b_ vs)(k:κ){y:V}{u:Z7}(ry:RelV y u):
  KV (b_.map fun kv=>if kv.1=k then(kv.1,y) else kv) (vs.map fun kv=>if kv.1=k then(kv.1,u) else kv):=by
 unfold KV at r⊢
 induction r with
 |nil=>exact .nil
 | @cons p q ps qs h t ih=>
  rw[Z1,Z1];refine .cons ?_ ih
  obtain⟨h1,h2⟩:=h
  by_cases e:p.1=k
  .rw[Z0 e,Z0 (h1.symm.trans e)];exact⟨h1,ry⟩
  .rw[ZY e,ZY (fun z=>e (h1.trans z))];exact⟨h1,h2⟩
def KV.put{b_:List (κ×V)}{vs:List (κ×Z7)}(r:KV b_ vs)(k:κ){y:V}{u:Z7}(ry:RelV y u):KV (c6 b_ k y) (stored vs k u):=by
 unfold c6 stored;rw[r.any k]
 by_cases e:(vs.any fun kv=>decide (kv.1=k))=true
 .rw[Z0 e,Z0 e];exact r.repl k ry
 .rw[ZY e,ZY e];exact Paired.snoc r ⟨rfl,ry⟩
theorem KV.length{b_:List (κ×V)}{vs:List (κ×Z7)}(r:KV b_ vs):b_.length=vs.length:=YF r
end
def oh{P:ZC}{w:Zo}{k:Key}{u:Z7}(r:RelV (kV k) u):(aS P w).is k u=true:=by
 cases k with
 |inl i=>obtain⟨t,e⟩:=(show ∃t,u=Value.int i t from r);subst e;exact kW P w i t
 |inr x=>obtain⟨t,e⟩:=(show ∃t,u=Value.str x t from r);subst e;exact lQ P w x t
theorem jK{P:ZC}{w:Zo}:∀{ks:List Key}{us:List Z7},Vals (ks.map kV) us->ItemsAre (aS P w) ks us
 |[],_,r=>by rw[Y7]at r;cases r;exact .nil
 |k::ks,_,r=>by
  rw[Z1]at r;cases r with
  |cons h t=>exact .cons (oh h) (jK t)
abbrev KT(H:Hp):List (List Key×V)->List (List Key×Z2×Z7)->Prop:=Paired fun p q=>p.1=q.1/\H q.2.1=some (.tup (p.1.map kV))/\RelV p.2 q.2.2
def KT.val{H:Hp}{b_:List (List Key×V)}{xs:List (List Key×Z2×Z7)}(r:KT H b_ xs)(k:List Key):RelO (dH b_ k) ((atKey xs k).map (·.2)):=by
 induction r with
 |nil=>exact True.intro
 | @cons p q ps qs h t ih=>
  obtain⟨h1,_,h2⟩:=h
  by_cases e:p.1=k
  .have e':q.1=k:=h1.symm.trans e
   have b:atKey (q::qs) k=some q.2:=by simp[atKey,List.find?_cons,e']
   rw[bA e,b];exact h2
  .have e':¬q.1=k:=fun z=>e (h1.trans z)
   have b:atKey (q::qs) k=atKey qs k:=by simp[atKey,List.find?_cons,e']
   rw[bB e,b];exact ih
def KT.repl{H:Hp}{b_:List (List Key×V)}{xs:List (List Key×Z2×Z7)}(r:KT H b_ xs)(k:List Key){y:V}{u:Z7}(ry:RelV y u):
  KT H (b_.map fun kv=>if kv.1=k then(kv.1,y) else kv) (xs.map (putAt k u)):=by
 induction r with
 |nil=>exact .nil
 | @cons p q ps qs h t ih=>
  rw[Z1,Z1];refine .cons ?_ ih
  obtain⟨h1,h2,h3⟩:=h;unfold putAt
  by_cases e:p.1=k
  .rw[Z0 e,Z0 (h1.symm.trans e)];exact⟨h1,h2,ry⟩
  .rw[ZY e,ZY (fun z=>e (h1.trans z))];exact⟨h1,h2,h3⟩
def KT.put{H:Hp}{b_:List (List Key×V)}{xs:List (List Key×Z2×Z7)}(r:KT H b_ xs)(k:List Key){b:Z2}{y:V}{u:Z7}(hb:H b=some (.tup (k.map kV)))(ry:RelV y u):
  KT H (c6 b_ k y) (storedH xs k b u):=by
 have e:(b_.any fun kv=>decide (kv.1=k))=(atKey xs k).isSome:=by
  rw[dw,(r.val k).isSome_eq,Option.isSome_map]
 unfold c6 storedH;rw[e]
 by_cases q:(atKey xs k).isSome=true
 .rw[Z0 q,Z0 q];exact r.repl k ry
 .rw[ZY q,ZY q];exact Paired.snoc r ⟨rfl,hb,ry⟩
def KT.keeps{H H':Hp}{b_:List (List Key×V)}{xs:List (List Key×Z2×Z7)}(r:KT H b_ xs)(ht:∀b ys,H b=some (.tup ys)->H' b=some (.tup ys)):KT H' b_ xs:=
 Paired.mapP r fun _ _ z=>⟨z.1,ht _ _ z.2.1,z.2.2⟩
section
variable{P:ZC}{w:Zo}{H:Hp}{h:Heap}{a:Z2}
def jF{u:HO}(ok:HOk P w H h)(e:Rd H a u):ObjOk P w H h a u:=e.ok ok
def oE{b_:List (Key×V)}(ok:HOk P w H h)(e:Rd H a (.dK b_)):b_.length<=sizeLine/\(a==sysModules)=false/\∃vs,KV b_ vs/\h.DictOf (aS P w) a vs:=
 show ObjOk P w H h a (.dK b_) from jF ok e
def Bp{b_:List (Key×V)}(ok:HOk P w H h)(e:H a=some (.dK b_)):b_.length<=sizeLine/\(a==sysModules)=false/\∃vs,KV b_ vs/\h.DictOf (aS P w) a vs:=oE ok (.inl e)
def jR{ks:List Key}(ok:HOk P w H h)(e:H a=some (.tup (ks.map kV))):(tupleKind (aS P w)).is h ks a:=by
 obtain⟨_,its,r,o,h1,h2,n,h3⟩:=(show ObjOk P w H h a (.tup (ks.map kV)) from ok a _ e)
 exact⟨o,its.toArray,n,h1,h2,h3,by simpa using jK r⟩
def vJ{b_:List (List Key×V)}(ok:HOk P w H h)(e:Rd H a (.dT b_)):b_.length<=sizeLine/\(a==sysModules)=false/\
  ∃xs,KT H b_ xs/\h.DictOfH (tupleKind (aS P w)) a xs:=by
 obtain⟨z,y,xs,r,o,es,ep,h1,h2,h3,h4,h5⟩:=(show ObjOk P w H h a (.dT b_) from jF ok e)
 refine⟨z,y,xs,r,o,es,ep,h1,h2,h3,h4,fun x hx=>?_,h5⟩
 have all:∀{l:List (List Key×V)}{m:List (List Key×Z2×Z7)},KT H l m->∀x∈m,(tupleKind (aS P w)).is h x.1 x.2.1:=by
  intro l m q
  induction q with
  |nil=>intro x hx;exact nomatch hx
  | @cons p q ps qs hq t ih=>
   intro x hx
   rcases ZX.mp hx with e|hx
   .subst e
    exact jR ok (by rw[<-hq.1];exact hq.2.1)
   .exact ih x hx
 exact all r x hx
def zQ{b_:List (List Key×V)}(ok:HOk P w H h)(e:H a=some (.dT b_)):b_.length<=sizeLine/\(a==sysModules)=false/\
  ∃xs,KT H b_ xs/\h.DictOfH (tupleKind (aS P w)) a xs:=vJ ok (.inl e)
end
def BA(H:Hp)(a:Z2)(y:V)(r:Z_ V):Prop:=
 (∃b_ k,Rd H a (.dK b_)/\y=kV k/\r=dH b_ k)\/∃b_ k b,Rd H a (.dT b_)/\y=.ref b/\H b=some (.tup (k.map kV))/\r=dH b_ k
def Da(H:Hp)(a:Z2)(y v:V)(H':Hp):Prop:=
 (∃b_ k,H a=some (.dK b_)/\y=kV k/\b_.length<sizeLine/\H'=upd H a (.dK (c6 b_ k v)))\/
 ∃b_ k b,H a=some (.dT b_)/\y=.ref b/\H b=some (.tup (k.map kV))/\b_.length<sizeLine/\H'=upd H a (.dT (c6 b_ k v))
section
variable{X:Cx}{a_:List (Z2×Obj)}{σ:St}{H:Hp}{s:Z4}{a:Z2}{y v:V}{u r:Z7}{o:Z_ V}{A:Zu}{E:Z7->Z4->Prop}
def Inv.big(I:Inv X a_ σ H s):sysModules<s.heap.objs.size:=by
 have h:mainGlobals<s.heap.objs.size:=(I.mod.glob.keeps I.bk).lt;exact Nat.lt_trans (by decide) h
def rT{Q:Z7->Z4->Prop}(hu:A.units+1<cLine)(I:Inv X a_ σ H s)(g:BA H a y (some v))(ry:RelV y u)(h:∀w' s',Inv X a_ σ H s'->RelV v w'->Q w' s'):
  wpAny (model X.prog X.w) A (getItem (.ref a) u) Q E s:=by
 rcases g with⟨b_,k,e,ey,l⟩|⟨b_,k,b,e,ey,eb,l⟩
 .subst ey
  obtain⟨z,hd,vs,rel,dd⟩:=oE I.hok e;obtain⟨w',hw,A_⟩:=RelO.some_of (v:=v) (o:=valueAt vs k) (by rw[l];exact rel.val k)
  exact wpAny_getItem_of (oh ry) dd.mapOf hw (h w' _ (I.tok _) A_)
 .subst ey
  cases (show u=Value.ref b from ry)
  obtain⟨z,hd,xs,rel,dd⟩:=vJ I.hok e;obtain⟨w',hw,A_⟩:=RelO.some_of (v:=v) (o:=(atKey xs k).map (·.2)) (by rw[l];exact rel.val k)
  obtain⟨p,hp,Gk⟩:=X7.mp hw;refine wpAny_getItem_heap (Xa hu) (jR I.hok eb) dd hp ?_
  rw[Gk];exact h w' _ (I.tok _) A_
def dL{h':Heap}{t':Nat}{ob:HO}(I:Inv X a_ σ H s)(mu:Mut (H a))(hs:Heap.SameBut a s.heap h')(he:∃q,h'.get? a=some q)(new:ObjOk X.prog X.w (upd H a ob) h' a ob):
  Inv X a_ σ (upd H a ob) {s with heap:=h',toks:=t'}:=
 I.write (x:=a) (e:=a) mu (.inl rfl) (fun b q hb z=>(hs.2 b hb).trans z) he new
def vY{P:ZC}{w:Zo}{H':Hp}{h':Heap}{b_:List (Key×V)}{vs:List (Key×Z7)}(z:b_.length<=sizeLine)(hd:(a==sysModules)=false)(rel:KV b_ vs)(dd:h'.DictOf (aS P w) a vs):
  ObjOk P w H' h' a (.dK b_):=⟨z,hd,vs,rel,dd⟩
def sI{H':Hp}{Q:Unit->Z4->Prop}(hu:A.units+1<cLine)(I:Inv X a_ σ H s)(g:Da H a y v H')(ry:RelV y u)(rv:RelV v r)(h:∀s',Inv X a_ σ H' s'->Q () s'):
  wpAny (model X.prog X.w) A (setItem (.ref a) u r) Q E s:=by
 rcases g with⟨b_,k,e,ey,l,eH⟩|⟨b_,k,b,e,ey,eb,l,eH⟩
 .subst ey eH
  obtain⟨z,hd,vs,rel,dd⟩:=Bp I.hok e;have hz:vs.length<=sizeLine:=by rw[<-rel.length];exact z
  have hl:(c6 b_ k v).length<=sizeLine:=by have:=be b_ k v;lia
  refine wpAny_setItem_pairs (hsz:=hz) (oh ry) dd fun h' F_ hs=>h _ ?_
  have he:∃q,h'.get? a=some q:=let ⟨q,_,_,hq,_⟩:=F_;⟨q,hq⟩
  exact dL I (by rw[e];exact True.intro) hs he (vY hl hd (rel.put k rv) F_)
 .subst ey eH
  cases (show u=Value.ref b from ry)
  obtain⟨z,hd,xs,rel,dd⟩:=zQ I.hok e;have hz:xs.length<=sizeLine:=by rw[<-YF rel];exact z
  have hl:(c6 b_ k v).length<=sizeLine:=by have:=be b_ k v;lia
  refine wpAny_setItem_heap (hsz:=hz) (Xa hu) (jR I.hok eb) dd fun h' F_ hs=>h _ ?_
  obtain⟨q,es,ep,hq,h2,h3,h4,_,h5⟩:=F_;refine dL I (by rw[e];exact True.intro) hs ⟨q,hq⟩ ⟨hl,hd,_,(rel.put k eb rv).keeps fun c ys ec=>?_,q,es,ep,hq,h2,h3,h4,h5⟩
  rw[ai (u8 ec e (fun z=>nomatch z))]
  exact ec
end
section
variable{X:Cx}{a_:List (Z2×Obj)}{σ:St}{H:Hp}{s:Z4}{a:Z2}{b_:List (Key×V)}{k:Key}{u:Z7}{A:Zu}{E:Z7->Z4->Prop}
end
def BE(i:Expr):Prop:=∀ov iv,subscripted i false ov iv=operate [ov,iv] (getItem ov iv)
def yp{prog:ZC}{w:Zo}{A:Zu}{E:Z7->Z4->Prop}{s:Z4}{env:Env}{value slice:Expr}{pos:Pos}{T id:String}{Q:Z7->Z4->Prop}
  (hl:typeLookup (.type T) "__getitem__"=pure (some (.builtin id))) (hs:BE slice)
  (h:wpAny (model prog w) A (eval value env) (fun o h_=>wpAny (model prog w) A (eval slice env) (fun i d_=>d_.TypeIs o T/\wpAny (model prog w) A (getItem o i) Q E d_) E h_) E s):
  wpAny (model prog w) A (eval (.Subscript value slice pos) env) Q E s:=by
 refine Subscript_ (YV h (fun o h_ FG=>YV FG (fun i d_ Hc=>?_) fun _ _ x=>x) fun _ _ x=>x)
 obtain⟨hT,Hc⟩:=Hc;unfold subscriptTail;refine Z8 ?_
 rw[getitemInPython_of_ne hT.not_modules];refine Z8 (XZ hT hl ?_)
 have fin:wpAny (model prog w) A (subscripted slice false o i) (fun r FV=>wpAny (model prog w) A (letTemporaryGo value o r >>= fun _=>pure r) Q E FV) E d_:=by
  rw[hs o i];exact wpAny_operating (YV Hc (fun r FV Ih=>Z8 (wpAny_letTemporaryGo (Z3 Ih))) fun _ _ x=>x)
 first
  |exact Z3 (Z8 fin)
  |exact Z8 (Z3 (Z8 fin))
  |exact Z8 fin
def kY{X:Cx}{a_:List (Z2×Obj)}{σ:St}{H:Hp}{s:Z4}{a:Z2}{y:V}{o:Z_ V}(I:Inv X a_ σ H s)(g:BA H a y o):s.TypeIs (.ref a) "dict":=by
 rcases g with⟨b_,k,e,_,_⟩|⟨b_,k,b,e,_,_,_⟩
 .obtain⟨_,_,vs,_,dd⟩:=oE I.hok e
  exact dd.typeIs
 .obtain⟨_,_,xs,_,dd⟩:=vJ I.hok e
  exact dd.typeIs
section
variable{X:Cx}{o i e value:Expr}{pos pos' MX:Pos}{td ty tv:TE}
end
def uR{P:ZC}{w:Zo}{H:Hp}(h:Heap)(hb:sysModules<h.objs.size):ObjOk P w H (h.push {cls:=.type "dict",data:=.dict #[]}) h.objs.size (.dK []):=
 ⟨Zt _,beq_eq_false_iff_ne.mpr (Zy (Zw hb)),[],.nil,Heap.DictOf.new h⟩
def tDNewK:TE:=fun _ H Q=>∀p,H p=none->Q (.ref p) (upd H p (.dK []))
section
variable{X:Cx}{pos:Pos}
def uV:PE X (.Dict [] [] pos) tDNewK:=fun a_ s σ H Q I h=>
 wpAny_Dict_empty ⟨.ref s.heap.objs.size,_,I.laid (a:=s.heap.objs.size) (o:=.dK []) (t':=s.toks) (fun _ _ q=>Z6 _ q) (ZU _) (uR s.heap I.big),rfl,h _ (I.hok.fresh (ZU _))⟩
end
section
variable{X:Cx}{a_:List (Z2×Obj)}{σ:St}{H:Hp}{s:Z4}{a:Z2}{y d:V}{u r:Z7}{o:Z_ V}{A:Zu}{E:Z7->Z4->Prop}
def AF{Q:Z7->Z4->Prop}(hu:A.units+1<cLine)(I:Inv X a_ σ H s)(g:BA H a y o)(ry:RelV y u)(rd:RelV d r)(h:∀w' s',Inv X a_ σ H s'->RelV (o.getD d) w'->Q w' s'):
  wpAny (model X.prog X.w) A (call (.builtin "dict.get") [.ref a,u,r]) Q E s:=by
 rcases g with⟨b_,k,e,ey,l⟩|⟨b_,k,b,e,ey,eb,l⟩
 .subst ey
  obtain⟨z,hd,vs,rel,dd⟩:=oE I.hok e;refine call_meetsIn Xz dd.typeIs W4 (W9 _ _ _) (meets_dict_get_default (aS X.prog X.w) a (oh ry) hd r) ⟨_,dd.mapOf,h _ _ (I.tok _) ?_⟩
  rw[l];exact(rel.val k).getD rd
 .subst ey
  cases (show u=Value.ref b from ry)
  obtain⟨z,hd,xs,rel,dd⟩:=vJ I.hok e;refine call_meetsIn Xz dd.typeIs W4 (W9 _ _ _) (meetsH_dict_get_default (tupleKind (aS X.prog X.w)) a b hd r) ⟨Xa hu,k,xs,jR I.hok eb,dd,h _ _ (I.tok _) ?_⟩
  rw[l];exact(rel.val k).getD rd
end
section
variable{X:Cx}{o e f:Expr}{apos f_:Pos}{td ty tx:TE}
end
section
variable{X:Cx}{a_:List (Z2×Obj)}{σ:St}{H:Hp}{s:Z4}{a:Z2}{b_:List (Key×V)}{A:Zu}{E:Z7->Z4->Prop}
end
section
variable{X:Cx}{a_:List (Z2×Obj)}{σ:St}{H:Hp}{s:Z4}{a:Z2}{y:V}{u:Z7}{A:Zu}{E:Z7->Z4->Prop}
end
end L2
namespace HT
open PySem PyProof.Rows
def rcLt_int(A:Zu)(s:Z4)(a:Int)(t:Tok)(c:Int)(u:Tok)(prog:ZC)(w:Zo)(E:Z7->Z4->Prop)(Q:Z7->Z4->Prop)(h:Q (.bool (decide (a<c))) s):
  wpAny (model prog w) A (richCompare .Lt (.int a t) (.int c u)) Q E s:=
 (PyProof.Rows.lt_int h:wpAny (model prog w) A (compareOp .Lt (.int a t) (.int c u)) Q E s)
section
open PySem.SeqAt
open PySem.AutoSeq1 (wpAny_loadPart')
open PySem.MeetsSeq PySem.MeetsSeq2 PySem.MeetsSeq3
end
section
variable{prog:ZC}{w:Zo}{A:Zu}{E:Z7->Z4->Prop}{s:Z4}
def sIx(n d:Nat):Z_ Int->Nat
 |none=>d
 |some v=>if v<0 then(v+(n:Int)).toNat else min v.toNat n
theorem sIx_none(n d:Nat):sIx n d none=d:=rfl
def sIx_nat(n d k:Nat):sIx n d (some (k:Int))=min k n:=by
 show(if(k:Int)<0 then((k:Int)+(n:Int)).toNat else min (k:Int).toNat n)=min k n
 rw[ZY (by lia),Int.toNat_natCast]
end
end HT
namespace L2
open PySem PySem.Spec PyProof.Rows
variable[Lams]
abbrev TO:=St->Hp->(Z_ Int->Hp->Prop)->Prop
def PO(X:Cx)(e:Z_ Expr)(t:TO):Prop:=
 ∀(a_:List (Z2×Obj))(s:Z4)(σ:St)(H:Hp)(Q:Z_ Int->Hp->Prop),Inv X a_ σ H s->t σ H Q->
  wpAny (model X.prog X.w) X.A (evalPart e X.env) (fun u s'=>∃o H',Inv X a_ σ H' s'/\IsPart u o/\Q o H') X.xe s
def tNoPart:TO:=fun _ H Q=>Q none H
def BL(t:TE):TO:=fun σ H Q=>t σ H fun x H1=>∃i,x=.int i/\Q (some i) H1
def ou{ns:List Int}:∀{us:List Z7},Vals (ns.map V.int) us->IntsAre us ns:=by
 induction ns with
 |nil=>intro us r;rw[Y7]at r;cases r;exact .nil
 |cons n ns ih=>
  intro us r;rw[Z1]at r;cases r with
  |cons r1 r2=>
   obtain⟨t,e⟩:=r1;subst e;exact .cons n t (ih r2)
section
variable{X:Cx}{e:Expr}{te:TE}{lo hi:Z_ Expr}{tl th:TO}{pos p2:Pos}
def xS:PO X none tNoPart:=by
 intro a_ s σ H Q I h;rw[evalPart_none];exact Z3 ⟨none,H,I,.none,h⟩
def xf(h:PE X e te):PO X (some e) (BL te):=by
 intro a_ s σ H Q I hw;rw[evalPart_some];refine thn (h a_ s σ H _ I hw) fun u s1 hz=>?_
 obtain⟨x,H1,I1,r1,q1⟩:=hz;obtain⟨i,rfl,q⟩:=q1;obtain⟨t,rfl⟩:=r1;exact⟨some i,H1,I1,.int i t,q⟩
def SlR(X:Cx)(r:V->Z_ Int->Z_ Int->Hp->VK->Prop):Prop:=
 ∀(a_:List (Z2×Obj))(s:Z4)(σ:St)(H:Hp)(x:V)(v vl vu:Z7)(lo hi:Z_ Int)(sl:Z2)(Q:VK),Inv X a_ σ H s->RelV x v->s.heap.IsSliceOf sl vl vu .none->IsPart vl lo->IsPart vu hi->r x lo hi H Q->
  ∃T id,typeLookup (.type T) "__getitem__"=pure (some (.builtin id))/\s.TypeIs v T/\wpAny (model X.prog X.w) X.A (getItem v (.ref sl)) (EP X a_ σ Q) X.xe s
def tSl(r:V->Z_ Int->Z_ Int->Hp->VK->Prop)(te:TE)(tl th:TO):TE:=fun σ H Q=>te σ H fun x H1=>tl σ H1 fun l H2=>th σ H2 fun u H3=>r x l u H3 Q
def ms{r:V->Z_ Int->Z_ Int->Hp->VK->Prop}(hr:SlR X r)(he:PE X e te)(hl:PO X lo tl)(hu:PO X hi th):PE X (.Subscript e (.Slice lo hi none p2) pos) (tSl r te tl th):=by
 intro a_ s σ H Q I h;refine Subscript_ (thn (he a_ s σ H _ I h) fun v s1 hz=>?_)
 obtain⟨x,H1,I1,r1,q1⟩:=hz;refine wpAny_Slice (thn (hl a_ s1 σ H1 _ I1 q1) fun vl s2 ⟨l,H2,I2,pl,q2⟩=>thn (hu a_ s2 σ H2 _ I2 q2) fun vu s3 hz=>?_)
 obtain⟨u,H3,I3,pu,q3⟩:=hz;rw[evalPart_none];refine Z3 ?_
 have I4:Inv X a_ σ H3 {s3 with heap:=s3.heap.push {cls:=.type "slice",data:=.fields #[vl,vu,.none]}}:=I3.kept (t':=s3.toks) fun b ob q=>Z6 _ q
 obtain⟨T,id,hT,ht,hg⟩:=hr a_ {s3 with heap:=s3.heap.push {cls:=.type "slice",data:=.fields #[vl,vu,.none]}} σ H3 x v vl vu l u s3.heap.objs.size Q I4 r1 (Heap.IsSliceOf.new ..) pl pu q3
 show wpAny (model X.prog X.w) X.A (subscriptTail e (.Slice lo hi none p2) v (.ref s3.heap.objs.size)) (EP X a_ σ Q) X.xe {s3 with heap:=s3.heap.push {cls:=.type "slice",data:=.fields #[vl,vu,.none]}}
 exact tail_any (ops:=[.ref s3.heap.objs.size,v]) ht hT hg (by with_unfolding_all rfl)
def yo(xs:List V)(lo hi:Z_ Int):List V:=(xs.drop (HT.sIx xs.length 0 lo)).take (HT.sIx xs.length xs.length hi - HT.sIx xs.length 0 lo)
def lv(xs:List V)(lo hi:Z_ Int):(yo xs lo hi).length<=xs.length:=by
 unfold yo;rw[Xx,List.length_drop]
 lia
end
def ixN(n:Nat)(i:Int):Z_ Nat:=if 0<=i then(if i<n then some i.toNat else none) else if -(n:Int)<=i then some (i+n).toNat else none
def atI{α:Type}(xs:List α)(i:Int):Z_ α:=(ixN xs.length i).bind fun j=>xs[j]?
def yw{n:Nat}{i:Int}{j:Nat}(h:ixN n i=some j):seqIndex? i n=some j/\j<n/\ -(n:Int)<=i/\i<n:=by
 unfold ixN at h
 by_cases h0:0<=i
 .rw[Z0 h0]at h
  by_cases h1:i<n
  .rw[Z0 h1]at h
   have e:i.toNat=j:=Z9 h;exact⟨by rw[seqIndex_of h0 h1,e],by lia,by lia,h1⟩
  .rw[ZY h1]at h;trivial
 .rw[ZY h0]at h
  by_cases h1: -(n:Int)<=i
  .rw[Z0 h1]at h
   have e:(i+n).toNat=j:=Z9 h;exact⟨by rw[seqIndex_neg (by lia) h1,e],by lia,h1,by lia⟩
  .rw[ZY h1]at h;trivial
def lP{α:Type}{xs:List α}{i:Int}{v:α}(h:atI xs i=some v):∃j,seqIndex? i xs.length=some j/\xs[j]?=some v/\j<xs.length/\ -(xs.length:Int)<=i/\i<xs.length:=by
 unfold atI at h;cases e:ixN xs.length i with
 |none=>rw[e]at h;trivial
 |some j=>
  rw[e]at h;obtain⟨h1,h2,h3,h4⟩:=yw e;exact⟨j,h1,h,h2,h3,h4⟩
def rF{α:Type}{xs:List α}{j:Nat}{v:α}(h:xs[j]?=some v):atI xs (j:Int)=some v:=by
 have hj:j<xs.length:=(ZW.mp h).1
 have e:ixN xs.length (j:Int)=some j:=by
  unfold ixN;rw[Z0 (by lia),Z0 (by lia)];simp
 unfold atI;rw[e];exact h
def eN(b:Expr):Prop:=∀o i,subscripted b false o i=operate [o,i] (getItem o i)
def IxR(X:Cx)(r:R2):Prop:=
 ∀(value slice:Expr)(a_:List (Z2×Obj))(s:Z4)(σ:St)(H:Hp)(x y:V)(v u:Z7)(Q:VK),Inv X a_ σ H s->RelV x v->RelV y u->r x y H Q->
  subscripted slice false v u=operate [v,u] (getItem v u)->wpAny (model X.prog X.w) X.A (subscriptTail value slice v u) (EP X a_ σ Q) X.xe s
def MtR(X:Cx)(id:String)(r:V->List V->Hp->VK->Prop):Prop:=
 ∀(a_:List (Z2×Obj))(s:Z4)(σ:St)(H:Hp)(x:V)(xs:List V)(v:Z7)(us:List Z7)(Q:VK),Inv X a_ σ H s->RelV x v->Vals xs us->r x xs H Q->
  wpAny (model X.prog X.w) X.A (call (.builtin id) (v::us)) (EP X a_ σ Q) X.xe s
section
variable{X:Cx}{a b:Expr}{ta tb:TE}{pos:Pos}
def IxR.or{r r':R2}(h:IxR X r)(h':IxR X r'):IxR X (fun x y H Q=>r x y H Q\/r' x y H Q):=by
 intro value slice a_ s σ H x y v u Q I rx ry q hs
 rcases q with q|q
 .exact h value slice a_ s σ H x y v u Q I rx ry q hs
 .exact h' value slice a_ s σ H x y v u Q I rx ry q hs
def u0{r:R2}(hr:IxR X r)(ha:PE X a ta)(hb:PE X b tb)(hs:eN b):PE X (.Subscript a b pos) (tOp r ta tb):=by
 intro a_ s σ H Q I h;exact Subscript_ (BP ha hb I h fun v u s2 x y H2 I2 rx ry q=>hr a b a_ s2 σ H2 x y v u Q I2 rx ry q (hs _ _))
def Dy(K:Z5):R2:=fun x y H Q=>∃p xs i v,x=.ref p/\y=.int i/\SqL K H p xs/\atI xs i=some v/\Q v H
def C3(K:Z5):R2:=fun x y H Q=>∃p xs i v,x=.ref p/\y=.int i/\SqT K H p xs/\atI xs i=some v/\Q v H
def rIxS:R2:=fun x y H Q=>∃z i c,x=.str z/\y=.int i/\z.length<=sizeLine/\atI z.cps.toList i=some c/\Q (.str ⟨#[c]⟩) H
def kI:IxR X (Dy X.K):=by
 intro value slice a_ s σ H x y v u Q I rx ry h hs;obtain⟨p,xs,i,z,rfl,rfl,hq,he,q⟩:=h;cases rx;obtain⟨t,rfl⟩:=ry;obtain⟨its,r,pl,hz⟩:=I.list hq;obtain⟨j,h1,h2,h3,h4,h5⟩:=lP he;obtain⟨w,ew,A_⟩:=r.get h2;have hl:=r.length;have hn:=jM;have fin:EP X a_ σ Q w s:=⟨z,H,I,A_,q⟩
 by_cases h0:0<=i
 .have hj:i.toNat=j:=by
   rw[seqIndex_of h0 h5]at h1;exact Z9 h1
  exact item_listR pl.isList h0 (by lia) (by rw[hj];simpa using ew) fin hs
 .have hj:(i+(its.toArray.size:Int)).toNat=j:=by
   rw[seqIndex_neg (by lia) h4]at h1
   rw[ZQ,<-hl];exact Z9 h1
  exact subscriptTail_builtinR (x:=w) pl.isList.typeIs slot_list_getitem.lookup
   (wpAny_getItem_list_neg (Q:=fun r s'=>r=w/\EP X a_ σ Q r s') pl.isList (by lia) (by rw[ZQ]<;>lia) (by lia) (by rw[hj];simpa using ew) ⟨rfl,fin⟩) hs
def As:IxR X (C3 X.K):=by
 intro value slice a_ s σ H x y v u Q I rx ry h hs;obtain⟨p,xs,i,z,rfl,rfl,hq,he,q⟩:=h;cases rx;obtain⟨t,rfl⟩:=ry;obtain⟨its,r,pl,hz⟩:=I.tuple hq;obtain⟨j,h1,h2,h3,h4,h5⟩:=lP he;obtain⟨w,ew,A_⟩:=r.get h2;have hl:=r.length;have hn:=jM;have fin:EP X a_ σ Q w s:=⟨z,H,I,A_,q⟩;exact subscriptTail_builtinR (x:=w) pl.typeIs slot_tuple_getitem.lookup
  (getItem_tuple (j:=j) (Q:=fun r s'=>r=w/\EP X a_ σ Q r s') pl (by lia) (by lia) (by rw[ZQ,<-hl];exact h1) (by simpa using ew) ⟨rfl,fin⟩) hs
def wI:IxR X rIxS:=by
 intro value slice a_ s σ H x y v u Q I rx ry h hs;obtain⟨z,i,c,rfl,rfl,hz,he,q⟩:=h;obtain⟨t,rfl⟩:=rx;obtain⟨t',rfl⟩:=ry;obtain⟨j,h1,h2,h3,h4,h5⟩:=lP he;have hl:z.cps.toList.length=z.length:=by simp[Str.length]
 rw[hl]at h1 h4 h5;have hn:=jM;exact tail_any (typeIs_str s z t) slot_str_getitem.lookup (getItem_str (c:=c) (by
  have e1:decide (i< -(2 ^ 63:Int))=false:=ZN (by lia)
  have e2:decide (i>=2 ^ 63)=false:=ZN (by lia)
  rw[e1,e2,Bool.or_false]) (by rw[h1];simpa using h2) ⟨.str ⟨#[c]⟩,H,I.tok _,⟨_,rfl⟩,q⟩) hs
def rIx(K:Z5):R2:=fun x y H Q=>Dy K x y H Q\/C3 K x y H Q\/rIxS x y H Q
def A4:IxR X (rIx X.K):=kI.or (As.or wI)
def kn(lo hi:Z_ Int)(n:Nat):(sliceBounds lo hi none n).1=((HT.sIx n 0 lo:Nat):Int)/\(sliceBounds lo hi none n).2.1=((HT.sIx n n hi:Nat):Int)/\(sliceBounds lo hi none n).2.2=1:=by
 refine⟨?_,?_,rfl⟩
 .cases lo with
  |none=>simp[sliceBounds,HT.sIx]
  |some i=>
   simp only[sliceBounds,HT.sIx,Option.getD_none,show(1:Int)>0 by decide,Y2]
   by_cases h:i<0
   .simp only[h,Y2]<;>lia
   .simp only[h,Za]<;>lia
 .cases hi with
  |none=>simp[sliceBounds,HT.sIx]
  |some i=>
   simp only[sliceBounds,HT.sIx,Option.getD_none,show(1:Int)>0 by decide,Y2]
   by_cases h:i<0
   .simp only[h,Y2]<;>lia
   .simp only[h,Za]<;>lia
def iH(its:List Z7)(lo hi:Z_ Int):slicePick its.toArray lo hi none=((its.drop (HT.sIx its.length 0 lo)).take (HT.sIx its.length its.length hi - HT.sIx its.length 0 lo)).toArray:=by
 obtain⟨h1,h2,h3⟩:=kn lo hi its.toArray.size;unfold slicePick;rw[h1,h2,h3];simp only[sliceRange_one,pick_run,ZQ]<;>rfl
def EQ(K:Z5):V->Z_ Int->Z_ Int->Hp->VK->Prop:=fun x lo hi H Q=>∃a xs,x=.ref a/\SqL K H a xs/\∀p,H p=none->Q (.ref p) (upd H p (.lst (yo xs lo hi)))
def zh:SlR X (EQ X.K):=by
 intro a_ s σ H x v vl vu lo hi sl Q I rx hs pl pu h;obtain⟨a,xs,rfl,hx,q⟩:=h;cases rx;obtain⟨its,r,ht,hz⟩:=I.list hx;have hlen:=r.length;refine⟨"list",_,slot_list_getitem.lookup,ht.isList.typeIs,?_⟩
 refine wpAny_getItem_list_slice ht.isList hs pl pu .none (by simp) ?_ (by rw[ZQ]<;>lia)
 rw[iH,<-hlen];refine⟨.ref s.heap.objs.size,_,I.laid (t':=s.toks) (o:=.lst (yo xs lo hi)) (fun b ob q=>Z6 _ q) (ZU _) ?_,rfl,q _ (I.hok.fresh (ZU _))⟩
 exact⟨Zh (lv xs lo hi) hz,_,0,(r.drop (HT.sIx xs.length 0 lo)).take (HT.sIx xs.length xs.length hi - HT.sIx xs.length 0 lo),ZT _ rfl⟩
def jc:ei X (.builtin "len") (fun xs H Q=>∃p ys,xs=[.ref p]/\(SqL X.K H p ys\/SqT X.K H p ys)/\Q (.int ys.length) H):=by
 intro a_ s σ H xs us Q I r h;obtain⟨p,ys,rfl,hq,q⟩:=h;obtain⟨u,rfl,rx⟩:=gd r;cases rx;have hn:=jM
 rcases hq with hq|hq
 .obtain⟨its,r',pl,hz⟩:=I.list hq
  have hlen:=r'.length;exact Calls.call_len_list pl.isList (by simp only[ZQ]<;>lia) ⟨.int ys.length,H,I.tok _,⟨s.toks+1,by rw[ZQ,hlen]⟩,q⟩
 .obtain⟨its,r',pl,hz⟩:=I.tuple hq
  have hlen:=r'.length;exact len_tuple pl (by simp only[ZQ]<;>lia) ⟨.int ys.length,H,I.tok _,⟨s.toks+1,by rw[ZQ,hlen]⟩,q⟩
def jD:ei X (.type "list") (fun xs H Q=>∃p ys,xs=[.ref p]/\(SqL X.K H p ys\/SqT X.K H p ys)/\∀l,H l=none->Q (.ref l) (upd H l (.lst ys))):=by
 intro a_ s σ H xs us Q I r h;obtain⟨p,ys,rfl,hq,q⟩:=h;obtain⟨u,rfl,rx⟩:=gd r;cases rx;have fin:∀(its:List Z7),Vals ys its->ys.length<=sizeLine->∀(h':Heap)(c':Nat),(∀b o',s.heap.get? b=some o'->h'.get? b=some o')->
   h'.get? s.heap.objs.size=some {cls:=.type "list",dict:=none,data:=.seq its.toArray c',slots:=#[]}->EP X a_ σ Q (.ref s.heap.objs.size) {s with heap:=h'}:=fun its r' hz h' c' kp e=>
  ⟨.ref s.heap.objs.size,_,I.laid (t':=s.toks) kp (ZU _) (show ObjOk X.prog X.w _ h' _ (.lst ys) from⟨hz,its,c',r',e⟩),rfl,q _ (I.hok.fresh (ZU _))⟩
 rcases hq with hq|hq
 .obtain⟨its,r',pl,hz⟩:=I.list hq
  have hlen:=r'.length;obtain⟨o,ho,hc,n,hd⟩:=pl.isList;exact call_list_seq p (.inl rfl) ho hc hd (fun h' c' kp e=>fin its r' hz h' c' kp e) (by simp only[ZQ]<;>lia)
 .obtain⟨its,r',pl,hz⟩:=I.tuple hq
  have hlen:=r'.length;obtain⟨o,ho,hc,n,hd⟩:=pl;exact call_list_seq p (.inr rfl) ho hc hd (fun h' c' kp e=>fin its r' hz h' c' kp e) (by simp only[ZQ]<;>lia)
def iP:ei X (.type "tuple") (fun xs H Q=>∃p ys,xs=[.ref p]/\((SqL X.K H p ys/\∀l,H l=none->Q (.ref l) (upd H l (.tup ys)))\/(SqT X.K H p ys/\Q (.ref p) H))):=by
 intro a_ s σ H xs us Q I r h;obtain⟨p,ys,rfl,h⟩:=h;obtain⟨u,rfl,rx⟩:=gd r;cases rx
 rcases h with⟨hq,q⟩|⟨hq,q⟩
 .obtain⟨its,r',pl,hz⟩:=I.list hq
  have hlen:=r'.length;refine call_tuple_list pl.isList (fun h' kp=>?_) (by simp only[ZQ]<;>lia)
  have I1:Inv X a_ σ H {s with heap:=h'}:=I.kept (t':=s.toks) kp
  have I2:Inv X a_ σ (upd H h'.objs.size (.tup ys)) {s with heap:=h'.push {cls:=.type "tuple",data:=.seq its.toArray}}:=
   I1.laid (t':=s.toks) (fun b o e=>Z6 _ e) (ZU _) (show ObjOk X.prog X.w _ _ _ (.tup ys) from⟨hz,its,r',IsTup.new _ _⟩)
  exact⟨.ref h'.objs.size,_,I2,rfl,q _ (I1.hok.fresh (ZU _))⟩
 .obtain⟨its,r',pl,hz⟩:=I.tuple hq
  exact call_tuple_same pl ⟨.ref p,H,I,rfl,q⟩
def tyV(K:Z5)(T:String)(x:V)(H:Hp):Prop:=match x with
 |.str _=>T="str"
 |.int _=>T="int"
 |.ref p=>(T="list"/\∃xs,SqL K H p xs)\/(T="tuple"/\∃o,K.lookup p=some o/\o.cls=.type "tuple"/\o.dict=none)\/
   (T="dict"/\((∃b_,H p=some (.dK b_))\/∃b_,H p=some (.dT b_)))\/(T="set"/\∃S n,H p=some (.set S n))
 |_=>False
def AZ{a_:List (Z2×Obj)}{σ:St}{H:Hp}{s:Z4}{T:String}{x:V}{v:Z7}(I:Inv X a_ σ H s)(r:RelV x v)(ty:tyV X.K T x H):
  s.TypeIs v T/\∀a,v=.ref a->∃ob,s.heap.get? a=some ob/\ob.dict=none:=by
 cases x with
 |str z=>
  obtain⟨t,rfl⟩:=r;cases (show T="str" from ty)
  exact⟨typeIs_str s z t,fun _ e=>nomatch e⟩
 |int i=>
  obtain⟨t,rfl⟩:=r;cases (show T="int" from ty)
  exact⟨typeIs_int s i t,fun _ e=>nomatch e⟩
 |ref p=>
  cases r
  rcases ty with⟨rfl,xs,hq⟩|⟨rfl,o,hk,hc,hd⟩|⟨rfl,hk⟩|⟨rfl,S,n,hk⟩
  .obtain⟨its,_,pl,_⟩:=I.list hq
   refine⟨pl.isList.typeIs,fun a e=>?_⟩
   cases e;obtain⟨o,n,e,c,hd,_⟩:=pl;exact⟨o,e,hd⟩
  .refine⟨⟨o,I.kIn p o hk,hc⟩,fun a e=>?_⟩
   cases e;exact⟨o,I.kIn _ o hk,hd⟩
  .have z:∃o,s.heap.get? p=some o/\o.ExactDict:=by
    rcases hk with⟨b_,hk⟩|⟨b_,hk⟩
    .obtain⟨_,_,_,_,o,_,_,e,ex,_⟩:=I.hok p _ hk
     exact⟨o,e,ex⟩
    .obtain⟨_,_,_,_,o,_,_,e,ex,_⟩:=I.hok p _ hk
     exact⟨o,e,ex⟩
   obtain⟨o,e,ex⟩:=z;refine⟨⟨o,e,ex.1⟩,fun a e2=>?_⟩
   cases e2;exact⟨o,e,ex.2.1⟩
  .obtain⟨o,_,_,_,e,ex,_⟩:=I.hok p _ hk
   refine⟨⟨o,e,ex.1⟩,fun a e2=>?_⟩
   cases e2;exact⟨o,e,ex.2.1⟩
 |_=>exact False.elim ty
def tBM(K:Z5)(T:String)(r:V->List V->Hp->VK->Prop)(to:TE)(t:TA):TE:=fun σ H Q=>to σ H fun x H1=>tyV K T x H1/\t σ H1 fun xs H2=>r x xs H2 Q
variable{o e:Expr}{es:List Expr}{to:TE}{t:TA}{name:Str}{apos f_:Pos}{T id:String}{r:V->List V->Hp->VK->Prop}
def n9(pa:PlainAttrs T)(slot:Slot T name id)(Mn:typeOf (.builtin id)=pure (.type "method_descriptor"))(hm:MtR X id r)(ho:PE X o to)(ha:PA X (e::es) t)
  (n_:attributeBase o name X.env (eval o X.env)=eval o X.env:=by rfl)
  (D_:((backTo f_ (starEach (e::es) X.env)).all (fun x=>!x.1)&&(backToKw f_ (keywordEach [] X.env)).all (fun x=>x.1.isSome)
   &&decide ((e::es).length+([]:List Keyword).length+(if([]:List Keyword).isEmpty then 0 else 1)<30))=true:=by rfl)
  (m_:(apos.endLine==f_.line)=true:=by rfl)(hs:starEach (e::es) X.env=(false,eval e X.env)::starEach es X.env:=by rfl)(Jv:(backTo f_ (starEach es X.env)).any (·.1)=false:=by rfl):
  PE X (.Call (.Attribute o name apos) (e::es) [] f_) (tBM X.K T r to t):=by
 intro a_ s σ H Q I h;refine wpAny_Call_method_late n_ D_ m_ rfl (thn (ho a_ s σ H _ I h) fun v s1 hz=>?_)
 obtain⟨x,H1,I1,r1,ty,q1⟩:=hz;obtain⟨h1,h2⟩:=AZ I1 r1 ty;refine⟨T,id,pa,slot,Mn,h1,h2,?_⟩
 have hA:=ha f_ a_ s1 σ H1 _ I1 q1;rw[hs]at hA⊢;refine WJ (by show(false||(backTo f_ (starEach es X.env)).any (·.1))=false;rw[Jv]<;>rfl) (Calls.evalArgs_plain ?_)
 exact thn hA fun us s2 hz=>by obtain⟨vs,H2,I2,r2,q2⟩:=hz;exact hm a_ s2 σ H2 x vs v us Q I2 r1 r2 q2
end
def MtM(X:Cx)(id:String)(r:V->List V->Hp->VK->Prop):Prop:=
 ∀(a_:List (Z2×Obj))(s:Z4)(σ:St)(H:Hp)(x:V)(xs:List V)(v:Z7)(us:List Z7)(Q:VK),Inv X a_ σ H s->RelV x v->Vals xs us->r x xs H Q->
  wpAny (model X.prog X.w) X.A (call (.builtin id) (v::us)) (EP X a_ σ Q) X.xe s
def Vals.one{x:V}{us:List Z7}(h:Vals [x] us):∃u,us=[u]/\RelV x u:=gd h
def Vals.two{x y:V}{us:List Z7}(h:Vals [x,y] us):∃u v,us=[u,v]/\RelV x u/\RelV y v:=by
 cases h with
 |cons r t=>
  obtain⟨u,rfl,q⟩:=gd t;exact⟨_,u,rfl,r,q⟩
section
variable{X:Cx}{a_:List (Z2×Obj)}{σ:St}{H:Hp}{s:Z4}{l b:Z2}{xs ys zs:List V}
def Inv.lset{its its':List Z7}{n:Nat}{f:Array Z7->Array Z7}{t':Nat}(I:Inv X a_ σ H s)(hH:H l=some (.lst xs))
  (e:s.heap.get? l=some {cls:=.type "list",data:=.seq its.toArray n})(hf:f its.toArray=its'.toArray)(hv:Vals ys its')(hz:ys.length<=sizeLine):
  Inv X a_ σ (upd H l (.lst ys)) {s with heap:=s.heap.update l (Obj.mapSeq f),toks:=t'}:=by
 have q:=PySem.IsL.update e f;rw[hf]at q;refine I.write (x:=l) (e:=l) (by rw[hH];exact trivial) (.inl rfl) (fun b' u hb hu=>(Zr s.heap (Obj.mapSeq f) (Zy hb)).trans hu) ⟨_,q⟩ ?_
 exact⟨hz,its',_,hv,q⟩
def Inv.lnew{its:List Z7}{t':Nat}(I:Inv X a_ σ H s)(hv:Vals ys its)(hz:ys.length<=sizeLine):
  Inv X a_ σ (upd H s.heap.objs.size (.lst ys)) {s with heap:=s.heap.push {cls:=.type "list",data:=.seq its.toArray},toks:=t'}:=
 I.laid (fun _ _ q=>Z6 _ q) (ZU _) ⟨hz,its,0,hv,ZT _ rfl⟩
theorem Inv.fresh(I:Inv X a_ σ H s):H s.heap.objs.size=none:=I.hok.fresh (ZU _)
def Inv.lstM(I:Inv X a_ σ H s)(hH:H l=some (.lst xs)):xs.length<=sizeLine/\∃(its:List Z7)(n:Nat),Vals xs its/\xs.length=its.length/\s.heap.get? l=some {cls:=.type "list",data:=.seq its.toArray n}:=by
 obtain⟨z,its,n,r,e⟩:=I.hok l _ hH;exact⟨z,its,n,r,r.length,e⟩
def uD{n:Nat}(h:n<=sizeLine):Builtin.List.listTooLong n=false:=by
 unfold Builtin.List.listTooLong;exact ZN (by lia)
end
section
variable{X:Cx}
def rAppend:V->List V->Hp->VK->Prop:=fun x vs H Q=>∃l xs y,x=.ref l/\vs=[y]/\H l=some (.lst xs)/\xs.length<sizeLine/\Q .non (upd H l (.lst (xs++[y])))
def jZ:MtM X "list.append" rAppend:=by
 intro a_ s σ H x vs v us Q I rx rv h;obtain⟨l,xs,y,rfl,rfl,hH,hz,q⟩:=h;cases rx;obtain⟨u,rfl,ru⟩:=rv.one;obtain⟨z,its,n,r,hl,e⟩:=I.lstM hH;refine call_meets F.slot_list_append ⟨_,e,rfl⟩ F.entry_list_append (F.args_list_append_2 _ _) (PySem.list_append l its.toArray n u (by rw[ZQ];lia)) ⟨e,?_⟩
 refine⟨.non,_,I.lset (its':=its++[u]) hH e (by simp) (r.append (.cons ru .nil)) ?_,rfl,q⟩
 rw[Zz,List.length_singleton]
 lia
def rExtend:V->List V->Hp->VK->Prop:=fun x vs H Q=>∃l b xs zs,x=.ref l/\vs=[.ref b]/\H l=some (.lst xs)/\H b=some (.lst zs)/\xs.length+zs.length<=sizeLine/\Q .non (upd H l (.lst (xs++zs)))
def sB:MtM X "list.extend" rExtend:=by
 intro a_ s σ H x vs v us Q I rx rv h;obtain⟨l,b,xs,zs,rfl,rfl,hH,hB,hz,q⟩:=h;cases rx;obtain⟨u,rfl,ru⟩:=rv.one;cases ru;obtain⟨z,its,n,r,hl,e⟩:=I.lstM hH;obtain⟨z2,l_,n2,r2,LB,e2⟩:=I.lstM hB;have hsz:its.toArray.size+l_.toArray.size<=sizeLine:=by rw[ZQ,ZQ];lia
 have K7:¬(!its.toArray.isEmpty&&Builtin.List.listTooLong (its.toArray.size+l_.toArray.size))=true:=by
  rw[uD hsz,WL];exact Zv
 refine call_meets F.slot_list_extend ⟨_,e,rfl⟩ F.entry_list_extend (F.args_list_extend_2 _ _)
  (AutoSeq1.list_extend_list_list_0 l its.toArray n b l_.toArray n2 K7 (by rw[ZQ];lia) (by lia)) ⟨e,e2,?_⟩
 refine⟨.non,_,I.lset (its':=its++l_) hH e (by simp) (r.append r2) ?_,rfl,q⟩
 rw[Zz]
 lia
end
section
variable{prog:ZC}{w:Zo}{A:Zu}{E:Z7->Z4->Prop}{s:Z4}
set_option maxRecDepth 100000 in
end
section
variable{X:Cx}
end
end L2
namespace Att
open PySem PySem.W PySem.Calls PyProof.Rows
def eO{P:Params}{h:Heap}:∀(ns:List Int)(vs:List Z7),WellAll P h vs (ns.map WData.int)->IntsAre vs ns:=by
 intro ns
 induction ns with
 |nil=>
  intro vs w;rw[Y7]at w;cases w;exact .nil
 |cons n ns ih=>
  intro vs w;rw[Z1]at w;cases w with
  |cons a b=>
   cases a;exact .cons _ _ (ih _ b)
def pK{l:OpenLaw}{n:Nat}(hn:l.most=some n){P:Params}{h:Heap}{args:List WData}{vals:List Z7}
  (Ii:l.row.toRowW.claim.pre args=true)(Mj:WellAll P h vals args):
  ∃a vs ns,vals=[Value.ref a]/\args=[WData.list (ns.map WData.int)]/\h.get? a=some {cls:=.type "list",data:=.seq vs.toArray}/\IntsAre vs ns/\ns.length<=n:=by
 have Mp:WShape.hasAll [] args [.list .int]=true:=(pre_splitW Ii).1;have hc:l.pre.holds [] {args:=args}=true:=(pre_splitW Ii).2;obtain⟨d,r,rfl,h1,h2⟩:=hasAllW_cons Mp;obtain rfl:=hasAllW_nil h2;obtain⟨xs,rfl,h3⟩:=hasW_list h1;obtain⟨ns,rfl⟩:=items_int h3;have hlen:ns.length<=n:=by
  unfold OpenLaw.pre at hc;have h4:(WTm.not (.lt (.lit (.int (n:Int))) (.len (.arg 0)))).holds [] {args:=[.list (ns.map .int)]}=true:=by
   have h4:=(holds_andW hc).1;rw[hn]at h4;exact h4
  have h5:=condW_of h4 (w_not (w_lt w_lit (w_len_list (w_arg rfl))));rw[ZJ]at h5;refine Nat.le_of_not_lt fun q=>?_
  have q':(n:Int)<((ns.length:Nat):Int):=by lia
  first
   |(rw[Zm q']at h5;exact absurd h5 (by decide))
   |(simp at h5;lia)
 cases Mj with
 |cons w1 w2=>
  cases w2;cases w1 with
  |list ho FZ=>exact⟨_,_,ns,rfl,rfl,ho,eO ns _ FZ,hlen⟩
def sR(l:OpenLaw)(args:List WData):l.row.toRowW.claim.post args (.bool true) args=true:=
 postW_of (r:=l.row.toRowW) (X:=(true==true))
  (show WShape.has [] (.bool true) .bool=true by first|rfl|decide|simp[WShape.has,WShape.arms,WShape.armsAll])
  (show(WTm.eq .res (.lit (.bool true))).value [] {args:=args,res:=some (.bool true),after:=args}=some (.bool (true==true)) from w_eq_bool (w_res rfl) w_lit) rfl
def attach_call{l:OpenLaw}{n:Nat}{q:ZC}{loose:List Str}{XP:(Str->Z_ Z7)->Heap->Prop}{YP:Zo->Heap->Prop}{d:DefRec}
  (hn:l.most=some n) (JR:d.params.defaults=[])
  (call:∀(w:Zo)(p_ h_:Z4)(mg mb:Str->Z_ Z7)(fa:Z2)(o:Obj)(pm cd doc:Z7)(a:Z2)(vs:List Z7)(ns:List Int),
   Ground q loose [] XP w p_ mg mb h_.heap->YP w h_.heap->
   h_.heap.get? fa=some o->o.data=.func (docDef d.name d.params d.body d.scope pm cd doc)->h_.heap.CodeRec cd d.name->mg d.name=some (.ref fa)->
   h_.heap.get? a=some {cls:=.type "list",data:=.seq vs.toArray}->IntsAre vs ns->ns.length<=n->h_.gens=#[]->
   codeAny (model l.prog w) callerA (.call (.ref fa) ⟨[.ref a],[]⟩) (fun r s'=>r=.ok (.ret (.bool true))/\OldK h_.heap s'.heap/\s'.os=h_.os/\AllBare s'.gens) h_):
  WalkO q loose XP YP l.row.toRowW d [] (fun f vs=>PySem.call f vs):=by
 intro w p_ h_ mg mb G Y fa o pm cd doc dV kV ho hd Fo hD hmg hg args vals as Ii RV Oe Mj Oo;obtain rfl:dV=.none:=Dflts.none hD JR;obtain rfl:kV=.none:=Dflts.noKw hD;obtain⟨a,vs,ns,rfl,rfl,Ji,hints,hlen⟩:=pK hn Ii Mj;refine enter_call (Xe (call w p_ h_ mg mb fa o pm cd doc a vs ns G Y ho (fd_plain hd) Fo hmg Ji hints hlen hg) fun r s' hq=>?_)
 obtain⟨rfl,h2,h3,h4⟩:=hq;exact⟨.inl ⟨.bool true,.bool true,[],rfl,fun _=>rfl,.bool true,sR l _,fun _=>⟨List.Pairwise.nil,fun _ hm=>(nomatch hm)⟩⟩,h2,h3,h4⟩
section
variable{prog:ZC}{w:Zo}{A:Zu}{E:Z7->Z4->Prop}{s:Z4}{K:Frag}
end
end Att
namespace L2
open PySem PySem.Spec PyProof.Rows
variable[Lams]
theorem jy:∀{vs:List Z7}{ns:List Int},IntsAre vs ns->Vals (ns.map V.int) vs
 |_,_,.nil=>.nil
 |_,_,.cons n t h=>.cons ⟨t,rfl⟩ (jy h)
def B6(H:Hp):Prop:=∀b,H b=none\/(∃o xs,H b=some (.frz o (.lst xs)))\/∃lq,H b=some (.tbl lq #[])
def dO:Hp:=fun b=>match Lams.tb.find? (fun q=>q.1==b)with
 |some q=>some (.tbl q.2 #[])
 |none=>none
def bv{b:Z2}{u:HO}(h:dO b=some u):∃q∈Lams.tb,b=q.1/\u=.tbl q.2 #[]:=by
 unfold dO at h;split at h
 .rename_i q e
  obtain rfl:=Z9 h;have h1:=List.find?_some e
  exact⟨q,Xj e,(Zx.mp h1).symm,rfl⟩
 .trivial
def gZ(IT:∀q∈Lams.tb,∀r∈Lams.tb,q.1=r.1->q=r){q:Z2×Str}(hq:q∈Lams.tb):dO q.1=some (.tbl q.2 #[]):=by
 unfold dO;cases e:Lams.tb.find? (fun r=>r.1==q.1)with
 |none=>exact absurd (List.find?_eq_none.mp e q hq) (by simp)
 |some r=>
  have h1:=Zx.mp (List.find?_some (p:=fun r:Z2×Str=>r.1==q.1) e)
  rw[IT r (Xj e) q hq h1]
def vv{P:ZC}{w:Zo}{K:Z5}{mg mb:Str->Z_ Z7}{CX:CXT}{k:Nat}{fa a:Z2}{fd:FuncData}{x:Str}{sp:Sp}{h_:Z4}{vs:List Z7}{ns:List Int}
  (KX:K.In h_.heap) (Lz:h_.heap.Ns mainGlobals mg) (hb:h_.heap.Ns builtinsNs mb) (QU:∀x:Str,x≠"__name__"->mb x=bootBuiltins x) (Fv:h_.heap.NoLimit) (hg:h_.gens=#[])
  (ha:h_.heap.get? a=some {cls:=.type "list",data:=.seq vs.toArray}) (hi:IntsAre vs ns) (hl:ns.length<=sizeLine) (hr:Room k callerA)
  (F:∀base:Heap,K.In base->base.Ns mainGlobals mg->FnOk P w K mg base CX k fa fd [x] sp) (Hz:∀(s:Z4)(u:Z7),BindsTo s fd ⟨[u],[]⟩ [(x,u)])
  (HH:∀H:Hp,B6 H->SqL K H a (ns.map V.int)->sp [.ref a] H (fun v _=>v=.bl true) fun _ _ _=>False)
  (MM:∀H e s',CX [] H h_ (fun _ _ _=>False) e s'->False)
  (IQ:∃bm ob,mg "__builtins__"=some (.ref bm)/\bm≠builtinsNs/\h_.heap.get? bm=some ob/\ob.cls=.type "module"/\ob.dict=some builtinsNs/\ob.data=.plain)
  (hT:∀q∈Lams.tb,h_.heap.get? q.1=some {cls:=.none,data:=.fields #[]}/\K.lookup q.1=none/\isCodeTable h_.heap q.1)(IT:∀q∈Lams.tb,∀r∈Lams.tb,q.1=r.1->q=r):
  codeAny (model P w) callerA (.call (.ref fa) ⟨[.ref a],[]⟩) (fun r s'=>r=.ok (.ret (.bool true))/\OldK h_.heap s'.heap/\s'.os=h_.os/\AllBare s'.gens) h_:=by
 have rv:=jy hi;have M3:=hi.length;have core:∀H:Hp,B6 H->SqL K H a (ns.map V.int)->HOk P w H h_.heap->(∀b,H b≠none->(b=a/\K.lookup a=none)\/∃q∈Lams.tb,b=q.1)->TabH H->
   codeAny (model P w) callerA (.call (.ref fa) ⟨[.ref a],[]⟩) (fun r s'=>r=.ok (.ret (.bool true))/\OldK h_.heap s'.heap/\s'.os=h_.os/\AllBare s'.gens) h_:=by
  intro H hO hS hok hA QZ;have FQ:∀{b:Z2}{o:Obj},h_.heap.get? b=some o->H b=none->(uC h_.heap H).get? b=some o:=fun e n=>uY e n
  have KC:∀{b:Z2}{o:Obj},h_.heap.get? b=some o->o≠{cls:=.type "list",data:=.seq vs.toArray}->o≠{cls:=.none,data:=.fields #[]}->H b=none:=fun{b o} e n1 n2=>by
   cases q:H b with
   |none=>rfl
   |some u=>
    rcases hA b (by rw[q];simp)with⟨z,_⟩|⟨r,hr,z⟩
    .subst z;rw[ha]at e;exact absurd (Z9 e).symm n1
    .subst z;rw[(hT r hr).1]at e;exact absurd (Z9 e).symm n2
  have Ka:∀{b:Z2}{o:Obj}{es:Array DictEntry}{ep:Nat},h_.heap.get? b=some o->o.data=.dict es ep->H b=none:=fun{b o es ep} e d=>
   KC e (fun z=>by subst z;trivial) fun z=>by subst z;trivial
  have Lr:∀{b:Z2}{m:Str->Z_ Z7},h_.heap.Ns b m->(uC h_.heap H).Ns b m:=fun{b m} ⟨o,es,ep,e,d,r⟩=>⟨o,es,ep,FQ e (Ka e d),d,r⟩
  have OO:K.In (uC h_.heap H):=fun b o e=>FQ (KX b o e) (by
   cases q:H b with
   |none=>rfl
   |some u=>
    rcases hA b (by rw[q];simp)with⟨z,z2⟩|⟨r,hr,z⟩
    .subst z;rw[z2]at e;trivial
    .subst z;rw[(hT r hr).2.1]at e;trivial)
  have hM:Mod K mg (uC h_.heap H):=⟨OO,Lr Lz,⟨mb,Lr hb,QU⟩,let ⟨mc,h1,h2⟩:=Fv;⟨mc,Lr h1,h2⟩,by
   obtain⟨bm,ob,b1,b2,b3,b4,b5⟩:=IQ;exact⟨bm,ob,b1,b2,FQ b3 (KC b3 (fun z=>by subst z;cases b5.2) fun z=>by subst z;cases b5.2),b4,b5⟩⟩
  have e0:Env0 P w K mg (uC h_.heap H) callerA [] h_ H:=⟨rfl,hM,fun b o e=>yK e,Nat.le_of_eq (sO _ _),trivial,fun b hb=>absurd (show b∈([]:List Z2) from hb) (by simp),hok,.of_eq hg,QZ⟩
  refine Xe ((F _ OO (Lr Lz)).run callerA [] h_ H ⟨[.ref a],[]⟩ [.ref a] [.ref a] _ _ hr e0 (Hz h_ (.ref a)) (.cons rfl .nil) (HH H hO hS)) fun r s' h=>?_
  cases r with
  |error e=>exact(MM H e s' h).elim
  |ok fl=>
   cases fl with
   |next=>exact False.elim h
   |brk=>exact False.elim h
   |cont=>exact False.elim h
   |ret u=>
    obtain⟨v,H',os,bare,un,KZ,r',q⟩:=h;have q':v=.bl true:=q;subst q';obtain rfl:u=Value.bool true:=r';refine⟨rfl,⟨fun b o e=>?_,fun b o e=>un.there b o e (by simp)⟩,os,bare⟩
    cases q:H b with
    |none=>exact .inl (un.keep b o e q (by intro z;exact absurd (show b∈([]:List Z2) from z) (by simp)) (by simp))
    |some u=>
     rcases hO b with z|⟨ob,xs,z⟩|⟨lq,z⟩
     .rw[q]at z;trivial
     .have z2:=un.frzs b ob _ z
      obtain⟨e1,_⟩:=hok b _ z;obtain⟨e2,_⟩:=KZ b _ z2;rw[e]at e1;obtain rfl:=Z9 e1;exact .inl e2
     .obtain⟨more,z2⟩:=un.tbls b lq _ z
      obtain⟨e1,_⟩:=hok b _ z;obtain⟨e2,_⟩:=KZ b _ z2;rw[e]at e1;obtain rfl:=Z9 e1
      rcases hA b (by rw[q];simp)with⟨y,_⟩|⟨r,hr,y⟩
      .subst y;rw[ha]at e;cases e
      .subst y
       exact .inr (.inl ⟨(hT r hr).2.2,rfl,#[],more,rfl,e2⟩)
 have Pu:dO a=none:=by
  cases q:dO a with
  |none=>rfl
  |some u=>
   obtain⟨r,hr,e,_⟩:=bv q;have:=(hT r hr).1;rw[<-e,ha]at this;cases this
 have tok:∀(H:Hp) b u,dO b=some u->ObjOk P w H h_.heap b u:=fun H b u z=>by
  obtain⟨r,hr,e,rfl⟩:=bv z;subst e;exact⟨(hT r hr).1,trivial,fun pos cv e=>by cases e⟩
 cases hk:K.lookup a with
 |some o=>
  have e:=KX a o hk;rw[ha]at e;obtain rfl:=Z9 e;refine core dO (fun b=>?_) (.inr ⟨_,vs.toArray,_,hk,rfl,rfl,rfl,by rw[ZQ,M3];exact hl,by simpa using rv⟩) (fun b u z=>tok _ b u z) (fun b z=>?_) fun q hq=>⟨_,gZ IT hq⟩
  .cases q:dO b with
   |none=>exact .inl rfl
   |some u=>obtain⟨r,hr,e,rfl⟩:=bv q;exact .inr (.inr ⟨_,rfl⟩)
  .cases q:dO b with
   |none=>exact absurd q z
   |some u=>obtain⟨r,hr,e,_⟩:=bv q;exact .inr ⟨r,hr,e⟩
 |none=>
  refine core (fun b=>if b=a then some (.frz {cls:=.type "list",data:=.seq vs.toArray} (.lst (ns.map V.int))) else dO b) (fun b=>?_) (.inl (.inr ⟨{cls:=.type "list",data:=.seq vs.toArray},Z0 rfl⟩)) (fun b u z=>?_) (fun b z=>?_) fun q hq=>⟨#[],?_⟩
  .by_cases hb:b=a
   .exact .inr (.inl ⟨_,_,Z0 hb⟩)
   .cases q:dO b with
    |none=>exact .inl ((ZY hb).trans q)
    |some u=>obtain⟨r,hr,e,rfl⟩:=bv q;exact .inr (.inr ⟨_,(ZY hb).trans q⟩)
  .by_cases hb:b=a
   .have z':=(Z0 hb).symm.trans z
    obtain rfl:=Z9 z';subst hb;exact⟨ha,by rw[ZJ];exact hl,vs,_,rv,ha⟩
   .exact tok _ b u ((ZY hb).symm.trans z)
  .by_cases hb:b=a
   .exact .inl ⟨hb,hk⟩
   .cases q:dO b with
    |none=>exact absurd ((ZY hb).trans q) z
    |some u=>obtain⟨r,hr,e,_⟩:=bv q;exact .inr ⟨r,hr,e⟩
  .have Fc:q.1≠a:=fun z=>by rw[<-z,gZ IT hq]at Pu;trivial
   exact(ZY Fc).trans (gZ IT hq)
abbrev CX0:CXT:=fun _ _ _ _ _ _=>False
abbrev E0:XK:=fun _ _ _=>False
def BR{X:Cx}:sY CX0 X E0:=fun _ _ _ _ _ _ _ h=>h.elim
structure Fun (K:Z5)(x qual:Str)(st:Stmt)(f:Z2)(fd:FuncData):Prop where
 ex:∃(oc:Z7)(od:Z_ Z2)(kV doc pm:Z7)(an:Z_ Z2)(E5 ct:Z7)(IE:Array (Z_ Z7)),
  fd=PySem.W.fnOf x qual (defArgs st) (defBody st) (defScope st) .none kV doc pm an E5 ct/\K.lookup f=some ⟨oc,od,.func fd,IE⟩/\PySem.W.codeIn K E5 qual=true
 kp:PySem.W.keepIn K (.ref f)=true
section
variable{P:ZC}{w:Zo}{K:Z5}{mg:Str->Z_ Z7}{base:Heap}
def Fun.ok{x qual:Str}{st:Stmt}{f:Z2}{fd:FuncData}{N ps:List Str}{k:Nat}{sp:Sp}(F:Fun K x qual st f fd)(S:FnScope N ps (defScope st))(len:∀vs H Q E,sp vs H Q E->vs.length=ps.length)
  (Fh:∀(E5:Z7)(A:Zu)(outer:List Env)(s:Z4)(H:Hp)(vs:List V)(Q:VK)(E:XK),Room k (A.deeper (envOfC qual (defScope st) s.heap.objs.size f E5))->sp vs H Q E->
   ∃t,PSs (kC CX0 P w K mg base N qual (defScope st) f E5 A outer s H E).nox (defBody st) t/\t {nx:=fun _ H'=>Q .non H',rt:=Q} (bM N vs) H):FnOk P w K mg base CX0 (k+1) f fd ps sp:=by
 obtain⟨oc,od,kV,doc,pm,an,E5,ct,IE,rfl,lk,Fo⟩:=F.ex;refine Aa lk Fo S len fun A outer s H vs Q E hr HH=>?_
 obtain⟨t,h,q⟩:=Fh E5 A outer s H vs Q E hr HH;exact⟨t,h.nox,q⟩
def Fun.binds{x qual:Str}{st:Stmt}{f:Z2}{fd:FuncData}{ps:List Str}(F:Fun K x qual st f fd)
  (h:∀(kV doc pm:Z7)(an:Z_ Z2)(E5 ct:Z7)(us:List Z7),us.length=ps.length->bindArgs (PySem.W.fnOf x qual (defArgs st) (defBody st) (defScope st) .none kV doc pm an E5 ct) ⟨us,[]⟩=pure (ps.zip us)):Binds K fd ps []:=by
 obtain⟨oc,od,kV,doc,pm,an,E5,ct,IE,rfl,lk,Fo⟩:=F.ex;exact .all (h kV doc pm an E5 ct)
end
section
variable{X:Cx}
end
def wC{A B:Prop}(h:B):if false=true then A else B:=by
 rw[ZY Zv];exact h
def wG{A B:Prop}(h:A):if true=true then A else B:=by
 rw[Z0 rfl];exact h
def HO.nt:HO->Bool
 |.tbl _ _=>false
 |_=>true
abbrev HOn:={o:HO // o.nt=true}
def HOn.ok(o:HOn):HO.nt o.1=true:=o.2
structure Same (H H':Hp):Prop where
 get:∀b o,o.nt=true->H b=some o->H' b=some o
 tbl:∀b lq ps,H b=some (.tbl lq ps)->∃more,H' b=some (.tbl lq (ps++more))
theorem Same.app{H H':Hp}(s:Same H H')(b:Z2)(o:HO)(h:H b=some o)(n:o.nt=true:=by first|rfl|assumption|exact HOn.ok _):H' b=some o:=s.get b o n h
noncomputable instance Same.fn {H H':Hp}:CoeFun (Same H H') (fun _=>∀(b:Z2)(o:HO)(h:H b=some o)(n:o.nt=true:=by first|rfl|assumption|exact HOn.ok _),H' b=some o):=⟨@Same.app _ H H'⟩
def Same.refl(H:Hp):Same H H:=⟨fun _ _ _ h=>h,fun b lq ps h=>⟨#[],by rw[Array.append_empty];exact h⟩⟩
def Same.trans{H H1 H2:Hp}(a:Same H H1)(b:Same H1 H2):Same H H2:=⟨fun c o n h=>b.get c o n (a.get c o n h),fun c lq ps h=>by
 obtain⟨m1,e1⟩:=a.tbl c lq ps h;obtain⟨m2,e2⟩:=b.tbl c lq _ e1;exact⟨m1++m2,by rw[e2,Array.append_assoc]⟩⟩
def Same.there{H H':Hp}(e:Same H H'){l:Z2}{o:HO}(q:H l=some o):∃o',H' l=some o':=by
 cases n:o.nt with
 |true=>exact⟨o,e.get l o n q⟩
 |false=>
  cases o with
  |tbl lq ps=>obtain⟨m,q'⟩:=e.tbl l lq ps q;exact⟨_,q'⟩
  |_=>trivial
def Same.free{H H':Hp}(e:Same H H'){l:Z2}(h:H' l=Option.none):H l=Option.none:=by
 cases q:H l with
 |none=>rfl
 |some o=>
  obtain⟨o',q'⟩:=e.there q;rw[q']at h
  trivial
def Same.keep{Hk H H':Hp}(e:Same Hk H)(k:∀c o o',Hk c=some o'->H c=some o->H' c=some o):Same Hk H':=
 ⟨fun c o n q=>k c o o q (e.get c o n q),fun c lq ps q=>by
  obtain⟨m,q'⟩:=e.tbl c lq ps q;exact⟨m,k c _ _ q q'⟩⟩
def Same.put{Hk H:Hp}{b:Z2}{o:HO}(e:Same Hk H)(h:Hk b=none):Same Hk (upd H b o):=
 e.keep fun c o' o2 q1 q2=>by rw[ai (aq q1 h)];exact q2
section
variable{κ:Type}[DecidableEq κ]
def vG{b_:List (κ×V)}{k:κ}(h:dH b_ k=none):¬k∈b_.map (·.1):=by
 intro m;obtain⟨p,hp,e⟩:=ZL.mp m;have q:(b_.any fun kv=>decide (kv.1=k))=true:=Yc.mpr ⟨p,hp,Zm e⟩
 rw[dw,h]at q;exact absurd q (by simp)
end
noncomputable abbrev av(X:Cx)(scope:Scope)(cl:List (Str×Z2))(C:Z2)(d_:Z4)(e_:Hp)(ex:List Z2)(pn:List (Z2×Obj)):Cx:=
 {X with p_:=d_,GR:=e_,env:=compEnvC scope cl C X.env,outer:=X.stack,stack:=X.stack,ex:=ex,fn:=fun _=>false,pn:=pn,xe:=fun _ _=>False}
def oW(bs:List Bool)(σ:St):St:=List.zipWith (fun(b:Bool) o=>if b=true then o else none) bs σ
def c4{bs:List Bool}{σ:St}(h:bs.length=σ.length):(oW bs σ).length=σ.length:=by
 unfold oW;rw[List.length_zipWith,h,Nat.min_self]
def uK{bs:List Bool}{σ:St}{i:Nat}{v:V}(h:(oW bs σ)[i]?=some (some v)):bs[i]?=some true/\σ[i]?=some (some v):=by
 unfold oW at h;rw[WQ]at h
 cases e1:bs[i]? with
 |none=>rw[e1]at h;simp at h
 |some b=>
  cases e2:σ[i]? with
  |none=>rw[e1,e2]at h;simp at h
  |some o=>
   rw[e1,e2]at h;simp only[ZR]at h;cases b with
   |false=>simp at h
   |true=>simp at h;exact⟨rfl,by rw[h]⟩
def PTs(X:Cx)(ifs:List Expr)(t:TT):Prop:=
 ∀(a_:List (Z2×Obj))(s:Z4)(σ:St)(H:Hp)(Q:Bool->Hp->Prop),Inv X a_ σ H s->t σ H Q->
  wpAny (model X.prog X.w) X.A (forIn ifs true fun c r=>if r=true then do let ok <-isTrue c X.env (eval c X.env);pure (ForInStep.yield ok) else pure (ForInStep.yield r)) (TP X a_ σ Q) X.xe s
def tTrue:TT:=fun _ H Q=>Q true H
def yI{X:Cx}:PTs X [] tTrue:=fun a_ s σ H Q I h=>wpAny_tests_nil ⟨H,I,h⟩
def yL{X:Cx}{c:Expr}{t:TT}(h:PT X c t):PTs X [c] t:=fun a_ s σ H Q I hq=>wpAny_tests_one (h a_ s σ H Q I hq)
noncomputable def cw(env:Env):List (Str×NameKind)->List (Str×Z2)->List (Str×Z2)
 |[],acc=>acc
 |(n,k)::r,acc=>if(k==NameKind.free)=true then cw env r ((n,(env.cells.lookup n).getD 0)::acc) else cw env r acc
theorem iQ(env:Env):∀(names:List (Str×NameKind))(acc:List (Str×Z2)),(∀y∈names,y.2=.free->∃c,env.cells.lookup y.1=some c)->
  (forIn names acc (fun(x:Str×NameKind) (cs:List (Str×Z2))=>(match x with
   |(name,kind)=>if(kind==.free)=true then(do let c <-cellOf env name;pure (ForInStep.yield ((name,c)::cs))) else pure (ForInStep.yield cs):Sem (ForInStep (List (Str×Z2))))))=pure (cw env names acc)
 |[],acc,_=>rfl
 |(n,k)::r,acc,h=>by
  by_cases hk:k=.free
  .subst hk
   obtain⟨c,e⟩:=h (n,.free) ZV rfl;have ih:=iQ env r ((n,c)::acc) fun y hy=>h y (ZZ _ hy)
   have ec:cellOf env n=pure c:=by unfold cellOf;rw[e]
   rw[List.forIn_cons];simp only[Yh,Y2,ec,pure_bind];rw[ih];simp only[cw,Yh,Y2,e,Option.getD_some]
  .have hb:(k==NameKind.free)=false:=by simpa using hk
   have ih:=iQ env r acc fun y hy=>h y (ZZ _ hy)
   rw[List.forIn_cons];simp only[hb,ZK,Za,pure_bind];rw[ih]
   conv=>rhs;rw[cw.eq_def]
   simp only[hb,ZK,Za]
theorem cJ(env:Env):∀(names:List (Str×NameKind))(acc:List (Str×Z2)),(∀y∈names,y.2=.free->∃c,env.cells.lookup y.1=some c)->
  (∀x c,acc.lookup x=some c->env.cells.lookup x=some c)->∀x c,(cw env names acc).lookup x=some c->env.cells.lookup x=some c
 |[],acc,_,ha=>ha
 |(n,k)::r,acc,h,ha=>by
  have hr:∀y∈r,y.2=.free->∃c,env.cells.lookup y.1=some c:=fun y hy=>h y (ZZ _ hy)
  unfold cw
  by_cases hk:(k==NameKind.free)=true
  .rw[Z0 hk]
   obtain⟨c,e⟩:=h (n,k) ZV (eq_of_beq hk);refine cJ env r _ hr fun x d hx=>?_
   rw[List.lookup_cons]at hx;cases q:x==n with
   |true=>
    rw[q,e]at hx;rw[eq_of_beq q,e]
    simpa using hx
   |false=>rw[q]at hx;exact ha x d hx
  .rw[ZY hk];exact cJ env r acc hr ha
theorem dn(env:Env)(x:Str):∀(names:List (Str×NameKind))(acc:List (Str×Z2)),((x,NameKind.free)∈names\/∃c,acc.lookup x=some c)->∃c,(cw env names acc).lookup x=some c
 |[],acc,h=>by
  rcases h with h|h
  .trivial
  .exact h
 |(n,k)::r,acc,h=>by
  unfold cw
  by_cases hk:(k==NameKind.free)=true
  .rw[Z0 hk]
   refine dn env x r _ ?_
   by_cases q:(x==n)=true
   .exact .inr ⟨_,by rw[List.lookup_cons,q]⟩
   .rcases h with h|⟨c,h⟩
    .rcases ZX.mp h with h|h
     .cases h;simp at q
     .exact .inl h
    .exact .inr ⟨c,by rw[List.lookup_cons];simp[q,h]⟩
  .rw[ZY hk]
   refine dn env x r _ ?_
   rcases h with h|h
   .rcases ZX.mp h with h|h
    .cases h;simp at hk
    .exact .inl h
   .exact .inr h
def dj{scope:Scope}{env:Env}(h:∀y∈scope.names,y.2=.free->∃c,env.cells.lookup y.1=some c):closureFor scope env=pure (cw env scope.names []):=by
 have e:=iQ env scope.names [] h;have q:closureFor scope env=((forIn scope.names [] (fun(x:Str×NameKind) (cs:List (Str×Z2))=>(match x with
   |(name,kind)=>if(kind==.free)=true then(do let c <-cellOf env name;pure (ForInStep.yield ((name,c)::cs))) else pure (ForInStep.yield cs):Sem (ForInStep (List (Str×Z2)))))) >>= fun cs=>pure cs):=rfl
 rw[q,e,pure_bind]
theorem bf{env:Env}:∀{names:List (Str×NameKind)}{x:Str}{k:NameKind},
  (names.map fun(n,k)=>if(k==NameKind.free&&env.scope.kind==.function&&env.kindOf n==some .cell) then(n,NameKind.cell) else(n,k)).lookup x=some k->
  names.lookup x=some k\/(names.lookup x=some .free/\k=.cell)
 |[],_,_,h=>by simp at h
 |(n,k')::r,x,k,h=>by
  have ih:=@bf env r x k;have h':List.lookup x ((if(k'==NameKind.free&&env.scope.kind==.function&&env.kindOf n==some .cell)=true then(n,NameKind.cell) else(n,k'))::(r.map fun(n,k)=>if(k==NameKind.free&&env.scope.kind==.function&&env.kindOf n==some .cell) then(n,NameKind.cell) else(n,k)))=some k:=h
  by_cases hc:(k'==NameKind.free&&env.scope.kind==.function&&env.kindOf n==some .cell)=true
  .rw[Z0 hc]at h'
   rw[List.lookup_cons]at h'⊢;cases hx:x==n with
   |true=>
    rw[hx]at h';simp at h';have:k'=.free:=by
     have:=hc;simp only[ZH]at this;exact eq_of_beq this.1.1
    exact .inr ⟨by rw[this],h'.symm⟩
   |false=>rw[hx]at h';exact ih h'
  .rw[ZY hc]at h'
   rw[List.lookup_cons]at h'⊢;cases hx:x==n with
   |true=>rw[hx]at h';exact .inl h'
   |false=>rw[hx]at h';exact ih h'
noncomputable def uv(wi:TI)(bs:List Bool)(g:TG)(tt:TT)(te:TE):TE:=fun σ H Q=>wi σ H fun J H1=>∀acc,H1 acc=none->
 ∃W:Nat->Nat->List V->St->Hp->Prop,(∃m,W 0 m [] (oW bs σ) (upd H1 acc (.lst [])))/\∀i m ys σ H,W i m ys σ H->H acc=some (.lst ys)/\
  ((J.stop i H/\Q (.ref acc) H)\/(J.go i H/\∀x H',J.yld i H x H'->g x σ H' fun Fz H2=>tt Fz H2 fun ok H3=>if ok=true
   then te Fz H3 fun v H4=>H4 acc=some (.lst ys)/\ys.length<sizeLine/\∃m',m'<m/\W (i+1) m' (ys++[v]) Fz (upd H4 acc (.lst (ys++[v])))
   else ∃m',m'<m/\W (i+1) m' ys Fz H3))
section
variable{X:Cx}{a_:List (Z2×Obj)}{σ:St}{H:Hp}{s:Z4}{scope:Scope}{bs:List Bool}{fp:List Z2}
structure CompScope (X:Cx)(scope:Scope)(bs:List Bool):Prop where
 kind:scope.kind=.function
 cell:∀y∈scope.names,y.2≠.cell
 loc:∀y∈scope.names,y.2=.local->scope.names.lookup y.1=some .local
 fre:∀y∈scope.names,y.2=.free->scope.names.lookup y.1=some .free/\(X.env.kindOf y.1=some .cell\/X.env.kindOf y.1=some .free)
 len:bs.length=X.N.length
 vis:∀(i:Nat)(x:Str),X.N[i]?=some x->bs[i]?=some true->scope.names.lookup x=some .free
theorem CompScope.has(S:CompScope X scope bs)(I:Inv X a_ σ H s):∀y∈scope.names,y.2=.free->∃c,X.env.cells.lookup y.1=some c:=fun y hy e=>I.ok.has y.1 (S.fre y hy e).2
def ue{h':Heap}{m:Str->Z_ Z7}(S:CompScope X scope bs)(I:Inv X a_ σ H s)(hf:∀b∈fp,fY X a_ H b)(ho:∀b∈fp,∃o,s.heap.get? b=some o)
  (Lz:h'.Ns s.heap.objs.size m)(hk:∀b o,s.heap.get? b=some o->h'.get? b=some o){t':Nat}:
  Inv (av X scope (cw X.env scope.names []) s.heap.objs.size s H fp (X.pn++a_)) [] (oW bs σ) H {s with heap:=h',toks:=t'}:=by
 have hh:=S.has I;have cons:=cJ X.env scope.names [] hh (fun x c e=>by simp at e)
 refine⟨⟨I.ok.mod,S.kind,I.ok.glob,I.ok.blt,ZU _,fun x y c h1 h2=>I.ok.inj x y c (cons x c h1) (cons y c h2),fun x hx=>?_,(fun x c h=>nomatch h),I.ok.hd,I.ok.frames,.inl rfl,fun b hb=>⟨?_,fun x c e=>(hf b hb).2.2.2.2.1 x c (cons x c e)⟩,
  I.bs,Zh I.ok.bsz I.sz,fun b o e hb=>?_,fun b hb z=>?_,I.stack,I.stkFree,I.ok.tabs.to I.base.tbls⟩,
  rfl,I.bare,Un.kept hk,⟨m,Lz,fun i x v e1 e2 e3=>?_⟩,fun x c e=>?_,I.hok.fresh (ZU _),fun x c e=>I.freeC x c (cons x c e),fun p hp=>?_,I.hok.kept hk,?_⟩
 .have HF:(relabel scope X.env).names.lookup x=some .cell\/(relabel scope X.env).names.lookup x=some .free:=hx
  have key:(x,NameKind.free)∈scope.names:=by
   rcases HF with q|q
   .rcases bf q with q|⟨q,_⟩
    .exact absurd rfl (S.cell _ (YT q))
    .exact YT q
   .rcases bf q with q|⟨_,q⟩
    .exact YT q
    .trivial
  exact dn X.env x scope.names [] (.inl key)
 .obtain⟨o,e⟩:=ho b hb
  exact Zw (ZO e)
 .rcases(hf b hb).2.2.2.1 with z|z
  .exact I.ok.noex b o e z
  .exact absurd (ZA (ZO (I.ok.bs b o e).1) z) (Y5 _)
 .rcases ZX.mp (I.stkSub b z)with q|q
  .exact(hf b hb).2.1 q
  .exact(hf b hb).2.2.1 q
 .obtain⟨hb,hs⟩:=uK e2
  have GB:=S.vis i x e1 hb;obtain⟨_,Ow⟩:=S.fre _ (YT GB) rfl;obtain⟨m0,Ol,hl⟩:=I.loc;have M8:Vis X.env.scope x:=Ow.elim (fun z=>.inr (.inl z)) fun z=>.inr (.inr z)
  obtain⟨u,ru,lk⟩:=hl i x v e1 hs M8;refine⟨u,ru,.inr ⟨?_,?_⟩⟩
  .rcases e3 with q|q|q
   .rcases bf (show(relabel scope X.env).names.lookup x=some .local from q)with q|⟨_,q⟩
    .rw[GB]at q;trivial
    .trivial
   .exact .inl q
   .exact .inr q
  .rcases lk with⟨kl,_⟩|⟨_,c,ec,ic⟩
   .rcases Ow with z|z
    .rw[kl]at z;trivial
    .rw[kl]at z;trivial
   .obtain⟨c',e'⟩:=dn X.env x scope.names [] (.inl (YT GB))
    have OZ:=cons x c' e';rw[ec]at OZ;obtain rfl:=Z9 OZ;obtain⟨o,q1,q2⟩:=ic;exact⟨c,e',o,hk c o q1,q2⟩
 .obtain⟨v,o,q1,q2⟩:=I.cell x c (cons x c e)
  exact⟨v,o,hk c o q1,q2⟩
 .have Fn:p∈X.pn++a_:=by
   have q:p∈(X.pn++a_)++([]:List (Z2×Obj)):=hp;rwa[Y6]at q
  obtain⟨e,n,ne,nf,d⟩:=I.pin p Fn;refine⟨hk _ _ e,n,Zw (ZO e),fun z=>?_,d⟩
  rcases ZX.mp (I.stkSub p.1 z)with q|q
  .exact ne q
  .exact nf q
 .rw[c4 (by rw[S.len,I.len])]
  exact I.len
def vf{cl:List (Str×Z2)}{Fg:List (Z2×Obj)}{j_:St}{H':Hp}{s':Z4}{C:Z2}(I:Inv X a_ σ H s)(hf:∀b∈fp,fY X a_ H b)
  (J:Inv (av X scope cl C s H fp (X.pn++a_)) Fg j_ H' s'):Inv X a_ σ H' s':=by
 refine I.call' (ch:=fp) J.os J.base J.hok J.bare fun b hb=>?_
 obtain⟨f0,f1,f2,f3,f4,f5⟩:=hf b hb;exact⟨f3,f1,f4,f5⟩
end
section
variable{prog:ZC}{w:Zo}{A:Zu}{E:Z7->Z4->Prop}{R:Result->Z4->Prop}{s:Z4}
def lT{elt target iter:Expr}{ifs:List Expr}{scope:Scope}{pos:Pos}{it acc:Z7}{env:Env}(I:Nat->Z4->Prop)
  (turn:∀n s,I n s->wpAny (model prog w) A (pyNext it) (fun r h_=>match r with
   |none=>R (.ok .next) h_
   |some v=>wpAny (model prog w) A (letOwnedTupleGo target it v) (fun _ h_=>wpAny (model prog w) A (assign target env v) (fun _ d_=>
     wpAny (model prog w) A (forIn ifs true fun c r=>if r=true then do let ok <-isTrue c env (eval c env);pure (ForInStep.yield ok) else pure (ForInStep.yield r)) (fun ok FV=>
      if ok=true then wpAny (model prog w) A (eval elt env) (fun x Ig=>
       wpAny (model prog w) A (call (.builtin "list.append") [acc,x]) (fun _ KG=>∃m,m<n/\I m KG) (fun _ _=>False) Ig) (fun _ _=>False) FV
      else ∃m,m<n/\I m FV) (fun _ _=>False) d_) (fun _ _=>False) h_) (fun _ _=>False) h_) (fun _ _=>False) s)
  (n:Nat)(h:I n s):
  codeAny (model prog w) A (.compLoop (.ListComp elt [⟨target,iter,ifs,0⟩] scope pos) 0 it acc env) R s:=by
 refine codeAny_loop rfl I (fun n s hI=>?_) n h
 show wpAny _ A ((compTurn (.ListComp elt [⟨target,iter,ifs,0⟩] scope pos) 0 it acc env).onRaise (fun x=>do noteFrame x env;theTreesLotGoes x)) _ _ s
 refine wpAny_noted ?_
 rw[compTurn_list];refine Z8 (wpAny_standAt (Z8 (YV (turn n s hI) (fun r h_ FG=>?_) fun _ _ h'=>h'.elim)))
 cases r with
 |none=>exact Z3 FG
 |some v=>
  refine Z8 (YV FG (fun _ O3 K5=>?_) fun _ _ h'=>h'.elim)
  refine Z8 (YV K5 (fun _ d_ Hc=>Z8 (YV Hc (fun ok FV Ih=>?_) fun _ _ h'=>h'.elim)) fun _ _ h'=>h'.elim)
  cases ok with
  |false=>exact Z3 ⟨rfl,Ih⟩
  |true=>
   exact Z8 (Z8 (YV Ih (fun x Ig M7=>Z8 (YV M7 (fun _ KG M6=>Z3 (Z3 ⟨rfl,M6⟩)) fun _ _ h'=>h'.elim)) fun _ _ h'=>h'.elim))
end
section
variable{X:Cx}{elt tg iter:Expr}{ifs:List Expr}{scope:Scope}{pos:Pos}{wi:TI}{g:TG}{tt:TT}{te:TE}{bs:List Bool}
def gK{a_:List (Z2×Obj)}{σ:St}{H:Hp}{s:Z4}{it:Z2}{fp:List Z2}{tn:Nat->Heap->Prop}{J:It}{Q:VK}{E:Z7->Z4->Prop}{RR:Z7->Z2->Result->Z4->Prop}
  (hc:X.calm=true) (S:CompScope X scope bs)
  (hg:∀cl C d_ e_ ex pn,PG (av X scope cl C d_ e_ ex pn) tg g) (ht:∀cl C d_ e_ ex pn,PTs (av X scope cl C d_ e_ ex pn) ifs tt) (he:∀cl C d_ e_ ex pn,PE (av X scope cl C d_ e_ ex pn) elt te)
  (I:Inv X a_ σ H s) (T:Turn X.prog X.w X.K tg J fp it tn) (st:tn 0 s.heap) (hf:∀b∈fp,fY X a_ H b)
  (hq:∀acc,H acc=none->
   ∃W:Nat->Nat->List V->St->Hp->Prop,(∃m,W 0 m [] (oW bs σ) (upd H acc (.lst [])))/\∀i m ys σ H,W i m ys σ H->H acc=some (.lst ys)/\
    ((J.stop i H/\Q (.ref acc) H)\/(J.go i H/\∀x H',J.yld i H x H'->g x σ H' fun Fz H2=>tt Fz H2 fun ok H3=>if ok=true
     then te Fz H3 fun v H4=>H4 acc=some (.lst ys)/\ys.length<sizeLine/\∃m',m'<m/\W (i+1) m' (ys++[v]) Fz (upd H4 acc (.lst (ys++[v])))
     else ∃m',m'<m/\W (i+1) m' ys Fz H3)))
  (Q2:∀D C s' H' m',Inv X a_ σ H' s'->Q (.ref D) H'->s'.heap.Ns C m'->H' C=none->C≠X.env.locals->C∉X.fs->X.p_.heap.objs.size<=C->(∀x c,X.env.cells.lookup x=some c->c≠C)->(∀p∈X.pn++a_,p.1≠C)->
   RR (.ref D) C (.ok .next) s'):
  wpAny (model X.prog X.w) X.A (newList []) (fun acc FV=>wpAny (model X.prog X.w) X.A (newFunctionEnv scope X.env.globals (cw X.env scope.names []) [] X.env.qual none .none (some X.env)) (fun K3 Ig=>
   codeAny (model X.prog X.w) X.A (.compStart (.ListComp elt [⟨tg,iter,ifs,0⟩] scope pos) 0 (.ref it) acc {K3 with scope:=relabel scope X.env}) (RR acc K3.locals) Ig) E FV) E s:=by
 refine Zd ?_
 have GB:H s.heap.objs.size=none:=I.fresh;have I3:Inv X a_ σ (upd H s.heap.objs.size (.lst [])) {s with heap:=s.heap.push {cls:=.type "list",dict:=none,data:=.seq ([]:List Z7).toArray}}:=I.lnew (its:=[]) (t':=s.toks) .nil (Zt _)
 have Px:tn 0 (s.heap.push {cls:=.type "list",dict:=none,data:=.seq ([]:List Z7).toArray}):=T.keep _ _ _ st fun b _ o e=>Z6 _ e
 have ka:∀b∈fp,b<s.heap.objs.size:=fun b hb=>by
  obtain⟨o,e,_⟩:=T.obj _ _ st b hb;exact ZO e
 have f3:∀b∈fp,fY X a_ (upd H s.heap.objs.size (.lst [])) b:=fun b hb=>⟨by rw[ai (Zw (ka b hb))];exact(hf b hb).1,(hf b hb).2⟩
 obtain⟨W,⟨m0,w0⟩,turn⟩:=hq s.heap.objs.size GB;generalize k_:s.heap.objs.size=acc at*;generalize Qh:({s with heap:=s.heap.push {cls:=.type "list",dict:=none,data:=.seq ([]:List Z7).toArray}}:Z4)=s3 at*
 have KH:tn 0 s3.heap:=by rw[<-Qh];exact Px
 refine wpAny_newFunctionEnv S.cell (fun y hy=>by simp at hy) (fun FG Jw Ju=>?_) S.kind
 have keep:∀b o,s3.heap.get? b=some o->FG.get? b=some o:=fun b o e=>(Ju.2 b (Zw (ZO e))).trans (Z6 _ e)
 have NV:∀b∈fp,∃o,s3.heap.get? b=some o:=fun b hb=>by
  obtain⟨o,e,_⟩:=T.obj _ _ KH b hb;exact⟨o,e⟩
 have I4:=ue (t':=s3.toks+([]:List (Str×Z7)).length) S I3 f3 NV Jw keep;have ND:tn 0 FG:=T.keep _ _ _ KH fun b _ o e=>keep b o e
 have Ga:∀{H':Hp}{pl:List (Z2×Obj)},(∀b∈fp,H' b=none)->∀b∈fp,fY (av X scope (cw X.env scope.names []) s3.heap.objs.size s3 (upd H acc (.lst [])) fp (X.pn++a_)) [] H' b:=fun{H' pl} hn b hb=>by
  obtain⟨_,f1,f2,SF,f4,f5⟩:=f3 b hb;obtain⟨o,e⟩:=NV b hb;refine⟨hn b hb,Zw (ZO e),fun z=>?_,.inl hb,fun x c e=>f4 x c (cJ X.env scope.names [] (S.has I3) (fun x c e=>by simp at e) x c e),fun p hp=>?_⟩
  .rcases ZX.mp (I3.stkSub b z)with q|q
   .exact f1 q
   .exact f2 q
  .have q:p∈(X.pn++a_)++([]:List (Z2×Obj)):=hp
   rw[Y6]at q;exact f5 p q
 let X':Cx:=av X scope (cw X.env scope.names []) s3.heap.objs.size s3 (upd H acc (.lst [])) fp (X.pn++a_)
 have loop:∀s5:Z4,s5={s3 with heap:=FG,toks:=s3.toks+([]:List (Str×Z7)).length}->
   codeAny (model X.prog X.w) X.A (.compLoop (.ListComp elt [⟨tg,iter,ifs,0⟩] scope pos) 0 (.ref it) (.ref acc) (compEnvC scope (cw X.env scope.names []) s3.heap.objs.size X.env)) (RR (.ref acc) s3.heap.objs.size) s5:=by
  rintro s5 rfl
  refine lT (fun n s'=>∃i ys j_ H',Inv (av X scope (cw X.env scope.names []) s3.heap.objs.size s3 (upd H acc (.lst [])) fp (X.pn++a_)) [] j_ H' s'/\tn i s'.heap/\(∀b∈fp,H' b=none)/\W i n ys j_ H') ?_ m0
   ⟨0,[],oW bs σ,upd H acc (.lst []),I4,ND,fun b hb=>(f3 b hb).1,w0⟩
  rintro n s6 ⟨i,ys,JA,H6,I6,NC,OT,w6⟩
  obtain⟨Sy,way⟩:=turn i n ys JA H6 w6
  rcases way with⟨stop,qn⟩|⟨go,step⟩
  .refine thn (T.done X' rfl rfl rfl hc i [] s6 JA H6 (fun _ _=>False) I6 (Ga (pl:=[]) OT) NC stop) fun r s7 hz=>?_
   obtain⟨hr,I7⟩:=hz;subst hr;obtain⟨m',Ia,_⟩:=I7.loc;have IX:=vf (C:=s3.heap.objs.size) I3 f3 I7;refine Q2 acc s3.heap.objs.size s7 H6 m' IX qn Ia I7.free (Nat.ne_of_gt I3.lt) (I3.nofs (ZU _)) I3.sz (fun x c e z=>?_) fun p hp z=>?_
   .obtain⟨v,q⟩:=I3.cell x c e
    exact absurd q.lt (by rw[z];exact Y5 _)
   .exact absurd (ZO (I3.pin p hp).1) (by rw[z];exact Y5 _)
  .refine thn (T.item X' rfl rfl rfl hc i [] s6 JA H6 (fun _ _=>False) I6 (Ga (pl:=[]) OT) NC go) fun r s7 hz=>?_
   obtain⟨u,hr,h7⟩:=hz;subst hr;refine thn h7 fun _ s8 hz=>?_
   obtain⟨x,H8,I8,r8,y8,LU,Rk⟩:=hz;have RJ:=I8.pinned (Ga (pl:=[]) Rk) (T.obj _ _ LU);refine thn (hg _ _ _ _ _ _ _ s8 JA H8 x u _ RJ r8 (step x H8 y8)) fun _ s9 hz=>?_
   obtain⟨JU,H9,I9,q9⟩:=hz;refine thn (ht _ _ _ _ _ _ _ s9 JU H9 _ I9 q9) fun ok PD hz=>?_
   obtain⟨O2,MT,Ln⟩:=hz;have back:∀{j_:St}{H':Hp}{s':Z4},Inv (av X scope (cw X.env scope.names []) s3.heap.objs.size s3 (upd H acc (.lst [])) fp (X.pn++a_)) ([]++jG fp s8.heap) j_ H' s'->tn (i+1) s'.heap/\∀b∈fp,H' b=none:=fun{j_ H' s'} K=>by
    refine⟨T.keep _ _ _ LU fun b hb o e=>(K.pin (b,o) (ZI _ (ZI _ (cN hb e)))).1,fun b hb=>?_⟩
    obtain⟨o,e,d⟩:=T.obj _ _ LU b hb;exact(K.pin (b,o) (ZI _ (ZI _ (cN hb e)))).2.1
   cases ok with
   |false=>
    rw[ZY Zv]at Ln⊢;obtain⟨m',hm,w'⟩:=Ln;obtain⟨b1,b2⟩:=back MT;exact⟨m',hm,i+1,ys,JU,O2,MT.unpinned,b1,b2,w'⟩
   |true=>
    rw[Z0 rfl]at Ln⊢;refine thn (he _ _ _ _ _ _ _ PD JU O2 _ MT Ln) fun y PB hz=>?_
    obtain⟨v,O1,RL,PR,K_,hz,m',hm,w'⟩:=hz;have ap:=jZ (X:=X') _ PB JU O1 (.ref acc) [v] (.ref acc) [y] (fun(z:V) (H':Hp)=>H'=upd O1 acc (.lst (ys++[v]))) RL rfl (.cons PR .nil) ⟨acc,ys,v,rfl,rfl,K_,hz,rfl⟩
    refine thn ap fun _ RX hz=>?_
    obtain⟨_,SS,O0,_,RB⟩:=hz;subst RB;obtain⟨b1,b2⟩:=back O0;exact⟨m',hm,i+1,ys++[v],JU,_,O0.unpinned,b1,b2,w'⟩
 exact codeAny_compStart_list (loop _ rfl) (T.self _ 0 _ _ _ ND (loop _ rfl))
def yN(hc:X.calm=true)(hi:PI X tg iter wi)(S:CompScope X scope bs)
  (hg:∀cl C d_ e_ ex pn,PG (av X scope cl C d_ e_ ex pn) tg g) (ht:∀cl C d_ e_ ex pn,PTs (av X scope cl C d_ e_ ex pn) ifs tt) (he:∀cl C d_ e_ ex pn,PE (av X scope cl C d_ e_ ex pn) elt te)
  (hs:∀x,foldedSetIterable iter X.env x=pure x:=by intro _;rfl):PE X (.ListComp elt [⟨tg,iter,ifs,0⟩] scope pos) (uv wi bs g tt te):=by
 intro a_ s σ H Q I h;rw[eval_ListComp];refine wpAny_comprehension_free (use:=none) rfl hs (dj (S.has I)) S.kind S.loc (thn (hi a_ s σ H _ I h) fun v s1 h1=>thn h1 fun Lu s2 h2=>?_)
 obtain⟨it,fp,tn,J,H2,e,I2,T,JX,f2,hq⟩:=h2;subst e;refine gK (RR:=fun acc C=>compPost (model X.prog X.w) X.A X.xe none (EP X a_ σ Q) acc C) hc S hg ht he I2 T JX f2 hq ?_
 intro D C s' H' m' I' q' hn hC hL hF hz GZ hp;refine⟨m',hn,fun Rf Jg=>⟨.ref D,H',?_,rfl,q'⟩⟩
 exact I'.turned (t':=s'.toks) (fun b o hb e=>(Jg.2 b hb).trans e) hC hL (.inr hz) GZ hp
def lI{i:Nat}{y:Str}{py E7:Pos}(hc:X.calm=true)(hi:PI X tg iter wi)(S:CompScope X scope bs)
  (hg:∀cl C d_ e_ ex pn,PG (av X scope cl C d_ e_ ex pn) tg g) (ht:∀cl C d_ e_ ex pn,PTs (av X scope cl C d_ e_ ex pn) ifs tt) (he:∀cl C d_ e_ ex pn,PE (av X scope cl C d_ e_ ex pn) elt te)
  (hN:X.N.Nodup) (Kn:X.N[i]?=some y) (hy:X.env.scope.names.lookup y=some .local)
  (F9:swapsWith (.ListComp elt [⟨tg,iter,ifs,0⟩] scope pos) (some (.Name y py)) E7.line X.env=pure true:=by rfl)
  (hs:∀x,foldedSetIterable iter X.env x=pure x:=by intro _;rfl):PS X (.Assign [.Name y py] (.ListComp elt [⟨tg,iter,ifs,0⟩] scope pos) E7) (xY (uv wi bs g tt te) (fw i)):=by
 intro a_ s σ H D I h;rw[exec_Assign_Name_used _ _ _ _ F9];refine Z8 (wpAny_standAt (Z8 ?_))
 show wpAny _ X.A (do let _ <-comprehension (.ListComp elt [⟨tg,iter,ifs,0⟩] scope pos) scope X.env _ (newList []) false (eval iter X.env) (some (assign (.Name y py) X.env))) _ _ s
 refine Z8 (YV (wpAny_comprehension_free (use:=some (assign (.Name y py) X.env)) (Q:=fun _ s'=>SP X a_ D .next s') rfl hs (dj (S.has I)) S.kind S.loc
  (thn (hi a_ s σ H _ I h) fun v s1 h1=>thn h1 fun Lu s2 h2=>?_)) (fun _ s' hq=>Z3 (Z3 hq)) fun _ _ e=>e)
 obtain⟨it,fp,tn,J,H2,e,I2,T,JX,f2,hq⟩:=h2;subst e;refine gK (Q:=fun x H1=>fw i x σ H1 D.nx) (RR:=fun acc C=>compPost (model X.prog X.w) X.A X.xe (some (assign (.Name y py) X.env)) (fun _ s'=>SP X a_ D .next s') acc C) hc S hg ht he I2 T JX f2 hq ?_
 intro A C s' H' m' I' q' hn hC hL hF hz GZ hp;show wpAny _ X.A (assign (.Name y py) X.env (.ref A)) _ _ _;refine wpAny_assign_Name (jd I' hN Kn (.inl hy) (v:=.ref A) rfl (fun s2 I2 Lw=>?_) (.inr hy))
 obtain⟨a,sb,ha⟩:=Lw;have Q_:C≠a:=by
  rcases ha with z|z
  .rw[z];exact hL
  .exact fun q=>GZ y a z q.symm
 refine⟨m',hn.sameBut sb Q_,fun Rf Jg=>⟨σ.set i (some (.ref A)),H',?_,q'⟩⟩
 exact I2.turned (t':=s2.toks) (fun b o hb e=>(Jg.2 b hb).trans e) hC hL (.inr hz) GZ hp
end
mutual
def D.flat:D->Bool
 |.non=>true|.bl _=>true|.int _=>true|.str _=>true
 |.tup ds=>D.flats ds
 |.lst _=>false|.dT _ _=>false|.dK _ _=>false|.dD _ _=>false|.sp _ _=>false
def D.flats:List D->Bool
 |[]=>true
 |d::ds=>d.flat&&D.flats ds
end
theorem D.flats_all:∀ds:List D,D.flats ds=ds.all D.flat
 |[]=>rfl
 |d::ds=>by simp only[D.flats,List.all_cons,D.flats_all ds]
def LstS(K:Z5)(B:Z2->Prop)(H:Hp)(a:Z2)(xs:List V):Prop:=
 (B a/\H a=some (.lst xs))\/(∃o,H a=some (.frz o (.lst xs)))\/
  ∃(o:Obj)(its:Array Z7)(n:Nat),K.lookup a=some o/\o.cls=.type "list"/\o.dict=none/\o.data=.seq its n/\its.size<=sizeLine/\Vals xs its.toList
def LstS.sq{K:Z5}{B:Z2->Prop}{H:Hp}{a:Z2}{xs:List V}(h:LstS K B H a xs):SqL K H a xs:=by
 rcases h with⟨_,h⟩|⟨o,h⟩|h
 .exact .inl (.inl h)
 .exact .inl (.inr ⟨o,h⟩)
 .exact .inr h
def DicTS(B:Z2->Prop)(H:Hp)(a:Z2)(b_:List (List Key×V)):Prop:=(B a/\H a=some (.dT b_))\/∃o,H a=some (.frz o (.dT b_))
def DicKS(B:Z2->Prop)(H:Hp)(a:Z2)(b_:List (Key×V)):Prop:=(B a/\H a=some (.dK b_))\/∃o,H a=some (.frz o (.dK b_))
def DicDS(B:Z2->Prop)(H:Hp)(a:Z2)(b_:List (D×V)):Prop:=∃ep,(B a/\H a=some (.dD b_ ep))\/∃o,H a=some (.frz o (.dD b_ ep))
mutual
def Rep(K:Z5)(B:Z2->Prop)(H:Hp):D->V->Prop
 |.non,v=>v=.non
 |.bl b,v=>v=.bl b
 |.int i,v=>v=.int i
 |.str x,v=>v=.str x
 |.tup ds,v=>∃a xs,v=.ref a/\H a=some (.tup xs)/\Reps K B H ds xs
 |.lst ds,v=>∃a xs,v=.ref a/\LstS K B H a xs/\Reps K B H ds xs
 |.dT ks ds,v=>∃a b_,v=.ref a/\DicTS B H a b_/\b_.map (·.1)=ks/\Reps K B H ds (b_.map (·.2))
 |.dK ks ds,v=>∃a b_,v=.ref a/\DicKS B H a b_/\b_.map (·.1)=ks/\Reps K B H ds (b_.map (·.2))
 |.dD ks ds,v=>∃a b_,v=.ref a/\DicDS B H a b_/\b_.map (·.1)=ks/\Reps K B H ds (b_.map (·.2))
 |.sp false x,v=>∃f,v=.ref f/\PySem.W.nsIn K mainGlobals x=some (some (.ref f))
 |.sp true x,v=>∃a o c u,v=.ref a/\H a=some (.frz o (.own u))/\o.cls=.ref c/\PySem.W.nsIn K mainGlobals x=some (some (.ref c))
def Reps(K:Z5)(B:Z2->Prop)(H:Hp):List D->List V->Prop
 |[],xs=>xs=[]
 |d::ds,xs=>∃x r,xs=x::r/\Rep K B H d x/\Reps K B H ds r
end
structure Ext (B:Z2->Prop)(H H':Hp):Prop where
 tups:∀a xs,H a=some (.tup xs)->H' a=some (.tup xs)
 frzs:∀a o u,H a=some (.frz o u)->H' a=some (.frz o u)
 lent:∀a,B a->H' a=H a
def Ext.refl{B:Z2->Prop}{H:Hp}:Ext B H H:=⟨fun _ _ h=>h,fun _ _ _ h=>h,fun _ _=>rfl⟩
theorem Ext.trans{B:Z2->Prop}{H H1 H2:Hp}(a:Ext B H H1)(b:Ext B H1 H2):Ext B H H2:=
 ⟨fun x y h=>b.tups x y (a.tups x y h),fun x y z h=>b.frzs x y z (a.frzs x y z h),fun x h=>(b.lent x h).trans (a.lent x h)⟩
section
variable{K:Z5}{B B':Z2->Prop}{H H':Hp}
def LstS.ext{a:Z2}{xs:List V}(h:LstS K B H a xs)(e:Ext B H H'):LstS K B H' a xs:=by
 rcases h with⟨b,h⟩|⟨o,h⟩|h
 .exact .inl ⟨b,(e.lent a b).trans h⟩
 .exact .inr (.inl ⟨o,e.frzs _ _ _ h⟩)
 .exact .inr (.inr h)
def LstS.more{a:Z2}{xs:List V}(h:LstS K B H a xs)(e:∀a,B a->B' a):LstS K B' H a xs:=by
 rcases h with⟨b,h⟩|h|h
 .exact .inl ⟨e a b,h⟩
 .exact .inr (.inl h)
 .exact .inr (.inr h)
def DicTS.ext{a:Z2}{xs:List (List Key×V)}(h:DicTS B H a xs)(e:Ext B H H'):DicTS B H' a xs:=by
 rcases h with⟨b,h⟩|⟨o,h⟩
 .exact .inl ⟨b,(e.lent a b).trans h⟩
 .exact .inr ⟨o,e.frzs _ _ _ h⟩
def DicKS.ext{a:Z2}{xs:List (Key×V)}(h:DicKS B H a xs)(e:Ext B H H'):DicKS B H' a xs:=by
 rcases h with⟨b,h⟩|⟨o,h⟩
 .exact .inl ⟨b,(e.lent a b).trans h⟩
 .exact .inr ⟨o,e.frzs _ _ _ h⟩
def DicDS.ext{a:Z2}{xs:List (D×V)}(h:DicDS B H a xs)(e:Ext B H H'):DicDS B H' a xs:=by
 obtain⟨ep,h⟩:=h
 rcases h with⟨b,h⟩|⟨o,h⟩
 .exact⟨ep,.inl ⟨b,(e.lent a b).trans h⟩⟩
 .exact⟨ep,.inr ⟨o,e.frzs _ _ _ h⟩⟩
mutual
theorem Rep.ext(e:Ext B H H'):∀{d:D}{v:V},Rep K B H d v->Rep K B H' d v
 |.non,v,h=>by simpa only[Rep]using h
 |.bl b,v,h=>by simpa only[Rep]using h
 |.int i,v,h=>by simpa only[Rep]using h
 |.str x,v,h=>by simpa only[Rep]using h
 |.tup ds,v,h=>by
  simp only[Rep]at h⊢;obtain⟨a,xs,hv,hq,hr⟩:=h;exact⟨a,xs,hv,e.tups _ _ hq,Reps.ext e hr⟩
 |.lst ds,v,h=>by
  simp only[Rep]at h⊢;obtain⟨a,xs,hv,hq,hr⟩:=h;exact⟨a,xs,hv,hq.ext e,Reps.ext e hr⟩
 |.dT ks ds,v,h=>by
  simp only[Rep]at h⊢;obtain⟨a,xs,hv,hq,hk,hr⟩:=h;exact⟨a,xs,hv,hq.ext e,hk,Reps.ext e hr⟩
 |.dK ks ds,v,h=>by
  simp only[Rep]at h⊢;obtain⟨a,xs,hv,hq,hk,hr⟩:=h;exact⟨a,xs,hv,hq.ext e,hk,Reps.ext e hr⟩
 |.dD ks ds,v,h=>by
  simp only[Rep]at h⊢;obtain⟨a,xs,hv,hq,hk,hr⟩:=h;exact⟨a,xs,hv,hq.ext e,hk,Reps.ext e hr⟩
 |.sp false x,v,h=>by simpa only[Rep]using h
 |.sp true x,v,h=>by
  simp only[Rep]at h⊢;obtain⟨a,o,c,u,hv,hq,hr⟩:=h;exact⟨a,o,c,u,hv,e.frzs _ _ _ hq,hr⟩
theorem Reps.ext(e:Ext B H H'):∀{ds:List D}{xs:List V},Reps K B H ds xs->Reps K B H' ds xs
 |[],xs,h=>by simpa only[Reps]using h
 |d::ds,xs,h=>by
  simp only[Reps]at h⊢;obtain⟨x,r,hx,h1,h2⟩:=h;exact⟨x,r,hx,Rep.ext e h1,Reps.ext e h2⟩
end
mutual
theorem Rep.more(e:∀a,B a->B' a):∀{d:D}{v:V},Rep K B H d v->Rep K B' H d v
 |.non,v,h=>by simpa only[Rep]using h
 |.bl b,v,h=>by simpa only[Rep]using h
 |.int i,v,h=>by simpa only[Rep]using h
 |.str x,v,h=>by simpa only[Rep]using h
 |.tup ds,v,h=>by
  simp only[Rep]at h⊢;obtain⟨a,xs,hv,hq,hr⟩:=h;exact⟨a,xs,hv,hq,Reps.more e hr⟩
 |.lst ds,v,h=>by
  simp only[Rep]at h⊢;obtain⟨a,xs,hv,hq,hr⟩:=h;exact⟨a,xs,hv,hq.more e,Reps.more e hr⟩
 |.dT ks ds,v,h=>by
  simp only[Rep]at h⊢;obtain⟨a,xs,hv,hq,hk,hr⟩:=h;exact⟨a,xs,hv,hq.imp (fun z=>⟨e a z.1,z.2⟩) fun z=>z,hk,Reps.more e hr⟩
 |.dK ks ds,v,h=>by
  simp only[Rep]at h⊢;obtain⟨a,xs,hv,hq,hk,hr⟩:=h;exact⟨a,xs,hv,hq.imp (fun z=>⟨e a z.1,z.2⟩) fun z=>z,hk,Reps.more e hr⟩
 |.dD ks ds,v,h=>by
  simp only[Rep]at h⊢;obtain⟨a,xs,hv,⟨ep,hq⟩,hk,hr⟩:=h;exact⟨a,xs,hv,⟨ep,hq.imp (fun z=>⟨e a z.1,z.2⟩) fun z=>z⟩,hk,Reps.more e hr⟩
 |.sp false x,v,h=>by simpa only[Rep]using h
 |.sp true x,v,h=>by simpa only[Rep]using h
theorem Reps.more(e:∀a,B a->B' a):∀{ds:List D}{xs:List V},Reps K B H ds xs->Reps K B' H ds xs
 |[],xs,h=>by simpa only[Reps]using h
 |d::ds,xs,h=>by
  simp only[Reps]at h⊢;obtain⟨x,r,hx,h1,h2⟩:=h;exact⟨x,r,hx,Rep.more e h1,Reps.more e h2⟩
end
mutual
theorem Rep.flat:∀{d:D}{v:V},d.flat=true->Rep K B H d v->Rep K B' H d v
 |.non,v,_,h=>by simpa only[Rep]using h
 |.bl b,v,_,h=>by simpa only[Rep]using h
 |.int i,v,_,h=>by simpa only[Rep]using h
 |.str x,v,_,h=>by simpa only[Rep]using h
 |.tup ds,v,f,h=>by
  simp only[Rep]at h⊢;simp only[D.flat]at f;obtain⟨a,xs,hv,hq,hr⟩:=h;exact⟨a,xs,hv,hq,Reps.flat f hr⟩
 |.lst ds,v,f,_=>by simp[D.flat]at f
 |.dT _ _,v,f,_=>by simp[D.flat]at f
 |.dK _ _,v,f,_=>by simp[D.flat]at f
 |.dD _ _,v,f,_=>by simp[D.flat]at f
 |.sp _ _,v,f,_=>by simp[D.flat]at f
theorem Reps.flat:∀{ds:List D}{xs:List V},D.flats ds=true->Reps K B H ds xs->Reps K B' H ds xs
 |[],xs,_,h=>by simpa only[Reps]using h
 |d::ds,xs,f,h=>by
  simp only[Reps]at h⊢;simp only[D.flats,ZH]at f;obtain⟨x,r,hx,h1,h2⟩:=h;exact⟨x,r,hx,Rep.flat f.1 h1,Reps.flat f.2 h2⟩
end
theorem Reps.length:∀{ds:List D}{xs:List V},Reps K B H ds xs->ds.length=xs.length
 |[],xs,h=>by simp only[Reps]at h;subst h;rfl
 |d::ds,xs,h=>by
  simp only[Reps]at h;obtain⟨x,r,hx,h1,h2⟩:=h;subst hx;simp only[List.length_cons,Reps.length h2]
def Reps.nil:Reps K B H [] []:=by simp only[Reps]
theorem Reps.cons{d:D}{ds:List D}{x:V}{xs:List V}(h:Rep K B H d x)(t:Reps K B H ds xs):Reps K B H (d::ds) (x::xs):=by
 simp only[Reps];exact⟨x,xs,rfl,h,t⟩
def Reps.uncons{d:D}{ds:List D}{x:V}{xs:List V}(h:Reps K B H (d::ds) (x::xs)):Rep K B H d x/\Reps K B H ds xs:=by
 simp only[Reps]at h;obtain⟨y,r,e,h1,h2⟩:=h;cases e;exact⟨h1,h2⟩
theorem Reps.get:∀{ds:List D}{xs:List V}{i:Nat}{d:D},Reps K B H ds xs->ds[i]?=some d->∃x,xs[i]?=some x/\Rep K B H d x
 |[],_,_,_,_,e=>by simp at e
 |d::ds,xs,0,e,h,he=>by
  simp only[Reps]at h;obtain⟨x,r,hx,h1,h2⟩:=h;subst hx;simp at he;subst he;exact⟨x,rfl,h1⟩
 |d::ds,xs,i+1,e,h,he=>by
  simp only[Reps]at h;obtain⟨x,r,hx,h1,h2⟩:=h;subst hx;exact Reps.get (i:=i) h2 (by simpa using he)
def Reps.get':∀{ds:List D}{xs:List V}{i:Nat}{x:V},Reps K B H ds xs->xs[i]?=some x->∃d,ds[i]?=some d/\Rep K B H d x:=fun{ds xs i x} h e=>by
 have hl:=h.length;have hi:i<ds.length:=by rw[hl];exact(ZW.mp e).1
 obtain⟨y,hy,r⟩:=h.get (i:=i) (d:=ds[i]) (by simp[hi])
 rw[e]at hy;obtain rfl:=Z9 hy;exact⟨ds[i],by simp[hi],r⟩
theorem Reps.append:∀{ds es:List D}{xs ys:List V},Reps K B H ds xs->Reps K B H es ys->Reps K B H (ds++es) (xs++ys)
 |[],es,xs,ys,h,t=>by simp only[Reps]at h;subst h;simpa using t
 |d::ds,es,xs,ys,h,t=>by
  simp only[Reps]at h;obtain⟨x,r,hx,h1,h2⟩:=h;subst hx;exact Reps.cons h1 (Reps.append h2 t)
theorem Reps.take:∀{ds:List D}{xs:List V}(n:Nat),Reps K B H ds xs->Reps K B H (ds.take n) (xs.take n)
 |_,_,0,_=>by simp only[List.take_zero];exact Reps.nil
 |[],xs,n+1,h=>by simp only[Reps]at h;subst h;exact Reps.nil
 |d::ds,xs,n+1,h=>by
  simp only[Reps]at h;obtain⟨x,r,hx,h1,h2⟩:=h;subst hx;exact Reps.cons h1 (Reps.take n h2)
theorem Reps.drop:∀{ds:List D}{xs:List V}(n:Nat),Reps K B H ds xs->Reps K B H (ds.drop n) (xs.drop n)
 |_,_,0,h=>h
 |[],xs,n+1,h=>by simp only[Reps]at h;subst h;exact Reps.nil
 |d::ds,xs,n+1,h=>by
  simp only[Reps]at h;obtain⟨x,r,hx,h1,h2⟩:=h;subst hx;exact Reps.drop n h2
end
abbrev DEnv:=List (Z_ (D×Bool))
def ObR(K:Z5)(B:Z2->Prop)(H:Hp)(d:D)(a:Z2):Prop:=match d with
 |.lst ds=>∃xs,H a=some (.lst xs)/\Reps K B H ds xs
 |.dT ks ds=>∃b_,H a=some (.dT b_)/\b_.map (·.1)=ks/\Reps K B H ds (b_.map (·.2))
 |.dK ks ds=>∃b_,H a=some (.dK b_)/\b_.map (·.1)=ks/\Reps K B H ds (b_.map (·.2))
 |.dD ks ds=>∃b_,(∃ep,H a=some (.dD b_ ep))/\b_.map (·.1)=ks/\Reps K B H ds (b_.map (·.2))
 |_=>False
structure Rel (K:Z5)(B:Z2->Prop)(Hk:Hp)(δ:DEnv)(σ:St)(H:Hp):Prop where
 same:Same Hk H
 bor:∀a,B a->∃o:HOn,Hk a=some o.1
 len:δ.length=σ.length
 var:∀(i:Nat) d,δ[i]?=some (some (d,false))->∃v,σ[i]?=some (some v)/\Rep K B H d v
 own:∀(i:Nat) d,δ[i]?=some (some (d,true))->∃a,σ[i]?=some (some (.ref a))/\Hk a=none/\ObR K B H d a
 dis:∀(i j:Nat) d e a,i≠j->δ[i]?=some (some (d,true))->δ[j]?=some (some (e,true))->σ[i]?=some (some (.ref a))->σ[j]?=some (some (.ref a))->False
def BO(B:Z2->Prop)(δ:DEnv)(σ:St)(a:Z2):Prop:=B a\/∃(i:Nat)(d:D),δ[i]?=some (some (d,true))/\σ[i]?=some (some (.ref a))
def ba(m:Bool)(B:Z2->Prop)(δ:DEnv)(σ:St):Z2->Prop:=if m=true then BO B δ σ else B
section
variable{K:Z5}{B B':Z2->Prop}{Hk H H':Hp}{δ:DEnv}{σ:St}
def Same.ext(s:Same H H')(b:∀a,B a->∃o:HOn,H a=some o.1):Ext B H H':=
 ⟨fun a xs h=>s a _ h,fun a o u h=>s a _ h,fun a h=>by obtain⟨o,e⟩:=b a h;rw[e,s a o e]⟩
theorem ObR.ext{d:D}{a:Z2}(h:ObR K B H d a)(e:Ext B H H')(ha:∀o:HO,H a=some o->o.nt=true->H' a=some o):ObR K B H' d a:=by
 cases d with
 |lst ds=>obtain⟨xs,h1,h2⟩:=h;exact⟨xs,ha _ h1 rfl,h2.ext e⟩
 |dT ks ds=>obtain⟨xs,h1,h0,h2⟩:=h;exact⟨xs,ha _ h1 rfl,h0,h2.ext e⟩
 |dK ks ds=>obtain⟨xs,h1,h0,h2⟩:=h;exact⟨xs,ha _ h1 rfl,h0,h2.ext e⟩
 |dD ks ds=>obtain⟨xs,⟨ep,h1⟩,h0,h2⟩:=h;exact⟨xs,⟨ep,ha _ h1 rfl⟩,h0,h2.ext e⟩
 |_=>exact(show False from h).elim
def ObR.there{d:D}{a:Z2}(h:ObR K B H d a):∃o:HOn,H a=some o.1:=by
 cases d with
 |lst ds=>obtain⟨xs,h1,h2⟩:=h;exact⟨⟨_,rfl⟩,h1⟩
 |dT ks ds=>obtain⟨xs,h1,h0,h2⟩:=h;exact⟨⟨_,rfl⟩,h1⟩
 |dK ks ds=>obtain⟨xs,h1,h0,h2⟩:=h;exact⟨⟨_,rfl⟩,h1⟩
 |dD ks ds=>obtain⟨xs,⟨ep,h1⟩,h0,h2⟩:=h;exact⟨⟨_,rfl⟩,h1⟩
 |_=>exact(show False from h).elim
def Rel.borH(R:Rel K B Hk δ σ H):∀a,B a->∃o:HOn,H a=some o.1:=fun a h=>by
 obtain⟨o,e⟩:=R.bor a h;exact⟨o,R.same a o e⟩
def Rel.boH(R:Rel K B Hk δ σ H):∀a,BO B δ σ a->∃o:HOn,H a=some o.1:=fun a h=>by
 rcases h with h|⟨i,d,h1,h2⟩
 .exact R.borH a h
 .obtain⟨b,e,_,ob⟩:=R.own i d h1
  rw[h2]at e;cases e;exact ob.there
def Rel.bsH(R:Rel K B Hk δ σ H)(m:Bool):∀a,ba m B δ σ a->∃o:HOn,H a=some o.1:=by
 unfold ba;cases m with
 |true=>exact R.boH
 |false=>exact R.borH
def Rel.to(R:Rel K B Hk δ σ H)(s:Same H H'):Rel K B Hk δ σ H':=by
 have e:Ext B H H':=s.ext R.borH;refine⟨R.same.trans s,R.bor,R.len,fun i d h=>?_,fun i d h=>?_,R.dis⟩
 .obtain⟨v,h1,h2⟩:=R.var i d h
  exact⟨v,h1,h2.ext e⟩
 .obtain⟨a,h1,h2,h3⟩:=R.own i d h
  exact⟨a,h1,h2,h3.ext e fun o q n=>s.get a o n q⟩
def Rep.same{m:Bool}{d:D}{v:V}(r:Rep K (ba m B δ σ) H d v)(R:Rel K B Hk δ σ H)(s:Same H H'):Rep K (ba m B δ σ) H' d v:=r.ext (s.ext (R.bsH m))
def Reps.same{m:Bool}{d:List D}{v:List V}(r:Reps K (ba m B δ σ) H d v)(R:Rel K B Hk δ σ H)(s:Same H H'):Reps K (ba m B δ σ) H' d v:=r.ext (s.ext (R.bsH m))
def hU(m:Bool):∀a,B a->ba m B δ σ a:=fun a h=>by
 unfold ba;cases m with
 |true=>exact .inl h
 |false=>exact h
def ObR.rep{d:D}{a:Z2}(h:ObR K B H d a)(hb:B' a)(hs:∀a,B a->B' a):Rep K B' H d (.ref a):=by
 cases d with
 |lst ds=>obtain⟨xs,h1,h2⟩:=h;simp only[Rep];exact⟨a,xs,rfl,.inl ⟨hb,h1⟩,h2.more hs⟩
 |dT ks ds=>obtain⟨xs,h1,h0,h2⟩:=h;simp only[Rep];exact⟨a,xs,rfl,.inl ⟨hb,h1⟩,h0,h2.more hs⟩
 |dK ks ds=>obtain⟨xs,h1,h0,h2⟩:=h;simp only[Rep];exact⟨a,xs,rfl,.inl ⟨hb,h1⟩,h0,h2.more hs⟩
 |dD ks ds=>obtain⟨xs,⟨ep,h1⟩,h0,h2⟩:=h;simp only[Rep];exact⟨a,xs,rfl,⟨ep,.inl ⟨hb,h1⟩⟩,h0,h2.more hs⟩
 |_=>exact(show False from h).elim
end
def PE.imp{X:Cx}{e:Expr}{t t':TE}(h:PE X e t)(i:∀σ H Q,t' σ H Q->t σ H Q):PE X e t':=fun a_ s σ H Q I q=>h a_ s σ H Q I (i σ H Q q)
def PT.imp{X:Cx}{e:Expr}{t t':TT}(h:PT X e t)(i:∀σ H Q,t' σ H Q->t σ H Q):PT X e t':=fun a_ s σ H Q I q=>h a_ s σ H Q I (i σ H Q q)
def PW.imp{X:Cx}{e:Expr}{t t':TT}(h:PW X e t)(i:∀σ H Q,t' σ H Q->t σ H Q):PW X e t':=fun whole a_ s σ H Q I q=>h whole a_ s σ H Q I (i σ H Q q)
def PA.imp{X:Cx}{e:List Expr}{t t':TA}(h:PA X e t)(i:∀σ H Q,t' σ H Q->t σ H Q):PA X e t':=fun pos a_ s σ H Q I q=>h pos a_ s σ H Q I (i σ H Q q)
def PI.imp{X:Cx}{tg e:Expr}{t t':TI}(h:PI X tg e t)(i:∀σ H Q,t' σ H Q->t σ H Q):PI X tg e t':=fun a_ s σ H Q I q=>h a_ s σ H Q I (i σ H Q q)
def PS.imp{X:Cx}{e:Stmt}{t t':TS}(h:PS X e t)(i:∀D σ H,t' D σ H->t D σ H):PS X e t':=fun a_ s σ H D I q=>h a_ s σ H D I (i D σ H q)
def PSs.imp{X:Cx}{e:List Stmt}{t t':TS}(h:PSs X e t)(i:∀D σ H,t' D σ H->t D σ H):PSs X e t':=fun a_ s σ H D I q=>h a_ s σ H D I (i D σ H q)
noncomputable def tM(K:Z5)(m:Bool)(f:DEnv->Z_ D):TE:=fun σ H Q=>∃B Hk δ d,Rel K B Hk δ σ H/\f δ=some d/\∀v H',Same H H'->Rep K (ba m B δ σ) H' d v->Q v H'
noncomputable def tF(K:Z5)(f:DEnv->Z_ D):TE:=fun σ H Q=>∃B Hk δ d,Rel K B Hk δ σ H/\f δ=some d/\∀a H',Same H H'->H a=none->ObR K B H' d a->Q (.ref a) H'
def tMT(K:Z5)(f:DEnv->Z_ Bool):TT:=fun σ H Q=>∃B Hk δ d,Rel K B Hk δ σ H/\f δ=some d/\∀H',Same H H'->Q d H'
noncomputable def tMA(K:Z5)(m:Bool)(f:DEnv->Z_ (List D)):TA:=fun σ H Q=>∃B Hk δ ds,Rel K B Hk δ σ H/\f δ=some ds/\∀vs H',Same H H'->Reps K (ba m B δ σ) H' ds vs->Q vs H'
abbrev DE(X:Cx)(m:Bool)(e:Expr)(f:DEnv->Z_ D):Prop:=PE X e (tM X.K m f)
abbrev DF(X:Cx)(e:Expr)(f:DEnv->Z_ D):Prop:=PE X e (tF X.K f)
abbrev DT(X:Cx)(e:Expr)(f:DEnv->Z_ Bool):Prop:=PT X e (tMT X.K f)
abbrev DA(X:Cx)(m:Bool)(es:List Expr)(f:DEnv->Z_ (List D)):Prop:=PA X es (tMA X.K m f)
section
variable{X:Cx}{m m':Bool}{a b:Expr}{fa fb:DEnv->Z_ D}{pos:Pos}
def rd(m:Bool)(i:Nat)(δ:DEnv):Z_ D:=match δ[i]? with|some (some (d,o))=>if(o&&!m)=true then none else some d|_=>none
def yu{m:Bool}{i:Nat}{δ:DEnv}{d:D}(h:rd m i δ=some d):∃o,δ[i]?=some (some (d,o))/\(o=true->m=true):=by
 unfold rd at h;split at h
 .rename_i d' o e
  by_cases q:(o&&!m)=true
  .rw[Z0 q]at h;trivial
  .rw[ZY q]at h;obtain rfl:=Z9 h
   refine⟨o,e,fun z=>?_⟩
   subst z;cases m with
   |true=>rfl
   |false=>simp at q
 .trivial
theorem Rel.rd{K:Z5}{B:Z2->Prop}{Hk H:Hp}{δ:DEnv}{σ:St}{i:Nat}{d:D}(R:Rel K B Hk δ σ H)(h:rd m i δ=some d):∃v,σ[i]?=some (some v)/\Rep K (ba m B δ σ) H d v:=by
 obtain⟨o,e,ho⟩:=yu h;cases o with
 |false=>
  obtain⟨v,h1,h2⟩:=R.var i d e;exact⟨v,h1,h2.more fun a h=>hU m a h⟩
 |true=>
  obtain⟨a,h1,h2,h3⟩:=R.own i d e;obtain rfl:=ho rfl;exact⟨_,h1,h3.rep (B':=ba true B δ σ) (by unfold ba;rw[Z0 rfl];exact .inr ⟨i,d,e,h1⟩) fun a h=>hU true a h⟩
def Bn{i:Nat}{x:Str}(hN:X.N[i]?=some x)(hv:Vis X.env.scope x)(hd:(x==("__debug__":Str))=false:=by decide)(Fo:(x==("__classdict__":Str))=false:=by decide):DE X m (.Name x pos) (rd m i):=
 (bg hN hv hd Fo).imp fun σ H Q hz=>by
  obtain⟨B,Hk,δ,d,R,e,k⟩:=hz;obtain⟨v,h1,h2⟩:=R.rd e;exact⟨v,h1,k v H (Same.refl H) h2⟩
theorem jo{i:Int}{j:Nat}:DE X m (.Constant (.int i) j pos) (fun _=>some (.int i)):=sG.imp fun σ H Q hz=>by obtain⟨B,Hk,δ,d,R,e,k⟩:=hz;obtain rfl:=Z9 e;exact k _ H (Same.refl H) rfl
theorem wB{x:Str}{j:Nat}:DE X m (.Constant (.str x) j pos) (fun _=>some (.str x)):=AA.imp fun σ H Q hz=>by obtain⟨B,Hk,δ,d,R,e,k⟩:=hz;obtain rfl:=Z9 e;exact k _ H (Same.refl H) rfl
theorem CG{x:Bool}{j:Nat}:DE X m (.Constant (.bool x) j pos) (fun _=>some (.bl x)):=Av.imp fun σ H Q hz=>by obtain⟨B,Hk,δ,d,R,e,k⟩:=hz;obtain rfl:=Z9 e;exact k _ H (Same.refl H) rfl
theorem m4{j:Nat}:DE X m (.Constant .none j pos) (fun _=>some .non):=zL.imp fun σ H Q hz=>by obtain⟨B,Hk,δ,d,R,e,k⟩:=hz;obtain rfl:=Z9 e;exact k _ H (Same.refl H) rfl
def two{K:Z5}{σ:St}{H:Hp}{B:Z2->Prop}{Hk:Hp}{δ:DEnv}{d1 d2:D}{P:V->V->Hp->Prop}(R:Rel K B Hk δ σ H)(e1:fa δ=some d1)(e2:fb δ=some d2)
  (k:∀v u H',Same H H'->Rel K B Hk δ σ H'->Rep K (ba m B δ σ) H' d1 v->Rep K (ba m' B δ σ) H' d2 u->P v u H'):tM K m fa σ H fun x H1=>tM K m' fb σ H1 fun y H2=>P x y H2:=
 ⟨B,Hk,δ,d1,R,e1,fun v H1 s1 r1=>⟨B,Hk,δ,d2,R.to s1,e2,fun u H2 s2 r2=>k v u H2 (s1.trans s2) (R.to (s1.trans s2)) (r1.same (R.to s1) s2) r2⟩⟩
noncomputable def bI(C:Int->Int->Bool)(g:Int->Int->D)(x y:Z_ D):Z_ D:=match x,y with|some (.int i),some (.int j)=>if C i j=true then some (g i j) else none|_,_=>none
def xJ{C:Int->Int->Bool}{g:Int->Int->D}{x y:Z_ D}{d:D}(h:bI C g x y=some d):∃i j,x=some (.int i)/\y=some (.int j)/\C i j=true/\d=g i j:=by
 unfold bI at h;split at h
 .rename_i i j
  by_cases q:C i j=true
  .rw[Z0 q]at h;obtain rfl:=Z9 h;exact⟨i,j,rfl,rfl,q,rfl⟩
  .rw[ZY q]at h;trivial
 .trivial
def xA{C:Int->Int->Bool}{g:Int->Int->D}{i j:Int}(h:C i j=true):bI C g (some (.int i)) (some (.int j))=some (g i j):=by unfold bI;simp only[Z0 h]
def cT:Int->Int->Bool:=fun _ _=>true
def C8:Int->Int->Bool:=fun i j=>decide ((-(2 ^ 64)<i/\i<2 ^ 64)\/(-(2 ^ 64)<j/\j<2 ^ 64))
def DC:Int->Int->Bool:=fun _ j=>decide (0<j/\j<1073741824)
def Dj:Int->Int->Bool:=fun _ j=>decide (0<j)
def qL{op:Operator}{C:Int->Int->Bool}{g:Int->Int->Int}{r:R2}{mm:Bool}(ho:OpR X (binaryOp op) r)(hr:∀i j H Q,C i j=true->Q (V.int (g i j)) H->r (.int i) (.int j) H Q)(ha:DE X m a fa)(hb:DE X m' b fb):
  DE X mm (.BinOp a op b pos) (fun δ=>bI C (fun i j=>.int (g i j)) (fa δ) (fb δ)):=
 (uI ho ha hb).imp fun σ H Q hz=>by
  obtain⟨B,Hk,δ,d,R,e,k⟩:=hz;obtain⟨i,j,e1,e2,hc,rfl⟩:=xJ e;refine two R e1 e2 fun v u H' s R' r1 r2=>?_
  simp only[Rep]at r1 r2;subst r1 r2;exact hr i j H' Q hc (k _ H' s (by simp only[Rep]))
def fX(x y:Z_ D):Z_ D:=bI cT (fun i j=>.int (i+j)) x y
def Ca(x y:Z_ D):Z_ D:=bI cT (fun i j=>.int (i - j)) x y
def qI(x y:Z_ D):Z_ D:=bI C8 (fun i j=>.int (i*j)) x y
def tm(x y:Z_ D):Z_ D:=bI DC (fun i j=>.int (i / j)) x y
def c8(x y:Z_ D):Z_ D:=bI Dj (fun i j=>.int (i%j)) x y
theorem AD{mm:Bool}(ha:DE X m a fa)(hb:DE X m' b fb):DE X mm (.BinOp a .Add b pos) (fun δ=>fX (fa δ) (fb δ)):=qL AU (fun i j H Q _ q=>⟨i,j,rfl,rfl,q⟩) ha hb
theorem AC{mm:Bool}(ha:DE X m a fa)(hb:DE X m' b fb):DE X mm (.BinOp a .Sub b pos) (fun δ=>Ca (fa δ) (fb δ)):=qL A7 (fun i j H Q _ q=>⟨i,j,rfl,rfl,q⟩) ha hb
theorem z0{mm:Bool}(ha:DE X m a fa)(hb:DE X m' b fb):DE X mm (.BinOp a .Mult b pos) (fun δ=>qI (fa δ) (fb δ)):=qL zS (fun i j H Q c q=>⟨i,j,rfl,rfl,(show(-(2 ^ 64)<i/\i<2 ^ 64)\/(-(2 ^ 64)<j/\j<2 ^ 64) from Zc c),q⟩) ha hb
theorem AT{mm:Bool}(ha:DE X m a fa)(hb:DE X m' b fb):DE X mm (.BinOp a .FloorDiv b pos) (fun δ=>tm (fa δ) (fb δ)):=qL zg (fun i j H Q c q=>⟨i,j,rfl,rfl,(show 0<j/\j<1073741824 from Zc c),q⟩) ha hb
theorem Ba{mm:Bool}(ha:DE X m a fa)(hb:DE X m' b fb):DE X mm (.BinOp a .Mod b pos) (fun δ=>c8 (fa δ) (fb δ)):=qL zJ (fun i j H Q c q=>⟨i,j,rfl,rfl,(show 0<j from Zc c),q⟩) ha hb
def tyB(x:Z_ D):Z_ Bool:=match x with|some (.bl b)=>some b|_=>none
def ofB(x:Z_ Bool):Z_ D:=match x with|some b=>some (.bl b)|none=>none
def ix{x:Z_ D}{c:Bool}(h:tyB x=some c):x=some (.bl c):=by
 unfold tyB at h;split at h
 .obtain rfl:=Z9 h;rfl
 .trivial
theorem wg(ha:DE X m a fa)(he:∀whole,isTrue a X.env whole=(do let v <-whole;standAt a.pos;holding [v] (truthy v)):=by intro _;rfl):DT X a (fun δ=>tyB (fa δ)):=
 (Ab ha he).imp fun σ H Q ⟨B,Hk,δ,d,R,e,k⟩=>⟨B,Hk,δ,_,R,ix e,fun v H' s r=>by
  simp only[Rep]at r;subst r;exact⟨d,rfl,k H' s⟩⟩
variable{fc ga gb:DEnv->Z_ Bool}{ao:List Expr}
def wM(x y:Z_ Bool):Z_ Bool:=match x with|some true=>y|some false=>some false|none=>none
def orO(x y:Z_ Bool):Z_ Bool:=match x with|some true=>some true|some false=>y|none=>none
def iy(x:Z_ Bool):Z_ Bool:=match x with|some c=>some (!c)|none=>none
abbrev DW(X:Cx)(e:Expr)(f:DEnv->Z_ Bool):Prop:=PW X e (tMT X.K f)
theorem xI(ha:DT X a ga):DW X (.BoolOp .And [a] pos) ga:=xo ha
theorem zq(ha:DT X a ga):DW X (.BoolOp .Or [a] pos) ga:=AY ha
theorem Bj(ha:DT X a ga)(hb:DW X (.BoolOp .And (b::ao) pos) gb):DW X (.BoolOp .And (a::b::ao) pos) (fun δ=>wM (ga δ) (gb δ)):=
 (zK ha hb).imp fun σ H Q hz=>by
  obtain⟨B,Hk,δ,d,R,e,k⟩:=hz;unfold wM at e;dsimp only at e;split at e
  .rename_i q
   exact⟨B,Hk,δ,true,R,q,fun H1 s1=>wG (⟨B,Hk,δ,d,R.to s1,e,fun H2 s2=>k H2 (s1.trans s2)⟩)⟩
  .rename_i q;obtain rfl:=Z9 e
   exact⟨B,Hk,δ,false,R,q,fun H1 s1=>wC (k H1 s1)⟩
  .trivial
theorem BU(ha:DT X a ga)(hb:DW X (.BoolOp .Or (b::ao) pos) gb):DW X (.BoolOp .Or (a::b::ao) pos) (fun δ=>orO (ga δ) (gb δ)):=
 (BW ha hb).imp fun σ H Q hz=>by
  obtain⟨B,Hk,δ,d,R,e,k⟩:=hz;unfold orO at e;dsimp only at e;split at e
  .rename_i q;obtain rfl:=Z9 e
   exact⟨B,Hk,δ,true,R,q,fun H1 s1=>wG (k H1 s1)⟩
  .rename_i q
   exact⟨B,Hk,δ,false,R,q,fun H1 s1=>wC (⟨B,Hk,δ,d,R.to s1,e,fun H2 s2=>k H2 (s1.trans s2)⟩)⟩
  .trivial
theorem Bd(ha:DT X a ga):DT X (.UnaryOp .Not a pos) (fun δ=>iy (ga δ)):=
 (AR ha).imp fun σ H Q hz=>by
  obtain⟨B,Hk,δ,d,R,e,k⟩:=hz;dsimp only[iy]at e;split at e
  .rename_i c q;obtain rfl:=Z9 e
   exact⟨B,Hk,δ,c,R,q,fun H1 s1=>k H1 s1⟩
  .trivial
def Aq{op:BoolOp}{mm:Bool}(ha:DE X m a fa)(hk:m=mm:=by rfl):DE X mm (.BoolOp op [a] pos) fa:=by subst hk;exact Ar ha
def AE{mm:Bool}(ha:DE X m a fa)(hb:DE X mm (.BoolOp .And (b::ao) pos) fb):DE X mm (.BoolOp .And (a::b::ao) pos) (fun δ=>match tyB (fa δ)with|some true=>fb δ|some false=>some (.bl false)|none=>none):=
 (zN ha hb).imp fun σ H Q hz=>by
  obtain⟨B,Hk,δ,d,R,e,k⟩:=hz;dsimp only at e;split at e
  .rename_i q
   exact⟨B,Hk,δ,_,R,ix q,fun v H1 s1 r=>by
    simp only[Rep]at r;exact⟨true,r,by rw[Z0 rfl];exact⟨B,Hk,δ,d,R.to s1,e,fun v H2 s2=>k v H2 (s1.trans s2)⟩⟩⟩
  .rename_i q;obtain rfl:=Z9 e
   exact⟨B,Hk,δ,_,R,ix q,fun v H1 s1 r=>by
    simp only[Rep]at r;exact⟨false,r,by rw[ZY Zv];exact k _ H1 s1 (by simp only[Rep])⟩⟩
  .trivial
def af(x:Z_ D)(y:Z_ (List D)):Z_ (List D):=match x,y with|some d,some ds=>some (d::ds)|_,_=>none
def nR{x:Z_ D}{y:Z_ (List D)}{l:List D}(h:af x y=some l):∃d ds,x=some d/\y=some ds/\l=d::ds:=by
 unfold af at h;split at h
 .rename_i d ds;obtain rfl:=Z9 h;exact⟨d,ds,rfl,rfl,rfl⟩
 .trivial
variable{e:Expr}{es:List Expr}{fe:DEnv->Z_ D}{fs:DEnv->Z_ (List D)}
theorem ff:DA X m [] (fun _=>some []):=aO.imp fun σ H Q hz=>by obtain⟨B,Hk,δ,d,R,e,k⟩:=hz;obtain rfl:=Z9 e;exact k [] H (Same.refl H) Reps.nil
theorem bY(ha:DE X m e fe)(hr:DA X m es fs)(hs:starEach (e::es) X.env=(false,eval e X.env)::starEach es X.env:=by rfl):DA X m (e::es) (fun δ=>af (fe δ) (fs δ)):=
 (aw ha hr hs).imp fun σ H Q hz=>by
  obtain⟨B,Hk,δ,l,R,e,k⟩:=hz;obtain⟨d,ds,e1,e2,rfl⟩:=nR e;exact⟨B,Hk,δ,d,R,e1,fun v H1 s1 r1=>⟨B,Hk,δ,ds,R.to s1,e2,fun vs H2 s2 r2=>k (v::vs) H2 (s1.trans s2) (Reps.cons (r1.same (R.to s1) s2) r2)⟩⟩
def lim:Nat:=1000000
def aH{n:Nat}(h:n<=lim):n<=sizeLine:=Zh h (by decide)
def gO(x:Z_ (List D)):Z_ D:=match x with|some ds=>if ds.length<=lim then some (.tup ds) else none|none=>none
def bU(x:Z_ (List D)):Z_ D:=match x with|some ds=>if ds.length<=lim then some (.lst ds) else none|none=>none
def tf{x:Z_ (List D)}{d:D}(h:gO x=some d):∃ds,x=some ds/\ds.length<=lim/\d=.tup ds:=by
 unfold gO at h;split at h
 .rename_i ds
  by_cases q:ds.length<=lim
  .rw[Z0 q]at h;obtain rfl:=Z9 h;exact⟨ds,rfl,q,rfl⟩
  .rw[ZY q]at h;trivial
 .trivial
def rB{x:Z_ (List D)}{d:D}(h:bU x=some d):∃ds,x=some ds/\ds.length<=lim/\d=.lst ds:=by
 unfold bU at h;split at h
 .rename_i ds
  by_cases q:ds.length<=lim
  .rw[Z0 q]at h;obtain rfl:=Z9 h;exact⟨ds,rfl,q,rfl⟩
  .rw[ZY q]at h;trivial
 .trivial
def au{H:Hp}{p:Z2}{o:HO}(h:H p=none):Same H (upd H p o):=(Same.refl H).put h
theorem wv{x1:Nat}(h:DA X m es fs):DE X m (.Tuple es x1 pos) (fun δ=>gO (fs δ)):=
 (A2 h).imp fun σ H Q hz=>by
  obtain⟨B,Hk,δ,d,R,e,k⟩:=hz;obtain⟨ds,e1,hl,rfl⟩:=tf e;refine⟨B,Hk,δ,ds,R,e1,fun vs H1 s1 r1=>⟨by rw[<-r1.length];exact aH hl,fun p hp=>?_⟩⟩
  have s2:=au (o:=.tup vs) hp;refine k _ _ (s1.trans s2) ?_
  simp only[Rep];exact⟨p,vs,rfl,ag,r1.same (R.to s1) s2⟩
theorem wn(h:DA X false es fs):DF X (.List es pos) (fun δ=>bU (fs δ)):=
 (A5 h).imp fun σ H Q hz=>by
  obtain⟨B,Hk,δ,d,R,e,k⟩:=hz;obtain⟨ds,e1,hl,rfl⟩:=rB e;refine⟨B,Hk,δ,ds,R,e1,fun vs H1 s1 r1=>⟨by rw[<-r1.length];exact aH hl,fun p hp=>?_⟩⟩
  have s2:=au (o:=.lst vs) hp;exact k p _ (s1.trans s2) (s1.free hp) ⟨vs,ag,r1.same (m:=false) (R.to s1) s2⟩
end
def okD:Nat->D->Bool
 |_,.non=>true
 |_,.int _=>true
 |_,.str _=>true
 |n+1,.tup ds=>ds.all (okD n)
 |n+1,.lst ds=>ds.all (okD n)
 |_,_=>false
def iR{n:Nat}{ds:List D}(h:okD n (.tup ds)=true):∃k,n=k+1/\ds.all (okD k)=true:=by
 cases n with
 |zero=>simp[okD]at h
 |succ k=>exact⟨k,rfl,by simpa only[okD]using h⟩
def iJ{n:Nat}{ds:List D}(h:okD n (.lst ds)=true):∃k,n=k+1/\ds.all (okD k)=true:=by
 cases n with
 |zero=>simp[okD]at h
 |succ k=>exact⟨k,rfl,by simpa only[okD]using h⟩
section
variable{X:Cx}{a_:List (Z2×Obj)}{σ:St}{H:Hp}{s:Z4}{B B':Z2->Prop}
def cR{a:Z2}{xs ys:List V}(I:Inv X a_ σ H s)(h:SqL X.K H a xs)(h':SqT X.K H a ys):False:=by
 obtain⟨its,_,⟨o,n,e,hc,_,_⟩,_⟩:=I.list h;obtain⟨its',_,⟨o',e',Kp,_⟩,_⟩:=I.tuple h';rw[e]at e';obtain rfl:=Z9 e';rw[hc]at Kp;injection Kp with z
 exact absurd z (by decide)
mutual
theorem Rep.inj(I:Inv X a_ σ H s):∀{n n':Nat}{d e:D}{v:V},okD n d=true->okD n' e=true->Rep X.K B H d v->Rep X.K B' H e v->d=e
 |n,n',.non,e,v,hd,he,r,r'=>by
  simp only[Rep]at r;subst r;cases e with
  |non=>rfl
  |dT _ _=>simp[okD]at he
  |dK _ _=>simp[okD]at he
  |dD _ _=>simp[okD]at he
  |sp _ _=>simp[okD]at he
  |tup _=>simp only[Rep]at r';obtain⟨a,xs,z,_⟩:=r';trivial
  |lst _=>simp only[Rep]at r';obtain⟨a,xs,z,_⟩:=r';trivial
  |_=>simp only[Rep]at r';trivial
 |n,n',.bl _,e,v,hd,he,r,r'=>by simp[okD]at hd
 |n,n',.dT _ _,e,v,hd,he,r,r'=>by simp[okD]at hd
 |n,n',.dK _ _,e,v,hd,he,r,r'=>by simp[okD]at hd
 |n,n',.dD _ _,e,v,hd,he,r,r'=>by simp[okD]at hd
 |n,n',.sp _ _,e,v,hd,he,r,r'=>by simp[okD]at hd
 |n,n',.int i,e,v,hd,he,r,r'=>by
  simp only[Rep]at r;subst r;cases e with
  |int j=>simp only[Rep]at r';cases r';rfl
  |dT _ _=>simp[okD]at he
  |dK _ _=>simp[okD]at he
  |dD _ _=>simp[okD]at he
  |sp _ _=>simp[okD]at he
  |tup _=>simp only[Rep]at r';obtain⟨a,xs,z,_⟩:=r';trivial
  |lst _=>simp only[Rep]at r';obtain⟨a,xs,z,_⟩:=r';trivial
  |_=>simp only[Rep]at r';trivial
 |n,n',.str i,e,v,hd,he,r,r'=>by
  simp only[Rep]at r;subst r;cases e with
  |str j=>simp only[Rep]at r';cases r';rfl
  |dT _ _=>simp[okD]at he
  |dK _ _=>simp[okD]at he
  |dD _ _=>simp[okD]at he
  |sp _ _=>simp[okD]at he
  |tup _=>simp only[Rep]at r';obtain⟨a,xs,z,_⟩:=r';trivial
  |lst _=>simp only[Rep]at r';obtain⟨a,xs,z,_⟩:=r';trivial
  |_=>simp only[Rep]at r';trivial
 |n,n',.tup ds,e,v,hd,he,r,r'=>by
  simp only[Rep]at r;obtain⟨a,xs,rfl,hq,hr⟩:=r;obtain⟨k,_,hd⟩:=iR hd;cases e with
  |tup es=>
   simp only[Rep]at r';obtain⟨b,ys,z,FT,Kg⟩:=r';cases z;obtain rfl:=I.tuple_inj (SqT.of hq) (SqT.of FT);obtain⟨k',_,he⟩:=iR he;rw[Reps.inj I hd he hr Kg]
  |lst es=>
   simp only[Rep]at r';obtain⟨b,ys,z,FT,Kg⟩:=r';cases z;exact(cR I FT.sq (SqT.of hq)).elim
  |dT _ _=>simp[okD]at he
  |dK _ _=>simp[okD]at he
  |dD _ _=>simp[okD]at he
  |sp _ _=>simp[okD]at he
  |_=>simp only[Rep]at r';trivial
 |n,n',.lst ds,e,v,hd,he,r,r'=>by
  simp only[Rep]at r;obtain⟨a,xs,rfl,hq,hr⟩:=r;obtain⟨k,_,hd⟩:=iJ hd;cases e with
  |lst es=>
   simp only[Rep]at r';obtain⟨b,ys,z,FT,Kg⟩:=r';cases z;obtain rfl:=I.list_inj hq.sq FT.sq;obtain⟨k',_,he⟩:=iJ he;rw[Reps.inj I hd he hr Kg]
  |tup es=>
   simp only[Rep]at r';obtain⟨b,ys,z,FT,Kg⟩:=r';cases z;exact(cR I hq.sq (SqT.of FT)).elim
  |dT _ _=>simp[okD]at he
  |dK _ _=>simp[okD]at he
  |dD _ _=>simp[okD]at he
  |sp _ _=>simp[okD]at he
  |_=>simp only[Rep]at r';trivial
theorem Reps.inj(I:Inv X a_ σ H s):∀{n n':Nat}{ds es:List D}{xs:List V},ds.all (okD n)=true->es.all (okD n')=true->Reps X.K B H ds xs->Reps X.K B' H es xs->ds=es
 |n,n',[],es,xs,hd,he,r,r'=>by
  simp only[Reps]at r;subst r;cases es with
  |nil=>rfl
  |cons e es=>simp only[Reps]at r';obtain⟨_,_,z,_⟩:=r';trivial
 |n,n',d::ds,es,xs,hd,he,r,r'=>by
  simp only[Reps]at r;obtain⟨x,t,rfl,r1,r2⟩:=r;cases es with
  |nil=>simp only[Reps]at r';trivial
  |cons e es=>
   obtain⟨q1,q2⟩:=r'.uncons;rw[List.all_cons,ZH]at hd he;rw[Rep.inj I hd.1 he.1 r1 q1,Reps.inj I hd.2 he.2 r2 q2]
end
def d8:∀(ds es:List D),(ds.length=es.length)->((List.range ds.length).all fun j=>decide (ds[j]?=es[j]?))=decide (ds=es):=by
 intro ds es hl;rw[YL,ZM,Y8];constructor
 .intro h
  apply Xh;intro j
  by_cases hj:j<ds.length
  .exact Zc (h j (Yx.mpr hj))
  .rw[YS (by lia),YS (by lia)]
 .intro h j _
  subst h;exact Zm rfl
def hJ:∀(ds es:List D),(((List.range (min ds.length es.length)).all fun j=>decide (ds[j]?=es[j]?))&&ds.length==es.length)=decide (ds=es):=by
 intro ds es
 by_cases hl:ds.length=es.length
 .rw[hl,Nat.min_self,Yh,Xv,<-hl,d8 ds es hl]
 .have h1:(ds.length==es.length)=false:=by simpa using hl
  have h2:¬ds=es:=fun z=>hl (by rw[z])
  rw[h1,WL,ZN h2]
open SeqAt in
def zm(I:Inv X a_ σ H s):∀(n:Nat)(d e:D)(x y:V)(u w:Z7)(A:Zu),okD n d=true->okD n e=true->A.units+n+1<cLine->Rep X.K B H d x->Rep X.K B' H e y->RelV x u->RelV y w->
  RcAt A s u w (decide (d=e))/\EqAt A s u w (decide (d=e))/\RcNeAt A s u w (!decide (d=e)):=by
 intro n
 induction n using Nat.strongRecOn with
 |ind n ih=>
 intro d e x y u w A hd he hA rd re rx ry;have hu:A.units<cLine:=by lia
 cases d with
 |bl _=>simp[okD]at hd
 |dT _ _=>simp[okD]at hd
 |dK _ _=>simp[okD]at hd
 |dD _ _=>simp[okD]at hd
 |sp _ _=>simp[okD]at hd
 |non=>
  simp only[Rep]at rd;subst rd;cases rx;cases e with
  |bl _=>simp[okD]at he
  |dT _ _=>simp[okD]at he
  |dK _ _=>simp[okD]at he
  |dD _ _=>simp[okD]at he
  |sp _ _=>simp[okD]at he
  |non=>simp only[Rep]at re;subst re;cases ry;rw[Zm rfl];exact⟨RcAt.none_none,EqAt.same _,RcNeAt.none_none⟩
  |int j=>simp only[Rep]at re;subst re;obtain⟨t,rfl⟩:=ry;rw[ZN nofun];exact⟨RcAt.none_int j t,EqAt.none_int j t,RcNeAt.none_int j t⟩
  |str j=>simp only[Rep]at re;subst re;obtain⟨t,rfl⟩:=ry;rw[ZN nofun];exact⟨RcAt.none_str j t,EqAt.none_str j t,RcNeAt.none_str j t⟩
  |tup es=>
   simp only[Rep]at re;obtain⟨b,ys,rfl,hq,hr⟩:=re;cases ry;obtain⟨its,rv,ht,_⟩:=I.tuple (SqT.of hq);rw[ZN nofun];exact⟨RcAt.none_tuple ht hu,EqAt.none_tuple ht hu,RcNeAt.none_tuple ht hu⟩
  |lst es=>
   simp only[Rep]at re;obtain⟨b,ys,rfl,hq,hr⟩:=re;cases ry;obtain⟨its,rv,ht,_⟩:=I.list hq.sq;rw[ZN nofun];exact⟨RcAt.none_list ht.isList hu,EqAt.none_list ht.isList hu,RcNeAt.none_list ht.isList hu⟩
 |int i=>
  simp only[Rep]at rd;subst rd;obtain⟨t',rfl⟩:=rx;cases e with
  |bl _=>simp[okD]at he
  |dT _ _=>simp[okD]at he
  |dK _ _=>simp[okD]at he
  |dD _ _=>simp[okD]at he
  |sp _ _=>simp[okD]at he
  |non=>simp only[Rep]at re;subst re;cases ry;rw[ZN nofun];exact⟨RcAt.int_none i t',EqAt.int_none i t',RcNeAt.int_none i t'⟩
  |int j=>
   simp only[Rep]at re;subst re;obtain⟨t,rfl⟩:=ry;have q:decide (D.int i=D.int j)=(i==j):=by rw[YL,Y8,Zx,D.int.injEq]
   rw[q];exact⟨RcAt.int_int i t' j t,EqAt.int_int i t' j t,RcNeAt.int_int i t' j t⟩
  |str j=>simp only[Rep]at re;subst re;obtain⟨t,rfl⟩:=ry;rw[ZN nofun];exact⟨RcAt.int_str i t' j t,EqAt.int_str i t' j t,RcNeAt.int_str i t' j t⟩
  |tup es=>
   simp only[Rep]at re;obtain⟨b,ys,rfl,hq,hr⟩:=re;cases ry;obtain⟨its,rv,ht,_⟩:=I.tuple (SqT.of hq);rw[ZN nofun];exact⟨RcAt.int_tuple i t' ht hu,EqAt.int_tuple i t' ht hu,RcNeAt.int_tuple i t' ht hu⟩
  |lst es=>
   simp only[Rep]at re;obtain⟨b,ys,rfl,hq,hr⟩:=re;cases ry;obtain⟨its,rv,ht,_⟩:=I.list hq.sq;rw[ZN nofun];exact⟨RcAt.int_list i t' ht.isList hu,EqAt.int_list i t' ht.isList hu,RcNeAt.int_list i t' ht.isList hu⟩
 |str i=>
  simp only[Rep]at rd;subst rd;obtain⟨t',rfl⟩:=rx;cases e with
  |bl _=>simp[okD]at he
  |dT _ _=>simp[okD]at he
  |dK _ _=>simp[okD]at he
  |dD _ _=>simp[okD]at he
  |sp _ _=>simp[okD]at he
  |non=>simp only[Rep]at re;subst re;cases ry;rw[ZN nofun];exact⟨RcAt.str_none i t',EqAt.str_none i t',RcNeAt.str_none i t'⟩
  |int j=>simp only[Rep]at re;subst re;obtain⟨t,rfl⟩:=ry;rw[ZN nofun];exact⟨RcAt.str_int i t' j t,EqAt.str_int i t' j t,RcNeAt.str_int i t' j t⟩
  |str j=>
   simp only[Rep]at re;subst re;obtain⟨t,rfl⟩:=ry;have q:decide (D.str i=D.str j)=(i==j):=by rw[YL,Y8,Zx,D.str.injEq]
   rw[q];exact⟨RcAt.str_str i t' j t,EqAt.str_str i t' j t,RcNeAt.str_str i t' j t⟩
  |tup es=>
   simp only[Rep]at re;obtain⟨b,ys,rfl,hq,hr⟩:=re;cases ry;obtain⟨its,rv,ht,_⟩:=I.tuple (SqT.of hq);rw[ZN nofun];exact⟨RcAt.str_tuple i t' ht hu,EqAt.str_tuple i t' ht hu,RcNeAt.str_tuple i t' ht hu⟩
  |lst es=>
   simp only[Rep]at re;obtain⟨b,ys,rfl,hq,hr⟩:=re;cases ry;obtain⟨its,rv,ht,_⟩:=I.list hq.sq;rw[ZN nofun];exact⟨RcAt.str_list i t' ht.isList hu,EqAt.str_list i t' ht.isList hu,RcNeAt.str_list i t' ht.isList hu⟩
 |tup ds=>
  simp only[Rep]at rd;obtain⟨a,xs,rfl,hp,hr⟩:=rd;cases rx;obtain⟨its,rv,B_,_⟩:=I.tuple (SqT.of hp);obtain⟨k,rfl,C_⟩:=iR hd;cases e with
  |bl _=>simp[okD]at he
  |dT _ _=>simp[okD]at he
  |dK _ _=>simp[okD]at he
  |dD _ _=>simp[okD]at he
  |sp _ _=>simp[okD]at he
  |non=>simp only[Rep]at re;subst re;cases ry;rw[ZN nofun];exact⟨RcAt.tuple_none B_ hu,EqAt.tuple_none B_ hu,RcNeAt.tuple_none B_ hu⟩
  |int j=>simp only[Rep]at re;subst re;obtain⟨t,rfl⟩:=ry;rw[ZN nofun];exact⟨RcAt.tuple_int j t B_ hu,EqAt.tuple_int j t B_ hu,RcNeAt.tuple_int j t B_ hu⟩
  |str j=>simp only[Rep]at re;subst re;obtain⟨t,rfl⟩:=ry;rw[ZN nofun];exact⟨RcAt.tuple_str j t B_ hu,EqAt.tuple_str j t B_ hu,RcNeAt.tuple_str j t B_ hu⟩
  |lst es=>
   simp only[Rep]at re;obtain⟨b,ys,rfl,hq,hr⟩:=re;cases ry;obtain⟨its,rv,ht,_⟩:=I.list hq.sq;rw[ZN nofun];exact⟨RcAt.tuple_list B_ ht.isList hu,EqAt.tuple_list B_ ht.isList hu,RcNeAt.tuple_list B_ ht.isList hu⟩
  |tup es=>
   simp only[Rep]at re;obtain⟨b,ys,rfl,hq,GV⟩:=re;cases ry;obtain⟨l_,JZ,Gi,_⟩:=I.tuple (SqT.of hq);obtain⟨k',e',Ic⟩:=iR he;cases e';have l1:=hr.length;have l2:=rv.length;have l3:=GV.length;have l4:=JZ.length;have el:∀j (h1:j<its.toArray.size) (h2:j<l_.toArray.size),EqAt A.in1 s its.toArray[j] l_.toArray[j] (decide (ds[j]?=es[j]?)):=fun j h1 h2=>by
    simp only[ZQ]at h1 h2;obtain⟨d',FN⟩:∃d',ds[j]?=some d':=⟨ds[j]'(by lia),by simp⟩
    obtain⟨e',G6⟩:∃e',es[j]?=some e':=⟨es[j]'(by lia),by simp⟩
    obtain⟨x',Mh,LY⟩:=hr.get FN;obtain⟨y',Mg,LX⟩:=GV.get G6;obtain⟨u',Gy,J5⟩:=rv.get Mh;obtain⟨w',Ke,A_⟩:=JZ.get Mg;have q:=(ih k (Yg k) d' e' x' y' u' w' A.in1 ((ZM.mp C_) d' (Zj FN)) ((ZM.mp Ic) e' (Zj G6)) (by show A.units+1+k+1<cLine;lia) LY LX J5 A_).2.1
    have g1:its.toArray[j]=u':=by
     have:=ZW.mp Gy
     simpa using this.2
    have g2:l_.toArray[j]=w':=by
     have:=ZW.mp Ke
     simpa using this.2
    rw[g1,g2,FN,G6];have q2:decide (some d'=some e')=decide (d'=e'):=by simp
    rw[q2];exact q
   have key:((List.range (min its.toArray.size l_.toArray.size)).all (fun j=>decide (ds[j]?=es[j]?))&&its.toArray.size==l_.toArray.size)=decide (D.tup ds=D.tup es):=by
    rw[ZQ,ZQ,<-l2,<-l4,<-l1,<-l3,hJ];simp only[D.tup.injEq]
   have rc:=RcAt.tuples B_ Gi hu el;have rn:=RcNeAt.tuples B_ Gi hu el;rw[key]at rc rn;refine⟨rc,?_,rn⟩
   by_cases HK:a=b
   .subst HK
    obtain rfl:=I.tuple_inj (SqT.of hp) (SqT.of hq);have:=Reps.inj I C_ Ic hr GV;subst this;rw[Zm rfl];exact EqAt.same _
   .exact EqAt.of_refs HK rc
 |lst ds=>
  simp only[Rep]at rd;obtain⟨a,xs,rfl,hp,hr⟩:=rd;cases rx;obtain⟨its,rv,B_,_⟩:=I.list hp.sq;obtain⟨k,rfl,C_⟩:=iJ hd;cases e with
  |bl _=>simp[okD]at he
  |dT _ _=>simp[okD]at he
  |dK _ _=>simp[okD]at he
  |dD _ _=>simp[okD]at he
  |sp _ _=>simp[okD]at he
  |non=>simp only[Rep]at re;subst re;cases ry;rw[ZN nofun];exact⟨RcAt.list_none B_.isList hu,EqAt.list_none B_.isList hu,RcNeAt.list_none B_.isList hu⟩
  |int j=>simp only[Rep]at re;subst re;obtain⟨t,rfl⟩:=ry;rw[ZN nofun];exact⟨RcAt.list_int j t B_.isList hu,EqAt.list_int j t B_.isList hu,RcNeAt.list_int j t B_.isList hu⟩
  |str j=>simp only[Rep]at re;subst re;obtain⟨t,rfl⟩:=ry;rw[ZN nofun];exact⟨RcAt.list_str j t B_.isList hu,EqAt.list_str j t B_.isList hu,RcNeAt.list_str j t B_.isList hu⟩
  |tup es=>
   simp only[Rep]at re;obtain⟨b,ys,rfl,hq,hr⟩:=re;cases ry;obtain⟨its,rv,ht,_⟩:=I.tuple (SqT.of hq);rw[ZN nofun];exact⟨RcAt.list_tuple B_.isList ht hu,EqAt.list_tuple B_.isList ht hu,RcNeAt.list_tuple B_.isList ht hu⟩
  |lst es=>
   simp only[Rep]at re;obtain⟨b,ys,rfl,hq,GV⟩:=re;cases ry;obtain⟨l_,JZ,Gi,_⟩:=I.list hq.sq;obtain⟨k',e',Ic⟩:=iJ he;cases e';have l1:=hr.length;have l2:=rv.length;have l3:=GV.length;have l4:=JZ.length;have el:∀j (h1:j<its.toArray.size) (h2:j<l_.toArray.size),EqAt A.in1 s its.toArray[j] l_.toArray[j] (decide (ds[j]?=es[j]?)):=fun j h1 h2=>by
    simp only[ZQ]at h1 h2;obtain⟨d',FN⟩:∃d',ds[j]?=some d':=⟨ds[j]'(by lia),by simp⟩
    obtain⟨e',G6⟩:∃e',es[j]?=some e':=⟨es[j]'(by lia),by simp⟩
    obtain⟨x',Mh,LY⟩:=hr.get FN;obtain⟨y',Mg,LX⟩:=GV.get G6;obtain⟨u',Gy,J5⟩:=rv.get Mh;obtain⟨w',Ke,A_⟩:=JZ.get Mg;have q:=(ih k (Yg k) d' e' x' y' u' w' A.in1 ((ZM.mp C_) d' (Zj FN)) ((ZM.mp Ic) e' (Zj G6)) (by show A.units+1+k+1<cLine;lia) LY LX J5 A_).2.1
    have g1:its.toArray[j]=u':=by
     have:=ZW.mp Gy
     simpa using this.2
    have g2:l_.toArray[j]=w':=by
     have:=ZW.mp Ke
     simpa using this.2
    rw[g1,g2,FN,G6];have q2:decide (some d'=some e')=decide (d'=e'):=by simp
    rw[q2];exact q
   by_cases hsz:its.toArray.size=l_.toArray.size
   .have key:((List.range its.toArray.size).all (fun j=>decide (ds[j]?=es[j]?)))=decide (D.lst ds=D.lst es):=by
     have hl:ds.length=es.length:=by simp only[ZQ]at hsz;lia
     rw[ZQ,<-l2,<-l1,d8 _ _ hl];simp only[D.lst.injEq]
    have rc:=RcAt.lists B_.isList Gi.isList hsz hu el;have rn:=RcNeAt.lists B_.isList Gi.isList hsz hu el;rw[key]at rc rn;refine⟨rc,?_,rn⟩
    by_cases HK:a=b
    .subst HK
     obtain rfl:=I.list_inj hp.sq hq.sq;have:=Reps.inj I C_ Ic hr GV;subst this;rw[Zm rfl];exact EqAt.same _
    .exact EqAt.of_refs HK rc
   .have Fc:¬D.lst ds=D.lst es:=fun z=>hsz (by
     cases z;simp only[ZQ];lia)
    have hb:(its.toArray.size != l_.toArray.size)=true:=by simpa using hsz
    rw[ZN Fc];have rc:=RcAt.lists_lengths B_.isList Gi.isList hb hu;refine⟨rc,?_,RcNeAt.lists_lengths B_.isList Gi.isList hb hu⟩
    have HK:a≠b:=fun z=>by
     subst z;obtain rfl:=I.list_inj hp.sq hq.sq;exact hsz (by simp only[ZQ];lia)
    exact EqAt.of_refs HK rc
end
section
variable{X:Cx}{m m' mm:Bool}{a b:Expr}{fa fb:DEnv->Z_ D}{pos:Pos}
def ok2(x y:D):Bool:=okD 16 x&&okD 16 y
def eqO(x y:Z_ D):Z_ Bool:=match x,y with|some d,some e=>if ok2 d e=true then some (decide (d=e)) else none|_,_=>none
def eE{x y:Z_ D}{c:Bool}(h:eqO x y=some c):∃d e,x=some d/\y=some e/\okD 16 d=true/\okD 16 e=true/\c=decide (d=e):=by
 unfold eqO at h;split at h
 .rename_i d e
  by_cases q:ok2 d e=true
  .rw[Z0 q]at h
   obtain rfl:=Z9 h;unfold ok2 at q;rw[ZH]at q;exact⟨d,e,rfl,rfl,q.1,q.2,rfl⟩
  .rw[ZY q]at h;trivial
 .trivial
def neO(x y:Z_ D):Z_ Bool:=iy (eqO x y)
def rD(K:Z5)(g:D->D->Bool):R2:=fun x y H Q=>∃B B' d e,okD 16 d=true/\okD 16 e=true/\Rep K B H d x/\Rep K B' H e y/\Q (.bl (g d e)) H
def wy(hu:X.A.units+64<cLine):OpR X (compareOp .Eq) (rD X.K fun d e=>decide (d=e)):=by
 intro a_ s σ H x y v u Q I rx ry h;obtain⟨B,B',d,e,hd,he,r1,r2,q⟩:=h;exact(zm I 16 d e x y v u X.A hd he (by lia) r1 r2 rx ry).1 X.prog X.w X.xe _ ⟨.bl _,H,I,rfl,q⟩
def vS(hu:X.A.units+64<cLine):OpR X (compareOp .NotEq) (rD X.K fun d e=>!decide (d=e)):=by
 intro a_ s σ H x y v u Q I rx ry h;obtain⟨B,B',d,e,hd,he,r1,r2,q⟩:=h;exact(zm I 16 d e x y v u X.A hd he (by lia) r1 r2 rx ry).2.2 X.prog X.w X.xe _ ⟨.bl _,H,I,rfl,q⟩
theorem BI(hu:X.A.units+64<cLine)(ha:DE X m a fa)(hb:DE X m' b fb):DE X mm (.Compare a [.Eq] [b] pos) (fun δ=>ofB (eqO (fa δ) (fb δ))):=
 (rW (wy hu) ha hb (q5 _)).imp fun σ H Q hz=>by
  obtain⟨B,Hk,δ,d,R,e,k⟩:=hz;cases q:eqO (fa δ) (fb δ)with
  |none=>simp only[q,ofB]at e;trivial
  |some c=>
   simp only[q,ofB]at e;obtain rfl:=Z9 e;obtain⟨d1,d2,e1,e2,o1,o2,rfl⟩:=eE q;exact two R e1 e2 fun v u H' s R' r1 r2=>⟨_,_,d1,d2,o1,o2,r1,r2,k _ H' s (by simp only[Rep])⟩
theorem BG(hu:X.A.units+64<cLine)(ha:DE X m a fa)(hb:DE X m' b fb):DT X (.Compare a [.Eq] [b] pos) (fun δ=>eqO (fa δ) (fb δ)):=
 (dR (wy hu) ha hb (q5 _)).imp fun σ H Q hz=>by
  obtain⟨B,Hk,δ,d,R,q,k⟩:=hz;obtain⟨d1,d2,e1,e2,o1,o2,rfl⟩:=eE q;exact two R e1 e2 fun v u H' s R' r1 r2=>⟨_,_,d1,d2,o1,o2,r1,r2,_,rfl,k H' s⟩
theorem B3(hu:X.A.units+64<cLine)(ha:DE X m a fa)(hb:DE X m' b fb):DT X (.Compare a [.NotEq] [b] pos) (fun δ=>neO (fa δ) (fb δ)):=
 (dR (vS hu) ha hb (q5 _)).imp fun σ H Q hz=>by
  obtain⟨B,Hk,δ,d,R,e,k⟩:=hz;cases q:eqO (fa δ) (fb δ)with
  |none=>simp only[q,neO,iy]at e;trivial
  |some c=>
   simp only[q,neO,iy]at e;obtain rfl:=Z9 e;obtain⟨d1,d2,e1,e2,o1,o2,rfl⟩:=eE q;exact two R e1 e2 fun v u H' s R' r1 r2=>⟨_,_,d1,d2,o1,o2,r1,r2,_,rfl,k H' s⟩
def aP:D->Z_ (List D)
 |.lst ds=>some ds
 |.tup ds=>some ds
 |_=>none
noncomputable def inO(x y:Z_ D):Z_ Bool:=match x,y with|some d,some e=>(match aP e with|some es=>if(okD 16 d&&es.all (okD 16))=true then some (decide (d∈es)) else none|none=>none)|_,_=>none
def ii{x y:Z_ D}{c:Bool}(h:inO x y=some c):∃d e es,x=some d/\y=some e/\aP e=some es/\okD 16 d=true/\es.all (okD 16)=true/\c=decide (d∈es):=by
 unfold inO at h;split at h
 .rename_i d e
  split at h
  .rename_i es he
   by_cases q:(okD 16 d&&es.all (okD 16))=true
   .rw[Z0 q]at h
    obtain rfl:=Z9 h;rw[ZH]at q;exact⟨d,e,es,rfl,rfl,he,q.1,q.2,rfl⟩
   .rw[ZY q]at h;trivial
  .trivial
 .trivial
def bZ(x y:Z_ D):Z_ Bool:=iy (inO x y)
def Rep.items{K:Z5}{B:Z2->Prop}{H:Hp}{e:D}{es:List D}{y:V}(r:Rep K B H e y)(h:aP e=some es):∃p xs,y=.ref p/\(SqL K H p xs\/SqT K H p xs)/\Reps K B H es xs:=by
 cases e with
 |lst ds=>simp only[aP]at h;obtain rfl:=Z9 h;simp only[Rep]at r;obtain⟨a,xs,e,hq,hr⟩:=r;exact⟨a,xs,e,.inl hq.sq,hr⟩
 |tup ds=>simp only[aP]at h;obtain rfl:=Z9 h;simp only[Rep]at r;obtain⟨a,xs,e,hq,hr⟩:=r;exact⟨a,xs,e,.inr (SqT.of hq),hr⟩
 |_=>simp[aP]at h
open Classical in
def uJ{a_:List (Z2×Obj)}{σ:St}{H:Hp}{s:Z4}{B B':Z2->Prop}{d:D}{es:List D}{x:V}{v:Z7}{xs:List V}{its:List Z7}(hu:X.A.units+64<cLine)(I:Inv X a_ σ H s)(hd:okD 16 d=true)(he:es.all (okD 16)=true)
  (r1:Rep X.K B H d x)(r2:Reps X.K B' H es xs)(rx:RelV x v)(rv:Vals xs its):∃e:Z7->Bool,(∀y,y∈its.toArray->SeqAt.EqAt X.A.in1 s y v (e y))/\its.toArray.any e=decide (d∈es):=by
 have one:∀j u,its[j]?=some u->∃d' x',es[j]?=some d'/\okD 16 d'=true/\Rep X.K B' H d' x'/\RelV x' u:=fun j u hj=>by
  have hl:=rv.length;have ka:j<xs.length:=by rw[hl];exact(ZW.mp hj).1
  obtain⟨u',FC,ru⟩:=rv.get (i:=j) (x:=xs[j]) (by simp[ka])
  rw[hj]at FC;obtain rfl:=Z9 FC;obtain⟨d',C_,FI⟩:=r2.get' (i:=j) (x:=xs[j]) (by simp[ka])
  exact⟨d',xs[j],C_,(ZM.mp he) d' (Zj C_),FI,ru⟩
 refine⟨fun u=>decide (∃d' x',okD 16 d'=true/\Rep X.K B' H d' x'/\RelV x' u/\d'=d),fun u FC=>?_,?_⟩
 .obtain⟨j,hj⟩:=Yl (show u∈its by simpa using FC)
  obtain⟨d',x',_,o',FI,ru⟩:=one j u hj;have q:=(zm I 16 d' d x' x u v X.A.in1 o' hd (by show X.A.units+1+16+1<cLine;lia) FI r1 ru rx).2.1
  have key:decide (∃d' x',okD 16 d'=true/\Rep X.K B' H d' x'/\RelV x' u/\d'=d)=decide (d'=d):=by
   rw[YL,Y8,Y8];constructor
   .rintro⟨d2,x2,o2,J7,J4,e2⟩
    rw[<-e2];have ex:=ru.inj J4;subst ex;exact Rep.inj I o' o2 FI J7
   .intro e2
    exact⟨d',x',o',FI,ru,e2⟩
  show SeqAt.EqAt X.A.in1 s u v (decide (∃d' x',okD 16 d'=true/\Rep X.K B' H d' x'/\RelV x' u/\d'=d));rw[key];exact q
 .rw[YL,Y8,Array.any_eq_true]
  constructor
  .rintro⟨j,hj,h⟩
   have h':=Zc h;obtain⟨d2,x2,o2,J7,J4,e2⟩:=h';have Km:its[j]?=some its.toArray[j]:=by
    simp only[ZQ]at hj;simp[hj]
   obtain⟨d',x',C_,o',FI,ru⟩:=one j _ Km;have ex:=ru.inj J4;subst ex;have:=Rep.inj I o' o2 FI J7;subst this;rw[<-e2];exact Zj C_
  .intro h
   obtain⟨j,hj⟩:=Yl h
   obtain⟨y,hy,ry⟩:=r2.get hj;obtain⟨u,FC,ru⟩:=rv.get hy;obtain⟨ka,ge⟩:=ZW.mp FC
   refine⟨j,by simpa using ka,Zm ⟨d,y,hd,ry,?_,rfl⟩⟩
   simpa[ge]using ru
noncomputable def Dl(K:Z5)(neg:Bool):R2:=fun x y H Q=>∃B B' d e es,aP e=some es/\okD 16 d=true/\es.all (okD 16)=true/\Rep K B H d x/\Rep K B' H e y/\Q (.bl (if neg then !decide (d∈es) else decide (d∈es))) H
def v6(hu:X.A.units+64<cLine):OpR X (compareOp .In) (Dl X.K false):=by
 intro a_ s σ H x y v u Q I rx ry h;obtain⟨B,B',d,e,es,hi,hd,he,r1,r2,q⟩:=h;obtain⟨p,xs,rfl,hq,rs⟩:=r2.items hi;cases ry
 rcases hq with hq|hq
 .obtain⟨its,r,pl,hz⟩:=I.list hq
  obtain⟨g,g1,g2⟩:=uJ hu I hd he r1 rs rx r;exact SeqAt.in_listAt g pl.isList g1 ⟨.bl _,H,I,rfl,by rw[g2];exact q⟩
 .obtain⟨its,r,pl,hz⟩:=I.tuple hq
  obtain⟨g,g1,g2⟩:=uJ hu I hd he r1 rs rx r;exact SeqAt.in_tupleAt g pl g1 ⟨.bl _,H,I,rfl,by rw[g2];exact q⟩
def sT(hu:X.A.units+64<cLine):OpR X (compareOp .NotIn) (Dl X.K true):=by
 intro a_ s σ H x y v u Q I rx ry h;obtain⟨B,B',d,e,es,hi,hd,he,r1,r2,q⟩:=h;obtain⟨p,xs,rfl,hq,rs⟩:=r2.items hi;cases ry
 rcases hq with hq|hq
 .obtain⟨its,r,pl,hz⟩:=I.list hq
  obtain⟨g,g1,g2⟩:=uJ hu I hd he r1 rs rx r;exact SeqAt.notIn_listAt g pl.isList g1 ⟨.bl _,H,I,rfl,by rw[g2];exact q⟩
 .obtain⟨its,r,pl,hz⟩:=I.tuple hq
  obtain⟨g,g1,g2⟩:=uJ hu I hd he r1 rs rx r;exact SeqAt.notIn_tupleAt g pl g1 ⟨.bl _,H,I,rfl,by rw[g2];exact q⟩
theorem CJ(hu:X.A.units+64<cLine)(ha:DE X m a fa)(hb:DE X m' b fb)(hm:behindInMarks .In b=false:=by rfl):DT X (.Compare a [.In] [b] pos) (fun δ=>inO (fa δ) (fb δ)):=
 (dR (v6 hu) ha hb hm).imp fun σ H Q hz=>by
  obtain⟨B,Hk,δ,d,R,q,k⟩:=hz;obtain⟨d1,d2,es,e1,e2,hi,o1,o2,rfl⟩:=ii q;exact two R e1 e2 fun v u H' s R' r1 r2=>⟨_,_,d1,d2,es,hi,o1,o2,r1,r2,_,rfl,k H' s⟩
theorem uh(hu:X.A.units+64<cLine)(ha:DE X m a fa)(hb:DE X m' b fb)(hm:behindInMarks .NotIn b=false:=by rfl):DT X (.Compare a [.NotIn] [b] pos) (fun δ=>bZ (fa δ) (fb δ)):=
 (dR (sT hu) ha hb hm).imp fun σ H Q hz=>by
  obtain⟨B,Hk,δ,d,R,e,k⟩:=hz;cases q:inO (fa δ) (fb δ)with
  |none=>simp only[q,bZ,iy]at e;trivial
  |some c=>
   simp only[q,bZ,iy]at e;obtain rfl:=Z9 e;obtain⟨d1,d2,es,e1,e2,hi,o1,o2,rfl⟩:=ii q;exact two R e1 e2 fun v u H' s R' r1 r2=>⟨_,_,d1,d2,es,hi,o1,o2,r1,r2,_,rfl,k H' s⟩
theorem BK(hu:X.A.units+64<cLine)(ha:DE X m a fa)(hb:DE X m' b fb)(hm:behindInMarks .In b=false:=by rfl):DE X mm (.Compare a [.In] [b] pos) (fun δ=>ofB (inO (fa δ) (fb δ))):=
 (rW (v6 hu) ha hb hm).imp fun σ H Q hz=>by
  obtain⟨B,Hk,δ,d,R,e,k⟩:=hz;cases q:inO (fa δ) (fb δ)with
  |none=>simp only[q,ofB]at e;trivial
  |some c=>
   simp only[q,ofB]at e;obtain rfl:=Z9 e;obtain⟨d1,d2,es,e1,e2,hi,o1,o2,rfl⟩:=ii q;exact two R e1 e2 fun v u H' s R' r1 r2=>⟨_,_,d1,d2,es,hi,o1,o2,r1,r2,k _ H' s (by simp only[Rep];rfl)⟩
end
section
variable{X:Cx}{m m' mm:Bool}{a b:Expr}{fa fb:DEnv->Z_ D}{pos:Pos}
def ixO(x y:Z_ D):Z_ D:=match x,y with|some d,some (.int i)=>(match aP d with|some ds=>atI ds i|none=>none)|_,_=>none
def tS{x y:Z_ D}{d:D}(h:ixO x y=some d):∃e i es,x=some e/\y=some (.int i)/\aP e=some es/\atI es i=some d:=by
 unfold ixO at h;split at h
 .rename_i e i
  split at h
  .rename_i es he;exact⟨e,i,es,rfl,rfl,he,h⟩
  .trivial
 .trivial
theorem Reps.atI{K:Z5}{B:Z2->Prop}{H:Hp}{ds:List D}{xs:List V}{i:Int}{d:D}(r:Reps K B H ds xs)(h:atI ds i=some d):∃x,atI xs i=some x/\Rep K B H d x:=by
 unfold L2.atI at h⊢;rw[r.length]at h;cases q:ixN xs.length i with
 |none=>rw[q]at h;trivial
 |some j=>
  rw[q]at h;exact r.get (i:=j) h
def vH{K:Z5}{B:Z2->Prop}{H:Hp}{e:D}{es:List D}{y:V}{i:Int}{d:D}{Q:VK}(r:Rep K B H e y)(h:aP e=some es)(hi:atI es i=some d)(k:∀v,Rep K B H d v->Q v H):rIx K y (.int i) H Q:=by
 obtain⟨p,xs,rfl,hq,rs⟩:=r.items h;obtain⟨x,hx,rx⟩:=rs.atI hi
 rcases hq with hq|hq
 .exact .inl ⟨p,xs,i,x,rfl,rfl,hq,hx,k x rx⟩
 .exact .inr (.inl ⟨p,xs,i,x,rfl,rfl,hq,hx,k x rx⟩)
theorem uo(ha:DE X m a fa)(hb:DE X m' b fb)(hs:eN b:=by exact fun _ _=>rfl):DE X m (.Subscript a b pos) (fun δ=>ixO (fa δ) (fb δ)):=
 (u0 A4 ha hb hs).imp fun σ H Q hz=>by
  obtain⟨B,Hk,δ,d,R,e,k⟩:=hz;obtain⟨d1,i,es,e1,e2,hi,hd⟩:=tS e;refine two R e1 e2 fun v u H' s R' r1 r2=>?_
  simp only[Rep]at r2;subst r2;exact vH r1 hi hd fun v rv=>k v H' s rv
noncomputable def tu(x y:Z_ D):Z_ D:=match x,y with|some (.str z),some (.int i)=>if z.length<=lim then(match atI z.cps.toList i with|some c=>some (.str ⟨#[c]⟩)|none=>none) else none|_,_=>none
def sE{x y:Z_ D}{d:D}(h:tu x y=some d):∃z i c,x=some (.str z)/\y=some (.int i)/\z.length<=lim/\atI z.cps.toList i=some c/\d=.str ⟨#[c]⟩:=by
 unfold tu at h;split at h
 .rename_i z i
  by_cases q:z.length<=lim
  .rw[Z0 q]at h
   split at h
   .rename_i c hc;cases h;exact⟨z,i,c,rfl,rfl,q,hc,rfl⟩
   .trivial
  .rw[ZY q]at h;trivial
 .trivial
theorem AK(ha:DE X m a fa)(hb:DE X m' b fb)(hs:eN b:=by exact fun _ _=>rfl):DE X mm (.Subscript a b pos) (fun δ=>tu (fa δ) (fb δ)):=
 (u0 wI ha hb hs).imp fun σ H Q hz=>by
  obtain⟨B,Hk,δ,d,R,e,k⟩:=hz;obtain⟨z,i,c,e1,e2,hl,hc,rfl⟩:=sE e;refine two R e1 e2 fun v u H' s R' r1 r2=>?_
  simp only[Rep]at r1 r2;subst r1 r2;exact⟨z,i,c,rfl,rfl,aH hl,hc,k _ H' s (by simp only[Rep])⟩
noncomputable def Br(x:Z_ D):Z_ D:=match x with|some d=>(match aP d with|some ds=>some (.int ds.length)|none=>(match d with|.str z=>if z.length<=lim then some (.int z.length) else none|_=>none))|none=>none
def iM(x:Z_ D):Z_ D:=match x with|some d=>(match aP d with|some ds=>some (.int ds.length)|none=>none)|none=>none
def sd{x:Z_ D}{d:D}(h:iM x=some d):∃e es,x=some e/\aP e=some es/\d=.int es.length:=by
 unfold iM at h;split at h
 .rename_i e
  split at h
  .rename_i es he;cases h;exact⟨e,es,rfl,he,rfl⟩
  .trivial
 .trivial
def oX{K:Z5}{σ:St}{H:Hp}{B:Z2->Prop}{Hk:Hp}{δ:DEnv}{d:D}{P:List V->Hp->Prop}(R:Rel K B Hk δ σ H)(e:fa δ=some d)
  (k:∀v H',Same H H'->Rel K B Hk δ σ H'->Rep K (ba m B δ σ) H' d v->P [v] H'):n5 (tM K m fa) tNil σ H P:=
 ⟨B,Hk,δ,d,R,e,fun v H1 s1 r1=>k v H1 s1 (R.to s1) r1⟩
def Ao(g:Gl X "len")(hm:X.mg "len"=none){p:Pos}(ha:DE X m a fa)(hs:starEach [a] X.env=[(false,eval a X.env)]:=by rfl)(FN:((Str.ofString "len")==("__debug__":Str))=false:=by decide):DE X mm (.Call (.Name "len" p) [a] [] pos) (fun δ=>iM (fa δ)):=
 (cH jc g hm PySem.boot_len (aw ha aO hs) (he:=hs)).imp fun σ H Q hz=>by
  obtain⟨B,Hk,δ,d,R,e,k⟩:=hz;obtain⟨d1,es,e1,hi,rfl⟩:=sd e;refine oX R e1 fun v H' s R' r=>?_
  obtain⟨p,xs,rfl,hq,rs⟩:=r.items hi;exact⟨p,xs,rfl,hq,k _ H' s (by simp only[Rep,rs.length])⟩
theorem Inv.frz{a_:List (Z2×Obj)}{σ:St}{H:Hp}{s:Z4}{p:Z2}{u:HO}(I:Inv X a_ σ H s)(h:H p=some u)(mu:Mut (some u)):∃o,Inv X a_ σ (upd H p (.frz o u)) s:=by
 have H_:=I.hok p u h;have ka:=H_.lt;have N0:Mut (H p):=by rw[h];exact mu
 have Iu:∃o,s.heap.get? p=some o:=by
  cases u with
  |lst xs=>obtain⟨_,_,_,_,e⟩:=H_;exact⟨_,e⟩
  |tup xs=>exact mu.elim
  |dK b_=>obtain⟨_,_,_,_,o,_,_,e,_⟩:=H_;exact⟨_,e⟩
  |dD b_ ep=>obtain⟨_,_,_,_,o,_,e,_⟩:=H_;exact⟨_,e⟩
  |dT b_=>obtain⟨_,_,_,_,o,_,_,e,_⟩:=H_;exact⟨_,e⟩
  |set S n=>obtain⟨o,_,_,_,e,_⟩:=H_;exact⟨_,e⟩
  |ins C dx fs=>obtain⟨_,_,_,e,_⟩:=H_;exact⟨_,e⟩
  |own y=>exact mu.elim
  |xd fs=>exact mu.elim
  |rng lo hi=>exact mu.elim
  |frz ob u=>exact mu.elim
  |tbl lq ps=>exact mu.elim
  |met f y=>exact mu.elim
  |ext φ=>obtain⟨_,⟨_,e⟩,_⟩:=H_;exact⟨_,e⟩
 obtain⟨o,ho⟩:=Iu;refine⟨o,?_⟩
 have GI:∀c y,H c=some (.own y)->c≠p:=fun c y r z=>by subst z;rw[h]at r;cases r;exact mu
 have IZ:∀c xs,H c=some (.tup xs)->c≠p:=fun c xs r z=>by subst z;rw[h]at r;cases r;exact mu
 have new:ObjOk X.prog X.w (upd H p (.frz o u)) s.heap p (.frz o u):=⟨ho,H_.stay (fun b v _ q=>q) (fun b q=>by rw[ai (GI b p q)];exact q) fun b xs q=>by rw[ai (IZ b xs q)];exact q⟩
 exact I.un (t':=s.toks) (Un.write N0 (.inl rfl) (fun b v _ q=>q) ⟨o,ho⟩) (I.hok.write N0 (.inl rfl) (fun b v _ q=>q) ⟨o,ho⟩ new)
def ObR.mut{K:Z5}{B:Z2->Prop}{H:Hp}{d:D}{p:Z2}(h:ObR K B H d p):∃u,H p=some u/\Mut (some u):=by
 cases d with
 |lst ds=>obtain⟨xs,h1,h2⟩:=h;exact⟨_,h1,trivial⟩
 |dT ks ds=>obtain⟨xs,h1,h0,h2⟩:=h;exact⟨_,h1,trivial⟩
 |dK ks ds=>obtain⟨xs,h1,h0,h2⟩:=h;exact⟨_,h1,trivial⟩
 |dD ks ds=>obtain⟨xs,⟨ep,h1⟩,h0,h2⟩:=h;exact⟨_,h1,trivial⟩
 |_=>exact(show False from h).elim
def bF{B:Z2->Prop}{H:Hp}{p:Z2}{u o:HO}(h:H p=some u)(mu:Mut (some u))(hb:¬B p):Ext B H (upd H p o):=
 ⟨fun c xs r=>by rw[ai (fun z=>by subst z;rw[h]at r;cases r;exact mu)];exact r,fun c x y r=>by rw[ai (fun z=>by subst z;rw[h]at r;cases r;exact mu)];exact r,
  fun c r=>by rw[ai (fun z=>by subst z;exact hb r)]⟩
def ObR.frozen{K:Z5}{B B':Z2->Prop}{H:Hp}{d:D}{p:Z2}{u:HO}{o:Obj}(h:ObR K B H d p)(hu:H p=some u)(hb:¬B p)(hs:∀a,B a->B' a):Rep K B' (upd H p (.frz o u)) d (.ref p):=by
 obtain⟨u',e,mu⟩:=h.mut;rw[hu]at e;cases e;have ex:Ext B H (upd H p (.frz o u)):=bF hu mu hb;cases d with
 |lst ds=>
  obtain⟨xs,h1,h2⟩:=h;rw[hu]at h1;cases h1;simp only[Rep];exact⟨p,xs,rfl,.inr (.inl ⟨o,ag⟩),(h2.ext ex).more hs⟩
 |dT ks ds=>
  obtain⟨xs,h1,h0,h2⟩:=h;rw[hu]at h1;cases h1;simp only[Rep];exact⟨p,xs,rfl,.inr ⟨o,ag⟩,h0,(h2.ext ex).more hs⟩
 |dK ks ds=>
  obtain⟨xs,h1,h0,h2⟩:=h;rw[hu]at h1;cases h1;simp only[Rep];exact⟨p,xs,rfl,.inr ⟨o,ag⟩,h0,(h2.ext ex).more hs⟩
 |dD ks ds=>
  obtain⟨xs,⟨ep,h1⟩,h0,h2⟩:=h;rw[hu]at h1;cases h1;simp only[Rep];exact⟨p,xs,rfl,⟨ep,.inr ⟨o,ag⟩⟩,h0,(h2.ext ex).more hs⟩
 |_=>exact(show False from h).elim
theorem DF.share(h:DF X a fa):DE X m a fa:=by
 intro a_ s σ H Q I hq;obtain⟨B,Hk,δ,d,R,e,k⟩:=hq;have h1:=h a_ s σ H (fun v H'=>∃p,v=.ref p/\Same H H'/\H p=none/\ObR X.K B H' d p) I ⟨B,Hk,δ,d,R,e,fun p H' s n ob=>⟨p,rfl,s,n,ob⟩⟩
 refine thn h1 fun u s1 hz=>?_
 obtain⟨v,H1,I1,rv,p,ev,sm,hn,ob⟩:=hz;subst ev;obtain⟨u',hu,mu⟩:=ob.mut;obtain⟨o,I2⟩:=I1.frz hu mu;have hb:¬B p:=fun z=>by
  obtain⟨o',e'⟩:=R.borH p z;rw[hn]at e';trivial
 refine⟨.ref p,_,I2,rv,k _ _ (sm.put hn) (ob.frozen hu hb fun a h=>hU m a h)⟩
end
def NRep(K:Z5)(B:Z2->Prop)(Hk H:Hp)(d:D)(v:V):Prop:=match d with
 |.lst es=>∃b xs,v=.ref b/\Hk b=none/\H b=some (.lst xs)/\Reps K B H es xs
 |d=>Rep K B H d v
def NReps(K:Z5)(B:Z2->Prop)(Hk H:Hp):List D->List V->Prop
 |[],vs=>vs=[]
 |d::ds,vs=>∃x r,vs=x::r/\NRep K B Hk H d x/\NReps K B Hk H ds r
def E2(K:Z5)(B:Z2->Prop)(Hk H:Hp)(d:D)(v:V):Prop:=match d with
 |.tup ds=>∃a vs,v=.ref a/\H a=some (.tup vs)/\NReps K B Hk H ds vs
 |_=>False
def CY(K:Z5)(B:Z2->Prop)(Hk H:Hp)(d:D)(v:V):Prop:=Rep K B H d v\/∃es b xs,d=.lst es/\v=.ref b/\Hk b=none/\H b=some (.lst xs)/\Reps K B H es xs
def MReps(K:Z5)(B:Z2->Prop)(Hk H:Hp):List D->List V->Prop
 |[],vs=>vs=[]
 |d::ds,vs=>∃x r,vs=x::r/\CY K B Hk H d x/\MReps K B Hk H ds r
def NRep.m{K:Z5}{B:Z2->Prop}{Hk H:Hp}{d:D}{v:V}(h:NRep K B Hk H d v):CY K B Hk H d v:=by
 cases d with
 |lst es=>obtain⟨b,xs,h1,h2,h3,h4⟩:=h;exact .inr ⟨es,b,xs,rfl,h1,h2,h3,h4⟩
 |_=>exact .inl h
theorem NReps.m{K:Z5}{B:Z2->Prop}{Hk H:Hp}:∀{ds:List D}{vs:List V},NReps K B Hk H ds vs->MReps K B Hk H ds vs
 |[],vs,h=>h
 |d::ds,vs,h=>by obtain⟨x,r,e,h1,h2⟩:=h;exact⟨x,r,e,h1.m,NReps.m h2⟩
theorem MReps.frz1{K:Z5}{B:Z2->Prop}{Hk H:Hp}{b:Z2}{xs:List V}{o:Obj}(hx:H b=some (.lst xs))(ex:Ext B H (upd H b (.frz o (.lst xs)))):∀{ds:List D}{vs:List V},MReps K B Hk H ds vs->MReps K B Hk (upd H b (.frz o (.lst xs))) ds vs
 |[],vs,h=>h
 |d::ds,vs,h=>by
  obtain⟨x,r,e,h1,h2⟩:=h;refine⟨x,r,e,?_,MReps.frz1 hx ex h2⟩
  rcases h1 with h1|⟨es,b',xs',rfl,rfl,n,FA,rs⟩
  .exact .inl (h1.ext ex)
  .by_cases q:b'=b
   .subst q
    rw[hx]at FA;cases FA;refine .inl ?_
    simp only[Rep];exact⟨b',xs,rfl,.inr (.inl ⟨o,ag⟩),rs.ext ex⟩
   .exact .inr ⟨es,b',xs',rfl,rfl,n,by rw[ai q];exact FA,rs.ext ex⟩
theorem BV{X:Cx}{a_:List (Z2×Obj)}{σ:St}{s:Z4}{B:Z2->Prop}{Hk:Hp}(hB:∀a,B a->∃o:HOn,Hk a=some o.1):∀(ds:List D)(vs:List V)(H:Hp),Inv X a_ σ H s->MReps X.K B Hk H ds vs->
  ∃H',Inv X a_ σ H' s/\Ext B H H'/\(∀c o o',Hk c=some o'->H c=some o->H' c=some o)/\Reps X.K B H' ds vs
 |[],vs,H,I,h=>⟨H,I,Ext.refl,fun _ _ _ _ q=>q,by rw[show vs=[] from h];exact Reps.nil⟩
 |d::ds,vs,H,I,h=>by
  obtain⟨x,r,rfl,h1,h2⟩:=h
  rcases h1 with h1|⟨es,b,xs,rfl,rfl,n,hb,rs⟩
  .obtain⟨H',I',e',k',r'⟩:=BV hB ds r H I h2
   exact⟨H',I',e',k',Reps.cons (h1.ext e') r'⟩
  .obtain⟨o,I1⟩:=I.frz hb trivial
   have nb:¬B b:=fun z=>by obtain⟨o',q⟩:=hB b z;rw[n]at q;trivial
   have ex:Ext B H (upd H b (.frz o (.lst xs))):=bF hb trivial nb;obtain⟨H',I',e',k',r'⟩:=BV hB ds r _ I1 (MReps.frz1 hb ex h2);refine⟨H',I',ex.trans e',fun c o' o2 q1 q2=>k' c o' o2 q1 (by rw[ai (aq q1 n)];exact q2),Reps.cons (Rep.ext e' ?_) r'⟩
   simp only[Rep];exact⟨b,xs,rfl,.inr (.inl ⟨o,ag⟩),rs.ext ex⟩
def kB(K:Z5)(B:Z2->Prop)(Hk H':Hp)(d:D)(fr:Bool)(v:V):Prop:=if fr=true then(∃a,v=.ref a/\Hk a=none/\ObR K B H' d a)\/E2 K B Hk H' d v else Rep K B H' d v
noncomputable def spM(K:Z5)(f:List D->Z_ (D×Bool)):Sp:=fun vs H Q _=>∃B ds r fr,(∀a,B a->∃o:HOn,H a=some o.1)/\Reps K B H ds vs/\f ds=some (r,fr)/\∀v H',Same H H'->kB K B H H' r fr v->Q v H'
structure FnM (P:ZC)(w:Zo)(K:Z5)(mg:Str->Z_ Z7)(base:Heap)(k:Nat)(x:Str)(f:List D->Z_ (D×Bool)):Prop where
 ex:∃(p:Z2)(fd:FuncData)(ps:List Str),FnOk P w K mg base CX0 k p fd ps (spM K f)/\mg x=some (.ref p)/\PySem.W.keepIn K (.ref p)=true/\Binds K fd ps []
def ae{α β:Type}(x:Z_ α)(f:α->Z_ β):Z_ β:=match x with|some a=>f a|none=>none
def ak{α β:Type}{x:Z_ α}{f:α->Z_ β}{b:β}(h:ae x f=some b):∃a,x=some a/\f a=some b:=by
 cases x with
 |none=>trivial
 |some a=>exact⟨a,rfl,h⟩
def shO(x:Z_ (D×Bool)):Z_ D:=match x with|some (d,_)=>some d|none=>none
def frO(x:Z_ (D×Bool)):Z_ D:=match x with|some (.tup _,true)=>none|some (d,true)=>some d|_=>none
def flO(x:Z_ (D×Bool)):Z_ D:=match x with|some (.lst ds,true)=>if D.flats ds=true then some (.lst ds) else none|_=>none
section
variable{X:Cx}{m m' mm:Bool}{a b e:Expr}{es:List Expr}{fa fb:DEnv->Z_ D}{fs:DEnv->Z_ (List D)}{pos p:Pos}{k:Nat}{x:Str}{f:List D->Z_ (D×Bool)}
def kK(F:FnM X.prog X.w X.K X.mg X.base k x f)(hr:Room k X.A)(hg:Gl X x)(ha:DA X m (e::es) fs)(GC:(x==("__debug__":Str))=false)(he:starEach (e::es) X.env=(false,eval e X.env)::starEach es X.env)(hpl:(backTo pos (starEach es X.env)).any (·.1)=false):
  PE X (.Call (.Name x p) (e::es) [] pos) (fun σ H Q=>∃B Hk δ ds r fr,Rel X.K B Hk δ σ H/\fs δ=some ds/\f ds=some (r,fr)/\∀v H1 H',Same H H1->Same H1 H'->kB X.K (ba m B δ σ) H1 H' r fr v->Q v H'):=by
 obtain⟨q,fd,ps,h1,h2,h3,h4⟩:=F.ex;refine(xa (ds:=[]) (dvs:=[]) h1 hr hg h2 h3 h4 .nil BR ha GC he hpl).imp fun σ H Q hz=>?_
 obtain⟨B,Hk,δ,ds,r,fr,R,e1,e2,kk⟩:=hz;refine⟨B,Hk,δ,ds,R,e1,fun vs H1 s1 rs=>?_⟩
 show spM X.K f (vs++[]) H1 Q E0;rw[Y6];exact⟨ba m B δ σ,ds,r,fr,(R.to s1).bsH m,rs,e2,fun v H' s2 rr=>kk v H1 H' s1 s2 rr⟩
def xn(F:FnM X.prog X.w X.K X.mg X.base k x f)(hr:Room k X.A)(hg:Gl X x)(ha:DA X false (e::es) fs)(GC:(x==("__debug__":Str))=false:=by decide)(he:starEach (e::es) X.env=(false,eval e X.env)::starEach es X.env:=by rfl)
  (hpl:(backTo pos (starEach es X.env)).any (·.1)=false:=by rfl):DF X (.Call (.Name x p) (e::es) [] pos) (fun δ=>frO (ae (fs δ) f)):=
 (kK F hr hg ha GC he hpl).imp fun σ H Q hz=>by
  obtain⟨B,Hk,δ,d,R,e,kk⟩:=hz;cases q:ae (fs δ) f with
  |none=>simp only[q,frO]at e;trivial
  |some p=>
   obtain⟨d',fr⟩:=p;obtain⟨ds,e1,e2⟩:=ak q;cases fr with
   |false=>cases d'<;>simp only[q,frO]at e<;>trivial
   |true=>
    have hd:d'=d/\∀ts,d≠.tup ts:=by
     cases d' with
     |tup ts=>simp only[q,frO]at e;trivial
     |_=>simp only[q,frO]at e;cases e;exact⟨rfl,fun ts z=>by cases z⟩
    obtain⟨rfl,nt⟩:=hd;refine⟨B,Hk,δ,ds,_,_,R,e1,e2,fun v H1 H' s1 s2 rr=>?_⟩
    unfold kB at rr;rw[Z0 rfl]at rr
    rcases rr with⟨a,rfl,n,ob⟩|rt
    .exact kk a H' (s1.trans s2) (s1.free n) ob
    .cases d' with
     |tup ts=>exact(nt ts rfl).elim
     |_=>exact(show False from rt).elim
def uM(F:FnM X.prog X.w X.K X.mg X.base k x f)(hr:Room k X.A)(hg:Gl X x)(ha:DA X true (e::es) fs)(GC:(x==("__debug__":Str))=false:=by decide)(he:starEach (e::es) X.env=(false,eval e X.env)::starEach es X.env:=by rfl)
  (hpl:(backTo pos (starEach es X.env)).any (·.1)=false:=by rfl):DF X (.Call (.Name x p) (e::es) [] pos) (fun δ=>flO (ae (fs δ) f)):=
 (kK F hr hg ha GC he hpl).imp fun σ H Q hz=>by
  obtain⟨B,Hk,δ,d,R,e,kk⟩:=hz;unfold flO at e;dsimp only at e;split at e
  .rename_i ls q
   by_cases fl:D.flats ls=true
   .rw[Z0 fl]at e
    cases e;obtain⟨ds,e1,e2⟩:=ak q;refine⟨B,Hk,δ,ds,_,_,R,e1,e2,fun v H1 H' s1 s2 rr=>?_⟩
    unfold kB at rr;rw[Z0 rfl]at rr
    rcases rr with⟨a,rfl,n,xs,hx,rs⟩|rt
    .exact kk a H' (s1.trans s2) (s1.free n) ⟨xs,hx,Reps.flat fl rs⟩
    .exact(show False from rt).elim
   .rw[ZY fl]at e;trivial
  .trivial
def wV(F:FnM X.prog X.w X.K X.mg X.base k x f)(hr:Room k X.A)(hg:Gl X x)(ha:DA X m (e::es) fs)(GC:(x==("__debug__":Str))=false:=by decide)(he:starEach (e::es) X.env=(false,eval e X.env)::starEach es X.env:=by rfl)
  (hpl:(backTo pos (starEach es X.env)).any (·.1)=false:=by rfl):DE X m (.Call (.Name x p) (e::es) [] pos) (fun δ=>shO (ae (fs δ) f)):=by
 intro a_ s σ H Q I hq;obtain⟨B,Hk,δ,d,R,e,kk⟩:=hq;unfold shO at e;dsimp only at e;split at e
 .rename_i d' fr q
  cases e;obtain⟨ds,e1,e2⟩:=ak q;have h1:=kK (p:=p) F hr hg ha GC he hpl a_ s σ H (fun v H'=>∃H1,Same H H1/\Same H1 H'/\kB X.K (ba m B δ σ) H1 H' d fr v) I ⟨B,Hk,δ,ds,d,fr,R,e1,e2,fun v H1 H' s1 s2 rr=>⟨H1,s1,s2,rr⟩⟩
  refine thn h1 fun u s1 hz=>?_
  obtain⟨v,H',I1,rv,H1,JY,Io,rr⟩:=hz;cases fr with
  |false=>
   unfold kB at rr;rw[ZY Zv]at rr;exact⟨v,H',I1,rv,kk v H' (JY.trans Io) rr⟩
  |true=>
   unfold kB at rr;rw[Z0 rfl]at rr
   rcases rr with⟨p,rfl,n,ob⟩|rt
   rotate_left
   .cases d with
    |tup ts=>
     obtain⟨a,vs,rfl,QY,rs⟩:=rt;obtain⟨H2,I2,e2,k2,r2⟩:=BV (B:=ba m B δ σ) (Hk:=H1) (fun c z=>by obtain⟨o',e'⟩:=R.bsH m c z;exact⟨o',JY c o' e'⟩) ts vs H' I1 rs.m
     refine⟨.ref a,H2,I2,rv,kk _ _ (JY.trans (Io.keep k2)) ?_⟩
     simp only[Rep];exact⟨a,vs,rfl,e2.tups _ _ QY,r2⟩
    |_=>exact(show False from rt).elim
   obtain⟨u',hu,mu⟩:=ob.mut;obtain⟨o,I2⟩:=I1.frz hu mu;have hb:¬ba m B δ σ p:=fun z=>by
    obtain⟨o',e'⟩:=R.bsH m p z;have:=JY p o' e';rw[n]at this;trivial
   refine⟨.ref p,_,I2,rv,kk _ _ (JY.trans (Io.put n)) (ob.frozen hu hb fun a h=>h)⟩
 .trivial
end
inductive Out where
 |next (δ:DEnv)|ret (d:D) (fr:Bool)|brk (δ:DEnv)|cont (δ:DEnv)
def OutK(K:Z5)(B:Z2->Prop)(Hk H:Hp)(Dn:Ends):Out->Prop
 |.next δ=>∀j_ H',Ext B H H'->Rel K B Hk δ j_ H'->Dn.nx j_ H'
 |.brk δ=>∀j_ H',Ext B H H'->Rel K B Hk δ j_ H'->Dn.bk j_ H'
 |.cont δ=>∀j_ H',Ext B H H'->Rel K B Hk δ j_ H'->Dn.ct j_ H'
 |.ret d fr=>∀v H',Ext B H H'->Same Hk H'->kB K B Hk H' d fr v->Dn.rt v H'
def tD(K:Z5)(g:DEnv->Z_ Out):TS:=fun Dn σ H=>∃B Hk δ o,Rel K B Hk δ σ H/\g δ=some o/\OutK K B Hk H Dn o
abbrev DS(X:Cx)(st:Stmt)(g:DEnv->Z_ Out):Prop:=PS X st (tD X.K g)
abbrev DSs(X:Cx)(JW:List Stmt)(g:DEnv->Z_ Out):Prop:=PSs X JW (tD X.K g)
def OutK.ext{K:Z5}{B:Z2->Prop}{Hk H H1:Hp}{Dn:Ends}{o:Out}(h:OutK K B Hk H Dn o)(e:Ext B H H1):OutK K B Hk H1 Dn o:=by
 cases o with
 |next δ=>exact fun j_ H' x r=>h j_ H' (e.trans x) r
 |brk δ=>exact fun j_ H' x r=>h j_ H' (e.trans x) r
 |cont δ=>exact fun j_ H' x r=>h j_ H' (e.trans x) r
 |ret d fr=>exact fun v H' x r=>h v H' (e.trans x) r
def nextO(δ:DEnv):Z_ Out:=some (.next δ)
def aG(x:Z_ Out)(k:DEnv->Z_ Out):Z_ Out:=match x with|some (.next δ)=>k δ|o=>o
section
variable{X:Cx}{m m' mm:Bool}{a b e:Expr}{es:List Expr}{fa fb:DEnv->Z_ D}{fs:DEnv->Z_ (List D)}{pos p:Pos}{st:Stmt}{ao:List Stmt}{g g1 g2:DEnv->Z_ Out}{fc:DEnv->Z_ Bool}
theorem yn:DSs X [] nextO:=sj.imp fun Dn σ H hz=>by
 obtain⟨B,Hk,δ,o,R,e,k⟩:=hz;cases e;exact k σ H Ext.refl R
theorem dg(h1:DS X st g1)(h2:DSs X ao g2):DSs X (st::ao) (fun δ=>aG (g1 δ) g2):=
 (bx h1 h2).imp fun Dn σ H hz=>by
  obtain⟨B,Hk,δ,o,R,e,k⟩:=hz;cases q:g1 δ with
  |none=>simp only[q,aG]at e;trivial
  |some o1=>
   cases o1 with
   |next x_=>
    simp only[q,aG]at e;exact⟨B,Hk,δ,_,R,q,fun j_ H' x R'=>⟨B,Hk,x_,o,R',e,k.ext x⟩⟩
   |brk x_=>simp only[q,aG]at e;cases e;exact⟨B,Hk,δ,_,R,q,k⟩
   |cont x_=>simp only[q,aG]at e;cases e;exact⟨B,Hk,δ,_,R,q,k⟩
   |ret d fr=>simp only[q,aG]at e;cases e;exact⟨B,Hk,δ,_,R,q,k⟩
theorem lY(h1:DS X st g1):DSs X [st] g1:=eQ h1
def ifO(c:Z_ Bool)(x y:Z_ Out):Z_ Out:=match c with|some true=>x|some false=>y|none=>none
theorem Rel.ext{K:Z5}{B:Z2->Prop}{Hk H H':Hp}{δ:DEnv}{σ:St}(R:Rel K B Hk δ σ H)(s:Same H H'):Ext B H H':=s.ext R.borH
theorem BB{c:Expr}{x y:List Stmt}(hc:DT X c fc)(ha:DSs X x g1)(hb:DSs X y g2):DS X (.If c x y pos) (fun δ=>ifO (fc δ) (g1 δ) (g2 δ)):=
 (xz hc ha hb).imp fun Dn σ H hz=>by
  obtain⟨B,Hk,δ,o,R,e,k⟩:=hz;unfold ifO at e;dsimp only at e;split at e
  .rename_i q
   exact⟨B,Hk,δ,true,R,q,fun H1 s1=>wG ⟨B,Hk,δ,o,R.to s1,e,k.ext (R.ext s1)⟩⟩
  .rename_i q
   exact⟨B,Hk,δ,false,R,q,fun H1 s1=>wC ⟨B,Hk,δ,o,R.to s1,e,k.ext (R.ext s1)⟩⟩
  .trivial
theorem Rel.set{K:Z5}{B:Z2->Prop}{Hk H:Hp}{δ:DEnv}{σ:St}{i:Nat}{d:D}{v:V}(R:Rel K B Hk δ σ H)(hi:i<σ.length)(r:Rep K B H d v):Rel K B Hk (δ.set i (some (d,false))) (σ.set i (some v)) H:=by
 have w_:i<δ.length:=by rw[R.len];exact hi
 refine⟨R.same,R.bor,by simpa using R.len,fun j e h=>?_,fun j e h=>?_,fun j k e f q GY h1 h2 h3 h4=>?_⟩
 .by_cases hj:j=i
  .subst hj
   rw[ZF w_]at h
   cases h;exact⟨v,by rw[ZF hi],r⟩
  .rw[ZP (Zy hj)]at h
   rw[ZP (Zy hj)]
   exact R.var j e h
 .by_cases hj:j=i
  .subst hj
   rw[ZF w_]at h
   cases h
  .rw[ZP (Zy hj)]at h
   rw[ZP (Zy hj)]
   exact R.own j e h
 .have nj:j≠i:=fun z=>by subst z;rw[ZF w_]at h1;cases h1
  have nk:k≠i:=fun z=>by subst z;rw[ZF w_]at h2;cases h2
  rw[ZP (Zy nj)]at h1 h3
  rw[ZP (Zy nk)]at h2 h4
  exact R.dis j k e f q GY h1 h2 h3 h4
def Rel.setOwn{K:Z5}{B:Z2->Prop}{Hk H:Hp}{δ:DEnv}{σ:St}{i:Nat}{d:D}{a:Z2}(R:Rel K B Hk δ σ H)(hi:i<σ.length)(hk:Hk a=none)(ob:ObR K B H d a)
  (ho:∀(j:Nat) e,j≠i->δ[j]?=some (some (e,true))->σ[j]?≠some (some (.ref a))):Rel K B Hk (δ.set i (some (d,true))) (σ.set i (some (.ref a))) H:=by
 have w_:i<δ.length:=by rw[R.len];exact hi
 refine⟨R.same,R.bor,by simpa using R.len,fun j e h=>?_,fun j e h=>?_,fun j k e f q GY h1 h2 h3 h4=>?_⟩
 .by_cases hj:j=i
  .subst hj
   rw[ZF w_]at h
   cases h
  .rw[ZP (Zy hj)]at h
   rw[ZP (Zy hj)]
   exact R.var j e h
 .by_cases hj:j=i
  .subst hj
   rw[ZF w_]at h
   cases h;exact⟨a,by rw[ZF hi],hk,ob⟩
  .rw[ZP (Zy hj)]at h
   rw[ZP (Zy hj)]
   exact R.own j e h
 .by_cases nj:j=i
  .subst nj
   have nk:k≠j:=fun z=>GY z.symm
   rw[ZF hi]at h3
   cases h3;rw[ZP (Zy nk)]at h2 h4
   exact ho k f nk h2 h4
  .rw[ZP (Zy nj)]at h1 h3
   by_cases nk:k=i
   .subst nk
    rw[ZF hi]at h4
    cases h4;exact ho j e nj h1 h3
   .rw[ZP (Zy nk)]at h2 h4
    exact R.dis j k e f q GY h1 h2 h3 h4
def b0(i:Nat)(x:Z_ D)(δ:DEnv):Z_ Out:=match x with|some d=>if i<δ.length then some (.next (δ.set i (some (d,false)))) else none|none=>none
def cQ(i:Nat)(x:Z_ D)(δ:DEnv):Z_ Out:=match x with|some d=>if i<δ.length then some (.next (δ.set i (some (d,true)))) else none|none=>none
def o7{i:Nat}{x:Z_ D}{δ:DEnv}{o:Out}(h:b0 i x δ=some o):∃d,x=some d/\i<δ.length/\o=.next (δ.set i (some (d,false))):=by
 unfold b0 at h;split at h
 .rename_i d
  by_cases q:i<δ.length
  .rw[Z0 q]at h;cases h;exact⟨d,rfl,q,rfl⟩
  .rw[ZY q]at h;trivial
 .trivial
def eZ{i:Nat}{x:Z_ D}{δ:DEnv}{o:Out}(h:cQ i x δ=some o):∃d,x=some d/\i<δ.length/\o=.next (δ.set i (some (d,true))):=by
 unfold cQ at h;split at h
 .rename_i d
  by_cases q:i<δ.length
  .rw[Z0 q]at h;cases h;exact⟨d,rfl,q,rfl⟩
  .rw[ZY q]at h;trivial
 .trivial
def xv{i:Nat}{Dn:Ends}{σ:St}{H:Hp}(h:tD X.K (fun δ=>b0 i (fa δ) δ) Dn σ H):xY (tM X.K false fa) (fw i) Dn σ H:=by
 obtain⟨B,Hk,δ,o,R,e,k⟩:=h;obtain⟨d,e1,hi,rfl⟩:=o7 e;exact⟨B,Hk,δ,d,R,e1,fun v H' s r=>k _ H' (R.ext s) ((R.to s).set (by rw[<-R.len];exact hi) r)⟩
def uW{i:Nat}{Dn:Ends}{σ:St}{H:Hp}(h:tD X.K (fun δ=>cQ i (fa δ) δ) Dn σ H):xY (tF X.K fa) (fw i) Dn σ H:=by
 obtain⟨B,Hk,δ,o,R,e,k⟩:=h;obtain⟨d,e1,hi,rfl⟩:=eZ e;refine⟨B,Hk,δ,d,R,e1,fun a H' s n ob=>k _ H' (R.ext s) ((R.to s).setOwn (by rw[<-R.len];exact hi) (R.same.free n) ob fun j e hj h1 h2=>?_)⟩
 obtain⟨b,h3,_,HY⟩:=R.own j e h1;rw[h2]at h3;cases h3;obtain⟨o,e'⟩:=HY.there;rw[n]at e';trivial
def AN{i:Nat}{x:Str}{pos':Pos}(hN:X.N.Nodup)(ha:DE X false a fa)(hi:X.N[i]?=some x:=by rfl)(hx:Loc X.env.scope x:=by first|exact Or.inl rfl|exact Or.inr rfl)(hs:swapsWith a (some (.Name x pos')) pos.line X.env=pure false:=by rfl)
  (hf:X.fn x=true\/X.env.scope.names.lookup x=some .local:=by first|exact .inl rfl|exact .inr rfl):DS X (.Assign [.Name x pos'] a pos) (fun δ=>b0 i (fa δ) δ):=
 (gN hN hi hx ha hs hf).imp fun Dn σ H h=>xv h
def yD{i:Nat}{x:Str}{pos':Pos}(hN:X.N.Nodup)(ha:DF X a fa)(hi:X.N[i]?=some x:=by rfl)(hx:Loc X.env.scope x:=by first|exact Or.inl rfl|exact Or.inr rfl)(hs:swapsWith a (some (.Name x pos')) pos.line X.env=pure false:=by rfl)
  (hf:X.fn x=true\/X.env.scope.names.lookup x=some .local:=by first|exact .inl rfl|exact .inr rfl):DS X (.Assign [.Name x pos'] a pos) (fun δ=>cQ i (fa δ) δ):=
 (gN hN hi hx ha hs hf).imp fun Dn σ H h=>uW h
def fZ(x:Z_ D):Z_ Out:=match x with|some d=>some (.ret d false)|none=>none
def eF(x:Z_ D):Z_ Out:=match x with|some d=>some (.ret d true)|none=>none
theorem Au(ha:DE X false a fa):DS X (.Return (some a) pos) (fun δ=>fZ (fa δ)):=
 (iZ ha).imp fun Dn σ H hz=>by
  obtain⟨B,Hk,δ,o,R,e,k⟩:=hz;cases q:fa δ with
  |none=>simp only[q,fZ]at e;trivial
  |some d=>
   simp only[q,fZ]at e;cases e;exact⟨B,Hk,δ,d,R,q,fun v H' s r=>k v H' (R.ext s) (R.same.trans s) (by unfold kB;rw[ZY Zv];exact r)⟩
theorem yj(ha:DF X a fa):DS X (.Return (some a) pos) (fun δ=>eF (fa δ)):=
 (iZ ha).imp fun Dn σ H hz=>by
  obtain⟨B,Hk,δ,o,R,e,k⟩:=hz;cases q:fa δ with
  |none=>simp only[q,eF]at e;trivial
  |some d=>
   simp only[q,eF]at e;cases e;exact⟨B,Hk,δ,d,R,q,fun p H' s n ob=>k (.ref p) H' (R.ext s) (R.same.trans s) (by unfold kB;rw[Z0 rfl];exact .inl ⟨p,rfl,R.same.free n,ob⟩)⟩
def bE(i:Nat)(δ:DEnv):Z_ D:=match δ[i]? with|some (some (d,true))=>some d|_=>none
def bN{i:Nat}{δ:DEnv}{d:D}(h:bE i δ=some d):δ[i]?=some (some (d,true)):=by
 unfold bE at h;split at h
 .rename_i d' e;cases h;exact e
 .trivial
def yM{i:Nat}{x:Str}{px:Pos}(hN:X.N[i]?=some x:=by rfl)(hv:Vis X.env.scope x:=by first|exact Or.inl rfl|exact Or.inr (Or.inl rfl)|exact Or.inr (Or.inr rfl))(hd:(x==("__debug__":Str))=false:=by decide)(Fo:(x==("__classdict__":Str))=false:=by decide):
  DS X (.Return (some (.Name x px)) pos) (fun δ=>eF (bE i δ)):=
 (iZ (bg hN hv hd Fo)).imp fun Dn σ H hz=>by
  obtain⟨B,Hk,δ,o,R,e,k⟩:=hz;cases q:bE i δ with
  |none=>simp only[q,eF]at e;trivial
  |some d=>
   simp only[q,eF]at e;cases e;obtain⟨p,h1,h2,h3⟩:=R.own i d (bN q);exact⟨.ref p,h1,k (.ref p) H Ext.refl R.same (by unfold kB;rw[Z0 rfl];exact .inl ⟨p,rfl,h2,h3⟩)⟩
def Rel.lset{K:Z5}{B:Z2->Prop}{Hk H:Hp}{δ:DEnv}{σ:St}{i:Nat}{ds ds':List D}{l:Z2}{xs xs':List V}(R:Rel K B Hk δ σ H)(h:δ[i]?=some (some (.lst ds,true)))(hl:σ[i]?=some (some (.ref l)))(hx:H l=some (.lst xs))(r:Reps K B H ds' xs'):
  Ext B H (upd H l (.lst xs'))/\Rel K B Hk (δ.set i (some (.lst ds',true))) σ (upd H l (.lst xs')):=by
 obtain⟨a,e1,e2,ys,e3,_⟩:=R.own i _ h;rw[hl]at e1;cases e1;have hb:¬B l:=fun z=>by obtain⟨o,q⟩:=R.bor l z;rw[e2]at q;trivial
 have ex:Ext B H (upd H l (.lst xs')):=bF hx trivial hb;have w_:i<δ.length:=(ZW.mp h).1
 refine⟨ex,⟨R.same.put e2,R.bor,by simpa using R.len,fun j e q=>?_,fun j e q=>?_,fun j k e f q GY h1 h2 h3 h4=>?_⟩⟩
 .by_cases hj:j=i
  .subst hj
   rw[ZF w_]at q
   cases q
  .rw[ZP (Zy hj)]at q
   obtain⟨v,q1,q2⟩:=R.var j e q;exact⟨v,q1,q2.ext ex⟩
 .by_cases hj:j=i
  .subst hj
   rw[ZF w_]at q
   cases q;exact⟨l,hl,e2,xs',ag,r.ext ex⟩
  .rw[ZP (Zy hj)]at q
   obtain⟨c,q1,q2,q3⟩:=R.own j e q;have hc:c≠l:=fun z=>by subst z;exact R.dis j i e _ c hj q h q1 hl
   exact⟨c,q1,q2,q3.ext ex fun o q _=>by rw[ai hc];exact q⟩
 .have G8:∃e',δ[j]?=some (some (e',true)):=by
   by_cases hj:j=i
   .subst hj;exact⟨_,h⟩
   .rw[ZP (Zy hj)]at h1;exact⟨_,h1⟩
  have GD:∃e',δ[k]?=some (some (e',true)):=by
   by_cases hj:k=i
   .subst hj;exact⟨_,h⟩
   .rw[ZP (Zy hj)]at h2;exact⟨_,h2⟩
  obtain⟨e',G8⟩:=G8;obtain⟨f',GD⟩:=GD;exact R.dis j k e' f' q GY G8 GD h3 h4
noncomputable def iV(i:Nat)(x:Z_ D)(δ:DEnv):Z_ Out:=match bE i δ,x with|some (.lst ds),some d=>if ds.length<lim then some (.next (δ.set i (some (.lst (ds++[d]),true)))) else none|_,_=>none
def qM{i:Nat}{x:Z_ D}{δ:DEnv}{o:Out}(h:iV i x δ=some o):∃ds d,δ[i]?=some (some (.lst ds,true))/\x=some d/\ds.length<lim/\o=.next (δ.set i (some (.lst (ds++[d]),true))):=by
 unfold iV at h;split at h
 .rename_i ds d q
  by_cases hl:ds.length<lim
  .rw[Z0 hl]at h;cases h;exact⟨ds,d,bN q,rfl,hl,rfl⟩
  .rw[ZY hl]at h;trivial
 .trivial
def sf{i:Nat}{x:Str}{px apos f_:Pos}(ha:DE X false a fa)(hN:X.N[i]?=some x:=by rfl)(hv:Vis X.env.scope x:=by first|exact Or.inl rfl|exact Or.inr (Or.inl rfl)|exact Or.inr (Or.inr rfl))
  (n_:attributeBase (.Name x px) "append" X.env (eval (.Name x px) X.env)=eval (.Name x px) X.env:=by rfl)
  (D_:((backTo f_ (starEach [a] X.env)).all (fun x=>!x.1)&&(backToKw f_ (keywordEach [] X.env)).all (fun x=>x.1.isSome)&&decide (([a]).length+([]:List Keyword).length+(if([]:List Keyword).isEmpty then 0 else 1)<30))=true:=by rfl)
  (m_:(apos.endLine==f_.line)=true:=by rfl)(hs:starEach [a] X.env=(false,eval a X.env)::starEach [] X.env:=by rfl)(hd:(x==("__debug__":Str))=false:=by decide)(Fo:(x==("__classdict__":Str))=false:=by decide)
  (F9:swapsWith (.Call (.Attribute (.Name x px) "append" apos) [a] [] f_) none pos.line X.env=pure false:=by rfl):DS X (.Expr (.Call (.Attribute (.Name x px) "append" apos) [a] [] f_) pos) (fun δ=>iV i (fa δ) δ):=
 (lm (n9 XF PySem.F.slot_list_append PySem.F.type_list_append jZ (bg hN hv hd Fo) (aw ha aO hs) n_ D_ m_ hs) F9).imp fun Dn σ H hz=>by
  obtain⟨B,Hk,δ,o,R,e,k⟩:=hz;obtain⟨ds,d,h1,e1,hl,rfl⟩:=qM e;obtain⟨l,h2,h3,xs,h4,h5⟩:=R.own i _ h1;refine⟨.ref l,h2,.inl ⟨rfl,xs,SqL.of h4⟩,oX R e1 fun v H' s R' r=>?_⟩
  have HM:=s l _ h4;have MN:Reps X.K B H' ds xs:=h5.ext (R.ext s);obtain⟨x1,x2⟩:=R'.lset (ds':=ds++[d]) (xs':=xs++[v]) h1 h2 HM (MN.append (Reps.cons r Reps.nil));exact⟨l,xs,v,rfl,rfl,HM,by rw[<-h5.length];exact ZA hl (aH (ZU _)),k σ _ ((R.ext s).trans x1) x2⟩
def frzE(i:Nat)(δ:DEnv):DEnv:=match δ[i]? with|some (some (d,true))=>δ.set i (some (d,false))|_=>δ
theorem Rel.frzE{a_:List (Z2×Obj)}{σ:St}{H:Hp}{s:Z4}{B:Z2->Prop}{Hk:Hp}{δ:DEnv}(i:Nat)(I:Inv X a_ σ H s)(R:Rel X.K B Hk δ σ H):∃H',Inv X a_ σ H' s/\Ext B H H'/\Rel X.K B Hk (frzE i δ) σ H':=by
 unfold L2.frzE;split
 .rename_i d h
  obtain⟨a,e1,e2,ob⟩:=R.own i d h;obtain⟨u,hu,mu⟩:=ob.mut;obtain⟨o,I2⟩:=I.frz hu mu;have hb:¬B a:=fun z=>by obtain⟨o,q⟩:=R.bor a z;rw[e2]at q;trivial
  have ex:Ext B H (upd H a (.frz o u)):=bF hu mu hb;have w_:i<δ.length:=(ZW.mp h).1
  refine⟨_,I2,ex,⟨R.same.put e2,R.bor,by simpa using R.len,fun j e q=>?_,fun j e q=>?_,fun j k e f q GY h1 h2 h3 h4=>?_⟩⟩
  .by_cases hj:j=i
   .subst hj
    rw[ZF w_]at q
    cases q;exact⟨_,e1,ob.frozen hu hb fun a h=>h⟩
   .rw[ZP (Zy hj)]at q
    obtain⟨v,q1,q2⟩:=R.var j e q;exact⟨v,q1,q2.ext ex⟩
  .by_cases hj:j=i
   .subst hj
    rw[ZF w_]at q
    cases q
   .rw[ZP (Zy hj)]at q
    obtain⟨c,q1,q2,q3⟩:=R.own j e q;have hc:c≠a:=fun z=>by subst z;exact R.dis j i e _ c hj q h q1 e1
    exact⟨c,q1,q2,q3.ext ex fun o q _=>by rw[ai hc];exact q⟩
  .have nj:j≠i:=fun z=>by subst z;rw[ZF w_]at h1;cases h1
   have nk:k≠i:=fun z=>by subst z;rw[ZF w_]at h2;cases h2
   rw[ZP (Zy nj)]at h1
   rw[ZP (Zy nk)]at h2
   exact R.dis j k e f q GY h1 h2 h3 h4
 .exact⟨H,I,Ext.refl,R⟩
def Dq(i:Nat)(h:DS X st g):DS X st (fun δ=>g (frzE i δ)):=by
 intro a_ s σ H Dn I ⟨B,Hk,δ,o,R,e,k⟩;obtain⟨H',I',x,R'⟩:=R.frzE i I;exact h a_ s σ H' Dn I' ⟨B,Hk,_,o,R',e,k.ext x⟩
theorem yF{JW:List Stmt}(i:Nat)(h:DSs X JW g):DSs X JW (fun δ=>g (frzE i δ)):=by
 intro a_ s σ H Dn I ⟨B,Hk,δ,o,R,e,k⟩;obtain⟨H',I',x,R'⟩:=R.frzE i I;exact h a_ s σ H' Dn I' ⟨B,Hk,_,o,R',e,k.ext x⟩
end
noncomputable def tG(K:Z5)(τ:D->DEnv->Z_ DEnv):TG:=fun v σ H Q=>∃B Hk δ d i_,Rel K B Hk δ σ H/\Rep K B H d v/\τ d δ=some i_/\∀j_,Rel K B Hk i_ j_ H->Q j_ H
noncomputable def tGs(K:Z5)(τ:List D->DEnv->Z_ DEnv):TGs:=fun vs σ H Q=>∃B Hk δ ds i_,Rel K B Hk δ σ H/\Reps K B H ds vs/\τ ds δ=some i_/\∀j_,Rel K B Hk i_ j_ H->Q j_ H
abbrev DG(X:Cx)(tg:Expr)(τ:D->DEnv->Z_ DEnv):Prop:=PG X tg (tG X.K τ)
abbrev DGs(X:Cx)(tg:List Expr)(τ:List D->DEnv->Z_ DEnv):Prop:=PGs X tg (tGs X.K τ)
def aa(i:Nat)(d:D)(δ:DEnv):Z_ DEnv:=if i<δ.length then some (δ.set i (some (d,false))) else none
def toNil(ds:List D)(δ:DEnv):Z_ DEnv:=match ds with|[]=>some δ|_=>none
def ah(τ:D->DEnv->Z_ DEnv)(υ:List D->DEnv->Z_ DEnv)(ds:List D)(δ:DEnv):Z_ DEnv:=match ds with|d::r=>ae (τ d δ) (υ r)|[]=>none
def aK(υ:List D->DEnv->Z_ DEnv)(d:D)(δ:DEnv):Z_ DEnv:=match d with|.tup ds=>υ ds δ|_=>none
def PG.imp{X:Cx}{tg:Expr}{t t':TG}(h:PG X tg t)(i:∀v σ H Q,t' v σ H Q->t v σ H Q):PG X tg t':=fun a_ s σ H v u Q I r q=>h a_ s σ H v u Q I r (i v σ H Q q)
def PGs.imp{X:Cx}{tg:List Expr}{t t':TGs}(h:PGs X tg t)(i:∀v σ H Q,t' v σ H Q->t v σ H Q):PGs X tg t':=fun a_ s σ H v u Q I r q=>h a_ s σ H v u Q I r (i v σ H Q q)
section
variable{X:Cx}{pos:Pos}
def yX{i:Nat}{x:Str}(hN:X.N.Nodup)(hi:X.N[i]?=some x:=by rfl)(hx:Loc X.env.scope x:=by first|exact Or.inl rfl|exact Or.inr rfl)(hf:X.fn x=true\/X.env.scope.names.lookup x=some .local:=by first|exact .inl rfl|exact .inr rfl):DG X (.Name x pos) (aa i):=
 (lW hN hi hx hf).imp fun v σ H Q hz=>by
  obtain⟨B,Hk,δ,d,i_,R,r,e,k⟩:=hz;unfold aa at e
  by_cases q:i<δ.length
  .rw[Z0 q]at e;obtain rfl:=Z9 e
   exact k _ (R.set (by rw[<-R.len];exact q) r)
  .rw[ZY q]at e;trivial
theorem yG:DGs X [] toNil:=yA.imp fun v σ H Q hz=>by
 obtain⟨B,Hk,δ,ds,i_,R,r,e,k⟩:=hz;cases ds with
 |nil=>simp only[toNil]at e;obtain rfl:=Z9 e;simp only[Reps]at r;exact⟨r,k σ R⟩
 |cons d ds=>simp only[toNil]at e;trivial
theorem uL{e:Expr}{es:List Expr}{τ:D->DEnv->Z_ DEnv}{υ:List D->DEnv->Z_ DEnv}(h1:DG X e τ)(h2:DGs X es υ)(hs:(assignEach (e::es) X.env).map (·.2)=assign e X.env::(assignEach es X.env).map (·.2):=by rfl):DGs X (e::es) (ah τ υ):=
 (vI h1 h2 hs).imp fun v σ H Q hz=>by
  obtain⟨B,Hk,δ,ds,i_,R,r,e,k⟩:=hz;cases ds with
  |nil=>simp only[ah]at e;trivial
  |cons d ds=>
   simp only[ah]at e;obtain⟨x_,e1,e2⟩:=ak e;simp only[Reps]at r;obtain⟨x,xs,rfl,r1,r2⟩:=r;exact⟨x,xs,rfl,B,Hk,δ,d,x_,R,r1,e1,fun HN R1=>⟨B,Hk,x_,ds,i_,R1,r2,e2,k⟩⟩
def bw{τ:D->DEnv->Z_ DEnv}{υ:List D->DEnv->Z_ DEnv}{n:Nat}(h:∀ds δ i_,υ ds δ=some i_->ds.length=n)(ds:List D)(δ i_:DEnv)(e:ah τ υ ds δ=some i_):ds.length=n+1:=by
 cases ds with
 |nil=>simp only[ah]at e;trivial
 |cons d ds=>
  simp only[ah]at e;obtain⟨x_,_,e2⟩:=ak e;rw[List.length_cons,h _ _ _ e2]
def eL(ds:List D)(δ i_:DEnv)(e:toNil ds δ=some i_):ds.length=0:=by
 cases ds with
 |nil=>rfl
 |cons d ds=>simp only[toNil]at e;trivial
theorem AS{es:List Expr}{k:Nat}{υ:List D->DEnv->Z_ DEnv}{n:Nat}(hc:X.calm=true)(h:DGs X es υ)(hl:∀ds δ i_,υ ds δ=some i_->ds.length=n)
  (hn:(assignEach es X.env).length=n:=by rfl)(FD:(assignEach es X.env).findIdx? (·.1)=none:=by rfl):DG X (.Tuple es k pos) (aK υ):=
 (A0 hc h hn FD).imp fun v σ H Q hz=>by
  obtain⟨B,Hk,δ,d,i_,R,r,e,k⟩:=hz;cases d with
  |tup ds=>
   simp only[aK]at e;simp only[Rep]at r;obtain⟨a,xs,rfl,hq,rs⟩:=r;exact⟨a,xs,rfl,SqT.of hq,by rw[<-rs.length];exact hl _ _ _ e,B,Hk,δ,ds,i_,R,rs,e,k⟩
  |_=>simp only[aK]at e;trivial
end
def aX(δ:DEnv):Prop:=∀(i:Nat) d,δ[i]?≠some (some (d,true))
structure Anew (τ:D->DEnv->Z_ DEnv):Prop where
 new:∀d d' δ i_,τ d δ=some i_->τ d' i_=τ d' δ
 own:∀d δ i_,τ d δ=some i_->aX δ->aX i_
def fN{δ:DEnv}{i:Nat}{d:D}(h:aX δ):aX (δ.set i (some (d,false))):=fun j e q=>by
 by_cases hj:i=j
 .subst hj
  rw[List.getElem?_set]at q
  simp at q
 .rw[ZP hj]at q
  exact h j e q
def hV(i:Nat):∀d δ i_,aa i d δ=some i_->aX δ->aX i_:=fun d δ i_ h n=>by
 unfold aa at h
 by_cases q:i<δ.length
 .rw[Z0 q]at h;obtain rfl:=Z9 h;exact fN n
 .rw[ZY q]at h;trivial
def wY:∀ds δ i_,toNil ds δ=some i_->aX δ->aX i_:=fun ds δ i_ h n=>by
 cases ds with
 |nil=>simp only[toNil]at h;obtain rfl:=Z9 h;exact n
 |cons d ds=>simp only[toNil]at h;trivial
def mn{τ:D->DEnv->Z_ DEnv}{υ:List D->DEnv->Z_ DEnv}(h1:∀d δ i_,τ d δ=some i_->aX δ->aX i_)(h2:∀ds δ i_,υ ds δ=some i_->aX δ->aX i_):∀ds δ i_,ah τ υ ds δ=some i_->aX δ->aX i_:=fun ds δ i_ h n=>by
 cases ds with
 |nil=>simp only[ah]at h;trivial
 |cons d ds=>
  simp only[ah]at h;obtain⟨x_,e1,e2⟩:=ak h;exact h2 _ _ _ e2 (h1 _ _ _ e1 n)
def xL{υ:List D->DEnv->Z_ DEnv}(h2:∀ds δ i_,υ ds δ=some i_->aX δ->aX i_):∀d δ i_,aK υ d δ=some i_->aX δ->aX i_:=fun d δ i_ h n=>by
 cases d with
 |tup ds=>exact h2 ds δ i_ h n
 |_=>simp only[aK]at h;trivial
def fq(i:Nat):Anew (aa i):=Anew.mk (own:=hV i)<|fun d d' δ i_ h=>by
 unfold aa at h⊢
 by_cases q:i<δ.length
 .rw[Z0 q]at h;obtain rfl:=Z9 h
  rw[Zk,Z0 q,Z0 q,W2]
 .rw[ZY q]at h;trivial
def pT(i j:Nat)(Ir:i≠j):Anew (aK (ah (aa i) (ah (aa j) toNil))):=Anew.mk (own:=xL (mn (hV i) (mn (hV j) wY)))<|fun d d' δ i_ h=>by
 cases d with
 |tup ds=>
  cases ds with
  |nil=>simp only[aK,ah]at h;trivial
  |cons a ds=>
   cases ds with
   |nil=>simp only[aK,ah]at h;obtain⟨_,_,h⟩:=ak h;trivial
   |cons b ds=>
    cases ds with
    |cons c ds=>simp only[aK,ah]at h;obtain⟨_,_,h⟩:=ak h;obtain⟨_,_,h⟩:=ak h;simp only[toNil]at h;trivial
    |nil=>
     simp only[aK,ah]at h;obtain⟨x_,h1,h⟩:=ak h;obtain⟨JB,h2,h⟩:=ak h;simp only[toNil]at h;obtain rfl:=Z9 h;unfold aa at h1
     by_cases qi:i<δ.length
     .rw[Z0 qi]at h1;obtain rfl:=Z9 h1
      unfold aa at h2
      by_cases qj:j<(δ.set i (some (a,false))).length
      .rw[Z0 qj]at h2;obtain rfl:=Z9 h2
       rw[Zk]at qj;cases d' with
       |tup es=>
        cases es with
        |nil=>rfl
        |cons a' es=>
         cases es with
         |nil=>
          simp only[aK,ah,aa,Zk];rw[Z0 qi,Z0 qi];rfl
         |cons b' es=>
          have e3:(((List.set δ i (some (a,false))).set j (some (b,false))).set i (some (a',false))).set j (some (b',false))=(List.set δ i (some (a',false))).set j (some (b',false)):=by
           rw[List.set_comm _ _ Ir.symm,W2,W2]
          simp only[aK,ah,aa,Zk];rw[Z0 qi,Z0 qi];simp only[ae,ah,aa,Zk];rw[Z0 qj,Z0 qj,e3]
       |_=>rfl
      .rw[ZY qj]at h2;trivial
     .rw[ZY qi]at h1;trivial
 |_=>simp only[aK]at h;trivial
def ItD(K:Z5)(B:Z2->Prop)(H1:Hp)(J:It)(ds:List D):Prop:=∀H',Ext B H1 H'->J.stop ds.length H'/\∀(i:Nat) d,ds[i]?=some d->J.go i H'/\∀x GG,J.yld i H' x GG->Same H' GG/\Rep K B GG d x
noncomputable def tI(K:Z5)(m:Bool)(f:DEnv->Z_ (List D)):TI:=fun σ H R=>∃B Hk δ ds,Rel K B Hk δ σ H/\f δ=some ds/\∀J H1,Same H H1->ItD K (ba m B δ σ) H1 J ds->R J H1
abbrev DI(X:Cx)(m:Bool)(tg iter:Expr)(f:DEnv->Z_ (List D)):Prop:=PI X tg iter (tI X.K m f)
def cf(x:Z_ D):Z_ (List D):=match x with|some (.lst ds)=>some ds|_=>none
def tZ(x:Z_ D):Z_ (List D):=match x with|some (.tup ds)=>some ds|_=>none
def ji{x:Z_ D}{ds:List D}(h:cf x=some ds):x=some (.lst ds):=by
 unfold cf at h;split at h
 .obtain rfl:=Z9 h;rfl
 .trivial
def ky{x:Z_ D}{ds:List D}(h:tZ x=some ds):x=some (.tup ds):=by
 unfold tZ at h;split at h
 .obtain rfl:=Z9 h;rfl
 .trivial
def gT(lo:Int)(n:Nat):List D:=(List.range n).map fun(i:Nat)=>.int (lo+(i:Int))
section
variable{X:Cx}{m m' mm:Bool}{a b tg:Expr}{fa fb:DEnv->Z_ D}{pos p:Pos}
theorem kP(h:DE X m a fa):DI X m tg a (fun δ=>cf (fa δ)):=
 (r9 h).imp fun σ H Q hz=>by
  obtain⟨B,Hk,δ,ds,R,e,k⟩:=hz;refine⟨B,Hk,δ,_,R,ji e,fun v H' s r=>?_⟩
  simp only[Rep]at r;obtain⟨l,xs,rfl,hq,rs⟩:=r;refine⟨l,rfl,⟨xs,hq.sq⟩,k _ H' s fun H2 x=>?_⟩
  have H0:=hq.ext x;have Ip:=rs.ext x;refine⟨⟨xs,H0.sq,by rw[rs.length];exact ZU _⟩,fun i d hd=>?_⟩
  obtain⟨y,hy,ry⟩:=Ip.get hd;refine⟨⟨xs,y,H0.sq,hy⟩,fun z H3 ⟨e3,hz⟩=>⟨by rw[e3];exact Same.refl _,?_⟩⟩
  rw[e3];have:=hz xs H0.sq;rw[hy]at this;obtain rfl:=Z9 this;exact ry
theorem zC(h:DE X m a fa):DI X m tg a (fun δ=>tZ (fa δ)):=
 (zY h).imp fun σ H Q hz=>by
  obtain⟨B,Hk,δ,ds,R,e,k⟩:=hz;refine⟨B,Hk,δ,_,R,ky e,fun v H' s r=>?_⟩
  simp only[Rep]at r;obtain⟨l,xs,rfl,hq,rs⟩:=r;refine⟨l,rfl,⟨xs,SqT.of hq⟩,k _ H' s fun H2 x=>?_⟩
  have H0:SqT X.K H2 l xs:=SqT.of (x.tups _ _ hq);have Ip:=rs.ext x;refine⟨⟨xs,H0,by rw[rs.length];exact ZU _⟩,fun i d hd=>?_⟩
  obtain⟨y,hy,ry⟩:=Ip.get hd;refine⟨⟨xs,y,H0,hy⟩,fun z H3 ⟨e3,hz⟩=>⟨by rw[e3];exact Same.refl _,?_⟩⟩
  rw[e3];have:=hz xs H0;rw[hy]at this;obtain rfl:=Z9 this;exact ry
def xR{K:Z5}{B:Z2->Prop}{H1:Hp}(lo:Int)(n:Nat):ItD K B H1 (Itr lo n) (gT lo n):=fun H' x=>by
 refine⟨by show n<=(gT lo n).length;unfold gT;simp,fun i d hd=>?_⟩
 unfold gT at hd;rw[YD]at hd
 cases q:(List.range n)[i]? with
 |none=>rw[q]at hd;trivial
 |some j=>
  rw[q]at hd;obtain⟨hi,ej⟩:=ZW.mp q
  rw[List.getElem_range]at ej;subst ej;rw[XD]at hi;simp only[Option.map_some,ZR]at hd;subst hd;refine⟨hi,fun z H3 ⟨e3,hz⟩=>⟨by rw[e3];exact Same.refl _,?_⟩⟩
  simp only[Rep];exact hz
def qD(x:Z_ D):Z_ (List D):=match x with|some (.int j)=>if(decide (-(2 ^ 62)<=j/\j<2 ^ 62))=true then some (gT 0 j.toNat) else none|_=>none
theorem yY(g:Gl X "range")(hm:X.mg "range"=none)(h:DE X m a fa)(hs:starEach [a] X.env=[(false,eval a X.env)]:=by rfl):DI X mm tg (.Call (.Name "range" p) [a] [] pos) (fun δ=>qD (fa δ)):=
 (qa g hm (aw h aO hs) hs).imp fun σ H Q hz=>by
  obtain⟨B,Hk,δ,ds,R,e,k⟩:=hz;unfold qD at e;dsimp only at e;split at e
  .rename_i j q
   by_cases c:(decide (-(2 ^ 62)<=j/\j<2 ^ 62))=true
   .rw[Z0 c]at e;obtain rfl:=Z9 e
    have c':=Zc c;refine oX R q fun v H' s R' r=>?_
    simp only[Rep]at r;subst r;exact⟨j,rfl,c'.1,c'.2,k _ H' s (xR 0 _)⟩
   .rw[ZY c]at e;trivial
  .trivial
end
noncomputable def am(body:D->DEnv->Z_ Out):List D->DEnv->Z_ Out
 |[],δ=>some (.next δ)
 |d::ds,δ=>match body d δ with
  |some (.next i_)=>am body ds i_
  |some (.cont i_)=>am body ds i_
  |some (.brk i_)=>some (.next i_)
  |some (.ret e fr)=>some (.ret e fr)
  |none=>none
section
variable{X:Cx}{tg iter:Expr}{body:List Stmt}{fi:DEnv->Z_ (List D)}{τ:D->DEnv->Z_ DEnv}{gb:DEnv->Z_ Out}{pos:Pos}
theorem Ay(hp:PassesOwn (model X.prog X.w) X.A X.env X.xe)(hc:X.calm=true)(hi:DI X false tg iter fi)(hg:DG X tg τ)(hb:DSs X body gb)(hs:∀x,foldedSetIterable iter X.env x=pure x:=by intro _;rfl):
  DS X (.For tg iter body [] pos) (fun δ=>ae (fi δ) fun ds=>am (fun d δ=>ae (τ d δ) gb) ds δ):=
 (rX hp hc hi hg hb hs).imp fun Dn σ H hz=>by
  obtain⟨B,Hk,δ,o,R,e,k⟩:=hz;obtain⟨ds,e1,e2⟩:=ak e;refine⟨B,Hk,δ,ds,R,e1,fun J H1 s1 it=>?_⟩
  have HZ:ItD X.K B H1 J ds:=it;refine⟨fun i n j_ H'=>n=ds.length - i/\i<=ds.length/\Ext B H1 H'/\∃i_,Rel X.K B Hk i_ j_ H'/\am (fun d δ=>ae (τ d δ) gb) (ds.drop i) i_=some o,
   ⟨ds.length,by simp,Zt _,Ext.refl,δ,R.to s1,e2⟩,?_⟩
  rintro i n j_ H' ⟨rfl,hi,x,i_,R',e'⟩
  obtain⟨FD,IP⟩:=HZ H' x
  by_cases ka:i<ds.length
  .obtain⟨go,yl⟩:=IP i ds[i] (by simp[ka])
   refine .inr ⟨go,fun Fz H2=>Ext B H1 H2/\∃JB,Rel X.K B Hk JB Fz H2/\am (fun d δ=>ae (τ d δ) gb) (ds.drop (i+1)) JB=some o,fun Fz H2 z=>⟨_,by lia,rfl,ka,z⟩,fun v H2 hy=>?_⟩
   obtain⟨sy,rv⟩:=yl v H2 hy
   replace x:=x.trans (R'.ext sy)
   replace R':=R'.to sy
   rw[Zf ka]at e';simp only[am]at e';cases q:ae (τ ds[i] i_) gb with
   |none=>rw[q]at e';trivial
   |some o1=>
    rw[q]at e';obtain⟨x_,q1,q2⟩:=ak q;refine⟨B,Hk,i_,ds[i],x_,R',rv,q1,fun F6 R3=>⟨B,Hk,x_,o1,R3,q2,?_⟩⟩
    have kx:=k.ext (R.ext s1);cases o1 with
    |next HP=>exact fun IC H4 x4 R4=>⟨x.trans x4,HP,R4,e'⟩
    |cont HP=>exact fun IC H4 x4 R4=>⟨x.trans x4,HP,R4,e'⟩
    |brk HP=>simp only at e';obtain rfl:=Z9 e';exact fun IC H4 x4 R4=>kx IC H4 (x.trans x4) R4
    |ret d fr=>simp only at e';obtain rfl:=Z9 e';exact fun v4 H4 x4 R4=>kx v4 H4 (x.trans x4) R4
  .have w_:i=ds.length:=by lia
   subst w_;rw[Xw]at e';simp only[am]at e';obtain rfl:=Z9 e';exact .inl ⟨FD,k j_ H' ((R.ext s1).trans x) R'⟩
end
noncomputable def bb(h:D->Z_ (Z_ D)):List D->Z_ (List D)
 |[]=>some []
 |d::ds=>match h d with
  |none=>none
  |some none=>bb h ds
  |some (some y)=>match bb h ds with
   |some l=>some (y::l)
   |none=>none
noncomputable def ax(bo:Bool)(bs:List Bool)(δ:DEnv):DEnv:=List.zipWith (fun(b:Bool) (o:Z_ (D×Bool))=>if b=true then(match o with|some (d,ow)=>if(ow&&!bo)=true then none else some (d,false)|none=>none) else none) bs δ
def cn{bo:Bool}{bs:List Bool}{δ:DEnv}{i:Nat}{d:D}{ow:Bool}(h:(ax bo bs δ)[i]?=some (some (d,ow))):bs[i]?=some true/\ow=false/\rd bo i δ=some d:=by
 unfold ax at h;rw[WQ]at h
 cases e1:bs[i]? with
 |none=>rw[e1]at h;simp at h
 |some b=>
  cases e2:δ[i]? with
  |none=>rw[e1,e2]at h;simp at h
  |some o=>
   rw[e1,e2]at h;simp only[ZR]at h;cases b with
   |false=>simp at h
   |true=>
    rw[Z0 rfl]at h;cases o with
    |none=>trivial
    |some q=>
     obtain⟨d',PY⟩:=q;simp only at h
     by_cases c:(PY&&!bo)=true
     .rw[Z0 c]at h;trivial
     .rw[ZY c]at h;cases h
      exact⟨rfl,rfl,by unfold rd;rw[e2];simp only[ZY c]⟩
def ki{K:Z5}{B:Z2->Prop}{Hk H:Hp}{δ:DEnv}{σ:St}{bo:Bool}{bs:List Bool}(R:Rel K B Hk δ σ H)(hl:bs.length=σ.length):Rel K (ba bo B δ σ) H (ax bo bs δ) (oW bs σ) H:=by
 refine⟨Same.refl H,R.bsH bo,?_,fun i d h=>?_,fun i d h=>?_,fun i j d e a Ir h=>?_⟩
 .unfold ax;rw[List.length_zipWith,c4 hl,R.len,hl,Nat.min_self]
 .obtain⟨h1,_,h3⟩:=cn h
  obtain⟨v,h4,h5⟩:=R.rd h3;refine⟨v,?_,h5⟩
  unfold oW;rw[WQ,h1,h4]
  simp
 .obtain⟨_,h2,_⟩:=cn h
  trivial
 .obtain⟨_,h2,_⟩:=cn h
  trivial
def ar(x:Z_ (List D)):Z_ D:=match x with|some ds=>some (.lst ds)|none=>none
section
variable{X:Cx}{elt tg iter:Expr}{ifs:List Expr}{scope:Scope}{pos:Pos}{bo:Bool}{fi:DEnv->Z_ (List D)}{τ:D->DEnv->Z_ DEnv}{ft:DEnv->Z_ Bool}{fe:DEnv->Z_ D}{bs:List Bool}
abbrev DTs(X:Cx)(ifs:List Expr)(f:DEnv->Z_ Bool):Prop:=PTs X ifs (tMT X.K f)
theorem lS{X:Cx}:DTs X [] (fun _=>some true):=fun a_ s σ H Q I hz=>by obtain⟨B,Hk,δ,d,R,e,k⟩:=hz;obtain rfl:=Z9 e;exact yI a_ s σ H Q I (k H (Same.refl H))
theorem pC{X:Cx}{c:Expr}{f:DEnv->Z_ Bool}(h:DT X c f):DTs X [c] f:=yL h
noncomputable def aC(τ:D->DEnv->Z_ DEnv)(ft:DEnv->Z_ Bool)(fe:DEnv->Z_ D)(δ:DEnv)(d:D):Z_ (Z_ D):=ae (τ d δ) fun i_=>match ft i_ with|some true=>(match fe i_ with|some y=>some (some y)|none=>none)|some false=>some none|none=>none
noncomputable def bW(bo:Bool)(bs:List Bool)(τ:D->DEnv->Z_ DEnv)(ft:DEnv->Z_ Bool)(fe:DEnv->Z_ D)(δ:DEnv)(ds:List D):Z_ (List D):=if ds.length<=lim then bb (aC τ ft fe (ax bo bs δ)) ds else none
def fO{K:Z5}{σ:St}{H:Hp}{Q:VK}(F5:Anew τ)(hl:bs.length=σ.length){B:Z2->Prop}{Hk:Hp}{δ:DEnv}{ds ls:List D}(R:Rel K B Hk δ σ H)(e1:fi δ=some ds)(e2:bW bo bs τ ft fe δ ds=some ls)
  (k:∀a H',Same H H'->H a=none->(∃xs,H' a=some (.lst xs)/\Reps K (ba bo B δ σ) H' ls xs)->Q (.ref a) H'):uv (tI K bo fi) bs (tG K τ) (tMT K ft) (tM K false fe) σ H Q:=by
 unfold bW at e2
 by_cases Fv:ds.length<=lim
 .rw[Z0 Fv]at e2
  refine⟨B,Hk,δ,ds,R,e1,fun J H1 s1 it acc k_=>?_⟩
  have R1:=R.to s1;have nb:¬ba bo B δ σ acc:=fun z=>by obtain⟨o,q⟩:=R1.bsH bo acc z;rw[k_]at q;trivial
  have R2:Rel K (ba bo B δ σ) H1 (ax bo bs δ) (oW bs σ) (upd H1 acc (.lst [])):=(ki (bo:=bo) (bs:=bs) R1 hl).to (au k_);have L8:aX (ax bo bs δ):=fun j d h=>by obtain⟨_,h2,_⟩:=cn h;trivial
  have x0:Ext (ba bo B δ σ) H1 (upd H1 acc (.lst [])):=(au k_).ext (R1.bsH bo);refine⟨fun i n ys j_ H'=>n=ds.length - i/\i<=ds.length/\ys.length<=i/\H' acc=some (.lst ys)/\Ext (ba bo B δ σ) H1 H'/\∃i_ l1 l2,Rel K (ba bo B δ σ) H1 i_ j_ H'/\(∀d,τ d i_=τ d (ax bo bs δ))/\aX i_/\ls=l1++l2/\Reps K (ba bo B δ σ) H' l1 ys/\bb (aC τ ft fe (ax bo bs δ)) (ds.drop i)=some l2,
   ⟨ds.length,by simp,Zt _,ZU _,ag,x0,ax bo bs δ,[],ls,R2,fun _=>rfl,L8,rfl,Reps.nil,e2⟩,?_⟩
  rintro i n ys j_ H' ⟨rfl,hi,Mf,ha,x,i_,l1,l2,R',C_,P1,Ib,rs,ec⟩
  refine⟨ha,?_⟩
  obtain⟨FD,IP⟩:=it H' x
  by_cases ka:i<ds.length
  .obtain⟨go,yl⟩:=IP i ds[i] (by simp[ka])
   refine .inr ⟨go,fun v H2 hy=>?_⟩
   obtain⟨sy,rv⟩:=yl v H2 hy;have xy:=R'.ext sy
   replace ha:=sy acc _ ha
   replace rs:=rs.ext xy
   replace x:=x.trans xy
   replace R':=R'.to sy
   rw[Zf ka]at ec;simp only[bb]at ec;cases q:aC τ ft fe (ax bo bs δ) ds[i]with
   |none=>rw[q]at ec;trivial
   |some oy=>
    rw[q]at ec;obtain⟨x_,q1,q2⟩:=ak q;have JI:τ ds[i] i_=some x_:=by rw[C_];exact q1
    have FN:∀d,τ d x_=τ d (ax bo bs δ):=fun d=>by rw[F5.new _ d _ _ JI,C_ d]
    have L6:aX x_:=F5.own _ _ _ JI P1;refine⟨_,H1,i_,ds[i],x_,R',rv,JI,fun F6 R3=>?_⟩
    split at q2
    .rename_i qt
     refine⟨_,H1,x_,true,R3,qt,fun H3 s3=>wG ?_⟩
     split at q2
     .rename_i y qe
      obtain rfl:=Z9 q2;simp only at ec;cases qc:bb (aC τ ft fe (ax bo bs δ)) (ds.drop (i+1))with
      |none=>rw[qc]at ec;trivial
      |some l3=>
       rw[qc]at ec;obtain rfl:=Z9 ec;refine⟨_,H1,x_,y,R3.to s3,qe,fun v4 H4 s4 r4=>?_⟩
       have LW:=s3.trans s4;have OL:H4 acc=some (.lst ys):=LW acc _ ha;have x4:Ext (ba bo B δ σ) H2 H4:=R3.ext LW;have PH:Reps K (ba bo B δ σ) H4 l1 ys:=rs.ext x4;have PN:Rep K (ba bo B δ σ) H4 y v4:=r4;have x5:Ext (ba bo B δ σ) H4 (upd H4 acc (.lst (ys++[v4]))):=bF OL trivial nb;have R5:Rel K (ba bo B δ σ) H1 x_ F6 (upd H4 acc (.lst (ys++[v4]))):=by
        have R4:=R3.to LW;refine⟨R4.same.put k_,R4.bor,R4.len,fun j d h=>?_,fun j d h=>?_,R4.dis⟩
        .obtain⟨v,h1,h2⟩:=R4.var j d h
         exact⟨v,h1,h2.ext x5⟩
        .obtain⟨c,h1,h2,h3⟩:=R4.own j d h
         exact(L6 j d h).elim
       refine⟨OL,by have:=aH Fv;lia,ds.length - (i+1),by lia,rfl,ka,by rw[Zz,List.length_singleton];lia,ag,x.trans (x4.trans x5),x_,l1++[y],l3,R5,FN,L6,by rw[Ib,Zg];rfl,?_,qc⟩
       exact(PH.ext x5).append (Reps.cons (PN.ext x5) Reps.nil)
     .trivial
    .rename_i qt
     obtain rfl:=Z9 q2;refine⟨_,H1,x_,false,R3,qt,fun H3 s3=>wC ?_⟩
     exact⟨ds.length - (i+1),by lia,rfl,ka,by lia,s3 acc _ ha,x.trans (R3.ext s3),x_,l1,l2,R3.to s3,FN,L6,Ib,rs.ext (R3.ext s3),ec⟩
    .trivial
  .have w_:i=ds.length:=by lia
   subst w_;rw[Xw]at ec;simp only[bb]at ec;obtain rfl:=Z9 ec;rw[Y6]at Ib;subst Ib;exact .inl ⟨FD,k acc H' (s1.trans R'.same) (s1.free k_) ⟨ys,ha,rs⟩⟩
 .rw[ZY Fv]at e2;trivial
end
section
variable{X:Cx}{elt tg iter:Expr}{ifs:List Expr}{scope:Scope}{pos:Pos}{bo:Bool}{fi:DEnv->Z_ (List D)}{τ:D->DEnv->Z_ DEnv}{ft:DEnv->Z_ Bool}{fe:DEnv->Z_ D}{bs:List Bool}
def pH(hc:X.calm=true)(F5:Anew τ)(hi:DI X bo tg iter fi)(S:CompScope X scope bs)
  (hg:∀cl C d_ e_ ex pn,DG (av X scope cl C d_ e_ ex pn) tg τ) (ht:∀cl C d_ e_ ex pn,DTs (av X scope cl C d_ e_ ex pn) ifs ft) (he:∀cl C d_ e_ ex pn,DE (av X scope cl C d_ e_ ex pn) false elt fe)
  (hs:∀x,foldedSetIterable iter X.env x=pure x):PE X (.ListComp elt [⟨tg,iter,ifs,0⟩] scope pos) (fun σ H Q=>∃B Hk δ ds ls,Rel X.K B Hk δ σ H/\fi δ=some ds/\bW bo bs τ ft fe δ ds=some ls/\
   ∀a H',Same H H'->H a=none->(∃xs,H' a=some (.lst xs)/\Reps X.K (ba bo B δ σ) H' ls xs)->Q (.ref a) H'):=by
 intro a_ s σ H Q I ⟨B,Hk,δ,ds,ls,R,e1,e2,k⟩;exact yN hc hi S hg ht he hs a_ s σ H Q I (fO F5 (by rw[S.len,I.len]) R e1 e2 k)
theorem sA(hc:X.calm=true)(F5:Anew τ)(hi:DI X false tg iter fi)(S:CompScope X scope bs)
  (hg:∀cl C d_ e_ ex pn,DG (av X scope cl C d_ e_ ex pn) tg τ) (ht:∀cl C d_ e_ ex pn,DTs (av X scope cl C d_ e_ ex pn) ifs ft) (he:∀cl C d_ e_ ex pn,DE (av X scope cl C d_ e_ ex pn) false elt fe)
  (hs:∀x,foldedSetIterable iter X.env x=pure x:=by intro _;rfl):DF X (.ListComp elt [⟨tg,iter,ifs,0⟩] scope pos) (fun δ=>ar (ae (fi δ) (bW false bs τ ft fe δ))):=
 (pH hc F5 hi S hg ht he hs).imp fun σ H Q hz=>by
  obtain⟨B,Hk,δ,d,R,e,k⟩:=hz;cases q:ae (fi δ) (bW false bs τ ft fe δ)with
  |none=>simp only[q,ar]at e;trivial
  |some ls=>
   simp only[q,ar]at e;obtain rfl:=Z9 e;obtain⟨ds,e1,e2⟩:=ak q;exact⟨B,Hk,δ,ds,ls,R,e1,e2,fun a H' s n ob=>k a H' s n ob⟩
def cW(x:Z_ (List D)):Z_ (List D):=match x with|some ds=>if D.flats ds=true then some ds else none|none=>none
def fy{x:Z_ (List D)}{ds:List D}(h:cW x=some ds):x=some ds/\D.flats ds=true:=by
 unfold cW at h;cases x with
 |none=>trivial
 |some e=>
  simp only at h
  by_cases q:D.flats e=true
  .rw[Z0 q]at h;obtain rfl:=Z9 h;exact⟨rfl,q⟩
  .rw[ZY q]at h;trivial
theorem m3(hc:X.calm=true)(F5:Anew τ)(hi:DI X true tg iter fi)(S:CompScope X scope bs)
  (hg:∀cl C d_ e_ ex pn,DG (av X scope cl C d_ e_ ex pn) tg τ) (ht:∀cl C d_ e_ ex pn,DTs (av X scope cl C d_ e_ ex pn) ifs ft) (he:∀cl C d_ e_ ex pn,DE (av X scope cl C d_ e_ ex pn) false elt fe)
  (hs:∀x,foldedSetIterable iter X.env x=pure x:=by intro _;rfl):DF X (.ListComp elt [⟨tg,iter,ifs,0⟩] scope pos) (fun δ=>ar (cW (ae (fi δ) (bW true bs τ ft fe δ)))):=
 (pH hc F5 hi S hg ht he hs).imp fun σ H Q hz=>by
  obtain⟨B,Hk,δ,d,R,e,k⟩:=hz;cases q:cW (ae (fi δ) (bW true bs τ ft fe δ))with
  |none=>simp only[q,ar]at e;trivial
  |some ls=>
   simp only[q,ar]at e;obtain rfl:=Z9 e;obtain⟨q1,q2⟩:=fy q;obtain⟨ds,e1,e2⟩:=ak q1;exact⟨B,Hk,δ,ds,ls,R,e1,e2,fun a H' s n hz=>by obtain⟨xs,h1,h2⟩:=hz;exact k a H' s n ⟨xs,h1,Reps.flat q2 h2⟩⟩
def yx{i:Nat}{y:Str}{py E7:Pos}(hN:X.N.Nodup)(hc:X.calm=true)(F5:Anew τ)(hi:DI X false tg iter fi)(S:CompScope X scope bs)
  (hg:∀cl C d_ e_ ex pn,DG (av X scope cl C d_ e_ ex pn) tg τ) (ht:∀cl C d_ e_ ex pn,DTs (av X scope cl C d_ e_ ex pn) ifs ft) (he:∀cl C d_ e_ ex pn,DE (av X scope cl C d_ e_ ex pn) false elt fe)
  (Kn:X.N[i]?=some y:=by rfl)(hy:X.env.scope.names.lookup y=some .local:=by rfl)
  (F9:swapsWith (.ListComp elt [⟨tg,iter,ifs,0⟩] scope pos) (some (.Name y py)) E7.line X.env=pure true:=by rfl)
  (hs:∀x,foldedSetIterable iter X.env x=pure x:=by intro _;rfl):DS X (.Assign [.Name y py] (.ListComp elt [⟨tg,iter,ifs,0⟩] scope pos) E7) (fun δ=>cQ i (ar (ae (fi δ) (bW false bs τ ft fe δ))) δ):=by
 intro a_ s σ H Dn I ⟨B,Hk,δ,o,R,e,k⟩;obtain⟨d,ed,ka,rfl⟩:=eZ e;cases q:ae (fi δ) (bW false bs τ ft fe δ)with
 |none=>simp only[q,ar]at ed;trivial
 |some ls=>
  simp only[q,ar]at ed;obtain rfl:=Z9 ed;obtain⟨ds,e1,e2⟩:=ak q;refine lI hc hi S hg ht he hN Kn hy F9 hs a_ s σ H Dn I (fO (Q:=fun x H1=>fw i x σ H1 Dn.nx) F5 (by rw[S.len,I.len]) R e1 e2 fun a H' s n ob=>?_)
  refine k _ H' (R.ext s) ((R.to s).setOwn (by rw[<-R.len];exact ka) (R.same.free n) ob fun j e hj h1 h2=>?_)
  obtain⟨b,h3,_,HY⟩:=R.own j e h1;rw[h2]at h3;cases h3;obtain⟨o,e'⟩:=HY.there;rw[n]at e';trivial
def uj{i:Nat}{y:Str}{py E7:Pos}(hN:X.N.Nodup)(hc:X.calm=true)(F5:Anew τ)(hi:DI X true tg iter fi)(S:CompScope X scope bs)
  (hg:∀cl C d_ e_ ex pn,DG (av X scope cl C d_ e_ ex pn) tg τ) (ht:∀cl C d_ e_ ex pn,DTs (av X scope cl C d_ e_ ex pn) ifs ft) (he:∀cl C d_ e_ ex pn,DE (av X scope cl C d_ e_ ex pn) false elt fe)
  (Kn:X.N[i]?=some y:=by rfl)(hy:X.env.scope.names.lookup y=some .local:=by rfl)
  (F9:swapsWith (.ListComp elt [⟨tg,iter,ifs,0⟩] scope pos) (some (.Name y py)) E7.line X.env=pure true:=by rfl)
  (hs:∀x,foldedSetIterable iter X.env x=pure x:=by intro _;rfl):DS X (.Assign [.Name y py] (.ListComp elt [⟨tg,iter,ifs,0⟩] scope pos) E7) (fun δ=>cQ i (ar (cW (ae (fi δ) (bW true bs τ ft fe δ)))) δ):=by
 intro a_ s σ H Dn I ⟨B,Hk,δ,o,R,e,k⟩;obtain⟨d,ed,ka,rfl⟩:=eZ e;cases q:cW (ae (fi δ) (bW true bs τ ft fe δ))with
 |none=>simp only[q,ar]at ed;trivial
 |some ls=>
  simp only[q,ar]at ed;obtain rfl:=Z9 ed;obtain⟨q1,q2⟩:=fy q;obtain⟨ds,e1,e2⟩:=ak q1;refine lI hc hi S hg ht he hN Kn hy F9 hs a_ s σ H Dn I (fO (Q:=fun x H1=>fw i x σ H1 Dn.nx) F5 (by rw[S.len,I.len]) R e1 e2 fun a H' s n ob=>?_)
  obtain⟨xs,x1,x2⟩:=ob;refine k _ H' (R.ext s) ((R.to s).setOwn (by rw[<-R.len];exact ka) (R.same.free n) ⟨xs,x1,Reps.flat q2 x2⟩ fun j e hj h1 h2=>?_)
  obtain⟨b,h3,_,HY⟩:=R.own j e h1;rw[h2]at h3;cases h3;obtain⟨o,e'⟩:=HY.there;rw[n]at e';trivial
end
def bK(n:Nat)(ds:List D):DEnv:=ds.map (fun d=>some (d,false))++List.replicate (n - ds.length) none
def oV(x:Z_ Out):Z_ (D×Bool):=match x with|some (.ret d fr)=>some (d,fr)|some (.next _)=>some (.non,false)|_=>none
def bG(n np:Nat)(g:DEnv->Z_ Out)(ds:List D):Z_ (D×Bool):=if ds.length=np then oV (g (bK n ds)) else none
def eU{K:Z5}{B:Z2->Prop}{H:Hp}{N:List Str}{ds:List D}{vs:List V}(hb:∀a,B a->∃o:HOn,H a=some o.1)(r:Reps K B H ds vs)(hl:ds.length<=N.length):Rel K B H (bK N.length ds) (bM N vs) H:=by
 have el:=r.length;have key:∀(i:Nat) d ow,(bK N.length ds)[i]?=some (some (d,ow))->ow=false/\ds[i]?=some d:=fun i d ow h=>by
  unfold bK at h
  by_cases hi:i<ds.length
  .rw[YA (by simpa using hi),YD]at h
   cases q:ds[i]? with
   |none=>rw[q]at h;trivial
   |some e=>rw[q]at h;simp only[Option.map_some,ZR,XM]at h;exact⟨h.2.symm,by rw[h.1]⟩
  .rw[Yq (by simpa using hi),List.getElem?_replicate]at h
   split at h<;>cases h
 refine⟨Same.refl H,hb,?_,fun i d h=>?_,fun i d h=>?_,fun i j d e a _ h=>?_⟩
 .unfold bK bM
  simp only[Zz,ZJ,List.length_replicate]
  lia
 .obtain⟨_,h2⟩:=key i d _ h
  obtain⟨v,h3,h4⟩:=r.get h2;refine⟨v,?_,h4⟩
  have hi:i<vs.length:=(ZW.mp h3).1
  unfold bM;rw[YA (by simpa using hi),YD,h3]
  rfl
 .have:=(key i d _ h).1;trivial
 .have:=(key i d _ h).1;trivial
section
variable{P:ZC}{w:Zo}{K:Z5}{mg:Str->Z_ Z7}{base:Heap}
def zr{x qual:Str}{st:Stmt}{f:Z2}{fd:FuncData}{N ps:List Str}{k:Nat}{g:DEnv->Z_ Out}(F:Fun K x qual st f fd)(S:FnScope N ps (defScope st))(hb:Binds K fd ps [])(hm:mg x=some (.ref f))(hn:ps.length<=N.length)
  (body:∀(E5:Z7)(A:Zu)(outer:List Env)(s:Z4)(H:Hp)(E:XK),Room k (A.deeper (envOfC qual (defScope st) s.heap.objs.size f E5))->DSs (kC CX0 P w K mg base N qual (defScope st) f E5 A outer s H E).nox (defBody st) g):
  FnOk P w K mg base CX0 (k+1) f fd ps (spM K (bG N.length ps.length g))/\FnM P w K mg base (k+1) x (bG N.length ps.length g):=by
 have key:FnOk P w K mg base CX0 (k+1) f fd ps (spM K (bG N.length ps.length g)):=by
  refine F.ok S (fun vs H Q E h=>?_) (fun E5 A outer s H vs Q E hr h=>?_)
  .obtain⟨B,ds,r,fr,_,hr,hf,_⟩:=h
   unfold bG at hf
   by_cases q:ds.length=ps.length
   .rw[<-hr.length,q]
   .rw[ZY q]at hf;trivial
  .obtain⟨B,ds,r,fr,hB,Fb,hf,kk⟩:=h
   refine⟨_,body E5 A outer s H E hr,?_⟩
   unfold bG at hf
   by_cases q:ds.length=ps.length
   .rw[Z0 q]at hf
    refine⟨B,H,bK N.length ds,?_⟩
    have R:Rel K B H (bK N.length ds) (bM N vs) H:=eU hB Fb (by lia)
    cases qo:g (bK N.length ds)with
    |none=>rw[qo]at hf;trivial
    |some o=>
     rw[qo]at hf;refine⟨o,R,by first|exact qo|rfl,?_⟩
     cases o with
     |ret d Rn=>
      simp only[oV,ZR,XM]at hf;obtain⟨rfl,rfl⟩:=hf;exact fun v H' x s rr=>kk v H' s rr
     |next δ=>
      simp only[oV,ZR,XM]at hf;obtain⟨rfl,rfl⟩:=hf;exact fun j_ H' x R'=>kk .non H' R'.same (by unfold kB;rw[ZY Zv];simp only[Rep])
     |brk δ=>simp only[oV]at hf;trivial
     |cont δ=>simp only[oV]at hf;trivial
   .rw[ZY q]at hf;trivial
 exact⟨key,⟨f,fd,ps,key,hm,F.kp,hb⟩⟩
end
def c9{α:Type}:List α->List Bool->List α
 |x::xs,b::bs=>if b=true then x::c9 xs bs else c9 xs bs
 |_,_=>[]
def iw{α:Type}(bs:List Bool):c9 ([]:List α) bs=[]:=by unfold c9;rfl
def xE{α:Type}{xs:List α}{bs:List Bool}{i:Nat}{b:Bool}(h:i<xs.length)(hb:bs[i]?=some b):c9 (xs.drop i) (bs.drop i)=if b=true then xs[i]::c9 (xs.drop (i+1)) (bs.drop (i+1)) else c9 (xs.drop (i+1)) (bs.drop (i+1)):=by
 obtain⟨h2,e⟩:=ZW.mp hb
 rw[Zf h,Zf h2,e];rw[c9]
theorem eV{K:Z5}{B:Z2->Prop}{H:Hp}:∀{ds:List D}{xs:List V}{bs:List Bool},Reps K B H ds xs->Reps K B H (c9 ds bs) (c9 xs bs)
 |[],xs,bs,h=>by simp only[Reps]at h;subst h;rw[iw,iw];exact Reps.nil
 |d::ds,xs,bs,h=>by
  simp only[Reps]at h;obtain⟨x,r,rfl,h1,h2⟩:=h;cases bs with
  |nil=>unfold c9;exact Reps.nil
  |cons b bs=>
   rw[c9,c9];cases b with
   |true=>simp only[Y2];exact Reps.cons h1 (eV h2)
   |false=>simp only[ZK,Za];exact eV h2
def qG{K:Z5}{σ:St}{H:Hp}{Q:VK}{r j:Nat}{bs bl:List Bool}{ft:DEnv->Z_ Bool}{B:Z2->Prop}{Hk:Hp}{δ:DEnv}{ds:List D}(hl:bs.length=σ.length)(R:Rel K B Hk δ σ H)(hr:δ[r]?=some (some (.lst ds,true)))(hj:j<σ.length)
  (Kq:bl.length=ds.length) (Fv:ds.length<=lim) (QM:∀(i:Nat) d b,ds[i]?=some d->bl[i]?=some b->ft ((ax true bs δ).set j (some (d,false)))=some b)
  (k:∀l xs a H',σ[r]?=some (some (.ref l))->H l=some (.lst xs)->Reps K B H ds xs->Same H H'->H a=none->H' a=some (.lst (c9 xs bl))->Q (.ref a) H'):
  uv (Ad K (tq r)) bs (fw j) (tMT K ft) (tq j) σ H Q:=by
 obtain⟨l,h1,h2,xs,h3,h4⟩:=R.own r _ hr;have hlen:=h4.length;refine⟨.ref l,h1,l,rfl,⟨xs,.inl (.inl h3)⟩,fun acc k_=>?_⟩
 have nb:¬ba true B δ σ acc:=fun z=>by obtain⟨o,q⟩:=R.bsH true acc z;rw[k_]at q;trivial
 have R2:Rel K (ba true B δ σ) H (ax true bs δ) (oW bs σ) (upd H acc (.lst [])):=(ki (bo:=true) (bs:=bs) R hl).to (au k_);have L8:aX (ax true bs δ):=fun j d h=>by obtain⟨_,h2,_⟩:=cn h;trivial
 refine⟨fun i n ys j_ H'=>n=xs.length - i/\i<=xs.length/\ys.length<=i/\H' acc=some (.lst ys)/\Same H H'/\c9 xs bl=ys++c9 (xs.drop i) (bl.drop i)/\j_.length=σ.length/\∃i_,Rel K (ba true B δ σ) H i_ j_ H'/\aX i_/\i_.set j none=(ax true bs δ).set j none,
  ⟨xs.length,by simp,Zt _,ZU _,ag,au k_,by simp,c4 hl,ax true bs δ,R2,L8,rfl⟩,?_⟩
 rintro i n ys j_ H' ⟨rfl,hi,Mf,ha,sm,hp,Mo,i_,R',nw,hd⟩
 refine⟨ha,?_⟩
 have hq:SqL K H' l xs:=.inl (.inl (sm l _ h3))
 by_cases ka:i<xs.length
 .refine .inr ⟨⟨xs,xs[i],hq,by simp⟩,fun x H2 ⟨e2,hx⟩=>?_⟩
  subst e2;obtain rfl:xs[i]=x:=by have:=hx xs hq;simpa[ka]using this
  obtain⟨d,FN,rd⟩:=(h4.ext (sm.ext R.borH)).get' (i:=i) (x:=xs[i]) (by simp[ka])
  have FI:Rep K (ba true B δ σ) H2 d xs[i]:=rd.more fun a h=>hU true a h
  have R3:=R'.set (i:=j) (by lia) FI
  have Nt:∀y,i_.set j y=(ax true bs δ).set j y:=fun y=>by
   have:=congrArg (fun z=>z.set j y) hd
   simpa only[W2]using this
  obtain⟨b,hb⟩:∃b,bl[i]?=some b:=⟨bl[i]'(by lia),by simp⟩
  have L5:aX (i_.set j (some (d,false))):=fun m e z=>by
   by_cases hm:m=j
   .subst hm
    have Km:m<i_.length:=by rw[R'.len];lia
    rw[ZF Km]at z
    cases z
   .rw[ZP (Zy hm)]at z
    exact nw m e z
  have KY:(i_.set j (some (d,false))).set j none=(ax true bs δ).set j none:=by rw[W2];exact hd
  show tMT K ft (j_.set j (some xs[i])) H2 _;refine⟨_,H,_,b,R3,by rw[Nt];exact QM i d b FN hb,fun H3 s3=>?_⟩
  have MI:=s3 acc _ ha;have pa:=xE ka hb;rw[pa]at hp;cases b with
  |false=>
   rw[ZY Zv]at hp;exact wC ⟨xs.length - (i+1),by lia,rfl,ka,by lia,MI,sm.trans s3,hp,by rw[Zk];exact Mo,_,R3.to s3,L5,KY⟩
  |true=>
   rw[Z0 rfl]at hp;have R4:=R3.to s3;have x5:Ext (ba true B δ σ) H3 (upd H3 acc (.lst (ys++[xs[i]]))):=bF MI trivial nb;have R5:Rel K (ba true B δ σ) H (i_.set j (some (d,false))) (j_.set j (some xs[i])) (upd H3 acc (.lst (ys++[xs[i]]))):=by
    refine⟨R4.same.put k_,R4.bor,R4.len,fun m e h=>?_,fun m e h=>(L5 m e h).elim,R4.dis⟩
    obtain⟨v,z1,z2⟩:=R4.var m e h;exact⟨v,z1,z2.ext x5⟩
   refine wG ⟨xs[i],ZF (by lia),MI,by have:=aH Fv;lia,xs.length - (i+1),by lia,rfl,ka,by rw[Zz,List.length_singleton];lia,ag,(sm.trans s3).put k_,by rw[hp,Zg];rfl,by rw[Zk];exact Mo,_,R5,L5,KY⟩
 .have w_:i=xs.length:=by lia
  subst w_;rw[Xw,iw,Y6]at hp;exact .inl ⟨⟨xs,hq,ZU _⟩,k l xs acc H' h1 h3 h4 sm k_ (by rw[hp];exact ha)⟩
def rC:bootBuiltins "list"=some (.type "list"):=by decide +kernel
def mP:bootBuiltins "tuple"=some (.type "tuple"):=by decide +kernel
def zD:bootBuiltins "sum"=some (.builtin "sum"):=by decide +kernel
def iC:bootBuiltins "isinstance"=some (.builtin "isinstance"):=by decide +kernel
def Ag:bootBuiltins "int"=some (.type "int"):=by decide +kernel
def zF:bootBuiltins "str"=some (.type "str"):=by decide +kernel
def xu:bootBuiltins "bool"=some (.type "bool"):=by decide +kernel
def zV:bootBuiltins "set"=some (.type "set"):=by decide +kernel
def dC:bootBuiltins "sorted"=some (.builtin "sorted"):=by decide +kernel
noncomputable def tj(x:Str)(lo hi:Z_ Int):Str:=if((Builtin.Str.strSliceIndices lo hi 1 x.length).length==x.length)=true then x else⟨((Builtin.Str.strSliceIndices lo hi 1 x.length).filterMap (x.cps[·]?)).toArray⟩
def iI(x:Str)(lo hi:Z_ Int):(tj x lo hi).length<=x.length:=by
 unfold tj;split
 .exact ZU _
 .show((Builtin.Str.strSliceIndices lo hi 1 x.length).filterMap (x.cps[·]?)).toArray.size<=_
  rw[ZQ];exact Zh (Xc _ _) (sliceIndices_le lo hi x.length)
section
variable{X:Cx}
def sP{v:Z7}{o:Z_ Int}(h:IsPart v o):∃l:Z_ (Int×Tok),v=partValue l/\l.map (·.1)=o:=by
 cases h with
 |none=>exact⟨none,rfl,rfl⟩
 |int i t=>exact⟨some (i,t),rfl,rfl⟩
def AV:SlR X (fun x lo hi H Q=>∃z,x=.str z/\z.length<=sizeLine/\Q (.str (tj z lo hi)) H):=by
 intro a_ s σ H x v vl vu lo hi sl Q I rx hs pl pu h;obtain⟨z,rfl,hz,q⟩:=h;obtain⟨t,rfl⟩:=rx;obtain⟨l,rfl,rfl⟩:=sP pl;obtain⟨u,rfl,rfl⟩:=sP pu;refine⟨"str",_,F.slot_str_getitem.lookup,typeIs_str s z t,wpAny_getItem_str_slice (l:=l) (u:=u) (st:=none) hs rfl ?_⟩
 have key:(sliceMade z t l u none)=if((Builtin.Str.strSliceIndices (l.map (·.1)) (u.map (·.1)) 1 z.length).length==z.length)=true then Made.val (.str z t) else Made.str ⟨((Builtin.Str.strSliceIndices (l.map (·.1)) (u.map (·.1)) 1 z.length).filterMap (z.cps[·]?)).toArray⟩:=by
  unfold sliceMade slicePicked;simp
 rw[key];refine post_val_or_made (fun hc=>?_) fun t' k=>⟨.str (tj z (l.map (·.1)) (u.map (·.1))),H,I.tok k,⟨t',rfl⟩,q⟩
 have hle:=iI z (l.map (·.1)) (u.map (·.1))
 unfold tj at hle;rw[ZY hc]at hle;exact Zh hle hz
end
def DO(X:Cx)(e:Z_ Expr)(f:DEnv->Z_ (Z_ Int)):Prop:=PO X e (fun σ H Q=>∃B Hk δ o,Rel X.K B Hk δ σ H/\f δ=some o/\∀H',Same H H'->Q o H')
def PO.imp{X:Cx}{e:Z_ Expr}{t t':TO}(h:PO X e t)(i:∀σ H Q,t' σ H Q->t σ H Q):PO X e t':=fun a_ s σ H Q I q=>h a_ s σ H Q I (i σ H Q q)
def iK(x:Z_ D):Z_ (Z_ Int):=match x with|some (.int i)=>some (some i)|_=>none
section
variable{X:Cx}{m m' mm:Bool}{a b:Expr}{fa fb:DEnv->Z_ D}{pos p p2:Pos}{lo hi:Z_ Expr}{fl fh:DEnv->Z_ (Z_ Int)}
theorem yO:DO X none (fun _=>some none):=xS.imp fun σ H Q hz=>by obtain⟨B,Hk,δ,o,R,e,k⟩:=hz;obtain rfl:=Z9 e;exact k H (Same.refl H)
theorem xX(h:DE X m a fa):DO X (some a) (fun δ=>iK (fa δ)):=(xf h).imp fun σ H Q hz=>by
 obtain⟨B,Hk,δ,o,R,e,k⟩:=hz;unfold iK at e;dsimp only at e;split at e
 .rename_i i q
  obtain rfl:=Z9 e;refine⟨B,Hk,δ,_,R,q,fun v H' s r=>?_⟩
  simp only[Rep]at r;exact⟨i,r,k H' s⟩
 .trivial
def Bb{K:Z5}{σ:St}{H:Hp}{B:Z2->Prop}{Hk:Hp}{δ:DEnv}{d:D}{l u:Z_ Int}{r:V->Z_ Int->Z_ Int->Hp->VK->Prop}{Q:VK}(R:Rel K B Hk δ σ H)(e1:fa δ=some d)(e2:fl δ=some l)(e3:fh δ=some u)
  (k:∀v H',Same H H'->Rel K B Hk δ σ H'->Rep K (ba m B δ σ) H' d v->r v l u H' Q):
  tSl r (tM K m fa) (fun σ H Q=>∃B Hk δ o,Rel K B Hk δ σ H/\fl δ=some o/\∀H',Same H H'->Q o H') (fun σ H Q=>∃B Hk δ o,Rel K B Hk δ σ H/\fh δ=some o/\∀H',Same H H'->Q o H') σ H Q:=
 ⟨B,Hk,δ,d,R,e1,fun v H1 s1 r1=>⟨B,Hk,δ,l,R.to s1,e2,fun H2 s2=>⟨B,Hk,δ,u,R.to (s1.trans s2),e3,fun H3 s3=>k v H3 (s1.trans (s2.trans s3)) (R.to (s1.trans (s2.trans s3))) (r1.same (R.to s1) (s2.trans s3))⟩⟩⟩
noncomputable def kN(x:Z_ D)(l u:Z_ (Z_ Int)):Z_ D:=match x,l,u with|some (.str z),some l,some u=>if z.length<=lim then some (.str (tj z l u)) else none|_,_,_=>none
theorem ya(ha:DE X m a fa)(hl:DO X lo fl)(hh:DO X hi fh):DE X mm (.Subscript a (.Slice lo hi none p2) pos) (fun δ=>kN (fa δ) (fl δ) (fh δ)):=
 (ms AV ha hl hh).imp fun σ H Q hz=>by
  obtain⟨B,Hk,δ,d,R,e,k⟩:=hz;unfold kN at e;dsimp only at e;split at e
  .rename_i z l u q1 q2 q3
   by_cases hz:z.length<=lim
   .rw[Z0 hz]at e;obtain rfl:=Z9 e
    refine Bb R q1 q2 q3 fun v H' s R' r=>?_
    simp only[Rep]at r;exact⟨z,r,aH hz,k _ H' s (by simp only[Rep])⟩
   .rw[ZY hz]at e;trivial
  .trivial
def rP(ds:List D)(lo hi:Z_ Int):List D:=(ds.drop (HT.sIx ds.length 0 lo)).take (HT.sIx ds.length ds.length hi - HT.sIx ds.length 0 lo)
def Reps.cut{K:Z5}{B:Z2->Prop}{H:Hp}{ds:List D}{xs:List V}(r:Reps K B H ds xs)(lo hi:Z_ Int):Reps K B H (rP ds lo hi) (yo xs lo hi):=by
 unfold rP yo;rw[r.length];exact(r.drop _).take _
def nN(x:Z_ D)(l u:Z_ (Z_ Int)):Z_ D:=match x,l,u with|some (.lst ds),some l,some u=>some (.lst (rP ds l u))|_,_,_=>none
theorem yV(ha:DE X false a fa)(hl:DO X lo fl)(hh:DO X hi fh):DF X (.Subscript a (.Slice lo hi none p2) pos) (fun δ=>nN (fa δ) (fl δ) (fh δ)):=
 (ms zh ha hl hh).imp fun σ H Q hz=>by
  obtain⟨B,Hk,δ,d,R,e,k⟩:=hz;unfold nN at e;dsimp only at e;split at e
  .rename_i ds l u q1 q2 q3
   obtain rfl:=Z9 e;refine Bb R q1 q2 q3 fun v H' s R' r=>?_
   simp only[Rep]at r;obtain⟨c,xs,rfl,hq,rs⟩:=r;refine⟨c,xs,rfl,hq.sq,fun p hp=>?_⟩
   have s2:=au (o:=.lst (yo xs l u)) hp;exact k p _ (s.trans s2) (s.free hp) ⟨_,ag,(rs.cut l u).same (m:=false) R' s2⟩
  .trivial
def xF(x y:Z_ D):Z_ D:=match x,y with|some (.str i),some (.str j)=>if i.length+j.length<=lim then some (.str (i++j)) else none|_,_=>none
theorem yZ(ha:DE X m a fa)(hb:DE X m' b fb):DE X mm (.BinOp a .Add b pos) (fun δ=>xF (fa δ) (fb δ)):=
 (uI oI ha hb).imp fun σ H Q hz=>by
  obtain⟨B,Hk,δ,d,R,e,k⟩:=hz;unfold xF at e;dsimp only at e;split at e
  .rename_i i j q1 q2
   by_cases hz:i.length+j.length<=lim
   .rw[Z0 hz]at e;obtain rfl:=Z9 e
    refine two R q1 q2 fun v u H' s R' r1 r2=>?_
    simp only[Rep]at r1 r2;subst r1 r2;exact⟨i,j,rfl,rfl,aH hz,k _ H' s (by simp only[Rep])⟩
   .rw[ZY hz]at e;trivial
  .trivial
def f8(x:Z_ D):Z_ D:=match x with|some d=>(match aP d with|some ds=>some (.lst ds)|none=>none)|none=>none
def v0{x:Z_ D}{g:List D->D}{d:D}(h:(match x with|some d=>(match aP d with|some ds=>some (g ds)|none=>none)|none=>none)=some d):∃e es,x=some e/\aP e=some es/\d=g es:=by
 split at h
 .rename_i e
  split at h
  .rename_i es he;obtain rfl:=Z9 h;exact⟨e,es,rfl,he,rfl⟩
  .trivial
 .trivial
theorem o9(g:Gl X "list")(hm:X.mg "list"=none)(ha:DE X false a fa)(hs:starEach [a] X.env=[(false,eval a X.env)]:=by rfl):DF X (.Call (.Name "list" p) [a] [] pos) (fun δ=>f8 (fa δ)):=
 (dG jD g hm rC (aw ha aO hs) (he:=hs)).imp fun σ H Q hz=>by
  obtain⟨B,Hk,δ,d,R,e,k⟩:=hz;obtain⟨d1,es,e1,hi,rfl⟩:=v0 (g:=D.lst) e;refine oX R e1 fun v H' s R' r=>?_
  obtain⟨p,xs,rfl,hq,rs⟩:=r.items hi;refine⟨p,xs,rfl,hq,fun l hl=>?_⟩
  have s2:=au (o:=.lst xs) hl;exact k l _ (s.trans s2) (s.free hl) ⟨_,ag,rs.same (m:=false) R' s2⟩
def cS(x:Z_ D):Z_ D:=match x with|some d=>(match aP d with|some ds=>some (.tup ds)|none=>none)|none=>none
theorem tN(g:Gl X "tuple")(hm:X.mg "tuple"=none)(ha:DE X m a fa)(hs:starEach [a] X.env=[(false,eval a X.env)]:=by rfl):DE X m (.Call (.Name "tuple" p) [a] [] pos) (fun δ=>cS (fa δ)):=
 (dG iP g hm mP (aw ha aO hs) (he:=hs)).imp fun σ H Q hz=>by
  obtain⟨B,Hk,δ,d,R,e,k⟩:=hz;obtain⟨d1,es,e1,hi,rfl⟩:=v0 (g:=D.tup) e;refine oX R e1 fun v H' s R' r=>?_
  cases d1 with
  |lst ds=>
   simp only[aP]at hi;obtain rfl:=Z9 hi;simp only[Rep]at r;obtain⟨c,xs,rfl,hq,rs⟩:=r;refine⟨c,xs,rfl,.inl ⟨hq.sq,fun l hl=>?_⟩⟩
   have s2:=au (o:=.tup xs) hl;refine k _ _ (s.trans s2) ?_
   simp only[Rep];exact⟨l,xs,rfl,ag,rs.same R' s2⟩
  |tup ds=>
   simp only[aP]at hi;obtain rfl:=Z9 hi;have r':=r;simp only[Rep]at r;obtain⟨c,xs,rfl,hq,rs⟩:=r;exact⟨c,xs,rfl,.inr ⟨SqT.of hq,k _ H' s r'⟩⟩
  |_=>simp[aP]at hi
def cj:List D->Z_ (List Int)
 |[]=>some []
 |.int i::ds=>(match cj ds with|some l=>some (i::l)|none=>none)
 |_=>none
theorem gH:∀{ds:List D}{ns:List Int},cj ds=some ns->ds=ns.map D.int
 |[],ns,h=>by simp only[cj,ZR]at h;subst h;rfl
 |.int i::ds,ns,h=>by
  simp only[cj]at h;cases q:cj ds with
  |none=>rw[q]at h;trivial
  |some l=>
   rw[q]at h;simp only[ZR]at h;subst h;rw[Z1,gH q]
 |.non::ds,ns,h=>by simp[cj]at h
 |.bl _::ds,ns,h=>by simp[cj]at h
 |.str _::ds,ns,h=>by simp[cj]at h
 |.tup _::ds,ns,h=>by simp[cj]at h
 |.lst _::ds,ns,h=>by simp[cj]at h
 |.dT _ _::ds,ns,h=>by simp[cj]at h
 |.dK _ _::ds,ns,h=>by simp[cj]at h
 |.dD _ _::ds,ns,h=>by simp[cj]at h
 |.sp _ _::ds,ns,h=>by simp[cj]at h
theorem Reps.ints{K:Z5}{B:Z2->Prop}{H:Hp}:∀{ns:List Int}{xs:List V},Reps K B H (ns.map D.int) xs->xs=ns.map V.int
 |[],xs,h=>by simpa only[Y7,Reps]using h
 |n::ns,xs,h=>by
  simp only[Z1,Reps]at h;obtain⟨x,r,rfl,h1,h2⟩:=h;simp only[Rep]at h1;rw[Z1,h1,Reps.ints h2]
def vn(hc:X.calm=true):ei X (.builtin "sum") (fun xs H Q=>∃(p:Z2)(ns:List Int),xs=[.ref p]/\SqL X.K H p (ns.map V.int)/\Q (.int ns.sum) H):=by
 intro a_ s σ H xs us Q I r h;obtain⟨p,ns,rfl,hq,q⟩:=h;obtain⟨u,rfl,rx⟩:=gd r;cases rx;obtain⟨its,rv,pl,hz⟩:=I.list hq;have hi:=ou rv;obtain⟨xs,N5⟩:=hi.allInts.items;have hl:=pl.isList;rw[N5]at hl;refine PySem.sum_intListG (I.ok.hd hc) hl fun h' tk t' hk=>?_
 have e1:preSum (numAt xs) xs.size=ns.sum:=by
  rw[preSum_eq,YK (by simp)]
  have:=hi.numsOf;rw[show its=its.toArray.toList from rfl,N5,nums_intItems]at this
  rw[this]
 rw[e1];exact⟨.int ns.sum,H,I.kept hk,⟨t',rfl⟩,q⟩
def zU(x:Z_ D):Z_ D:=match x with|some (.lst ds)=>(match cj ds with|some ns=>some (.int ns.sum)|none=>none)|_=>none
theorem Be(hc:X.calm=true)(g:Gl X "sum")(hm:X.mg "sum"=none)(ha:DE X m a fa)(hs:starEach [a] X.env=[(false,eval a X.env)]:=by rfl):DE X mm (.Call (.Name "sum" p) [a] [] pos) (fun δ=>zU (fa δ)):=
 (cH (vn hc) g hm zD (aw ha aO hs) (he:=hs)).imp fun σ H Q hz=>by
  obtain⟨B,Hk,δ,d,R,e,k⟩:=hz;unfold zU at e;dsimp only at e;split at e
  .rename_i ds q
   split at e
   .rename_i ns qn
    obtain rfl:=Z9 e;obtain rfl:=gH qn;refine oX R q fun v H' s R' r=>?_
    simp only[Rep]at r;obtain⟨c,xs,rfl,hq,rs⟩:=r;obtain rfl:=rs.ints;exact⟨c,ns,rfl,hq.sq,k _ H' s (by simp only[Rep])⟩
   .trivial
  .trivial
noncomputable def tyD:D->Z_ String
 |.non=>some "NoneType"|.bl _=>some "bool"|.int _=>some "int"|.str _=>some "str"|.tup _=>some "tuple"|.lst _=>some "list"|_=>none
def Bz(t c:String):Bool:=t==c||(t=="bool"&&c=="int")
def vU(c:String)(x:Z_ D):Z_ D:=match x with|some d=>(match tyD d with|some t=>some (.bl (Bz t c))|none=>none)|none=>none
def uH{c:String}(hc:c="int"\/c="bool"\/c="str"\/c="list"\/c="tuple"):ei X (.builtin "isinstance") (fun xs H Q=>∃B d x t,xs=[x,.ty c]/\Rep X.K B H d x/\tyD d=some t/\Q (.bl (Bz t c)) H):=by
 intro a_ s σ H xs us Q I r h;obtain⟨B,d,x,t,rfl,rx,ht,q⟩:=h;obtain⟨u,w',rfl,ru,A_⟩:=B8 r;cases A_;have fin:∀b,b=Bz t c->∀tk,EP X a_ σ Q (.bool b) {s with toks:=tk}:=fun b e tk=>⟨.bl b,H,I.tok tk,rfl,by rw[e];exact q⟩
 have JK:∀(T:String),(T="NoneType"\/T="bool"\/T="int"\/T="str"\/T="list"\/T="tuple")->PySem.W.kitOne X.K (.type T) (.type c)=some (Bz T c):=fun T hT=>by
  rcases hc with rfl|rfl|rfl|rfl|rfl<;>rcases hT with rfl|rfl|rfl|rfl|rfl|rfl<;>rfl
 cases d with
 |non=>simp only[tyD,ZR]at ht;subst ht;simp only[Rep]at rx;subst rx;exact dz I ru (.non) (JK _ (by simp)) (fin _ rfl)
 |bl b=>simp only[tyD,ZR]at ht;subst ht;simp only[Rep]at rx;subst rx;exact dz I ru (.bl b) (JK _ (by simp)) (fin _ rfl)
 |int b=>simp only[tyD,ZR]at ht;subst ht;simp only[Rep]at rx;subst rx;exact dz I ru (.int b) (JK _ (by simp)) (fin _ rfl)
 |str b=>simp only[tyD,ZR]at ht;subst ht;simp only[Rep]at rx;subst rx;exact dz I ru (.str b) (JK _ (by simp)) (fin _ rfl)
 |tup ds=>
  simp only[tyD,ZR]at ht;subst ht;simp only[Rep]at rx;obtain⟨a,xs,rfl,hq,_⟩:=rx;cases ru;obtain⟨its,_,⟨o,h1,h2,_⟩,_⟩:=I.tuple (SqT.of hq);exact YZ PySem.W.kitx_tuple I.kIn ⟨o,h1,h2⟩ (JK _ (by simp)) (fun z=>nomatch z) (fin _ rfl)
 |lst ds=>
  simp only[tyD,ZR]at ht;subst ht;simp only[Rep]at rx;obtain⟨a,xs,rfl,hq,_⟩:=rx;cases ru;obtain⟨its,_,⟨o,n,h1,h2,_⟩,_⟩:=I.list hq.sq;exact YZ PySem.W.kitx_list I.kIn ⟨o,h1,h2⟩ (JK _ (by simp)) (fun z=>nomatch z) (fin _ rfl)
 |dT _ _=>simp[tyD]at ht
 |dK _ _=>simp[tyD]at ht
 |dD _ _=>simp[tyD]at ht
 |sp _ _=>simp[tyD]at ht
theorem AH{c:Str}{cs:String}{pc:Pos}(hc:cs="int"\/cs="bool"\/cs="str"\/cs="list"\/cs="tuple")(g:Gl X "isinstance")(hm:X.mg "isinstance"=none)(gc:Gl X c)(Qw:X.mg c=none)(hv:bootBuiltins c=some (.type cs))(ha:DE X m a fa)
  (hs:starEach [a,.Name c pc] X.env=[(false,eval a X.env),(false,eval (.Name c pc) X.env)]:=by rfl)(Gj:starEach [.Name c pc] X.env=[(false,eval (.Name c pc) X.env)]:=by rfl)(hn:c≠"__name__":=by decide)(hd:(c==("__debug__":Str))=false:=by decide)
  (hpl:(backTo pos (starEach [.Name c pc] X.env)).any (·.1)=false:=by rfl):
  DE X mm (.Call (.Name "isinstance" p) [a,.Name c pc] [] pos) (fun δ=>vU cs (fa δ)):=
 (cH (uH hc) g hm iC (aw ha (aw (xq (v:=.ty cs) gc Qw hv rfl hn hd) aO Gj) (by rw[hs,Gj])) (he:=by rw[hs,Gj]) (hpl:=hpl)).imp fun σ H Q hz=>by
  obtain⟨B,Hk,δ,d,R,e,k⟩:=hz;unfold vU at e;dsimp only at e;split at e
  .rename_i d1 q
   split at e
   .rename_i t qt
    obtain rfl:=Z9 e;exact⟨B,Hk,δ,d1,R,q,fun v H' s r=>⟨_,d1,v,t,rfl,r,qt,k _ H' s (by simp only[Rep])⟩⟩
   .trivial
  .trivial
end
end L2
namespace SM
open PySem PyProof.Rows
structure OrdK (LT:Keyed->Keyed->Bool):Prop where
 asym:∀x y,LT x y=true->LT y x=false
 tr:∀x y z,LT y x=false->LT z y=false->LT z x=false
def OrdK.irr{LT:Keyed->Keyed->Bool}(O:OrdK LT)(x:Keyed):LT x x=false:=by
 cases h:LT x x with
 |false=>rfl
 |true=>exact h.symm.trans (O.asym x x h)
def Ans(prog:ZC)(w:Zo)(A:Zu)(s:Z4)(κ:SortKind)(LT:Keyed->Keyed->Bool)(T:Array Keyed):Prop:=
 ∀x∈T,∀y∈T,∀C:Bool->Z4->Prop,C (LT x y) s->wpAny (model prog w) A (keyLt' κ x.1 y.1) C (fun _ _=>False) s
abbrev nK:Keyed:=(Value.none,Value.none)
def K(a:Array Keyed)(i:Nat):Keyed:=(a[i]?).getD nK
def Ci{a:Array Keyed}{i:Nat}(h:i<a.size):a[i]?=some (K a i):=by unfold K;rw[getElem?_pos a i h];rfl
def yf{a:Array Keyed}{i:Nat}(h:i<a.size):K a i∈a:=by unfold K;rw[getElem?_pos a i h];exact Array.getElem_mem h
def zj{a b:Array Keyed}{i j:Nat}(h:a[i]?=b[j]?):K a i=K b j:=by unfold K;rw[h]
def iE{a:Array Keyed}{i j:Nat}(hj:j<=a.size)(k:Nat):K (mirror a i j ((j - i) / 2)) k=if i<=k/\k<j then K a (i+j - 1 - k) else K a k:=by
 have e:=getElem?_mirror_all (i:=i) hj k
 by_cases h:i<=k/\k<j
 .rw[Z0 h]at e⊢;exact zj e
 .rw[ZY h]at e⊢;exact zj e
def xK{a:Array Keyed}{src d:Nat}(hs:src<a.size)(hd:d<=src)(k:Nat):K (bubble a src d) k=if k=src - d then K a src else if src - d<k/\k<=src then K a (k - 1) else K a k:=by
 have e:=getElem?_bubble hs d hd k
 by_cases h:k=src - d
 .rw[Z0 h]at e⊢;exact zj e
 .rw[ZY h]at e⊢
  by_cases h2:src - d<k/\k<=src
  .rw[Z0 h2]at e⊢;exact zj e
  .rw[ZY h2]at e⊢;exact zj e
section
variable{prog:ZC}{w:Zo}{A:Zu}{E:Z7->Z4->Prop}{s:Z4}{LT:Keyed->Keyed->Bool}{T:Array Keyed}{κ:SortKind}{st:SortSt}
def Up(LT:Keyed->Keyed->Bool)(a:Array Keyed)(i j:Nat):Prop:=∀p q,i<=p->p<=q->q<j->LT (K a q) (K a p)=false
def Dn(LT:Keyed->Keyed->Bool)(a:Array Keyed)(i j:Nat):Prop:=∀p q,i<=p->p<=q->q<j->LT (K a p) (K a q)=false
def Up.one(O:OrdK LT){a:Array Keyed}{i:Nat}:Up LT a i (i+1):=fun p q h1 h2 h3=>by
 have e:p=q:=by lia
 rw[e];exact O.irr _
def Dn.one(O:OrdK LT){a:Array Keyed}{i:Nat}:Dn LT a i (i+1):=fun p q h1 h2 h3=>by
 have e:p=q:=by lia
 rw[e];exact O.irr _
def Up.snoc(O:OrdK LT){a:Array Keyed}{i j:Nat}(h:Up LT a i j)(Ir:i<j)(hl:LT (K a j) (K a (j - 1))=false):Up LT a i (j+1):=fun p q h1 h2 h3=>by
 by_cases e:q=j
 .subst e
  by_cases e':p=q
  .rw[e'];exact O.irr _
  .exact O.tr _ _ _ (h p (q - 1) h1 (by lia) (by lia)) hl
 .exact h p q h1 h2 (by lia)
def Dn.snoc(O:OrdK LT){a:Array Keyed}{i j:Nat}(h:Dn LT a i j)(Ir:i<j)(hl:LT (K a (j - 1)) (K a j)=false):Dn LT a i (j+1):=fun p q h1 h2 h3=>by
 by_cases e:q=j
 .subst e
  by_cases e':p=q
  .rw[e'];exact O.irr _
  .exact O.tr _ _ _ hl (h p (q - 1) h1 (by lia) (by lia))
 .exact h p q h1 h2 (by lia)
def su(H:Ans prog w A s κ LT T)(hk:kindOf st=κ){x y:Keyed}{Q:Z_ Bool->SortSt->Prop}(hx:x∈T)(hy:y∈T)(h:Q (some (LT x y)) st):wpS (model prog w) A E s (lt' x y) Q st:=by
 rw[lt'_eq];refine ZG (WG ?_)
 rw[hk];refine ZG (wpS_lift (XT (YV (H x hx y hy (fun b s'=>s'=s/\wpS (model prog w) A E s (pure (some b)) Q st) ⟨rfl,ZD h⟩) (fun _ _ h=>h) fun _ _ h=>h.elim)))
def aB{a:Array Keyed}{i:Nat}{Q:Keyed->SortSt->Prop}(hi:i<a.size)(h:Q (K a i) st):wpS (model prog w) A E s (elem' a i) Q st:=by
 rw[elem'_eq,Ci hi];exact ZD h
def eP(H:Ans prog w A s κ LT T)(hk:kindOf st=κ)(hp:(arrOf st).Perm T){i j:Nat}{Q:Z_ Bool->SortSt->Prop}(hi:i<T.size)(hj:j<T.size)(h:Q (some (LT (K (arrOf st) i) (K (arrOf st) j))) st):
  wpS (model prog w) A E s (ltAt' i j) Q st:=by
 have hz:=hp.size_eq;rw[ltAt'_eq];refine ZG (WG ?_)
 exact ZG (aB (by lia) (ZG (aB (by lia) (su H hk (hp.mem_iff.mp (yf (by lia))) (hp.mem_iff.mp (yf (by lia))) h))))
structure Chg (T a:Array Keyed)(lo:Nat)(a':Array Keyed):Prop where
 perm:a'.Perm T
 keep:∀k,k<lo->K a' k=K a k
def Chg.rev{a a':Array Keyed}{lo i j:Nat}(h:Chg T a lo a')(hi:lo<=i)(hj:j<=T.size):Chg T a lo (mirror a' i j ((j - i) / 2)):=by
 have hz:=h.perm.size_eq;refine⟨(mirror_perm a' i j _).trans h.perm,fun k hk=>?_⟩
 rw[iE (by lia),ZY (by lia)];exact h.keep k hk
def Chg.bub{a a':Array Keyed}{lo src d:Nat}(h:Chg T a lo a')(hs:src<T.size)(hd:lo+d<=src):Chg T a lo (bubble a' src d):=by
 have hz:=h.perm.size_eq;refine⟨(bubble_perm a' src d).trans h.perm,fun k hk=>?_⟩
 rw[xK (by lia) (by lia),ZY (by lia),ZY (by lia)];exact h.keep k hk
def tO{a:Array Keyed}{i j:Nat}(hj:j<=a.size)(h:Dn LT a i j):Up LT (mirror a i j ((j - i) / 2)) i j:=fun p q h1 h2 h3=>by
 rw[iE hj,iE hj,Z0 ⟨by lia,h3⟩,Z0 ⟨h1,by lia⟩]
 exact h _ _ (by lia) (by lia) (by lia)
def pX{a:Array Keyed}{lo i j:Nat}(hj:j<=a.size)(hi:lo<=i)(h:Dn LT a lo j)(e:∀p q,i<=p->i<=q->p<j->q<j->LT (K a p) (K a q)=false):Dn LT (mirror a i j ((j - i) / 2)) lo j:=fun p q h1 h2 h3=>by
 rw[iE hj,iE hj]
 by_cases c1:i<=p/\p<j
 .rw[Z0 c1]
  by_cases c2:i<=q/\q<j
  .rw[Z0 c2];exact e _ _ (by lia) (by lia) (by lia) (by lia)
  .lia
 .rw[ZY c1]
  by_cases c2:i<=q/\q<j
  .rw[Z0 c2];exact h _ _ h1 (by lia) (by lia)
  .rw[ZY c2];exact h _ _ h1 h2 h3
def vX(O:OrdK LT)(H:Ans prog w A s κ LT T)(hk:kindOf st=κ){a:Array Keyed}(hc:(arrOf st).Perm T){lo n o_:Nat}(hz:lo+o_<=T.size)(hn:1<=n)(LA:n<=o_)(hu:Up LT (arrOf st) lo (lo+n))
  {β:Type}{Q:β->SortSt->Prop}{f:Z_ (Z_ Nat)×Nat->StateT SortSt Sem β}(h:∀m,n<=m->m<=o_->Up LT (arrOf st) lo (lo+m)->(m<o_->LT (K (arrOf st) (lo+m)) (K (arrOf st) (lo+m - 1))=true)->wpS (model prog w) A E s (f (none,m)) Q st):
  wpS (model prog w) A E s (forIn [n:o_] ((none,n):Z_ (Z_ Nat)×Nat) (fun _ r=>do
   let x <-ltAt' (lo+r.2) (lo+r.2 - 1)
   match x with
   |some z_=>if z_=true then pure (ForInStep.done (none,r.2)) else pure (ForInStep.yield (none,r.2+1))
   |_=>pure (ForInStep.done (some none,r.2))) >>= f) Q st:=by
 refine ZG (X5 (YG (I:=fun x c g_=>c=(none,x)/\g_=st/\n<=x/\Up LT (arrOf st) lo (lo+x)) (Q:=fun c g_=>∃m,c=(none,m)/\g_=st/\n<=m/\m<=o_/\Up LT (arrOf st) lo (lo+m)/\(m<o_->LT (K (arrOf st) (lo+m)) (K (arrOf st) (lo+m - 1))=true)) ?_ ?_ ⟨rfl,rfl,ZU _,hu⟩) ?_)
 .rintro x c g_ h1 h2 ⟨rfl,rfl,h3,h4⟩
  dsimp only;refine ZG (eP H hk hc (by lia) (by lia) ?_)
  dsimp only;cases hl:LT (K (arrOf g_) (lo+x)) (K (arrOf g_) (lo+x - 1))with
  |true=>exact ZD ⟨x,rfl,rfl,h3,by lia,h4,fun _=>hl⟩
  |false=>exact ZD ⟨rfl,rfl,by lia,h4.snoc O (by lia) hl⟩
 .rintro c g_ ⟨rfl,rfl,h3,h4⟩
  have e:max n o_=o_:=by lia
  rw[e]at h4⊢;exact⟨o_,rfl,rfl,LA,ZU _,h4,fun h=>absurd h (Y5 _)⟩
 .rintro c g_ ⟨m,rfl,rfl,h1,h2,h3,h4⟩
  exact h m h1 h2 h3 h4
end
end SM
namespace SM
open PySem PyProof.Rows
section
variable{prog:ZC}{w:Zo}{A:Zu}{E:Z7->Z4->Prop}{s:Z4}{LT:Keyed->Keyed->Bool}{T:Array Keyed}{κ:SortKind}{st:SortSt}
def Cj(LT:Keyed->Keyed->Bool)(a:Array Keyed)(i j:Nat):Prop:=∀p q,i<=p->i<=q->p<j->q<j->LT (K a p) (K a q)=false
def pb(O:OrdK LT)(H:Ans prog w A s κ LT T)(hk:kindOf st=κ){a a':Array Keyed}{lo n o_:Nat}(hC:Chg T a lo a')(hz:lo+o_<=T.size)(hn:1<=n)(LA:n<=o_)(hd:Dn LT a' lo (lo+n))
  {Q:Z_ Nat->SortSt->Prop}(h:∀m IV,1<=m->m<=o_->Chg T a lo IV->Up LT IV lo (lo+m)->Q (some m) (setArr st IV)):
  wpS (model prog w) A E s (do
   let mut n:=n
   reverseSlice' lo (lo+n)
   for _ in [n:o_] do
    let some z_ <-ltAt' (lo+n) (lo+n - 1)|return none
    if z_ then break
    n:=n+1
   return some n) Q (setArr st a'):=by
 have e:=hC.perm.size_eq;dsimp only;rw[reverseSlice'_eq];refine ZG (Yb ?_)
 have C':=hC.rev (i:=lo) (j:=lo+n) (ZU _) (by lia)
 have U:=tO (LT:=LT) (a:=a') (i:=lo) (j:=lo+n) (by lia) hd
 exact vX (st:=setArr st (mirror a' lo (lo+n) ((lo+n - lo) / 2))) (a:=a) O H hk C'.perm hz hn LA U fun m h1 h2 h3 _=>ZD (h m _ (by lia) h2 C' h3)
def qq(O:OrdK LT)(H:Ans prog w A s κ LT T)(hk:kindOf st=κ){a a':Array Keyed}{lo n o_:Nat}(hC:Chg T a lo a')(hz:lo+o_<=T.size)(hn:1<=n)(LA:n<o_)(hd:Dn LT a' lo (lo+n))(hl:LT (K a' (lo+n)) (K a' (lo+n - 1))=true)
  {Q:Z_ Nat->SortSt->Prop}(h:∀m IV,1<=m->m<=o_->Chg T a lo IV->Up LT IV lo (lo+m)->Q (some m) (setArr st IV)):
  wpS (model prog w) A E s (do
   let mut n:=n
   rule "list.sort.descending-run"
   n:=n+1
   let mut IF:=0
   for _ in [n:o_] do
    let some z_ <-ltAt' (lo+n) (lo+n - 1)|return none
    if z_ then
     if IF>0 then reverseSlice' (lo+n - (IF+1)) (lo+n)
     IF:=0
    else
     let some Jt <-ltAt' (lo+n - 1) (lo+n)|return none
     if Jt then break
     IF:=IF+1
    n:=n+1
   if IF>0 then reverseSlice' (lo+n - (IF+1)) (lo+n)
   reverseSlice' lo (lo+n)
   for _ in [n:o_] do
    let some z_ <-ltAt' (lo+n) (lo+n - 1)|return none
    if z_ then break
    n:=n+1
   return some n) Q (setArr st a'):=by
 refine ZG (wpS_lift (YW ⟨rfl,?_⟩))
 have d1:=hd.snoc O (by lia) (O.asym _ _ hl)
 refine ZG (X5 (YG (I:=fun x c g_=>∃q a1,c=(none,x,q)/\g_=setArr st a1/\Chg T a lo a1/\n+1<=x/\q+1<=x/\Dn LT a1 lo (lo+x)/\Cj LT a1 (lo+x - (q+1)) (lo+x))
  (Q:=fun c g_=>∃x q a1,c=(none,x,q)/\g_=setArr st a1/\Chg T a lo a1/\x<=o_/\n+1<=x/\q+1<=x/\Dn LT a1 lo (lo+x)/\Cj LT a1 (lo+x - (q+1)) (lo+x)) ?_ ?_ ⟨0,a',rfl,rfl,hC,ZU _,by lia,d1,fun p q h1 h2 h3 h4=>by rw[show p=q by lia];exact O.irr _⟩) ?_)
 .rintro x c g_ h1 h2 ⟨q,a1,rfl,rfl,C1,h3,h4,D1,L1⟩
  have e:=C1.perm.size_eq;dsimp only;refine ZG (eP (st:=setArr st a1) H hk C1.perm (by lia) (by lia) ?_)
  dsimp only;cases hl:LT (K a1 (lo+x)) (K a1 (lo+x - 1))with
  |true=>
   have D2:=D1.snoc O (by lia) (O.asym _ _ hl)
   simp only[Y2]
   by_cases hq:q>0
   .rw[Z0 hq,reverseSlice'_eq]
    refine ZG (Yb (ZD ⟨0,_,rfl,rfl,C1.rev (by lia) (by lia),by lia,by lia,?_,fun p q h1 h2 h3 h4=>by rw[show p=q by lia];exact O.irr _⟩))
    have D3:=pX (LT:=LT) (a:=a1) (lo:=lo) (i:=lo+x - (q+1)) (j:=lo+x) (by lia) (by lia) D1 L1
    refine D3.snoc O (by lia) ?_
    rw[iE (by lia),iE (by lia),Z0 (by lia),ZY (by lia)]
    exact D2 _ _ (by lia) (by lia) (by lia)
   .rw[ZY hq]
    exact ZD ⟨0,a1,rfl,rfl,C1,by lia,by lia,D2,fun p q h1 h2 h3 h4=>by rw[show p=q by lia];exact O.irr _⟩
  |false=>
   simp only[ZK,Za];refine ZG (eP (st:=setArr st a1) H hk C1.perm (by lia) (by lia) ?_)
   dsimp only;cases hg:LT (K a1 (lo+x - 1)) (K a1 (lo+x))with
   |true=>exact ZD ⟨x,q,a1,rfl,rfl,C1,by lia,h3,h4,D1,L1⟩
   |false=>
    refine ZD ⟨q+1,a1,rfl,rfl,C1,by lia,by lia,D1.snoc O (by lia) hg,fun p p' h1 h2 h5 h6=>?_⟩
    have key:∀p,lo+(x+1) - (q+1+1)<=p->p<lo+(x+1)->LT (K a1 p) (K a1 (lo+x - 1))=false/\LT (K a1 (lo+x - 1)) (K a1 p)=false:=fun p h1 h2=>by
     by_cases e:p=lo+x
     .rw[e];exact⟨hl,hg⟩
     .exact⟨L1 _ _ (by lia) (by lia) (by lia) (by lia),L1 _ _ (by lia) (by lia) (by lia) (by lia)⟩
    exact O.tr _ _ _ (key p' h2 h6).2 (key p h1 h5).1
 .rintro c g_ ⟨q,a1,rfl,rfl,C1,h3,h4,D1,L1⟩
  rw[show max (n+1) o_=o_ by lia]at*
  exact⟨o_,q,a1,rfl,rfl,C1,ZU _,h3,h4,D1,L1⟩
 .rintro c g_ ⟨x,q,a1,rfl,rfl,C1,h1,h3,h4,D1,L1⟩
  have e:=C1.perm.size_eq;dsimp only
  by_cases hq:q>0
  .rw[Z0 hq]
   refine ZG ?_
   rw[reverseSlice'_eq];refine Yb ?_
   exact pb O H hk (C1.rev (by lia) (by lia)) hz (by lia) h1 (pX (LT:=LT) (a:=a1) (lo:=lo) (i:=lo+x - (q+1)) (j:=lo+x) (by lia) (by lia) D1 L1) h
  .rw[ZY hq]
   exact pb O H hk C1 hz (by lia) h1 D1 h
def lV(O:OrdK LT)(H:Ans prog w A s κ LT T)(hk:kindOf st=κ){lo o_:Nat}(hp:(arrOf st).Perm T)(hz:lo+o_<=T.size)(hn:1<=o_)
  {Q:Z_ Nat->SortSt->Prop}(h:∀m a',1<=m->m<=o_->Chg T (arrOf st) lo a'->Up LT a' lo (lo+m)->Q (some m) (setArr st a')):wpS (model prog w) A E s (countRun' lo o_) Q st:=by
 have e:=hp.size_eq;have C0:Chg T (arrOf st) lo (arrOf st):=⟨hp,fun _ _=>rfl⟩
 rw[countRun'_eq];refine vX (a:=arrOf st) O H hk hp hz (ZU 1) hn (Up.one O) fun m h1 h2 h3 h4=>?_
 dsimp only
 by_cases hm:m=o_
 .rw[Z0 (Zx.mpr hm)]
  exact ZD (h m (arrOf st) h1 h2 C0 h3)
 .rw[ZY (fun q=>hm (Zx.mp q))]
  have hl:=h4 (by lia)
  by_cases h5:m>1
  .rw[Z0 h5]
   refine ZG (eP H hk hp (by lia) (by lia) ?_)
   dsimp only;cases hr:LT (K (arrOf st) lo) (K (arrOf st) (lo+m - 1))with
   |true=>
    simp only[Y2];exact ZD (h m (arrOf st) h1 h2 C0 h3)
   |false=>
    simp only[ZK,Za];rw[reverseSlice'_eq];refine ZG (Yb ?_)
    have al:Cj LT (arrOf st) lo (lo+m):=fun p q h1 h2 h5 h6=>O.tr _ _ _ (h3 q (lo+m - 1) h2 (by lia) (by lia)) (O.tr _ _ _ hr (h3 lo p (ZU _) h1 (by lia)))
    have D1:Dn LT (arrOf st) lo (lo+m):=fun p q h1 h2 h5=>al p q h1 (by lia) (by lia) h5
    refine qq O H hk (C0.rev (ZU _) (by lia)) hz h1 (by lia) (pX (LT:=LT) (a:=arrOf st) (lo:=lo) (i:=lo) (j:=lo+m) (by lia) (ZU _) D1 al) ?_ h
    rw[iE (by lia),iE (by lia),ZY (by lia),Z0 (by lia)]
    cases hc:LT (K (arrOf st) (lo+m)) (K (arrOf st) (lo+(lo+m) - 1 - (lo+m - 1)))with
    |true=>rfl
    |false=>exact absurd (O.tr _ _ _ (al (lo+(lo+m) - 1 - (lo+m - 1)) (lo+m - 1) (by lia) (by lia) (by lia) (by lia)) hc) (by rw[hl];exact fun q=>nomatch q)
  .rw[ZY h5]
   have Mv:m=1:=by lia
   exact qq O H hk C0 hz h1 (by lia) (by subst Mv;exact Dn.one O) hl h
end
end SM
namespace SM
open PySem PyProof.Rows
section
variable{prog:ZC}{w:Zo}{A:Zu}{E:Z7->Z4->Prop}{s:Z4}{LT:Keyed->Keyed->Bool}{T:Array Keyed}{κ:SortKind}{st:SortSt}
def Bc(O:OrdK LT){a:Array Keyed}{lo k l:Nat}(hs:lo+k<a.size)(hl:l<=k)(hu:Up LT a lo (lo+k))(h1:∀p,p<l->LT (K a (lo+k)) (K a (lo+p))=false)(h2:∀p,l<=p->p<k->LT (K a (lo+k)) (K a (lo+p))=true):
  Up LT (bubble a (lo+k) (lo+k - (lo+l))) lo (lo+(k+1)):=fun p q g1 g2 g3=>by
 have GD:∀p,lo+l<=p->p<lo+k->LT (K a p) (K a (lo+k))=false:=fun p a1 a2=>by
  have:=h2 (p - lo) (by lia) (by lia)
  rw[show lo+(p - lo)=p by lia]at this
  exact O.asym _ _ this
 have G8:∀p,lo<=p->p<lo+l->LT (K a (lo+k)) (K a p)=false:=fun p a1 a2=>by
  have:=h1 (p - lo) (by lia)
  rwa[show lo+(p - lo)=p by lia]at this
 have e:lo+k - (lo+k - (lo+l))=lo+l:=by lia
 rw[xK hs (by lia),xK hs (by lia),e]
 repeat' split
 all_goals first
  |exact O.irr _
  |(exfalso;lia)
  |exact GD _ (by lia) (by lia)
  |exact G8 _ (by lia) (by lia)
  |exact hu _ _ (by lia) (by lia) (by lia)
def gU(O:OrdK LT)(H:Ans prog w A s κ LT T)(hk:kindOf st=κ){lo n ok:Nat}(hp:(arrOf st).Perm T)(hz:lo+n<=T.size)(hok:ok<=n)(hn:1<=n)(hu:Up LT (arrOf st) lo (lo+ok))
  {Q:Bool->SortSt->Prop}(h:∀a',Chg T (arrOf st) lo a'->Up LT a' lo (lo+n)->Q true (setArr st a')):wpS (model prog w) A E s (binarySort' lo n ok) Q st:=by
 have e:=hp.size_eq;have C0:Chg T (arrOf st) lo (arrOf st):=⟨hp,fun _ _=>rfl⟩
 have Gy:Up LT (arrOf st) lo (lo+max ok 1):=by
  by_cases c:ok=0
  .subst c;exact Up.one O
  .rw[show max ok 1=ok by lia];exact hu
 rw[binarySort'_eq];refine ZG (X5 (YG (I:=fun x c g_=>c=(none,())/\∃a1,g_=setArr st a1/\Chg T (arrOf st) lo a1/\Up LT a1 lo (lo+x))
  (Q:=fun c g_=>c=(none,())/\∃a1,g_=setArr st a1/\Chg T (arrOf st) lo a1/\Up LT a1 lo (lo+n)) ?_ ?_ ⟨rfl,arrOf st,rfl,C0,Gy⟩) ?_)
 .rintro k c g_ h1 h2 ⟨rfl,a1,rfl,C1,U1⟩
  have e1:=C1.perm.size_eq;dsimp only;refine ZG (X5 (YG (I:=fun x c g_=>∃l r,c=(none,l,r)/\g_=setArr st a1/\l<=r/\r<=k/\r - l+x<=k/\(∀p,p<l->LT (K a1 (lo+k)) (K a1 (lo+p))=false)/\∀p,r<=p->p<k->LT (K a1 (lo+k)) (K a1 (lo+p))=true)
   (Q:=fun c g_=>∃l r,c=(none,l,r)/\g_=setArr st a1/\l<=k/\(∀p,p<l->LT (K a1 (lo+k)) (K a1 (lo+p))=false)/\∀p,l<=p->p<k->LT (K a1 (lo+k)) (K a1 (lo+p))=true) ?_ ?_ ⟨0,k,rfl,rfl,Zt _,ZU _,by lia,fun p hp=>absurd hp (Nat.not_lt_zero _),fun p q1 q2=>absurd q2 (by lia)⟩) ?_)
  .rintro x c g_ g1 g2 ⟨l,r,rfl,rfl,g3,g4,g5,g6,g7⟩
   dsimp only
   by_cases Kk:l>=r
   .rw[Z0 Kk]
    have:l=r:=by lia
    exact ZD ⟨l,r,rfl,rfl,by lia,g6,by rw[this];exact g7⟩
   .rw[ZY Kk]
    refine ZG (eP (st:=setArr st a1) H hk C1.perm (by lia) (by lia) ?_)
    dsimp only;cases hl:LT (K a1 (lo+k)) (K a1 (lo+(l+r) / 2))with
    |true=>
     refine ZD ⟨l,(l+r) / 2,rfl,rfl,by lia,by lia,by lia,g6,fun p q1 q2=>?_⟩
     cases hc:LT (K a1 (lo+k)) (K a1 (lo+p))with
     |true=>rfl
     |false=>exact absurd (O.tr _ _ _ (U1 (lo+(l+r) / 2) (lo+p) (by lia) (by lia) (by lia)) hc) (by rw[hl];exact fun q=>nomatch q)
    |false=>
     refine ZD ⟨(l+r) / 2+1,r,rfl,rfl,by lia,g4,by lia,fun p q1=>?_,g7⟩
     exact O.tr _ _ _ (U1 (lo+p) (lo+(l+r) / 2) (by lia) (by lia) (by lia)) hl
  .rintro c g_ ⟨l,r,rfl,rfl,g3,g4,g5,g6,g7⟩
   have:l=r:=by lia
   exact⟨l,r,rfl,rfl,by lia,g6,by rw[this];exact g7⟩
  .rintro c g_ ⟨l,r,rfl,rfl,g1,g2,g3⟩
   dsimp only;rw[moveDown'_eq];exact ZG (Yb (ZD ⟨rfl,_,rfl,C1.bub (by lia) (by lia),Bc O (show lo+k<a1.size by lia) g1 U1 g2 g3⟩))
 .rintro c g_ ⟨rfl,a1,rfl,C1,U1⟩
  rw[show max (max ok 1) n=n by lia]at U1
  exact⟨rfl,a1,rfl,C1,U1⟩
 .rintro c g_ ⟨rfl,a1,rfl,C1,U1⟩
  exact ZD (h a1 C1 U1)
def bj:Bool->Keyed->Array Keyed->Nat->Nat->Nat->StateT SortSt Sem (Z_ Nat):=sortPriv%PySem.Builtin.gallop
noncomputable def bey(left:Bool)(key:Keyed)(arr:Array Keyed)(base i:Nat):StateT SortSt Sem (Z_ Bool):=do
 let x <-elem' arr (base+i)
 if left then lt' x key else return (<-lt' key x).map (!·)
theorem nX(left:Bool)(key:Keyed)(arr:Array Keyed)(base n hint:Nat):bj left key arr base n hint=(do
 let mut Fp:=0
 let mut GU:=1
 let mut lo:=0
 let mut hi:=0
 let some right <-bey left key arr base hint|return none
 if right then
  let Fx:=n - hint
  for _ in [0:n] do
   if GU>=Fx then break
   let some more <-bey left key arr base (hint+GU)|return none
   if !more then break
   Fp:=GU
   GU:=2*GU+1
  lo:=hint+Fp+1
  hi:=hint+min GU Fx
 else
  let Fx:=hint+1
  for _ in [0:n] do
   if GU>=Fx then break
   let some found <-bey left key arr base (hint - GU)|return none
   if found then break
   Fp:=GU
   GU:=2*GU+1
  lo:=hint+1 - min GU Fx
  hi:=hint - Fp
 for _ in [0:n] do
  if lo>=hi then break
  let m:=lo+(hi - lo) / 2
  let some more <-bey left key arr base m|return none
  if more then lo:=m+1 else hi:=m
 return some hi):=rfl
noncomputable def fB(LT:Keyed->Keyed->Bool)(left:Bool)(key:Keyed)(arr:Array Keyed)(base i:Nat):Bool:=if left then LT (K arr (base+i)) key else !LT key (K arr (base+i))
def l9(H:Ans prog w A s κ LT T)(hk:kindOf st=κ){left:Bool}{key:Keyed}{arr:Array Keyed}{base i:Nat}{Q:Z_ Bool->SortSt->Prop}(v_:key∈T)(hi:base+i<arr.size)(hx:K arr (base+i)∈T)
  (h:Q (some (fB LT left key arr base i)) st):wpS (model prog w) A E s (bey left key arr base i) Q st:=by
 unfold bey;refine ZG (aB hi ?_)
 unfold fB at h;cases left with
 |true=>exact su H hk hx v_ h
 |false=>
  simp only[ZK,Za]at h⊢;exact ZG (su H hk v_ hx (ZD h))
def iS(O:OrdK LT){left:Bool}{key:Keyed}{arr:Array Keyed}{base n i j:Nat}(hu:Up LT arr base (base+n))(Ir:i<=j)(hj:j<n)(h:fB LT left key arr base j=true):fB LT left key arr base i=true:=by
 have u:=hu (base+i) (base+j) (by lia) (by lia) (by lia)
 unfold fB at h⊢;cases left with
 |true=>
  simp only[Y2]at h⊢;cases hc:LT (K arr (base+i)) key with
  |true=>rfl
  |false=>exact absurd (O.tr _ _ _ hc u) (by rw[h];exact fun q=>nomatch q)
 |false=>
  simp only[ZK,Za,YB]at h⊢;exact O.tr _ _ _ u h
def vL(O:OrdK LT)(H:Ans prog w A s κ LT T)(hk:kindOf st=κ){left:Bool}{key:Keyed}{arr:Array Keyed}{base n:Nat}{Q:Z_ Nat->SortSt->Prop}(v_:key∈T)(hb:base+n<=arr.size)(hx:∀i,i<n->K arr (base+i)∈T)(hu:Up LT arr base (base+n))
  {lo hi:Nat}(h1:lo<=hi) (h2:hi<=n) (h3:∀i,i<lo->fB LT left key arr base i=true) (h4:hi<n->fB LT left key arr base hi=false)
  (h:∀k,k<=n->(∀i,i<k->fB LT left key arr base i=true)->(∀i,k<=i->i<n->fB LT left key arr base i=false)->Q (some k) st):
  wpS (model prog w) A E s (do
   let mut lo:=lo
   let mut hi:=hi
   for _ in [0:n] do
    if lo>=hi then break
    let m:=lo+(hi - lo) / 2
    let some more <-bey left key arr base m|return none
    if more then lo:=m+1 else hi:=m
   return some hi) Q st:=by
 have fin:∀k,k<=n->(∀i,i<k->fB LT left key arr base i=true)->(k<n->fB LT left key arr base k=false)->Q (some k) st:=fun k a1 a2 a3=>h k a1 a2 fun i b1 b2=>by
  cases hc:fB LT left key arr base i with
  |false=>rfl
  |true=>exact absurd (iS O hu b1 b2 hc) (by rw[a3 (by lia)];exact fun q=>nomatch q)
 refine ZG (X5 (YG (I:=fun x c g_=>∃lo hi,c=(none,lo,hi)/\g_=st/\lo<=hi/\hi<=n/\hi - lo+x<=n/\(∀i,i<lo->fB LT left key arr base i=true)/\(hi<n->fB LT left key arr base hi=false))
  (Q:=fun c g_=>∃hi,c=(none,hi,hi)/\g_=st/\hi<=n/\(∀i,i<hi->fB LT left key arr base i=true)/\(hi<n->fB LT left key arr base hi=false)) ?_ ?_ ⟨lo,hi,rfl,rfl,h1,h2,by lia,h3,h4⟩) ?_)
 .rintro x c g_ g1 g2 ⟨lo,hi,rfl,rfl,g3,g4,g5,g6,g7⟩
  dsimp only
  by_cases Kk:lo>=hi
  .rw[Z0 Kk]
   obtain rfl:lo=hi:=by lia
   exact ZD ⟨lo,rfl,rfl,g4,g6,g7⟩
  .rw[ZY Kk]
   refine ZG (l9 H hk v_ (by lia) (hx _ (by lia)) ?_)
   dsimp only;cases hl:fB LT left key arr base (lo+(hi - lo) / 2)with
   |true=>exact ZD ⟨lo+(hi - lo) / 2+1,hi,rfl,rfl,by lia,g4,by lia,fun i w_=>iS O hu (show i<=lo+(hi - lo) / 2 by lia) (by lia) hl,g7⟩
   |false=>exact ZD ⟨lo,lo+(hi - lo) / 2,rfl,rfl,by lia,by lia,by lia,g6,fun _=>hl⟩
 .rintro c g_ ⟨lo,hi,rfl,rfl,g3,g4,g5,g6,g7⟩
  obtain rfl:lo=hi:=by lia
  exact⟨lo,rfl,rfl,g4,g6,g7⟩
 .rintro c g_ ⟨hi,rfl,rfl,g4,g6,g7⟩
  exact ZD (fin hi g4 g6 g7)
def bJ(O:OrdK LT)(H:Ans prog w A s κ LT T)(hk:kindOf st=κ){left:Bool}{key:Keyed}{arr:Array Keyed}{base n hint:Nat}{Q:Z_ Nat->SortSt->Prop}(v_:key∈T)(hb:base+n<=arr.size)(hh:hint<n)(hx:∀i,i<n->K arr (base+i)∈T)(hu:Up LT arr base (base+n))
  (h:∀k,k<=n->(∀i,i<k->fB LT left key arr base i=true)->(∀i,k<=i->i<n->fB LT left key arr base i=false)->Q (some k) st):wpS (model prog w) A E s (bj left key arr base n hint) Q st:=by
 rw[nX];dsimp only;refine ZG (l9 H hk v_ (by lia) (hx _ hh) ?_)
 dsimp only;cases hr:fB LT left key arr base hint with
 |true=>
  simp only[Y2];refine ZG (X5 (YG (I:=fun x c g_=>∃la of,c=(none,la,of)/\g_=st/\x+1<=of/\la+1<=of/\la<n - hint/\fB LT left key arr base (hint+la)=true)
   (Q:=fun c g_=>∃la of,c=(none,la,of)/\g_=st/\la+1<=of/\la<n - hint/\fB LT left key arr base (hint+la)=true/\(of<n - hint->fB LT left key arr base (hint+of)=false)) ?_ ?_ ⟨0,1,rfl,rfl,by lia,by lia,by lia,hr⟩) ?_)
  .rintro x c g_ g1 g2 ⟨la,of,rfl,rfl,g3,g4,g5,g6⟩
   dsimp only
   by_cases ho:of>=n - hint
   .rw[Z0 ho]
    exact ZD ⟨la,of,rfl,rfl,g4,g5,g6,fun q=>absurd q (by lia)⟩
   .rw[ZY ho]
    refine ZG (l9 H hk v_ (by lia) (hx _ (by lia)) ?_)
    dsimp only;cases hm:fB LT left key arr base (hint+of)with
    |false=>exact ZD ⟨la,of,rfl,rfl,g4,g5,g6,fun _=>hm⟩
    |true=>exact ZD ⟨of,2*of+1,rfl,rfl,by lia,by lia,by lia,hm⟩
  .rintro c g_ ⟨la,of,rfl,rfl,g3,g4,g5,g6⟩
   exact⟨la,of,rfl,rfl,g4,g5,g6,fun q=>absurd q (by lia)⟩
  .rintro c g_ ⟨la,of,rfl,rfl,g4,g5,g6,g7⟩
   dsimp only;refine vL O H hk v_ hb hx hu (by lia) (by lia) (fun i hi=>iS O hu (show i<=hint+la by lia) (by lia) g6) (fun ka=>?_) h
   by_cases c:of<n - hint
   .rw[show min of (n - hint)=of by lia];exact g7 c
   .lia
 |false=>
  simp only[ZK,Za];refine ZG (X5 (YG (I:=fun x c g_=>∃la of,c=(none,la,of)/\g_=st/\x+1<=of/\la+1<=of/\la<=hint/\fB LT left key arr base (hint - la)=false)
   (Q:=fun c g_=>∃la of,c=(none,la,of)/\g_=st/\la+1<=of/\la<=hint/\fB LT left key arr base (hint - la)=false/\(of<hint+1->fB LT left key arr base (hint - of)=true)) ?_ ?_ ⟨0,1,rfl,rfl,by lia,by lia,by lia,hr⟩) ?_)
  .rintro x c g_ g1 g2 ⟨la,of,rfl,rfl,g3,g4,g5,g6⟩
   dsimp only
   by_cases ho:of>=hint+1
   .rw[Z0 ho]
    exact ZD ⟨la,of,rfl,rfl,g4,g5,g6,fun q=>absurd q (by lia)⟩
   .rw[ZY ho]
    refine ZG (l9 H hk v_ (by lia) (hx _ (by lia)) ?_)
    dsimp only;cases hm:fB LT left key arr base (hint - of)with
    |true=>exact ZD ⟨la,of,rfl,rfl,g4,g5,g6,fun _=>hm⟩
    |false=>exact ZD ⟨of,2*of+1,rfl,rfl,by lia,by lia,by lia,hm⟩
  .rintro c g_ ⟨la,of,rfl,rfl,g3,g4,g5,g6⟩
   exact⟨la,of,rfl,rfl,g4,g5,g6,fun q=>absurd q (by lia)⟩
  .rintro c g_ ⟨la,of,rfl,rfl,g4,g5,g6,g7⟩
   dsimp only;refine vL O H hk v_ hb hx hu (by lia) (by lia) (fun i hi=>?_) (fun _=>g6) h
   by_cases c:of<hint+1
   .exact iS O hu (show i<=hint - of by lia) (by lia) (g7 c)
   .lia
end
end SM
namespace SM
open PySem PyProof.Rows
def aJ:Nat->StateT SortSt Sem Unit:=sortPriv%PySem.Builtin.setMinGallop
abbrev aA(st:SortSt)(g:Nat):SortSt:=SortSt.mk' (kindOf st) (arrOf st) (pendingOf st) g (failedOf st)
theorem aV(g:Nat):aJ g=modify fun s=>aA s g:=rfl
def ij:Array Keyed->Array Keyed->StateT SortSt Sem (Array Keyed):=sortPriv%PySem.Builtin.mergeLo
def iU:Array Keyed->Array Keyed->StateT SortSt Sem (Array Keyed):=sortPriv%PySem.Builtin.mergeHi
theorem kH(a b:Array Keyed):ij a b=(do
 rule "list.sort.merge-lo"
 let total:=a.size+b.size
 let done (out:Array Keyed) (ia ib:Nat):=out++a.extract ia a.size++b.extract ib b.size
 let Fq (out:Array Keyed) (ia ib:Nat):=out++b.extract ib b.size++a.extract ia a.size
 let mut out:Array Keyed:=#[<-elem' b 0]
 let mut ia:=0
 let mut ib:=1
 if ib==b.size then return done out ia ib
 if ia+1==a.size then return Fq out ia ib
 let mut minGallop:=gallopOf (<-get)
 for _ in [0:total] do
  let mut u_:=0
  let mut t_:=0
  for _ in [0:total] do
   let some Le <-lt' (<-elem' b ib) (<-elem' a ia)|return done out ia ib
   if Le then
    out:=out.push (<-elem' b ib);ib:=ib+1;t_:=t_+1;u_:=0
    if ib==b.size then return done out ia ib
    if t_>=minGallop then break
   else
    out:=out.push (<-elem' a ia);ia:=ia+1;u_:=u_+1;t_:=0
    if ia+1==a.size then return Fq out ia ib
    if u_>=minGallop then break
  rule "list.sort.gallop"
  minGallop:=minGallop+1
  for _ in [0:total] do
   if minGallop>1 then minGallop:=minGallop - 1
   aJ minGallop
   let some k <-bj false (<-elem' b ib) a ia (a.size - ia) 0|return done out ia ib
   u_:=k
   if k>0 then
    out:=out++a.extract ia (ia+k);ia:=ia+k
    if ia+1==a.size then return Fq out ia ib
    if ia==a.size then return done out ia ib
   out:=out.push (<-elem' b ib);ib:=ib+1
   if ib==b.size then return done out ia ib
   let some k <-bj true (<-elem' a ia) b ib (b.size - ib) 0|return done out ia ib
   t_:=k
   if k>0 then
    out:=out++b.extract ib (ib+k);ib:=ib+k
    if ib==b.size then return done out ia ib
   out:=out.push (<-elem' a ia);ia:=ia+1
   if ia+1==a.size then return Fq out ia ib
   if u_<7&&t_<7 then break
  minGallop:=minGallop+1
  aJ minGallop
 unsupported "internal:list.sort.merge-bound"):=rfl
def kM(a b:Array Keyed):iU a b=(do
 rule "list.sort.merge-hi"
 let total:=a.size+b.size
 let done (out:Array Keyed) (na nb:Nat):=a.extract 0 na++b.extract 0 nb++out.reverse
 let Fi (out:Array Keyed) (na nb:Nat):=b.extract 0 nb++a.extract 0 na++out.reverse
 let mut na:=a.size - 1
 let mut nb:=b.size
 let mut out:Array Keyed:=#[<-elem' a na]
 if na==0 then return done out na nb
 if nb==1 then return Fi out na nb
 let mut minGallop:=gallopOf (<-get)
 for _ in [0:total] do
  let mut u_:=0
  let mut t_:=0
  for _ in [0:total] do
   let some Lf <-lt' (<-elem' b (nb - 1)) (<-elem' a (na - 1))|return done out na nb
   if Lf then
    na:=na - 1;out:=out.push (<-elem' a na);u_:=u_+1;t_:=0
    if na==0 then return done out na nb
    if u_>=minGallop then break
   else
    nb:=nb - 1;out:=out.push (<-elem' b nb);t_:=t_+1;u_:=0
    if nb==1 then return Fi out na nb
    if t_>=minGallop then break
  rule "list.sort.gallop"
  minGallop:=minGallop+1
  for _ in [0:total] do
   if minGallop>1 then minGallop:=minGallop - 1
   aJ minGallop
   let some at_ <-bj false (<-elem' b (nb - 1)) a 0 na (na - 1)|return done out na nb
   let k:=na - at_
   u_:=k
   if k>0 then
    out:=out++(a.extract at_ na).reverse;na:=at_
    if na==0 then return done out na nb
   nb:=nb - 1;out:=out.push (<-elem' b nb)
   if nb==1 then return Fi out na nb
   let some at_ <-bj true (<-elem' a (na - 1)) b 0 nb (nb - 1)|return done out na nb
   let k:=nb - at_
   t_:=k
   if k>0 then
    out:=out++(b.extract at_ nb).reverse;nb:=at_
    if nb==1 then return Fi out na nb
    if nb==0 then return done out na nb
   na:=na - 1;out:=out.push (<-elem' a na)
   if na==0 then return done out na nb
   if u_<7&&t_<7 then break
  minGallop:=minGallop+1
  aJ minGallop
 unsupported "internal:list.sort.merge-bound"):=rfl
section
variable{LT:Keyed->Keyed->Bool}
def dX(a:Array Keyed)(i:Nat):K a i=(a.toList[i]?).getD nK:=by unfold K;rw[Xy]
def eD{a:Array Keyed}{i:Nat}(h:i<a.size):a.toList.drop i=[K a i]++a.toList.drop (i+1):=by
 rw[Zf (by simpa using h),dX];simp[h]
def bL(a:Array Keyed)(i k:Nat):a.toList.drop i=(a.extract i (i+k)).toList++a.toList.drop (i+k):=by
 rw[XU,List.extract_eq_take_drop,show i+k - i=k by lia,<-List.drop_drop,X4]
def dN(a:Array Keyed)(i:Nat):(a.extract i a.size).toList=a.toList.drop i:=by
 rw[XU,List.extract_eq_take_drop];exact YK (by simp)
def cK{a:Array Keyed}{i:Nat}(h:a.size<=i):a.toList.drop i=[]:=List.drop_of_length_le (by simpa using h)
def cC{a:Array Keyed}{i:Nat}{x:Keyed}(h:x∈a.toList.drop i):∃j,i<=j/\j<a.size/\x=K a j:=by
 obtain⟨k,hk,e⟩:=List.mem_drop_iff_getElem.mp h;simp at hk;exact⟨i+k,by lia,by lia,by rw[dX];simp[show i+k<a.size by lia,<-e]⟩
def cq{a:Array Keyed}{i:Nat}{x:Keyed}(h:x∈a.toList.take i):∃j,j<i/\j<a.size/\x=K a j:=by
 obtain⟨k,hk,e⟩:=List.mem_take_iff_getElem.mp h;simp at hk;exact⟨k,by lia,by lia,by rw[dX];simp[show k<a.size by lia,<-e]⟩
def aW{a:Array Keyed}{i j:Nat}{x:Keyed}(h:x∈(a.extract i j).toList):∃k,i<=k/\k<j/\k<a.size/\x=K a k:=by
 rw[XU,List.extract_eq_take_drop]at h;obtain⟨k,hk,e⟩:=List.mem_take_iff_getElem.mp h;simp at hk;exact⟨i+k,by lia,by lia,by lia,by rw[dX];simp[show i+k<a.size by lia,<-e]⟩
def eK{a:Array Keyed}{i:Nat}(h:i<a.size):(a.toList.take (i+1)).reverse=[K a i]++(a.toList.take i).reverse:=by
 rw[List.take_succ_eq_append_getElem (by simpa using h),Yi,dX];simp[h]
def ja(a:Array Keyed){i k:Nat}(h:i<=k):(a.toList.take k).reverse=(a.extract i k).reverse.toList++(a.toList.take i).reverse:=by
 rw[Yk,<-Yi,XU,List.extract_eq_take_drop];congr 1;rw[<-X4 i (a.toList.take k),List.take_take,Nat.min_eq_left h,List.drop_take]
def cI(a:Array Keyed)(i:Nat):(a.extract 0 i).toList=a.toList.take i:=by
 rw[XU,List.extract_eq_take_drop];simp
def R(LT:Keyed->Keyed->Bool)(x y:Keyed):Prop:=LT y x=false
structure J (LT:Keyed->Keyed->Bool)(T out ra rb:List Keyed):Prop where
 pm:(out++ra++rb).Perm T
 sa:(out++ra).Pairwise (R LT)
 sb:(out++rb).Pairwise (R LT)
structure Good (LT:Keyed->Keyed->Bool)(T l:List Keyed):Prop where
 pm:l.Perm T
 so:l.Pairwise (R LT)
variable{T out ra rb c:List Keyed}
def J.swap(h:J LT T out ra rb):J LT T out rb ra:=⟨by
 have:=h.pm;rw[Zg]at this⊢;exact((List.Perm.append_left out List.perm_append_comm).trans this),h.sb,h.sa⟩
def J.push(h:J LT T out (c++ra) rb)(q:∀x∈c,∀y∈rb,LT y x=false):J LT T (out++c) ra rb:=by
 obtain⟨h1,h2,h3⟩:=h;refine⟨by rw[<-Zg]at h1;exact h1,by rw[<-Zg]at h2;exact h2,?_⟩
 rw[<-Zg]at h2;rw[Ym]at h3⊢;refine⟨(Ym.mp h2).1,h3.2.1,fun x hx y hy=>?_⟩
 rcases Zl.mp hx with hx|hx
 .exact h3.2.2 x hx y hy
 .exact q x hx y hy
def J.done(h:J LT T out ra []):Good LT T (out++ra):=⟨by simpa using h.pm,h.sa⟩
def J.last{z:Keyed}(h:J LT T out [z] rb)(q:∀y∈rb,LT z y=false):Good LT T (out++rb++[z]):=by
 refine⟨h.swap.pm,?_⟩
 .rw[Ym]
  refine⟨h.sb,List.pairwise_singleton _ _,fun x hx y hy=>?_⟩
  rw[ZE]at hy;subst hy
  rcases Zl.mp hx with hx|hx
  .exact(Ym.mp h.sa).2.2 x hx y (.head _)
  .exact q x hx
end
end SM
namespace SM
open PySem PyProof.Rows
abbrev LS:=Z_ (Array Keyed)×Array Keyed×Nat×Nat×Nat×Nat×Nat
abbrev dn'(a b out:Array Keyed)(ia ib:Nat):Array Keyed:=out++a.extract ia a.size++b.extract ib b.size
abbrev la'(a b out:Array Keyed)(ia ib:Nat):Array Keyed:=out++b.extract ib b.size++a.extract ia a.size
noncomputable def loC(a b out:Array Keyed)(ia ib mg ac bc:Nat):StateT SortSt Sem (ForInStep LS):=do
 let x <-elem' a ia
 if ia+1+1==a.size then pure (.done (some (la' a b (out.push x) (ia+1) ib),out.push x,ia+1,ib,mg,ac,bc))
 else if ac<7&&bc<7 then pure (.done (none,out.push x,ia+1,ib,mg,ac,bc)) else pure (.yield (none,out.push x,ia+1,ib,mg,ac,bc))
noncomputable def loB(a b out:Array Keyed)(ia ib mg ac bc:Nat):StateT SortSt Sem (ForInStep LS):=do
 let x <-elem' b ib
 if ib+1==b.size then pure (.done (some (dn' a b (out.push x) ia (ib+1)),out.push x,ia,ib+1,mg,ac,bc))
 else do
  let y <-elem' a ia
  match <-bj true y b (ib+1) (b.size - (ib+1)) 0 with
  |some k=>
   if k>0 then
    if ib+1+k==b.size then pure (.done (some (dn' a b (out.push x++b.extract (ib+1) (ib+1+k)) ia (ib+1+k)),out.push x++b.extract (ib+1) (ib+1+k),ia,ib+1+k,mg,ac,k))
    else loC a b (out.push x++b.extract (ib+1) (ib+1+k)) ia (ib+1+k) mg ac k
   else loC a b (out.push x) ia (ib+1) mg ac k
  |_=>pure (.done (some (dn' a b (out.push x) ia (ib+1)),out.push x,ia,ib+1,mg,ac,bc))
noncomputable def loA(a b out:Array Keyed)(ia ib mg ac bc:Nat):StateT SortSt Sem (ForInStep LS):=do
 aJ mg
 let y <-elem' b ib
 match <-bj false y a ia (a.size - ia) 0 with
 |some k=>
  if k>0 then
   if ia+k+1==a.size then pure (.done (some (la' a b (out++a.extract ia (ia+k)) (ia+k) ib),out++a.extract ia (ia+k),ia+k,ib,mg,k,bc))
   else if ia+k==a.size then pure (.done (some (dn' a b (out++a.extract ia (ia+k)) (ia+k) ib),out++a.extract ia (ia+k),ia+k,ib,mg,k,bc))
   else loB a b (out++a.extract ia (ia+k)) (ia+k) ib mg k bc
  else loB a b out ia ib mg k bc
 |_=>pure (.done (some (dn' a b out ia ib),out,ia,ib,mg,ac,bc))
section
variable{prog:ZC}{w:Zo}{A:Zu}{E:Z7->Z4->Prop}{s:Z4}{LT:Keyed->Keyed->Bool}{T:Array Keyed}{κ:SortKind}{st:SortSt}{a b:Array Keyed}
structure Two (LT:Keyed->Keyed->Bool)(T a b:Array Keyed):Prop where
 ha:∀i,i<a.size->K a i∈T
 hb:∀i,i<b.size->K b i∈T
 ua:Up LT a 0 a.size
 ub:Up LT b 0 b.size
 za:0<a.size
 zb:0<b.size
 h0:∀j,j<a.size->LT (K a j) (K b 0)=false
 hl:∀j,j<b.size->LT (K a (a.size - 1)) (K b j)=false
abbrev JL(LT:Keyed->Keyed->Bool)(a b out:Array Keyed)(ia ib:Nat):Prop:=J LT (a.toList++b.toList) out.toList (a.toList.drop ia) (b.toList.drop ib)
variable{out:Array Keyed}{ia ib:Nat}
def JL.dB(j:JL LT a b out ia ib)(e:ib=b.size):Good LT (a.toList++b.toList) (dn' a b out ia ib).toList:=by
 rw[Zs,Zs,dN,dN];rw[JL,cK (a:=b) (by lia)]at j
 rw[cK (a:=b) (by lia),Y6];exact j.done
def JL.dA(j:JL LT a b out ia ib)(e:ia=a.size):Good LT (a.toList++b.toList) (dn' a b out ia ib).toList:=by
 rw[Zs,Zs,dN,dN];rw[JL,cK (a:=a) (by lia)]at j
 rw[cK (a:=a) (by lia),Y6];exact j.swap.done
def JL.lA(W:Two LT T a b)(j:JL LT a b out ia ib)(e:ia+1=a.size):Good LT (a.toList++b.toList) (la' a b out ia ib).toList:=by
 rw[Zs,Zs,dN,dN];rw[JL,eD (show ia<a.size by lia),cK (a:=a) (show a.size<=ia+1 by lia),Y6]at j
 rw[eD (show ia<a.size by lia),cK (a:=a) (show a.size<=ia+1 by lia),Y6]
 refine j.last fun y hy=>?_
 obtain⟨k,_,hk,rfl⟩:=cC hy;rw[show ia=a.size - 1 by lia];exact W.hl k hk
def JL.pB(j:JL LT a b out ia ib)(e:ib<b.size)(q:∀k,ia<=k->k<a.size->LT (K a k) (K b ib)=false):JL LT a b (out.push (K b ib)) ia (ib+1):=by
 rw[JL,Yw];rw[JL,eD e]at j;refine(j.swap.push fun x hx y hy=>?_).swap
 obtain rfl:=ZE.mp hx;obtain⟨k,h1,h2,rfl⟩:=cC hy;exact q k h1 h2
def JL.pA(j:JL LT a b out ia ib)(e:ia<a.size)(q:∀k,ib<=k->k<b.size->LT (K b k) (K a ia)=false):JL LT a b (out.push (K a ia)) (ia+1) ib:=by
 rw[JL,Yw];rw[JL,eD e]at j;refine j.push fun x hx y hy=>?_
 obtain rfl:=ZE.mp hx;obtain⟨k,h1,h2,rfl⟩:=cC hy;exact q k h1 h2
def JL.cA(k:Nat)(j:JL LT a b out ia ib)(q:∀i,i<k->ia+i<a.size->∀j,ib<=j->j<b.size->LT (K b j) (K a (ia+i))=false):JL LT a b (out++a.extract ia (ia+k)) (ia+k) ib:=by
 rw[JL,Zs];rw[JL,bL a ia k]at j;refine j.push fun x hx y hy=>?_
 obtain⟨i,h1,h2,h3,rfl⟩:=aW hx;obtain⟨k,h4,h5,rfl⟩:=cC hy;have:=q (i - ia) (by lia) (by lia) k h4 h5
 rwa[show ia+(i - ia)=i by lia]at this
def JL.cB(k:Nat)(j:JL LT a b out ia ib)(q:∀i,i<k->ib+i<b.size->∀j,ia<=j->j<a.size->LT (K a j) (K b (ib+i))=false):JL LT a b (out++b.extract ib (ib+k)) ia (ib+k):=by
 rw[JL,Zs];rw[JL,bL b ib k]at j;refine(j.swap.push fun x hx y hy=>?_).swap
 obtain⟨i,h1,h2,h3,rfl⟩:=aW hx;obtain⟨k,h4,h5,rfl⟩:=cC hy;have:=q (i - ib) (by lia) (by lia) k h4 h5
 rwa[show ib+(i - ib)=i by lia]at this
def pw_up{c:Array Keyed}(u:Up LT c 0 c.size):c.toList.Pairwise (R LT):=List.pairwise_iff_getElem.mpr fun i j hi hj Ir=>by
 simp at hi hj;have:=u i j (Zt _) (by lia) hj
 unfold R;unfold K at this
 simpa[hi,hj]using this
def Two.j0(W:Two LT T a b):JL LT a b #[K b 0] 0 1:=by
 have j:JL LT a b #[] 0 0:=⟨YX _,pw_up W.ua,pw_up W.ub⟩;exact j.pB W.zb fun k _ hk=>W.h0 k hk
structure EndL (LT:Keyed->Keyed->Bool)(a b:Array Keyed)(st:SortSt)(n0:Nat)(P:ForInStep LS->SortSt->Prop):Prop where
 good:∀m r g,Good LT (a.toList++b.toList) m.toList->P (.done (some m,r)) (aA st g)
 next:∀out ia ib mg ac bc g,JL LT a b out ia ib->ia+1<a.size->ib<b.size->n0<ia+ib->P (.done (none,out,ia,ib,mg,ac,bc)) (aA st g)/\P (.yield (none,out,ia,ib,mg,ac,bc)) (aA st g)
variable{n0 mg ac bc g:Nat}{P:ForInStep LS->SortSt->Prop}
def vV(W:Two LT T a b)(Z:EndL LT a b st n0 P)(j:JL LT a b out ia ib)(h1:ia+1<a.size)(h2:ib<b.size)(h3:n0<=ia+ib)(q:∀k,ib<=k->k<b.size->LT (K b k) (K a ia)=false):
  wpS (model prog w) A E s (loC a b out ia ib mg ac bc) P (aA st g):=by
 refine ZG (aB (by lia) ?_)
 have j1:=j.pA (by lia) q
 by_cases e:ia+1+1=a.size
 .rw[Z0 (Zx.mpr e)];exact ZD (Z.good _ _ _ (j1.lA W e))
 .rw[ZY (fun q=>e (Zx.mp q))]
  have z:=fun ac bc=>Z.next _ _ _ mg ac bc g j1 (by lia) h2 (by lia)
  by_cases c:(decide (ac<7)&&decide (bc<7))=true
  .rw[Z0 c];exact ZD (z ac bc).1
  .rw[ZY c];exact ZD (z ac bc).2
def vM(O:OrdK LT)(H:Ans prog w A s κ LT T)(hk:kindOf st=κ)(W:Two LT T a b)(Z:EndL LT a b st n0 P)(j:JL LT a b out ia ib)(h1:ia+1<a.size)(h2:ib<b.size)(h3:n0<=ia+ib)(q:∀k,ia<=k->k<a.size->LT (K a k) (K b ib)=false):
  wpS (model prog w) A E s (loB a b out ia ib mg ac bc) P (aA st g):=by
 refine ZG (aB h2 ?_)
 have j1:=j.pB h2 q
 by_cases e:ib+1=b.size
 .rw[Z0 (Zx.mpr e)];exact ZD (Z.good _ _ _ (j1.dB e))
 rw[ZY (fun q=>e (Zx.mp q))]
 refine ZG (aB (by lia) ?_)
 refine ZG (bJ (st:=aA st g) O H hk (W.ha _ (by lia)) (by lia) (by lia) (fun i hi=>W.hb _ (by lia)) (fun p q a1 a2 a3=>W.ub p q (Zt _) a2 (by lia)) fun k k1 k2 k3=>?_)
 have q2:∀m,ib+1+k<=m->m<b.size->LT (K b m) (K a ia)=false:=fun m m1 m2=>by
  have:=k3 (m - (ib+1)) (by lia) (by lia)
  unfold fB at this
  simpa only[Y2,show ib+1+(m - (ib+1))=m by lia]using this
 dsimp only
 by_cases c:k>0
 .rw[Z0 c]
  have j2:=j1.cB k fun i i1 i2 m m1 m2=>O.tr _ _ _ (O.asym _ _ (by simpa only[fB,Y2]using k2 i i1)) (W.ua ia m (Zt _) m1 m2)
  by_cases e2:ib+1+k=b.size
  .rw[Z0 (Zx.mpr e2)];exact ZD (Z.good _ _ _ (j2.dB e2))
  .rw[ZY (fun q=>e2 (Zx.mp q))]
   exact vV W Z j2 h1 (by lia) (by lia) q2
 .rw[ZY c]
  exact vV W Z j1 h1 (by lia) (by lia) (by rw[show k=0 by lia]at q2;exact q2)
def Bg(O:OrdK LT)(H:Ans prog w A s κ LT T)(hk:kindOf st=κ)(W:Two LT T a b)(Z:EndL LT a b st n0 P)(j:JL LT a b out ia ib)(h1:ia+1<a.size)(h2:ib<b.size)(h3:n0<=ia+ib):
  wpS (model prog w) A E s (loA a b out ia ib mg ac bc) P (aA st g):=by
 unfold loA;rw[aV];refine ZG (Yb ?_)
 refine ZG (aB h2 ?_)
 refine ZG (bJ (st:=aA st mg) O H hk (W.hb _ h2) (by lia) (by lia) (fun i hi=>W.ha _ (by lia)) (fun p q a1 a2 a3=>W.ua p q (Zt _) a2 (by lia)) fun k k1 k2 k3=>?_)
 have q2:∀m,ia+k<=m->m<a.size->LT (K a m) (K b ib)=false:=fun m m1 m2=>by
  have:=k3 (m - ia) (by lia) (by lia)
  unfold fB at this;simp only[ZK,Za,Bool.not_eq_false',show ia+(m - ia)=m by lia]at this
  exact O.asym _ _ this
 dsimp only
 by_cases c:k>0
 .rw[Z0 c]
  have j2:=j.cA k fun i i1 i2 m m1 m2=>O.tr _ _ _ (by simpa only[fB,ZK,Za,YB]using k2 i i1) (W.ub ib m (Zt _) m1 m2)
  by_cases e1:ia+k+1=a.size
  .rw[Z0 (Zx.mpr e1)];exact ZD (Z.good _ _ _ (j2.lA W e1))
  .rw[ZY (fun q=>e1 (Zx.mp q))]
   by_cases e2:ia+k=a.size
   .rw[Z0 (Zx.mpr e2)];exact ZD (Z.good _ _ _ (j2.dA e2))
   .rw[ZY (fun q=>e2 (Zx.mp q))]
    exact vM O H hk W Z j2 (by lia) h2 (by lia) q2
 .rw[ZY c]
  exact vM O H hk W Z j h1 h2 h3 (by rw[show k=0 by lia]at q2;exact q2)
def oK(O:OrdK LT)(H:Ans prog w A s κ LT T)(hk:kindOf st=κ)(W:Two LT T a b){Q:Array Keyed->SortSt->Prop}(h:∀m g,Good LT (a.toList++b.toList) m.toList->Q m (aA st g)):wpS (model prog w) A E s (ij a b) Q st:=by
 rw[kH];refine ZG (wpS_lift (YW ⟨rfl,?_⟩))
 dsimp only;refine ZG (aB W.zb ?_)
 by_cases e1:1=b.size
 .rw[Z0 (Zx.mpr e1)];exact ZD (h _ (gallopOf st) (W.j0.dB e1))
 rw[ZY (fun q=>e1 (Zx.mp q))]
 by_cases e2:0+1=a.size
 .rw[Z0 (Zx.mpr e2)];exact ZD (h _ (gallopOf st) (W.j0.lA W e2))
 rw[ZY (fun q=>e2 (Zx.mp q))]
 have za:=W.za;have zb:=W.zb;refine ZG (WG ?_)
 refine ZG (X5 (YG (I:=fun x c g_=>∃out ia ib mg g,c=(none,out,ia,ib,mg)/\g_=aA st g/\JL LT a b out ia ib/\ia+1<a.size/\ib<b.size/\x+1<=ia+ib)
  (Q:=fun c g_=>∃m g r,c=(some m,r)/\g_=aA st g/\Good LT (a.toList++b.toList) m.toList) ?_ ?_ ⟨_,_,_,_,gallopOf st,rfl,rfl,W.j0,by lia,by lia,by lia⟩) ?_)
 .rintro x c g_ g1 g2 ⟨out,ia,ib,mg,g,rfl,rfl,j,i1,i2,i3⟩
  dsimp only;refine ZG (X5 (YG (I:=fun y c g_=>∃out ia ib ac bc,c=(none,out,ia,ib,ac,bc)/\g_=aA st g/\JL LT a b out ia ib/\ia+1<a.size/\ib<b.size/\x+1<=ia+ib)
   (Q:=fun c g_=>g_=aA st g/\((∃m r,c=(some m,r)/\Good LT (a.toList++b.toList) m.toList)\/∃out ia ib ac bc,c=(none,out,ia,ib,ac,bc)/\JL LT a b out ia ib/\ia+1<a.size/\ib<b.size/\x+1<=ia+ib)) ?_ ?_ ⟨out,ia,ib,0,0,rfl,rfl,j,i1,i2,i3⟩) ?_)
  .rintro y c g_ _ _ ⟨out,ia,ib,ac,bc,rfl,rfl,j,i1,i2,i3⟩
   dsimp only;refine ZG (aB i2 (ZG (aB (by lia) (ZG (su (st:=aA st g) H hk (W.hb _ i2) (W.ha _ (by lia)) ?_)))))
   dsimp only;cases hw:LT (K b ib) (K a ia)with
   |true=>
    simp only[Y2];refine ZG (aB i2 ?_)
    have j1:=j.pB i2 fun k k1 k2=>O.tr _ _ _ (O.asym _ _ hw) (W.ua ia k (Zt _) k1 k2)
    by_cases e:ib+1=b.size
    .rw[Z0 (Zx.mpr e)];exact ZD ⟨rfl,.inl ⟨_,_,rfl,j1.dB e⟩⟩
    .rw[ZY (fun q=>e (Zx.mp q))]
     by_cases c:bc+1>=mg
     .rw[Z0 c];exact ZD ⟨rfl,.inr ⟨_,_,_,_,_,rfl,j1,i1,by lia,by lia⟩⟩
     .rw[ZY c];exact ZD ⟨_,_,_,_,_,rfl,rfl,j1,i1,by lia,by lia⟩
   |false=>
    simp only[ZK,Za];refine ZG (aB (by lia) ?_)
    have j1:=j.pA (by lia) fun k k1 k2=>O.tr _ _ _ hw (W.ub ib k (Zt _) k1 k2)
    by_cases e:ia+1+1=a.size
    .rw[Z0 (Zx.mpr e)];exact ZD ⟨rfl,.inl ⟨_,_,rfl,j1.lA W e⟩⟩
    .rw[ZY (fun q=>e (Zx.mp q))]
     by_cases c:ac+1>=mg
     .rw[Z0 c];exact ZD ⟨rfl,.inr ⟨_,_,_,_,_,rfl,j1,by lia,i2,by lia⟩⟩
     .rw[ZY c];exact ZD ⟨_,_,_,_,_,rfl,rfl,j1,by lia,i2,by lia⟩
  .rintro c g_ ⟨out,ia,ib,ac,bc,rfl,rfl,j,i1,i2,i3⟩
   exact⟨rfl,.inr ⟨_,_,_,_,_,rfl,j,i1,i2,i3⟩⟩
  .rintro c g_ ⟨rfl,⟨m,r,rfl,hm⟩|⟨out,ia,ib,ac,bc,rfl,j,i1,i2,i3⟩⟩
   .exact ZD ⟨m,g,_,rfl,rfl,hm⟩
   .dsimp only
    refine ZG (wpS_lift (YW ⟨rfl,?_⟩))
    refine ZG (X5 (YG (I:=fun y c g_=>∃out ia ib mg ac bc g,c=(none,out,ia,ib,mg,ac,bc)/\g_=aA st g/\JL LT a b out ia ib/\ia+1<a.size/\ib<b.size/\x+1<=ia+ib/\(1<=y->x+1<ia+ib))
     (Q:=fun c g_=>∃g,g_=aA st g/\((∃m r,c=(some m,r)/\Good LT (a.toList++b.toList) m.toList)\/∃out ia ib mg ac bc,c=(none,out,ia,ib,mg,ac,bc)/\JL LT a b out ia ib/\ia+1<a.size/\ib<b.size/\x+1<ia+ib)) ?_ ?_ ⟨out,ia,ib,_,ac,bc,g,rfl,rfl,j,i1,i2,i3,fun q=>absurd q (by lia)⟩) ?_)
    .rintro y c g_ _ _ ⟨out,ia,ib,mg,ac,bc,g,rfl,rfl,j,i1,i2,i3,_⟩
     dsimp only
     by_cases c:mg>1
     all_goals
      first|rw[Z0 c]|rw[ZY c]
      refine Bg O H hk W ?_ j i1 i2 i3
      exact⟨fun m r g hm=>⟨g,rfl,.inl ⟨m,r,rfl,hm⟩⟩,fun out ia ib mg ac bc g j q1 q2 q3=>⟨⟨g,rfl,.inr ⟨_,_,_,_,_,_,rfl,j,q1,q2,q3⟩⟩,⟨_,_,_,_,_,_,g,rfl,rfl,j,q1,q2,by lia,fun _=>q3⟩⟩⟩
    .rintro c g_ ⟨out,ia,ib,mg,ac,bc,g,rfl,rfl,j,i1,i2,i3,i4⟩
     exact⟨g,rfl,.inr ⟨_,_,_,_,_,_,rfl,j,i1,i2,i4 (by lia)⟩⟩
    .rintro c g_ ⟨g,rfl,⟨m,r,rfl,hm⟩|⟨out,ia,ib,mg,ac,bc,rfl,j,i1,i2,i3⟩⟩
     .exact ZD ⟨m,g,_,rfl,rfl,hm⟩
     .dsimp only
      rw[aV];exact ZG (Yb (ZD ⟨_,_,_,_,_,rfl,rfl,j,i1,i2,by lia⟩))
 .rintro c g_ ⟨out,ia,ib,mg,g,rfl,rfl,j,i1,i2,i3⟩
  exfalso;lia
 .rintro c g_ ⟨m,g,r,rfl,rfl,hm⟩
  exact ZD (h m g hm)
end
end SM
namespace SM
open PySem PyProof.Rows
abbrev HS:=Z_ (Array Keyed)×Nat×Nat×Array Keyed×Nat×Nat×Nat
abbrev dh'(a b out:Array Keyed)(na nb:Nat):Array Keyed:=a.extract 0 na++b.extract 0 nb++out.reverse
abbrev fh'(a b out:Array Keyed)(na nb:Nat):Array Keyed:=b.extract 0 nb++a.extract 0 na++out.reverse
noncomputable def hiC(a b out:Array Keyed)(na nb mg ac bc:Nat):StateT SortSt Sem (ForInStep HS):=do
 let x <-elem' a (na - 1)
 if na - 1==0 then pure (.done (some (dh' a b (out.push x) (na - 1) nb),na - 1,nb,out.push x,mg,ac,bc))
 else if ac<7&&bc<7 then pure (.done (none,na - 1,nb,out.push x,mg,ac,bc)) else pure (.yield (none,na - 1,nb,out.push x,mg,ac,bc))
noncomputable def hiB(a b out:Array Keyed)(na nb mg ac bc:Nat):StateT SortSt Sem (ForInStep HS):=do
 let x <-elem' b (nb - 1)
 if nb - 1==1 then pure (.done (some (fh' a b (out.push x) na (nb - 1)),na,nb - 1,out.push x,mg,ac,bc))
 else do
  let y <-elem' a (na - 1)
  match <-bj true y b 0 (nb - 1) (nb - 1 - 1)with
  |some t=>
   if nb - 1 - t>0 then
    if t==1 then pure (.done (some (fh' a b (out.push x++(b.extract t (nb - 1)).reverse) na t),na,t,out.push x++(b.extract t (nb - 1)).reverse,mg,ac,nb - 1 - t))
    else if t==0 then pure (.done (some (dh' a b (out.push x++(b.extract t (nb - 1)).reverse) na t),na,t,out.push x++(b.extract t (nb - 1)).reverse,mg,ac,nb - 1 - t))
    else hiC a b (out.push x++(b.extract t (nb - 1)).reverse) na t mg ac (nb - 1 - t)
   else hiC a b (out.push x) na (nb - 1) mg ac (nb - 1 - t)
  |_=>pure (.done (some (dh' a b (out.push x) na (nb - 1)),na,nb - 1,out.push x,mg,ac,bc))
noncomputable def hiA(a b out:Array Keyed)(na nb mg ac bc:Nat):StateT SortSt Sem (ForInStep HS):=do
 aJ mg
 let y <-elem' b (nb - 1)
 match <-bj false y a 0 na (na - 1)with
 |some t=>
  if na - t>0 then
   if t==0 then pure (.done (some (dh' a b (out++(a.extract t na).reverse) t nb),t,nb,out++(a.extract t na).reverse,mg,na - t,bc))
   else hiB a b (out++(a.extract t na).reverse) t nb mg (na - t) bc
  else hiB a b out na nb mg (na - t) bc
 |_=>pure (.done (some (dh' a b out na nb),na,nb,out,mg,ac,bc))
def fl(LT:Keyed->Keyed->Bool)(x y:Keyed):Bool:=LT y x
section
variable{prog:ZC}{w:Zo}{A:Zu}{E:Z7->Z4->Prop}{s:Z4}{LT:Keyed->Keyed->Bool}{T:Array Keyed}{κ:SortKind}{st:SortSt}{a b:Array Keyed}
abbrev JH(LT:Keyed->Keyed->Bool)(a b out:Array Keyed)(na nb:Nat):Prop:=J (fl LT) (a.toList++b.toList) out.toList (a.toList.take na).reverse (b.toList.take nb).reverse
def Good.rev{T l:List Keyed}(h:Good (fl LT) T l):Good LT T l.reverse:=⟨(List.reverse_perm l).trans h.pm,List.pairwise_reverse.mpr h.so⟩
variable{out:Array Keyed}{na nb:Nat}
def JH.dA(j:JH LT a b out na nb)(e:na=0):Good LT (a.toList++b.toList) (dh' a b out na nb).toList:=by
 subst e;rw[JH,List.take_zero,List.reverse_nil]at j;have:=j.swap.done.rev;rw[Yi,Xr]at this;rwa[Zs,Zs,cI,cI,Yk,List.take_zero,List.nil_append]
def JH.dB(j:JH LT a b out na nb)(e:nb=0):Good LT (a.toList++b.toList) (dh' a b out na nb).toList:=by
 subst e;rw[JH,List.take_zero,List.reverse_nil]at j;have:=j.done.rev;rw[Yi,Xr]at this;rwa[Zs,Zs,cI,cI,Yk,List.take_zero,Y6]
def JH.fB(W:Two LT T a b)(j:JH LT a b out na nb)(e:nb=1):Good LT (a.toList++b.toList) (fh' a b out na nb).toList:=by
 subst e;rw[JH,eK (a:=b) (i:=0) W.zb,List.take_zero,List.reverse_nil,Y6]at j;have:=(j.swap.last fun y hy=>?_).rev
 .rw[Yi,Yi,Xr]at this
  have e:=eK (a:=b) (i:=0) W.zb;rw[List.take_zero,List.reverse_nil,Y6]at e;have e':=congrArg List.reverse e;rw[Xr]at e';rw[Zs,Zs,cI,cI,Yk,e',Zg];exact this
 .obtain⟨k,_,hk,rfl⟩:=cq (Ye.mp hy)
  exact W.h0 k hk
def JH.pA(j:JH LT a b out (na+1) nb)(e:na<a.size)(q:∀k,k<nb->k<b.size->LT (K a na) (K b k)=false):JH LT a b (out.push (K a na)) na nb:=by
 rw[JH,Yw];rw[JH,eK e]at j;refine j.push fun x hx y hy=>?_
 obtain rfl:=ZE.mp hx;obtain⟨k,h1,h2,rfl⟩:=cq (Ye.mp hy);exact q k h1 h2
def JH.pB(j:JH LT a b out na (nb+1))(e:nb<b.size)(q:∀k,k<na->k<a.size->LT (K b nb) (K a k)=false):JH LT a b (out.push (K b nb)) na nb:=by
 rw[JH,Yw];rw[JH,eK e]at j;refine(j.swap.push fun x hx y hy=>?_).swap
 obtain rfl:=ZE.mp hx;obtain⟨k,h1,h2,rfl⟩:=cq (Ye.mp hy);exact q k h1 h2
def JH.cA{t:Nat}(ht:t<=na)(j:JH LT a b out na nb)(q:∀i,t<=i->i<na->i<a.size->∀j,j<nb->j<b.size->LT (K a i) (K b j)=false):JH LT a b (out++(a.extract t na).reverse) t nb:=by
 rw[JH,Zs];rw[JH,ja a ht]at j;refine j.push fun x hx y hy=>?_
 rw[Yk,Ye]at hx;obtain⟨i,h1,h2,h3,rfl⟩:=aW hx;obtain⟨k,h4,h5,rfl⟩:=cq (Ye.mp hy);exact q i h1 h2 h3 k h4 h5
def JH.cB{t:Nat}(ht:t<=nb)(j:JH LT a b out na nb)(q:∀i,t<=i->i<nb->i<b.size->∀j,j<na->j<a.size->LT (K b i) (K a j)=false):JH LT a b (out++(b.extract t nb).reverse) na t:=by
 rw[JH,Zs];rw[JH,ja b ht]at j;refine(j.swap.push fun x hx y hy=>?_).swap
 rw[Yk,Ye]at hx;obtain⟨i,h1,h2,h3,rfl⟩:=aW hx;obtain⟨k,h4,h5,rfl⟩:=cq (Ye.mp hy);exact q i h1 h2 h3 k h4 h5
def Two.k0(W:Two LT T a b):JH LT a b #[K a (a.size - 1)] (a.size - 1) b.size:=by
 have rv:∀{c:Array Keyed},Up LT c 0 c.size->(c.toList.take c.size).reverse.Pairwise (R (fl LT)):=fun{c} u=>by
  rw[YK (by simp)];exact List.pairwise_reverse.mpr (pw_up u)
 have j:JH LT a b #[] a.size b.size:=⟨by
  rw[YK (by simp),YK (by simp)]
  exact((List.reverse_perm _).append (List.reverse_perm _)),rv W.ua,rv W.ub⟩
 have za:=W.za;rw[show a.size=a.size - 1+1 by lia]at j
 exact j.pA (by lia) fun k k1 k2=>W.hl k k2
structure EndH (LT:Keyed->Keyed->Bool)(a b:Array Keyed)(st:SortSt)(n0:Nat)(P:ForInStep HS->SortSt->Prop):Prop where
 good:∀m r g,Good LT (a.toList++b.toList) m.toList->P (.done (some m,r)) (aA st g)
 next:∀out na nb mg ac bc g,JH LT a b out na nb->1<=na->na<=a.size->2<=nb->nb<=b.size->na+nb<n0->P (.done (none,na,nb,out,mg,ac,bc)) (aA st g)/\P (.yield (none,na,nb,out,mg,ac,bc)) (aA st g)
variable{n0 mg ac bc g:Nat}{P:ForInStep HS->SortSt->Prop}
def wO(W:Two LT T a b)(Z:EndH LT a b st n0 P)(j:JH LT a b out na nb)(h1:1<=na)(G8:na<=a.size)(h2:2<=nb)(GD:nb<=b.size)(h3:na+nb<=n0)(q:∀k,k<nb->k<b.size->LT (K a (na - 1)) (K b k)=false):
  wpS (model prog w) A E s (hiC a b out na nb mg ac bc) P (aA st g):=by
 refine ZG (aB (by lia) ?_)
 have j1:=JH.pA (na:=na - 1) (by rw[show na - 1+1=na by lia];exact j) (by lia) q
 by_cases e:na - 1=0
 .rw[Z0 (Zx.mpr e)];exact ZD (Z.good _ _ _ (j1.dA e))
 .rw[ZY (fun q=>e (Zx.mp q))]
  have z:=fun ac bc=>Z.next _ _ _ mg ac bc g j1 (by lia) (by lia) h2 GD (by lia)
  by_cases c:(decide (ac<7)&&decide (bc<7))=true
  .rw[Z0 c];exact ZD (z ac bc).1
  .rw[ZY c];exact ZD (z ac bc).2
def vN(O:OrdK LT)(H:Ans prog w A s κ LT T)(hk:kindOf st=κ)(W:Two LT T a b)(Z:EndH LT a b st n0 P)(j:JH LT a b out na nb)(h1:1<=na)(G8:na<=a.size)(h2:2<=nb)(GD:nb<=b.size)(h3:na+nb<=n0)(q:∀k,k<na->k<a.size->LT (K b (nb - 1)) (K a k)=false):
  wpS (model prog w) A E s (hiB a b out na nb mg ac bc) P (aA st g):=by
 refine ZG (aB (by lia) ?_)
 have j1:=JH.pB (nb:=nb - 1) (by rw[show nb - 1+1=nb by lia];exact j) (by lia) q
 by_cases e:nb - 1=1
 .rw[Z0 (Zx.mpr e)];exact ZD (Z.good _ _ _ (j1.fB W e))
 rw[ZY (fun q=>e (Zx.mp q))]
 refine ZG (aB (by lia) ?_)
 refine ZG (bJ (st:=aA st g) O H hk (W.ha _ (by lia)) (by lia) (by lia) (fun i hi=>W.hb _ (by lia)) (fun p q a1 a2 a3=>W.ub p q (Zt _) a2 (by lia)) fun t k1 k2 k3=>?_)
 have q2:∀m,m<t->m<b.size->LT (K a (na - 1)) (K b m)=false:=fun m m1 m2=>by
  have:=k2 m m1;unfold fB at this;simp only[Y2,XS]at this;exact O.asym _ _ this
 dsimp only
 by_cases c:nb - 1 - t>0
 .rw[Z0 c]
  have j2:=j1.cB (t:=t) (by lia) fun i i1 i2 i3 m m1 m2=>O.tr _ _ _ (W.ua m (na - 1) (Zt _) (by lia) (by lia)) (by simpa only[fB,Y2,XS]using k3 i i1 i2)
  by_cases e2:t=1
  .rw[Z0 (Zx.mpr e2)];exact ZD (Z.good _ _ _ (j2.fB W e2))
  rw[ZY (fun q=>e2 (Zx.mp q))]
  by_cases e3:t=0
  .rw[Z0 (Zx.mpr e3)];exact ZD (Z.good _ _ _ (j2.dB e3))
  rw[ZY (fun q=>e3 (Zx.mp q))]
  exact wO W Z j2 h1 G8 (by lia) (by lia) (by lia) q2
 .rw[ZY c]
  exact wO W Z j1 h1 G8 (by lia) (by lia) (by lia) (by rw[show t=nb - 1 by lia]at q2;exact q2)
def Ax(O:OrdK LT)(H:Ans prog w A s κ LT T)(hk:kindOf st=κ)(W:Two LT T a b)(Z:EndH LT a b st n0 P)(j:JH LT a b out na nb)(h1:1<=na)(G8:na<=a.size)(h2:2<=nb)(GD:nb<=b.size)(h3:na+nb<=n0):
  wpS (model prog w) A E s (hiA a b out na nb mg ac bc) P (aA st g):=by
 unfold hiA;rw[aV];refine ZG (Yb ?_)
 refine ZG (aB (by lia) ?_)
 refine ZG (bJ (st:=aA st mg) O H hk (W.hb _ (by lia)) (by lia) (by lia) (fun i hi=>W.ha _ (by lia)) (fun p q a1 a2 a3=>W.ua p q (Zt _) a2 (by lia)) fun t k1 k2 k3=>?_)
 have q2:∀m,m<t->m<a.size->LT (K b (nb - 1)) (K a m)=false:=fun m m1 m2=>by
  have:=k2 m m1;unfold fB at this
  simpa only[ZK,Za,YB,XS]using this
 dsimp only
 by_cases c:na - t>0
 .rw[Z0 c]
  have j2:=j.cA (t:=t) (by lia) fun i i1 i2 i3 m m1 m2=>O.tr _ _ _ (W.ub m (nb - 1) (Zt _) (by lia) (by lia)) (O.asym _ _ (by simpa only[fB,ZK,Za,Bool.not_eq_false',XS]using k3 i i1 i2))
  by_cases e1:t=0
  .rw[Z0 (Zx.mpr e1)];exact ZD (Z.good _ _ _ (j2.dA e1))
  .rw[ZY (fun q=>e1 (Zx.mp q))]
   exact vN O H hk W Z j2 (by lia) (by lia) h2 GD (by lia) q2
 .rw[ZY c]
  exact vN O H hk W Z j h1 G8 h2 GD h3 (by rw[show t=na by lia]at q2;exact q2)
def nS(O:OrdK LT)(H:Ans prog w A s κ LT T)(hk:kindOf st=κ)(W:Two LT T a b){Q:Array Keyed->SortSt->Prop}(h:∀m g,Good LT (a.toList++b.toList) m.toList->Q m (aA st g)):wpS (model prog w) A E s (iU a b) Q st:=by
 have za:=W.za;have zb:=W.zb;rw[kM];refine ZG (wpS_lift (YW ⟨rfl,?_⟩))
 dsimp only;refine ZG (aB (by lia) ?_)
 by_cases e1:a.size - 1=0
 .rw[Z0 (Zx.mpr e1)];exact ZD (h _ (gallopOf st) (W.k0.dA e1))
 rw[ZY (fun q=>e1 (Zx.mp q))]
 by_cases e2:b.size=1
 .rw[Z0 (Zx.mpr e2)];exact ZD (h _ (gallopOf st) (W.k0.fB W e2))
 rw[ZY (fun q=>e2 (Zx.mp q))]
 refine ZG (WG ?_)
 refine ZG (X5 (YG (I:=fun x c g_=>∃na nb out mg g,c=(none,na,nb,out,mg)/\g_=aA st g/\JH LT a b out na nb/\1<=na/\na<=a.size/\2<=nb/\nb<=b.size/\na+nb+x+1<=a.size+b.size)
  (Q:=fun c g_=>∃m g r,c=(some m,r)/\g_=aA st g/\Good LT (a.toList++b.toList) m.toList) ?_ ?_ ⟨_,_,_,_,gallopOf st,rfl,rfl,W.k0,by lia,by lia,by lia,by lia,by lia⟩) ?_)
 .rintro x c g_ g1 g2 ⟨na,nb,out,mg,g,rfl,rfl,j,i1,F8,i2,F7,i3⟩
  dsimp only;refine ZG (X5 (YG (I:=fun y c g_=>∃na nb out ac bc,c=(none,na,nb,out,ac,bc)/\g_=aA st g/\JH LT a b out na nb/\1<=na/\na<=a.size/\2<=nb/\nb<=b.size/\na+nb+x+1<=a.size+b.size)
   (Q:=fun c g_=>g_=aA st g/\((∃m r,c=(some m,r)/\Good LT (a.toList++b.toList) m.toList)\/∃na nb out ac bc,c=(none,na,nb,out,ac,bc)/\JH LT a b out na nb/\1<=na/\na<=a.size/\2<=nb/\nb<=b.size/\na+nb+x+1<=a.size+b.size)) ?_ ?_ ⟨na,nb,out,0,0,rfl,rfl,j,i1,F8,i2,F7,i3⟩) ?_)
  .rintro y c g_ _ _ ⟨na,nb,out,ac,bc,rfl,rfl,j,i1,F8,i2,F7,i3⟩
   dsimp only;refine ZG (aB (by lia) (ZG (aB (by lia) (ZG (su (st:=aA st g) H hk (W.hb _ (by lia)) (W.ha _ (by lia)) ?_)))))
   dsimp only;cases hw:LT (K b (nb - 1)) (K a (na - 1))with
   |true=>
    simp only[Y2];refine ZG (aB (by lia) ?_)
    have j1:=JH.pA (na:=na - 1) (by rw[show na - 1+1=na by lia];exact j) (by lia) fun k k1 k2=>O.tr _ _ _ (W.ub k (nb - 1) (Zt _) (by lia) (by lia)) (O.asym _ _ hw)
    by_cases e:na - 1=0
    .rw[Z0 (Zx.mpr e)];exact ZD ⟨rfl,.inl ⟨_,_,rfl,j1.dA e⟩⟩
    .rw[ZY (fun q=>e (Zx.mp q))]
     by_cases c:ac+1>=mg
     .rw[Z0 c];exact ZD ⟨rfl,.inr ⟨_,_,_,_,_,rfl,j1,by lia,by lia,i2,F7,by lia⟩⟩
     .rw[ZY c];exact ZD ⟨_,_,_,_,_,rfl,rfl,j1,by lia,by lia,i2,F7,by lia⟩
   |false=>
    simp only[ZK,Za];refine ZG (aB (by lia) ?_)
    have j1:=JH.pB (nb:=nb - 1) (by rw[show nb - 1+1=nb by lia];exact j) (by lia) fun k k1 k2=>O.tr _ _ _ (W.ua k (na - 1) (Zt _) (by lia) (by lia)) hw
    by_cases e:nb - 1=1
    .rw[Z0 (Zx.mpr e)];exact ZD ⟨rfl,.inl ⟨_,_,rfl,j1.fB W e⟩⟩
    .rw[ZY (fun q=>e (Zx.mp q))]
     by_cases c:bc+1>=mg
     .rw[Z0 c];exact ZD ⟨rfl,.inr ⟨_,_,_,_,_,rfl,j1,i1,F8,by lia,by lia,by lia⟩⟩
     .rw[ZY c];exact ZD ⟨_,_,_,_,_,rfl,rfl,j1,i1,F8,by lia,by lia,by lia⟩
  .rintro c g_ ⟨na,nb,out,ac,bc,rfl,rfl,j,i1,F8,i2,F7,i3⟩
   exact⟨rfl,.inr ⟨_,_,_,_,_,rfl,j,i1,F8,i2,F7,i3⟩⟩
  .rintro c g_ ⟨rfl,⟨m,r,rfl,hm⟩|⟨na,nb,out,ac,bc,rfl,j,i1,F8,i2,F7,i3⟩⟩
   .exact ZD ⟨m,g,_,rfl,rfl,hm⟩
   .dsimp only
    refine ZG (wpS_lift (YW ⟨rfl,?_⟩))
    refine ZG (X5 (YG (I:=fun y c g_=>∃na nb out mg ac bc g,c=(none,na,nb,out,mg,ac,bc)/\g_=aA st g/\JH LT a b out na nb/\1<=na/\na<=a.size/\2<=nb/\nb<=b.size/\na+nb+x+1<=a.size+b.size/\(1<=y->na+nb+x+1<a.size+b.size))
     (Q:=fun c g_=>∃g,g_=aA st g/\((∃m r,c=(some m,r)/\Good LT (a.toList++b.toList) m.toList)\/∃na nb out mg ac bc,c=(none,na,nb,out,mg,ac,bc)/\JH LT a b out na nb/\1<=na/\na<=a.size/\2<=nb/\nb<=b.size/\na+nb+x+1<a.size+b.size)) ?_ ?_ ⟨na,nb,out,_,ac,bc,g,rfl,rfl,j,i1,F8,i2,F7,i3,fun q=>absurd q (by lia)⟩) ?_)
    .rintro y c g_ _ _ ⟨na,nb,out,mg,ac,bc,g,rfl,rfl,j,i1,F8,i2,F7,i3,_⟩
     dsimp only
     by_cases c:mg>1
     all_goals
      first|rw[Z0 c]|rw[ZY c]
      refine Ax (n0:=a.size+b.size - (x+1)) O H hk W ?_ j i1 F8 i2 F7 (by lia)
      exact⟨fun m r g hm=>⟨g,rfl,.inl ⟨m,r,rfl,hm⟩⟩,fun out na nb mg ac bc g j q1 JI q2 NI q3=>⟨⟨g,rfl,.inr ⟨_,_,_,_,_,_,rfl,j,q1,JI,q2,NI,by lia⟩⟩,⟨_,_,_,_,_,_,g,rfl,rfl,j,q1,JI,q2,NI,by lia,fun _=>by lia⟩⟩⟩
    .rintro c g_ ⟨na,nb,out,mg,ac,bc,g,rfl,rfl,j,i1,F8,i2,F7,i3,i4⟩
     exact⟨g,rfl,.inr ⟨_,_,_,_,_,_,rfl,j,i1,F8,i2,F7,i4 (by lia)⟩⟩
    .rintro c g_ ⟨g,rfl,⟨m,r,rfl,hm⟩|⟨na,nb,out,mg,ac,bc,rfl,j,i1,F8,i2,F7,i3⟩⟩
     .exact ZD ⟨m,g,_,rfl,rfl,hm⟩
     .dsimp only
      rw[aV];exact ZG (Yb (ZD ⟨_,_,_,_,_,rfl,rfl,j,i1,F8,i2,F7,by lia⟩))
 .rintro c g_ ⟨na,nb,out,mg,g,rfl,rfl,j,i1,F8,i2,F7,i3⟩
  exfalso;lia
 .rintro c g_ ⟨m,g,r,rfl,rfl,hm⟩
  exact ZD (h m g hm)
end
end SM
namespace SM
open PySem PyProof.Rows
theorem kD(i:Nat):mergeAt' i=(do
 let s <-get
 let (some (sa,na,power),some (sb,nb,_)):=((pendingOf s)[i]?,(pendingOf s)[i+1]?)|unsupported "internal:list.sort.pending"
 set (setPending s (((pendingOf s).setIfInBounds i (sa,na+nb,power)).eraseIdxIfInBounds (i+1)))
 let some k <-bj false (<-elem' (arrOf s) sb) (arrOf s) sa na 0|return false
 let (sa,na):=(sa+k,na - k)
 if na==0 then return true
 let some nb <-bj true (<-elem' (arrOf s) (sa+na - 1)) (arrOf s) sb nb (nb - 1)|return false
 if nb==0 then return true
 let x:=(arrOf s).extract sa sb
 let y:=(arrOf s).extract sb (sb+nb)
 let merged <-if na<=nb then ij x y else iU x y
 modify fun s=>setArr s (merged.toList.zipIdx.foldl (fun a (p,j)=>a.setIfInBounds (sa+j) p) (arrOf s))
 return (failedOf (<-get)).isNone):=rfl
def eC{a:Array Keyed}{s e i:Nat}(h:s+i<e):K (a.extract s e) i=K a (s+i):=by
 apply zj;rw[Array.getElem?_extract]
 split
 .rfl
 .rw[X6];lia
def yW{P L L' S:List Keyed}{q:Nat}(e:L.length=L'.length)(h:q<P.length\/P.length+L.length<=q):(P++L++S)[q]?=(P++L'++S)[q]?:=by
 rcases h with h|h
 .rw[Zg,Zg,YA h,YA h]
 .rw[Yq (by rw[Zz];exact h),Yq (by rw[Zz,<-e];exact h),Zz,Zz,e]
def nA(m:List Keyed):∀(mid pre post:List Keyed)(a:Array Keyed)(o st:Nat),a.toList=pre++mid++post->pre.length=o+st->m.length=mid.length->
  ((m.zipIdx st).foldl (fun a (p:Keyed×Nat)=>a.setIfInBounds (o+p.2) p.1) a).toList=pre++m++post:=by
 induction m with
 |nil=>intro mid pre post a o st h _ h3;rw[List.eq_nil_of_length_eq_zero h3.symm]at h;exact h
 |cons x m ih=>
  intro mid pre post a o st h h2 h3;cases mid with
  |nil=>cases h3
  |cons c mid=>
   rw[List.zipIdx_cons,List.foldl_cons];have:=ih mid (pre++[x]) post (a.setIfInBounds (o+st) x) o (st+1) (by
    rw[Array.toList_setIfInBounds,h,<-h2,Zg,List.set_append_right _ _ (ZU _),Nat.sub_self];simp) (by simp;lia) (Nat.succ.inj h3)
   rw[this];simp
section
variable{prog:ZC}{w:Zo}{A:Zu}{E:Z7->Z4->Prop}{s:Z4}{LT:Keyed->Keyed->Bool}{T:Array Keyed}{κ:SortKind}{a:Array Keyed}
def mX{i j:Nat}(u:Up LT a i j):(a.extract i j).toList.Pairwise (R LT):=by
 apply pw_up;intro p q _ h1 h2;rw[Array.size_extract]at h2;rw[eC (by lia),eC (by lia)]
 exact u _ _ (by lia) (by lia) (by lia)
def vw(O:OrdK LT){P L S:List Keyed}(h:a.toList=P++L++S)(hl:L.Pairwise (R LT)):Up LT a P.length (P.length+L.length):=fun p q h1 h2 h3=>by
 have e:∀i (hi:i<L.length),K a (P.length+i)=L[i]:=fun i hi=>by
  rw[dX,h,Zg,Yq (by lia),show P.length+i - P.length=i by lia,YA hi];simp[hi]
 obtain⟨p,rfl⟩:∃p',p=P.length+p':=⟨p - P.length,by lia⟩
 obtain⟨q,rfl⟩:∃p',q=P.length+p':=⟨q - P.length,by lia⟩
 rw[e p (by lia),e q (by lia)]
 by_cases c:p=q
 .subst c;exact O.irr _
 .exact List.pairwise_iff_getElem.mp hl p q (by lia) (by lia) (by lia)
def oQ(O:OrdK LT)(H:Ans prog w A s κ LT T){p:Array (Nat×Nat×Nat)}{l1 l2:List (Nat×Nat×Nat)}{sa na pw nb Lo g i:Nat}(hT:a.Perm T)(hp:p.toList=l1++(sa,na,pw)::(sa+na,nb,Lo)::l2)(hi:i=l1.length)(h1:1<=na)(h2:1<=nb)
  (hz:sa+na+nb<=T.size) (u1:Up LT a sa (sa+na)) (u2:Up LT a (sa+na) (sa+na+nb)) {Q:Bool->SortSt->Prop}
  (h:∀a' p' g,a'.Perm T->(∀k,k<sa\/sa+na+nb<=k->K a' k=K a k)->Up LT a' sa (sa+(na+nb))->p'.toList=l1++(sa,na+nb,pw)::l2->Q true (SortSt.mk' κ a' p' g none)):
  wpS (model prog w) A E s (mergeAt' i) Q (SortSt.mk' κ a p g none):=by
 have ez:=hT.size_eq;have mT:∀k,k<T.size->K a k∈T:=fun k hk=>hT.mem_iff.mp (yf (by lia))
 subst hi;have g1:p[l1.length]?=some (sa,na,pw):=by rw[<-Xy,hp];simp
 have g2:p[l1.length+1]?=some (sa+na,nb,Lo):=by rw[<-Xy,hp];simp
 rw[kD];refine ZG (WG ?_)
 have ea:∀p g,arrOf (SortSt.mk' κ a p g none)=a:=fun _ _=>rfl
 simp only[ea];rw[g1,g2];dsimp only;have Fn:((p.setIfInBounds l1.length (sa,na+nb,pw)).eraseIdxIfInBounds (l1.length+1)).toList=l1++(sa,na+nb,pw)::l2:=by
  rw[Array.toList_eraseIdxIfInBounds,Array.toList_setIfInBounds,hp];simp[List.eraseIdx_append_of_length_le]
 generalize ((p.setIfInBounds l1.length (sa,na+nb,pw)).eraseIdxIfInBounds (l1.length+1))=p' at Fn⊢;refine ZG (?_:wpS (model prog w) A E s (set _:StateT SortSt Sem PUnit) _ _)
 unfold wpS;rw[StateT.run_set];refine Z3 ⟨rfl,?_⟩
 refine ZG (aB (by lia) ?_)
 refine ZG (bJ (st:=SortSt.mk' κ a p' g none) O H rfl (mT _ (by lia)) (by lia) (by lia) (fun j hj=>mT _ (by lia)) u1 fun k k1 k2 k3=>?_)
 dsimp only;have whole:∀(e:∀q,q<na->LT (K a (sa+na)) (K a (sa+q))=false),Up LT a sa (sa+(na+nb)):=fun e x y a1 a2 a3=>by
  by_cases c1:y<sa+na
  .exact u1 x y a1 a2 c1
  .by_cases c2:x<sa+na
   .have:=e (x - sa) (by lia)
    rw[show sa+(x - sa)=x by lia]at this
    exact O.tr _ _ _ this (u2 (sa+na) y (ZU _) (by lia) (by lia))
   .exact u2 x y (by lia) a2 (by lia)
 by_cases c:na - k=0
 .rw[Z0 (Zx.mpr c)]
  exact ZD (h a p' g hT (fun _ _=>rfl) (whole fun q hq=>by simpa only[fB,ZK,Za,YB]using k2 q (by lia)) Fn)
 rw[ZY (fun q=>c (Zx.mp q))]
 have el:sa+k+(na - k) - 1=sa+na - 1:=by lia
 rw[el];refine ZG (aB (by lia) ?_)
 refine ZG (bJ (st:=SortSt.mk' κ a p' g none) O H rfl (mT _ (by lia)) (by lia) (by lia) (fun j hj=>mT _ (by lia)) u2 fun FL n1 n2 n3=>?_)
 dsimp only
 by_cases c':FL=0
 .rw[Z0 (Zx.mpr c')]
  refine ZD (h a p' g hT (fun _ _=>rfl) (whole fun q hq=>?_) Fn)
  have:=n3 0 (by lia) (by lia)
  simp only[fB,Y2,Nat.add_zero]at this;exact O.tr _ _ _ (u1 (sa+q) (sa+na - 1) (by lia) (by lia) (by lia)) this
 rw[ZY (fun q=>c' (Zx.mp q))]
 have W:Two LT T (a.extract (sa+k) (sa+na)) (a.extract (sa+na) (sa+na+FL)):=by
  have zx:(a.extract (sa+k) (sa+na)).size=na - k:=by rw[Array.size_extract];lia
  have zy:(a.extract (sa+na) (sa+na+FL)).size=FL:=by rw[Array.size_extract];lia
  refine⟨fun i hi=>?_,fun i hi=>?_,fun x y a1 a2 a3=>?_,fun x y a1 a2 a3=>?_,by lia,by lia,fun j hj=>?_,fun j hj=>?_⟩
  .rw[eC (by lia)];exact mT _ (by lia)
  .rw[eC (by lia)];exact mT _ (by lia)
  .rw[eC (by lia),eC (by lia)];exact u1 _ _ (by lia) (by lia) (by lia)
  .rw[eC (by lia),eC (by lia)];exact u2 _ _ (by lia) (by lia) (by lia)
  .rw[eC (by lia),eC (by lia)]
   have:=k3 (k+j) (by lia) (by lia)
   simp only[fB,ZK,Za,Bool.not_eq_false']at this;rw[show sa+k+j=sa+(k+j) by lia]
   exact O.asym _ _ this
  .rw[zx,eC (by lia),eC (by lia),show sa+k+(na - k - 1)=sa+na - 1 by lia]
   have:=n2 j (by lia)
   simp only[fB,Y2]at this;exact O.asym _ _ this
 have fin:∀(m:Array Keyed)(g':Nat),Good LT ((a.extract (sa+k) (sa+na)).toList++(a.extract (sa+na) (sa+na+FL)).toList) m.toList->
   wpS (model prog w) A E s (do
    modify fun s=>setArr s (m.toList.zipIdx.foldl (fun a (p:Keyed×Nat)=>a.setIfInBounds (sa+k+p.2) p.1) (arrOf s))
    return (failedOf (<-get)).isNone) Q (SortSt.mk' κ a p' g' none):=fun m g' hm=>by
  refine ZG (Yb (ZG (WG (ZD ?_))))
  have dec:a.toList=a.toList.take sa++((a.extract sa (sa+k)).toList++((a.extract (sa+k) (sa+na)).toList++(a.extract (sa+na) (sa+na+FL)).toList)++(a.extract (sa+na+FL) (sa+na+nb)).toList)++a.toList.drop (sa+na+nb):=by
   have d1:=bL a sa k;have d2:=bL a (sa+k) (na - k);have d3:=bL a (sa+na) FL;have d4:=bL a (sa+na+FL) (nb - FL);rw[show sa+k+(na - k)=sa+na by lia]at d2
   rw[show sa+na+FL+(nb - FL)=sa+na+nb by lia]at d4
   rw[d2,d3,d4]at d1;have:=(X4 sa a.toList).symm;rw[d1]at this
   conv=>lhs;rw[this]
   simp only[Zg]
  have ml:m.toList.length=((a.extract (sa+k) (sa+na)).toList++(a.extract (sa+na) (sa+na+FL)).toList).length:=hm.pm.length_eq;have Nw:a.toList=a.toList.take sa++(a.extract sa (sa+k)).toList++((a.extract (sa+k) (sa+na)).toList++(a.extract (sa+na) (sa+na+FL)).toList)++((a.extract (sa+na+FL) (sa+na+nb)).toList++a.toList.drop (sa+na+nb)):=by
   conv=>lhs;rw[dec]
   simp only[Zg]
  have res:=nA m.toList _ _ _ a (sa+k) 0 Nw (by simp;lia) ml
  have IY:(m.toList.zipIdx.foldl (fun a (p:Keyed×Nat)=>a.setIfInBounds (sa+k+p.2) p.1) a).toList=a.toList.take sa++((a.extract sa (sa+k)).toList++m.toList++(a.extract (sa+na+FL) (sa+na+nb)).toList)++a.toList.drop (sa+na+nb):=by
   rw[res];simp only[Zg]
  have pl:(a.toList.take sa).length=sa:=by simp;lia
  have len:((a.extract sa (sa+k)).toList++m.toList++(a.extract (sa+na+FL) (sa+na+nb)).toList).length=na+nb:=by
   rw[Zz,Zz,ml];simp;lia
  refine h _ p' g' ?_ (fun q hq=>?_) ?_ Fn
  .refine Array.Perm.trans (Array.perm_iff_toList_perm.mpr ?_) hT
   rw[IY]
   conv=>rhs;rw[dec]
   exact((((YX _).append hm.pm).append (YX _)).append_left _).append_right _
  .rw[dX,dX,IY]
   conv=>rhs;rw[dec]
   congr 1;exact yW (by simp only[Zz]at ml⊢;lia) (by rw[pl,len];lia)
  .have:=vw O IY ?_
   .rw[pl,len]at this;exact this
   have ux:∀v∈(a.extract (sa+k) (sa+na)).toList,LT (K a (sa+na - 1)) v=false:=fun v hv=>by
    obtain⟨i,i1,i2,_,rfl⟩:=aW hv;exact u1 i (sa+na - 1) (by lia) (by lia) (by lia)
   have uc:∀v∈(a.extract sa (sa+k)).toList,LT (K a (sa+na - 1)) v=false:=fun v hv=>by
    obtain⟨i,i1,i2,_,rfl⟩:=aW hv;exact u1 i (sa+na - 1) (by lia) (by lia) (by lia)
   have uz:∀z∈(a.extract (sa+na+FL) (sa+na+nb)).toList,LT z (K a (sa+na - 1))=false:=fun z hz=>by
    obtain⟨i,i1,i2,_,rfl⟩:=aW hz;have:=n3 (i - (sa+na)) (by lia) (by lia)
    simpa only[fB,Y2,show sa+na+(i - (sa+na))=i by lia]using this
   rw[Ym,Ym];refine⟨⟨mX fun x y a1 a2 a3=>u1 x y a1 a2 (by lia),hm.so,fun u hu v hv=>?_⟩,mX fun x y a1 a2 a3=>u2 x y (by lia) a2 a3,fun v hv z hz=>?_⟩
   .obtain⟨i,i1,i2,_,rfl⟩:=aW hu
    rcases Zl.mp (hm.pm.mem_iff.mp hv)with hv|hv
    .obtain⟨j,j1,j2,_,rfl⟩:=aW hv
     exact u1 i j (by lia) (by lia) (by lia)
    .obtain⟨j,j1,j2,_,rfl⟩:=aW hv
     have:=k2 (i - sa) (by lia)
     simp only[fB,ZK,Za,YB,show sa+(i - sa)=i by lia]at this
     exact O.tr _ _ _ this (u2 (sa+na) j (ZU _) (by lia) (by lia))
   .rcases Zl.mp hv with hv|hv
    .exact O.tr _ _ _ (uc v hv) (uz z hz)
    .rcases Zl.mp (hm.pm.mem_iff.mp hv)with hv|hv
     .exact O.tr _ _ _ (ux v hv) (uz z hz)
     .obtain⟨j,j1,j2,_,rfl⟩:=aW hv
      obtain⟨i,i1,i2,_,rfl⟩:=aW hz;exact u2 j i (by lia) (by lia) (by lia)
 by_cases c3:na - k<=FL
 .rw[Z0 c3];exact ZG (oK (st:=SortSt.mk' κ a p' g none) O H rfl W fun m g' hm=>fin m g' hm)
 .rw[ZY c3];exact ZG (nS (st:=SortSt.mk' κ a p' g none) O H rfl W fun m g' hm=>fin m g' hm)
end
end SM
namespace SM
open PySem PyProof.Rows
abbrev P3:=Nat×Nat×Nat
def Tile:List P3->Nat->Nat->Prop
 |[],s,e=>s=e
 |q::r,s,e=>q.1=s/\1<=q.2.1/\Tile r (s+q.2.1) e
theorem Tile.le:∀{l:List P3}{s e:Nat},Tile l s e->s+l.length<=e
 |[],_,_,h=>by simp only[Tile]at h;simp;lia
 |q::r,s,e,h=>by have:=h.2.2.le;have:=h.2.1;simp;lia
theorem Tile.app:∀{l m:List P3}{s e:Nat},Tile (l++m) s e->∃t,Tile l s t/\Tile m t e
 |[],m,s,e,h=>⟨s,rfl,h⟩
 |q::r,m,s,e,h=>by
  obtain⟨t,a,b⟩:=h.2.2.app;exact⟨t,⟨h.1,h.2.1,a⟩,b⟩
theorem Tile.join:∀{l m:List P3}{s t e:Nat},Tile l s t->Tile m t e->Tile (l++m) s e
 |[],m,s,t,e,h,h'=>by simp only[Tile]at h;subst h;exact h'
 |q::r,m,s,t,e,h,h'=>⟨h.1,h.2.1,h.2.2.join h'⟩
theorem Tile.bound:∀{l:List P3}{s e:Nat},Tile l s e->∀q∈l,s<=q.1/\q.1+q.2.1<=e
 |p::r,s,e,h,q,hq=>by
  have:=h.2.2.le
  rcases ZX.mp hq with rfl|hq
  .have:=h.1;lia
  .have:=h.2.2.bound q hq;lia
section
variable{prog:ZC}{w:Zo}{A:Zu}{E:Z7->Z4->Prop}{s:Z4}{LT:Keyed->Keyed->Bool}{T:Array Keyed}{κ:SortKind}{a:Array Keyed}
structure Wait (LT:Keyed->Keyed->Bool)(T a:Array Keyed)(p:Array P3)(lo:Nat):Prop where
 pm:a.Perm T
 ti:Tile p.toList 0 lo
 up:∀q∈p.toList,Up LT a q.1 (q.1+q.2.1)
def Wait.merge(O:OrdK LT)(H:Ans prog w A s κ LT T){p:Array P3}{lo g i:Nat}(hz:lo<=T.size)(h:Wait LT T a p lo)(hi:i+1<p.size){Q:Bool->SortSt->Prop}
  (hQ:∀a' p' g,Wait LT T a' p' lo->p'.size+1=p.size->(∀k,lo<=k->K a' k=K a k)->Q true (SortSt.mk' κ a' p' g none)):wpS (model prog w) A E s (mergeAt' i) Q (SortSt.mk' κ a p g none):=by
 obtain⟨l1,l2,x,y,e,hl⟩:∃l1 l2 x y,p.toList=l1++x::y::l2/\l1.length=i:=by
  have w_:i+1<p.toList.length:=by simpa using hi
  refine⟨p.toList.take i,p.toList.drop (i+2),p.toList[i],p.toList[i+1],?_,by simp;lia⟩
  rw[<-Zf w_,<-Zf (by lia),X4]
 obtain⟨sa,na,pw⟩:=x;obtain⟨sb,nb,Lo⟩:=y;have ti:=h.ti;rw[e]at ti;obtain⟨t,t1,t2⟩:=ti.app;obtain⟨r1,r2,r3,r4,r5⟩:=t2;dsimp only at r1 r2 r3 r4 r5;subst r1 r3;have b1:=r5.le;have u1:=h.up (sa,na,pw) (by rw[e];simp)
 have u2:=h.up (sa+na,nb,Lo) (by rw[e];simp)
 refine oQ O H h.pm e hl.symm r2 r4 (by lia) u1 u2 fun a' p' g hp hk hu he=>hQ a' p' g ⟨hp,?_,fun q hq=>?_⟩ ?_ fun k GA=>hk k (by lia)
 .rw[he]
  exact t1.join ⟨rfl,by dsimp only;lia,by dsimp only;rw[<-Nat.add_assoc];exact r5⟩
 .rw[he]at hq
  have cg:∀q∈p.toList,q.1+q.2.1<=sa\/sa+na+nb<=q.1->Up LT a' q.1 (q.1+q.2.1):=fun q hq hd x y a1 a2 a3=>by
   rw[hk x (by lia),hk y (by lia)];exact h.up q hq x y a1 a2 a3
  rcases Zl.mp hq with hq|hq
  .exact cg q (by rw[e];exact Y1 _ hq) (.inl (t1.bound q hq).2)
  .rcases ZX.mp hq with rfl|hq
   .exact hu
   .exact cg q (by rw[e];exact ZI _ (.tail _ (.tail _ hq))) (.inr (r5.bound q hq).1)
 .have l1:=congrArg List.length he
  have l2:=congrArg List.length e;simp at l1 l2;lia
theorem Wait.push{p:Array P3}{lo n z:Nat}(h:Wait LT T a p lo)(hn:1<=n)(hu:Up LT a lo (lo+n)):Wait LT T a (p.push (lo,n,z)) (lo+n):=by
 refine⟨h.pm,by rw[Yw];exact h.ti.join ⟨rfl,hn,rfl⟩,fun q hq=>?_⟩
 rw[Yw]at hq
 rcases Zl.mp hq with hq|hq
 .exact h.up q hq
 .obtain rfl:=ZE.mp hq;exact hu
theorem mN{f:P3->P3}(hf:∀q,(f q).1=q.1/\(f q).2.1=q.2.1):∀{l:List P3}{i s e:Nat},Tile l s e->Tile (l.modify i f) s e
 |[],i,s,e,h=>by simpa using h
 |q::r,0,s,e,h=>by
  simp only[List.modify_zero_cons,Tile,(hf q).1,(hf q).2];exact h
 |q::r,i+1,s,e,h=>by
  simp only[List.modify_succ_cons];exact⟨h.1,h.2.1,mN hf h.2.2⟩
theorem gu{f:P3->P3}:∀{l:List P3}{i:Nat}{q:P3},q∈l.modify i f->q∈l\/∃r∈l,q=f r
 |[],i,q,h=>by simp at h
 |p::r,0,q,h=>by
  simp only[List.modify_zero_cons]at h
  rcases ZX.mp h with rfl|h
  .exact .inr ⟨p,.head _,rfl⟩
  .exact .inl (.tail _ h)
 |p::r,i+1,q,h=>by
  simp only[List.modify_succ_cons]at h
  rcases ZX.mp h with rfl|h
  .exact .inl (.head _)
  .rcases gu h with h|⟨x,h,e⟩
   .exact .inl (.tail _ h)
   .exact .inr ⟨x,.tail _ h,e⟩
def Wait.mod{p:Array P3}{lo i z:Nat}(h:Wait LT T a p lo):Wait LT T a (p.modify i fun(st,len,_)=>(st,len,z)) lo:=by
 refine⟨h.pm,by rw[Array.toList_modify];exact mN (f:=fun(st,len,_)=>(st,len,z)) (fun q=>⟨rfl,rfl⟩) h.ti,fun q hq=>?_⟩
 rw[Array.toList_modify]at hq
 rcases gu hq with hq|⟨r,hr,rfl⟩
 .exact h.up q hq
 .exact h.up r hr
def sortRuns_wp(O:OrdK LT)(H:Ans prog w A s κ LT T){g:Nat}(h2:2<=T.size){Q:Unit->SortSt->Prop}(hQ:∀a p g,a.Perm T->Up LT a 0 T.size->Q () (SortSt.mk' κ a p g none)):wpS (model prog w) A E s sortRuns' Q (SortSt.mk' κ T #[] g none):=by
 rw[sortRuns'_eq];refine ZG (WG ?_)
 have ea:∀a p g,arrOf (SortSt.mk' κ a p g none)=a:=fun _ _ _=>rfl
 have ep:∀a p g,pendingOf (SortSt.mk' κ a p g none)=p:=fun _ _ _=>rfl
 simp only[ea];generalize minRun' T.size T.size 0=mr;refine ZG (X5 (YG (I:=fun x c g_=>∃a p g lo,c=(none,lo)/\g_=SortSt.mk' κ a p g none/\Wait LT T a p lo/\lo<=T.size/\x<=lo)
  (Q:=fun c g_=>∃a p g,c=(none,T.size)/\g_=SortSt.mk' κ a p g none/\Wait LT T a p T.size) ?_ ?_ ⟨T,#[],g,0,rfl,rfl,⟨Array.Perm.refl _,rfl,fun q hq=>nomatch hq⟩,Zt _,ZU _⟩) ?_)
 .rintro x c g_ _ hx ⟨a,p,g,lo,rfl,rfl,hw,Oo,Lv⟩
  dsimp only
  by_cases c1:lo>=T.size
  .rw[Z0 c1]
   have:lo=T.size:=by lia
   exact ZD ⟨a,p,g,by rw[this],rfl,by rw[<-this];exact hw⟩
  rw[ZY c1];refine ZG (lV (st:=SortSt.mk' κ a p g none) O H rfl hw.pm (by lia) (by lia) fun m a1 m1 m2 C1 U1=>?_)
  have wt:∀a2,Chg T a lo a2->Wait LT T a2 p lo:=fun a2 C=>⟨C.perm,hw.ti,fun q hq x y h1 h2 h3=>by
   have:=(hw.ti.bound q hq).2;rw[C.keep x (by lia),C.keep y (by lia)];exact hw.up q hq x y h1 h2 h3⟩
  dsimp only
  by_cases c2:m<mr
  all_goals first
   |rw[ZY c2]
   |(rw[Z0 c2]
     refine ZG (wpS_lift (YW ⟨rfl,?_⟩))
     have C0:=C1;have n0:1<=min (T.size - lo) mr/\min (T.size - lo) mr<=T.size - lo:=by lia
     refine ZG (gU (st:=SortSt.mk' κ a1 p g none) O H rfl C1.perm (by lia) (by lia) (by lia) U1 fun a1 C2 U1=>?_)
     have C1:Chg T a lo a1:=⟨C2.perm,fun k hk=>(C2.keep k hk).trans (C0.keep k hk)⟩
     simp only[YU,ZK,Za];obtain⟨m1,m2⟩:=n0;generalize min (T.size - lo) mr=m at U1 m1 m2⊢)
  all_goals
   have W1:=wt a1 C1;clear wt C1;refine ZG (WG ?_)
   have e0:pendingOf (setArr (SortSt.mk' κ a p g none) a1)=p:=rfl;cases hb:(pendingOf (SortSt.mk' κ a1 p g none)).back? with
   |none=>
    have FA:p.back?=none:=hb;simp only[ep,FA];exact ZG (Yb (ZD ⟨_,_,_,_,rfl,rfl,W1.push m1 U1,by lia,by lia⟩))
   |some q=>
    obtain⟨s1,n1,z⟩:=q;have FA:p.back?=some (s1,n1,z):=hb;simp only[ep,FA];generalize power' T.size (2*s1+n1) (2*s1+n1+n1+m) T.size=pw;refine ZG (X5 (YG (I:=fun _ c g_=>c=(none,())/\∃a' p' g',g_=SortSt.mk' κ a' p' g' none/\Wait LT T a' p' lo/\∀k,lo<=k->K a' k=K a1 k)
     (Q:=fun c g_=>c=(none,())/\∃a' p' g',g_=SortSt.mk' κ a' p' g' none/\Wait LT T a' p' lo/\∀k,lo<=k->K a' k=K a1 k) ?_ (fun _ _ h=>h) ⟨rfl,a1,p,g,rfl,W1,fun _ _=>rfl⟩) ?_)
    .rintro x c g_ _ _ ⟨rfl,a',p',g',rfl,Kf,GA⟩
     refine ZG (WG ?_)
     simp only[ep]
     by_cases c:p'.size>1
     .rw[Z0 c,getElem?_pos p' (p'.size - 2) (by lia)]
      generalize p'[p'.size - 2]=q;obtain⟨u1,u2,old⟩:=q;dsimp only
      by_cases c2:old<=pw
      .rw[Z0 c2];exact ZD ⟨rfl,a',p',g',rfl,Kf,GA⟩
      .rw[ZY c2]
       refine ZG (Kf.merge O H (by lia) (by lia) fun a2 p2 g2 Ml _ Mx=>?_)
       exact ZD ⟨rfl,a2,p2,g2,rfl,Ml,fun k hk=>(Mx k hk).trans (GA k hk)⟩
     .rw[ZY c];exact ZD ⟨rfl,a',p',g',rfl,Kf,GA⟩
    .rintro c g_ ⟨rfl,a',p',g',rfl,Kf,GA⟩
     have FC:Up LT a' lo (lo+m):=fun x y h1 h2 h3=>by rw[GA x h1,GA y (by lia)];exact U1 x y h1 h2 h3
     exact ZG (Yb (ZG (Yb (ZD ⟨_,_,_,_,rfl,rfl,Kf.mod.push m1 FC,by lia,by lia⟩))))
 .rintro c g_ ⟨a,p,g,lo,rfl,rfl,hw,Oo,Lv⟩
  have:lo=T.size:=by lia
  exact⟨a,p,g,by rw[this],rfl,by rw[<-this];exact hw⟩
 .rintro c g_ ⟨a,p,g,rfl,rfl,hw⟩
  dsimp only;have hl:=hw.ti.le;refine ZG (X5 (YG (I:=fun x c g_=>c=(none,())/\∃a p g,g_=SortSt.mk' κ a p g none/\Wait LT T a p T.size/\p.size+x<=T.size)
   (Q:=fun c g_=>c=(none,())/\∃a p g,g_=SortSt.mk' κ a p g none/\Wait LT T a p T.size/\p.size<=1) ?_ ?_ ⟨rfl,a,p,g,rfl,hw,by simp at hl;lia⟩) ?_)
  .rintro x c g_ _ _ ⟨rfl,a,p,g,rfl,hw,hx⟩
   refine ZG (WG ?_)
   simp only[ep]
   by_cases c:p.size<=1
   .rw[Z0 c];exact ZD ⟨rfl,a,p,g,rfl,hw,c⟩
   .rw[ZY c]
    refine ZG (hw.merge O H (ZU _) ?_ fun a2 p2 g2 Ml hs _=>?_)
    .have:∀b:Bool,(if b=true then p.size - 2 - 1 else p.size - 2)+1<p.size:=fun b=>by cases b<;>simp<;>lia
     exact this _
    .exact ZD ⟨rfl,a2,p2,g2,rfl,Ml,by lia⟩
  .rintro c g_ ⟨rfl,a,p,g,rfl,hw,hx⟩
   exact⟨rfl,a,p,g,rfl,hw,by lia⟩
  .rintro c g_ ⟨rfl,a,p,g,rfl,hw,hx⟩
   refine ZD (hQ a p g hw.pm ?_)
   have ti:=hw.ti;have up:=hw.up;have HF:p.toList.length<=1:=by simpa using hx
   rcases hp:p.toList with _|⟨q,_|⟨r,l⟩⟩
   .rw[hp]at ti;simp only[Tile]at ti;lia
   .rw[hp]at ti up
    obtain⟨t1,t2,t3⟩:=ti;simp only[Tile]at t3;have:=up q (.head _);rw[t1,t3]at this;exact this
   .rw[hp]at HF;simp at HF
end
end SM
namespace L2
open PySem PySem.Spec PyProof.Rows PySem.W
variable[Lams]
section
variable{prog:ZC}{w:Zo}{A:Zu}{E:Z7->Z4->Prop}{s:Z4}{vs:List Z7}{a:Z2}
def vC{n:Nat}{P:PySem.Fin->Z4->Prop}{κ:SortKind}{LT:Z7->Z7->Bool}(ho:s.heap.get? a=some (seqObj "list" vs.toArray n))(hz:vs.length<=sizeLine)(O:SM.OrdK fun x y=>LT x.1 y.1)
  (hk:2<=vs.length->∀h',(∀b o,b≠a->s.heap.get? b=some o->h'.get? b=some o)->∀Q:SortKind->Z4->Prop,Q κ {s with heap:=h'}->wpAny (model prog w) A (keyKind' vs.toArray) Q (fun _ _=>False) {s with heap:=h'})
  (ka:2<=vs.length->∀h',(∀b o,b≠a->s.heap.get? b=some o->h'.get? b=some o)->∀(u v:Z7)(C:Bool->Z4->Prop),u∈vs->v∈vs->C (LT u v) {s with heap:=h'}->wpAny (model prog w) A (keyLt' κ u v) C (fun _ _=>False) {s with heap:=h'})
  (h:∀us:List Z7,us.Perm vs->us.Pairwise (fun u v=>LT v u=false)->∀h' c,(∀b o,b≠a->s.heap.get? b=some o->h'.get? b=some o)->h'.get? a=some (seqObj "list" us.toArray c)->P (.done (.ret .none)) {s with heap:=h'}):
  wpAny (model prog w) A (Builtin.«list.sort» ⟨[.ref a],[]⟩) P E s:=by
 have ha:a<s.heap.objs.size:=ZO ho;rw[list_sort_plain];refine Z8 (Wx ho rfl (Z8 (Xq ho rfl ?_ (by rw[ZQ];exact hz) (Zt _))))
 obtain⟨e1,g1⟩:∃e1,(s.heap.update a (Obj.mapSeq fun _=>(#[]:Array Z7))).get? a=some (seqObj "list" #[] e1):=⟨_,WX ho fun _=>#[]⟩
 refine Z8 (seqEpoch_at g1 rfl (Z8 (wpAny_newTuple ?_ hz)))
 refine Z8 (WR ?_ (Zt _))
 refine YQ ?_
 have keep:∀b o,b≠a->s.heap.get? b=some o->(((s.heap.update a (Obj.mapSeq fun _=>(#[]:Array Z7))).push (seqObj "tuple" vs.toArray 0)).push (seqObj "list" #[] 0)).get? b=some o:=fun b o hb e=>
  Z6 _ (Z6 _ ((Zr s.heap _ (Zy hb)).trans e))
 have g3:(((s.heap.update a (Obj.mapSeq fun _=>(#[]:Array Z7))).push (seqObj "tuple" vs.toArray 0)).push (seqObj "list" #[] 0)).get? a=some (seqObj "list" #[] e1):=Z6 _ (Z6 _ g1)
 show wpAny (model prog w) A _ P E {s with heap:=((s.heap.update a (Obj.mapSeq fun _=>(#[]:Array Z7))).push (seqObj "tuple" vs.toArray 0)).push (seqObj "list" #[] 0)}
 generalize hH:(((s.heap.update a (Obj.mapSeq fun _=>(#[]:Array Z7))).push (seqObj "tuple" vs.toArray 0)).push (seqObj "list" #[] 0))=H1 at*
 dsimp only;have fin:∀st:SortSt,((arrOf st).map (·.2)).toList.Perm vs->((arrOf st).map (·.2)).toList.Pairwise (fun u v=>LT v u=false)->failedOf st=none->
   wpAny (model prog w) A (do
    let touched:=(<-seqEpoch a) != e1
    Builtin.List.listUpdate (.ref a) fun _=>(arrOf st).map (·.2)
    if let some e:=failedOf st then rule "list.sort.comparison-raised";throw e
    if touched then rule "list.sort.modified";raiseError "ValueError" "list modified during sort"
    ret .none) P E {s with heap:=H1}:=fun st hp hs hf=>by
  rw[hf];refine Z8 (seqEpoch_at g3 rfl (Z8 (Xq g3 rfl ?_ (Zt _) ?_)))
  .simp only[bne_self_eq_false,ZK,Za]
   obtain⟨c,g4⟩:∃c,(H1.update a (Obj.mapSeq fun _=>(arrOf st).map (·.2))).get? a=some (seqObj "list" ((arrOf st).map (·.2)) c):=⟨_,WX g3 fun _=>(arrOf st).map (·.2)⟩
   exact Z3 (h _ hp hs _ c (fun b o hb e=>(Zr H1 _ (Zy hb)).trans (keep b o hb e)) (by rw[Array.toArray_toList];exact g4))
  .have:=hp.length_eq;rw[Array.length_toList]at this;lia
 have zs:∀l:List Z7,(l.toArray.zip l.toArray).map (·.2)=l.toArray:=fun l=>by
  rw[show l.toArray.zip l.toArray=(l.zip l).toArray by simp];simp[List.map_snd_zip]
 by_cases h2:vs.toArray.size<2
 .rw[Z0 h2,Z0 h2]
  refine Z8 (Z3 ?_)
  rw[StateT.run_pure];refine Z8 (Z3 ?_)
  rw[ZQ]at h2;have e0:(arrOf (SortSt.mk' general' (vs.toArray.zip vs.toArray) #[] 7 none)).map (·.2)=vs.toArray:=zs vs
  refine fin (SortSt.mk' general' (vs.toArray.zip vs.toArray) #[] 7 none) (by rw[e0]) ?_ rfl
  rw[e0];show vs.Pairwise _;clear fin ka hk h ho keep hH g3 g1 e0
  rcases vs with _|⟨v,_|⟨v',r⟩⟩
  .exact .nil
  .exact List.pairwise_singleton _ _
  .exact absurd h2 (by simp)
 .rw[ZY h2,ZY h2]
  rw[ZQ]at h2;refine Z8 (YV (hk (by lia) H1 keep _ ?_) (fun _ _ q=>q) fun _ _ x=>x.elim)
  have mz:∀x∈vs.toArray.zip vs.toArray,x.1=x.2/\x.1∈vs:=fun x hx=>mem_zip_self (by simpa using hx)
  have sz:(vs.toArray.zip vs.toArray).size=vs.length:=by simp
  have run:=SM.sortRuns_wp (prog:=prog) (w:=w) (A:=A) (E:=E) (s:={s with heap:=H1}) (κ:=κ) (T:=vs.toArray.zip vs.toArray) (g:=7) (LT:=fun x y=>LT x.1 y.1) O
   (fun x hx y hy C hC=>ka (by lia) H1 keep x.1 y.1 C (mz x hx).2 (mz y hy).2 hC) (by lia)
   (Q:=fun _ st=>((arrOf st).map (·.2)).toList.Perm vs/\((arrOf st).map (·.2)).toList.Pairwise (fun u v=>LT v u=false)/\failedOf st=none) (fun b p g hp hu=>by
    have he:∀x∈b,x.1=x.2:=fun x hx=>(mz x (hp.mem_iff.mp hx)).1
    refine⟨?_,?_,rfl⟩
    .show(b.map (·.2)).toList.Perm vs
     have:=(Array.perm_iff_toList_perm.mp hp).map (·.2)
     rw[<-Array.toList_map,<-Array.toList_map,zs]at this;exact this
    .show(b.map (·.2)).toList.Pairwise _
     rw[Array.toList_map,List.pairwise_map];have bz:b.size=vs.length:=by rw[hp.size_eq,sz]
     rw[sz,<-bz]at hu;refine(SM.pw_up hu).imp_of_mem fun{x y} hx hy q=>?_
     rw[<-he x (by simpa using hx),<-he y (by simpa using hy)];exact q)
  refine Z8 (YV run ?_ fun _ _ e=>e)
  rintro⟨⟨⟩,g_⟩ s' ⟨rfl,hp,hs,hf⟩
  exact fin g_ hp hs hf
end
noncomputable def cb(lt:D->D->Z_ Bool):List D->List D->Z_ Bool
 |[],[]=>some false
 |[],_::_=>some true
 |_::_,[]=>some false
 |x::xs,y::ys=>if x=y then cb lt xs ys else lt x y
noncomputable def ltD:Nat->D->D->Z_ Bool
 |_,.int i,.int j=>some (decide (i<j))
 |_,.str x,.str y=>some (decide (x.cps.toList<y.cps.toList))
 |n+1,.tup xs,.tup ys=>cb (ltD n) xs ys
 |_,_,_=>none
def qQ{x y:Str}(h:x.cps.toList=y.cps.toList):x=y:=by
 obtain⟨a⟩:=x;obtain⟨b⟩:=y;simp only at h;rw[Array.toList_inj.mp h]
section
variable{lt:D->D->Z_ Bool}
theorem pZ(h:∀x y z,lt x y=some true->lt y z=some true->lt x z=some true)(hi:∀x y,lt x y=some true->lt y x≠some true):∀xs ys zs,cb lt xs ys=some true->cb lt ys zs=some true->cb lt xs zs=some true
 |[],[],_,a,_=>by simp[cb]at a
 |[],_::_,[],_,b=>by simp[cb]at b
 |[],_::_,_::_,_,_=>by simp[cb]
 |_::_,[],_,a,_=>by simp[cb]at a
 |_::_,_::_,[],_,b=>by simp[cb]at b
 |x::xs,y::ys,z::zs,a,b=>by
  simp only[cb]at a b⊢
  by_cases e1:x=y
  .subst e1
   rw[Z0 rfl]at a
   by_cases e2:x=z
   .subst e2
    rw[Z0 rfl]at b⊢;exact pZ h hi xs ys zs a b
   .rw[ZY e2]at b⊢;exact b
  .rw[ZY e1]at a
   by_cases e2:y=z
   .subst e2
    rw[ZY e1];exact a
   .rw[ZY e2]at b
    by_cases e3:x=z
    .subst e3;exact absurd b (hi _ _ a)
    .rw[ZY e3];exact h _ _ _ a b
theorem qK(hi:∀x y,lt x y=some true->lt y x≠some true):∀xs ys,cb lt xs ys=some true->cb lt ys xs≠some true
 |[],[],a=>by simp[cb]at a
 |[],_::_,_=>by simp[cb]
 |_::_,[],a=>by simp[cb]at a
 |x::xs,y::ys,a=>by
  simp only[cb]at a⊢
  by_cases e1:x=y
  .subst e1
   rw[Z0 rfl]at a⊢;exact qK hi xs ys a
  .rw[ZY e1]at a
   rw[ZY (Zy e1)];exact hi _ _ a
theorem mh(h:∀x y,lt x y=some false->x=y\/lt y x=some true):∀xs ys,cb lt xs ys=some false->xs=ys\/cb lt ys xs=some true
 |[],[],_=>.inl rfl
 |[],_::_,a=>by simp[cb]at a
 |_::_,[],_=>.inr (by simp[cb])
 |x::xs,y::ys,a=>by
  simp only[cb]at a⊢
  by_cases e1:x=y
  .subst e1
   rw[Z0 rfl]at a⊢
   rcases mh h xs ys a with q|q
   .exact .inl (by rw[q])
   .exact .inr q
  .rw[ZY e1]at a
   rcases h x y a with q|q
   .exact absurd q e1
   .rw[ZY (Zy e1)];exact .inr q
end
def mJ:∀(n:Nat)(x y:D),ltD n x y=some true->ltD n y x≠some true:=by
 intro n
 induction n with
 |zero=>
  intro x y h;cases x<;>cases y<;>simp only[ltD,ZR,Zn,reduceCtorEq]at h<;>simp only[ltD,ne_eq,ZR,Zn]
  .lia
  .exact List.lt_asymm h
 |succ n ih=>
  intro x y h;cases x<;>cases y<;>simp only[ltD,ZR,Zn,reduceCtorEq]at h<;>simp only[ltD,ne_eq,ZR,Zn]
  .lia
  .exact List.lt_asymm h
  .exact qK ih _ _ h
def Aj:∀(n:Nat)(x y z:D),ltD n x y=some true->ltD n y z=some true->ltD n x z=some true:=by
 intro n
 induction n with
 |zero=>
  intro x y z h h';cases x<;>cases y<;>simp only[ltD,ZR,Zn,reduceCtorEq]at h<;>cases z<;>simp only[ltD,ZR,Zn,reduceCtorEq]at h'<;>simp only[ltD,ZR,Zn]
  .lia
  .exact List.lt_trans h h'
 |succ n ih=>
  intro x y z h h';cases x<;>cases y<;>simp only[ltD,ZR,Zn,reduceCtorEq]at h<;>cases z<;>simp only[ltD,ZR,Zn,reduceCtorEq]at h'<;>simp only[ltD,ZR,Zn]
  .lia
  .exact List.lt_trans h h'
  .exact pZ ih (mJ n) _ _ _ h h'
def lC:∀(n:Nat)(x y:D),ltD n x y=some false->x=y\/ltD n y x=some true:=by
 intro n
 induction n with
 |zero=>
  intro x y h;cases x<;>cases y<;>simp only[ltD,ZR,XG,reduceCtorEq]at h<;>simp only[ltD,ZR,Zn,D.int.injEq,D.str.injEq]
  .lia
  .rename_i x y
   by_cases q:y.cps.toList<x.cps.toList
   .exact .inr q
   .exact .inl (qQ (List.le_antisymm (List.not_lt.mp q) (List.not_lt.mp h)))
 |succ n ih=>
  intro x y h;cases x<;>cases y<;>simp only[ltD,ZR,XG,reduceCtorEq]at h<;>simp only[ltD,ZR,Zn,D.int.injEq,D.str.injEq,D.tup.injEq]
  .lia
  .rename_i x y
   by_cases q:y.cps.toList<x.cps.toList
   .exact .inr q
   .exact .inl (qQ (List.le_antisymm (List.not_lt.mp q) (List.not_lt.mp h)))
  .exact mh ih _ _ h
def LtAt(A:Zu)(s:Z4)(y x:Z7)(b:Bool):Prop:=
 ∀(prog:ZC)(w:Zo)(E:Z7->Z4->Prop)(Q:Z7->Z4->Prop),Q (.bool b) s->wpAny (model prog w) A (richCompare .Lt y x) Q E s
inductive LexAt (A:Zu)(s:Z4):List Z7->List Z7->Bool->Prop
 |none:LexAt A s [] [] false
 |less {w:Z7}{ws:List Z7}:LexAt A s [] (w::ws) true
 |more {v:Z7}{vs:List Z7}:LexAt A s (v::vs) [] false
 |eq {v w:Z7}{vs ws:List Z7}{b:Bool}:SeqAt.EqAt A s v w true->LexAt A s vs ws b->LexAt A s (v::vs) (w::ws) b
 |ne {v w:Z7}{vs ws:List Z7}{b:Bool}:SeqAt.EqAt A s v w false->LtAt A s v w b->LexAt A s (v::vs) (w::ws) b
section
open PySem.SeqAt
open PySem.AutoSeq1 (wpAny_loadPart')
open PySem.MeetsSeq PySem.MeetsSeq2 PySem.MeetsSeq3
def rM(l b:Z2)(items s_:Array Z7)(n n2:Nat)(dd G_:Z_ Z2)(sl G3:Array (Z_ Z7))(r:Bool):
  Meets (Builtin.«tuple.__lt__» ⟨[.ref l,.ref b],[]⟩)
   (fun A R s=>s.heap.get? l=some {cls:=.type "tuple",dict:=dd,data:=.seq items n,slots:=sl}/\s.heap.get? b=some {cls:=.type "tuple",dict:=G_,data:=.seq s_ n2,slots:=G3}/\
    LexAt A.in1 s items.toList s_.toList r/\R (.ok (.ret (.bool r))) s):=
 .of_wp fun prog w A R s h=>by
  obtain⟨hp,g,d,tk,os⟩:=s;obtain⟨hl,hb,hx,h⟩:=h;have f2:=WO
  wp_walk using wpAny_loadPart' hl,wpAny_loadPart' hb,Xn _ (fun ao b s'=>b.1=none/\s'=⟨hp,g,d,tk,os⟩/\∃(vs ws:List Z7),ao=vs.zip ws/\
   LexAt A.in1 ⟨hp,g,d,tk,os⟩ vs ws r/\vs.length+s_.size=ws.length+items.size) _
  case turn=>
   rintro⟨y,x⟩ ao b s' ⟨FA,rfl,vs,ws,hz,Jj,hlen⟩
   cases Jj with
   |none=>rw[List.zip_nil_left]at hz;trivial
   |less=>rw[List.zip_nil_left]at hz;trivial
   |more=>rw[List.zip_nil_right]at hz;trivial
   |eq he ht=>
    rw[List.zip_cons_cons]at hz;injection hz with Kd F3
    injection Kd with hy HF
    subst hy HF;simp only[List.length_cons]at hlen;refine Z8 (he prog w _ _ ?_)
    wp_walk
    exact⟨rfl,rfl,_,_,F3,ht,by lia⟩
   |ne he ka=>
    rw[List.zip_cons_cons]at hz;injection hz with Kd F3
    injection Kd with hy HF
    subst hy HF;refine Z8 (he prog w _ _ ?_)
    have Qi:=ka prog w
    wp_walk using Qi
    exact⟨_,rfl,by simpa using h⟩
  case fin=>
   rintro⟨b1,b2⟩ s' ⟨FA,rfl,vs,ws,hz,Jj,hlen⟩
   simp only at FA;subst FA;have hv:r=decide (items.size<s_.size):=by
    cases Jj with
    |none=>simp only[List.length_nil]at hlen;exact(ZN (by lia)).symm
    |less=>simp only[List.length_nil,List.length_cons]at hlen;exact(Zm (by lia)).symm
    |more=>simp only[List.length_nil,List.length_cons]at hlen;exact(ZN (by lia)).symm
    |eq _ _=>rw[List.zip_cons_cons]at hz;trivial
    |ne _ _=>rw[List.zip_cons_cons]at hz;trivial
   rw[hv]at h
   wp_walk
   exact⟨_,rfl,by simpa[Builtin.Tuple.tupleCompareSizes]using h⟩
  case h=>exact⟨rfl,rfl,items.toList,s_.toList,rfl,hx,by simp only[Array.length_toList];lia⟩
end
def LtAt.tuples{A:Zu}{s:Z4}{l b:Z2}{items s_:Array Z7}{r:Bool}(hl:s.heap.IsTuple l items)(hb:s.heap.IsTuple b s_)(hu:A.units<cLine)(hx:LexAt A.in1 s items.toList s_.toList r):LtAt A s (.ref l) (.ref b) r:=fun prog w E Q h=>by
 obtain⟨⟨cls,dd,data,sl⟩,ho,hc,n,hd⟩:=id hl;obtain⟨⟨K2,G_,data2,G3⟩,GW,HJ,n2,hd2⟩:=id hb;simp only at hc hd HJ hd2;subst hc hd HJ hd2;exact richCompare_meets_room (op:=.Lt) ⟨_,ho,rfl⟩ ⟨_,GW,rfl⟩ PySem.F.slot_tuple_lt PySem.F.entry_tuple_lt (PySem.F.args_tuple_lt_2 _ _) (rM l b items s_ n n2 dd G_ sl G3 r)
  ⟨ho,GW,hx,show Value.bool r≠Value.notImplemented/\Q (.bool r) s from⟨(fun x=>nomatch x),h⟩⟩ hu
section
variable{X:Cx}{a_:List (Z2×Obj)}{σ:St}{H:Hp}{s:Z4}{B B':Z2->Prop}
theorem uX(I:Inv X a_ σ H s){n:Nat}{A:Zu}(hA:A.units+n+1<cLine)
  (ih:∀(d e:D)(x y:V)(u w:Z7)(r:Bool),okD n d=true->okD n e=true->Rep X.K B H d x->Rep X.K B' H e y->RelV x u->RelV y w->ltD n d e=some r->LtAt A s u w r):
  ∀(ds es:List D)(xs ys:List V)(us ws:List Z7)(r:Bool),ds.all (okD n)=true->es.all (okD n)=true->Reps X.K B H ds xs->Reps X.K B' H es ys->Vals xs us->Vals ys ws->cb (ltD n) ds es=some r->LexAt A s us ws r
 |[],[],xs,ys,us,ws,r,hd,he,r1,r2,v1,v2,h=>by
  simp only[Reps]at r1 r2;subst r1 r2;cases v1;cases v2;simp only[cb,ZR]at h;subst h;exact .none
 |[],e::es,xs,ys,us,ws,r,hd,he,r1,r2,v1,v2,h=>by
  simp only[Reps]at r1 r2;subst r1;obtain⟨y,t,rfl,_,_⟩:=r2;cases v1;cases v2;simp only[cb,ZR]at h;subst h;exact .less
 |d::ds,[],xs,ys,us,ws,r,hd,he,r1,r2,v1,v2,h=>by
  simp only[Reps]at r1 r2;subst r2;obtain⟨y,t,rfl,_,_⟩:=r1;cases v1;cases v2;simp only[cb,ZR]at h;subst h;exact .more
 |d::ds,e::es,xs,ys,us,ws,r,hd,he,r1,r2,v1,v2,h=>by
  simp only[Reps]at r1 r2;obtain⟨x,xt,rfl,J8,L0⟩:=r1;obtain⟨y,yt,rfl,J6,LZ⟩:=r2;cases v1 with
  |cons va vb=>
   cases v2 with
   |cons wa wb=>
    rw[List.all_cons,ZH]at hd he;have q:=(zm I n d e x y _ _ A hd.1 he.1 hA J8 J6 va wa).2.1;simp only[cb]at h
    by_cases c:d=e
    .rw[Z0 c]at h
     rw[Zm c]at q;exact .eq q (uX I hA ih ds es xt yt _ _ r hd.2 he.2 L0 LZ vb wb h)
    .rw[ZY c]at h
     rw[ZN c]at q;exact .ne q (ih d e x y _ _ r hd.1 he.1 J8 J6 va wa h)
def DB(I:Inv X a_ σ H s):∀(n:Nat)(d e:D)(x y:V)(u w:Z7)(r:Bool)(A:Zu),okD n d=true->okD n e=true->A.units+n+1<cLine->Rep X.K B H d x->Rep X.K B' H e y->RelV x u->RelV y w->ltD n d e=some r->LtAt A s u w r:=by
 intro n;have flat:∀(d e:D)(x y:V)(u w:Z7)(r:Bool)(A:Zu),Rep X.K B H d x->Rep X.K B' H e y->RelV x u->RelV y w->ltD 0 d e=some r->LtAt A s u w r:=fun d e x y u w r A rd re rx ry h=>by
  cases d with
  |int i=>
   cases e with
   |int j=>
    simp only[Rep]at rd re;subst rd re;obtain⟨t,rfl⟩:=rx;obtain⟨t',rfl⟩:=ry;simp only[ltD,ZR]at h;subst h;exact fun prog w E Q hq=>HT.rcLt_int A s i t j t' prog w E Q hq
   |_=>simp[ltD]at h
  |str i=>
   cases e with
   |str j=>
    simp only[Rep]at rd re;subst rd re;obtain⟨t,rfl⟩:=rx;obtain⟨t',rfl⟩:=ry;simp only[ltD,ZR]at h;subst h;exact fun prog w E Q hq=>(lt_str hq:wpAny (model prog w) A (compareOp .Lt (.str i t) (.str j t')) Q E s)
   |_=>simp[ltD]at h
  |_=>simp[ltD]at h
 induction n with
 |zero=>exact fun d e x y u w r A _ _ _ rd re rx ry h=>flat d e x y u w r A rd re rx ry h
 |succ n ih=>
  intro d e x y u w r A hd he hA rd re rx ry h;cases d with
  |tup ds=>
   cases e with
   |tup es=>
    simp only[Rep]at rd re;obtain⟨a,xs,rfl,hq,r1⟩:=rd;obtain⟨b,ys,rfl,FT,r2⟩:=re;cases rx;cases ry;obtain⟨its,v1,t1,_⟩:=I.tuple (SqT.of hq);obtain⟨l_,v2,t2,_⟩:=I.tuple (SqT.of FT);simp only[okD]at hd he;simp only[ltD]at h;have Iw:A.in1.units+n+1<cLine:=by show A.units+1+n+1<cLine;lia
    exact LtAt.tuples t1 t2 (by lia) (by simpa using uX I Iw (fun d e x y u w r o1 o2 r1 r2 v1 v2 hl=>ih d e x y u w r A.in1 o1 o2 Iw r1 r2 v1 v2 hl) ds es xs ys its l_ r hd he r1 r2 v1 v2 h)
   |_=>simp[ltD]at h
  |int i=>cases e<;>first|(simp[ltD]at h;done)|exact flat _ _ x y u w r A rd re rx ry (by simpa only[ltD]using h)
  |str i=>cases e<;>first|(simp[ltD]at h;done)|exact flat _ _ x y u w r A rd re rx ry (by simpa only[ltD]using h)
  |_=>simp[ltD]at h
end
def leD(x y:D):Prop:=ltD 15 y x≠some true
def lM(x:D):List D->List D
 |[]=>[x]
 |y::ys=>if ltD 15 y x=some true then y::lM x ys else x::y::ys
def aZ(ds:List D):List D:=ds.foldr lM []
def eI(ds:List D):Bool:=ds.all fun x=>okD 15 x&&ds.all fun y=>(ltD 15 x y).isSome
def iu{ds:List D}(h:eI ds=true){x y:D}(hx:x∈ds)(hy:y∈ds):∃b,ltD 15 x y=some b:=by
 unfold eI at h;have h1:=ZM.mp h x hx;rw[ZH]at h1;exact Option.isSome_iff_exists.mp (ZM.mp h1.2 y hy)
def im{ds:List D}(h:eI ds=true){x:D}(hx:x∈ds):okD 15 x=true:=by
 unfold eI at h;have h1:=ZM.mp h x hx;rw[ZH]at h1;exact h1.1
theorem fL(x:D):∀l:List D,(lM x l).Perm (x::l)
 |[]=>YX _
 |y::ys=>by
  unfold lM;split
  .exact((fL x ys).cons y).trans (List.Perm.swap x y ys)
  .exact YX _
theorem bt:∀ds:List D,(aZ ds).Perm ds
 |[]=>YX _
 |d::ds=>by
  show(lM d (aZ ds)).Perm (d::ds);exact(fL d _).trans ((bt ds).cons d)
def v7{x y z:D}{ds:List D}(h:eI ds=true)(hx:x∈ds)(hy:y∈ds)(hz:z∈ds)(a:leD x y)(b:leD y z):leD x z:=by
 unfold leD at*;intro c;obtain⟨r1,e1⟩:=iu h hy hx;obtain⟨r2,e2⟩:=iu h hz hy;cases r1 with
 |true=>exact a e1
 |false=>
  cases r2 with
  |true=>exact b e2
  |false=>
   rcases lC 15 _ _ e1 with q1|q1
   .subst q1;exact b c
   .rcases lC 15 _ _ e2 with q2|q2
    .subst q2;exact a c
    .exact mJ 15 _ _ (Aj 15 _ _ _ q1 q2) c
def zA{x y:D}{ds:List D}(h:eI ds=true)(hx:x∈ds)(hy:y∈ds)(a:leD x y)(b:leD y x):x=y:=by
 unfold leD at*;obtain⟨r1,e1⟩:=iu h hx hy;cases r1 with
 |true=>exact absurd e1 b
 |false=>
  rcases lC 15 _ _ e1 with q|q
  .exact q
  .exact absurd q a
theorem fU{x:D}{ds:List D}(h:eI ds=true)(hx:x∈ds):∀l:List D,(∀y∈l,y∈ds)->l.Pairwise leD->(lM x l).Pairwise leD
 |[],_,_=>by simp[lM]
 |y::ys,hm,hp=>by
  unfold lM;obtain⟨h1,h2⟩:=Ys.mp hp;have hy:=hm y ZV;split
  .rename_i c
   refine Ys.mpr ⟨fun z hz=>?_,fU h hx ys (fun z hz=>hm z (ZZ _ hz)) h2⟩
   rcases ZX.mp ((fL x ys).mem_iff.mp hz)with q|q
   .subst q;exact mJ 15 _ _ c
   .exact h1 z q
  .rename_i c
   refine Ys.mpr ⟨fun z hz=>?_,hp⟩
   rcases ZX.mp hz with q|q
   .subst q;exact c
   .exact v7 h hx hy (hm z hz) c (h1 z q)
def ck{ds:List D}(h:eI ds=true):(aZ ds).Pairwise leD:=by
 have key:∀l:List D,(∀y∈l,y∈ds)->(aZ l).Pairwise leD:=by
  intro l
  induction l with
  |nil=>intro _;exact List.Pairwise.nil
  |cons y l ih=>
   intro hm;exact fU h (hm y ZV) _ (fun z hz=>hm z (ZZ _ ((bt l).mem_iff.mp hz))) (ih fun z hz=>hm z (ZZ _ hz))
 exact key ds fun _ h=>h
theorem dJ{ds:List D}(h:eI ds=true):∀(l1 l2:List D),(∀y∈l1,y∈ds)->l1.Perm l2->l1.Pairwise leD->l2.Pairwise leD->l1=l2
 |[],l2,_,hp,_,_=>(List.nil_perm.mp hp).symm
 |a::l1,[],_,hp,_,_=>(List.perm_nil.mp hp)
 |a::l1,b::l2,hm,hp,h1,h2=>by
  obtain⟨p1,q1⟩:=Ys.mp h1;obtain⟨p2,q2⟩:=Ys.mp h2;have Ki:∀y∈b::l2,y∈ds:=fun y hy=>hm y (hp.mem_iff.mpr hy)
  have ab:a=b:=by
   have ha:a∈b::l2:=hp.mem_iff.mp ZV;have hb:b∈a::l1:=hp.mem_iff.mpr ZV
   rcases ZX.mp ha with z|z
   .exact z
   .rcases ZX.mp hb with y|y
    .exact y.symm
    .exact zA h (hm a ZV) (Ki b ZV) (p1 b y) (p2 a z)
  subst ab;rw[dJ h l1 l2 (fun y hy=>hm y (ZZ _ hy)) (List.perm_cons a |>.mp hp) q1 q2]
inductive KD|st|it|ts|tt
def dI:KD->D->Bool
 |.st,.str _=>true
 |.it,.int _=>true
 |.ts,.tup (.str _::_)=>true
 |.tt,.tup (.tup _::_)=>true
 |_,_=>false
def lE{d:D}(h:dI .ts d=true):∃x ds,d=.tup (.str x::ds):=by
 unfold dI at h;split at h
 .trivial
 .trivial
 .exact⟨_,_,rfl⟩
 .trivial
 .trivial
def k5{d:D}(h:dI .tt d=true):∃x ds,d=.tup (.tup x::ds):=by
 unfold dI at h;split at h
 .trivial
 .trivial
 .trivial
 .exact⟨_,_,rfl⟩
 .trivial
def yH:KD->SortKind
 |.st=>oneType'
 |.it=>oneType'
 |.ts=>tuples' true
 |.tt=>tuples' false
section
variable{prog:ZC}{w:Zo}{A:Zu}{E:Z7->Z4->Prop}{s:Z4}
def gR{b:Bool}{Q:Bool->Z4->Prop}{fin:Bool}{r:Bool}:∀{vs ws:List Z7}{i:Nat},LexAt A s vs ws r->(b=false\/1<=i)->(fin=decide (vs.length<ws.length))->Q r s->KatLex prog w A b fin Q (vs.zip ws) i s:=by
 intro vs ws i h
 induction h generalizing i with
 |none=>
  intro hb hf q;subst hf;exact kat_nil (by simpa using q)
 |less=>
  intro hb hf q;rw[List.zip_nil_left];subst hf;exact kat_nil (by simpa using q)
 |more=>
  intro hb hf q;rw[List.zip_nil_right];subst hf;exact kat_nil (by simpa using q)
 |eq he ht ih=>
  intro hb hf q;rw[List.zip_cons_cons];refine kat_cons (he prog w _ _ (kat_yes ?_))
  exact ih (.inr (by lia)) (by rw[hf];simp) q
 |ne he hl=>
  intro hb hf q;rw[List.zip_cons_cons];refine kat_cons (he prog w _ _ (kat_no ?_))
  have hz:(b&&i==0)=false:=by
   rcases hb with z|z
   .rw[z,Bool.false_and]
   .have:(i==0)=false:=by simp;lia
    rw[this,WL]
  rw[hz];exact kat_one _ _ (hl prog w _ _ q)
end
section
variable{X:Cx}{a_:List (Z2×Obj)}{σ:St}{H:Hp}{s:Z4}{B B':Z2->Prop}
def A1(I:Inv X a_ σ H s){A:Zu}(hA:A.units+20<cLine){c:KD}{d e:D}{x y:V}{u w':Z7}{r:Bool}(hd:okD 15 d=true)(he:okD 15 e=true)(kd:dI c d=true)(ke:dI c e=true)(rd:Rep X.K B H d x)(re:Rep X.K B' H e y)(rx:RelV x u)(ry:RelV y w')
  (h:ltD 15 d e=some r){C:Bool->Z4->Prop}(q:C r s):wpAny (model X.prog X.w) A (keyLt' (yH c) u w') C (fun _ _=>False) s:=by
 cases c with
 |st=>
  cases d<;>simp only[dI,ZK]at kd
  cases e<;>simp only[dI,ZK]at ke
  simp only[Rep]at rd re;subst rd re;obtain⟨t,rfl⟩:=rx;obtain⟨t',rfl⟩:=ry;simp only[ltD,ZR]at h;subst h;show wpAny _ _ (keyLt' oneType' _ _) _ _ _;rw[keyLt'_oneType];exact oneLt_str q
 |it=>
  cases d<;>simp only[dI,ZK]at kd
  cases e<;>simp only[dI,ZK]at ke
  simp only[Rep]at rd re;subst rd re;obtain⟨t,rfl⟩:=rx;obtain⟨t',rfl⟩:=ry;simp only[ltD,ZR]at h;subst h;show wpAny _ _ (keyLt' oneType' _ _) _ _ _;rw[keyLt'_oneType];exact oneLt_int q
 |ts=>
  obtain⟨i,ds,rfl⟩:=lE kd;obtain⟨j,es,rfl⟩:=lE ke;simp only[Rep]at rd re;obtain⟨a,xs,rfl,hq,r1⟩:=rd;obtain⟨b,ys,rfl,FT,r2⟩:=re;cases rx;cases ry;obtain⟨its,v1,⟨o1,g1,c1,n1,d1⟩,_⟩:=I.tuple (SqT.of hq);obtain⟨l_,v2,⟨o2,g2,c2,n2,d2⟩,_⟩:=I.tuple (SqT.of FT);refine kat_lt g1 d1 g2 d2 ?_
  simp only[Reps]at r1 r2;obtain⟨x,xt,rfl,J8,L0⟩:=r1;obtain⟨y,yt,rfl,J6,LZ⟩:=r2;simp only[Rep]at J8 J6;subst J8 J6;simp only[okD,List.all_cons,ZH]at hd he;simp only[ltD,cb,D.str.injEq]at h;cases v1 with
  |cons va vb=>
   cases v2 with
   |cons wa wb=>
    obtain⟨t,rfl⟩:=va;obtain⟨t',rfl⟩:=wa;show KatLex _ _ _ _ _ _ ((Value.str i t::_).zip (Value.str j t'::_)) 0 s;rw[List.zip_cons_cons]
    by_cases MS:i=j
    .subst MS
     rw[Z0 rfl]at h;have q1:=SeqAt.EqAt.str_str (A:=A) (s:=s) i t i t';rw[Yh]at q1;refine kat_cons (q1 _ _ _ _ (kat_yes ?_))
     have lx:=uX (B:=B) (B':=B') I (n:=14) (A:=A) (by lia) (fun d e x y u w r o1 o2 r1 r2 v1 v2 hl=>DB I 14 d e x y u w r A o1 o2 (by lia) r1 r2 v1 v2 hl) ds es xt yt _ _ r
      hd.2 he.2 L0 LZ vb wb h
     exact gR lx (.inr (ZU _)) (by simp) q
    .rw[ZY MS]at h
     have q1:=SeqAt.EqAt.str_str (A:=A) (s:=s) i t j t';have eb:(i==j)=false:=by simpa using MS
     rw[eb]at q1;refine kat_cons (q1 _ _ _ _ (kat_no ?_))
     simp only[ZR]at h;subst h;exact oneLt_str q
 |tt=>
  obtain⟨i,ds,rfl⟩:=k5 kd;obtain⟨j,es,rfl⟩:=k5 ke;have FI:=rd;have RY:=re;simp only[Rep]at rd re;obtain⟨a,xs,rfl,hq,r1⟩:=rd;obtain⟨b,ys,rfl,FT,r2⟩:=re;cases rx;cases ry;obtain⟨its,v1,⟨o1,g1,c1,n1,d1⟩,_⟩:=I.tuple (SqT.of hq);obtain⟨l_,v2,⟨o2,g2,c2,n2,d2⟩,_⟩:=I.tuple (SqT.of FT);refine kat_lt g1 d1 g2 d2 ?_
  have C_:(D.tup i::ds).all (okD 14)=true:=by simpa only[okD]using hd
  have Ic:(D.tup j::es).all (okD 14)=true:=by simpa only[okD]using he
  simp only[ltD]at h;have lx:=uX (B:=B) (B':=B') I (n:=14) (A:=A) (by lia) (fun d e x y u w r o1 o2 r1 r2 v1 v2 hl=>DB I 14 d e x y u w r A o1 o2 (by lia) r1 r2 v1 v2 hl) _ _ xs ys _ _ r C_ Ic (by simpa only[Reps]using r1) (by simpa only[Reps]using r2) v1 v2 h
  exact gR lx (.inl rfl) (by simp) q
def vm(I:Inv X a_ σ H s){A:Zu}{c:KD}{ds:List D}{xs:List V}{us:List Z7}(h2:2<=us.length)(hk:ds.all (dI c)=true)(r:Reps X.K B H ds xs)(v:Vals xs us){Q:SortKind->Z4->Prop}(q:Q (yH c) s):
  wpAny (model X.prog X.w) A (keyKind' us.toArray) Q (fun _ _=>False) s:=by
 have each:∀u∈us,∃d x,dI c d=true/\Rep X.K B H d x/\RelV x u:=fun u hu=>by
  obtain⟨j,hj⟩:=Yl hu
  have hl:=v.length;have ka:j<xs.length:=by rw[hl];exact(ZW.mp hj).1
  obtain⟨u',FC,ru⟩:=v.get (i:=j) (x:=xs[j]) (by simp[ka])
  rw[hj]at FC;obtain rfl:=Z9 FC;obtain⟨d,hd,rd⟩:=r.get' (i:=j) (x:=xs[j]) (by simp[ka])
  exact⟨d,xs[j],ZM.mp hk d (Zj hd),rd,ru⟩
 cases c with
 |st=>
  refine kas_kind (T:=.type "str") h2 (fun u hu=>?_) (by decide) (by decide) q
  obtain⟨d,x,k1,rd,ru⟩:=each u hu;cases d<;>simp only[dI,ZK]at k1
  simp only[Rep]at rd;subst rd;obtain⟨t,rfl⟩:=ru;exact .now
 |it=>
  refine kas_kind (T:=.type "int") h2 (fun u hu=>?_) (by decide) (by decide) q
  obtain⟨d,x,k1,rd,ru⟩:=each u hu;cases d<;>simp only[dI,ZK]at k1
  simp only[Rep]at rd;subst rd;obtain⟨t,rfl⟩:=ru;exact .now
 |ts=>
  have mk:∀(ds:List D)(xs:List V)(us:List Z7),ds.all (dI .ts)=true->Reps X.K B H ds xs->Vals xs us->∃fs,KatTups s.heap us fs/\fs.length=us.length/\∀f∈fs,∃z t,f=.str z t:=by
   intro ds
   induction ds with
   |nil=>intro xs us _ r v;simp only[Reps]at r;subst r;cases v;exact⟨[],.nil,rfl,fun _ h=>by cases h⟩
   |cons d ds ih=>
    intro xs us hk r v;simp only[Reps]at r;obtain⟨x,xt,rfl,ra,rb⟩:=r;cases v with
    |cons va vb=>
     rw[List.all_cons,ZH]at hk;obtain⟨fs,f1,f2,f3⟩:=ih xt _ hk.2 rb vb;obtain⟨z,es,rfl⟩:=lE hk.1;simp only[Rep]at ra;obtain⟨a,ys,rfl,hq,rs⟩:=ra;cases va;obtain⟨its,v1,⟨o1,g1,c1,n1,d1⟩,_⟩:=I.tuple (SqT.of hq);simp only[Reps]at rs;obtain⟨y,yt,rfl,ry,_⟩:=rs;simp only[Rep]at ry;subst ry;cases v1 with
     |cons w1 w2=>
      obtain⟨t,rfl⟩:=w1;exact⟨.str z t::fs,.cons g1 c1 d1 (by simp) f1,by simp[f2],fun f hf=>by
       rcases ZX.mp hf with q|q
       .exact⟨z,t,q⟩
       .exact f3 f q⟩
  obtain⟨fs,f1,f2,f3⟩:=mk ds xs us hk r v;refine kat_kind (T:=.type "str") f1 (by lia) (fun f hf=>?_) (by decide) q
  obtain⟨z,t,rfl⟩:=f3 f hf;exact .now
 |tt=>
  have mk:∀(ds:List D)(xs:List V)(us:List Z7),ds.all (dI .tt)=true->Reps X.K B H ds xs->Vals xs us->∃fs,KatTups s.heap us fs/\fs.length=us.length/\∀f∈fs,∃b o,f=.ref b/\s.heap.get? b=some o/\o.cls=.type "tuple":=by
   intro ds
   induction ds with
   |nil=>intro xs us _ r v;simp only[Reps]at r;subst r;cases v;exact⟨[],.nil,rfl,fun _ h=>by cases h⟩
   |cons d ds ih=>
    intro xs us hk r v;simp only[Reps]at r;obtain⟨x,xt,rfl,ra,rb⟩:=r;cases v with
    |cons va vb=>
     rw[List.all_cons,ZH]at hk;obtain⟨fs,f1,f2,f3⟩:=ih xt _ hk.2 rb vb;obtain⟨z,es,rfl⟩:=k5 hk.1;simp only[Rep]at ra;obtain⟨a,ys,rfl,hq,rs⟩:=ra;cases va;obtain⟨its,v1,⟨o1,g1,c1,n1,d1⟩,_⟩:=I.tuple (SqT.of hq);simp only[Reps]at rs;obtain⟨y,yt,rfl,ry,_⟩:=rs;simp only[Rep]at ry;obtain⟨b,zs,rfl,Ql,_⟩:=ry;cases v1 with
     |cons w1 w2=>
      cases w1;obtain⟨_,_,⟨o2,g2,c2,_⟩,_⟩:=I.tuple (SqT.of Ql);exact⟨.ref b::fs,.cons g1 c1 d1 (by simp) f1,by simp[f2],fun f hf=>by
       rcases ZX.mp hf with q|q
       .exact⟨b,o2,q,g2,c2⟩
       .exact f3 f q⟩
  obtain⟨fs,f1,f2,f3⟩:=mk ds xs us hk r v;refine kat_kind (T:=.type "tuple") f1 (by lia) (fun f hf=>?_) (by decide) q
  obtain⟨b,o,rfl,g,hc⟩:=f3 f hf;rw[<-hc];exact(Looks.ld g).andThen .now
end
def Cb{ds:List D}(h:eI ds=true){f:Z7->D}(hf:ds≠[]->∀u,f u∈ds)(h0:ds=[]->∀u,f u=.non):SM.OrdK fun x y=>decide (ltD 15 (f x.1) (f y.1)=some true):=by
 by_cases hn:ds=[]
 .have e:=h0 hn
  exact⟨fun i j q=>by simp only[e,ltD]at q;simp at q,fun i j k _ _=>by simp[e,ltD]⟩
 .exact⟨fun i j q=>ZN (mJ 15 _ _ (Zc q)),fun i j k a b=>ZN (v7 h (hf hn _) (hf hn _) (hf hn _) (of_decide_eq_false a) (of_decide_eq_false b))⟩
section
variable{X:Cx}{a_:List (Z2×Obj)}{σ:St}{H:Hp}{s:Z4}{B:Z2->Prop}
def Am(I:Inv X a_ σ H s){ds:List D}{ys:List V}{us:List Z7}(r:Reps X.K B H ds ys)(v:Vals ys us)(hc:eI ds=true):
  ∃f:Z7->D,(ds≠[]->∀u,f u∈ds)/\(ds=[]->∀u,f u=.non)/\us.map f=ds/\∀u∈us,∃y,Rep X.K B H (f u) y/\RelV y u:=by
 refine⟨fun u=>open Classical in if h:∃d,d∈ds/\∃y,Rep X.K B H d y/\RelV y u then h.choose else ds.headD .non,fun hn u=>?_,fun hn u=>?_,?_⟩
 .dsimp only
  split
  .rename_i h;exact h.choose_spec.1
  .cases ds with
   |nil=>exact absurd rfl hn
   |cons d ds=>exact .head _
 .subst hn
  dsimp only;split
  .rename_i h;exact nomatch h.choose_spec.1
  .rfl
 .have key:∀i,i<us.length->∃d y u,ds[i]?=some d/\us[i]?=some u/\Rep X.K B H d y/\RelV y u:=fun i hi=>by
   have l1:=r.length;have l2:=v.length;have w_:i<ds.length:=by lia
   obtain⟨x,hx,rx⟩:=r.get (i:=i) (d:=ds[i]) (by simp[w_])
   obtain⟨u,hu,ru⟩:=v.get hx;exact⟨ds[i],x,u,by simp[w_],hu,rx,ru⟩
  have val:∀d y u,d∈ds->Rep X.K B H d y->RelV y u->(open Classical in if h:∃d,d∈ds/\∃y,Rep X.K B H d y/\RelV y u then h.choose else ds.headD .non)=d:=fun d y u hd hr hv=>by
   rw[dif_pos ⟨d,hd,y,hr,hv⟩];have h:∃d,d∈ds/\∃y,Rep X.K B H d y/\RelV y u:=⟨d,hd,y,hr,hv⟩;obtain⟨h1,y',h2,h3⟩:=h.choose_spec;cases RelV.inj h3 hv;exact Rep.inj I (im hc h1) (im hc hd) h2 hr
  constructor
  .refine Xh fun i=>?_
   rw[YD]
   by_cases hi:i<us.length
   .obtain⟨d,y,u,h1,h2,h3,h4⟩:=key i hi
    rw[h1,h2,Option.map_some,val d y u (Zj h1) h3 h4]
   .have l1:=r.length
    have l2:=v.length;rw[YS (by lia),YS (by lia)];rfl
  .intro u hu
   obtain⟨i,hi⟩:=Yl hu
   obtain⟨d,y,u',h1,h2,h3,h4⟩:=key i (ZW.mp hi).1
   cases hi.symm.trans h2;exact⟨y,by dsimp only;rw[val d y u (Zj h1) h3 h4];exact h3,h4⟩
theorem pY{f:Z7->D}:∀{us:List Z7},(∀u∈us,∃y,Rep X.K B H (f u) y/\RelV y u)->∃zs,Reps X.K B H (us.map f) zs/\Vals zs us
 |[],_=>⟨[],Reps.nil,.nil⟩
 |u::us,h=>by
  obtain⟨y,r,v⟩:=h u (.head _);obtain⟨zs,rs,vs⟩:=pY (us:=us) fun u hu=>h u (.tail _ hu)
  exact⟨y::zs,Reps.cons r rs,.cons v vs⟩
end
section
variable{X:Cx}{m m' mm:Bool}{a b:Expr}{fa fb:DEnv->Z_ D}{pos p:Pos}
def e7{a_:List (Z2×Obj)}{σ:St}{H:Hp}{s:Z4}{B:Z2->Prop}{c:KD}{ds:List D}{ys:List V}{us:List Z7}{Q:VK}{h1:Heap}{t1:Nat}(hu:X.A.units+64<cLine)(I:Inv X a_ σ H s)(k1:∀b o,s.heap.get? b=some o->h1.get? b=some o)(hsz:s.heap.objs.size<=h1.objs.size)
  (r:Reps X.K B H ds ys) (v:Vals ys us) (hz:us.length<=sizeLine) (hc:eI ds=true) (hk:(decide (ds.length<2)||ds.all (dI c))=true)
  (q:∀l zs,H l=none->Reps X.K B H (aZ ds) zs->Q (.ref l) (upd H l (.lst zs))):
  wpAny (model X.prog X.w) X.A.in1 (do
   let l <-newList us
   let _ <-holding [l] (call (.builtin "list.sort") [l] [])
   ret l) (fun fin s'=>∃w,fin=.done (.ret w)/\EP X a_ σ Q w s') X.xe {s with heap:=h1,toks:=t1}:=by
 obtain⟨f,f1,f0,f2,f3⟩:=Am I r v hc;have GA:2<=us.length->ds.all (dI c)=true:=fun h=>by
  rw[Bool.or_eq_true]at hk
  rcases hk with hk|hk
  .have:=Zc hk;have l1:=r.length;have l2:=v.length;lia
  .exact hk
 refine Z8 (WR ?_ hz)
 have g0:(h1.push (seqObj "list" us.toArray 0)).get? h1.objs.size=some (seqObj "list" us.toArray 0):=ZT _ rfl
 have k2:∀b o,s.heap.get? b=some o->b≠h1.objs.size/\(h1.push (seqObj "list" us.toArray 0)).get? b=some o:=fun b o e=>⟨Zw (ZO (k1 b o e)),Z6 _ (k1 b o e)⟩
 refine Z8 (YQ (Y_ slot_list_sort ⟨_,g0,rfl⟩ entry_list_sort ?_ (args_list_sort _)))
 have hA:X.A.in1.in1.units+20<cLine:=by show X.A.units+1+1+20<cLine;lia
 refine vC (s:={s with heap:=h1.push (seqObj "list" us.toArray 0),toks:=t1}) (vs:=us) (κ:=yH c) (LT:=fun u v=>decide (ltD 15 (f u) (f v)=some true)) g0 hz (Cb hc f1 f0) (fun h2 h' kp Q' q'=>?_) (fun h2 h' kp u u' C hu FC hC=>?_) (fun LO hp hs h' cc kp g=>?_)
 .have I1:Inv X a_ σ H {s with heap:=h',toks:=t1}:=I.kept fun b o e=>kp b o (k2 b o e).1 (k2 b o e).2
  exact vm I1 h2 (GA h2) r v q'
 .have I1:Inv X a_ σ H {s with heap:=h',toks:=t1}:=I.kept fun b o e=>kp b o (k2 b o e).1 (k2 b o e).2
  obtain⟨x,rx,vx⟩:=f3 u hu;obtain⟨y,ry,vy⟩:=f3 u' FC;have m1:f u∈ds:=by rw[<-f2];exact Xo hu
  have m2:f u'∈ds:=by rw[<-f2];exact Xo FC
  obtain⟨rr,er⟩:=iu hc m1 m2;refine A1 I1 hA (im hc m1) (im hc m2) (ZM.mp (GA h2) _ m1) (ZM.mp (GA h2) _ m2) rx ry vx vy er ?_
  simp only[er]at hC;cases rr with
  |true=>simpa using hC
  |false=>simpa using hC
 .have es:LO.map f=aZ ds:=by
   have perm:(LO.map f).Perm ds:=by rw[<-f2];exact hp.map f
   refine dJ hc _ _ (fun y hy=>perm.mem_iff.mp hy) (perm.trans (bt ds).symm) ?_ (ck hc)
   rw[List.pairwise_map];exact hs.imp fun q=>of_decide_eq_false q
  obtain⟨zs,rz,vz⟩:=pY (us:=LO) fun u hu=>f3 u (hp.mem_iff.mp hu)
  rw[es]at rz;have hlen:zs.length<=sizeLine:=by rw[vz.length,hp.length_eq];exact hz
  have GB:H h1.objs.size=none:=I.hok.fresh hsz;refine⟨_,rfl,Z3 ⟨_,rfl,.ref h1.objs.size,_,I.laid (a:=h1.objs.size) (o:=.lst zs) (h':=h') (t':=t1) (fun b o e=>kp b o (k2 b o e).1 (k2 b o e).2) hsz ?_,rfl,q _ _ GB rz⟩⟩
  exact⟨hlen,_,cc,vz,g⟩
def lH{c:KD}(hu:X.A.units+64<cLine):ei X (.builtin "sorted") (fun xs H Q=>∃B p ds ys,xs=[.ref p]/\SqL X.K H p ys/\Reps X.K B H ds ys/\eI ds=true/\(decide (ds.length<2)||ds.all (dI c))=true/\
  ∀l zs,H l=none->Reps X.K B H (aZ ds) zs->Q (.ref l) (upd H l (.lst zs))):=by
 intro a_ s σ H xs us Q I r h;obtain⟨B,p,ds,ys,rfl,hq,rs,hc,hk,q⟩:=h;obtain⟨u,rfl,rx⟩:=gd r;cases rx;obtain⟨its,rv,pl,hz⟩:=I.list hq;have l1:=rs.length;have l2:=rv.length;refine W0 kind_sorted plain_sorted entry_sorted (args_sorted1 _) ?_
 unfold Builtin.«sorted»;refine Z8 (m:=checkCount "sorted" 1 1 _) (Z3 (Z8 (collect_list pl.isList ?_ (by lia))))
 have hsz:((s.heap.push (seqObj "list" #[] 0)).update s.heap.objs.size (Obj.mapSeq (· ++its.toArray))).objs.size=s.heap.objs.size+1:=by
  rw[Heap.size_update,size_push']
 refine e7 (t1:=s.toks) hu I (fun b o e=>?_) (by rw[hsz];lia) rs rv (by lia) hc hk q
 exact(Zr _ _ (Nat.ne_of_gt (ZO e))).trans (Z6 _ e)
noncomputable def jb(c:KD)(x:Z_ D):Z_ D:=match x with|some (.lst ds)=>if(eI ds&&(decide (ds.length<2)||ds.all (dI c)))=true then some (.lst (aZ ds)) else none|_=>none
def mw{c:KD}{ds:List D}(h2:eI ds=true)(h3:ds.length<2\/ds.all (dI c)=true):jb c (some (.lst ds))=some (.lst (aZ ds)):=by
 unfold jb;have:(eI ds&&(decide (ds.length<2)||ds.all (dI c)))=true:=by rcases h3 with h3|h3<;>simp[h2,h3]
 simp only[this,Y2]
theorem qf{c:KD}(hu:X.A.units+64<cLine)(g:Gl X "sorted")(hm:X.mg "sorted"=none)(ha:DE X false a fa)(hs:starEach [a] X.env=[(false,eval a X.env)]:=by rfl):DF X (.Call (.Name "sorted" p) [a] [] pos) (fun δ=>jb c (fa δ)):=
 (cH (lH (c:=c) hu) g hm dC (aw ha aO hs) (he:=hs)).imp fun σ H Q hz=>by
  obtain⟨B,Hk,δ,d,R,e,k⟩:=hz;unfold jb at e;dsimp only at e;split at e
  .rename_i ds qd
   by_cases cc:(eI ds&&(decide (ds.length<2)||ds.all (dI c)))=true
   .rw[Z0 cc]at e;obtain rfl:=Z9 e
    rw[ZH]at cc;obtain⟨c2,c3⟩:=cc;refine oX R qd fun v H' s R' r=>?_
    simp only[Rep]at r;obtain⟨l,xs,rfl,hq,rs⟩:=r;refine⟨_,l,ds,xs,rfl,hq.sq,rs,c2,c3,fun l' zs hl rz=>?_⟩
    have s2:=au (o:=.lst zs) hl;exact k l' _ (s.trans s2) (s.free hl) ⟨_,ag,rz.same (m:=false) R' s2⟩
   .rw[ZY cc]at e;trivial
  .trivial
end
section
variable{X:Cx}
end
def fQ:D->Z_ Key
 |.int i=>some (.inl i)
 |.str x=>some (.inr x)
 |_=>none
def keysOf:List D->Z_ (List Key)
 |[]=>some []
 |d::ds=>(match fQ d,keysOf ds with|some k,some ks=>some (k::ks)|_,_=>none)
section
variable{X:Cx}{m m' mm:Bool}{a b c:Expr}{fa fb fc:DEnv->Z_ D}{pos apos f_:Pos}
end
def b9:List D->Z_ (List Str)
 |[]=>some []
 |.str i::ds=>(match b9 ds with|some l=>some (i::l)|none=>none)
 |_=>none
def jk(ns:List Str):b9 (ns.map D.str)=some ns:=by
 induction ns with
 |nil=>rfl
 |cons n ns ih=>simp only[Z1,b9,ih]
theorem dM:∀{ds:List D}{ns:List Str},b9 ds=some ns->ds=ns.map D.str
 |[],ns,h=>by simp only[b9,ZR]at h;subst h;rfl
 |.str i::ds,ns,h=>by
  simp only[b9]at h;cases q:b9 ds with
  |none=>rw[q]at h;trivial
  |some l=>
   rw[q]at h;simp only[ZR]at h;subst h;rw[Z1,dM q]
 |.non::ds,ns,h=>by simp[b9]at h
 |.bl _::ds,ns,h=>by simp[b9]at h
 |.int _::ds,ns,h=>by simp[b9]at h
 |.tup _::ds,ns,h=>by simp[b9]at h
 |.lst _::ds,ns,h=>by simp[b9]at h
 |.dT _ _::ds,ns,h=>by simp[b9]at h
 |.dK _ _::ds,ns,h=>by simp[b9]at h
 |.dD _ _::ds,ns,h=>by simp[b9]at h
 |.sp _ _::ds,ns,h=>by simp[b9]at h
theorem Reps.strs{K:Z5}{B:Z2->Prop}{H:Hp}:∀{ns:List Str}{xs:List V},Reps K B H (ns.map D.str) xs->xs=ns.map V.str
 |[],xs,h=>by simpa only[Y7,Reps]using h
 |n::ns,xs,h=>by
  simp only[Z1,Reps]at h;obtain⟨x,r,rfl,h1,h2⟩:=h;simp only[Rep]at h1;rw[Z1,h1,Reps.strs h2]
def nW{ns:List Str}:∀{us:List Z7},Vals (ns.map V.str) us->StrsAre us ns:=by
 induction ns with
 |nil=>intro us r;rw[Y7]at r;cases r;exact .nil
 |cons n ns ih=>
  intro us r;rw[Z1]at r;cases r with
  |cons r1 r2=>
   obtain⟨t,e⟩:=r1;subst e;exact .cons n t (ih r2)
section
variable{X:Cx}{m m' mm:Bool}{a b:Expr}{fa fb:DEnv->Z_ D}{pos p apos f_:Pos}
def wW:MtM X "str.join" (fun x vs H Q=>∃(z:Str)(p:Z2)(ys:List Str),x=.str z/\vs=[.ref p]/\SqL X.K H p (ys.map V.str)/\(ys.map (·.length)).sum+ys.length*z.length<=16777216/\Q (.str (Txt.join z ys)) H):=by
 intro a_ s σ H x vs v us Q I rx rv h;obtain⟨z,p,ys,rfl,rfl,hq,hl,q⟩:=h;obtain⟨t,rfl⟩:=rx;obtain⟨u,rfl,ru⟩:=rv.one;cases ru;obtain⟨its,r,pl,hz⟩:=I.list hq;exact join_list pl.isList (by simpa using nW r) hl fun t' k=>⟨.str _,H,I.tok k,⟨t',rfl⟩,q⟩
noncomputable def qN(x y:Z_ D):Z_ D:=match x,y with|some (.str z),some (.lst ds)=>(match b9 ds with|some ys=>if(ys.map (·.length)).sum+ys.length*z.length<=16777216 then some (.str (Txt.join z ys)) else none|none=>none)|_,_=>none
theorem wZ(ha:DE X m a fa)(hb:DE X m' b fb)(n_:attributeBase a "join" X.env (eval a X.env)=eval a X.env:=by rfl)
  (D_:((backTo f_ (starEach [b] X.env)).all (fun x=>!x.1)&&(backToKw f_ (keywordEach [] X.env)).all (fun x=>x.1.isSome)&&decide (([b]).length+([]:List Keyword).length+(if([]:List Keyword).isEmpty then 0 else 1)<30))=true:=by rfl)
  (m_:(apos.endLine==f_.line)=true:=by rfl)(hs:starEach [b] X.env=(false,eval b X.env)::starEach [] X.env:=by rfl):DE X mm (.Call (.Attribute a "join" apos) [b] [] f_) (fun δ=>qN (fa δ) (fb δ)):=
 (n9 PySem.F.plainAttrs_str PySem.F.slot_str_join PySem.F.type_str_join wW ha (aw hb aO hs) n_ D_ m_ hs).imp fun σ H Q hz=>by
  obtain⟨B,Hk,δ,d,R,e,k⟩:=hz;unfold qN at e;dsimp only at e;split at e
  .rename_i z ds q1 q2
   split at e
   .rename_i ys qs
    obtain rfl:=dM qs
    by_cases c:(ys.map (·.length)).sum+ys.length*z.length<=16777216
    .rw[Z0 c]at e;obtain rfl:=Z9 e
     refine⟨B,Hk,δ,_,R,q1,fun v H1 s1 r1=>?_⟩
     simp only[Rep]at r1;subst r1;refine⟨rfl,oX (R.to s1) q2 fun w H2 s2 R2 r2=>?_⟩
     simp only[Rep]at r2;obtain⟨l,xs,rfl,hq,rs⟩:=r2;obtain rfl:=rs.strs;exact⟨z,l,ys,rfl,rfl,hq.sq,c,k _ H2 (s1.trans s2) (by simp only[Rep])⟩
    .rw[ZY c]at e;trivial
   .trivial
  .trivial
def xU:MtM X "str.find" (fun x vs H Q=>∃(z y:Str),x=.str z/\vs=[.str y]/\Q (.int (Txt.find z y)) H):=by
 intro a_ s σ H x vs v us Q I rx rv h;obtain⟨z,y,rfl,rfl,q⟩:=h;obtain⟨t,rfl⟩:=rx;obtain⟨u,rfl,ru⟩:=rv.one;obtain⟨t',rfl⟩:=ru;exact SC.find ⟨.int _,H,I.tok _,⟨_,rfl⟩,q⟩
def uG(x y:Z_ D):Z_ D:=match x,y with|some (.str z),some (.str w)=>some (.int (Txt.find z w))|_,_=>none
theorem xM(ha:DE X m a fa)(hb:DE X m' b fb)(n_:attributeBase a "find" X.env (eval a X.env)=eval a X.env:=by rfl)
  (D_:((backTo f_ (starEach [b] X.env)).all (fun x=>!x.1)&&(backToKw f_ (keywordEach [] X.env)).all (fun x=>x.1.isSome)&&decide (([b]).length+([]:List Keyword).length+(if([]:List Keyword).isEmpty then 0 else 1)<30))=true:=by rfl)
  (m_:(apos.endLine==f_.line)=true:=by rfl)(hs:starEach [b] X.env=(false,eval b X.env)::starEach [] X.env:=by rfl):DE X mm (.Call (.Attribute a "find" apos) [b] [] f_) (fun δ=>uG (fa δ) (fb δ)):=
 (n9 PySem.F.plainAttrs_str PySem.F.slot_str_find PySem.F.type_str_find xU ha (aw hb aO hs) n_ D_ m_ hs).imp fun σ H Q hz=>by
  obtain⟨B,Hk,δ,d,R,e,k⟩:=hz;unfold uG at e;dsimp only at e;split at e
  .rename_i z y q1 q2
   obtain rfl:=Z9 e;refine⟨B,Hk,δ,_,R,q1,fun v H1 s1 r1=>?_⟩
   simp only[Rep]at r1;subst r1;refine⟨rfl,oX (R.to s1) q2 fun w H2 s2 R2 r2=>?_⟩
   simp only[Rep]at r2;subst r2;exact⟨z,y,rfl,rfl,k _ H2 (s1.trans s2) (by simp only[Rep])⟩
  .trivial
def rV(l:Z2)(items:Array Z7)(n:Nat)(b:Z2)(s_:Array Z7)(n2:Nat)(s1 s2:Array (Z_ Z7))(MG:items.size+s_.size<=sizeLine):
  Meets (Builtin.«list.__add__» ⟨[.ref l,.ref b],[]⟩) (fun _ R s=>s.heap.get? l=some ⟨.type "list",none,.seq items n,s1⟩/\s.heap.get? b=some ⟨.type "list",none,.seq s_ n2,s2⟩/\R (.ok (.ret (Value.ref s.heap.objs.size))) {s with heap:=s.heap.push {cls:=Value.type "list",data:=Data.seq (items++s_)}}):=
 .of_wp fun prog w A R s h=>by
  obtain⟨hp,g,d,tk,os⟩:=s;obtain⟨hl,hb,h⟩:=h;have f1:=AutoSeq1.idx_int;have f2:=WO;have f3:=AutoSeq1.sub_list_list;have f4:=AutoSeq1.sub_tuple_list;have f5:=AutoSeq1.sub_list_tuple
  wp_walk using AutoSeq1.wpAny_loadPart' hl,AutoSeq1.wpAny_loadPart' hb
  exact⟨_,rfl,h⟩
def o0{P:ZC}{w:Zo}{A:Zu}{E:Z7->Z4->Prop}{s:Z4}{l b:Z2}{its l_:Array Z7}{Q:Z7->Z4->Prop}(hl:PlainL s.heap l its)(hb:PlainL s.heap b l_)
  (h:Q (.ref s.heap.objs.size) {s with heap:=s.heap.push {cls:=.type "list",data:=.seq (its++l_)}})(hsz:its.size+l_.size<=sizeLine):wpAny (model P w) A (binaryOp .Add (.ref l) (.ref b)) Q E s:=by
 obtain⟨⟨c1,d1,a1,s1⟩,n1,e1,rfl,rfl,rfl⟩:=hl;obtain⟨⟨c2,d2,a2,s2⟩,n2,e2,rfl,rfl,rfl⟩:=hb;exact concat_meets ⟨_,e1,rfl⟩ ⟨_,e2,rfl⟩ noFill_list_add seq_list_add F.slot_list_add F.entry_list_add (F.args_list_add_2 _ _) (rV l its n1 b l_ n2 s1 s2 hsz) ⟨e1,e2,h⟩
def yB:OpR X (binaryOp .Add) (fun x y H Q=>∃l b xs zs,x=.ref l/\y=.ref b/\SqL X.K H l xs/\SqL X.K H b zs/\xs.length+zs.length<=sizeLine/\∀p,H p=none->Q (.ref p) (upd H p (.lst (xs++zs)))):=by
 intro a_ s σ H x y v u Q I rx ry h;obtain⟨l,b,xs,zs,rfl,rfl,hH,hB,hz,q⟩:=h;cases rx;cases ry;obtain⟨its,r,pl,_⟩:=I.list hH;obtain⟨l_,r2,Lp,_⟩:=I.list hB;have hl:=r.length;have LB:=r2.length;refine o0 pl Lp ?_ (by rw[ZQ,ZQ];lia)
 have ea:its.toArray++l_.toArray=(its++l_).toArray:=by simp
 rw[ea];exact⟨.ref _,_,I.lnew (t':=s.toks) (r.append r2) (by rw[Zz];lia),rfl,q _ I.fresh⟩
def tQ(x y:Z_ D):Z_ D:=match x,y with|some (.lst i),some (.lst j)=>if i.length+j.length<=lim then some (.lst (i++j)) else none|_,_=>none
theorem wc(ha:DE X false a fa)(hb:DE X false b fb):DF X (.BinOp a .Add b pos) (fun δ=>tQ (fa δ) (fb δ)):=
 (uI yB ha hb).imp fun σ H Q hz=>by
  obtain⟨B,Hk,δ,d,R,e,k⟩:=hz;unfold tQ at e;dsimp only at e;split at e
  .rename_i i j q1 q2
   by_cases hz:i.length+j.length<=lim
   .rw[Z0 hz]at e;obtain rfl:=Z9 e
    refine two R q1 q2 fun v u H' s R' r1 r2=>?_
    simp only[Rep]at r1 r2;obtain⟨c,xs,rfl,hq,rs⟩:=r1;obtain⟨c2,Nz,rfl,H0,Ip⟩:=r2;refine⟨c,c2,xs,Nz,rfl,rfl,hq.sq,H0.sq,by rw[<-rs.length,<-Ip.length];exact aH hz,fun p hp=>?_⟩
    have s2:=au (o:=.lst (xs++Nz)) hp;exact k p _ (s.trans s2) (s.free hp) ⟨_,ag,(rs.append Ip).same (m:=false) R' s2⟩
   .rw[ZY hz]at e;trivial
  .trivial
noncomputable def si(i:Nat)(x:Z_ D)(δ:DEnv):Z_ Out:=match bE i δ,x with|some (.lst ds),some (.lst es)=>if ds.length+es.length<=lim then some (.next (δ.set i (some (.lst (ds++es),true)))) else none|_,_=>none
def qW{i:Nat}{x:Z_ D}{δ:DEnv}{o:Out}(h:si i x δ=some o):∃ds es,δ[i]?=some (some (.lst ds,true))/\x=some (.lst es)/\ds.length+es.length<=lim/\o=.next (δ.set i (some (.lst (ds++es),true))):=by
 unfold si at h;split at h
 .rename_i ds d q
  by_cases hl:ds.length+d.length<=lim
  .rw[Z0 hl]at h;obtain rfl:=Z9 h;exact⟨ds,d,bN q,rfl,hl,rfl⟩
  .rw[ZY hl]at h;trivial
 .trivial
def pq{i:Nat}{x:Str}{px apos f_:Pos}(ha:DF X a fa)(hN:X.N[i]?=some x:=by rfl)(hv:Vis X.env.scope x:=by first|exact Or.inl rfl|exact Or.inr (Or.inl rfl)|exact Or.inr (Or.inr rfl))
  (n_:attributeBase (.Name x px) "extend" X.env (eval (.Name x px) X.env)=eval (.Name x px) X.env:=by rfl)
  (D_:((backTo f_ (starEach [a] X.env)).all (fun x=>!x.1)&&(backToKw f_ (keywordEach [] X.env)).all (fun x=>x.1.isSome)&&decide (([a]).length+([]:List Keyword).length+(if([]:List Keyword).isEmpty then 0 else 1)<30))=true:=by rfl)
  (m_:(apos.endLine==f_.line)=true:=by rfl)(hs:starEach [a] X.env=(false,eval a X.env)::starEach [] X.env:=by rfl)(hd:(x==("__debug__":Str))=false:=by decide)(Fo:(x==("__classdict__":Str))=false:=by decide)
  (F9:swapsWith (.Call (.Attribute (.Name x px) "extend" apos) [a] [] f_) none pos.line X.env=pure false:=by rfl):DS X (.Expr (.Call (.Attribute (.Name x px) "extend" apos) [a] [] f_) pos) (fun δ=>si i (fa δ) δ):=
 (lm (n9 XF PySem.F.slot_list_extend PySem.F.type_list_extend sB (bg hN hv hd Fo) (aw ha aO hs) n_ D_ m_ hs) F9).imp fun Dn σ H hz=>by
  obtain⟨B,Hk,δ,o,R,e,k⟩:=hz;obtain⟨ds,es,h1,e1,hl,rfl⟩:=qW e;obtain⟨l,h2,h3,xs,h4,h5⟩:=R.own i _ h1;refine⟨.ref l,h2,.inl ⟨rfl,xs,SqL.of h4⟩,B,Hk,δ,_,R,e1,fun p H' s hp ob=>?_⟩
  have R':=R.to s;have HM:=s l _ h4;have MN:Reps X.K B H' ds xs:=h5.ext (R.ext s);obtain⟨zs,h6,h7⟩:=ob;obtain⟨x1,x2⟩:=R'.lset (ds':=ds++es) (xs':=xs++zs) h1 h2 HM (MN.append h7);exact⟨l,p,xs,zs,rfl,rfl,HM,h6,by rw[<-h5.length,<-h7.length];exact aH hl,k σ _ ((R.ext s).trans x1) x2⟩
end
end L2
namespace L2
open PySem PySem.Spec PyProof.Rows
variable[Lams]
noncomputable def kF(J_:Scope)(scope:Scope)(N:List Str)(bs:List Bool):Bool:=
 decide (scope.kind=.function)&&scope.names.all (fun y=>!decide (y.2=.cell))&&scope.names.all (fun y=>!decide (y.2=.local)||decide (scope.names.lookup y.1=some .local))&&
 scope.names.all (fun y=>!decide (y.2=.free)||(decide (scope.names.lookup y.1=some .free)&&(decide (J_.names.lookup y.1=some .cell)||decide (J_.names.lookup y.1=some .free))))&&
 decide (bs.length=N.length)&&(N.zip bs).all (fun p=>!p.2||decide (scope.names.lookup p.1=some .free))
def jU{X:Cx}{J_ scope:Scope}{N:List Str}{bs:List Bool}(h1:X.env.scope=J_)(h2:X.N=N)(h:kF J_ scope N bs=true):CompScope X scope bs:=by
 unfold kF at h;simp only[ZH,Zn]at h;obtain⟨⟨⟨⟨⟨a,b⟩,c⟩,d⟩,e⟩,f⟩:=h;refine⟨a,fun y hy z=>?_,fun y hy z=>?_,fun y hy z=>?_,by rw[h2];exact e,fun i x hx hb=>?_⟩
 .have:=ZM.mp b y hy
  rw[Zm z]at this;trivial
 .have:=ZM.mp c y hy
  rw[Zm z]at this
  simpa using this
 .have:=ZM.mp d y hy
  rw[Zm z]at this;simp only[YU,Bool.false_or,ZH,Bool.or_eq_true,Zn]at this;refine⟨this.1,?_⟩
  unfold Env.kindOf;rw[h1];exact this.2
 .rw[h2]at hx
  have hz:(N.zip bs)[i]?=some (x,true):=by rw[List.getElem?_zip_eq_some];exact⟨hx,hb⟩
  have:=ZM.mp f _ (Zj hz)
  simpa using this
structure Nm (X:Cx)(i:Nat)(x:Str):Prop where
 at':X.N[i]?=some x
 vis:Vis X.env.scope x
 d1:(x==("__debug__":Str))=false
 d2:(x==("__classdict__":Str))=false
structure Lc (X:Cx)(i:Nat)(x:Str):Prop where
 at':X.N[i]?=some x
 loc:Loc X.env.scope x
 fnl:X.fn x=true\/X.env.scope.names.lookup x=some .local
structure Gb (X:Cx)(x:Str):Prop where
 gl:Gl X x
 d1:(x==("__debug__":Str))=false
def Co:Z_ NameKind->Bool
 |some .local=>true|some .cell=>true|some .free=>true|_=>false
def Cf:Z_ NameKind->Bool
 |some .local=>true|some .cell=>true|_=>false
noncomputable def nmB(N:List Str)(sc:Scope)(i:Nat)(x:Str):Bool:=decide (N[i]?=some x)&&Co (sc.names.lookup x)&&!(x==("__debug__":Str))&&!(x==("__classdict__":Str))
def lcB(N:List Str)(sc:Scope)(i:Nat)(x:Str):Bool:=decide (N[i]?=some x)&&Cf (sc.names.lookup x)
def Dx(N:List Str)(sc:Scope)(i:Nat)(x:Str):Bool:=decide (N[i]?=some x)&&decide (sc.names.lookup x=some .local)
def gbB(sc:Scope)(x:Str):Bool:=decide (sc.names.lookup x=some .globalImplicit)&&!(x==("__debug__":Str))
def uk{sc:Scope}{x:Str}(h:Co (sc.names.lookup x)=true):Vis sc x:=by
 unfold Co at h;split at h
 .rename_i e;exact .inl e
 .rename_i e;exact .inr (.inl e)
 .rename_i e;exact .inr (.inr e)
 .trivial
def vA{sc:Scope}{x:Str}(h:Cf (sc.names.lookup x)=true):Loc sc x:=by
 unfold Cf at h;split at h
 .rename_i e;exact .inl e
 .rename_i e;exact .inr e
 .trivial
structure Has (X:Cx)(N:List Str)(sc:Scope):Prop where
 n:X.N=N
 sc:X.env.scope=sc
 calm:X.calm=true
 nd:X.N.Nodup
def Has.nm{X:Cx}{N:List Str}{sc:Scope}{i:Nat}{x:Str}(h:Has X N sc)(b:nmB N sc i x=true):Nm X i x:=by
 unfold nmB at b;simp only[ZH,Zn,YB]at b;exact⟨by rw[h.n];exact b.1.1.1,by rw[h.sc];exact uk b.1.1.2,b.1.2,b.2⟩
def Has.lc{X:Cx}{N:List Str}{sc:Scope}{i:Nat}{x:Str}(h:Has X N sc)(hf:∀x,X.fn x=true)(b:lcB N sc i x=true):Lc X i x:=by
 unfold lcB at b;simp only[ZH,Zn]at b;exact⟨by rw[h.n];exact b.1,by rw[h.sc];exact vA b.2,.inl (hf x)⟩
def Has.lcl{X:Cx}{N:List Str}{sc:Scope}{i:Nat}{x:Str}(h:Has X N sc)(b:Dx N sc i x=true):Lc X i x:=by
 unfold Dx at b;simp only[ZH,Zn]at b;exact⟨by rw[h.n];exact b.1,by rw[h.sc];exact .inl b.2,.inr (by rw[h.sc];exact b.2)⟩
def Has.gb{X:Cx}{N:List Str}{sc:Scope}{x:Str}(h:Has X N sc)(b:gbB sc x=true):Gb X x:=by
 unfold gbB at b;simp only[ZH,Zn,YB]at b;refine⟨?_,b.2⟩
 unfold Gl Env.kindOf;rw[h.sc];exact b.1
noncomputable def CV(scope sc:Scope):Scope:=
 {scope with names:=scope.names.map fun(n,k)=>if(k==.free&&sc.kind==.function&&sc.names.lookup n==some .cell) then(n,.cell) else(n,k)}
def yg{scope sc:Scope}{env:Env}(h:env.scope=sc):relabel scope env=CV scope sc:=by subst h;rfl
def Has.comp{X:Cx}{N:List Str}{sc:Scope}(h:Has X N sc)(scope:Scope)(cl:List (Str×Z2))(C:Z2)(d_:Z4)(e_:Hp)(ex:List Z2)(pn:List (Z2×Obj)):Has (av X scope cl C d_ e_ ex pn) N (CV scope sc):=
 ⟨h.n,yg h.sc,h.calm,h.nd⟩
def CompScope.of'{X:Cx}{N:List Str}{sc scope:Scope}{bs:List Bool}(h:Has X N sc)(b:kF sc scope N bs=true):CompScope X scope bs:=jU h.sc h.n b
section
variable{X:Cx}{m m' mm:Bool}{a b e:Expr}{es:List Expr}{fa fb:DEnv->Z_ D}{fs:DEnv->Z_ (List D)}{pos p:Pos}{k:Nat}{x:Str}{f:List D->Z_ (D×Bool)}{i:Nat}
theorem nv(m:Bool)(n:Nm X i x):DE X m (.Name x pos) (rd m i):=Bn n.at' n.vis n.d1 n.d2
theorem pi{pos':Pos}(n:X.N.Nodup)(l:Lc X i x)(ha:DE X false a fa)(hs:swapsWith a (some (.Name x pos')) pos.line X.env=pure false:=by rfl):DS X (.Assign [.Name x pos'] a pos) (fun δ=>b0 i (fa δ) δ):=AN (i:=i) (x:=x) (pos:=pos) (pos':=pos') n ha l.at' l.loc hs l.fnl
theorem iN{pos':Pos}(n:X.N.Nodup)(l:Lc X i x)(ha:DF X a fa)(hs:swapsWith a (some (.Name x pos')) pos.line X.env=pure false:=by rfl):DS X (.Assign [.Name x pos'] a pos) (fun δ=>cQ i (fa δ) δ):=yD (i:=i) (x:=x) (pos:=pos) (pos':=pos') n ha l.at' l.loc hs l.fnl
theorem io(n:X.N.Nodup)(l:Lc X i x):DG X (.Name x pos) (aa i):=yX n l.at' l.loc l.fnl
theorem mx{px:Pos}(n:Nm X i x):DS X (.Return (some (.Name x px)) pos) (fun δ=>eF (bE i δ)):=yM (i:=i) (x:=x) (px:=px) (pos:=pos) n.at' n.vis n.d1 n.d2
theorem l8(F:FnM X.prog X.w X.K X.mg X.base k x f)(hr:Room k X.A)(g:Gb X x)(ha:DA X m (e::es) fs)(he:starEach (e::es) X.env=(false,eval e X.env)::starEach es X.env:=by rfl)
  (hpl:(backTo pos (starEach es X.env)).any (·.1)=false:=by rfl):DE X m (.Call (.Name x p) (e::es) [] pos) (fun δ=>shO (ae (fs δ) f)):=wV F hr g.gl ha g.d1 he hpl
theorem mv(F:FnM X.prog X.w X.K X.mg X.base k x f)(hr:Room k X.A)(g:Gb X x)(ha:DA X false (e::es) fs)(he:starEach (e::es) X.env=(false,eval e X.env)::starEach es X.env:=by rfl)
  (hpl:(backTo pos (starEach es X.env)).any (·.1)=false:=by rfl):DF X (.Call (.Name x p) (e::es) [] pos) (fun δ=>frO (ae (fs δ) f)):=xn (p:=p) F hr g.gl ha g.d1 he hpl
theorem iX(F:FnM X.prog X.w X.K X.mg X.base k x f)(hr:Room k X.A)(g:Gb X x)(ha:DA X true (e::es) fs)(he:starEach (e::es) X.env=(false,eval e X.env)::starEach es X.env:=by rfl)
  (hpl:(backTo pos (starEach es X.env)).any (·.1)=false:=by rfl):DF X (.Call (.Name x p) (e::es) [] pos) (fun δ=>flO (ae (fs δ) f)):=uM (p:=p) F hr g.gl ha g.d1 he hpl
theorem sx{p:Pos}(g:Gb X "len")(hm:X.mg "len"=none)(ha:DE X m a fa)(hs:starEach [a] X.env=[(false,eval a X.env)]:=by rfl):DE X mm (.Call (.Name "len" p) [a] [] pos) (fun δ=>iM (fa δ)):=Ao g.gl hm ha hs g.d1
variable{apos f_ px:Pos}
theorem gQ(n:Nm X i x)(ha:DE X false a fa)
  (n_:attributeBase (.Name x px) "append" X.env (eval (.Name x px) X.env)=eval (.Name x px) X.env:=by rfl)
  (D_:((backTo f_ (starEach [a] X.env)).all (fun x=>!x.1)&&(backToKw f_ (keywordEach [] X.env)).all (fun x=>x.1.isSome)&&decide (([a]).length+([]:List Keyword).length+(if([]:List Keyword).isEmpty then 0 else 1)<30))=true:=by rfl)
  (m_:(apos.endLine==f_.line)=true:=by rfl)(hs:starEach [a] X.env=(false,eval a X.env)::starEach [] X.env:=by rfl)
  (F9:swapsWith (.Call (.Attribute (.Name x px) "append" apos) [a] [] f_) none pos.line X.env=pure false:=by rfl):DS X (.Expr (.Call (.Attribute (.Name x px) "append" apos) [a] [] f_) pos) (fun δ=>iV i (fa δ) δ):=
 sf ha n.at' n.vis n_ D_ m_ hs n.d1 n.d2 F9
theorem ot(n:Nm X i x)(ha:DF X a fa)
  (n_:attributeBase (.Name x px) "extend" X.env (eval (.Name x px) X.env)=eval (.Name x px) X.env:=by rfl)
  (D_:((backTo f_ (starEach [a] X.env)).all (fun x=>!x.1)&&(backToKw f_ (keywordEach [] X.env)).all (fun x=>x.1.isSome)&&decide (([a]).length+([]:List Keyword).length+(if([]:List Keyword).isEmpty then 0 else 1)<30))=true:=by rfl)
  (m_:(apos.endLine==f_.line)=true:=by rfl)(hs:starEach [a] X.env=(false,eval a X.env)::starEach [] X.env:=by rfl)
  (F9:swapsWith (.Call (.Attribute (.Name x px) "extend" apos) [a] [] f_) none pos.line X.env=pure false:=by rfl):DS X (.Expr (.Call (.Attribute (.Name x px) "extend" apos) [a] [] f_) pos) (fun δ=>si i (fa δ) δ):=
 pq ha n.at' n.vis n_ D_ m_ hs n.d1 n.d2 F9
noncomputable def swB(sc scope:Scope)(t:Str)(l1 l2:Nat):Bool:=
 ((if sc.kind.isAnnotationScope then ScopeKind.function else sc.kind)==.function)&&sc.names.lookup t==some .local&&l1==l2&&!(scope.names.any fun(n,k)=>n==t&&(k==.local||k==.cell))
def cG{N:List Str}{sc scope:Scope}{c:Bool}{elt:Expr}{gens:List Comprehension}{pos':Pos}{l:Nat}(h:Has X N sc)(q:swB sc scope x pos'.line pos.line=c):
  swapsWith (.ListComp elt gens scope pos) (some (.Name x pos')) l X.env=pure c:=by
 subst q;unfold swB;rw[<-h.sc];rfl
variable{elt tg iter:Expr}{ifs:List Expr}{scope:Scope}{bo:Bool}{fi:DEnv->Z_ (List D)}{τ:D->DEnv->Z_ DEnv}{ft:DEnv->Z_ Bool}{fe:DEnv->Z_ D}{bs:List Bool}
def eY{y:Str}{N:List Str}{sc:Scope}(h:Has X N sc)(b:decide (sc.names.lookup y=some .local)=true):X.env.scope.names.lookup y=some .local:=by rw[h.sc];exact Zc b
theorem uT{y:Str}{py E7:Pos}{N:List Str}{sc:Scope}(h:Has X N sc)(l:Lc X i y)(F5:Anew τ)(hi:DI X false tg iter fi)(S:CompScope X scope bs)
  (hg:∀cl C d_ e_ ex pn,DG (av X scope cl C d_ e_ ex pn) tg τ) (ht:∀cl C d_ e_ ex pn,DTs (av X scope cl C d_ e_ ex pn) ifs ft) (he:∀cl C d_ e_ ex pn,DE (av X scope cl C d_ e_ ex pn) false elt fe)
  (b1:decide (sc.names.lookup y=some .local)=true) (b2:swB sc scope y py.line pos.line=true)
  (hs:∀x,foldedSetIterable iter X.env x=pure x:=by intro _;rfl):DS X (.Assign [.Name y py] (.ListComp elt [⟨tg,iter,ifs,0⟩] scope pos) E7) (fun δ=>cQ i (ar (ae (fi δ) (bW false bs τ ft fe δ))) δ):=
 yx h.nd h.calm F5 hi S hg ht he l.at' (eY h b1) (cG h b2) hs
theorem pv{y:Str}{py E7:Pos}{N:List Str}{sc:Scope}(h:Has X N sc)(l:Lc X i y)(F5:Anew τ)(hi:DI X true tg iter fi)(S:CompScope X scope bs)
  (hg:∀cl C d_ e_ ex pn,DG (av X scope cl C d_ e_ ex pn) tg τ) (ht:∀cl C d_ e_ ex pn,DTs (av X scope cl C d_ e_ ex pn) ifs ft) (he:∀cl C d_ e_ ex pn,DE (av X scope cl C d_ e_ ex pn) false elt fe)
  (b1:decide (sc.names.lookup y=some .local)=true) (b2:swB sc scope y py.line pos.line=true)
  (hs:∀x,foldedSetIterable iter X.env x=pure x:=by intro _;rfl):DS X (.Assign [.Name y py] (.ListComp elt [⟨tg,iter,ifs,0⟩] scope pos) E7) (fun δ=>cQ i (ar (cW (ae (fi δ) (bW true bs τ ft fe δ)))) δ):=
 uj h.nd h.calm F5 hi S hg ht he l.at' (eY h b1) (cG h b2) hs
end
def Bw{P:ZC}{w:Zo}{K:Z5}{mg:Str->Z_ Z7}{base:Heap}{f:Z2}{E5:Z7}{A:Zu}{outer:List Env}{s:Z4}{H:Hp}{E:XK}{N:List Str}{q:Str}{sc:Scope}(nd:N.Nodup):
  Has (kC CX0 P w K mg base N q sc f E5 A outer s H E).nox N sc:=⟨rfl,rfl,rfl,nd⟩
def spM_law{K:Z5}{H:Hp}{a:Z2}{ns:List Int}{f:List D->Z_ (D×Bool)}(hS:SqL K H a (ns.map V.int))(h:f [.lst (ns.map D.int)]=some (.bl true,false)):
  spM K f [.ref a] H (fun v _=>v=.bl true) fun _ _ _=>False:=by
 have hr:Reps K (fun b=>∃o:HOn,H b=some o.1) H (ns.map D.int) (ns.map V.int):=by
  clear hS h
  induction ns with
  |nil=>exact Reps.nil
  |cons n ns ih=>exact Reps.cons (by simp only[Rep]) ih
 refine⟨fun b=>∃o:HOn,H b=some o.1,[.lst (ns.map D.int)],.bl true,false,fun _ h=>h,Reps.cons ?_ Reps.nil,h,fun v H' _ r=>?_⟩
 .simp only[Rep]
  refine⟨a,_,rfl,?_,hr⟩
  rcases hS with(h1|⟨o,h1⟩)|h1
  .exact .inl ⟨⟨⟨_,rfl⟩,h1⟩,h1⟩
  .exact .inr (.inl ⟨o,h1⟩)
  .exact .inr (.inr h1)
 .unfold kB at r
  rw[ZY Zv]at r
  simpa only[Rep]using r
def n8{pos pos':Pos}{cv c:Z7}(l:List Z7)(ht:TriplesOk l)(h:codeAmong pos' (l++[rawInt pos.line,rawInt pos.col,c])=some cv):codeAmong pos' l=some cv\/cv=c:=by
 fun_induction TriplesOk l with
 |case1=>
  simp only[List.nil_append,rawInt,codeAmong]at h;split at h
  .obtain rfl:=Z9 h;exact .inr rfl
  .trivial
 |case2 a t b u x ao ih=>
  simp only[List.cons_append,codeAmong]at h⊢;split at h
  .rename_i hc;rw[Z0 hc];exact .inl h
  .rename_i hc;rw[ZY hc];exact ih ht h
 |case3 l h1 h2=>exact ht.elim
section
variable{X:Cx}{a_:List (Z2×Obj)}{σ:St}{H:Hp}{s:Z4}
def Inv.grow{P c':Z2}{lq:Str}{ps:Array Z7}{pos:Pos}{h':Heap}{t':Nat}(I:Inv X a_ σ H s)(hP:H P=some (.tbl lq ps))(hx:Heap.ExtBut P s.heap h')(Ko:s.heap.objs.size<=c')(ka:c'<h'.objs.size)(Jh:h'.CodeRec (.ref c') lq)
  (Gi:h'.get? P=some (PySem.W.tabObj (ps++#[rawInt pos.line,rawInt pos.col,.ref c']))):
  Inv X a_ σ (upd (upd H P (.tbl lq (ps++#[rawInt pos.line,rawInt pos.col,.ref c']))) c' (.own P)) {s with heap:=h',toks:=t'}/\
  Same H (upd (upd H P (.tbl lq (ps++#[rawInt pos.line,rawInt pos.col,.ref c']))) c' (.own P)):=by
 have hc:H c'=none:=I.hok.fresh Ko;have MF:P≠c':=fun z=>by rw[z,hc]at hP;trivial
 have up:∀b,b≠P->b≠c'->(upd (upd H P (.tbl lq (ps++#[rawInt pos.line,rawInt pos.col,.ref c']))) c' (.own P)) b=H b:=fun b h1 h2=>by rw[ai h2,ai h1]
 have LP:(upd (upd H P (.tbl lq (ps++#[rawInt pos.line,rawInt pos.col,.ref c']))) c' (.own P)) P=some (.tbl lq (ps++#[rawInt pos.line,rawInt pos.col,.ref c'])):=by rw[ai MF,ag]
 have nP:∀{b u},H b=some u->(∀l p,u≠.tbl l p)->b≠P:=fun{b u} e n z=>by rw[z,hP]at e;obtain rfl:=Z9 e;exact n _ _ rfl
 have nc:∀{b u},H b=some u->b≠c':=fun{b u} e z=>by rw[z,hc]at e;trivial
 have n0:∀{b},H b=none->b≠P:=fun{b} e z=>by rw[z,hP]at e;trivial
 obtain⟨K1,oc,vs,t,e2,Kh,hd,hv⟩:=Jh;cases e2;refine⟨I.un ⟨fun b o e n _ _=>hx b o (n0 n) e,fun b o e n _ _=>⟨o.slots,hx b o (n0 n) e⟩,fun b o e n _=>?_,fun b o e _=>?_,fun b xs e=>?_,fun b o u e=>?_,fun b l p e=>?_⟩ fun b u q=>?_,fun b o n e=>?_,fun b l p e=>?_⟩
 .rw[up b (n0 n) (Zw (ZA (ZO e) Ko))];exact n
 .by_cases hb:b=P
  .subst hb;exact⟨_,Gi⟩
  .exact⟨o,hx b o hb e⟩
 .rw[up b (nP e fun l p z=>by trivial) (nc e)];exact e
 .rw[up b (nP e fun l p z=>by trivial) (nc e)];exact e
 .by_cases hb:b=P
  .subst hb;rw[hP]at e;cases e;exact⟨_,LP⟩
  .exact⟨#[],by rw[up b hb (nc e),Array.append_empty];exact e⟩
 .by_cases OG:b=c'
  .subst OG;rw[ag]at q;obtain rfl:=Z9 q;exact⟨oc,Kh⟩
  .by_cases hb:b=P
   .subst hb
    rw[LP]at q;obtain rfl:=Z9 q;obtain⟨e1,tr,rc⟩:=I.hok b _ hP;refine⟨Gi,by rw[Zs];exact TriplesOk_snoc _ _ _ _ tr,fun pos' cv e=>?_⟩
    rw[Zs]at e
    rcases n8 _ tr e with e|e
    .obtain⟨c2,o2,v2,t2,z1,z2,z3,z4⟩:=rc pos' cv e
     have m1:=nP z2 fun l p z=>by trivial
     exact⟨c2,o2,v2,t2,z1,by rw[up c2 m1 (nc z2)];exact z2,hx _ _ m1 z3,z4⟩
    .subst e
     exact⟨c',oc,vs,t,rfl,ag,Kh,hd,hv⟩
   .rw[up b hb OG]at q
    refine(I.hok b u q).stay (fun d v hd r=>hx d v ?_ r) (fun d r=>by rw[up d (nP r fun l p z=>by trivial) (nc r)];exact r) fun d xs r=>by rw[up d (nP r fun l p z=>by trivial) (nc r)];exact r
    rcases hd with z|z
    .rw[z];exact hb
    .exact nP z fun l p z=>by trivial
 .rw[up b (nP e fun l p z=>by subst z;trivial) (nc e)];exact e
 .by_cases hb:b=P
  .subst hb;rw[hP]at e;cases e;exact⟨_,LP⟩
  .exact⟨#[],by rw[up b hb (nc e),Array.append_empty];exact e⟩
def vq{E:Z7->Z4->Prop}{c P:Z2}{lq:Str}{params:Arguments}{body:Expr}{scope:Scope}{pos:Pos}{Q:Z7->Z4->Prop}(I:Inv X a_ σ H s)(hP:(P,lq)∈Lams.tb)(hq:X.env.qual++"<lambda>"=lq)
  (hC:PySem.W.CodeHd X.base c P) (Fo:X.env.code=.ref c) (GZ:closureFor scope X.env=pure []) (Jk:defaultsOf params X.env=([],[]))
  (h:∀f c' pm Gm h' tk H' ps,Inv X ((f,PySem.W.kla_obj "<lambda>" lq params body scope [] pm c' Gm)::a_) σ H' {s with heap:=h',toks:=tk}->Same H H'->H' P=some (.tbl lq ps)->codeAmong pos ps.toList=some (.ref c')->
   Q (.ref f) {s with heap:=h',toks:=tk}):wpAny (model X.prog X.w) X.A (eval (.Lambda params body scope pos) X.env) Q E s:=by
 refine PySem.W.kla_eval Jk ?_
 rw[hq];obtain⟨ps,FJ⟩:=(I.ok.tabs.to I.base.tbls) (P,lq) hP;obtain⟨e1,tr,rc⟩:=I.hok P _ FJ;have hg:s.heap.Ns mainGlobals X.mg:=I.mod.glob.keeps I.bk;have QK:mainGlobals≠P:=fun z=>by
  obtain⟨o,es,ep,e,d,_⟩:=hg;rw[z,e1]at e;obtain rfl:=Z9 e;trivial
 obtain⟨bm,ob,b1,b2,b3,b4,b5,b6⟩:=I.mod.bmain;have JT:=I.bk _ _ b3;have OH:bm≠P:=fun z=>by rw[z,e1]at JT;obtain rfl:=Z9 JT;trivial
 have OJ:bm≠mainGlobals:=fun z=>by
  obtain⟨o,es,ep,e,d,_⟩:=hg;rw[z,e]at JT;obtain rfl:=Z9 JT;rw[d]at b6;trivial
 have fin:∀{H':Hp}{h1:Heap}{tk:Nat}{o:Obj},Inv X a_ σ H' {s with heap:=h1,toks:=tk}->(∀v,o.data≠.cell v)->o.isFreed=false->Inv X ((h1.objs.size,o)::a_) σ H' {s with heap:=h1.push o,toks:=tk}:=fun{H' h1 tk o} I1 Qt Qr=>by
  have I2:Inv X a_ σ H' {s with heap:=h1.push o,toks:=tk}:=I1.kept (h':=h1.push o) fun b u e=>Z6 _ e
  refine I2.pins_of fun p hp=>?_
  rcases ZX.mp hp with rfl|hp
  .exact⟨ZT _ Qr,I1.hok.fresh (ZU _),Nat.ne_of_gt I1.lt,I1.nofs (ZU _),Qt⟩
  .exact I2.pin p (ZI _ hp)
 cases hf:codeAmong pos ps.toList with
 |none=>
  refine PySem.W.kla_makeFunction (mg:=X.mg) GZ I.ok.glob hg Fo (hC.keeps I.bk) e1 tr hf QK ⟨bm,ob,b1,b2,OJ,OH,JT,b4,b5,b6⟩ fun c' Gm h' tk hx Ko ka Jh Gi=>?_
  obtain⟨I1,s1⟩:=I.grow (t':=tk) FJ hx Ko ka Jh Gi;have hc:H c'=none:=I.hok.fresh Ko;have MF:P≠c':=fun z=>by rw[z,hc]at FJ;trivial
  exact h _ c' _ Gm _ tk _ _ (fin I1 (fun v z=>by trivial) rfl) s1 (by rw[ai MF,ag]) (by rw[Zs];exact codeAmong_snoc _ tr hf)
 |some cv=>
  obtain⟨c',oc,vs,t,rfl,o1,o2,o3,o4⟩:=rc pos cv hf;refine PySem.W.kla_makeFunctionHit (mg:=X.mg) GZ I.ok.glob hg Fo (hC.keeps I.bk) e1 tr hf ⟨bm,ob,b1,b2,OJ,OH,JT,b4,b5,b6⟩ fun Gm h' tk hk hsz=>?_
  exact h _ c' _ Gm _ tk _ _ (fin (I.kept (h':=h') (t':=tk) hk) (fun v z=>by trivial) rfl) (Same.refl H) FJ hf
end
def yh{CX:CXT}{P:ZC}{w:Zo}{K:Z5}{mg:Str->Z_ Z7}{base:Heap}{k:Nat}{f c':Z2}{name qual:Str}{params:Arguments}{body:Expr}{scope:Scope}{pm Gm:Z7}{N ps:List Str}{A:Zu}{outer:List Env}{s:Z4}{H:Hp}
  {args:Args}{us:List Z7}{vs:List V}{Q:VK}{E:XK}(hr:Room (k+1) A) (e0:Env0 P w K mg base A outer s H) (hf:s.heap.get? f=some (PySem.W.kla_obj name qual params body scope [] pm c' Gm)) (hc:s.heap.CodeRec (.ref c') qual) (S:FnScope N ps scope)
  (hb:BindsTo s (PySem.W.kla_fn name qual params body scope [] pm (.ref c') Gm) args (ps.zip us)) (r:Vals vs us) (hl:vs.length=ps.length)
  (Fh:Room k (A.deeper (envOfC qual scope s.heap.objs.size f (.ref c')))->∃t,PE (kC CX P w K mg base N qual scope f (.ref c') A outer s H E) body t/\t (bM N vs) H Q):
  codeAny (model P w) A (.call (.ref f) args) (CR CX outer P w H s Q E) s:=by
 have lim:s.heap.NoLimit:=e0.mod.nolimit.keeps fun b o e=>(e0.bs b o e).1
 have Hy:∀y∈ps.zip us,scope.names.lookup y.1=some .local\/(scope.names.lookup y.1=some .cell/\((cellsFrom (s.heap.objs.size+1) scope.names []).lookup y.1).isSome=true):=fun⟨n,v⟩ hy=>by
  rcases S.par n (WW hy).1 with q|q
  .exact .inl q
  .exact .inr ⟨q,W6 _ _ _ (.inl q)⟩
 refine PySem.W.kla_callFunE hr.depth hf rfl S.co S.gen rfl hc (hb _ _ _ _ ?_)
 refine wpAny_newFunctionEnv_cells S.kind Hy fun env he s1 x=>?_
 subst he;refine⟨lim.keeps x.toInCall.keep,PySem.W.kla_codeExpr ?_⟩
 obtain⟨t,ht,hq⟩:=Fh (hr.deeper _);have I:Inv (kC CX P w K mg base N qual scope f (.ref c') A outer s H E) [] (bM N vs) H s1:=jH S hr.hd e0 hl r x;exact YV (ht [] s1 (bM N vs) H _ I hq) (fun u s' hz=>by obtain⟨v,H',J,rv,q⟩:=hz;exact⟨v,H',J.os,J.bare,J.base,J.hok,rv,q⟩) fun e s' hs=>hs
section
variable{X:Cx}{a_:List (Z2×Obj)}{σ:St}{H:Hp}{s:Z4}
def vh{k:Nat}{f c' P:Z2}{lq:Str}{LQ:Array Z7}{params:Arguments}{body:Expr}{scope:Scope}{pos:Pos}{pm Gm:Z7}{N ps:List Str}{us:List Z7}{vs:List V}{Q:VK}{A:Zu}{E:Z7->Z4->Prop}
  (I:Inv X a_ σ H s) (hA:Room (k+1) A) (hE:Env0 X.prog X.w X.K X.mg X.base X.A X.stack s H->Env0 X.prog X.w X.K X.mg X.base A X.stack s H) (hf:(f,PySem.W.kla_obj "<lambda>" lq params body scope [] pm c' Gm)∈a_) (hP:H P=some (.tbl lq LQ)) (ME:codeAmong pos LQ.toList=some (.ref c')) (S:FnScope N ps scope)
  (hb:BindsTo s (PySem.W.kla_fn "<lambda>" lq params body scope [] pm (.ref c') Gm) ⟨us,[]⟩ (ps.zip us)) (r:Vals vs us) (hl:vs.length=ps.length)
  (Fh:Room k (A.deeper (envOfC lq scope s.heap.objs.size f (.ref c')))->∃t,PE (kC CX0 X.prog X.w X.K X.mg X.base N lq scope f (.ref c') A X.stack s H (fun _ _ _=>False)) body t/\t (bM N vs) H Q):
  wpAny (model X.prog X.w) A (call (.ref f) us) (EP X a_ σ Q) E s:=by
 obtain⟨e1,tr,rc⟩:=I.hok P _ hP;obtain⟨c2,oc,Po,t2,z1,z2,z3,z4,z5⟩:=rc pos _ ME;cases z1;refine wpAny_call (Xe (yh (CX:=CX0) hA (hE I.env0) (I.pin _ (ZI _ hf)).1 ⟨c',oc,Po,t2,rfl,z3,z4,z5⟩ S hb r hl Fh) fun r s' hq=>?_)
 cases r with
 |error e=>exact False.elim hq
 |ok fl=>
  cases fl with
  |ret u=>exact I.after hq
  |next=>exact False.elim hq
  |brk=>exact False.elim hq
  |cont=>exact False.elim hq
end
section
variable{X:Cx}{a_:List (Z2×Obj)}{σ:St}{H:Hp}{s:Z4}
def Inv.track{a:Z2}{o:HO}(I:Inv X a_ σ H s)(f:fY X a_ H a)(hs:X.p_.heap.objs.size<=a)(new:ObjOk X.prog X.w (upd H a o) s.heap a o):Inv X a_ σ (upd H a o) s:=by
 have hn:=f.1;refine⟨I.ok,I.os,I.bare,⟨I.base.keep,I.base.slot,fun b ob e n hx=>?_,I.base.there,fun b xs e=>?_,fun b ob u e=>?_,fun b lq ps e=>?_⟩,I.loc,I.cell,?_,fun x c e=>?_,fun p hp=>?_,fun b u q=>?_,I.len⟩
 .rw[ai (Zw (ZA (ZO e) hs))];exact I.base.free b ob e n hx
 .have z:=I.base.tups b xs e;rw[ai (aq z hn)];exact z
 .have z:=I.base.frzs b ob u e;rw[ai (aq z hn)];exact z
 .obtain⟨m,z⟩:=I.base.tbls b lq ps e;exact⟨m,by rw[ai (aq z hn)];exact z⟩
 .rw[ai (Zy f.2.1)];exact I.free
 .rw[ai (f.2.2.2.2.1 x c e)];exact I.freeC x c e
 .obtain⟨p1,p2,p3⟩:=I.pin p hp;exact⟨p1,by rw[ai (f.2.2.2.2.2 p hp)];exact p2,p3⟩
 .by_cases hb:b=a
  .subst hb;rw[ag]at q;obtain rfl:=Z9 q;exact new
  .rw[ai hb]at q
   exact(I.hok b u q).stay (fun _ _ _ r=>r) (fun d r=>by rw[ai (aq r hn)];exact r) fun d xs r=>by rw[ai (aq r hn)];exact r
def xi(kA vs:Array Z7)(h:kA.size=vs.size):(kA.zip vs).map (·.2)=vs:=by
 apply Array.ext
 .simp[h]
 .intro i h1 h2;simp
noncomputable def fJ(h:Heap)(vs:List Z7):Heap:=Heap.push (Heap.update (h.push (seqObj "list" #[] 0)) h.objs.size (Obj.mapSeq (· ++vs.toArray))) (seqObj "list" vs.toArray 0)
def qE(h:Heap)(vs:List Z7):(Heap.update (h.push (seqObj "list" #[] 0)) h.objs.size (Obj.mapSeq (· ++vs.toArray))).objs.size=h.objs.size+1/\(fJ h vs).objs.size=h.objs.size+2/\
  (fJ h vs).get? (h.objs.size+1)=some (seqObj "list" vs.toArray 0)/\∀b o,h.get? b=some o->(fJ h vs).get? b=some o:=by
 have e:(Heap.update (h.push (seqObj "list" #[] 0)) h.objs.size (Obj.mapSeq (· ++vs.toArray))).objs.size=h.objs.size+1:=by
  rw[Heap.size_update,size_push']
 refine⟨e,by unfold fJ;rw[size_push',e],?_,fun b o q=>?_⟩
 .unfold fJ;rw[<-e];exact ZT _ rfl
 .exact Z6 _ ((Heap.get?_update_ne _ _ _ _ (Zw (ZO q))).trans (Z6 _ q))
end
section
variable{P:ZC}{w:Zo}{K:Z5}{mg:Str->Z_ Z7}{base:Heap}
def Fun.okC{x qual:Str}{st:Stmt}{f:Z2}{fd:FuncData}{N ps:List Str}{k:Nat}{sp:Sp}(F:Fun K x qual st f fd)(S:FnScope N ps (defScope st))(len:∀vs H Q E,sp vs H Q E->vs.length=ps.length)
  (Fh:∀(A:Zu)(outer:List Env)(s:Z4)(H:Hp)(vs:List V)(Q:VK)(E:XK),Room k (A.deeper (envOfC qual (defScope st) s.heap.objs.size f fd.code))->sp vs H Q E->
   ∃t,PSs (kC CX0 P w K mg base N qual (defScope st) f fd.code A outer s H E).nox (defBody st) t/\t {nx:=fun _ H'=>Q .non H',rt:=Q} (bM N vs) H):FnOk P w K mg base CX0 (k+1) f fd ps sp:=by
 obtain⟨oc,od,kV,doc,pm,an,E5,ct,IE,rfl,lk,Fo⟩:=F.ex;refine Aa lk Fo S len fun A outer s H vs Q E hr HH=>?_
 obtain⟨t,h,q⟩:=Fh A outer s H vs Q E hr HH;exact⟨t,h.nox,q⟩
def xT{x qual:Str}{st:Stmt}{f c:Z2}{fd:FuncData}{N ps:List Str}{k:Nat}{g:DEnv->Z_ Out}(F:Fun K x qual st f fd)(hc:fd.code=.ref c)(S:FnScope N ps (defScope st))(hb:Binds K fd ps [])(hm:mg x=some (.ref f))(hn:ps.length<=N.length)
  (body:∀(A:Zu)(outer:List Env)(s:Z4)(H:Hp)(E:XK),Room k (A.deeper (envOfC qual (defScope st) s.heap.objs.size f (.ref c)))->DSs (kC CX0 P w K mg base N qual (defScope st) f (.ref c) A outer s H E).nox (defBody st) g):
  FnOk P w K mg base CX0 (k+1) f fd ps (spM K (bG N.length ps.length g))/\FnM P w K mg base (k+1) x (bG N.length ps.length g):=by
 have key:FnOk P w K mg base CX0 (k+1) f fd ps (spM K (bG N.length ps.length g)):=by
  refine F.okC S (fun vs H Q E h=>?_) (fun A outer s H vs Q E hr h=>?_)
  .obtain⟨B,ds,r,fr,_,hr,hf,_⟩:=h
   unfold bG at hf
   by_cases q:ds.length=ps.length
   .rw[<-hr.length,q]
   .rw[ZY q]at hf;trivial
  .obtain⟨B,ds,r,fr,hB,Fb,hf,kk⟩:=h
   rw[hc]at hr⊢;refine⟨_,body A outer s H E hr,?_⟩
   unfold bG at hf
   by_cases q:ds.length=ps.length
   .rw[Z0 q]at hf
    have R:Rel K B H (bK N.length ds) (bM N vs) H:=eU hB Fb (by lia)
    cases qo:g (bK N.length ds)with
    |none=>rw[qo]at hf;trivial
    |some o=>
     rw[qo]at hf;refine⟨B,H,bK N.length ds,o,R,qo,?_⟩
     cases o with
     |ret d Rn=>
      simp only[oV,ZR,XM]at hf;obtain⟨rfl,rfl⟩:=hf;exact fun v H' x s rr=>kk v H' s rr
     |next δ=>
      simp only[oV,ZR,XM]at hf;obtain⟨rfl,rfl⟩:=hf;exact fun j_ H' x R'=>kk .non H' R'.same (by unfold kB;rw[ZY Zv];simp only[Rep])
     |brk δ=>simp only[oV]at hf;trivial
     |cont δ=>simp only[oV]at hf;trivial
   .rw[ZY q]at hf;trivial
 exact⟨key,⟨f,fd,ps,key,hm,F.kp,hb⟩⟩
end
end L2
namespace L2
open PySem PySem.Spec PyProof.Rows PySem.W
def zn{α:Type}(lt:Nat->Nat->Bool):KasT α->α
 |.ret a=>a
 |.ask i j k=>zn lt (k (lt i j))
noncomputable def yq(n:Nat):KasT (Array Nat)->Bool
 |.ret a=>a.toList.isPerm (List.range n)
 |.ask i j k=>decide (i<n)&&decide (j<n)&&(yq n (k true)&&yq n (k false))
theorem eW{n:Nat}(lt:Nat->Nat->Bool):∀t:KasT (Array Nat),yq n t=true->(zn lt t).toList.Perm (List.range n)
 |.ret a,h=>List.isPerm_iff.mp h
 |.ask i j k,h=>by
  simp only[yq,ZH]at h;unfold zn;cases lt i j with
  |true=>exact eW lt _ h.2.1
  |false=>exact eW lt _ h.2.2
theorem wp{n:Nat}{lt:Nat->Nat->Bool}{cmp:Nat->Nat->(Bool->Z4->Prop)->Z4->Prop}{Q:Array Nat->Z4->Prop}{s:Z4}(hc:∀i j C,i<n->j<n->C (lt i j) s->cmp i j C s):∀t:KasT (Array Nat),yq n t=true->Q (zn lt t) s->t.kasWp cmp Q s
 |.ret a,_,h=>h
 |.ask i j k,h,h'=>by
  simp only[yq,ZH,Zn]at h;refine hc i j _ h.1.1 h.1.2 (wp hc (k (lt i j)) ?_ h')
  cases lt i j with
  |true=>exact h.2.1
  |false=>exact h.2.2
def nL:∀{n:Nat},n<5->yq n (kas_sort n)=true
 |0,_=>by kernel_rfl
 |1,_=>by kernel_rfl
 |2,_=>by kernel_rfl
 |3,_=>by kernel_rfl
 |4,_=>by kernel_rfl
 |n+5,h=>absurd h (by lia)
end L2
namespace L2
open PySem PySem.Spec PyProof.Rows PySem.W
variable[Lams]
def ltK(ks:List Int)(i j:Nat):Bool:=decide (ks.getD i 0<ks.getD j 0)
def hZ(ks:List Int):List Nat:=if ks.length<2 then List.range ks.length else(zn (ltK ks) (kas_sort ks.length)).toList
def fA{ks:List Int}(h:ks.length<5):(hZ ks).Perm (List.range ks.length):=by
 unfold hZ;split
 .exact YX _
 .exact eW _ _ (nL h)
def bd(vs:List Z7)(p:List Nat):List Z7:=p.map fun i=>vs.getD i Value.none
section
variable{X:Cx}{a_:List (Z2×Obj)}{σ:St}{H:Hp}{s:Z4}
theorem bQ{pos:Pos}{c:Z7}(m:List Z7):∀(l:List Z7),codeAmong pos l=some c->codeAmong pos (l++m)=some c
 |.int line t::.int col u::x::ao,h=>by
  simp only[List.cons_append,codeAmong]at h⊢;split at h
  .rename_i q;rw[Z0 q];exact h
  .rename_i q;rw[ZY q];exact bQ m ao h
 |[],h=>by simp[codeAmong]at h
 |[_],h=>by simp[codeAmong]at h
 |[_,_],h=>by simp[codeAmong]at h
 |a::b::x::ao,h=>by
  unfold codeAmong at h;split at h
  .rename_i q;cases q;show codeAmong pos (_::_::_::(ao++m))=_
   unfold codeAmong;split at h
   .rename_i q;rw[Z0 q];exact h
   .rename_i q;rw[ZY q];exact bQ m ao h
  .trivial
theorem cm:∀{us:List Z7}{ks:List Int}{i:Nat},IntsAre us ks->i<us.length->∃t,us.getD i Value.none=.int (ks.getD i 0) t
 |_,_,i,.nil,h=>by simp at h
 |_,_,0,.cons n t h,_=>⟨t,rfl⟩
 |_,_,i+1,.cons n t h,hi=>by simpa using cm (i:=i) h (by simpa using hi)
def pW{A:Zu}{E:Z7->Z4->Prop}{kS D:Z2}{kA:Array Z7}{e e1:Nat}{vs:List Z7}{ks:List Int}{P:PySem.Fin->Z4->Prop}(J:Inv X ((kS,seqObj "list" kA e)::(D,seqObj "list" #[] e1)::a_) σ H s)
  (fk:fY X a_ H kS) (fD:fY X a_ H D) (sk:X.p_.heap.objs.size<=kS) (sD:X.p_.heap.objs.size<=D) (LD:kS≠D) (hk:IntsAre kA.toList ks) (hl:vs.length=ks.length) (HL:vs.length<5) {ys:List V}(rv:Vals ys (bd vs (hZ ks)))
  (h:∀h' tk,Inv X a_ σ (upd H D (.lst ys)) {s with heap:=h',toks:=tk}->P (.done (.ret .none)) {s with heap:=h',toks:=tk}):
  wpAny (model X.prog X.w) A (ksk_end D false vs.toArray e1 (.ref kS) kA) P E s:=by
 have nk:=J.pin (kS,seqObj "list" kA e) (ZI _ (.head _));have nD:=J.pin (D,seqObj "list" #[] e1) (ZI _ (.tail _ (.head _)));have hz:(64:Nat)<=sizeLine:=by rw[XO];lia
 have Iq:kA.size=vs.length:=by have:=hk.length;rw[Array.length_toList]at this;lia
 have I0:Inv X a_ σ H s:=J.pins_of fun p hp=>J.pin p (ZI _ (.tail _ (.tail _ hp)))
 have s1:=Zb s.heap kS (Obj.mapSeq fun _=>(#[]:Array Z7))
 have Ma:(s.heap.update kS (Obj.mapSeq fun _=>(#[]:Array Z7))).get? D=some (seqObj "list" #[] e1):=(s1.2 D (Zy LD)).trans nD.1
 have Br:(bd vs (hZ ks)).length=vs.length:=by unfold bd;rw[ZJ,(fA (ks:=ks) (by lia)).length_eq,XD];lia
 have tail:∀st:SortSt,(arrOf st).map (·.2)=(bd vs (hZ ks)).toArray->failedOf st=none->wpAny (model X.prog X.w) A (ksk_tail D false e1 (.ref kS) st) P E s:=by
  intro st es hf;unfold ksk_tail
  try dsimp only
  refine Z8 (Xq nk.1 rfl ?_ (by rw[Iq];lia) (Zt _))
  refine Z8 (wpAny_letGo ?_)
  refine Z8 (seqEpoch_at Ma rfl ?_)
  rw[es,hf];refine Z8 (Xq Ma rfl ?_ (Zt _) (by simp only[ZK,Za];rw[ZQ,Br];lia))
  simp only[bne_self_eq_false,ZK,Za];refine Z3 (h _ s.toks ?_)
  have I1:Inv X a_ σ H {s with heap:=s.heap.update kS (Obj.mapSeq fun _=>(#[]:Array Z7)),toks:=s.toks}:=I0.turned (it:=kS) (fun b o hb q=>(s1.2 b hb).trans q) fk.1 fk.2.1 (.inr sk) fk.2.2.2.2.1 fk.2.2.2.2.2
  have s2:=Zb (s.heap.update kS (Obj.mapSeq fun _=>(#[]:Array Z7))) D (Obj.mapSeq fun _=>(bd vs (hZ ks)).toArray)
  have I2:Inv X a_ σ H {s with heap:=(s.heap.update kS (Obj.mapSeq fun _=>(#[]:Array Z7))).update D (Obj.mapSeq fun _=>(bd vs (hZ ks)).toArray),toks:=s.toks}:=Inv.turned (s:={s with heap:=s.heap.update kS (Obj.mapSeq fun _=>(#[]:Array Z7)),toks:=s.toks}) (it:=D) I1 (fun b o hb q=>(s2.2 b hb).trans q) fD.1 fD.2.1 (.inr sD) fD.2.2.2.2.1 fD.2.2.2.2.2
  exact I2.track fD sD ⟨by rw[rv.length,Br];lia,_,_,rv,WX Ma fun _=>(bd vs (hZ ks)).toArray⟩
 unfold ksk_end
 try dsimp only
 simp only[ZK,Za]
 by_cases h2:vs.toArray.size<2
 .rw[Z0 h2,Z0 h2]
  refine Z8 (Z3 ?_)
  rw[StateT.run_pure];refine Z8 (Z3 ?_)
  try dsimp only
  refine tail _ ?_ rfl
  rw[ZQ]at h2;have e0:(arrOf (SortSt.mk' general' (kA.zip vs.toArray) #[] 7 none)).map (·.2)=vs.toArray:=xi kA vs.toArray (by rw[Iq,ZQ])
  rw[e0];unfold hZ;rw[Z0 (by lia),<-hl]
  clear tail h rv Br e0 J
  match vs,h2 with
  |[],_=>simp[bd]
  |[v],_=>simp[bd,List.range_succ]
 .rw[ZY h2,ZY h2]
  rw[ZQ]at h2;have GD:2<=vs.length:=by lia
  have IL:keyKind' kA=pure oneType':=by
   have e0:kA=kA.toList.toArray:=by simp
   rw[e0];have lk:2<=kA.toList.length:=by rw[Array.length_toList];lia
   generalize kA.toList=us at hk lk
   match us,hk,lk with
   |v1::v2::r,hk,_=>exact keyKind_ints hk
  rw[IL];refine Z8 (Z3 ?_)
  have Py:=nL HL;have Ov:kA.toList.length=vs.length:=by rw[Array.length_toList];exact Iq
  have run:=kat_run (prog:=X.prog) (w:=X.w) (A:=A) (E:=E) (s:=s) (κ:=oneType') (vs:=vs) (ks:=kA.toList) (Q:=fun g_ s'=>s'=s/\(arrOf g_).map (·.2)=(bd vs (hZ ks)).toArray/\failedOf g_=none)
   (G:=fun p s'=>s'=s/\p=zn (ltK ks) (kas_sort vs.length)) Ov GD (by lia) (fun p g_ s' hp MH hf ⟨e1,e2⟩=>⟨e1,by
    rw[kat_snds Ov MH,e2];unfold hZ bd;rw[ZY (by lia),<-hl],hf⟩)
   (wp (fun i j C hi hj hC=>by
    obtain⟨t1,q1⟩:=cm hk (i:=i) (by lia)
    obtain⟨t2,q2⟩:=cm hk (i:=j) (by lia)
    unfold kas_ask;rw[q1,q2,keyLt'_oneType];exact oneLt_int hC) _ Py ⟨rfl,rfl⟩)
  have ez:kA.toList.toArray.zip vs.toArray=kA.zip vs.toArray:=by simp
  rw[ez]at run;refine Z8 (YV run ?_ fun _ _ e=>e)
  rintro⟨⟨⟩,g_⟩ s' ⟨rfl,MH,hf⟩
  exact tail g_ MH hf
def lh{A:Zu}{E:Z7->Z4->Prop}{l f:Z2}{vs:List Z7}{xs ys:List V}{ks:List Int}{Q:Z7->Z4->Prop}{T:Hp->Prop}(I:Inv X a_ σ H s)(hl:s.heap.IsList l vs.toArray)(rv:Vals xs vs)(HL:vs.length<5)(Iq:vs.length=ks.length)(t0:T H)
  (turn:∀(Fg:List (Z2×Obj))(s':Z4)(H':Hp)(i:Nat)(u:Z7)(v:V)(k:Int),vs[i]?=some u->xs[i]?=some v->ks[i]?=some k->(∀p∈a_,p∈Fg)->T H'->Inv X Fg σ H' s'->wpAny (model X.prog X.w) A.in1.in1 (call (.ref f) [u]) (EP X Fg σ fun y GG=>y=V.int k/\T GG) (fun _ _=>False) s')
  (Mf:Vals ys (bd vs (hZ ks)))
  (h:∀D H' s',Inv X a_ σ (upd H' D (.lst ys)) s'->T H'->H' D=none->Q (.ref D) s'):
  wpAny (model X.prog X.w) A (call (.builtin "sorted") [.ref l] [(Str.ofString "key",.ref f)]) Q E s:=by
 have hz:(64:Nat)<=sizeLine:=by rw[XO];lia
 refine call_function_entry_kw kind_sorted plain_sorted entry_sorted (ksk_s1 _ _) ?_
 unfold Builtin.«sorted»;refine Z8 (m:=checkCount "sorted" 1 1 _) (Z3 ?_)
 refine Z8 (collect_list hl ?_ (by lia))
 refine Z8 (WR ?_ (by lia))
 obtain⟨n1,n2,n3,n4⟩:=qE s.heap vs;rw[n1];show wpAny _ _ _ _ _ {s with heap:=fJ s.heap vs}
 generalize fJ s.heap vs=g at n2 n3 n4⊢;have II:=n3;have keep:=n4;have QJ:g.objs.size=s.heap.objs.size+2:=n2;generalize hD:s.heap.objs.size+1=D at II⊢;have LL:s.heap.objs.size<=D:=by lia
 refine Z8 (YQ (wpAny_call_entry_kw slot_list_sort ⟨_,II,rfl⟩ entry_list_sort ?body (ksk_l1 _ _)));show wpAny (model X.prog X.w) A.in1.in1 (Builtin.«list.sort» ⟨[.ref D],[(Str.ofString "key",.ref f)]⟩) _ _ _;rw[ksk_t1];have s1:=Zb g D (Obj.mapSeq fun _=>(#[]:Array Z7))
 obtain⟨e1,IJ⟩:∃e1,(g.update D (Obj.mapSeq fun _=>(#[]:Array Z7))).get? D=some (seqObj "list" #[] e1):=⟨_,WX II fun _=>#[]⟩
 unfold ksk_tree;refine Z8 (Wx II rfl ?_)
 refine Z8 (Xq II rfl ?_ (by rw[ZQ];lia) (Zt _))
 refine Z8 (seqEpoch_at IJ rfl ?_)
 refine Z8 (wpAny_newTuple ?_ (by show vs.length<=_;lia))
 refine Z8 (WR ?_ (Zt _))
 refine YQ ?_
 have QL:(g.update D (Obj.mapSeq fun _=>(#[]:Array Z7))).objs.size=s.heap.objs.size+2:=by rw[Heap.size_update,QJ]
 have QC:((g.update D (Obj.mapSeq fun _=>(#[]:Array Z7))).push (seqObj "tuple" vs.toArray 0)).objs.size=s.heap.objs.size+3:=by rw[size_push',QL]
 generalize QB:((g.update D (Obj.mapSeq fun _=>(#[]:Array Z7))).push (seqObj "tuple" vs.toArray 0)).objs.size=kS at QC
 have gk:(((g.update D (Obj.mapSeq fun _=>(#[]:Array Z7))).push (seqObj "tuple" vs.toArray 0)).push (seqObj "list" #[] 0)).get? kS=some (seqObj "list" #[] 0):=by rw[<-QB];exact ZT _ rfl
 have gD:(((g.update D (Obj.mapSeq fun _=>(#[]:Array Z7))).push (seqObj "tuple" vs.toArray 0)).push (seqObj "list" #[] 0)).get? D=some (seqObj "list" #[] e1):=Z6 _ (Z6 _ IJ)
 have Gu:∀b o,s.heap.get? b=some o->(((g.update D (Obj.mapSeq fun _=>(#[]:Array Z7))).push (seqObj "tuple" vs.toArray 0)).push (seqObj "list" #[] 0)).get? b=some o:=fun b o q=>
  Z6 _ (Z6 _ ((s1.2 b (Zw (ZA (ZO q) LL))).trans (keep b o q)))
 generalize Ss:((g.update D (Obj.mapSeq fun _=>(#[]:Array Z7))).push (seqObj "tuple" vs.toArray 0)).push (seqObj "list" #[] 0)=g2 at gk gD Gu
 have fk:fY X a_ H kS:=I.fpOk (by lia) (I.hok.fresh (by lia))
 have fD:fY X a_ H D:=I.fpOk LL (I.hok.fresh LL);have sk:X.p_.heap.objs.size<=kS:=Zh I.sz (by lia)
 have sD:X.p_.heap.objs.size<=D:=Zh I.sz LL;have LD:kS≠D:=by lia
 have I1:Inv X a_ σ H {s with heap:=g2,toks:=s.toks}:=I.kept (h':=g2) Gu
 have I2:Inv X ((kS,seqObj "list" #[] 0)::(D,seqObj "list" #[] e1)::a_) σ H {s with heap:=g2,toks:=s.toks}:=I1.pins_of fun p hp=>by
  rcases ZX.mp hp with rfl|hp
  .exact⟨gk,fk.1,fk.2.1,fk.2.2.1,fun v z=>by cases z⟩
  .rcases ZX.mp hp with rfl|hp
   .exact⟨gD,fD.1,fD.2.1,fD.2.2.1,fun v z=>by cases z⟩
   .exact I1.pin p (ZI _ hp)
 show wpAny (model X.prog X.w) A.in1.in1 (ksk_rest D (.ref f) false vs.toArray e1 _) _ _ {s with heap:=_,toks:=s.toks}
 unfold ksk_rest;refine Z8 (YW ?_)
 rw[List.forIn_toArray];have hP:∀h' tk H',Inv X a_ σ (upd H' D (.lst ys)) {s with heap:=h',toks:=tk}->True:=fun _ _ _ _=>trivial
 refine Z8 (Xn _
  (fun ao _ s'=>∃(i:Nat)(kA:Array Z7)(c:Nat)(H':Hp),ao=vs.drop i/\i<=vs.length/\IntsAre kA.toList (ks.take i)/\T H'/\fY X a_ H' kS/\fY X a_ H' D/\Inv X ((kS,seqObj "list" kA c)::(D,seqObj "list" #[] e1)::a_) σ H' s') _ ?step ?fin _ _ ⟨0,#[],0,H,by simp,Zt _,by simpa using IntsAre.nil,t0,fk,fD,I2⟩)
 case step=>
  rintro u ao b s' ⟨i,kA,c,H',hr,hi,Kl,tH,OV,MO,J⟩
  have ka:i<vs.length:=by
   rcases Nat.lt_or_ge i vs.length with q|q
   .exact q
   .rw[List.drop_eq_nil_of_le q]at hr;trivial
  rw[Zf ka]at hr;obtain⟨rfl,rfl⟩:=List.cons.inj hr;have hu:vs[i]?=some vs[i]:=by simp[ka]
  obtain⟨v,hv⟩:∃v,xs[i]?=some v:=⟨xs[i]'(by rw[rv.length];exact ka),by simp[rv.length,ka]⟩
  have Ou:i<ks.length:=by lia
  refine Z8 (XT (YV (turn _ s' H' i vs[i] v ks[i] hu hv (by simp[Ou]) (fun p hp=>.tail _ (.tail _ hp)) tH J) (fun y Gx he=>?_) fun _ _ hF=>hF.elim))
  obtain⟨yv,GG,J',ry,rfl,Pw⟩:=he;obtain⟨t,rfl⟩:=ry;have nk:=J'.pin (kS,seqObj "list" kA c) (ZI _ (.head _));have nD:=J'.pin (D,seqObj "list" #[] e1) (ZI _ (.tail _ (.head _)));have F0:fY X a_ GG kS:=⟨nk.2.1,fk.2⟩;have Il:fY X a_ GG D:=⟨nD.2.1,fD.2⟩;have J0:Inv X a_ σ GG Gx:=J'.pins_of fun p hp=>J'.pin p (ZI _ (.tail _ (.tail _ hp)))
  have s3:=Zb Gx.heap kS (Obj.mapSeq (·.push (.int ks[i] t)))
  obtain⟨c2,HJ⟩:∃c2,(Gx.heap.update kS (Obj.mapSeq (·.push (.int ks[i] t)))).get? kS=some (seqObj "list" (kA.push (.int ks[i] t)) c2):=⟨_,WX nk.1 (·.push (.int ks[i] t))⟩
  have J1:Inv X a_ σ GG {Gx with heap:=Gx.heap.update kS (Obj.mapSeq (·.push (.int ks[i] t))),toks:=Gx.toks}:=J0.turned (it:=kS) (fun b o hb q=>(s3.2 b hb).trans q) F0.1 F0.2.1 (.inr sk) F0.2.2.2.2.1 F0.2.2.2.2.2
  have J2:Inv X ((kS,seqObj "list" (kA.push (.int ks[i] t)) c2)::(D,seqObj "list" #[] e1)::a_) σ GG {Gx with heap:=Gx.heap.update kS (Obj.mapSeq (·.push (.int ks[i] t))),toks:=Gx.toks}:=J1.pins_of fun p hp=>by
   rcases ZX.mp hp with rfl|hp
   .exact⟨HJ,F0.1,F0.2.1,F0.2.2.1,fun v z=>by cases z⟩
   .rcases ZX.mp hp with rfl|hp
    .exact⟨(s3.2 D (Zy LD)).trans nD.1,Il.1,Il.2.1,Il.2.2.1,fun v z=>by cases z⟩
    .exact J1.pin p (ZI _ hp)
  have hsz:kA.size=i:=by have:=Kl.length;rw[Array.length_toList,Xx]at this;lia
  refine Z8 (Xq nk.1 rfl ?_ (by rw[hsz];lia) (by show(kA.push _).size<=_;rw[Array.size_push,hsz];lia))
  refine Z3 ⟨i+1,kA.push (.int ks[i] t),c2,GG,rfl,ka,?_,Pw,F0,Il,J2⟩
  rw[Yw,List.take_succ_eq_append_getElem Ou];exact Kl.append (.cons _ _ .nil)
 case fin=>
  rintro b s' ⟨i,kA,c,H',hr,hi,Kl,tH,OV,MO,J⟩
  have G4:i=vs.length:=by
   rcases Nat.lt_or_ge i vs.length with q|q
   .rw[Zf q]at hr;trivial
   .lia
  subst G4;have nk:=J.pin (kS,seqObj "list" kA c) (ZI _ (.head _));refine Z8 (Wx nk.1 rfl ?_)
  rw[Iq,List.take_length]at Kl;exact pW J OV MO sk sD LD Kl Iq HL Mf fun h' tk J3=>⟨_,rfl,Z3 ⟨_,rfl,h D H' _ J3 tH MO.1⟩⟩
end
def gf(fk:D->Z_ D):List D->Z_ (List Int)
 |[]=>some []
 |d::ds=>match fk d,gf fk ds with|some (.int i),some l=>some (i::l)|_,_=>none
theorem kh{fk:D->Z_ D}:∀{ds:List D}{ks:List Int},gf fk ds=some ks->ds.length=ks.length
 |[],ks,h=>by simp only[gf,ZR]at h;subst h;rfl
 |d::ds,ks,h=>by
  simp only[gf]at h;split at h
  .rename_i i l q1 q2
   obtain rfl:=Z9 h;simp[kh q2]
  .trivial
theorem jr{fk:D->Z_ D}:∀{ds:List D}{ks:List Int}{i:Nat}{d:D}{k:Int},gf fk ds=some ks->ds[i]?=some d->ks[i]?=some k->fk d=some (.int k)
 |[],ks,i,d,k,h,hd,hk=>by simp at hd
 |d'::ds,ks,i,d,k,h,hd,hk=>by
  simp only[gf]at h;split at h
  .rename_i i' l q1 q2
   obtain rfl:=Z9 h;cases i with
   |zero=>simp at hd hk;subst hd;subst hk;exact q1
   |succ i=>simp at hd hk;exact jr q2 hd hk
  .trivial
def ny(ds:List D)(ks:List Int):List D:=(hZ ks).map fun i=>ds.getD i .non
noncomputable def gy(x:Z_ D)(fk:D->Z_ D):Z_ D:=match x with
 |some (.lst ds)=>if ds.length<5 then(match gf fk ds with|some ks=>some (.lst (ny ds ks))|none=>none) else none
 |_=>none
def lK{x:Z_ D}{fk:D->Z_ D}{d:D}(h:gy x fk=some d):∃ds ks,x=some (.lst ds)/\ds.length<5/\gf fk ds=some ks/\d=.lst (ny ds ks):=by
 unfold gy at h;split at h
 .rename_i ds
  split at h
  .rename_i hl
   split at h
   .rename_i ks q;obtain rfl:=Z9 h;exact⟨ds,ks,rfl,hl,q,rfl⟩
   .trivial
  .trivial
 .trivial
theorem Reps.order{K:Z5}{B:Z2->Prop}{H:Hp}{ds:List D}{xs:List V}(r:Reps K B H ds xs):∀(p:List Nat),(∀i∈p,i<ds.length)->Reps K B H (p.map fun i=>ds.getD i .non) (p.map fun i=>xs.getD i .non)
 |[],_=>Reps.nil
 |i::p,h=>by
  have hi:=h i (ZV ..);have hd:ds[i]?=some ds[i]:=by simp[hi]
  obtain⟨x,hx,rx⟩:=r.get hd;refine Reps.cons ?_ (Reps.order r p fun j hj=>h j (ZZ _ hj))
  dsimp only;rw[YO,YO,hd,hx]
  exact rx
theorem Vals.order{xs:List V}{us:List Z7}(r:Vals xs us):∀(p:List Nat),(∀i∈p,i<xs.length)->Vals (p.map fun i=>xs.getD i .non) (bd us p)
 |[],_=>.nil
 |i::p,h=>by
  have hi:=h i (ZV ..);have hx:xs[i]?=some xs[i]:=by simp[hi]
  obtain⟨u,hu,ru⟩:=r.get hx;refine .cons ?_ (Vals.order r p fun j hj=>h j (ZZ _ hj))
  dsimp only;rw[YO,YO,hx,hu]
  exact ru
section
variable{X:Cx}{a Gs:Expr}{fa fb:DEnv->Z_ D}{params:Arguments}{E8:Scope}{KS kp pos p:Pos}{c P:Z2}{lq x:Str}{k:Nat}
theorem kX(hr:Room (k+3) X.A)(g:Gl X "sorted")(hm:X.mg "sorted"=none)(hP:(P,lq)∈Lams.tb)(hq:X.env.qual++"<lambda>"=lq)(hC:PySem.W.CodeHd X.base c P)(Fo:X.env.code=.ref c)(GZ:closureFor E8 X.env=pure [])(Jk:defaultsOf params X.env=([],[]))
  (S:FnScope [x] [x] E8) (Hz:∀(s:Z4)(u pm Gm:Z7)(c':Z2),BindsTo s (PySem.W.kla_fn "<lambda>" lq params Gs E8 [] pm (.ref c') Gm) ⟨[u],[]⟩ [(x,u)])
  (hb:∀(f c':Z2)(A:Zu)(s:Z4)(H:Hp),Room k (A.deeper (envOfC lq E8 s.heap.objs.size f (.ref c')))->DE (kC CX0 X.prog X.w X.K X.mg X.base [x] lq E8 f (.ref c') A X.stack s H (fun _ _ _=>False)).nox false Gs fb)
  (ha:DE X false a fa)(hs:starEach [a] X.env=(false,eval a X.env)::starEach [] X.env:=by rfl):
  DF X (.Call (.Name "sorted" p) [a] [⟨some "key",.Lambda params Gs E8 KS,kp⟩] pos) (fun δ=>gy (fa δ) fun d=>fb [some (d,false)]):=by
 intro a_ s σ H Q I Qm;obtain⟨B,Hk,δ,d,R,e,kk⟩:=Qm;obtain⟨ds,ks,LH,hlen,v_,rfl⟩:=lK e;refine XB (d6 I g hm dC ?_ (by decide) (by decide))
 refine callWith_kw (thn ((aw ha aO hs) pos a_ s σ H (fun vs H1=>∃v,vs=[v]/\Same H H1/\Rep X.K B H1 (.lst ds) v) I ⟨B,Hk,δ,_,R,LH,fun v H1 s1 r1=>⟨v,rfl,s1,r1⟩⟩) fun us s1 ⟨vs,H1,I1,r1,v,hv,sm,rp⟩=>?_) ?_ ?_ rfl rfl
 .subst hv
  obtain⟨u,rfl,ru⟩:=gd r1;show wpAny _ _ (evalAll [do let v <-eval (.Lambda params Gs E8 KS) X.env;standAt pos;pure v]) _ _ _
  unfold evalAll;refine Z8 (Z8 (vq I1 hP hq hC Fo GZ Jk fun f c' pm Gm h' tk H2 LQ I2 Io Q9 ME=>Z8 (wpAny_standAt (Z3 ?_))))
  unfold evalAll;refine Z8 (YQ (Z3 (Z3 ?_)))
  have R1:Rel X.K B Hk δ σ H1:=R.to sm;have JG:Rep X.K B H2 (.lst ds) v:=rp.ext (Io.ext R1.borH);simp only[Rep]at JG;obtain⟨l,xs,rfl,Ib,rs⟩:=JG;cases ru;obtain⟨its,hv,hp,hz⟩:=I2.list Ib.sq;have l1:=rs.length;have l2:=hv.length;have l3:=kh v_;have hpl:∀i∈hZ ks,i<ds.length:=fun i hi=>by
   have:=(fA (ks:=ks) (by lia)).mem_iff.mp hi
   rw[Yx]at this;lia
  show wpAny (model X.prog X.w) X.A (call (.builtin "sorted") [.ref l] [(Str.ofString "key",.ref f)]) _ _ _;have R2:Rel X.K B Hk δ σ H2:=R1.to Io;refine lh (ks:=ks) (T:=fun H'=>Same H2 H') I2 (let ⟨o,n,ho,hc,_,hd⟩:=hp;⟨o,ho,hc,n,hd⟩) hv (by lia) (by lia) (Same.refl H2) (fun Fg s' H' i u' v' k' e1 e2 e3 sub tH I'=>?_) (hv.order (hZ ks) fun i hi=>by have:=hpl i hi;lia) fun D H' s' J tH hD=>?_
  .have hi:i<ds.length:=by have:=(ZW.mp e2).1;lia
   have hd:ds[i]?=some ds[i]:=by simp[hi]
   obtain⟨y,hy,ry⟩:=rs.get hd;rw[e2]at hy;obtain rfl:=Z9 hy;obtain⟨w',hw,A_⟩:=hv.get e2;rw[e1]at hw;obtain rfl:=Z9 hw;have w_:=jr v_ hd e3;have bo:∀a,B a->∃o:HOn,H' a=some o.1:=(R2.to tH).borH;obtain⟨more,Q8⟩:=tH.tbl _ _ _ Q9;refine vh I' hr.in1.in1 (fun e=>e.in1.in1) (sub _ (.head _)) Q8 (by rw[Zs];exact bQ _ _ ME) S (Hz _ _ _ _ _) (.cons A_ .nil) rfl fun hR=>⟨_,(hb f c' _ _ _ hR).nox,B,H',[some (ds[i],false)],.int k',eU (N:=[x]) (ds:=[ds[i]]) bo (Reps.cons (ry.ext (R2.ext tH)) Reps.nil) (ZU _),w_,fun v GG s r=>⟨?_,tH.trans s⟩⟩
   simp only[Rep]at r;exact r
  .have tD:H D=none:=(sm.trans (Io.trans tH)).free hD
   refine⟨.ref D,_,J.pins_of fun p hp=>J.pin p (ZI _ (.tail _ hp)),rfl,kk D _ ((sm.trans (Io.trans tH)).trans (au hD)) tD ⟨_,ag,(rs.order (hZ ks) hpl).ext ((R2.ext tH).trans ((R2.to tH).ext (au hD)))⟩⟩
 .rw[hs];rfl
 .rw[hs];rfl
end
end L2
namespace L2
open PySem PySem.Spec PyProof.Rows
variable[Lams]
section
open PySem.SeqAt
open PySem.AutoSeq1 (wpAny_loadPart')
open PySem.MeetsSeq PySem.MeetsSeq2 PySem.MeetsSeq3
def pE(l b:Z2)(v w:Z7)(vs ws:List Z7)(n n2:Nat)(dd G_:Z_ Z2)(sl G3:Array (Z_ Z7)):
  Meets (Builtin.«tuple.__eq__» ⟨[.ref l,.ref b],[]⟩)
   (fun A R s=>s.heap.get? l=some {cls:=.type "tuple",dict:=dd,data:=.seq (v::vs).toArray n,slots:=sl}/\s.heap.get? b=some {cls:=.type "tuple",dict:=G_,data:=.seq (w::ws).toArray n2,slots:=G3}/\
    EqAt A.in1 s v w false/\R (.ok (.ret (.bool false))) s):=
 .of_wp fun prog w' A R s h=>by
  obtain⟨hp,g,d,tk,os⟩:=s;obtain⟨hl,hb,he,h⟩:=h;have f2:=WO
  wp_walk using wpAny_loadPart' hl,wpAny_loadPart' hb,Xn _ (fun ao b s'=>b.1=none/\s'=⟨hp,g,d,tk,os⟩/\ao=(v::vs).zip (w::ws)) _
  case turn=>
   rintro⟨y,x⟩ ao b s' ⟨FA,rfl,hz⟩
   rw[List.zip_cons_cons]at hz;injection hz with Kd F3
   injection Kd with hy HF
   subst hy HF;refine Z8 (he prog w' _ _ ?_)
   wp_walk
   exact⟨_,rfl,by simpa using h⟩
  case fin=>
   rintro⟨b1,b2⟩ s' ⟨FA,rfl,hz⟩
   rw[List.zip_cons_cons]at hz;trivial
  case h=>exact⟨rfl,rfl,rfl⟩
end
def EqAt.firsts{A:Zu}{s:Z4}{l b:Z2}{v w:Z7}{vs ws:List Z7}(Fc:l≠b)(hl:s.heap.IsTuple l (v::vs).toArray)(hb:s.heap.IsTuple b (w::ws).toArray)(hu:A.units<cLine)(he:SeqAt.EqAt A.in1 s v w false):SeqAt.EqAt A s (.ref l) (.ref b) false:=by
 refine SeqAt.EqAt.of_refs Fc fun prog w' E Q h=>?_
 obtain⟨⟨cls,dd,data,sl⟩,ho,hc,n,hd⟩:=id hl;obtain⟨⟨K2,G_,data2,G3⟩,GW,HJ,n2,hd2⟩:=id hb;simp only at hc hd HJ hd2;subst hc hd HJ hd2;exact richCompare_meets_room (op:=.Eq) ⟨_,ho,rfl⟩ ⟨_,GW,rfl⟩ PySem.F.slot_tuple_eq PySem.F.entry_tuple_eq (PySem.F.args_tuple_eq_2 _ _) (pE l b v w vs ws n n2 dd G_ sl G3)
  ⟨ho,GW,he,show Value.bool false≠Value.notImplemented/\Q (.bool false) s from⟨(fun x=>nomatch x),h⟩⟩ hu
section
variable{prog:ZC}{w:Zo}{A:Zu}{E:Z7->Z4->Prop}{s:Z4}
def lw{R:Result->Z4->Prop}{l:Z2}{items:Array Z7}{n:Nat}{x:Z7}{j:Nat}(hj:j<items.size)(hz:items.size<=sizeLine)(hl:s.heap.get? l=some (seqObj "list" items n))(hit:SeqAt.EqAt A.in1 s items[j] x true)
  (h:R (.ok (.ret .none)) {s with heap:=s.heap.update l (Obj.mapSeq fun xs=>xs.eraseIdxIfInBounds j)}):∀(k i:Nat),j - i=k->i<=j->(∀m (hm:m<items.size),i<=m->m<j->SeqAt.EqAt A.in1 s items[m] x false)->
  codeAny (model prog w) A (.builtin "list.remove.loop" ⟨[.ref l,x,rawInt i],[]⟩) R s:=by
 intro k
 induction k with
 |zero=>
  intro i hk hi GX;have e:i=j:=by lia
  subst e;refine Yz PySem.MeetsSeq.entry_remove_loop ?_
  rw[YI Yn _];show wpAny _ A.in1 (Builtin.List.listItems (.ref l) >>= _) _ _ s;refine Z8 (Wx hl rfl ?_)
  simp only[Int.toNat_natCast];rw[Y0 hj]
  refine Z8 (hit prog w _ _ ?_)
  simp only[Y2];refine Z8 (Xq hl rfl (Z3 h) hz (by show(items.eraseIdxIfInBounds i).size<=_;exact Zh (by unfold Array.eraseIdxIfInBounds;split<;>simp[Array.size_eraseIdx]) (Nat.le_succ_of_le hz)))
 |succ k ih=>
  intro i hk hi GX;refine Yz PySem.MeetsSeq.entry_remove_loop ?_
  rw[YI Yn _];show wpAny _ A.in1 (Builtin.List.listItems (.ref l) >>= _) _ _ s;refine Z8 (Wx hl rfl ?_)
  simp only[Int.toNat_natCast];have w_:i<items.size:=by lia
  rw[Y0 w_]
  refine Z8 (GX i w_ (ZU _) (by lia) prog w _ _ ?_)
  simp only[ZK,Za];exact Z3 ⟨X_ Yn _,ih (i+1) (by lia) (by lia) fun m hm h1 h2=>GX m hm (by lia) h2⟩
def li{Q:Z7->Z4->Prop}{l:Z2}{items:Array Z7}{n:Nat}{x:Z7}{j:Nat}(hj:j<items.size)(hz:items.size<=sizeLine)(hl:s.heap.get? l=some (seqObj "list" items n))(hit:SeqAt.EqAt A.in1 s items[j] x true)
  (GX:∀m (hm:m<items.size),m<j->SeqAt.EqAt A.in1 s items[m] x false)(h:Q .none {s with heap:=s.heap.update l (Obj.mapSeq fun xs=>xs.eraseIdxIfInBounds j)}):wpAny (model prog w) A (call (.builtin "list.remove") [.ref l,x]) Q E s:=by
 refine call_meets (S:=fun A' R s'=>s'=s/\A'=A/\R (.ok (.ret .none)) {s with heap:=s.heap.update l (Obj.mapSeq fun xs=>xs.eraseIdxIfInBounds j)}) PySem.F.slot_list_remove (show s.TypeIs (.ref l) "list" from⟨_,hl,rfl⟩) PySem.F.entry_list_remove (PySem.F.args_list_remove_2 _ _) ?_ ⟨rfl,rfl,h⟩
 rintro prog w A' R s' ⟨rfl,rfl,hR⟩
 show wpAny _ _ (pure _) _ _ _;exact Z3 ⟨X_ Yn _,lw hj hz hl hit hR _ 0 rfl (Zt _) fun m hm _ h2=>GX m hm h2⟩
end
def cx(f:D->Z_ Bool):List D->Z_ (List Bool)
 |[]=>some []
 |d::ds=>match f d,cx f ds with|some b,some bl=>some (b::bl)|_,_=>none
theorem gm{f:D->Z_ Bool}:∀{ds:List D}{bl:List Bool},cx f ds=some bl->bl.length=ds.length
 |[],bl,h=>by simp only[cx,ZR]at h;subst h;rfl
 |d::ds,bl,h=>by
  simp only[cx]at h;split at h
  .rename_i b l q1 q2;obtain rfl:=Z9 h;simp[gm q2]
  .trivial
theorem gS{f:D->Z_ Bool}:∀{ds:List D}{bl:List Bool}{i:Nat}{d:D}{b:Bool},cx f ds=some bl->ds[i]?=some d->bl[i]?=some b->f d=some b
 |[],bl,i,d,b,h,hd,hb=>by simp at hd
 |d'::ds,bl,i,d,b,h,hd,hb=>by
  simp only[cx]at h;split at h
  .rename_i b' l q1 q2
   obtain rfl:=Z9 h;cases i with
   |zero=>simp at hd hb;subst hd;subst hb;exact q1
   |succ i=>simp at hd hb;exact gS q2 hd hb
  .trivial
def aE(bl:List Bool):Nat:=if true∈bl then bl.idxOf true else 0
def dU(d e:D):Bool:=match d,e with|.tup (a::_),.tup (b::_)=>okD 15 a&&okD 15 b&&decide (a≠b)|_,_=>false
def sX:D->Bool
 |.tup _=>true
 |_=>false
noncomputable def pG(r iL iT j:Nat)(bs:List Bool)(ft:DEnv->Z_ Bool)(δ:DEnv)(gr:DEnv->Z_ Out):Z_ Out:=match δ[r]? with
 |some (some (.lst ds,true))=>(match cx (fun d=>ft ((ax true bs δ).set j (some (d,false)))) ds,ds[0]? with
  |some bl,some _=>if(iL<δ.length/\iT<δ.length/\j<δ.length/\ds.length<=lim)/\(ds.all sX&&(ds.take (aE bl)).all fun d=>dU d (ds.getD (aE bl) .non))=true then
    gr (((δ.set iL (some (.lst (c9 ds bl),true))).set iT (some (ds.getD (aE bl) .non,false))).set r (some (.lst (ds.eraseIdx (aE bl)),true))) else none
  |_,_=>none)
 |_=>none
def oO{r iL iT j:Nat}{bs:List Bool}{ft:DEnv->Z_ Bool}{gr:DEnv->Z_ Out}{δ:DEnv}{o:Out}(h:pG r iL iT j bs ft δ gr=some o):∃ds bl,δ[r]?=some (some (.lst ds,true))/\cx (fun d=>ft ((ax true bs δ).set j (some (d,false)))) ds=some bl/\0<ds.length/\(iL<δ.length/\iT<δ.length/\j<δ.length/\ds.length<=lim)/\
  ds.all sX=true/\((ds.take (aE bl)).all fun d=>dU d (ds.getD (aE bl) .non))=true/\
  gr (((δ.set iL (some (.lst (c9 ds bl),true))).set iT (some (ds.getD (aE bl) .non,false))).set r (some (.lst (ds.eraseIdx (aE bl)),true)))=some o:=by
 unfold pG at h;split at h
 .rename_i ds e
  split at h
  .rename_i bl x eb ex
   split at h
   .rename_i c
    rw[ZH]at c;exact⟨ds,bl,e,eb,(ZW.mp ex).1,c.1,c.2.1,c.2.2,h⟩
   .trivial
  .trivial
 .trivial
theorem Reps.erase{K:Z5}{B:Z2->Prop}{H:Hp}:∀{ds:List D}{xs:List V}(i:Nat),Reps K B H ds xs->Reps K B H (ds.eraseIdx i) (xs.eraseIdx i)
 |[],xs,i,r=>by simp only[Reps]at r;subst r;exact Reps.nil
 |d::ds,xs,0,r=>by simp only[Reps]at r;obtain⟨x,q,rfl,r1,r2⟩:=r;exact r2
 |d::ds,xs,i+1,r=>by simp only[Reps]at r;obtain⟨x,q,rfl,r1,r2⟩:=r;exact Reps.cons r1 (Reps.erase i r2)
theorem Vals.erase:∀{xs:List V}{us:List Z7}(i:Nat),Vals xs us->Vals (xs.eraseIdx i) (us.eraseIdx i)
 |_,_,i,.nil=>by simpa using Paired.nil
 |_,_,0,.cons a b=>b
 |_,_,i+1,.cons a b=>.cons a (Vals.erase i b)
theorem i6{α:Type}:∀{xs:List α}{bl:List Bool},bl.length=xs.length->(true∈bl->(c9 xs bl)[0]?=xs[aE bl]?)/\(true∉bl->c9 xs bl=[])
 |[],bl,h=>by cases bl with
  |nil=>exact⟨fun h=>(by trivial),fun _=>rfl⟩
  |cons _ _=>simp at h
 |x::xs,bl,h=>by
  cases bl with
  |nil=>simp at h
  |cons b bl=>
   have ih:=i6 (xs:=xs) (bl:=bl) (by simpa using h)
   cases b with
   |true=>exact⟨fun _=>by unfold c9 aE;simp,fun n=>absurd (ZV ..) n⟩
   |false=>
    refine⟨fun m=>?_,fun n=>?_⟩
    .have m':true∈bl:=by simpa using m
     have:=ih.1 m';unfold c9;simp only[ZK,Za];rw[this];unfold aE;rw[Z0 m',Z0 m,List.idxOf_cons];simp
    .unfold c9
     simp only[ZK,Za];exact ih.2 (fun z=>n (ZZ _ z))
def mH{α:Type}{xs:List α}{x:α}(h:xs[0]?=some x):atI xs 0=some x:=by
 have hl:=(ZW.mp h).1
 have:=(ZW.mp h).2
 simpa[atI,ixN,hl]using this
section
variable{X:Cx}
def oD(hu:X.A.units+64<cLine):MtR X "list.remove" (fun x vs H Q=>∃B l p ds xs j,x=.ref l/\vs=[.ref p]/\H l=some (.lst xs)/\Reps X.K B H ds xs/\xs[j]?=some (.ref p)/\ds.all sX=true/\((ds.take j).all fun d=>dU d (ds.getD j .non))=true/\Q .non (upd H l (.lst (xs.eraseIdx j)))):=by
 intro a_ s σ H x vs v us Q I rx rv h;obtain⟨B,l,p,ds,xs,j,rfl,rfl,hH,rs,hj,hT,Mm,q⟩:=h;cases rx;obtain⟨u,rfl,ru⟩:=rv.one;cases ru;obtain⟨z,its,n,r,hl,e⟩:=I.lstM hH;have l1:=r.length;have l2:=rs.length;have Sr:j<xs.length:=(ZW.mp hj).1
 have Oy:j<its.length:=by lia
 have Oz:j<ds.length:=by lia
 obtain⟨w,hw,A_⟩:=r.get hj;cases A_;have ej:its[j]=Value.ref p:=by have:=ZW.mp hw;exact this.2
 refine li (j:=j) (items:=its.toArray) (n:=n) (by simpa using Oy) (by rw[ZQ];lia) e ?_ (fun m hm Qv=>?_) ?_
 .rw[List.getElem_toArray,ej];exact SeqAt.EqAt.same _
 .rw[List.getElem_toArray]
  have Sm:m<its.length:=by simpa using hm
  have Om:m<ds.length:=by lia
  have Gy:=(ZM.mp Mm) ds[m] (by
   rw[List.mem_iff_getElem?];exact⟨m,by rw[List.getElem?_take,Z0 Qv];simp[Om]⟩)
  have LG:ds.getD j .non=ds[j]:=by rw[YO];simp[Oz]
  rw[LG]at Gy;obtain⟨xm,Qd,rm⟩:=rs.get (i:=m) (d:=ds[m]) (by simp[Om])
  obtain⟨xj,N6,rj⟩:=rs.get (i:=j) (d:=ds[j]) (by simp[Oz])
  rw[hj]at N6;obtain rfl:=Z9 N6;unfold dU at Gy;split at Gy
  .rename_i d1 d2 a as b bs e1 e2
   rw[ZH,ZH]at Gy;obtain⟨⟨oa,ob⟩,ne⟩:=Gy;rw[e1]at rm;rw[e2]at rj;simp only[Rep]at rm rj;obtain⟨t1,y1,rfl,g1,q1⟩:=rm;obtain⟨t2,y2,z2,g2,q2⟩:=rj;cases z2;obtain⟨um,Qf,PF⟩:=r.get Qd;cases PF;have em:its[m]=Value.ref t1:=by have:=ZW.mp Qf;exact this.2
   rw[em];simp only[Reps]at q1 q2;obtain⟨v1,r1,rfl,ra,_⟩:=q1;obtain⟨v2,r2,rfl,rb,_⟩:=q2;obtain⟨i1,w1,Pq,_⟩:=I.tuple (SqT.of g1);obtain⟨i2,w2,Pp,_⟩:=I.tuple (SqT.of g2);cases w1 with
   |cons a1 a2=>cases w2 with
    |cons b1 b2=>
     have Fc:t1≠p:=fun z=>by
      subst z;rw[g1]at g2;cases g2;exact(Zc ne) (Rep.inj I oa ob ra rb)
     have q:=(zm I 15 a b v1 v2 _ _ (X.A.in1.in1) oa ob (by show X.A.units+1+1+15+1<cLine;lia) ra rb a1 b1).2.1
     rw[ZN (Zc ne)]at q;exact EqAt.firsts Fc Pq Pp (by show X.A.units+1<cLine;lia) q
  .trivial
 .refine⟨.non,_,I.lset (its':=its.eraseIdx j) (ys:=xs.eraseIdx j) hH e ?_ (Vals.erase j r) ?_,rfl,q⟩
  .simp[Array.eraseIdxIfInBounds,Oy]
  .have:=List.length_eraseIdx_le xs j;lia
variable{r j iL iT:Nat}{xr xl xt xp:Str}{bs:List Bool}{ifs:List Expr}{scope:Scope}{ft:DEnv->Z_ Bool}{ao:List Stmt}{gr:DEnv->Z_ Out}{pe pp pr IB py E7 NJ GH Lq Lp NL L4 L3 NM NK apos f_ pt KJ pf J9:Pos}{k1 k2:Nat}
theorem rJ(hu:X.A.units+64<cLine)(hN:X.N.Nodup)(hc:X.calm=true)(nr:Nm X r xr)(nl:Nm X iL xl)(nt:Nm X iT xt)(lt:Lc X iT xt)(hy:X.env.scope.names.lookup xl=some .local)(Mq:r≠iL)(Ob:r≠iT)(ka:iL≠iT)(S:CompScope X scope bs)
  (hg:∀cl C d_ e_ ex pn,PG (av X scope cl C d_ e_ ex pn) (.Name xp pp) (fw j)) (ht:∀cl C d_ e_ ex pn,DTs (av X scope cl C d_ e_ ex pn) ifs ft) (he:∀cl C d_ e_ ex pn,PE (av X scope cl C d_ e_ ex pn) (.Name xp pe) (tq j))
  (F3:DSs X ao gr)
  (F9:swapsWith (.ListComp (.Name xp pe) [⟨.Name xp pp,.Name xr pr,ifs,0⟩] scope IB) (some (.Name xl py)) E7.line X.env=pure true)
  (hs:∀x,foldedSetIterable (.Name xr pr) X.env x=pure x)
  (Jf:swapsWith (.IfExp (.Name xl Lq) (.Subscript (.Name xl Lp) (.Constant (.int 0) k1 L4) NM) (.Subscript (.Name xr NL) (.Constant (.int 0) k2 L3) NK) pf) (some (.Name xt NJ)) GH.line X.env=pure false)
  (M9:∀whole,isTrue (.Name xl Lq) X.env whole=(do let v <-whole;standAt (Expr.pos (.Name xl Lq));holding [v] (truthy v)))
  (QG:eN (.Constant (.int 0) k1 L4)) (Mz:eN (.Constant (.int 0) k2 L3))
  (n_:attributeBase (.Name xr J9) "remove" X.env (eval (.Name xr J9) X.env)=eval (.Name xr J9) X.env)
  (D_:((backTo f_ (starEach [.Name xt pt] X.env)).all (fun x=>!x.1)&&(backToKw f_ (keywordEach [] X.env)).all (fun x=>x.1.isSome)&&decide (([Expr.Name xt pt]).length+([]:List Keyword).length+(if([]:List Keyword).isEmpty then 0 else 1)<30))=true)
  (m_:(apos.endLine==f_.line)=true) (FD:starEach [.Name xt pt] X.env=(false,eval (.Name xt pt) X.env)::starEach [] X.env)
  (Je:swapsWith (.Call (.Attribute (.Name xr J9) "remove" apos) [.Name xt pt] [] f_) none KJ.line X.env=pure false):
  DSs X (.Assign [.Name xl py] (.ListComp (.Name xp pe) [⟨.Name xp pp,.Name xr pr,ifs,0⟩] scope IB) E7::
   .Assign [.Name xt NJ] (.IfExp (.Name xl Lq) (.Subscript (.Name xl Lp) (.Constant (.int 0) k1 L4) NM) (.Subscript (.Name xr NL) (.Constant (.int 0) k2 L3) NK) pf) GH::
   .Expr (.Call (.Attribute (.Name xr J9) "remove" apos) [.Name xt pt] [] f_) KJ::ao) (fun δ=>pG r iL iT j bs ft δ gr):=by
 intro a_ s σ H Dn I hq;obtain⟨B,Hk,δ,o,R,e,kk⟩:=hq;obtain⟨ds,bl,hr,hb,h0,⟨q1,q2,q3,q4⟩,hT,Mm,e'⟩:=oO e;have Me:=R.len;have N2:=gm hb;refine bx (lI (tt:=tMT X.K ft) hc (r9 (bg nr.at' nr.vis nr.d1 nr.d2)) S hg ht he hN nl.at' hy F9 hs)
  (bx (gN hN lt.at' lt.loc (tV (mC (bg nl.at' nl.vis nl.d1 nl.d2) M9) (u0 kI (bg nl.at' nl.vis nl.d1 nl.d2) sG QG) (u0 kI (bg nr.at' nr.vis nr.d1 nr.d2) sG Mz)) Jf lt.fnl)
   (bx (lm (n9 XF PySem.F.slot_list_remove PySem.F.type_list_remove (oD hu) (bg nr.at' nr.vis nr.d1 nr.d2) (aw (bg nt.at' nt.vis nt.d1 nt.d2) aO FD) n_ D_ m_ FD) Je) F3)) a_ s σ H Dn I ?_
 unfold BT xY;refine qG (bl:=bl) (by rw[S.len,<-I.len]) R hr (by lia) N2 q4 (fun i d c h1 h2=>gS hb h1 h2) fun l xs a H' h1 h3 h4 sm Oj ha=>?_
 have lx:=h4.length;have Jx:aE bl<ds.length:=by
  unfold aE;split
  .rename_i m;rw[<-N2];exact YR m
  .exact h0
 have Fj:H' l=some (.lst xs):=sm l _ h3;have R0:=R.to sm;have HM:Reps X.K B H' ds xs:=h4.ext (R.ext sm);have JR:ds[aE bl]?=some (ds.getD (aE bl) .non):=by rw[YO];simp[Jx]
 obtain⟨w,hw,KI⟩:=HM.get JR;obtain⟨ts,Rq⟩:∃ts,ds.getD (aE bl) .non=.tup ts:=by
  have:=(ZM.mp hT) _ (Zj JR);cases q:ds.getD (aE bl) .non with
  |tup ts=>exact⟨ts,rfl⟩
  |_=>rw[q]at this;simp[sX]at this
 have JG:=KI;rw[Rq]at JG;simp only[Rep]at JG;obtain⟨p,ws,rfl,hp,rws⟩:=JG;have LN:(σ.set iL (some (.ref a)))[iL]?=some (some (.ref a)):=ZF (by lia)
 have Nx:(σ.set iL (some (.ref a)))[r]?=some (some (.ref l)):=by rw[ZP (Zy Mq)];exact h1
 have QA:Hk a=none:=R.same.free Oj;have R1:Rel X.K B Hk (δ.set iL (some (.lst (c9 ds bl),true))) (σ.set iL (some (.ref a))) H':=R0.setOwn (by lia) QA ⟨_,ha,eV HM⟩ (fun m f hm z1 z2=>by
  obtain⟨c,y1,_,y3⟩:=R.own m f z1;rw[z2]at y1;cases y1;obtain⟨u,hu⟩:=y3.there;rw[Oj]at hu;trivial)
 have R2:=R1.set (i:=iT) (by rw[Zk];lia) KI
 have GV:((δ.set iL (some (.lst (c9 ds bl),true))).set iT (some (ds.getD (aE bl) .non,false)))[r]?=some (some (.lst ds,true)):=by
  rw[ZP (Zy Ob),ZP (Zy Mq)];exact hr
 have Kw:((σ.set iL (some (.ref a))).set iT (some (.ref p)))[r]?=some (some (.ref l)):=by rw[ZP (Zy Ob)];exact Nx
 have MU:((σ.set iL (some (.ref a))).set iT (some (.ref p)))[iT]?=some (some (.ref p)):=ZF (by rw[Zk];lia)
 obtain⟨x5,R3⟩:=R2.lset (ds':=ds.eraseIdx (aE bl)) (xs':=xs.eraseIdx (aE bl)) GV Kw Fj (HM.erase _);have fin:zt (tBM X.K "list" (fun x vs H Q=>∃B l p ds xs j,x=.ref l/\vs=[.ref p]/\H l=some (.lst xs)/\Reps X.K B H ds xs/\xs[j]?=some (.ref p)/\ds.all sX=true/\((ds.take j).all fun d=>dU d (ds.getD j .non))=true/\Q .non (upd H l (.lst (xs.eraseIdx j)))) (tq r) (n5 (tq iT) tNil)) {Dn with nx:=tD X.K gr Dn} ((σ.set iL (some (.ref a))).set iT (some (.ref p))) H':=
  ⟨.ref l,Kw,.inl ⟨rfl,_,SqL.of Fj⟩,.ref p,MU,B,l,p,ds,xs,aE bl,rfl,rfl,Fj,HM,hw,hT,Mm,B,Hk,_,o,R3,e',kk.ext ((R.ext sm).trans x5)⟩
 have ph:=i6 (xs:=xs) (bl:=bl) (by lia)
 by_cases m:true∈bl
 .have Fc:(c9 xs bl)[0]?=some (.ref p):=(ph.1 m).trans hw
  refine⟨.ref a,LN,true,.inl ⟨_,SqL.of ha,?_⟩,?_⟩
  .cases q:c9 xs bl with
   |nil=>rw[q]at Fc;trivial
   |cons _ _=>simp
  .exact wG ⟨.ref a,LN,a,_,0,.ref p,rfl,rfl,SqL.of ha,mH Fc,fin⟩
 .have Nh:=ph.2 m
  have f0:aE bl=0:=by unfold aE;rw[ZY m]
  refine⟨.ref a,LN,false,.inl ⟨_,SqL.of ha,by rw[Nh];rfl⟩,?_⟩
  rw[f0]at hw;exact wC ⟨.ref l,Nx,l,xs,0,.ref p,rfl,rfl,SqL.of Fj,mH hw,fin⟩
end
section
variable{X:Cx}{C:Str}{m m' mm:Bool}{a b e:Expr}{es:List Expr}{fa:DEnv->Z_ D}{fx:DEnv->Z_ (Z_ D)}{fs:DEnv->Z_ (List D)}{SE:DEnv->Z_ (Z_ (List D))}{pos p:Pos}{k:Nat}{x:Str}
end
section
variable{X:Cx}{C:Str}{m m' mm:Bool}{a b e:Expr}{es:List Expr}{fs:DEnv->Z_ (List D)}{pos p:Pos}{k:Nat}{x:Str}{f:List D->Z_ (Z_ (D×Bool))}
end
inductive OutX where
 |o (x:Out)|rai
section
variable{X:Cx}{C:Str}{st:Stmt}{ao JW:List Stmt}{g:DEnv->Z_ Out}{g1 g2:DEnv->Z_ OutX}{pos:Pos}{a:Expr}{fx:DEnv->Z_ (Z_ D)}{fc:DEnv->Z_ Bool}
end
section
variable{P:ZC}{w:Zo}{K:Z5}{mg:Str->Z_ Z7}{base:Heap}{C:Str}
end
end L2
namespace L2
open PySem
def ItAt(t:Bool)(h:Heap)(c q:Z2)(n:Nat):Prop:=if t=true then h.IsTupleIter c q n else h.IsListIter c q n
def SqAt(t:Bool)(h:Heap)(q:Z2)(vs:Array Z7):Prop:=if t=true then h.IsTuple q vs else h.IsList q vs
def ItAt.obj{t:Bool}{h:Heap}{c q:Z2}{n:Nat}(x:ItAt t h c q n):∃o,h.get? c=some o/\o.cls=.type (if t=true then "tuple_iterator" else "list_iterator")/\o.data=.fields #[.ref q,.int n 0]:=by
 cases t<;>exact x
def ItAt.to{t:Bool}{h h':Heap}{c q:Z2}{n:Nat}(x:ItAt t h c q n)(k:∀o,h.get? c=some o->h'.get? c=some o):ItAt t h' c q n:=by
 cases t<;>(obtain⟨o,e,r⟩:=x;exact⟨o,k o e,r⟩)
def SqAt.to{t:Bool}{h h':Heap}{q:Z2}{vs:Array Z7}(x:SqAt t h q vs)(k:∀o,h.get? q=some o->h'.get? q=some o):SqAt t h' q vs:=by
 cases t<;>(obtain⟨o,e,r⟩:=x;exact⟨o,k o e,r⟩)
section
variable{prog:ZC}{w:Zo}{A:Zu}{E:Z7->Z4->Prop}{s:Z4}
def tz{c q:Z2}{n:Nat}{vs:Array Z7}{Q:Z7->Z4->Prop}(hh:A.handled=none)(hc:s.heap.IsTupleIter c q n)(hq:s.heap.IsTuple q vs)
  (Gn:∀v,vs[n]?=some v->∀h',h'.IsTupleIter c q (n+1)->Heap.SameBut c s.heap h'->Q v {s with heap:=h'})
  (Gp:vs[n]?=none->∀h' e,Heap.ExtBut c s.heap h'->(∃o,h'.get? e=some o/\o.cls=.type "StopIteration")->E (.ref e) {s with heap:=h'}):
  wpAny (model prog w) A (Builtin.SmallTypes.nextOf (.ref c)) Q E s:=by
 have ty:=hc.typeIs;obtain⟨oc,gc,kc,dc⟩:=hc;obtain⟨oq,gq,_,m,dq⟩:=hq;unfold Builtin.SmallTypes.nextOf;refine Z8 (YC (name:=Str.ofString "__next__") ty F.slot_tuple_iterator_next (Y_ F.slot_tuple_iterator_next ty F.entry_tuple_iterator_next ?body (F.args_tuple_iterator_next_1 _)))
 change wpAny _ _ (field (.ref c) 0 >>= _) _ E s;refine Z8 (Xl gc dc (x:=.ref q) rfl ?_)
 change wpAny _ _ (if(Value.ref q==Value.none)=true then _ else _) _ E s
 rw[ZY (by exact Zv)]
 change wpAny _ _ (field (.ref c) 1 >>= _) _ E s;refine Z8 (Xl gc dc (x:=.int n 0) rfl (Z8 (Yo gq dq ?_)))
 simp only[Int.toNat_natCast]
 rcases hv:vs[n]? with _|v
 .simp only[newExc,newTuple,raiseNew]
  refine Z8 (YW (Z8 (Yu gc dc (by simp) (Z8 (Z8 (Zd ?_ (by size_fits)))))))
  refine Z8 (m:=firstArgMember _ _) (WD (a:=Value.none) (by first|rfl|(simp only[firstArgMember];rfl)) (Zd ?_ (by size_fits)))
  refine Z8 (wpAny_handled ?_)
  rw[show A.in1.handled=none from hh]
  exact Z8 (Z3 (wpAny_throw (Gp hv _ _ (((Zb ..).extBut.push _).push _) ⟨_,ZT _ rfl,rfl⟩)))
 .refine Z8 (Yu gc dc (by simp) (Z3 ⟨v,rfl,Z3 (Gn v hv _ ⟨_,Zi _ gc (Yj (Y9 dc _)),?_,?_⟩ (Zb ..))⟩))
  .rw[Xs];exact kc
  .rw[Y9 dc];simp[rawInt]
def Ds{t:Bool}{c q:Z2}{n:Nat}{vs:Array Z7}{Q:Z7->Z4->Prop}(hh:A.handled=none)(hc:ItAt t s.heap c q n)(hq:SqAt t s.heap q vs)
  (Gn:∀v,vs[n]?=some v->∀h',ItAt t h' c q (n+1)->Heap.SameBut c s.heap h'->Q v {s with heap:=h'})
  (Gp:vs[n]?=none->∀h' e,Heap.ExtBut c s.heap h'->(∃o,h'.get? e=some o/\o.cls=.type "StopIteration")->E (.ref e) {s with heap:=h'}):
  wpAny (model prog w) A (Builtin.SmallTypes.nextOf (.ref c)) Q E s:=by
 cases t with
 |true=>exact tz hh hc hq Gn Gp
 |false=>
  rcases hv:vs[n]? with _|v
  .exact wpAny_nextOf_list_end hh hc hq hv (Gp hv)
  .exact wpAny_nextOf_list_item hc hq hv (Gn v hv)
end
structure Zp (t u:Bool)(h:Heap)(z P O c d p q:Z2)(n:Nat)(f:Z7):Prop where
 zz:IsZip h z P O f
 pp:IsPair h P (.ref c) (.ref d)
 oo:∃a b,IsPair h O a b
 cc:ItAt t h c p n
 dd:ItAt u h d q n
structure Ap (z P O c d p q:Z2):Prop where
 nd:[z,P,O,c,d].Nodup
 p:p∉[z,P,O,c,d]
 q:q∉[z,P,O,c,d]
def aj{a b:Z2}{h h':Heap}{o:Obj}(k:Heap.SameBut a h h')(n:b≠a)(e:h.get? b=some o):h'.get? b=some o:=(k.2 b n).trans e
section
variable{prog:ZC}{w:Zo}{A:Zu}{E:Z7->Z4->Prop}{s:Z4}
def tL{t u:Bool}{z P O c d p q:Z2}{n:Nat}{xs ys:Array Z7}{Q:Z7->Z4->Prop}(hh:A.handled=none)(ap:Ap z P O c d p q)(Z:Zp t u s.heap z P O c d p q n .none)
  (hp:SqAt t s.heap p xs) (hq:SqAt u s.heap q ys)
  (item:∀x y,xs[n]?=some x->ys[n]?=some y->∀h',Zp t u h' z P O c d p q (n+1) (rawInt s.heap.objs.size)->IsPair h' s.heap.objs.size x y->h'.objs.size=s.heap.objs.size+1->
   (∀b o,b∉[z,P,O,c,d]->s.heap.get? b=some o->h'.get? b=some o)->Q (.ref s.heap.objs.size) {s with heap:=h'})
  (stop:(xs[n]?=none\/ys[n]?=none)->∀h' e,(∀b o,b∉[z,P,O,c,d]->s.heap.get? b=some o->h'.get? b=some o)->(∃o,h'.get? e=some o/\o.cls=.type "StopIteration")->E (.ref e) {s with heap:=h'}):
  wpAny (model prog w) A (Builtin.«zip.__next__» ⟨[.ref z],[]⟩) (fun r s'=>∃v,r=.done (.ret v)/\Q v s') E s:=by
 obtain⟨zz,pp,⟨a,b,oo⟩,cc,dd⟩:=Z;have nd:=ap.nd;have np:=ap.p;have nq:=ap.q;simp only[YN,ZX,Ze,Yy,Xf,Y3,and_true,not_false_eq_true]at nd np nq;obtain⟨⟨zP,zO,zc,zd⟩,⟨PO,Pc,Pd⟩,⟨Oc,Od⟩,cd⟩:=nd;obtain⟨pz,pP,pO,pc,pd⟩:=np;obtain⟨qz,qP,qO,qc,qd⟩:=nq;change wpAny _ _ (field (.ref z) 2 >>= _) _ E s;refine Z8 (Xl zz rfl (x:=.bool false) rfl ?_)
 change wpAny _ _ (field (.ref z) 3 >>= _) _ E s;refine Z8 (Xl zz rfl (x:=.ref P) rfl (Z8 (Yo pp rfl ?_)))
 change wpAny _ _ (Builtin.SmallTypes.ownedTupleIsFree (.ref z) >>= _) _ E s;unfold Builtin.SmallTypes.ownedTupleIsFree;refine Z8 (Z8 (Xl zz rfl (x:=.none) rfl (Z3 ?_)))
 simp only[Y2];refine Z8 (YW (Z8 (Xl zz rfl (x:=.ref O) rfl (Z8 (X1 zz (by simp) fun M5 Nr FO=>Z8 ?_)))))
 have IW:IsZip M5 z P O .ellipsis:=Nr;simp only[List.zipIdx_cons,List.zipIdx_nil,List.forIn_cons,List.forIn_nil];refine Z8 (Z8 (wpAny_onRaise ?_))
 change wpAny _ _ (Builtin.SmallTypes.nextOf (.ref c) >>= _) _ _ _;refine Z8 (Ds (t:=t) hh (cc.to fun o e=>aj FO (Zy zc) e) (hp.to fun o e=>aj FO pz e) (fun x hx Jd K1 Fu=>Z3 ?_) fun hx Jd e Fu he=>?_)
 .have KO:IsPair Jd O a b:=aj Fu Oc (aj FO (Zy zO) oo)
  refine Z8 (Yo KO rfl (Z8 (wpAny_updateSeq_pair KO fun Jc Nq Ft=>Z8 (wpAny_letGo (Z3 ?_)))))
  have MZ:IsPair Jc O x b:=Nq;refine Z8 (Z8 (wpAny_onRaise ?_))
  change wpAny _ _ (Builtin.SmallTypes.nextOf (.ref d) >>= _) _ _ _;refine Z8 (Ds (t:=u) hh (dd.to fun o e=>aj Ft (Zy Od) (aj Fu (Zy cd) (aj FO (Zy zd) e))) (hq.to fun o e=>aj Ft qO (aj Fu qc (aj FO qz e))) (fun y hy Jb Nv FX=>Z3 ?_) fun hy Jb e FX he=>?_)
  .have KN:IsPair Jb O x b:=aj FX Od MZ
   refine Z8 (Yo KN rfl (Z8 (wpAny_updateSeq_pair KN fun Ff Np FW=>Z8 (wpAny_letGo (Z3 (Z3 ?_))))))
   have KL:IsPair Ff O x y:=Np;have old:∀f o,f≠z->f≠O->f≠c->f≠d->s.heap.get? f=some o->Ff.get? f=some o:=fun f o n1 n2 n3 n4 e=>aj FW n2 (aj FX n4 (aj Ft n2 (aj Fu n3 (aj FO n1 e))))
   have sz:Ff.objs.size=s.heap.objs.size:=by rw[FW.1,FX.1,Ft.1,Fu.1,FO.1]
   have Ky:IsZip Ff z P O .ellipsis:=aj FW zO (aj FX zd (aj Ft zO (aj Fu zc IW)));refine Z8 (Yo KL rfl (Z8 (wpAny_newTuple ?_)))
   have MW:IsZip (Ff.push {cls:=.type "tuple",data:=.seq #[x,y]}) z P O .ellipsis:=Z6 _ Ky
   change wpAny _ _ (Builtin.SmallTypes.ownedTupleHandOut (.ref z) (.ref Ff.objs.size) >>= _) _ E _;unfold Builtin.SmallTypes.ownedTupleHandOut;refine Z8 (Z8 (X1 MW (by simp) fun M4 Nn Ja=>?_))
   have MV:IsZip M4 z P O (rawInt Ff.objs.size):=Nn;refine X1 MV (by simp) fun Hb Nl I_=>Z3 ⟨_,rfl,?_⟩
   have Kx:IsZip Hb z P O (rawInt Ff.objs.size):=Nl;have up:∀f o,f≠z->Ff.get? f=some o->Hb.get? f=some o:=fun f o n1 e=>aj I_ n1 (aj Ja n1 (Z6 _ e))
   have lz:=ZO Ky;have new:IsPair Hb Ff.objs.size x y:=aj I_ (Nat.ne_of_gt lz) (aj Ja (Nat.ne_of_gt lz) (ZT _ rfl))
   have NB:Hb.objs.size=Ff.objs.size+1:=by rw[I_.1,Ja.1,YJ]
   change Q (.ref Ff.objs.size) _;rw[sz]at Kx new NB⊢;refine item x y hx hy Hb ⟨Kx,up _ _ (Zy zP) (old _ _ (Zy zP) PO Pc Pd pp),⟨x,y,up _ _ (Zy zO) KL⟩,?_,?_⟩ new NB fun f o hf e=>?_
   .exact K1.to fun o e=>up _ o (Zy zc) (aj FW (Zy Oc) (aj FX cd (aj Ft (Zy Oc) e)))
   .exact Nv.to fun o e=>up _ o (Zy zd) (aj FW (Zy Od) e)
   .simp only[ZX,Ze,Yy,Xf]at hf
    exact up f o hf.1 (old f o hf.1 hf.2.2.1 hf.2.2.2.1 hf.2.2.2.2 e)
  .obtain⟨oe,ge,ke⟩:=he
   have Kz:IsZip Jb z P O .ellipsis:=FX _ _ zd (aj Ft zO (aj Fu zc IW));have ez:e≠z:=fun r=>by rw[r]at ge;rw[Kz]at ge;obtain rfl:=Z9 ge;simp at ke
   refine X1 Kz (by simp) fun Ff _ FW=>stop (.inr hy) Ff e (fun f o hf g=>?_) ⟨oe,aj FW ez ge,ke⟩
   simp only[ZX,Ze,Yy,Xf]at hf;obtain⟨n1,_,n2,n3,n4⟩:=hf;exact aj FW n1 (FX _ _ n4 (aj Ft n2 (aj Fu n3 (aj FO n1 g))))
 .obtain⟨oe,ge,ke⟩:=he
  have KA:IsZip Jd z P O .ellipsis:=Fu _ _ zc IW;have ez:e≠z:=fun r=>by rw[r]at ge;rw[KA]at ge;obtain rfl:=Z9 ge;simp at ke
  refine X1 KA (by simp) fun Jc _ Ft=>stop (.inl hx) Jc e (fun f o hf g=>?_) ⟨oe,aj Ft ez ge,ke⟩
  simp only[ZX,Ze,Yy,Xf]at hf;exact aj Ft hf.1 (Fu _ _ hf.2.2.2.1 (aj FO hf.1 g))
end
end L2
namespace L2
open PySem
variable[Lams]
section
variable{X:Cx}{a_:List (Z2×Obj)}{σ:St}{H:Hp}{s:Z4}{h':Heap}
def Inv.turnLay{t':Nat}{fp:List Z2}{T:Z2}{o:HO}(I:Inv X a_ σ H s)(k:∀b u,b∉fp->s.heap.get? b=some u->h'.get? b=some u)(hf:∀b∈fp,fY X a_ H b)
  (hT:s.heap.objs.size<=T)(new:ObjOk X.prog X.w (upd H T o) h' T o):Inv X a_ σ (upd H T o) {s with heap:=h',toks:=t'}:=by
 have hn:H T=none:=I.hok.fresh hT;have FU:∀b u,H b=some u->b∉fp:=fun b u e z=>by rw[(hf b z).1]at e;trivial
 have lo:∀b u,s.heap.get? b=some u->b≠T:=fun b u e=>Zw (ZA (ZO e) hT)
 refine I.step (g':=s.gens) (d':=s.drawn) (ch:=fp) (fun b hb=>?_) (fun b u _ _ hc e _=>k b u hc e) (fun b u _ _ hc e _=>⟨u.slots,k b u hc e⟩) (fun b u _ e n=>by rw[ai (lo b u e)];exact n)
  (fun b u hc e=>⟨u,k b u hc e⟩) (fun b xs e=>by rw[ai (aq e hn)];exact e) (fun b u v e=>by rw[ai (aq e hn)];exact e) (fun b lq ps e=>⟨#[],by rw[ai (aq e hn),e];simp⟩) (fun m hm=>?_) (fun b u e=>?_) I.bare
 .obtain⟨_,f1,_,f3,f4,f5⟩:=hf b hb
  exact⟨f3,f1,f4,f5⟩
 .obtain⟨ob,es,ep,ho,r⟩:=hm
  exact⟨ob,es,ep,k _ ob (fun z=>(hf _ z).2.1 rfl) ho,r⟩
 .by_cases hb:b=T
  .subst hb;rw[ag]at e;obtain rfl:=Z9 e;exact new
  .rw[ai hb]at e
   refine(I.hok b u e).stay (fun c v hc q=>k c v ?_ q) (fun c q=>by rw[ai (aq q hn)];exact q) fun c xs q=>by rw[ai (aq q hn)];exact q
   rcases hc with z|z
   .rw[z];exact FU b u e
   .exact FU c _ z
def Inv.turns{t':Nat}{fp:List Z2}(I:Inv X a_ σ H s)(k:∀b u,b∉fp->s.heap.get? b=some u->h'.get? b=some u)(hf:∀b∈fp,fY X a_ H b):Inv X a_ σ H {s with heap:=h',toks:=t'}:=by
 have FU:∀b u,H b=some u->b∉fp:=fun b u e z=>by rw[(hf b z).1]at e;trivial
 refine I.step (g':=s.gens) (d':=s.drawn) (ch:=fp) (fun b hb=>?_) (fun b u _ _ hc e _=>k b u hc e) (fun b u _ _ hc e _=>⟨u.slots,k b u hc e⟩) (fun b u _ e n=>n)
  (fun b u hc e=>⟨u,k b u hc e⟩) (fun b xs e=>e) (fun b u v e=>e) (fun b lq ps e=>⟨#[],by rw[e];simp⟩) (fun m hm=>?_) (fun b u e=>?_) I.bare
 .obtain⟨_,f1,_,f3,f4,f5⟩:=hf b hb
  exact⟨f3,f1,f4,f5⟩
 .obtain⟨ob,es,ep,ho,r⟩:=hm
  exact⟨ob,es,ep,k _ ob (fun z=>(hf _ z).2.1 rfl) ho,r⟩
 .refine(I.hok b u e).stay (fun c v hc q=>k c v ?_ q) (fun _ q=>q) fun _ _ q=>q
  rcases hc with z|z
  .rw[z];exact FU b u e
  .exact FU c _ z
end
def SqV(t:Bool)(K:Z5)(H:Hp)(a:Z2)(xs:List V):Prop:=if t=true then SqT K H a xs else SqL K H a xs
section
variable{prog:ZC}{w:Zo}{A:Zu}{E:Z7->Z4->Prop}{s:Z4}
def mK{t u:Bool}{z P O c d p q:Z2}{n:Nat}{xs ys:Array Z7}{Q:Z_ Z7->Z4->Prop}(hh:A.handled=none)(ap:Ap z P O c d p q)(Z:Zp t u s.heap z P O c d p q n .none)
  (hp:SqAt t s.heap p xs) (hq:SqAt u s.heap q ys)
  (item:∀x y,xs[n]?=some x->ys[n]?=some y->∀h',Zp t u h' z P O c d p q (n+1) (rawInt s.heap.objs.size)->IsPair h' s.heap.objs.size x y->h'.objs.size=s.heap.objs.size+1->
   (∀b o,b∉[z,P,O,c,d]->s.heap.get? b=some o->h'.get? b=some o)->Q (some (.ref s.heap.objs.size)) {s with heap:=h'})
  (stop:(xs[n]?=none\/ys[n]?=none)->∀h',(∀b o,b∉[z,P,O,c,d]->s.heap.get? b=some o->h'.get? b=some o)->Q none {s with heap:=h'}):
  wpAny (model prog w) A (pyNext (.ref z)) Q E s:=by
 have ty:s.TypeIs (.ref z) "zip":=⟨_,Z.zz,rfl⟩;unfold pyNext;refine Z8 (XT (YC (name:=Str.ofString "__next__") ty F.slot_zip_next (Y_ F.slot_zip_next ty F.entry_zip_next (tL hh ap Z hp hq (fun x y hx hy h' b1 b2 b3 b4=>Z3 (item x y hx hy h' b1 b2 b3 b4)) fun hn h' e k he=>?_) (F.args_zip_next_1 _))))
 obtain⟨o,ho,hc⟩:=he;exact Z8 (Yp (T:="StopIteration") (b:=true) ⟨o,ho,hc⟩ WB (Z3 (stop hn h' k)))
end
section
variable{X:Cx}{a_:List (Z2×Obj)}{σ:St}{H:Hp}{s:Z4}
def Inv.seqV{t:Bool}{a:Z2}{xs:List V}(I:Inv X a_ σ H s)(h:SqV t X.K H a xs):∃its,Vals xs its/\SqAt t s.heap a its.toArray:=by
 cases t with
 |true=>obtain⟨its,rv,p,_⟩:=I.tuple h;exact⟨its,rv,p⟩
 |false=>obtain⟨its,rv,p,_⟩:=I.list h;exact⟨its,rv,p.isList⟩
def Inv.seqV_inj{t:Bool}{a:Z2}{xs ys:List V}(I:Inv X a_ σ H s)(h:SqV t X.K H a xs)(h':SqV t X.K H a ys):xs=ys:=by
 cases t with
 |true=>exact I.tuple_inj h h'
 |false=>exact I.list_inj h h'
end
noncomputable def Itz(t u:Bool)(K:Z5)(p q:Z2):It:=
 ⟨fun i H=>∃xs ys x y,SqV t K H p xs/\SqV u K H q ys/\xs[i]?=some x/\ys[i]?=some y,
  fun i H v H'=>∃T x y,H T=none/\v=.ref T/\H'=upd H T (.tup [x,y])/\(∀xs,SqV t K H p xs->xs[i]?=some x)/\∀ys,SqV u K H q ys->ys[i]?=some y,
  fun i H=>∃xs ys,SqV t K H p xs/\SqV u K H q ys/\(xs.length<=i\/ys.length<=i)⟩
def vp{P:ZC}{w:Zo}{K:Z5}{elts:List Expr}{x1}{pos:Pos}{t u:Bool}{z Pr O c d p q:Z2}(ap:Ap z Pr O c d p q):
  Turn P w K (.Tuple elts x1 pos) (Itz t u K p q) [z,Pr,O,c,d] z (fun n h=>Zp t u h z Pr O c d p q n .none) where
 mem:=by simp
 obj:=fun i h st b hb=>by
  obtain⟨zz,pp,⟨a,a',oo⟩,cc,dd⟩:=st;simp only[ZX,Ze,Yy]at hb
  rcases hb with rfl|rfl|rfl|rfl|rfl
  .exact⟨_,zz,fun v e=>by cases e⟩
  .exact⟨_,pp,fun v e=>by cases e⟩
  .exact⟨_,oo,fun v e=>by cases e⟩
  .obtain⟨o,e,_,hd⟩:=cc.obj;exact⟨o,e,fun v e'=>by rw[hd]at e';cases e'⟩
  .obtain⟨o,e,_,hd⟩:=dd.obj;exact⟨o,e,fun v e'=>by rw[hd]at e';cases e'⟩
 keep:=fun i h h' st k=>by
  obtain⟨zz,pp,⟨a,a',oo⟩,cc,dd⟩:=st;exact⟨k z (by simp) _ zz,k Pr (by simp) _ pp,⟨a,a',k O (by simp) _ oo⟩,cc.to fun o e=>k c (by simp) o e,dd.to fun o e=>k d (by simp) o e⟩
 item:=by
  intro X hP hw hK hc i a_ s σ H E I hf st hg;subst hP hw hK;obtain⟨xs,ys,x,y,h1,h2,hx,hy⟩:=hg;obtain⟨is,ri,sp⟩:=I.seqV h1;obtain⟨js,rj,sq⟩:=I.seqV h2;obtain⟨ux,e1,r1⟩:=ri.get hx;obtain⟨uy,e2,r2⟩:=rj.get hy;refine mK (I.ok.hd hc) ap st sp sq (fun vx vy JN JM h' Z' new sz k=>?_) fun hn=>?_
  .have ex:vx=ux:=by simp at JN;rw[e1]at JN;exact(Z9 JN).symm
   have ey:vy=uy:=by simp at JM;rw[e2]at JM;exact(Z9 JM).symm
   subst ex ey;refine⟨_,rfl,?_⟩
   have hT:H s.heap.objs.size=none:=I.hok.fresh (ZU _);have nT:∀b∈[z,Pr,O,c,d],b≠s.heap.objs.size:=fun b hb e=>by
    obtain⟨o,g,_⟩:=(show ∀b∈[z,Pr,O,c,d],∃o,s.heap.get? b=some o/\∀v,o.data≠.cell v from fun b hb=>by
     obtain⟨zz,pp,⟨a,a',oo⟩,cc,dd⟩:=st;simp only[ZX,Ze,Yy]at hb
     rcases hb with rfl|rfl|rfl|rfl|rfl
     .exact⟨_,zz,fun v e=>by cases e⟩
     .exact⟨_,pp,fun v e=>by cases e⟩
     .exact⟨_,oo,fun v e=>by cases e⟩
     .obtain⟨o,e,_,hd⟩:=cc.obj;exact⟨o,e,fun v e'=>by rw[hd]at e';cases e'⟩
     .obtain⟨o,e,_,hd⟩:=dd.obj;exact⟨o,e,fun v e'=>by rw[hd]at e';cases e'⟩) b hb
    rw[e]at g;exact absurd (ZO g) (Y5 _)
   have I1:Inv X a_ σ (upd H s.heap.objs.size (.tup [x,y])) {s with heap:=h'}:=I.turnLay (t':=s.toks) k hf (ZU _) ⟨by show 2<=sizeLine;decide,[vx,vy],.cons r1 (.cons r2 .nil),⟨_,new,rfl,_,rfl⟩⟩
   obtain⟨zz,pp,oo,cc,dd⟩:=Z';have nd:=ap.nd;simp only[YN,ZX,Ze,Yy,Xf,Y3,and_true,not_false_eq_true]at nd;refine wpAny_letOwnedTupleGo_zip zz fun g2 z2 m2=>?_
   have hz:=hf z (by simp)
   refine⟨.ref s.heap.objs.size,upd H s.heap.objs.size (.tup [x,y]),I1.turned (t':=s.toks) (fun b o hb e=>aj m2 hb e) (by rw[ai (nT z (by simp))];exact hz.1) hz.2.1 hz.2.2.2.1 hz.2.2.2.2.1 hz.2.2.2.2.2,rfl,
    ⟨s.heap.objs.size,x,y,hT,rfl,rfl,fun xs' h=>by rw[I.seqV_inj h h1];exact hx,fun RW h=>by rw[I.seqV_inj h h2];exact hy⟩,?_,fun b hb=>by rw[ai (nT b hb)];exact(hf b hb).1⟩
   obtain⟨a,a',oo⟩:=oo;exact⟨z2,aj m2 (Zy nd.1.1) pp,⟨a,a',aj m2 (Zy nd.1.2.1) oo⟩,cc.to fun o e=>aj m2 (Zy nd.1.2.2.1) e,dd.to fun o e=>aj m2 (Zy nd.1.2.2.2) e⟩
  .exfalso
   rcases hn with hn|hn
   .simp at hn;have:=(ZW.mp e1).1;lia
   .simp at hn;have:=(ZW.mp e2).1;lia
 done:=by
  intro X hP hw hK hc i a_ s σ H E I hf st hg;subst hP hw hK;obtain⟨xs,ys,h1,h2,hl⟩:=hg;obtain⟨is,ri,sp⟩:=I.seqV h1;obtain⟨js,rj,sq⟩:=I.seqV h2;have l1:=ri.length;have l2:=rj.length;refine mK (I.ok.hd hc) ap st sp sq (fun vx vy JN JM h' Z' new sz k=>?_) fun hn h' k=>⟨rfl,I.turns (t':=s.toks) k hf⟩
  exfalso;simp at JN JM;have a1:=(ZW.mp JN).1
  have a2:=(ZW.mp JM).1
  lia
 self:=fun _ _ _ _ _ st h=>wpAny_pyIter_zip st.zz h
end L2
namespace L2
open PySem PySem.Spec PyProof.Rows
variable[Lams]
def itO(t:Bool)(p:Z2):Obj:={cls:=.type (if t=true then "tuple_iterator" else "list_iterator"),data:=.fields #[.ref p,.int 0 0]}
def db{prog:ZC}{w:Zo}{A:Zu}{E:Z7->Z4->Prop}{s:Z4}{t:Bool}{p:Z2}{xs:Array Z7}{Q:Z7->Z4->Prop}(hp:SqAt t s.heap p xs)(h:Q (.ref s.heap.objs.size) {s with heap:=s.heap.push (itO t p)}):wpAny (model prog w) A (pyIter (.ref p)) Q E s:=by
 cases t with
 |true=>exact wpAny_pyIter_tuple hp h
 |false=>exact WY hp h
def zO(a b:Z7):Obj:={cls:=.type "tuple",data:=.seq #[a,b]}
noncomputable def u7(t u:Bool)(h:Heap)(p q:Z2):Heap:=
 ((((h.push (itO t p)).push (itO u q)).push (zO (.ref h.objs.size) (.ref (h.push (itO t p)).objs.size))).push (zO .none .none)).push
  {cls:=.type "zip",data:=.fields #[.none,.bool false,.bool false,.ref ((h.push (itO t p)).push (itO u q)).objs.size,.ref (((h.push (itO t p)).push (itO u q)).push (zO (.ref h.objs.size) (.ref (h.push (itO t p)).objs.size))).objs.size]}
def xZ(t u:Bool)(p q:Z2)(xs ys:Array Z7):
  Meets (Builtin.«zip.__new__» ⟨[.type "zip",.ref p,.ref q],[]⟩) (fun _ R s=>SqAt t s.heap p xs/\SqAt u s.heap q ys/\
   R (.ok (.ret (.ref (((((s.heap.push (itO t p)).push (itO u q)).push (zO (.ref s.heap.objs.size) (.ref (s.heap.push (itO t p)).objs.size))).push (zO .none .none)).objs.size)))) {s with heap:=u7 t u s.heap p q}):=
 .of_wp fun prog w A R s h=>by
  obtain⟨hp,g,d,tk,os⟩:=s;obtain⟨h1,h2,h⟩:=h;have Hd:=sub_zip;have k1:SqAt t (Shared.heap ⟨hp,g,d,tk,os⟩) p xs:=h1;have k2:SqAt u (Shared.heap ⟨hp.push (itO t p),g,d,tk,os⟩) q ys:=h2.to fun o e=>Z6 _ e
  wp_walk using db k1,db k2
  exact⟨_,rfl,h⟩
def ut{prog:ZC}{w:Zo}{A:Zu}{E:Z7->Z4->Prop}{s:Z4}{t u:Bool}{p q:Z2}{xs ys:Array Z7}{Q:Z7->Z4->Prop}(hp:SqAt t s.heap p xs)(hq:SqAt u s.heap q ys)
  (h:∀z P O c d h',Ap z P O c d p q->Zp t u h' z P O c d p q 0 .none->(∀b∈[z,P,O,c,d],s.heap.objs.size<=b)->(∀b o,s.heap.get? b=some o->h'.get? b=some o)->Q (.ref z) {s with heap:=h'}):
  wpAny (model prog w) A (call (.type "zip") [.ref p,.ref q]) Q E s:=by
 refine callType_new F.called_zip (by decide) (F.typeCall_zip_2 _ _) (F.newCall_zip_2 _ _) (fun obj=>F.args_object_init_3 obj _ _) F.entry_zip_new (xZ t u p q xs ys) ⟨hp,hq,?_⟩
 have lp:p<s.heap.objs.size:=by cases t<;>(obtain⟨o,e,_⟩:=hp;exact ZO e)
 have lq:q<s.heap.objs.size:=by cases u<;>(obtain⟨o,e,_⟩:=hq;exact ZO e)
 generalize e1:s.heap.push (itO t p)=k1;generalize e2:k1.push (itO u q)=k2;generalize e3:k2.push (zO (.ref s.heap.objs.size) (.ref k1.objs.size))=k3;generalize e4:k3.push (zO .none .none)=k4;have hL:u7 t u s.heap p q=k4.push {cls:=.type "zip",data:=.fields #[.none,.bool false,.bool false,.ref k2.objs.size,.ref k3.objs.size]}:=by unfold u7;rw[e1,e2,e3,e4]
 have s1:k1.objs.size=s.heap.objs.size+1:=by rw[<-e1];exact YJ ..
 have s2:k2.objs.size=s.heap.objs.size+2:=by rw[<-e2,YJ,s1]
 have s3:k3.objs.size=s.heap.objs.size+3:=by rw[<-e3,YJ,s2]
 have s4:k4.objs.size=s.heap.objs.size+4:=by rw[<-e4,YJ,s3]
 have u1:∀{b o},s.heap.get? b=some o->k1.get? b=some o:=fun e=>by rw[<-e1];exact Z6 _ e
 have u2:∀{b o},k1.get? b=some o->k2.get? b=some o:=fun e=>by rw[<-e2];exact Z6 _ e
 have u3:∀{b o},k2.get? b=some o->k3.get? b=some o:=fun e=>by rw[<-e3];exact Z6 _ e
 have u4:∀{b o},k3.get? b=some o->k4.get? b=some o:=fun e=>by rw[<-e4];exact Z6 _ e
 have u5:∀{b o},k4.get? b=some o->(u7 t u s.heap p q).get? b=some o:=fun e=>by rw[hL];exact Z6 _ e
 have z5:IsZip (u7 t u s.heap p q) k4.objs.size k2.objs.size k3.objs.size .none:=by rw[hL];exact ZT _ rfl
 have o5:IsPair (u7 t u s.heap p q) k3.objs.size .none .none:=u5 (by rw[<-e4];exact ZT _ rfl)
 have p5:IsPair (u7 t u s.heap p q) k2.objs.size (.ref s.heap.objs.size) (.ref k1.objs.size):=u5 (u4 (by rw[<-e3];exact ZT _ rfl))
 have d5:(u7 t u s.heap p q).get? k1.objs.size=some (itO u q):=u5 (u4 (u3 (by rw[<-e2];exact ZT _ rfl)))
 have c5:(u7 t u s.heap p q).get? s.heap.objs.size=some (itO t p):=u5 (u4 (u3 (u2 (by rw[<-e1];exact ZT _ rfl))))
 refine⟨⟨_,z5,rfl⟩,h k4.objs.size k2.objs.size k3.objs.size s.heap.objs.size k1.objs.size _ ⟨?_,?_,?_⟩ ⟨z5,p5,⟨_,_,o5⟩,?_,?_⟩ ?_ fun b o e=>u5 (u4 (u3 (u2 (u1 e))))⟩
 .rw[s1,s2,s3,s4]
  simp only[YN,ZX,Ze,Yy,Xf,Y3,and_true,not_false_eq_true];refine⟨⟨?_,?_,?_,?_⟩,⟨?_,?_,?_⟩,⟨?_,?_⟩,?_⟩<;>(intro e;have e':(_:Nat)=_:=e;lia)
 .rw[s1,s2,s3,s4]
  simp only[ZX,Ze,Yy,Xf];have FU:∀k:Nat,p≠s.heap.objs.size+k:=fun k=>Zw (ZA lp (Nat.le_add_right _ k))
  exact⟨FU 4,FU 2,FU 3,FU 0,FU 1⟩
 .rw[s1,s2,s3,s4]
  simp only[ZX,Ze,Yy,Xf];have FU:∀k:Nat,q≠s.heap.objs.size+k:=fun k=>Zw (ZA lq (Nat.le_add_right _ k))
  exact⟨FU 4,FU 2,FU 3,FU 0,FU 1⟩
 .cases t<;>exact⟨_,c5,rfl,rfl⟩
 .cases u<;>exact⟨_,d5,rfl,rfl⟩
 .rw[s1,s2,s3,s4]
  intro b hb;simp only[ZX,Ze,Yy]at hb;have:(s.heap.objs.size:Nat)<=(b:Nat):=by rcases hb with rfl|rfl|rfl|rfl|rfl<;>lia
  exact this
section
variable{X:Cx}{elts:List Expr}{x1:Nat}{tp:Pos}
noncomputable def Ex(t u:Bool)(K:Z5)(ta:TA):TI:=fun σ H R=>ta σ H fun vs H1=>∃p q,vs=[.ref p,.ref q]/\(∃xs,SqV t K H1 p xs)/\(∃ys,SqV u K H1 q ys)/\R (Itz t u K p q) H1
def zI{t u:Bool}{a b:Expr}{ta:TA}{p pos:Pos}(hg:Gl X "zip")(hm:X.mg "zip"=none)(ha:PA X [a,b] ta)(hs:starEach [a,b] X.env=[(false,eval a X.env),(false,eval b X.env)]:=by rfl)(Gj:starEach [b] X.env=[(false,eval b X.env)]:=by rfl):
  PI X (.Tuple elts x1 tp) (.Call (.Name "zip" p) [a,b] [] pos) (Ex t u X.K ta):=by
 intro a_ s σ H R I h;refine Call_ (d6 I hg hm boot_zip (X3 (thn (ha pos a_ s σ H _ I h) fun us s1 ⟨vs,H1,I1,r1,q1⟩=>?_) (by rw[hs,Gj]) (by rw[Gj];rfl)))
 obtain⟨l1,l2,e,⟨xs,h1⟩,⟨ys,h2⟩,q⟩:=q1;subst e;cases r1 with
 |cons r rr=>
  cases rr with
  |cons r' rr=>
   cases rr;cases r;cases r';obtain⟨is,ri,sp⟩:=I1.seqV h1;obtain⟨js,rj,sq⟩:=I1.seqV h2;refine ut sp sq fun z P O c d h' ap Z hi k=>?_
   have I2:Inv X a_ σ H1 {s1 with heap:=h'}:=I1.kept (t':=s1.toks) k
   refine wpAny_pyIter_zip (s:={s1 with heap:=h'}) Z.zz ⟨z,[z,P,O,c,d],_,_,H1,rfl,I2,vp ap,Z,fun b hb=>?_,q⟩
   have hn:H1 b=none:=I1.hok.fresh (hi b hb);obtain⟨f0,f1,f2,f3,f4,f5⟩:=I1.fpOk (hi b hb) hn;exact⟨f0,f1,f2,f3,f4,f5⟩
def cX:List D->List D->List D
 |d::ds,e::es=>.tup [d,e]::cX ds es
 |_,_=>[]
theorem jS:∀(ds es:List D)(i:Nat)(x:D),(cX ds es)[i]?=some x->∃d e,ds[i]?=some d/\es[i]?=some e/\x=.tup [d,e]
 |[],_,i,x,h=>by simp[cX]at h
 |d::ds,[],i,x,h=>by simp[cX]at h
 |d::ds,e::es,0,x,h=>by simp[cX]at h;exact⟨d,e,rfl,rfl,h.symm⟩
 |d::ds,e::es,i+1,x,h=>by simp[cX]at h;simpa using jS ds es i x h
theorem jI:∀ds es:List D,(cX ds es).length=min ds.length es.length
 |[],_=>by simp[cX]
 |d::ds,[]=>by simp[cX]
 |d::ds,e::es=>by simp[cX,jI ds es]
def Ac(t:Bool)(x:Z_ D):Z_ (List D):=if t=true then tZ x else cf x
def zH(t u:Bool)(x y:Z_ D):Z_ (List D):=ae (Ac t x) fun ds=>ae (Ac u y) fun es=>some (cX ds es)
def nh{K:Z5}{B:Z2->Prop}{H:Hp}{t:Bool}{x:Z_ D}{ds:List D}{v:V}{d:D}(h:Ac t x=some ds)(e:x=some d)(r:Rep K B H d v):∃l xs,v=.ref l/\Reps K B H ds xs/\∀H',Ext B H H'->SqV t K H' l xs:=by
 cases t with
 |true=>
  have:=ky h;rw[e]at this;obtain rfl:=Z9 this;simp only[Rep]at r;obtain⟨l,xs,rfl,hq,rs⟩:=r;exact⟨l,xs,rfl,rs,fun H' x=>SqT.of (x.tups _ _ hq)⟩
 |false=>
  have:=ji h;rw[e]at this;obtain rfl:=Z9 this;simp only[Rep]at r;obtain⟨l,xs,rfl,hq,rs⟩:=r;exact⟨l,xs,rfl,rs,fun H' x=>(hq.ext x).sq⟩
theorem Al{t u m:Bool}{a b:Expr}{fa fb:DEnv->Z_ D}{p pos:Pos}(g:Gl X "zip")(hm:X.mg "zip"=none)(h:DE X m a fa)(h':DE X m b fb)(hs:starEach [a,b] X.env=[(false,eval a X.env),(false,eval b X.env)]:=by rfl)(Gj:starEach [b] X.env=[(false,eval b X.env)]:=by rfl):
  DI X m (.Tuple elts x1 tp) (.Call (.Name "zip" p) [a,b] [] pos) (fun δ=>zH t u (fa δ) (fb δ)):=
 (zI (t:=t) (u:=u) g hm (aw h (aw h' aO Gj) (by rw[hs,Gj])) hs Gj).imp fun σ H Q hz=>by
  obtain⟨B,Hk,δ,ds,R,e,k⟩:=hz;obtain⟨as,q1,e⟩:=ak e;obtain⟨bs,q2,e⟩:=ak e;obtain rfl:=Z9 e;obtain⟨d1,e1⟩:∃d,fa δ=some d:=by
   cases q:fa δ with
   |none=>rw[q]at q1;cases t<;>trivial
   |some d=>exact⟨d,rfl⟩
  obtain⟨d2,e2⟩:∃d,fb δ=some d:=by
   cases q:fb δ with
   |none=>rw[q]at q2;cases u<;>trivial
   |some d=>exact⟨d,rfl⟩
  refine two R e1 e2 fun v w H' s R' r1 r2=>?_
  obtain⟨l1,xs,rfl,PJ,NH⟩:=nh q1 e1 r1;obtain⟨l2,ys,rfl,Ip,NG⟩:=nh q2 e2 r2;refine⟨l1,l2,rfl,⟨xs,NH _ Ext.refl⟩,⟨ys,NG _ Ext.refl⟩,k _ H' s fun H2 x=>?_⟩
  have hx:=NH H2 x;have hy:=NG H2 x;have rx:=PJ.ext x;have ry:=Ip.ext x;refine⟨⟨xs,ys,hx,hy,?_⟩,fun i d hd=>?_⟩
  .rw[jI,<-rx.length,<-ry.length];lia
  .obtain⟨d1,d2,g1,g2,rfl⟩:=jS _ _ _ _ hd
   obtain⟨y1,w1,z1⟩:=rx.get g1;obtain⟨y2,w2,z2⟩:=ry.get g2;refine⟨⟨xs,ys,y1,y2,hx,hy,w1,w2⟩,fun v H3 ⟨T,v1,v2,hT,ev,e3,n1,n2⟩=>?_⟩
   have:=n1 xs hx;rw[w1]at this;obtain rfl:=Z9 this;have:=n2 ys hy;rw[w2]at this;obtain rfl:=Z9 this;have sm:Same H2 (upd H2 T (.tup [y1,y2])):=au hT;have bo:∀a,ba m B δ σ a->∃o:HOn,H2 a=some o.1:=fun a ha=>by
    obtain⟨o,ho⟩:=R'.bsH m a ha;exact⟨o,(x.lent a ha).trans ho⟩
   have ex:=sm.ext bo;rw[e3,ev];refine⟨sm,?_⟩
   simp only[Rep];exact⟨T,[y1,y2],rfl,ag,Reps.cons (z1.ext ex) (Reps.cons (z2.ext ex) Reps.nil)⟩
end
end L2
namespace L2
open PySem PySem.Spec PyProof.Rows
def eJ{α β:Type}(f:α->β):∀{l1 l2:List β},l1.Perm l2->∀l:List α,l2=l.map f->∃l':List α,l'.Perm l/\l1=l'.map f:=by
 intro l1 l2 p
 induction p with
 |nil=>intro l h;exact⟨l,YX _,h⟩
 |cons x p ih=>
  intro l h;cases l with
  |nil=>trivial
  |cons a l=>
   simp only[Z1,Yv]at h;obtain⟨l',p',e'⟩:=ih l h.2;exact⟨a::l',List.Perm.cons a p',by rw[Z1,h.1,e']⟩
 |swap x y l0=>
  intro l h;cases l with
  |nil=>trivial
  |cons a l=>
   cases l with
   |nil=>cases h
   |cons b l=>
    simp only[Z1,Yv]at h;exact⟨b::a::l,List.Perm.swap a b l,by rw[Z1,Z1,h.1,h.2.1,h.2.2]⟩
 |trans p q Md Mc=>
  intro l h;obtain⟨l2,p2,e2⟩:=Mc l h;obtain⟨l1,p1,e1⟩:=Md l2 e2;exact⟨l1,p1.trans p2,e1⟩
def uS:List Str->List Str
 |[]=>[]
 |x::l=>if x∈l then uS l else x::uS l
theorem i8(x:Str):∀l:List Str,x∈uS l↔x∈l
 |[]=>Iff.rfl
 |d::l=>by
  unfold uS;split
  .rename_i h
   rw[i8 x l,ZX];exact⟨.inr,fun z=>z.elim (fun e=>e▸h) id⟩
  .rw[ZX,ZX,i8 x l]
theorem eG:∀l:List Str,(uS l).Nodup
 |[]=>Y3
 |d::l=>by
  unfold uS;split
  .exact eG l
  .rename_i h
   exact YN.mpr ⟨fun z=>h ((i8 d l).mp z),eG l⟩
theorem wP:∀l:List Str,(uS l).length<=l.length
 |[]=>ZU _
 |d::l=>by
  have:=wP l;unfold uS;split<;>simp<;>lia
abbrev cO(w:Zo):Bool:=!w.params.followText "set-order"
def az:Slot "set_iterator" "__next__" "set_iterator.__next__":=
 .of (owner:="set_iterator") (n:="__next__") (by rw[WH,Xp];kernel_rfl) (by decide +kernel) (by decide +kernel) (by decide +kernel)
  (by first|exact .inl (by decide +kernel)|exact .inr (by decide +kernel)) (by rw[XN];kernel_rfl)
def bp:entryFor table "set_iterator.__next__"=some Builtin.«set_iterator.__next__»:=entryFor_of_tree (by kernel_rfl)
def dZ:Slot "set_iterator" "__iter__" "set_iterator.__iter__":=
 .of (owner:="set_iterator") (n:="__iter__") (by rw[WH,Xp];kernel_rfl) (by decide +kernel) (by decide +kernel) (by decide +kernel)
  (by first|exact .inl (by decide +kernel)|exact .inr (by decide +kernel)) (by rw[XN];kernel_rfl)
def iq:entryFor table "set_iterator.__iter__"=some Builtin.«dict_keyiterator.__iter__»:=
 entryFor_alias (id':="dict_keyiterator.__iter__") (by kernel_rfl) rfl (by decide +kernel) (by kernel_rfl)
def fF:entryFor table "set.__iter__"=some Builtin.«frozenset.__iter__»:=
 entryFor_alias (id':="frozenset.__iter__") (by kernel_rfl) rfl (by decide +kernel) (by kernel_rfl)
def bC(a:Z7):argsOk "set_iterator.__next__" ⟨[a],[]⟩:=by
 unfold argsOk;kernel_rfl
def jt(a:Z7):argsOk "set_iterator.__iter__" ⟨[a],[]⟩:=by
 unfold argsOk;kernel_rfl
def bP{α:Type}{l:List α}{i:Nat}(h:i<l.length):(l[i]::l.eraseIdx i).Perm l:=by
 rw[XA];refine List.perm_middle.symm.trans ?_
 rw[<-Zf h,X4]
theorem gG{prog:ZC}{w:Zo}{A:Zu}{E:Z7->Z4->Prop}{α:Type}:∀(n:Nat)(xs:List α)(s:Z4)(Q:List α->Z4->Prop),xs.length=n->
  (∀ys d,ys.Perm xs->Q ys {s with drawn:=d})->wpAny (model prog w) A (drawOrder n xs) Q E s
 |0,xs,s,Q,hl,hQ=>by
  have:xs=[]:=Yd.mp hl;subst this;unfold drawOrder;exact Z3 (hQ [] s.drawn (YX _))
 |n+1,[],s,Q,hl,hQ=>by trivial
 |n+1,x::xs,s,Q,hl,hQ=>by
  unfold drawOrder;refine Z8 (Q:=Q) ?_
  intro Γ p Sh;refine⟨by simp,?_⟩
  generalize hd:s.drawn.bump .order=d1;generalize hi:(model prog w).w.draws .order (s.drawn.get .order)%(x::xs).length=i;have ka:i<(x::xs).length:=by rw[<-hi];exact Nat.mod_lt _ (by simp)
  have key:wpAny (model prog w) A (match(x::xs)[i]? with|some y=>(do return y::(<-drawOrder n ((x::xs).eraseIdx i)))|none=>unsupported "internal:drawOrder") Q E {s with drawn:=d1}:=by
   rw[Y4 ka]
   dsimp only;refine Z8 (gG n ((x::xs).eraseIdx i) _ _ (by rw[List.length_eraseIdx_of_lt ka,hl];rfl) fun ys d hp=>?_)
   refine Z3 (hQ _ d ?_)
   exact(List.Perm.cons _ hp).trans (bP ka)
  exact key
theorem qZ{α:Type}(f:Nat->Nat):∀(fuel k:Nat)(left:List α)(out:Array α),fuel=left.length->(pickOrder.go f fuel k left out).toList.Perm (out.toList++left)
 |0,k,left,out,h=>by
  have:left=[]:=Yd.mp h.symm;subst this;unfold pickOrder.go;simp
 |fuel+1,k,left,out,h=>by
  unfold pickOrder.go;have ka:f k%left.length<left.length:=Nat.mod_lt _ (by lia)
  rw[Y4 ka]
  dsimp only;refine(qZ f fuel (k+1) _ _ (by rw[List.length_eraseIdx_of_lt ka];lia)).trans ?_
  rw[Yw,Zg];exact List.Perm.append_left _ (bP ka)
def rG{α:Type}(f:Nat->Nat)(xs:Array α):(pickOrder f xs).toList.Perm xs.toList:=by
 unfold pickOrder
 simpa using qZ f xs.size 0 xs.toList #[] (by simp)
def ul{es:List (Int×Z7)}{order:List Nat}(h:order.Perm (List.range es.length)):(order.filterMap (es[·]?)).Perm es:=by
 have h1:=h.filterMap (es[·]?)
 rwa[List.filterMap_getElem?_range_length]at h1
structure SetIs (h:Heap)(S:Z2)(es:List (Int×Z7))(ep:Nat)(t:SetTable):Prop where
 ob:∃o,h.get? S=some o/\o.ExactSet/\o.data=.set es.toArray ep t
 fits:t.fits es.toArray.size=true
def SetIs.at{h h':Heap}{S:Z2}{es:List (Int×Z7)}{ep:Nat}{t:SetTable}(x:SetIs h S es ep t)(k:∀o,h.get? S=some o->h'.get? S=some o):SetIs h' S es ep t:=by
 obtain⟨⟨o,ho,r⟩,a⟩:=x;exact⟨⟨o,k o ho,r⟩,a⟩
def IterAt(h:Heap)(I:Z2)(first:Z7)(i:Nat)(S:Z2)(n ep:Nat):Prop:=∃o,h.get? I=some o/\o.cls=.type "set_iterator"/\o.data=.fields #[first,rawInt i,.ref S,rawInt n,rawInt ep]
def IterAt.typeIs{s:Z4}{I S:Z2}{first:Z7}{i n ep:Nat}(x:IterAt s.heap I first i S n ep):s.TypeIs (.ref I) "set_iterator":=by
 obtain⟨o,ho,hc,_⟩:=x;exact⟨o,ho,hc⟩
def IterAt.at{h h':Heap}{I S:Z2}{first:Z7}{i n ep:Nat}(x:IterAt h I first i S n ep)(k:∀o,h.get? I=some o->h'.get? I=some o):IterAt h' I first i S n ep:=by
 obtain⟨o,ho,r⟩:=x;exact⟨o,k o ho,r⟩
section
variable{prog:ZC}{w:Zo}{A:Zu}{E:Z7->Z4->Prop}{s:Z4}{I S:Z2}{es:List (Int×Z7)}{ep:Nat}{t:SetTable}{i:Nat}
def jN{sl nx:Nat}{v:Z7}{Q:Z_ Z7->Z4->Prop}(Fc:S≠I)(it:IterAt s.heap I (rawInt sl) i S es.length ep)(st:SetIs s.heap S es ep t)
  (hn:∀(s:Z4)(R:Z_ (Z7×Nat)->Z4->Prop)(E:Z7->Z4->Prop),SetIs s.heap S es ep t->R (some (v,nx)) s->wpAny (model prog w) A.in1 (setNext S sl i ep) R E s)
  (hQ:∀h',IterAt h' I (rawInt nx) (i+1) S es.length ep->(∀b o,b≠I->s.heap.get? b=some o->h'.get? b=some o)->Q (some v) {s with heap:=h'}):wpAny (model prog w) A (pyNext (.ref I)) Q E s:=by
 have hT:=it.typeIs;obtain⟨o,ho,hc,hd⟩:=it;unfold pyNext;refine Z8 (XT (YC (name:=Str.ofString "__next__") hT az (Y_ az hT bp ?_ (bC _))))
 unfold Builtin.«set_iterator.__next__»;refine Z8 (m:=slotArgs "__next__" 0 _) (Z3 ?_)
 dsimp only;refine Z8 (Xb ho hd ?_)
 dsimp only[rawInt];obtain⟨os,Fs,hex,FE⟩:=st.ob;refine Z8 (XE Fs FE st.fits ?_)
 rw[ZY (by simp)]
 simp only[Int.toNat_natCast];refine Z8 (hn s _ _ st ?_)
 dsimp only;refine Z8 (Yu ho hd (by simp) ?_)
 have g1:=Zi (Obj.mapFields (·.setIfInBounds 0 (rawInt nx))) ho (Yj (Y9 hd _))
 refine Z8 (Yu g1 (Y9 hd _) (by simp) ?_)
 have g2:=Zi (Obj.mapFields (·.setIfInBounds 1 (rawInt ((i:Int)+1)))) g1 (Yj (Y9 (Y9 hd _) _))
 refine Z3 ⟨_,rfl,Z3 (hQ _ ?_ ?_)⟩
 .exact⟨_,g2,(Xs ..).trans ((Xs ..).trans hc),by rw[Y9 (Y9 hd _)];simp[rawInt]⟩
 .intro b o' hb e
  exact(Zr _ _ (Zy hb)).trans ((Zr _ _ (Zy hb)).trans e)
def il{T:Z2}{ps:List Nat}{p:Nat}{e:Int×Z7}{Q:Z_ Z7->Z4->Prop}(Fc:S≠I)(it:IterAt s.heap I (.ref T) i S es.length ep)(st:SetIs s.heap S es ep t)(ht:∃o n,s.heap.get? T=some o/\o.data=.seq (ps.map fun(k:Nat)=>rawInt k).toArray n)
  (hp:ps[i]?=some p) (he:es[p]?=some e)
  (hQ:∀h',IterAt h' I (.ref T) (i+1) S es.length ep->(∀b o,b≠I->s.heap.get? b=some o->h'.get? b=some o)->Q (some e.2) {s with heap:=h'}):wpAny (model prog w) A (pyNext (.ref I)) Q E s:=by
 have hT:=it.typeIs;obtain⟨o,ho,hc,hd⟩:=it;unfold pyNext;refine Z8 (XT (YC (name:=Str.ofString "__next__") hT az (Y_ az hT bp ?_ (bC _))))
 unfold Builtin.«set_iterator.__next__»;refine Z8 (m:=slotArgs "__next__" 0 _) (Z3 ?_)
 dsimp only;refine Z8 (Xb ho hd ?_)
 dsimp only[rawInt];obtain⟨os,Fs,hex,FE⟩:=st.ob;refine Z8 (XE Fs FE st.fits ?_)
 rw[ZY (by simp)]
 simp only[Int.toNat_natCast];obtain⟨oT,nT,Mu,MC⟩:=ht;refine Z8 (Yo Mu MC ?_)
 dsimp only;have e1:(ps.map fun(k:Nat)=>rawInt k).toArray[i]?=some (rawInt p):=by simp[hp]
 rw[e1];dsimp only[rawInt];simp only[Int.toNat_natCast];refine Z8 ?_
 unfold setNextDrawn;refine Z8 (XQ Fs FE st.fits ?_)
 dsimp only;rw[ZY (by simp)]
 have e2:es.toArray[p]?=some e:=by simp[he]
 rw[e2];dsimp only;refine Z3 ?_
 refine Z8 (Yu ho hd (by simp) ?_)
 have g2:=Zi (Obj.mapFields (·.setIfInBounds 1 (rawInt ((i:Int)+1)))) ho (Yj (Y9 hd _))
 refine Z3 ⟨_,rfl,Z3 (hQ _ ?_ ?_)⟩
 .exact⟨_,g2,(Xs ..).trans hc,by rw[Y9 hd];simp[rawInt]⟩
 .intro b o' hb e
  exact(Zr _ _ (Zy hb)).trans e
def kG{sl:Nat}{Q:Z_ Z7->Z4->Prop}(hh:A.handled=none)(it:IterAt s.heap I (rawInt sl) i S es.length ep)(st:SetIs s.heap S es ep t)
  (hn:∀(s:Z4)(R:Z_ (Z7×Nat)->Z4->Prop)(E:Z7->Z4->Prop),SetIs s.heap S es ep t->R none s->wpAny (model prog w) A.in1 (setNext S sl i ep) R E s)
  (hQ:∀h',(∀b o,b≠I->s.heap.get? b=some o->h'.get? b=some o)->Q none {s with heap:=h'}):wpAny (model prog w) A (pyNext (.ref I)) Q E s:=by
 have hT:=it.typeIs;obtain⟨o,ho,hc,hd⟩:=it;unfold pyNext;refine Z8 (XT (YC (name:=Str.ofString "__next__") hT az (Y_ az hT bp ?_ (bC _))))
 unfold Builtin.«set_iterator.__next__»;refine Z8 (m:=slotArgs "__next__" 0 _) (Z3 ?_)
 dsimp only;refine Z8 (Xb ho hd ?_)
 dsimp only[rawInt];obtain⟨os,Fs,hex,FE⟩:=st.ob;refine Z8 (XE Fs FE st.fits ?_)
 rw[ZY (by simp)]
 simp only[Int.toNat_natCast];refine Z8 (hn s _ _ st ?_)
 dsimp only;refine Z8 (Yu ho hd (by simp) ?_)
 refine Z8 ?_
 simp only[newExc,newTuple];refine Z8 (Zd ?_ (by size_fits))
 refine Z8 (m:=firstArgMember _ _) (WD (a:=Value.none) (by first|rfl|(simp only[firstArgMember];rfl)) ?_)
 refine Zd ?_ (by size_fits)
 simp only[raiseNew];refine Z8 (wpAny_handled ?_)
 rw[show A.in1.handled=none from hh]
 refine Z8 (Z3 (wpAny_throw ?_))
 refine Z8 (Yp (T:="StopIteration") (b:=true) ⟨_,ZT _ rfl,rfl⟩ WB ?_)
 exact Z3 (hQ _ fun b o' hb e=>Z6 _ (Z6 _ ((Zr _ _ (Zy hb)).trans e)))
def ju{T:Z2}{ps:List Nat}{Q:Z_ Z7->Z4->Prop}(hh:A.handled=none)(it:IterAt s.heap I (.ref T) i S es.length ep)(st:SetIs s.heap S es ep t)(ht:∃o n,s.heap.get? T=some o/\o.data=.seq (ps.map fun(k:Nat)=>rawInt k).toArray n)
  (hp:ps[i]?=none)(hQ:∀h',(∀b o,b≠I->s.heap.get? b=some o->h'.get? b=some o)->Q none {s with heap:=h'}):wpAny (model prog w) A (pyNext (.ref I)) Q E s:=by
 have hT:=it.typeIs;obtain⟨o,ho,hc,hd⟩:=it;unfold pyNext;refine Z8 (XT (YC (name:=Str.ofString "__next__") hT az (Y_ az hT bp ?_ (bC _))))
 unfold Builtin.«set_iterator.__next__»;refine Z8 (m:=slotArgs "__next__" 0 _) (Z3 ?_)
 dsimp only;refine Z8 (Xb ho hd ?_)
 dsimp only[rawInt];obtain⟨os,Fs,hex,FE⟩:=st.ob;refine Z8 (XE Fs FE st.fits ?_)
 rw[ZY (by simp)]
 simp only[Int.toNat_natCast];obtain⟨oT,nT,Mu,MC⟩:=ht;refine Z8 (Yo Mu MC ?_)
 dsimp only;have e1:(ps.map fun(k:Nat)=>rawInt k).toArray[i]?=none:=by simpa using hp
 rw[e1];dsimp only;refine Z8 (Yu ho hd (by simp) ?_)
 have g1:=Zi (Obj.mapFields (·.setIfInBounds 0 (rawInt 0))) ho (Yj (Y9 hd _))
 refine Z8 (Yu g1 (Y9 hd _) (by simp) ?_)
 refine Z8 ?_
 simp only[newExc,newTuple];refine Z8 (Zd ?_ (by size_fits))
 refine Z8 (m:=firstArgMember _ _) (WD (a:=Value.none) (by first|rfl|(simp only[firstArgMember];rfl)) ?_)
 refine Zd ?_ (by size_fits)
 simp only[raiseNew];refine Z8 (wpAny_handled ?_)
 rw[show A.in1.handled=none from hh]
 refine Z8 (Z3 (wpAny_throw ?_))
 refine Z8 (Yp (T:="StopIteration") (b:=true) ⟨_,ZT _ rfl,rfl⟩ WB ?_)
 exact Z3 (hQ _ fun b o' hb e=>Z6 _ (Z6 _ ((Zr _ _ (Zy hb)).trans ((Zr _ _ (Zy hb)).trans e))))
def ro{first:Z7}{n:Nat}{Q:Z7->Z4->Prop}(it:IterAt s.heap I first i S n ep)(hQ:Q (.ref I) s):wpAny (model prog w) A (pyIter (.ref I)) Q E s:=by
 refine WZ it.typeIs dZ (Y_ dZ it.typeIs iq ?_ (jt _))
 show wpAny _ _ (ret (.ref I)) _ _ s;exact Z3 ⟨_,rfl,"set_iterator",_,it.typeIs,az.lookup,hQ⟩
end
section
variable{prog:ZC}{w:Zo}{A:Zu}{E:Z7->Z4->Prop}{s:Z4}{S:Z2}{es:List (Int×Z7)}{ep:Nat}{t:SetTable}{i sl:Nat}
theorem gM(a:Z2)(slot given FK:Nat):setNext a slot given FK=(do
  let (es,Ld,t) <-setState a
  if <-setsByText then
   if Ld != FK then unsupported "set_iterator.__next__:elements-changed"
   return ((<-setWalk a)[given]?).map fun e=>(e.2,slot)
  if !t.plain&&es.size>1 then unsupported "set_iterator.__next__:the-table-is-plain-no-more"
  (if(!t.led&&!es.isEmpty)=true then unsupported "set:maker-not-led" else pure ():Sem Unit)
  let i:=SetTable.below t.place slot
  return match es[i]?,t.place[i]? with
   |some (_,x),some j=>some (x,j+1)
   |_,_=>none):=rfl
def jP(hb:w.params.followText "set-order"=true)(st:SetIs s.heap S es ep t){R:Z_ (Z7×Nat)->Z4->Prop}
  (h:R (((pickOrder (w.params.setOrder S ep) es.toArray)[i]?).map fun e=>(e.2,sl)) s):wpAny (model prog w) A (setNext S sl i ep) R E s:=by
 obtain⟨os,Fs,hex,FE⟩:=st.ob;rw[gM];refine Z8 (XQ Fs FE st.fits ?_)
 dsimp only;unfold setsByText;refine Z8 (Z8 (XI (Z3 ?_)))
 show wpAny _ _ (if w.params.followText "set-order"=true then _ else _) _ _ _
 rw[Z0 hb,ZY (by simp)]
 refine Z8 ?_
 unfold setWalk setsByText;refine Z8 (XQ Fs FE st.fits ?_)
 dsimp only;refine Z8 (Z8 (XI (Z3 ?_)))
 show wpAny _ _ (if w.params.followText "set-order"=true then _ else _) _ _ _
 rw[Z0 hb];refine Z8 (XI (Z3 ?_))
 exact Z3 h
def iW(hb:w.params.followText "set-order"=false)(st:SetIs s.heap S es ep t)(FH:t.led=true)(hpl:(!t.plain&&decide (es.toArray.size>1))=false){R:Z_ (Z7×Nat)->Z4->Prop}
  (h:R (match es.toArray[SetTable.below t.place sl]?,t.place[SetTable.below t.place sl]? with|some (_,x),some j=>some (x,j+1)|_,_=>none) s):wpAny (model prog w) A (setNext S sl i ep) R E s:=by
 obtain⟨os,Fs,hex,FE⟩:=st.ob;rw[gM];refine Z8 (XQ Fs FE st.fits ?_)
 dsimp only;unfold setsByText;refine Z8 (Z8 (XI (Z3 ?_)))
 show wpAny _ _ (if w.params.followText "set-order"=true then _ else _) _ _ _
 rw[ZY (by rw[hb];exact Zv),ZY (by rw[hpl];exact Zv),ZY (by rw[FH];simp)]
 refine Z8 (Z3 ?_)
 exact Z3 h
end
def ko(t:SetTable)(i:Nat):Nat:=match i with|0=>0|k+1=>t.place.getD k 0+1
def dY{t:SetTable}{i:Nat}(h1:t.place.size<=1)(hi:i<=t.place.size):SetTable.below t.place (ko t i)=i:=by
 obtain⟨m,⟨l⟩,d,f,le,mo,pl⟩:=t
 match l,h1 with
 |[],_=>cases Nat.le_zero.mp hi;rfl
 |[p],_=>
  match i,hi with
  |0,_=>simp[SetTable.below,SetTable.below.go,ko]
  |1,_=>simp[SetTable.below,SetTable.below.go,ko]
section
variable{prog:ZC}{w:Zo}{A:Zu}{E:Z7->Z4->Prop}{s:Z4}{I S:Z2}{es:List (Int×Z7)}{ep:Nat}{t:SetTable}
def kz{vs:List Z7}{nx:Nat->Nat}(hl:vs.length=es.length)(Qq:∀i (hi:i<vs.length) (s:Z4) (R:Z_ (Z7×Nat)->Z4->Prop) (E:Z7->Z4->Prop),SetIs s.heap S es ep t->R (some (vs[i],nx (i+1))) s->wpAny (model prog w) A.in1 (setNext S (nx i) i ep) R E s)
  (Nj:∀(s:Z4)(R:Z_ (Z7×Nat)->Z4->Prop)(E:Z7->Z4->Prop),SetIs s.heap S es ep t->R none s->wpAny (model prog w) A.in1 (setNext S (nx es.length) es.length ep) R E s)(hh:A.handled=none)(Fc:S≠I):
  Walks prog w A I [I,S] [I] es.length (fun i v=>vs[i]?=some v) (fun i h=>IterAt h I (rawInt (nx i)) i S es.length ep/\SetIs h S es ep t) where
 sub:=fun b hb=>by simp at hb;simp[hb]
 frame:=fun _ _ _ st hk=>⟨st.1.at fun o e=>hk I (by simp) o e,st.2.at fun o e=>hk S (by simp) o e⟩
 item:=fun i s Q E hi st hQ=>jN Fc st.1 st.2 (Qq i (by lia)) fun h' HZ k=>
  hQ _ h' s.toks (Y4 _) ⟨HZ,st.2.at fun o e=>k S o Fc e⟩ fun b o hb e=>k b o (fun z=>hb (by simp[z])) e
 done:=fun s Q E st hQ=>kG hh st.1 st.2 Nj fun h' k=>hQ h' s.toks fun b o hb e=>k b o (fun z=>hb (by simp[z])) e
 self:=fun _ _ _ _ st hQ=>ro st.1 hQ
def k7{T:Z2}{ps:List Nat}(hp:ps.Perm (List.range es.length))(hh:A.handled=none)(Fc:S≠I)(Q0:T≠I):Walks prog w A I [I,S,T] [I] es.length (fun i v=>((ps.filterMap (es[·]?)).map (·.2))[i]?=some v)
  (fun i h=>IterAt h I (.ref T) i S es.length ep/\SetIs h S es ep t/\∃o n,h.get? T=some o/\o.data=.seq (ps.map fun(k:Nat)=>rawInt k).toArray n) where
 sub:=fun b hb=>by simp at hb;simp[hb]
 frame:=fun _ _ _ st hk=>⟨st.1.at fun o e=>hk I (by simp) o e,st.2.1.at fun o e=>hk S (by simp) o e,by obtain⟨o,n,e,r⟩:=st.2.2;exact⟨o,n,hk T (by simp) o e,r⟩⟩
 item:=fun i s Q E hi st hQ=>by
  have hpl:=hp.length_eq;rw[XD]at hpl;have IM:i<ps.length:=by lia
  have Mr:ps[i]<es.length:=Yx.mp (hp.mem_iff.mp (W7 IM));refine il (ps:=ps) (p:=ps[i]) (e:=es[ps[i]]) Fc st.1 st.2.1 st.2.2 (by simp[IM]) (by simp[Mr]) fun h' HZ k=>?_
  refine hQ _ h' s.toks ?_ ⟨HZ,st.2.1.at fun o e=>k S o Fc e,by obtain⟨o,n,e,r⟩:=st.2.2;exact⟨o,n,k T o Q0 e,r⟩⟩ fun b o hb e=>k b o (fun z=>hb (by simp[z])) e
  have e1:ps.filterMap (es[·]?)=ps.map fun k=>es.getD k (0,.none):=by
   have FZ:∀k∈ps,k<es.length:=fun k hk=>Yx.mp (hp.mem_iff.mp hk)
   clear hpl IM Mr hp hi hQ st
   induction ps with
   |nil=>rfl
   |cons k ps ih=>
    have hk:=FZ k (ZV ..);rw[List.filterMap_cons,Y4 hk,Z1,ih fun z hz=>FZ z (ZZ _ hz)]
    simp[hk]
  rw[e1];simp[IM,Mr]
 done:=fun s Q E st hQ=>by
  have hpl:=hp.length_eq;rw[XD]at hpl;exact ju hh st.1 st.2.1 st.2.2 (by rw[YS (by lia)]) fun h' k=>hQ h' s.toks fun b o hb e=>k b o (fun z=>hb (by simp[z])) e
 self:=fun _ _ _ _ st hQ=>ro st.1 hQ
end
theorem lO(a:Z2):setDrawn a=(do
  let (es,_,t) <-setState a
  let Jy <-setsByText
  return !Jy&&(!t.plain&&es.size>1)):=rfl
def sH:typeLookup (.type "set") "__len__"=pure (some (.builtin "set.__len__")):=F.slot_set_len.lookup
section
variable{prog:ZC}{w:Zo}{A:Zu}{E:Z7->Z4->Prop}{s:Z4}{S:Z2}{es:List (Int×Z7)}{ep:Nat}{t:SetTable}
def vc(st:SetIs s.heap S es ep t)(FH:t.led=cO w)(hpl:es.length<=1\/t.plain=false)(hn:es.length<=1000){Q:Z7->Z4->Prop}
  (hQ:∀(I:Z2)(vs:List Z7)(fp:List Z2)(St:Nat->Heap->Prop)(h':Heap)(d:Drawn),vs.Perm (es.map (·.2))->(∀A':Zu,A'.handled=none->Walks prog w A' I fp [I] es.length (fun i v=>vs[i]?=some v) St)->St 0 h'->
   (∀b o,s.heap.get? b=some o->h'.get? b=some o)->s.heap.objs.size<=I->I∈fp->(∀b∈fp,b=S\/s.heap.objs.size<=b)->Q (.ref I) {s with heap:=h',drawn:=d}):wpAny (model prog w) A (pyIter (.ref S)) Q E s:=by
 obtain⟨os,Fs,hex,FE⟩:=id st.ob;have hT:s.TypeIs (.ref S) "set":=⟨os,Fs,hex.1⟩;have GN:S<s.heap.objs.size:=ZO Fs;refine WZ hT F.slot_set_iter (Y_ F.slot_set_iter hT fF ?_ (F.args_set_iter_1 _))
 unfold Builtin.«frozenset.__iter__» Builtin.Frozenset.slot0 slotArgs;simp only[List.isEmpty_nil,YU,ZK,↓reduceIte,bind_assoc,List.length_nil,bne_self_eq_false];unfold Builtin.Frozenset.addrOf Builtin.Frozenset.sizeOf;refine Z8 (Z3 ?_)
 try dsimp only
 refine Z8 (Z3 ?_)
 refine Z8 (Z8 (XE Fs FE st.fits (Z3 ?_)))
 refine Z8 ?_
 rw[lO];refine Z8 (XQ Fs FE st.fits ?_)
 dsimp only;refine Z8 ?_
 unfold setsByText;refine Z8 (XI (Z3 ?_))
 refine Z3 ?_
 have hsz:es.toArray.size=es.length:=by simp
 show wpAny _ _ (if(!w.params.followText "set-order"&&(!t.plain&&decide (es.toArray.size>1)))=true then _ else _) _ _ _
 by_cases LJ:(!w.params.followText "set-order"&&(!t.plain&&decide (es.toArray.size>1)))=true
 .rw[Z0 LJ]
  refine Z8 (gG es.toArray.size (List.range es.toArray.size) s _ (by simp) fun ps d hp=>?_)
  rw[hsz]at hp⊢;have hpl:=hp.length_eq;rw[XD]at hpl;unfold newTuple;refine Z8 (Zd ?_ (by show(ps.map fun(i:Nat)=>rawInt i).toArray.size<=sizeLine;rw[XO];simp;lia))
  have g1:(s.heap.push {cls:=.type "tuple",data:=.seq (ps.map fun(i:Nat)=>rawInt i).toArray}).get? S=some os:=Z6 _ Fs
  refine Z8 (wpAny_setEpoch_of (s:={s with heap:=s.heap.push {cls:=.type "tuple",data:=.seq (ps.map fun(i:Nat)=>rawInt i).toArray},drawn:=d}) g1 FE st.fits ?_)
  unfold newFields;refine Z8 (Zd ?_ (by size_fits))
  refine Z3 ⟨_,rfl,"set_iterator",_,⟨_,ZT _ rfl,rfl⟩,az.lookup,?_⟩
  have Ll:(s.heap.push {cls:=.type "tuple",data:=.seq (ps.map fun(i:Nat)=>rawInt i).toArray}).objs.size=s.heap.objs.size+1:=YJ ..
  refine hQ (s.heap.push {cls:=.type "tuple",data:=.seq (ps.map fun(i:Nat)=>rawInt i).toArray}).objs.size ((ps.filterMap (es[·]?)).map (·.2)) [(s.heap.push {cls:=.type "tuple",data:=.seq (ps.map fun(i:Nat)=>rawInt i).toArray}).objs.size,S,s.heap.objs.size] _ _ d ((ul hp).map _)
   (fun A' Iw=>k7 (T:=s.heap.objs.size) (ps:=ps) (es:=es) (S:=S) (ep:=ep) (t:=t) hp Iw ?_ ?_) ?_ (fun b o e=>Z6 _ (Z6 _ e)) ?_ (by simp) ?_
  .rw[Ll];exact Zw (Nat.lt_succ_of_lt GN)
  .rw[Ll];exact Zw (Yg _)
  .exact⟨⟨_,ZT _ rfl,rfl,rfl⟩,st.at fun o e=>Z6 _ (Z6 _ e),_,_,Z6 _ (ZT _ rfl),rfl⟩
  .rw[Ll];exact Xi _
  .intro b hb
   simp only[ZX,Ze,Yy]at hb
   rcases hb with rfl|rfl|rfl
   .right;rw[Ll];exact Xi _
   .left;rfl
   .right;exact ZU _
 .rw[ZY LJ]
  refine Z8 (Z3 ?_)
  refine Z8 (wpAny_setEpoch_of Fs FE st.fits ?_)
  unfold newFields;refine Z8 (Zd ?_ (by size_fits))
  refine Z3 ⟨_,rfl,"set_iterator",_,⟨_,ZT _ rfl,rfl⟩,az.lookup,?_⟩
  rw[hsz];have fin:∀(vs:List Z7)(St:Nat->Heap->Prop),vs.Perm (es.map (·.2))->(∀A':Zu,A'.handled=none->Walks prog w A' s.heap.objs.size [s.heap.objs.size,S] [s.heap.objs.size] es.length (fun i v=>vs[i]?=some v) St)->
    St 0 (s.heap.push {cls:=.type "set_iterator",data:=.fields [rawInt 0,rawInt 0,.ref S,rawInt es.length,rawInt ep].toArray})->
    Q (.ref s.heap.objs.size) {s with heap:=s.heap.push {cls:=.type "set_iterator",data:=.fields [rawInt 0,rawInt 0,.ref S,rawInt es.length,rawInt ep].toArray}}:=fun vs St hp W h0=>by
   refine hQ s.heap.objs.size vs [s.heap.objs.size,S] St _ s.drawn hp W h0 (fun b o e=>Z6 _ e) (ZU _) (by simp) fun b hb=>?_
   simp only[ZX,Ze,Yy]at hb
   rcases hb with rfl|rfl
   .exact .inr (ZU _)
   .exact .inl rfl
  cases JS:w.params.followText "set-order" with
  |true=>
   have pp:=(rG (w.params.setOrder S ep) es.toArray).map (·.2)
   have pl:=pp.length_eq;simp only[ZJ,Array.length_toList]at pl;refine fin _ _ (by simpa using pp) (fun A' Iw=>kz (S:=S) (ep:=ep) (t:=t) (nx:=fun _=>0) (by simpa using pl) (fun i hi s R E g_ hR=>jP JS g_ ?_) (fun s R E g_ hR=>jP JS g_ ?_) Iw (Zw GN)) ⟨⟨_,ZT _ rfl,rfl,rfl⟩,st.at fun o e=>Z6 _ e⟩
   .rw[Y0 (by simpa using hi)];simpa using hR
   .rw[X6 (by simp[pl])];exact hR
  |false=>
   have Gk:(!t.plain&&decide (es.toArray.size>1))=false:=by
    rw[JS]at LJ
    simpa using LJ
   have h1:es.length<=1:=by
    rcases hpl with h|h
    .exact h
    .rw[h]at Gk;simpa using Gk
   have hl:t.place.size=es.length:=by
    have:=st.fits;unfold SetTable.fits at this;rw[ZH,Zx,hsz]at this;exact this.1
   have hle:t.led=true:=by rw[FH,cO,JS];rfl
   refine fin _ _ (YX _) (fun A' Iw=>kz (S:=S) (ep:=ep) (t:=t) (nx:=ko t) (by simp) (fun i hi s R E g_ hR=>iW JS g_ hle Gk ?_) (fun s R E g_ hR=>iW JS g_ hle Gk ?_) Iw (Zw GN)) ⟨⟨_,ZT _ rfl,rfl,rfl⟩,st.at fun o e=>Z6 _ e⟩
   .have w_:i<es.length:=by simpa using hi
    have IM:i<t.place.size:=by lia
    rw[dY (by lia) (by lia),show es.toArray[i]?=some es[i] by simp[w_],Y0 IM]
    dsimp only;have:ko t (i+1)=t.place[i]+1:=by show t.place.getD i 0+1=_;simp[Array.getD,IM]
    rw[this]at hR
    simpa using hR
   .rw[dY (by lia) (by lia),show es.toArray[es.length]?=none by simp]
    exact hR
def ly(hh:A.handled=none)(st:SetIs s.heap S es ep t)(FH:t.led=cO w)(hpl:es.length<=1\/t.plain=false)(hn:es.length<=1000){Q:List Z7->Z4->Prop}
  (hQ:∀(vs:List Z7)(h':Heap)(d:Drawn)(tk:Nat),vs.Perm (es.map (·.2))->(∀b o,s.heap.get? b=some o->h'.get? b=some o)->s.heap.objs.size<=h'.objs.size->Q vs {s with heap:=h',drawn:=d,toks:=tk}):wpAny (model prog w) A (collect (.ref S)) Q E s:=by
 obtain⟨os,Fs,hex,FE⟩:=id st.ob;have GN:S<s.heap.objs.size:=ZO Fs;unfold collect;refine Z8 (wpAny_runValue (Yz F.entry_proto_collect ?_))
 rw[YI F.plain_proto_collect _];show wpAny _ A.in1 (newList [] >>= fun l=>again (.builtin "list.__iadd__" ⟨[l,.ref S],[]⟩)) _ _ s
 refine Z8 (Zd ?_)
 refine Z3 ⟨X_ WU _,Yz F.entry_list_iadd ?_⟩
 rw[YI WU _];generalize hL:s.heap.objs.size=L;have Nc:SetIs (s.heap.push {cls:=.type "list",data:=.seq ([]:List Z7).toArray}) S es ep t:=st.at fun o e=>Z6 _ e
 have g0:(s.heap.push {cls:=.type "list",data:=.seq ([]:List Z7).toArray}).get? L=some {cls:=.type "list",data:=.seq ([]:List Z7).toArray}:=by rw[<-hL];exact ZT _ rfl
 have Iv:(s.heap.push {cls:=.type "list",data:=.seq ([]:List Z7).toArray}).get? S=some os:=Z6 _ Fs
 have Q1:Shared.TypeIs {s with heap:=s.heap.push {cls:=.type "list",data:=.seq ([]:List Z7).toArray}} (.ref S) "set":=⟨os,Iv,hex.1⟩
 show wpAny _ A.in1 (Builtin.List.listExtendWith (.ref L) (.ref S) (.ref L)) _ _ _;unfold Builtin.List.listExtendWith;refine Z8 (Xg Q1 ?_)
 have h1:Builtin.List.listSameRef (.ref L) (.ref S)=false:=by simp[Builtin.List.listSameRef];rw[<-hL];exact Nat.ne_of_gt GN
 have h2:(Value.type "set"==Value.type "list")=false:=by decide
 have h3:(Value.type "set"==Value.type "tuple")=false:=by decide
 simp only[h1,h2,h3,Bool.or_false,ZK,Za];refine Z8 (vc (s:={s with heap:=s.heap.push {cls:=.type "list",data:=.seq ([]:List Z7).toArray}}) Nc FH hpl hn fun I vs fp St h' d hp W ML hk hI SA QO=>?_)
 have MJ:Shared.TypeIs {s with heap:=h',drawn:=d} (.ref S) "set":=⟨os,hk S os Iv,hex.1⟩
 have gL:h'.get? L=some {cls:=.type "list",data:=.seq ([]:List Z7).toArray}:=hk L _ g0;refine Z8 (YQ ?_)
 unfold Builtin.List.listLengthHint;refine Z8 (XZ MJ sH ?_)
 generalize OC:("set.__len__":String)=Qa
 wp_delta
 rw[show splitId Qa=some ("set","__len__") from by subst OC;decide +kernel]
 subst OC;dsimp only;refine Z8 (Yp (b:=true) MJ (by rw[XN];kernel_rfl) ?_)
 rw[ZY (by decide)]
 rw[Z0 (by decide +kernel)]
 refine Z8 (Xg MJ ?_)
 dsimp only;refine Z3 ?_
 rw[Z0 (by decide +kernel)]
 refine Z8 (YW ?_)
 refine Z8 ?_
 show wpAny _ A.in1 (updateSeq L (·.push .none) >>= fun _=>updateSeq L (·.pop)) _ _ _
 refine Z8 (X0 gL rfl ?_)
 have OS:=Zi (Obj.mapSeq (·.push Value.none)) gL rfl
 refine X0 OS rfl ?_
 have Rj:=Zi (Obj.mapSeq (·.pop)) OS rfl
 have HE:∀b o,b≠L->h'.get? b=some o->((h'.update L (Obj.mapSeq (·.push Value.none))).update L (Obj.mapSeq (·.pop))).get? b=some o:=
  fun b o hb e=>(Zr _ _ (Zy hb)).trans ((Zr _ _ (Zy hb)).trans e)
 have WS:=(W A.in1 (by simp[hh])).toS
 have Q7:L≠S:=by rw[<-hL];exact Nat.ne_of_gt GN
 have ON:L∉fp:=fun hm=>by
  rcases QO L hm with e|e
  .exact Q7 e
  .have e2:s.heap.objs.size+1<=L:=by have:=e;rwa[YJ]at this
   rw[hL]at e2;exact Y5 _ e2
 refine Z3 ⟨X_ Wy _,WA WS (by rw[XO];lia) L ON _ es.length 0 _ _ _ rfl (Zt _)
  (WS.frame 0 ({s with heap:=h',drawn:=d}:Z4) _ s.toks ML (ZU _) fun b hb o e=>HE b o (fun h=>ON (h▸hb)) e) Rj (ItemsOf.nil _) fun s' y_ c' hm G7 k_=>?_⟩
 show wpAny _ A (load L >>= _) _ _ s';refine Z8 (wpAny_load G7 ?_)
 have e1:s'.gens=s.gens:=hm.gens;have e2:s'.drawn=d:=hm.drawn;have e3:s'.os=s.os:=hm.os;obtain⟨QI,SD,F_,Pt,RZ⟩:=s';simp only at e1 e2 e3;subst e1;subst e2;subst e3;refine Z3 (hQ y_.toList QI F_ Pt ?_ (fun b o e=>?_) (by rw[hL];exact W3 (ZO G7)))
 .have:y_.toList=vs:=by
   have N9:=hp.length_eq;rw[ZJ]at N9;apply Xh;intro j
   by_cases hj:j<y_.size
   .have:=k_.2 j y_[j] (by simp[hj])
    rw[this];simp[hj]
   .rw[YS (by simpa using hj),YS (by rw[N9,<-k_.1];lia)]
  rw[this];exact hp
 .have OI:b≠L:=by rw[<-hL];exact Zw (ZO e)
  have QV:b≠I:=fun z=>by
   have h5:s.heap.objs.size+1<=I:=by have:=hI;rwa[YJ]at this
   have:=ZO e;rw[z]at this;exact absurd (ZA (Nat.lt_succ_of_lt this) h5) (Y5 _)
  refine hm.heap b o (by simp only[ZX,Ze,Yy,Xf];exact⟨OI,QV⟩) (HE b o OI (hk b o (Z6 _ e)))
end
def ye(t:SetTable)(es:Array (Int×Z7))(h:Int)(x:Z7):(layNew t es h x).2.1.led=t.led:=by
 unfold layNew;split
 .dsimp only
  unfold SetTable.orStandIn;split<;>rfl
 .rfl
def qY(t:SetTable)(es:Array (Int×Z7))(n:Nat):(relayAll t es n).2.1.led=t.led/\(t.plain=false->(relayAll t es n).2.1.plain=false):=by
 unfold relayAll;split
 .rename_i t' order e
  have:t'.led=t.led/\t'.plain=t.plain:=by
   unfold SetTable.relaid SetTable.laid at e;cases q:SetTable.layClean (SetTable.sizeAbove n - 1) (es.map (·.1))with
   |none=>rw[q]at e;trivial
   |some o=>rw[q]at e;cases e;exact⟨rfl,rfl⟩
  dsimp only;split
  .exact⟨this.1,fun h=>this.2.trans h⟩
  .exact⟨rfl,fun _=>rfl⟩
 .exact⟨rfl,fun _=>rfl⟩
abbrev tE(w:Zo)(p:Str×Tok):Int×Z7:=(hashStr w p.1,.str p.1 p.2)
def SetT(w:Zo)(h:Heap)(a:Z2)(ts:List (Str×Tok)):Prop:=
 ∃o ep t,h.get? a=some o/\o.ExactSet/\o.data=.set (ts.map (tE w)).toArray ep t/\t.fits ts.length=true/\t.led=cO w/\(ts=[]\/t.plain=false)
def SetT.same{w:Zo}{h h':Heap}{a:Z2}{ts:List (Str×Tok)}(S:SetT w h a ts)(k:∀o,h.get? a=some o->h'.get? a=some o):SetT w h' a ts:=by
 obtain⟨o,ep,t,ho,r⟩:=S;exact⟨o,ep,t,k o ho,r⟩
section
variable{prog:ZC}{w:Zo}{A:Zu}{E:Z7->Z4->Prop}{s:Z4}{a:Z2}
def jz{h:Heap}{o:Obj}{es:Array (Int×Z7)}{ep:Nat}{t t':SetTable}{ts:List (Str×Tok)}(ho:h.get? a=some o)(hex:o.ExactSet)(hd:o.data=.set es ep t)(hf:t'.fits ts.length=true)(hl:t'.led=cO w)(hp:t'.plain=false):
  (h.update a (Obj.putSet (ts.map (tE w)).toArray t')).get? a=some {o with data:=.set (ts.map (tE w)).toArray (ep+1) t'}/\SetT w (h.update a (Obj.putSet (ts.map (tE w)).toArray t')) a ts:=by
 have hg:=Zi (Obj.putSet (ts.map (tE w)).toArray t') ho (by rw[putSet_of _ t' hd];rfl)
 rw[putSet_of _ t' hd]at hg;exact⟨hg,_,ep+1,t',hg,hex,rfl,hf,hl,.inr hp⟩
def m8{o:Obj}{es G9:Array (Int×Z7)}{ep:Nat}{t t2:SetTable}{Fm:List (Str×Tok)}{wd:Bool}{R:Z_ Bool->Z4->Prop}(ho:s.heap.get? a=some o)(hex:o.ExactSet)(hd:o.data=.set es ep t)(e1:G9=(Fm.map (tE w)).toArray)
  (hf:t2.fits G9.size=true) (hl:t2.led=cO w) (hp:t2.plain=false) (hb:Fm.length<4000)
  (h:∀h' FR,Heap.SameBut a s.heap h'->FR.Perm Fm->SetT w h' a FR->R (some true) {s with heap:=h'}):
  wpAny (model prog w) A (do
    storeSet a G9 t2
    if(!wd&&t2.tooFull)=true then do
      (match(relayAll t2 G9 (SetTable.grown G9.size)).2.2 with|true=>rule "set.scan.the-table-gave-way"|false=>pure ())
      storeSet a (relayAll t2 G9 (SetTable.grown G9.size)).1 (relayAll t2 G9 (SetTable.grown G9.size)).2.1
      pure (some true)
     else pure (some true)) R E s:=by
 subst e1;have hsz:(Fm.map (tE w)).toArray.size=Fm.length:=by simp
 refine Z8 (wpAny_storeSet_of ho hd ?_ (by rw[hsz,XO];lia))
 obtain⟨g1,S1⟩:=jz (w:=w) (ts:=Fm) ho hex hd (hsz▸hf) hl hp;have sb:=Zb s.heap a (Obj.putSet (Fm.map (tE w)).toArray t2);split
 .have Ms:=relayAll_perm t2 (Fm.map (tE w)).toArray (SetTable.grown (Fm.map (tE w)).toArray.size)
  have GB:=relayAll_fits t2 (Fm.map (tE w)).toArray (SetTable.grown (Fm.map (tE w)).toArray.size);obtain⟨l1,l2⟩:=qY t2 (Fm.map (tE w)).toArray (SetTable.grown (Fm.map (tE w)).toArray.size);generalize relayAll t2 (Fm.map (tE w)).toArray (SetTable.grown (Fm.map (tE w)).toArray.size)=Rl at Ms GB l1 l2⊢;obtain⟨Rt,t3,gv⟩:=Rl;dsimp only at Ms GB l1 l2⊢;obtain⟨JV,p2,e2⟩:=eJ (tE w) Ms Fm rfl;obtain rfl:Rt=(JV.map (tE w)).toArray:=by rw[<-e2]
  have LB:=p2.length_eq;have MA:∀(b:Bool){h_:Z4}{Q':Unit->Z4->Prop},Q' () h_->wpAny (model prog w) A (match b with|true=>rule "set.scan.the-table-gave-way"|false=>pure ()) Q' E h_:=
   fun b h_ Q' hq=>by cases b<;>first|exact Z3 hq|exact YW hq
  refine Z8 (MA _ ?_)
  refine Z8 (wpAny_storeSet_of (s:={s with heap:=s.heap.update a (Obj.putSet (Fm.map (tE w)).toArray t2)}) g1 rfl ?_ (by rw[XO];simp;lia))
  exact Z3 (h _ JV (sb.trans (Zb _ a _)) p2 (jz (w:=w) (ts:=JV) g1 hex rfl (by simpa using GB) (l1.trans hl) (l2 hp)).2)
 .exact Z3 (h _ Fm sb (YX _) S1)
def Ch{ts:List (Str×Tok)}{x:Str}{tk:Tok}{Q:Bool->Z4->Prop}(S:SetT w s.heap a ts)(hb:ts.length<100)
  (h:∀h' FR b,Heap.SameBut a s.heap h'->SetT w h' a FR->(FR=ts/\x∈ts.map (·.1)\/FR.Perm ((x,tk)::ts)/\x∉ts.map (·.1))->Q b {s with heap:=h'}):wpAny (model prog w) A (setAddHashed a (.str x tk) (hashStr w x)) Q E s:=by
 have S0:=S;obtain⟨o,ep,t,ho,hex,hd,hf,FH,hpl⟩:=S;have hsz:(ts.map (tE w)).toArray.size=ts.length:=by simp
 rw[<-hsz]at hf;have key:(PySem.strKind prog w).is x (.str x tk)=true:=by show(x==x)=true;simp
 have LI:ElemsOf (PySem.strKind prog w) (ts.map (tE w)).toArray.toList:=fun e he=>by
  obtain⟨p,_,rfl⟩:=ZL.mp he;exact⟨⟨p.1,by show(p.1==p.1)=true;simp,rfl⟩,rfl⟩
 unfold setAddHashed setAddHashedIn;refine YQ (Z8 (XQ ho hd hf ?_))
 dsimp only;rw[byScan_of rfl (by unfold scanBound;lia) LI]
 simp only[↓reduceIte];unfold setAddByScan;refine Z8 ?_
 refine Z8 (YW ?_)
 refine Z8 (wpAny_setScan_of (knd:=PySem.strKind prog w) key ho hd hf LI ?_)
 cases hr:List.findIdx? (fun e=>(PySem.strKind prog w).is x e.2) (ts.map (tE w)).toArray.toList with
 |some j=>
  dsimp only;obtain⟨hj,Qn,_⟩:=List.findIdx?_eq_some_iff_getElem.mp hr
  have Km:j<ts.length:=by simpa using hj
  have e:ts[j].1=x:=by
   have h0:(PySem.strKind prog w).is x (Value.str ts[j].1 ts[j].2)=true:=by simpa using Qn
   exact Zx.mp (show(ts[j].1==x)=true from h0)
  exact Z3 (Z3 (h s.heap ts false (Heap.SameBut.refl a s.heap) S0 (.inl ⟨rfl,ZL.mpr ⟨ts[j],W7 Km,e⟩⟩)))
 |none=>
  dsimp only;have GX:x∉ts.map (·.1):=fun hm=>by
   obtain⟨p,hp,e⟩:=ZL.mp hm;have:=List.findIdx?_eq_none_iff.mp hr (tE w p) (ZL.mpr ⟨p,hp,rfl⟩)
   have:(p.1==x)=false:=this;rw[e]at this;simp at this
  have Hx:=layNew_perm t (ts.map (tE w)).toArray (hashStr w x) (.str x tk);have Gv:=layNew_fits t (ts.map (tE w)).toArray (hashStr w x) (.str x tk);have Gz:=ye t (ts.map (tE w)).toArray (hashStr w x) (.str x tk);show wpAny _ _ (match layNew t (ts.map (tE w)).toArray (hashStr w x) (.str x tk)with|(es,t,wd,gv)=>_) _ _ _
  generalize layNew t (ts.map (tE w)).toArray (hashStr w x) (.str x tk)=L at Hx Gv Gz⊢;obtain⟨G9,t1,wd,gv⟩:=L;dsimp only at Hx Gv Gz⊢;obtain⟨Fm,p1,e1⟩:=eJ (tE w) Hx (ts++[(x,tk)]) (by simp)
  have e1:G9=(Fm.map (tE w)).toArray:=by rw[<-e1]
  have MA:∀(b:Bool){h_:Z4}{Q':Unit->Z4->Prop},Q' () h_->wpAny (model prog w) A (match b with|true=>rule "set.scan.the-table-gave-way"|false=>pure ()) Q' E h_:=
   fun b h_ Q' hq=>by cases b<;>first|exact Z3 hq|exact YW hq
  refine Z8 (MA _ ?_)
  have hlen:=p1.length_eq;simp only[Zz,List.length_cons,List.length_nil]at hlen;have fin:∀h' FR,Heap.SameBut a s.heap h'->FR.Perm Fm->SetT w h' a FR->wpAny (model prog w) A (pure true) Q E {s with heap:=h'}:=fun h' FR sb pp ST=>
   Z3 (h h' FR true sb ST (.inr ⟨pp.trans (p1.trans (List.perm_append_singleton _ _)),GX⟩))
  split
  .refine Z8 ?_
   rw[hashByValue_scannable 8 rfl];refine Z3 ?_
   exact m8 ho hex hd e1 (SetTable.fits_plain_off Gv) (Gz.trans FH) rfl (by lia) fin
  .rename_i hq
   refine Z8 (Z3 ?_)
   simp only[↓reduceIte];exact m8 ho hex hd e1 Gv (Gz.trans FH) (by simpa using hq) (by lia) fin
end
structure Fill (w:Zo)(h:Heap)(a:Z2)(done:List Str)(ts:List (Str×Tok)):Prop where
 at':SetT w h a ts
 nd:(ts.map (·.1)).Nodup
 mem:∀x,x∈ts.map (·.1)↔x∈done
 len:ts.length<=done.length
section
variable{prog:ZC}{w:Zo}{s:Z4}{A:Zu}{R:Result->Z4->Prop}{It:Z2}{fp wr:List Z2}{G:Array GenState->Array GenState->Prop}{n:Nat}{P:Nat->Z7->Prop}{St:Nat->Z4->Prop}
def uF(W:WalksS prog w A.in1 It fp wr G n P St)(hG:∀a b,G a b->b=a)(S:Z2)(LK:S∉fp)(ML:s.heap.get? S=none)(Qe:∀b∈wr,s.heap.get? b=none)(ss:List Str)(hn:ss.length=n)(HL:n<64)
  (KU:∀(i:Nat) v x,P i v->ss[i]?=some x->∃tk,v=.str x tk):
  ∀(k i:Nat)(h:Heap)(tk:Nat)(ts:List (Str×Tok)),n - i=k->i<=n->St i {s with heap:=h,toks:=tk}->(∀b o,s.heap.get? b=some o->h.get? b=some o)->Fill w h S (ss.take i) ts->
   (∀h' LR FR,(∀b o,s.heap.get? b=some o->h'.get? b=some o)->Fill w h' S ss FR->R (.ok (.ret .none)) {s with heap:=h',toks:=LR})->
   codeAny (model prog w) A (.builtin "set.update.loop" ⟨[.ref S,.ref It],[]⟩) R {s with heap:=h,toks:=tk}:=by
 have OM:S∉wr:=fun h=>LK (W.sub _ h)
 have back:∀{h:Heap}{tk:Nat}{s':Z4},(∀b o,s.heap.get? b=some o->h.get? b=some o)->Moved wr G {s with heap:=h,toks:=tk} s'->s'={s with heap:=s'.heap,toks:=s'.toks}/\∀b o,s.heap.get? b=some o->s'.heap.get? b=some o:=fun{h tk s'} hk hm=>by
  have e1:s'.gens=s.gens:=hG _ _ hm.gens;have e2:s'.drawn=s.drawn:=hm.drawn;have e3:s'.os=s.os:=hm.os;refine⟨?_,fun b o e=>?_⟩
  .obtain⟨h',g',d',t',o'⟩:=s'
   simp only at e1 e2 e3;subst e1;subst e2;subst e3;rfl
  .refine hm.heap b o (fun hb=>?_) (hk b o e)
   rw[Qe b hb]at e;trivial
 intro k
 induction k with
 |zero=>
  intro i h tk ts hk hi FD F4 hF hR;have G4:i=n:=by lia
  subst G4;refine Yz F.entry_set_update_loop ?_
  rw[YI Wz _];show wpAny _ A.in1 (pyNext (.ref It) >>= _) _ _ _;refine Z8 (W.done _ _ _ FD fun s' hm=>?_)
  obtain⟨es,Gh⟩:=back F4 hm;show wpAny _ A.in1 (ret Value.none) _ _ s';rw[es];have e:=List.take_length (l:=ss);rw[hn]at e;rw[e]at hF;exact Z3 (hR s'.heap s'.toks ts Gh ⟨hF.at'.same fun o e=>hm.heap S o OM e,hF.nd,hF.mem,hF.len⟩)
 |succ k ih=>
  intro i h tk ts hk hi FD F4 hF hR;have ka:i<n:=by lia
  refine Yz F.entry_set_update_loop ?_
  rw[YI Wz _];show wpAny _ A.in1 (pyNext (.ref It) >>= _) _ _ _;refine Z8 (W.item i _ _ _ ka FD fun v s' hP KW hm=>?_)
  obtain⟨es,Gh⟩:=back F4 hm;have OB:i<ss.length:=by lia
  obtain⟨tx,rfl⟩:=KU i v ss[i] hP (by simp[OB])
  have G0:SetT w s'.heap S ts:=hF.at'.same fun o e=>hm.heap S o OM e
  have JQ:=hF.len;rw[Xx]at JQ;have K6:ss.take (i+1)=ss.take i++[ss[i]]:=by rw[List.take_succ];simp[OB]
  show wpAny _ A.in1 (holding [Value.str ss[i] tx] (setAdd S (.str ss[i] tx)) >>= _) _ _ s';refine Z8 (YQ ?_)
  rw[es]at KW⊢;unfold setAdd;refine YQ (Z8 (wpAny_pyHash_str ?_))
  refine Ch (s:={s with heap:=s'.heap,toks:=s'.toks+1}) G0 (by lia) fun h' FR b Lw G7 Qp=>?_
  have Gu:∀b o,s.heap.get? b=some o->h'.get? b=some o:=fun b o e=>by
   rw[Lw.2 b (fun z=>by rw[z,ML]at e;trivial)]
   exact Gh b o e
  have F':Fill w h' S (ss.take (i+1)) FR:=by
   rw[K6]
   rcases Qp with⟨rfl,Kj⟩|⟨hp,Kj⟩
   .refine⟨G7,hF.nd,fun d=>?_,by simp;lia⟩
    rw[hF.mem d,Zl,ZE];exact⟨.inl,fun z=>z.elim id fun e=>e▸(hF.mem _).mp Kj⟩
   .have Gk:=hp.map (·.1)
    have Qo:=hp.length_eq;rw[List.length_cons]at Qo;rw[Z1]at Gk;refine⟨G7,?_,fun d=>?_,by simp;lia⟩
    .rw[Gk.nodup_iff,YN];exact⟨Kj,hF.nd⟩
    .rw[Gk.mem_iff,ZX,hF.mem d,Zl,ZE]
     exact Or.comm
  refine Z3 ⟨X_ Wz _,ih (i+1) h' (s'.toks+1) FR (by lia) ka ?_ Gu F' hR⟩
  exact W.frame _ {s with heap:=s'.heap,toks:=s'.toks} _ _ KW (Xi _) fun b hb o e=>by
   rw[Lw.2 b (fun h:b=S=>LK (by rw[<-h];exact hb))];exact e
end
abbrev cU(led:Bool):Obj:={cls:=.type "set",dict:=none,data:=.set #[] 0 (.fresh 0 0 led)}
section
variable{prog:ZC}{w:Zo}{A:Zu}{E:Z7->Z4->Prop}{s:Z4}
def i9(a:Z7){Q₁:Z7->Z4->Prop}(h:Q₁ (.ref s.heap.objs.size) {s with heap:=s.heap.push (cU (cO w))}):
  codeAny (model prog w) A (.call (.builtin "set.__new__") ⟨[.type "set",a],[]⟩) (wants Q₁ E) s:=by
 refine codeAny_of_tree ?_
 show wpAny _ A.in1 (do checkBuiltinCall "set.__new__" ⟨[.type "set",a],[]⟩;again (.builtin "set.__new__" ⟨[.type "set",a],[]⟩)) _ _ s
 refine Z8 (WD (F.newCall_set_1 a) (Z3 ⟨X_ F.plain_set_new _,Yz F.entry_set_new ?_⟩))
 rw[YI F.plain_set_new _];unfold Builtin.«set.__new__» Builtin.Frozenset.newClass;have Hd:=sub_set_self;obtain⟨hp,g,d,tk,os⟩:=s;dsimp only
 wp_walk
 refine XI (Z3 ?_)
 dsimp only;simp only[newObj];refine Z8 (wpAny_alloc (Z3 ?_))
 exact Z3 h
end
section
variable{prog:ZC}{w:Zo}{s:Z4}{A:Zu}{E:Z7->Z4->Prop}
def vE{h:Heap}{a:Z2}(e:h.get? a=some (cU (cO w))):Fill w h a [] []:=
 ⟨⟨_,0,_,e,⟨rfl,rfl,rfl⟩,rfl,rfl,rfl,.inl rfl⟩,Y3,fun d=>Iff.rfl,ZU _⟩
def oG(hh:A.handled=none){l:Z2}{items:Array Z7}{Q:Z7->Z4->Prop}(hl:s.heap.IsList l items)(ss:List Str)(hlen:ss.length=items.size)(HL:items.size<64)
  (LI:∀(i:Nat) v x,items[i]?=some v->ss[i]?=some x->∃tk,v=.str x tk)
  (h:∀(h':Heap)(tk:Nat) ts,(∀b o,s.heap.get? b=some o->h'.get? b=some o)->Fill w h' s.heap.objs.size ss ts->Q (.ref s.heap.objs.size) {s with heap:=h',toks:=tk}):
  wpAny (model prog w) A (call (.type "set") [.ref l]) Q E s:=by
 obtain⟨c,tl,RU⟩:=XH.mro;have O6:=XH.made;have Hd:=XH.sub;refine wpAny_call (codeAny_of_tree ?_)
 show wpAny _ _ (callAny (.type "set") _) _ _ _;refine Z3 ⟨Code.quiet_builtin _ (by decide +kernel),Yz F.entry_type_call ?_⟩
 rw[Around.under_plain (weight_type_call_type "set" [.ref l] []) rfl];have h1:=XH.notType;have h2:=XH.canCreate;have Sv:=F.typeCall_set_1 (.ref l)
 repeat (any_goals (first|assumption|wp_step))
 refine Xe (i9 (.ref l) (E:=E) (Q₁:=fun obj h_=>obj=.ref s.heap.objs.size/\h_={s with heap:=s.heap.push (cU (cO w))}) ⟨rfl,rfl⟩) fun r h_ hr=>?_
 cases r with
 |error e=>exact hr
 |ok fl=>
  cases fl with
  |ret obj=>
   obtain⟨rfl,rfl⟩:=hr;have hS:(s.heap.push (cU (cO w))).get? s.heap.objs.size=some (cU (cO w)):=ZT _ rfl
   have hT:Shared.TypeIs {s with heap:=s.heap.push (cU (cO w))} (.ref s.heap.objs.size) "set":=⟨_,hS,rfl⟩
   have So:=XH.init.lookup;have Sx:=XH.init.bind (.ref s.heap.objs.size)
   repeat (any_goals (first|assumption|wp_step))
   refine Xe (codeAny_call_builtin (R:=wants (fun r d_=>r=.none/\∃h' tk ts,d_={s with heap:=h',toks:=tk}/\Fill w h' s.heap.objs.size ss ts/\
     (∀b o,s.heap.get? b=some o->h'.get? b=some o)) E) XH.init.plain F.entry_set_init (check_set_init_1 hT ?_)) fun MY d_ Hw=>?_
   .obtain⟨ol,Mt,GZ,nl,OE⟩:=hl
    obtain⟨RO,K4,O4,Jr⟩:=ol;simp only at GZ OE;subst GZ;subst OE;have Nf:(s.heap.push (cU (cO w))).get? l=some {cls:=.type "list",dict:=K4,data:=.seq items nl,slots:=Jr}:=Z6 _ Mt
    have RS:=F.sub_list_set;have RT:=F.sub_list_frozenset;have Fc:(Value.type "list"==Value.type "dict")=false:=by decide
    have Gz:(s.heap.push (cU (cO w))).IsList l items:=⟨_,Nf,rfl,nl,rfl⟩;unfold Builtin.«set.__init__» noKeywords Builtin.Frozenset.updateFrom;generalize Q4:pyIter=PI
    wp_walk
    subst Q4;refine WY Gz ?_
    refine Z8 (wpAny_runValue ?_)
    have Ot:l<s.heap.objs.size:=ZO Mt;have QH:A.in1.in1.in1.handled=none:=by simp[hh]
    have Ni:l≠(s.heap.push (cU (cO w))).objs.size:=by
     rw[YJ];exact Zw (Nat.lt_succ_of_lt Ot)
    have LK:s.heap.objs.size∉[(s.heap.push (cU (cO w))).objs.size,l]:=by
     rw[YJ];simp only[ZX,ZE,Ze,Yy,Xf];exact⟨Zw (Yg _),Nat.ne_of_gt Ot⟩
    have Iy:∀b,s.heap.objs.size<=b->s.heap.get? b=none:=fun b hb=>by
     cases q:s.heap.get? b with
     |none=>rfl
     |some o=>exact absurd (ZO q) (Nat.not_lt.mpr hb)
    refine uF (s:=s) (w:=w) ((Walks.list QH _ l Ni items).toS) ?_ s.heap.objs.size
     LK (Iy _ (ZU _)) ?_ ss hlen HL LI (items.size - 0) 0 _ s.toks [] (by lia) (Zt _)
     ⟨⟨_,ZT _ rfl,rfl,rfl⟩,(Gz.push _)⟩ (fun b o e=>Z6 _ (Z6 _ e)) ?_ ?_
    .intro a b e;exact e
    .intro b hb
     simp only[ZE]at hb;rw[hb,YJ];exact Iy _ (Xi _)
    .exact vE (Z6 _ hS)
    .intro h' LR ts hk hF
     show wpAny _ _ _ _ _ _;refine Z3 ?_
     show wpAny _ _ (ret Value.none) _ _ _;exact Z3 ⟨rfl,h',LR,ts,rfl,hF,hk⟩
   .cases MY with
    |error e=>exact Hw
    |ok Lb=>
     cases Lb with
     |ret r=>
      obtain⟨rfl,h',tk,ts,rfl,hF,hk⟩:=Hw
      repeat (any_goals (first|assumption|wp_step))
      exact h _ _ _ hk hF
     |_=>exact Hw.elim
  |_=>exact hr.elim
end
end L2
namespace L2
open PySem PySem.Spec PyProof.Rows
variable[Lams]
theorem Inv.drawn{X:Cx}{a_:List (Z2×Obj)}{σ:St}{H:Hp}{s:Z4}(I:Inv X a_ σ H s)(d:Drawn):Inv X a_ σ H {s with drawn:=d}:=
 ⟨I.ok,I.os,I.bare,I.base,I.loc,I.cell,I.free,I.freeC,I.pin,I.hok,I.len⟩
def uq(w:Zo)(S:Z2)(us:List Str):HO:=.ext fun h=>∃ts:List (Str×Tok),(ts.map (·.1)).Perm us/\SetT w h S ts
def rh{X:Cx}(hc:X.calm=true):ei X (.type "set") (fun xs H Q=>∃(l:Z2)(ss:List Str),xs=[.ref l]/\SqL X.K H l (ss.map V.str)/\ss.length<64/\
  ∀(S:Z2)(us:List Str),H S=none->us.Nodup->(∀x,x∈us↔x∈ss)->us.length<=ss.length->Q (.ref S) (upd H S (uq X.w S us))):=by
 intro a_ s σ H xs us Q I r h;obtain⟨l,ss,rfl,hq,HL,q⟩:=h;obtain⟨u,rfl,rx⟩:=gd r;cases rx;obtain⟨its,rv,pl,hz⟩:=I.list hq;have l2:=rv.length;rw[ZJ]at l2;refine oG (I.ok.hd hc) pl.isList ss (by simp;lia) (by simp;lia) (fun i v x hv hd=>?_) fun h' tk ts hk hF=>?_
 .obtain⟨u,FC,ru⟩:=rv.get (show(ss.map V.str)[i]?=some (.str x) by simp[hd])
  have:u=v:=by
   have:its[i]?=some v:=by simpa using hv
   rw[FC]at this;exact Z9 this
  subst this;exact ru
 .refine⟨.ref s.heap.objs.size,_,I.laid (a:=s.heap.objs.size) (o:=uq X.w s.heap.objs.size (ts.map (·.1))) (h':=h') (t':=tk) hk (ZU _) ?_,rfl,q _ _ I.fresh hF.nd hF.mem (by simpa using hF.len)⟩
  have S:=hF.at';obtain⟨o,ep,t,ho,r⟩:=hF.at';exact⟨⟨ts,YX _,S⟩,⟨o,ho⟩,fun h1 h2 ⟨FR,p,a⟩ k=>⟨FR,p,a.same k⟩⟩
end L2
namespace L2
open PySem
variable[Lams]
@[simp] theorem lim_eq:lim=1000000:=by decide
@[simp] theorem bindO_s {α β:Type}(a:α)(f:α->Z_ β):ae (some a) f=f a:=(rfl)
@[simp] theorem shO_s (d:D)(b:Bool):shO (some (d,b))=some d:=(rfl)
@[simp] theorem frO_s (ds:List D):frO (some (.lst ds,true))=some (.lst ds):=(rfl)
@[simp] theorem consO_s (a:D)(l:List D):af (some a) (some l)=some (a::l):=(rfl)
@[simp] theorem seqO_n (δ:DEnv)(k:DEnv->Z_ Out):aG (some (.next δ)) k=k δ:=(rfl)
@[simp] theorem seqO_r (d:D)(b:Bool)(k:DEnv->Z_ Out):aG (some (.ret d b)) k=some (.ret d b):=(rfl)
@[simp] theorem ifO_t (x y:Z_ Out):ifO (some true) x y=x:=(rfl)
@[simp] theorem ifO_f (x y:Z_ Out):ifO (some false) x y=y:=(rfl)
@[simp] theorem retO_s (d:D):fZ (some d)=some (.ret d false):=(rfl)
@[simp] theorem retF_s (d:D):eF (some d)=some (.ret d true):=(rfl)
@[simp] theorem outF_r (d:D)(b:Bool):oV (some (.ret d b))=some (d,b):=(rfl)
@[simp] theorem nextO_s (δ:DEnv):nextO δ=some (.next δ):=(rfl)
@[simp] theorem setO_s (i:Nat)(d:D)(δ:DEnv)(h:i<δ.length):b0 i (some d) δ=some (.next (δ.set i (some (d,false)))):=by unfold b0;simp only[Z0 h]
@[simp] theorem setF_s (i:Nat)(d:D)(δ:DEnv)(h:i<δ.length):cQ i (some d) δ=some (.next (δ.set i (some (d,true)))):=by unfold cQ;simp only[Z0 h]
@[simp] theorem toName_s (i:Nat)(d:D)(δ:DEnv)(h:i<δ.length):aa i d δ=some (δ.set i (some (d,false))):=by unfold aa;simp only[Z0 h]
@[simp] theorem toTup_s (υ:List D->DEnv->Z_ DEnv)(ds:List D)(δ:DEnv):aK υ (.tup ds) δ=υ ds δ:=(rfl)
@[simp] theorem toCons_s (τ:D->DEnv->Z_ DEnv)(υ:List D->DEnv->Z_ DEnv)(d:D)(ds:List D)(δ:DEnv):ah τ υ (d::ds) δ=ae (τ d δ) (υ ds):=(rfl)
@[simp] theorem toNil_s (δ:DEnv):toNil [] δ=some δ:=(rfl)
@[simp] theorem addI_s (i j:Int):fX (some (.int i)) (some (.int j))=some (.int (i+j)):=(rfl)
@[simp] theorem subI_s (i j:Int):Ca (some (.int i)) (some (.int j))=some (.int (i - j)):=(rfl)
@[simp] theorem mulI_s (i j:Int)(h:(-(2 ^ 64)<i/\i<2 ^ 64)\/(-(2 ^ 64)<j/\j<2 ^ 64)):qI (some (.int i)) (some (.int j))=some (.int (i*j)):=xA (by unfold C8;exact Zm h)
@[simp] theorem modI_s (i j:Int)(h:0<j):c8 (some (.int i)) (some (.int j))=some (.int (i%j)):=xA (by unfold Dj;exact Zm h)
@[simp] theorem divI_s (i j:Int)(h:0<j/\j<1073741824):tm (some (.int i)) (some (.int j))=some (.int (i / j)):=xA (by unfold DC;exact Zm h)
@[simp] theorem tupO_s (ds:List D)(h:ds.length<=lim):gO (some ds)=some (.tup ds):=by unfold gO;simp only[Z0 h]
@[simp] theorem lstO_s (ds:List D)(h:ds.length<=lim):bU (some ds)=some (.lst ds):=by unfold bU;simp only[Z0 h]
@[simp] theorem lstLim_s (ds:List D):ar (some ds)=some (.lst ds):=(rfl)
@[simp] theorem lstL_s (ds:List D):cf (some (.lst ds))=some ds:=(rfl)
@[simp] theorem tupL_s (ds:List D):tZ (some (.tup ds))=some ds:=(rfl)
@[simp] theorem tupleO_l (ds:List D):cS (some (.lst ds))=some (.tup ds):=(rfl)
@[simp] theorem listO_l (ds:List D):f8 (some (.lst ds))=some (.lst ds):=(rfl)
@[simp] theorem lenL_l (ds:List D):iM (some (.lst ds))=some (.int ds.length):=(rfl)
@[simp] theorem lenL_t (ds:List D):iM (some (.tup ds))=some (.int ds.length):=(rfl)
@[simp] theorem ixO_l (ds:List D)(i:Int):ixO (some (.lst ds)) (some (.int i))=atI ds i:=(rfl)
@[simp] theorem ixO_t (ds:List D)(i:Int):ixO (some (.tup ds)) (some (.int i))=atI ds i:=(rfl)
@[simp] theorem partI_s (i:Int):iK (some (.int i))=some (some i):=(rfl)
@[simp] theorem cutLO_s (ds:List D)(l u:Z_ Int):nN (some (.lst ds)) (some l) (some u)=some (.lst (rP ds l u)):=(rfl)
@[simp] theorem cutSO_s (z:Str)(l u:Z_ Int)(h:z.length<=lim):kN (some (.str z)) (some l) (some u)=some (.str (tj z l u)):=by unfold kN;simp only[Z0 h]
@[simp] theorem addS_s (x y:Str)(h:x.length+y.length<=lim):xF (some (.str x)) (some (.str y))=some (.str (x++y)):=by unfold xF;simp only[Z0 h]
@[simp] theorem findO_s (x y:Str):uG (some (.str x)) (some (.str y))=some (.int (Txt.find x y)):=(rfl)
@[simp] theorem catO_s (x y:List D)(h:x.length+y.length<=lim):tQ (some (.lst x)) (some (.lst y))=some (.lst (x++y)):=by unfold tQ;simp only[Z0 h]
@[simp] theorem notO_s (b:Bool):iy (some b)=some (!b):=(rfl)
@[simp] theorem tyB_s (b:Bool):tyB (some (.bl b))=some b:=(rfl)
@[simp] theorem ofB_s (b:Bool):ofB (some b)=some (.bl b):=(rfl)
@[simp] theorem orO_t (y:Z_ Bool):orO (some true) y=some true:=(rfl)
@[simp] theorem orO_f (y:Z_ Bool):orO (some false) y=y:=(rfl)
@[simp] theorem andO_t (y:Z_ Bool):wM (some true) y=y:=(rfl)
@[simp] theorem andO_f (y:Z_ Bool):wM (some false) y=some false:=(rfl)
def oM(x y:D)(h:ok2 x y=true):eqO (some x) (some y)=some (decide (x=y)):=by unfold eqO;simp only[Z0 h]
@[simp] theorem eqO_int (i j:Int):eqO (some (.int i)) (some (.int j))=some (decide (i=j)):=by
 rw[oM _ _ (by rfl)];simp only[D.int.injEq]
def yC(x y:D)(h:ok2 x y=true):neO (some x) (some y)=some (!decide (x=y)):=by unfold neO;rw[oM _ _ h];rfl
def eT(j:Int)(h: -(2 ^ 62)<=j/\j<2 ^ 62):qD (some (.int j))=some (gT 0 j.toNat):=by unfold qD;simp only[Zm h,Y2]
def AG(ns:List Int):zU (some (.lst (ns.map D.int)))=some (.int ns.sum):=by
 have:cj (ns.map D.int)=some ns:=by
  induction ns with
  |nil=>rfl
  |cons n ns ih=>simp only[Z1,cj,ih]
 unfold zU;simp only[this]
def fS{δ:DEnv}{i:Nat}{ds:List D}(d:D)(h:δ[i]?=some (some (.lst ds,true)))(hl:ds.length<lim):iV i (some d) δ=some (.next (δ.set i (some (.lst (ds++[d]),true)))):=by
 unfold iV bE;simp only[h,Z0 hl]
def zB{δ:DEnv}{i:Nat}{ds es:List D}(h:δ[i]?=some (some (.lst ds,true)))(hl:ds.length+es.length<=lim):si i (some (.lst es)) δ=some (.next (δ.set i (some (.lst (ds++es),true)))):=by
 unfold si bE;simp only[h,Z0 hl]
@[simp] theorem rd_0 (m:Bool)(d:D)(δ:DEnv):rd m 0 (some (d,false)::δ)=some d:=(rfl)
@[simp] theorem rd_0o (d:D)(δ:DEnv):rd true 0 (some (d,true)::δ)=some d:=(rfl)
@[simp] theorem rd_1 (m:Bool)(i:Nat)(x:Z_ (D×Bool))(δ:DEnv):rd m (i+1) (x::δ)=rd m i δ:=(rfl)
@[simp] theorem rdOwn_0 (d:D)(δ:DEnv):bE 0 (some (d,true)::δ)=some d:=(rfl)
@[simp] theorem rdOwn_1 (i:Nat)(x:Z_ (D×Bool))(δ:DEnv):bE (i+1) (x::δ)=bE i δ:=(rfl)
@[simp] theorem frzE_0 (d:D)(b:Bool)(δ:DEnv):frzE 0 (some (d,b)::δ)=some (d,false)::δ:=by cases b<;>rfl
@[simp] theorem frzE_1 (i:Nat)(x:Z_ (D×Bool))(δ:DEnv):frzE (i+1) (x::δ)=x::frzE i δ:=by
 unfold frzE;rw[List.getElem?_cons_succ]
 split<;>simp_all
def Bo(i:Nat)(d:D)(δ:DEnv):iV i (some d) δ=(match bE i δ with|some (.lst ds)=>if ds.length<lim then some (.next (δ.set i (some (.lst (ds++[d]),true)))) else none|_=>none):=by
 unfold iV;split
 .rename_i e1 e2;obtain rfl:=Z9 e2;rw[e1]
 .rename_i h
  split
  .rename_i ds e;exact absurd rfl (h ds d e)
  .rfl
def v5(i:Nat)(es:List D)(δ:DEnv):si i (some (.lst es)) δ=(match bE i δ with|some (.lst ds)=>if ds.length+es.length<=lim then some (.next (δ.set i (some (.lst (ds++es),true)))) else none|_=>none):=by
 unfold si;split
 .rename_i e1 e2;cases e2;rw[e1]
 .rename_i h
  split
  .rename_i ds e;exact absurd rfl (h ds es e)
  .rfl
def zv{n np:Nat}{g:DEnv->Z_ Out}{ds:List D}(h:ds.length=np):bG n np g ds=oV (g (bK n ds)):=by unfold bG;rw[Z0 h]
def ay{f:List D->Z_ (D×Bool)}{n np:Nat}{g:DEnv->Z_ Out}{ds:List D}{δ:DEnv}(hf:f=bG n np g)(hl:ds.length=np)(hs:bK n ds=δ):f ds=oV (g δ):=by subst hf hs;exact zv hl
def jY{α:Type}{xs:List α}{i:Int}(h0:0<=i)(h1:i<xs.length):∃v,v∈xs/\xs[i.toNat]?=some v/\atI xs i=some v:=by
 have hi:i.toNat<xs.length:=by lia
 refine⟨xs[i.toNat],W7 hi,by simp[hi],?_⟩
 have:=rF (xs:=xs) (j:=i.toNat) (v:=xs[i.toNat]) (by simp[hi])
 rwa[Int.toNat_of_nonneg h0]at this
def wf{α:Type}{xs:List α}{i:Int}{v:α}(h0:0<=i)(h:xs[i.toNat]?=some v):atI xs i=some v:=by
 have:=rF h;rwa[Int.toNat_of_nonneg h0]at this
theorem fR{h:D->Z_ (Z_ D)}{g:D->D}:∀{ds:List D},(∀d∈ds,h d=some (some (g d)))->bb h ds=some (ds.map g)
 |[],_=>rfl
 |d::ds,e=>by
  unfold bb;rw[e d (ZV ..),fR fun x hx=>e x (ZZ _ hx)]
  rfl
theorem bV{h:D->Z_ (Z_ D)}{P:D->D->Prop}:∀{ds:List D},(∀d∈ds,∃y,h d=some (some y)/\P d y)->∃g:List D,bb h ds=some g/\g.length=ds.length/\∀(i:Nat) d,ds[i]?=some d->∃y,g[i]?=some y/\P d y
 |[],_=>⟨[],rfl,rfl,fun i d h=>by simp at h⟩
 |d::ds,e=>by
  obtain⟨y,e1,p⟩:=e d (ZV ..);obtain⟨g,e2,hl,hp⟩:=bV fun x hx=>e x (ZZ _ hx)
  refine⟨y::g,?_,by simp[hl],fun i z hz=>?_⟩
  .unfold bb;rw[e1,e2]
  .cases i with
   |zero=>simp at hz;subst hz;exact⟨y,rfl,p⟩
   |succ i=>simpa using hp i z (by simpa using hz)
def aQ{bo:Bool}{bs:List Bool}{τ:D->DEnv->Z_ DEnv}{ft:DEnv->Z_ Bool}{fe:DEnv->Z_ D}{δ:DEnv}{ds:List D}(h:ds.length<=lim):bW bo bs τ ft fe δ ds=bb (aC τ ft fe (ax bo bs δ)) ds:=by unfold bW;rw[Z0 h]
theorem fG{body:D->DEnv->Z_ Out}(I:List D->DEnv->Prop):∀(post pre:List D)(δ:DEnv),I pre δ->(∀p d q δ,p++d::q=pre++post->I p δ->∃i_,(body d δ=some (.next i_)\/body d δ=some (.cont i_))/\I (p++[d]) i_)->
  ∃i_,am body post δ=some (.next i_)/\I (pre++post) i_
 |[],pre,δ,h,_=>⟨δ,rfl,by simpa using h⟩
 |d::post,pre,δ,h,st=>by
  obtain⟨x_,e1,i1⟩:=st pre d post δ rfl h;obtain⟨i_,e',i'⟩:=fG I post (pre++[d]) x_ i1 fun p d' q δ e i=>st p d' q δ (by simpa using e) i
  refine⟨i_,?_,by simpa using i'⟩
  unfold am
  rcases e1 with e1|e1<;>rw[e1]<;>exact e'
def bT{lo:Int}{n:Nat}{d:D}(h:d∈gT lo n):∃i:Nat,i<n/\d=.int (lo+i):=by
 unfold gT at h;obtain⟨i,hi,e⟩:=ZL.mp h;exact⟨i,Yx.mp hi,e.symm⟩
def aM(lo:Int)(n:Nat):(gT lo n).length=n:=by unfold gT;simp
def qw:∀(ts:List Str),(Txt.join "" ts).length=(ts.map (·.length)).sum:=by
 intro ts;show(Builtin.Str.glued "" ts).length=_;rw[StrLaws.glued_eq_join]
 induction ts with
 |nil=>rfl
 |cons x r ih=>
  cases r with
  |nil=>show x.length=_;simp
  |cons y r=>
   show(x++("":Str)++Str.join "" (y::r)).length=_;rw[Str.length_append,Str.length_append,ih];have:Str.length ""=0:=by decide +kernel
   simp only[Z1,List.sum_cons]
   lia
def lD{P:D->D->Prop}{ds g:List D}{Q:Str->Prop}(hl:g.length=ds.length)(h:∀(i:Nat) d,ds[i]?=some d->∃y,g[i]?=some y/\P d y)(hP:∀d y,P d y->∃x,y=.str x/\Q x):∃ss:List Str,g=ss.map D.str/\∀x∈ss,Q x:=by
 have hy:∀y∈g,∃x,y=.str x/\Q x:=fun y hy=>by
  obtain⟨i,hi,e⟩:=WM.mp hy;obtain⟨z,ez,p⟩:=h i (ds[i]'(by lia)) (by simp[show i<ds.length by lia])
  rw[Y4 hi]at ez
  obtain rfl:=Z9 ez;rw[<-e];exact hP _ _ p
 clear h hl
 induction g with
 |nil=>exact⟨[],rfl,by simp⟩
 |cons y g ih=>
  obtain⟨x,e,q⟩:=hy y (ZV ..);obtain⟨ss,e2,q2⟩:=ih fun z hz=>hy z (ZZ _ hz)
  refine⟨x::ss,by rw[e,e2];rfl,fun z hz=>?_⟩
  rcases ZX.mp hz with hz|hz
  .rw[hz];exact q
  .exact q2 z hz
def yy(z:Str)(ys:List Str)(h:(ys.map (·.length)).sum+ys.length*z.length<=16777216):qN (some (.str z)) (some (.lst (ys.map D.str)))=some (.str (Txt.join z ys)):=by
 unfold qN;simp only[jk,Z0 h]
def ni{ss:List Str}(h:∀x∈ss,x.length=1):(ss.map (·.length)).sum=ss.length:=by
 induction ss with
 |nil=>rfl
 |cons x r ih=>
  have h1:=h x (ZV ..);have h2:=ih fun y hy=>h y (ZZ _ hy)
  simp only[Z1,List.sum_cons,List.length_cons,h1,h2];lia
def fC(z:Str)(i:Int)(hz:z.length<=lim)(h0:0<=i)(h1:i<z.length):∃x:Str,x.length=1/\tu (some (.str z)) (some (.int i))=some (.str x):=by
 obtain⟨c,_,_,e⟩:=jY (xs:=z.cps.toList) (i:=i) h0 (by simpa[Str.length]using h1)
 refine⟨⟨#[c]⟩,rfl,?_⟩
 unfold tu;simp only[Z0 hz,e]
end L2
namespace L2
open PySem PySem.Spec PyProof.Rows
variable[Lams]
noncomputable def tw(x:Z_ D)(τ:D->DEnv->Z_ DEnv)(δ:DEnv):Z_ Out:=match x with|some d=>(match τ d δ with|some i_=>some (.next i_)|none=>none)|none=>none
theorem sw{X:Cx}{a tg:Expr}{fa:DEnv->Z_ D}{τ:D->DEnv->Z_ DEnv}{pos:Pos}(ha:DE X false a fa)(hg:DG X tg τ)(hs:swapsWithSole [tg] a pos.line X.env=pure false:=by rfl)(hw:swappedStores [tg] a X.env=pure none:=by rfl)(h1:(assignEach [tg] X.env).map (·.2)=[assign tg X.env]:=by rfl):
  DS X (.Assign [tg] a pos) (fun δ=>tw (fa δ) τ δ):=
 (A6 ha hg hs hw h1).imp fun Dn σ H hz=>by
  obtain⟨B,Hk,δ,o,R,e,k⟩:=hz;unfold tw at e;dsimp only at e;split at e
  .rename_i d qd
   split at e
   .rename_i i_ PU
    obtain rfl:=Z9 e;refine⟨B,Hk,δ,d,R,qd,fun v H1 s1 r1=>?_⟩
    exact⟨B,Hk,δ,d,i_,R.to s1,r1,PU,fun j_ R'=>k j_ H1 (s1.ext R.borH) R'⟩
   .trivial
  .trivial
@[simp] theorem unpO_s (d:D)(τ:D->DEnv->Z_ DEnv)(δ:DEnv):tw (some d) τ δ=ae (τ d δ) fun i_=>some (.next i_):=by
 unfold tw ae;dsimp only;cases τ d δ<;>rfl
noncomputable def cV(t:DEnv->Z_ Bool)(b:DEnv->Z_ Out):Nat->DEnv->Z_ Out
 |0,_=>none
 |n+1,δ=>match t δ with
  |none=>none
  |some false=>some (.next δ)
  |some true=>match b δ with
   |some (.next i_)=>cV t b n i_
   |some (.cont i_)=>cV t b n i_
   |some (.brk i_)=>some (.next i_)
   |some (.ret e fr)=>some (.ret e fr)
   |none=>none
section
variable{X:Cx}{c a b:Expr}{body:List Stmt}{ft:DEnv->Z_ Bool}{gb:DEnv->Z_ Out}{pos:Pos}{fa fb:DEnv->Z_ D}{m m' mm:Bool}
theorem me(n:Nat)(hp:PassesOwn (model X.prog X.w) X.A X.env X.xe)(hc:DT X c ft)(hb:DSs X body gb):DS X (.While c body [] pos) (fun δ=>cV ft gb n δ):=
 (uA hp hc hb).imp fun Dn σ H hz=>by
  obtain⟨B,Hk,δ,o,R,e,k⟩:=hz;refine⟨fun j j_ H'=>∃i_,Ext B H H'/\Rel X.K B Hk i_ j_ H'/\cV ft gb j i_=some o,⟨n,δ,Ext.refl,R,e⟩,?_⟩
  rintro j HN H1 ⟨x_,x1,R1,e1⟩
  cases j with
  |zero=>trivial
  |succ j=>
   unfold cV at e1;cases q:ft x_ with
   |none=>rw[q]at e1;trivial
   |some t=>
    refine⟨B,Hk,x_,t,R1,q,fun H2 s2=>?_⟩
    rw[q]at e1;have x2:=x1.trans (R1.ext s2);have R2:=R1.to s2;cases t with
    |false=>
     obtain rfl:=Z9 e1;rw[ZY Zv];exact k HN H2 x2 R2
    |true=>
     rw[Z0 rfl];simp only at e1;cases q2:gb x_ with
     |none=>rw[q2]at e1;trivial
     |some o1=>
      rw[q2]at e1;refine⟨fun j_ H'=>∃i_,Ext B H H'/\Rel X.K B Hk i_ j_ H'/\cV ft gb j i_=some o,fun j_ H' z=>⟨j,Yg j,z⟩,B,Hk,x_,o1,R2,q2,?_⟩
      cases o1 with
      |next HP=>exact fun IC H4 x4 R4=>⟨HP,x2.trans x4,R4,e1⟩
      |cont HP=>exact fun IC H4 x4 R4=>⟨HP,x2.trans x4,R4,e1⟩
      |brk HP=>simp only at e1;obtain rfl:=Z9 e1;exact fun IC H4 x4 R4=>k IC H4 (x2.trans x4) R4
      |ret d fr=>simp only at e1;obtain rfl:=Z9 e1;exact fun v4 H4 x4 R4=>k v4 H4 (x2.trans x4) R4
noncomputable def oY(x:Z_ D):Z_ Bool:=match x with
 |some .non=>some false
 |some (.bl b)=>some b
 |some (.int i)=>some (i != 0)
 |some (.str y)=>if y.length<=lim then some ((y.length:Int) != 0) else none
 |some (.lst ds)=>some (!ds.isEmpty)
 |some (.tup ds)=>some (!ds.isEmpty)
 |_=>none
def Reps.empty{K:Z5}{B:Z2->Prop}{H:Hp}{ds:List D}{xs:List V}(r:Reps K B H ds xs):ds.isEmpty=xs.isEmpty:=by
 have:=r.length;cases ds<;>cases xs<;>simp at this<;>rfl
theorem wL(ha:DE X m a fa)(he:∀whole,isTrue a X.env whole=(do let v <-whole;standAt a.pos;holding [v] (truthy v)):=by intro _;rfl):DT X a (fun δ=>oY (fa δ)):=
 (mC ha he).imp fun σ H Q hz=>by
  obtain⟨B,Hk,δ,d,R,e,k⟩:=hz;dsimp only at e;cases q:fa δ with
  |none=>rw[q]at e;trivial
  |some z=>
   rw[q]at e;refine⟨B,Hk,δ,z,R,q,fun v H' s r=>⟨d,?_,k H' s⟩⟩
   cases z with
   |non=>simp only[Rep]at r;subst r;simp only[oY]at e;obtain rfl:=Z9 e;rfl
   |bl b=>simp only[Rep]at r;subst r;simp only[oY]at e;obtain rfl:=Z9 e;rfl
   |int i=>simp only[Rep]at r;subst r;simp only[oY]at e;obtain rfl:=Z9 e;rfl
   |str y=>
    simp only[Rep]at r;subst r;simp only[oY]at e
    by_cases hl:y.length<=lim
    .rw[Z0 hl]at e;obtain rfl:=Z9 e;exact⟨aH hl,rfl⟩
    .rw[ZY hl]at e;trivial
   |lst ds=>
    simp only[Rep]at r;obtain⟨p,xs,rfl,hq,rs⟩:=r;simp only[oY]at e;obtain rfl:=Z9 e;exact .inl ⟨xs,hq.sq,by rw[rs.empty]⟩
   |tup ds=>
    simp only[Rep]at r;obtain⟨p,xs,rfl,hq,rs⟩:=r;simp only[oY]at e;obtain rfl:=Z9 e;exact .inr (.inl ⟨xs,SqT.of hq,by rw[rs.empty]⟩)
   |dT ks vs=>simp only[oY]at e;trivial
   |dK ks vs=>simp only[oY]at e;trivial
   |dD ks vs=>simp only[oY]at e;trivial
   |sp _ _=>simp only[oY]at e;trivial
def vi(x:Z_ D):Z_ Bool:=match x with|some d=>some (decide (d=.non))|none=>none
theorem Rep.non{K:Z5}{B:Z2->Prop}{H:Hp}{d:D}{v:V}(r:Rep K B H d v):(v=.non)=(d=.non):=by
 cases d
 case sp k x=>
  cases k<;>simp only[Rep]at r
  .obtain⟨p,rfl,_⟩:=r;simp
  .obtain⟨p,o,c,u,rfl,_⟩:=r;simp
 all_goals simp only[Rep]at r
 case non=>simp[r]
 all_goals first
  |(subst r;simp)
  |(obtain⟨p,xs,rfl,_⟩:=r;simp)
def yT{K:Z5}{B:Z2->Prop}{H:Hp}{d:D}{v:V}(r:Rep K B H d v):decide (v=.non)=decide (d=.non):=by
 by_cases h:d=.non
 .rw[Zm h,Zm (by rw[r.non];exact h)]
 .rw[ZN h,ZN (by rw[r.non];exact h)]
def rO{x:Z_ D}{c:Bool}(h:vi x=some c):∃d,x=some d/\c=decide (d=.non):=by
 unfold vi at h;split at h
 .obtain rfl:=Z9 h;exact⟨_,rfl,rfl⟩
 .trivial
theorem ym{tk:Nat}{p:Pos}(ha:DE X m a fa)(hm:behindInMarks .IsNot (.Constant .none tk p)=false:=by rfl):DT X (.Compare a [.IsNot] [.Constant .none tk p] pos) (fun δ=>iy (vi (fa δ))):=
 (dR yk ha (m4 (m:=false)) hm).imp fun σ H Q hz=>by
  obtain⟨B,Hk,δ,d,R,e,k⟩:=hz;cases h:vi (fa δ)with
  |none=>simp only[h,iy]at e;trivial
  |some c=>
   simp only[h,iy]at e;obtain rfl:=Z9 e;obtain⟨z,q,rfl⟩:=rO h;refine two (fb:=fun _=>some .non) R q rfl fun v u H' s R' r1 r2=>?_
   simp only[Rep]at r2;exact⟨r2,_,rfl,by rw[yT r1];exact k H' s⟩
end
noncomputable def Ite(K:Z5)(p:Z2):It:=
 ⟨fun i H=>∃xs x,SqL K H p xs/\xs[i]?=some x,
  fun i H v H'=>∃T x,H T=none/\v=.ref T/\H'=upd H T (.tup [.int i,x])/\∀xs,SqL K H p xs->xs[i]?=some x,
  fun i H=>∃xs,SqL K H p xs/\xs.length<=i⟩
structure En (h:Heap)(e c p:Z2)(n:Nat):Prop where
 ee:∃old,IsEnum h e c n old
 cc:h.IsListIter c p n
def xw{prog:ZC}{w:Zo}{A:Zu}{E:Z7->Z4->Prop}{s:Z4}{elts:List Expr}{x1}{pos:Pos}{e c T:Z2}{i:Int}{x:Z7}{Q:Unit->Z4->Prop}(he:IsEnumOut s.heap e c i x T)
  (hQ:∀h',IsEnum h' e c i x->Heap.SameBut e s.heap h'->Q () {s with heap:=h'}):wpAny (model prog w) A (letOwnedTupleGo (.Tuple elts x1 pos) (.ref e) (.ref T)) Q E s:=by
 unfold letOwnedTupleGo;refine Z8 (wpAny_load he ?_)
 change wpAny _ _ (if(["enumerate","zip","dict_itemiterator","dict_reverseitemiterator","odict_iterator","itertools.zip_longest","itertools.pairwise"].contains "enumerate"&&(#[rawInt T,.bool false,.ref c,rawInt i,.none,x]:Array Z7)[0]?==some (rawInt T))=true then _ else _) Q E s
 rw[Z0 (by simp)]
 refine Z8 (YW (X1 he (by simp) fun h' g' m'=>hQ h' g' m'))
def qh{P:ZC}{w:Zo}{K:Z5}{elts:List Expr}{x1}{pos:Pos}{e c p:Z2}(ne:e≠c):
  Turn P w K (.Tuple elts x1 pos) (Ite K p) [e,c] e (fun n h=>En h e c p n) where
 mem:=by simp
 obj:=fun i h st b hb=>by
  obtain⟨⟨old,ee⟩,cc⟩:=st;simp only[ZX,Ze,Yy]at hb
  rcases hb with rfl|rfl
  .exact⟨_,ee,fun v e=>by cases e⟩
  .obtain⟨o,g,_,hd⟩:=cc;exact⟨o,g,fun v e'=>by rw[hd]at e';cases e'⟩
 keep:=fun i h h' st k=>by
  obtain⟨⟨old,ee⟩,cc⟩:=st;exact⟨⟨old,k e (by simp) _ ee⟩,cc.at fun o g=>k c (by simp) o g⟩
 item:=by
  intro X hP hw hK hc i a_ s σ H E I hf st hg;subst hP hw hK;obtain⟨xs,x,h1,hx⟩:=hg;obtain⟨is,ri,sp,_⟩:=I.list h1;obtain⟨ux,e1,r1⟩:=ri.get hx;obtain⟨⟨old,ee⟩,cc⟩:=st;refine wpAny_pyNext_enum_item ee cc sp.isList (x:=ux) (by simpa using e1) ne fun h' out RF new sz k=>⟨_,rfl,?_⟩
  have hT:H s.heap.objs.size=none:=I.hok.fresh (ZU _);have nT:∀b∈[e,c],b≠s.heap.objs.size:=fun b hb q=>by
   simp only[ZX,Ze,Yy]at hb
   rcases hb with rfl|rfl
   .rw[q]at ee;exact absurd (ZO ee) (Y5 _)
   .obtain⟨o,g,_⟩:=cc;rw[q]at g;exact absurd (ZO g) (Y5 _)
  have I1:Inv X a_ σ (upd H s.heap.objs.size (.tup [.int i,x])) {s with heap:=h',toks:=s.toks+1}:=I.turnLay (fp:=[e,c]) (fun b o hb q=>k b o (fun z=>hb (by simp[z])) (fun z=>hb (by simp[z])) q) hf (ZU _)
   ⟨by show 2<=sizeLine;decide,[.int i s.toks,ux],.cons ⟨_,rfl⟩ (.cons r1 .nil),⟨_,new,rfl,_,rfl⟩⟩
  refine xw (s:={s with heap:=h',toks:=s.toks+1}) out fun g2 e2 m2=>?_
  have hz:=hf e (by simp)
  refine⟨.ref s.heap.objs.size,upd H s.heap.objs.size (.tup [.int i,x]),I1.turned (t':=s.toks+1) (fun b o hb q=>aj m2 hb q) (by rw[ai (nT e (by simp))];exact hz.1) hz.2.1 hz.2.2.2.1 hz.2.2.2.2.1 hz.2.2.2.2.2,rfl,
   ⟨s.heap.objs.size,x,hT,rfl,rfl,fun xs' h=>by rw[I.list_inj h h1];exact hx⟩,⟨⟨_,e2⟩,RF.at fun o g=>aj m2 (Zy ne) g⟩,fun b hb=>by rw[ai (nT b hb)];exact(hf b hb).1⟩
 done:=by
  intro X hP hw hK hc i a_ s σ H E I hf st hg;subst hP hw hK;obtain⟨xs,h1,hl⟩:=hg;obtain⟨is,ri,sp,_⟩:=I.list h1;have l1:=ri.length;obtain⟨⟨old,ee⟩,cc⟩:=st;exact wpAny_pyNext_enum_end (I.ok.hd hc) ee cc sp.isList (by simp;lia) fun h' k=>⟨rfl,I.turns (t':=s.toks) (fp:=[e,c]) (fun b o hb q=>k b o (fun z=>hb (by simp[z])) q) hf⟩
 self:=fun _ _ _ _ _ st h=>by obtain⟨⟨old,ee⟩,cc⟩:=st;exact wpAny_pyIter_enum ee h
noncomputable def enL(h:Heap)(p:Z2):Heap:=(h.push (itO false p)).push {cls:=.type "enumerate",data:=.fields #[.none,.bool false,.ref h.objs.size,rawInt 0,.none,.none]}
def tP(p:Z2)(xs:Array Z7):Meets (Builtin.«enumerate.__new__» ⟨[.type "enumerate",.ref p],[]⟩) (fun _ R s=>SqAt false s.heap p xs/\R (.ok (.ret (.ref (s.heap.push (itO false p)).objs.size))) {s with heap:=enL s.heap p}):=
 .of_wp fun prog w A R s h=>by
  obtain⟨hp,g,d,tk,os⟩:=s;obtain⟨h1,h⟩:=h;have Hd:=sub_enumerate;have k1:SqAt false (Shared.heap ⟨hp,g,d,tk,os⟩) p xs:=h1
  wp_walk using db k1
  refine wpAny_stack_any fun st=>Z3 ?_
  split
  .rename_i c0 _ _ _ _ _
   cases (c0==Value.type "enumerate")<;>(wp_walk using db k1;exact⟨_,rfl,h⟩)
  .wp_walk using db k1
   exact⟨_,rfl,h⟩
def qX{prog:ZC}{w:Zo}{A:Zu}{E:Z7->Z4->Prop}{s:Z4}{p:Z2}{xs:Array Z7}{Q:Z7->Z4->Prop}(hp:SqAt false s.heap p xs)
  (h:∀h',IsEnum h' (s.heap.objs.size+1) s.heap.objs.size 0 .none->h'.IsListIter s.heap.objs.size p 0->(∀b o,s.heap.get? b=some o->h'.get? b=some o)->Q (.ref (s.heap.objs.size+1)) {s with heap:=h'}):
  wpAny (model prog w) A (call (.type "enumerate") [.ref p]) Q E s:=by
 refine callType_new F.called_enumerate (by decide) (F.typeCall_enumerate_1 _) (F.newCall_enumerate_1 _) (fun obj=>F.args_object_init_2 obj _) F.entry_enumerate_new (tP p xs) ⟨hp,?_⟩
 have s1:(s.heap.push (itO false p)).objs.size=s.heap.objs.size+1:=YJ ..;have e5:(enL s.heap p).get? (s.heap.push (itO false p)).objs.size=some {cls:=.type "enumerate",data:=.fields #[.none,.bool false,.ref s.heap.objs.size,rawInt 0,.none,.none]}:=ZT _ rfl
 have c5:(enL s.heap p).get? s.heap.objs.size=some (itO false p):=Z6 _ (ZT _ rfl)
 rw[s1]at e5;refine⟨⟨_,by rw[s1];exact e5,rfl⟩,?_⟩
 rw[s1];exact h _ e5 ⟨_,c5,rfl,rfl⟩ fun b o e=>Z6 _ (Z6 _ e)
section
variable{X:Cx}{elts:List Expr}{x1:Nat}{tp:Pos}{m:Bool}{a:Expr}{fa:DEnv->Z_ D}{p pos:Pos}
def Cl(K:Z5)(ta:TA):TI:=fun σ H R=>ta σ H fun vs H1=>∃p,vs=[.ref p]/\(∃xs,SqL K H1 p xs)/\R (Ite K p) H1
def wT{ta:TA}(hg:Gl X "enumerate")(hm:X.mg "enumerate"=none)(ha:PA X [a] ta)(hs:starEach [a] X.env=[(false,eval a X.env)]:=by rfl):
  PI X (.Tuple elts x1 tp) (.Call (.Name "enumerate" p) [a] [] pos) (Cl X.K ta):=by
 intro a_ s σ H R I h;refine Call_ (d6 I hg hm boot_enumerate (X3 (thn (ha pos a_ s σ H _ I h) fun us s1 ⟨vs,H1,I1,r1,q1⟩=>?_) hs rfl))
 obtain⟨l1,e,⟨xs,h1⟩,q⟩:=q1;subst e;cases r1 with
 |cons r rr=>
  cases rr;cases r;obtain⟨is,ri,sp,_⟩:=I1.list h1;refine qX (p:=l1) sp.isList fun h' ee cc k=>?_
  have I2:Inv X a_ σ H1 {s1 with heap:=h'}:=I1.kept (t':=s1.toks) k
  refine wpAny_pyIter_enum (s:={s1 with heap:=h'}) ee ⟨s1.heap.objs.size+1,[s1.heap.objs.size+1,s1.heap.objs.size],_,_,H1,rfl,I2,qh (Nat.ne_of_gt (Yg _)),⟨⟨_,ee⟩,cc⟩,fun b hb=>?_,q⟩
  have FA:s1.heap.objs.size<=b:=by
   simp only[ZX,Ze,Yy]at hb
   rcases hb with rfl|rfl
   .exact Xi _
   .exact ZU _
  obtain⟨f0,f1,f2,f3,f4,f5⟩:=I1.fpOk FA (I1.hok.fresh FA);exact⟨f0,f1,f2,f3,f4,f5⟩
def f9(i:Nat):List D->List D
 |[]=>[]
 |d::ds=>.tup [.int i,d]::f9 (i+1) ds
theorem jC:∀(ds:List D)(j i:Nat)(x:D),(f9 j ds)[i]?=some x->∃d,ds[i]?=some d/\x=.tup [.int ((j+i:Nat):Int),d]
 |[],j,i,x,h=>by simp[f9]at h
 |d::ds,j,0,x,h=>by simp[f9]at h;exact⟨d,rfl,by rw[<-h];simp⟩
 |d::ds,j,i+1,x,h=>by
  simp[f9]at h;obtain⟨e,h1,h2⟩:=jC ds (j+1) i x h;exact⟨e,by simpa using h1,by rw[h2,show j+1+i=j+(i+1) by lia]⟩
theorem j6:∀(j:Nat)(ds:List D),(f9 j ds).length=ds.length
 |_,[]=>rfl
 |j,d::ds=>by simp[f9,j6 (j+1) ds]
def tU(x:Z_ D):Z_ (List D):=match x with|some (.lst ds)=>some (f9 0 ds)|_=>none
theorem ze(g:Gl X "enumerate")(hm:X.mg "enumerate"=none)(h:DE X m a fa)(hs:starEach [a] X.env=[(false,eval a X.env)]:=by rfl):
  DI X m (.Tuple elts x1 tp) (.Call (.Name "enumerate" p) [a] [] pos) (fun δ=>tU (fa δ)):=
 (wT g hm (aw h aO hs) hs).imp fun σ H Q hz=>by
  obtain⟨B,Hk,δ,ds,R,e,k⟩:=hz;dsimp only at e;unfold tU at e;split at e
  .rename_i as q1
   obtain rfl:=Z9 e;refine oX R q1 fun v H' s R' r1=>?_
   simp only[Rep]at r1;obtain⟨l1,xs,rfl,hq,rs⟩:=r1;refine⟨l1,rfl,⟨xs,hq.sq⟩,k _ H' s fun H2 x=>?_⟩
   have hx:=(hq.ext x).sq;have rx:=rs.ext x;refine⟨⟨xs,hx,by rw[j6,rx.length];exact ZU _⟩,fun i d hd=>?_⟩
   obtain⟨d1,g1,rfl⟩:=jC _ _ _ _ hd;obtain⟨y1,w1,z1⟩:=rx.get g1;refine⟨⟨xs,y1,hx,w1⟩,fun v H3 ⟨T,v1,hT,ev,e3,n1⟩=>?_⟩
   have:=n1 xs hx;rw[w1]at this;obtain rfl:=Z9 this;have sm:Same H2 (upd H2 T (.tup [.int i,y1])):=au hT;have bo:∀a,ba m B δ σ a->∃o:HOn,H2 a=some o.1:=fun a ha=>by
    obtain⟨o,ho⟩:=R'.bsH m a ha;exact⟨o,(x.lent a ha).trans ho⟩
   have ex:=sm.ext bo;rw[e3,ev];refine⟨sm,?_⟩
   simp only[Rep];refine⟨T,[.int i,y1],rfl,ag,Reps.cons ?_ (Reps.cons (z1.ext ex) Reps.nil)⟩
   simp only[Rep,XS]
  .trivial
end
mutual
theorem KR.raw{P:ZC}{w:Zo}{H:Hp}{h:Heap}(ok:HOk P w H h):∀{d:D}{v:V}{u:Z7},KR H d v->RelV v u->RH h d u
 |.int i,v,u,r,q=>by simp only[KR]at r;subst r;obtain⟨t,rfl⟩:=q;simp only[RH];exact⟨t,rfl⟩
 |.str i,v,u,r,q=>by simp only[KR]at r;subst r;obtain⟨t,rfl⟩:=q;simp only[RH];exact⟨t,rfl⟩
 |.tup ds,v,u,r,q=>by
  simp only[KR]at r;obtain⟨a,xs,rfl,g,rs⟩:=r;cases q;obtain⟨_,its,rv,ht⟩:=(show ObjOk P w H h a (.tup xs) from ok a _ g)
  simp only[RH];exact⟨a,its,rfl,ht,KRs.raw ok rs rv⟩
 |.non,v,u,r,_=>by simp only[KR]at r
 |.bl _,v,u,r,_=>by simp only[KR]at r
 |.lst _,v,u,r,_=>by simp only[KR]at r
 |.dT _ _,v,u,r,_=>by simp only[KR]at r
 |.dK _ _,v,u,r,_=>by simp only[KR]at r
 |.dD _ _,v,u,r,_=>by simp only[KR]at r
 |.sp _ _,v,u,r,_=>by simp only[KR]at r
theorem KRs.raw{P:ZC}{w:Zo}{H:Hp}{h:Heap}(ok:HOk P w H h):∀{ds:List D}{xs:List V}{us:List Z7},KRs H ds xs->Vals xs us->RHs h ds us
 |[],xs,us,r,q=>by simp only[KRs]at r;subst r;cases q;simp only[RHs]
 |d::ds,xs,us,r,q=>by
  simp only[KRs]at r;obtain⟨x,t,rfl,r1,r2⟩:=r;cases q with
  |cons q1 q2=>simp only[RHs];exact⟨_,_,rfl,KR.raw ok r1 q1,KRs.raw ok r2 q2⟩
end
mutual
theorem Rep.key{K:Z5}{B:Z2->Prop}{H:Hp}:∀{n:Nat}{d:D}{v:V},bH n d=true->Rep K B H d v->KR H d v
 |n,.int i,v,_,r=>by simp only[Rep]at r;simp only[KR];exact r
 |n,.str i,v,_,r=>by simp only[Rep]at r;simp only[KR];exact r
 |n,.tup ds,v,h,r=>by
  simp only[Rep]at r;obtain⟨a,xs,rfl,g,rs⟩:=r;obtain⟨k,_,hd⟩:=dy h;simp only[KR];exact⟨a,xs,rfl,g,Reps.key hd rs⟩
 |n,.non,v,h,_=>by cases n<;>simp[bH]at h
 |n,.bl _,v,h,_=>by cases n<;>simp[bH]at h
 |n,.lst _,v,h,_=>by cases n<;>simp[bH]at h
 |n,.dT _ _,v,h,_=>by cases n<;>simp[bH]at h
 |n,.dK _ _,v,h,_=>by cases n<;>simp[bH]at h
 |n,.dD _ _,v,h,_=>by cases n<;>simp[bH]at h
 |n,.sp _ _,v,h,_=>by cases n<;>simp[bH]at h
theorem Reps.key{K:Z5}{B:Z2->Prop}{H:Hp}:∀{n:Nat}{ds:List D}{xs:List V},ds.all (bH n)=true->Reps K B H ds xs->KRs H ds xs
 |n,[],xs,_,r=>by simp only[Reps]at r;simp only[KRs];exact r
 |n,d::ds,xs,h,r=>by
  rw[List.all_cons,ZH]at h;simp only[Reps]at r;obtain⟨x,t,rfl,r1,r2⟩:=r;simp only[KRs];exact⟨x,t,rfl,Rep.key h.1 r1,Reps.key h.2 r2⟩
end
mutual
theorem KR.rep{K:Z5}{B:Z2->Prop}{H:Hp}:∀{d:D}{v:V},KR H d v->Rep K B H d v
 |.int i,v,r=>by simp only[KR]at r;simp only[Rep];exact r
 |.str i,v,r=>by simp only[KR]at r;simp only[Rep];exact r
 |.tup ds,v,r=>by
  simp only[KR]at r;obtain⟨a,xs,rfl,g,rs⟩:=r;simp only[Rep];exact⟨a,xs,rfl,g,KRs.rep rs⟩
 |.non,v,r=>by simp only[KR]at r
 |.bl _,v,r=>by simp only[KR]at r
 |.lst _,v,r=>by simp only[KR]at r
 |.dT _ _,v,r=>by simp only[KR]at r
 |.dK _ _,v,r=>by simp only[KR]at r
 |.dD _ _,v,r=>by simp only[KR]at r
 |.sp _ _,v,r=>by simp only[KR]at r
theorem KRs.rep{K:Z5}{B:Z2->Prop}{H:Hp}:∀{ds:List D}{xs:List V},KRs H ds xs->Reps K B H ds xs
 |[],xs,r=>by simp only[KRs]at r;simp only[Reps];exact r
 |d::ds,xs,r=>by
  simp only[KRs]at r;obtain⟨x,t,rfl,r1,r2⟩:=r;simp only[Reps];exact⟨x,t,rfl,KR.rep r1,KRs.rep r2⟩
end
def DPairs.val{H:Hp}{b_:List (D×V)}{xs:List (D×Z2×Z7)}(r:DPairs H b_ xs)(k:D):RelO (dH b_ k) ((atKey xs k).map (·.2)):=by
 induction r with
 |nil=>exact True.intro
 | @cons p q ps qs h t ih=>
  by_cases e:p.1=k
  .rw[bA e,show atKey (q::qs) k=some q.2 by simp[atKey,List.find?_cons,h.1.symm.trans e]]
   exact h.2.2.2
  .have e':¬q.1=k:=fun z=>e (h.1.trans z)
   rw[bB e,show atKey (q::qs) k=atKey qs k by simp[atKey,List.find?_cons,e']]
   exact ih
def DPairs.repl{H:Hp}{b_:List (D×V)}{xs:List (D×Z2×Z7)}(r:DPairs H b_ xs)(k:D){y:V}{u:Z7}(ry:RelV y u):DPairs H (b_.map fun kv=>if kv.1=k then(kv.1,y) else kv) (xs.map (putAt k u)):=by
 induction r with
 |nil=>exact .nil
 | @cons p q ps qs h t ih=>
  refine .cons ?_ ih
  dsimp only
  by_cases e:p.1=k
  .rw[Z0 e,putAt,Z0 (h.1.symm.trans e)];exact⟨h.1,h.2.1,h.2.2.1,ry⟩
  .rw[ZY e,putAt,ZY fun z=>e (h.1.trans z)];exact h
def DPairs.put{H:Hp}{b_:List (D×V)}{xs:List (D×Z2×Z7)}(r:DPairs H b_ xs)(k:D){b:Z2}{y:V}{u:Z7}(hk:bH 8 k=true)(hb:KR H k (.ref b))(ry:RelV y u):DPairs H (c6 b_ k y) (storedH xs k b u):=by
 have e:(b_.any fun kv=>decide (kv.1=k))=(atKey xs k).isSome:=by rw[dw,(r.val k).isSome_eq,Option.isSome_map]
 unfold c6 storedH;rw[e]
 by_cases q:(atKey xs k).isSome=true
 .rw[Z0 q,Z0 q];exact r.repl k ry
 .rw[ZY q,ZY q];exact Paired.snoc r ⟨rfl,hk,hb,ry⟩
section
variable{P:ZC}{w:Zo}{H:Hp}{h:Heap}{a:Z2}
def kJ{b_:List (D×V)}{ep:Nat}(ok:HOk P w H h)(e:Rd H a (.dD b_ ep)):b_.length<=sizeLine/\(a==sysModules)=false/\∃xs,DPairs H b_ xs/\h.DictOfH (br P w) a xs:=by
 obtain⟨z,y,xs,r,o,es,h1,h2,h3,h4,h5⟩:=(show ObjOk P w H h a (.dD b_ ep) from jF ok e)
 refine⟨z,y,xs,r,o,es,ep,h1,h2,h3,h4,?_,h5⟩
 have all:∀{l:List (D×V)}{m:List (D×Z2×Z7)},DPairs H l m->∀x∈m,(br P w).is h x.1 x.2.1:=by
  intro l m q
  induction q with
  |nil=>intro x hx;exact nomatch hx
  | @cons p q ps qs hq t ih=>
   intro x hx
   rcases ZX.mp hx with rfl|hx
   .exact⟨by rw[<-hq.1];exact hq.2.1,by rw[<-hq.1];exact KR.raw ok hq.2.2.1 rfl⟩
   .exact ih x hx
 exact all r
def uB(hb:sysModules<h.objs.size):ObjOk P w H (h.push {cls:=.type "dict",data:=.dict #[]}) h.objs.size (.dD [] 0):=
 ⟨Zt _,by simpa using Nat.ne_of_gt hb,[],.nil,_,#[],ZT _ rfl,⟨rfl,rfl,rfl⟩,rfl,rfl,Y3⟩
end
section
variable{X:Cx}{a_:List (Z2×Obj)}{σ:St}{H:Hp}{s:Z4}{a b:Z2}{b_:List (D×V)}{ep:Nat}{k:D}{v:V}{r:Z7}{A:Zu}{E:Z7->Z4->Prop}
def cY(I:Inv X a_ σ H s)(hk:bH 8 k=true)(kb:KR H k (.ref b)):(br X.prog X.w).is s.heap k b:=⟨hk,KR.raw I.hok kb rfl⟩
def nM{Q:Z7->Z4->Prop}(hu:A.units+40<cLine)(I:Inv X a_ σ H s)(e:Rd H a (.dD b_ ep))(hk:bH 8 k=true)(kb:KR H k (.ref b))(l:dH b_ k=some v)(h:∀w' s',Inv X a_ σ H s'->RelV v w'->Q w' s'):
  wpAny (model X.prog X.w) A (getItem (.ref a) (.ref b)) Q E s:=by
 obtain⟨z,hd,xs,rel,dd⟩:=kJ I.hok e;obtain⟨w',hw,A_⟩:=RelO.some_of (v:=v) (o:=(atKey xs k).map (·.2)) (by rw[<-l];exact rel.val k)
 obtain⟨p,hp,Gk⟩:=X7.mp hw;refine wpAny_getItem_heap (knd:=br X.prog X.w) (by show A.units+1+30<cLine;lia) (cY I hk kb) dd hp ?_
 rw[Gk];exact h w' _ (I.tok _) A_
def oU{Q:Unit->Z4->Prop}(hu:A.units+40<cLine)(I:Inv X a_ σ H s)(e:H a=some (.dD b_ ep))(hk:bH 8 k=true)(kb:KR H k (.ref b))(l:b_.length<sizeLine)(rv:RelV v r)(h:∀Fe s',Inv X a_ σ (upd H a (.dD (c6 b_ k v) Fe)) s'->Q () s'):
  wpAny (model X.prog X.w) A (setItem (.ref a) (.ref b) r) Q E s:=by
 obtain⟨z,hd,xs,rel,dd⟩:=kJ I.hok (.inl e);have hl:(c6 b_ k v).length<=sizeLine:=by have:=be b_ k v;lia
 refine wpAny_setItem_heap (knd:=br X.prog X.w) (hsz:=by rw[<-YF rel];exact z) (by show A.units+1+30<cLine;lia) (cY I hk kb) dd fun h' F_ hs=>?_
 obtain⟨q,es,Fe,hq,h2,h3,h4,_,h5⟩:=F_;refine h Fe _ (dL I (by rw[e];exact True.intro) hs ⟨q,hq⟩ ⟨hl,hd,_,Paired.mapP (rel.put k hk kb rv) fun p q z=>⟨z.1,z.2.1,KR.to (fun c ys ec=>?_) z.2.2.1,z.2.2.2⟩,q,es,hq,h2,h3,h4,h5⟩)
 rw[ai (u8 ec e (fun z=>nomatch z))]
 exact ec
end
def Rel.oset{K:Z5}{B:Z2->Prop}{Hk H:Hp}{δ:DEnv}{σ:St}{i:Nat}{d d':D}{l:Z2}{o:HO}(R:Rel K B Hk δ σ H)(h:δ[i]?=some (some (d,true)))(hl:σ[i]?=some (some (.ref l)))(new:Ext B H (upd H l o)->ObR K B (upd H l o) d' l):
  Ext B H (upd H l o)/\Rel K B Hk (δ.set i (some (d',true))) σ (upd H l o):=by
 obtain⟨a,e1,e2,ob⟩:=R.own i _ h;rw[hl]at e1;cases e1;obtain⟨u,hx,mu⟩:=ob.mut;have hb:¬B l:=fun z=>by obtain⟨o,q⟩:=R.bor l z;rw[e2]at q;trivial
 have ex:Ext B H (upd H l o):=bF hx mu hb;have w_:i<δ.length:=(ZW.mp h).1
 have NA:∀j e,(δ.set i (some (d',true)))[j]?=some (some (e,true))->∃e',δ[j]?=some (some (e',true)):=fun j e q=>by
  by_cases hj:j=i
  .subst hj;exact⟨_,h⟩
  .rw[ZP (Zy hj)]at q;exact⟨_,q⟩
 refine⟨ex,⟨R.same.put e2,R.bor,by simpa using R.len,fun j e q=>?_,fun j e q=>?_,fun j k e f q GY h1 h2 h3 h4=>?_⟩⟩
 .by_cases hj:j=i
  .subst hj
   rw[ZF w_]at q
   cases q
  .rw[ZP (Zy hj)]at q
   obtain⟨v,q1,q2⟩:=R.var j e q;exact⟨v,q1,q2.ext ex⟩
 .by_cases hj:j=i
  .subst hj
   rw[ZF w_]at q
   cases q;exact⟨l,hl,e2,new ex⟩
  .rw[ZP (Zy hj)]at q
   obtain⟨c,q1,q2,q3⟩:=R.own j e q;have hc:c≠l:=fun z=>by subst z;exact R.dis j i e _ c hj q h q1 hl
   exact⟨c,q1,q2,q3.ext ex fun o q _=>by rw[ai hc];exact q⟩
 .obtain⟨e',z1⟩:=NA j e h1
  obtain⟨f',z2⟩:=NA k f h2;exact R.dis j k e' f' q GY z1 z2 h3 h4
def uO:D->Bool
 |.tup _=>true
 |_=>false
def b7{κ:Type}[DecidableEq κ](k:κ):List κ->List D->Z_ D
 |x::ks,d::ds=>if x=k then some d else b7 k ks ds
 |_,_=>none
def oC{κ:Type}[DecidableEq κ](k:κ)(v:D):List κ->List D->List D
 |x::ks,d::ds=>(if x=k then v else d)::oC k v ks ds
 |_,_=>[]
def zk{κ:Type}[DecidableEq κ](k:κ)(v:D)(ks:List κ)(ds:List D):List D:=if k∈ks then oC k v ks ds else ds++[v]
def lB{κ:Type}[DecidableEq κ](k:κ)(ks:List κ):List κ:=if k∈ks then ks else ks++[k]
section
variable{K:Z5}{B:Z2->Prop}{H:Hp}{κ:Type}[DecidableEq κ]
theorem cF(k:κ):∀{b_:List (κ×V)}{ds:List D},Reps K B H ds (b_.map (·.2))->(b7 k (b_.map (·.1)) ds=none->dH b_ k=none)/\∀d,b7 k (b_.map (·.1)) ds=some d->∃v,dH b_ k=some v/\Rep K B H d v
 |[],ds,r=>⟨fun _=>rfl,fun d h=>by cases ds<;>simp[b7]at h⟩
 |p::b_,ds,r=>by
  cases ds with
  |nil=>simp only[Z1,Reps]at r;trivial
  |cons d ds=>
   rw[Z1]at r;obtain⟨r1,r2⟩:=r.uncons;rw[Z1];unfold b7
   by_cases e:p.1=k
   .rw[Z0 e]
    exact⟨fun z=>(by trivial),fun d2 z=>(by obtain rfl:=Z9 z;exact⟨p.2,bA e,r1⟩)⟩
   .rw[ZY e,bB e]
    exact cF k r2
def rS(k:κ)(b_:List (κ×V)):(b_.any fun kv=>decide (kv.1=k))=decide (k∈b_.map (·.1)):=by
 rw[YL,Yc,Y8,ZL];constructor
 .rintro⟨x,h1,h2⟩;exact⟨x,h1,Zc h2⟩
 .rintro⟨x,h1,h2⟩;exact⟨x,h1,Zm h2⟩
def fz(k:κ)(v:V)(b_:List (κ×V)):(c6 b_ k v).map (·.1)=lB k (b_.map (·.1)):=by
 unfold c6 lB;rw[rS]
 by_cases hk:k∈b_.map (·.1)
 .rw[Zm hk,Z0 rfl,Z0 hk,List.map_map]
  refine YE fun x _=>?_
  simp only[Function.comp];split<;>rfl
 .rw[ZN hk,ZY Zv,ZY hk]
  simp
theorem jf{d:D}{v:V}(r:Rep K B H d v)(k:κ):∀{b_:List (κ×V)}{ds:List D},Reps K B H ds (b_.map (·.2))->Reps K B H (oC k d (b_.map (·.1)) ds) ((b_.map fun kv=>if kv.1=k then(kv.1,v) else kv).map (·.2))
 |[],ds,q=>by
  cases ds with
  |nil=>exact Reps.nil
  |cons _ _=>simp only[Y7,Reps]at q;obtain⟨_,_,z,_⟩:=q;trivial
 |p::b_,ds,q=>by
  cases ds with
  |nil=>simp only[Z1,Reps]at q;trivial
  |cons d0 ds=>
   rw[Z1]at q;obtain⟨r1,r2⟩:=q.uncons;have ih:=jf r k r2;rw[Z1,Z1,Z1];unfold oC
   by_cases e:p.1=k
   .rw[Z0 e,Z0 e];exact Reps.cons r ih
   .rw[ZY e,ZY e];exact Reps.cons r1 ih
def mi{d:D}{v:V}(r:Rep K B H d v)(k:κ){b_:List (κ×V)}{ds:List D}(q:Reps K B H ds (b_.map (·.2))):Reps K B H (zk k d (b_.map (·.1)) ds) ((c6 b_ k v).map (·.2)):=by
 unfold c6 zk;rw[rS]
 by_cases hk:k∈b_.map (·.1)
 .rw[Zm hk,Z0 rfl,Z0 hk];exact jf r k q
 .rw[ZN hk,ZY Zv,ZY hk,YY]
  exact q.append (Reps.cons r Reps.nil)
end
def DGA(H:Hp)(a:Z2)(y:V)(r:Z_ V):Prop:=BA H a y r\/∃b_ ep k b,Rd H a (.dD b_ ep)/\y=.ref b/\bH 8 k=true/\KR H k (.ref b)/\r=dH b_ k
def DPA(H:Hp)(a:Z2)(y v:V)(N:Hp->Prop):Prop:=(∃H',Da H a y v H'/\N H')\/∃b_ ep k b,H a=some (.dD b_ ep)/\y=.ref b/\bH 8 k=true/\KR H k (.ref b)/\b_.length<sizeLine/\∀Fe,N (upd H a (.dD (c6 b_ k v) Fe))
section
variable{X:Cx}{a_:List (Z2×Obj)}{σ:St}{H:Hp}{s:Z4}{a:Z2}{y v:V}{u r:Z7}{o:Z_ V}{A:Zu}{E:Z7->Z4->Prop}
def nQ{Q:Z7->Z4->Prop}(hu:A.units+40<cLine)(I:Inv X a_ σ H s)(g:DGA H a y (some v))(ry:RelV y u)(h:∀w' s',Inv X a_ σ H s'->RelV v w'->Q w' s'):wpAny (model X.prog X.w) A (getItem (.ref a) u) Q E s:=by
 rcases g with g|⟨b_,ep,k,b,e,rfl,hk,kb,l⟩
 .exact rT (by lia) I g ry h
 .cases (show u=Value.ref b from ry);exact nM hu I e hk kb l.symm h
def oF{N:Hp->Prop}{Q:Unit->Z4->Prop}(hu:A.units+40<cLine)(I:Inv X a_ σ H s)(g:DPA H a y v N)(ry:RelV y u)(rv:RelV v r)(h:∀H' s',Inv X a_ σ H' s'->N H'->Q () s'):wpAny (model X.prog X.w) A (setItem (.ref a) u r) Q E s:=by
 rcases g with⟨H',g,n⟩|⟨b_,ep,k,b,e,rfl,hk,kb,l,n⟩
 .exact sI (by lia) I g ry rv fun s' I'=>h H' s' I' n
 .cases (show u=Value.ref b from ry);exact oU hu I e hk kb l rv fun Fe s' I'=>h _ s' I' (n Fe)
def j4(I:Inv X a_ σ H s)(g:DGA H a y o):s.TypeIs (.ref a) "dict":=by
 rcases g with g|⟨b_,ep,k,b,e,_⟩
 .exact kY I g
 .obtain⟨_,_,xs,_,dd⟩:=kJ I.hok e
  exact dd.typeIs
end
def tGA(td ty:TE):TE:=fun σ H Q=>td σ H fun x H1=>ty σ H1 fun y H2=>∃a v,x=.ref a/\DGA H2 a y (some v)/\Q v H2
def sPA(td ty tv:TE):TS:=fun D σ H=>tv σ H fun v H1=>td σ H1 fun x H2=>ty σ H2 fun y H3=>∃a,x=.ref a/\DPA H3 a y v fun H4=>D.nx σ H4
section
variable{X:Cx}{o i value:Expr}{pos pos':Pos}{td ty tv:TE}
def vo(hu:X.A.units+64<cLine)(ho:PE X o td)(hi:PE X i ty)(hs:BE i):PE X (.Subscript o i pos) (tGA td ty):=by
 intro a_ s σ H Q I h;refine yp PySem.F.slot_dict_getitem.lookup hs (thn (ho a_ s σ H _ I h) fun u s1 ⟨x,H1,I1,rx,q1⟩=>thn (hi a_ s1 σ H1 _ I1 q1) fun iv s2 hz=>?_)
 obtain⟨y,H2,I2,ry,a,v,ex,g,q2⟩:=hz;subst ex;obtain rfl:u=Value.ref a:=rx;exact⟨j4 I2 g,nQ (by lia) I2 g ry fun w' s3 I3 A_=>⟨v,H2,I3,A_,q2⟩⟩
def mV(hu:X.A.units+64<cLine)(ho:PE X o td)(hi:PE X i ty)(hv:PE X value tv)(hs:swapsWith value (some (.Subscript o i pos')) pos.line X.env=pure false):PS X (.Assign [.Subscript o i pos'] value pos) (sPA td ty tv):=by
 intro a_ s σ H D I h;refine wpAny_Assign_Subscript (thn (hv a_ s σ H _ I h) fun r s1 ⟨v,H1,I1,rv,q1⟩=>thn (ho a_ s1 σ H1 _ I1 q1) fun u s2 ⟨x,H2,I2,rx,q2⟩=>thn (hi a_ s2 σ H2 _ I2 q2) fun iv s3 ⟨y,H3,I3,ry,a,ex,g⟩=>?_) hs
 subst ex;obtain rfl:u=Value.ref a:=rx;exact oF (by lia) I3 g ry rv fun H4 s4 I4 q3=>⟨σ,H4,I4,q3⟩
end
noncomputable def b8(x k:Z_ D):Z_ (Z_ D):=match x,k with
 |some (.dK ks vs),some d=>(match fQ d with|some kk=>some (b7 kk ks vs)|none=>none)
 |some (.dD ks vs),some d=>if(bH 8 d&&uO d)=true then some (b7 d ks vs) else none
 |_,_=>none
def dP{K:Z5}{B:Z2->Prop}{H:Hp}{d:D}{k:Key}{v:V}(h:fQ d=some k)(r:Rep K B H d v):v=kV k:=by
 cases d<;>simp only[fQ]at h<;>first
  |(cases h;simp only[Rep]at r;exact r)
  |trivial
def de{K:Z5}{B:Z2->Prop}{H:Hp}{d:D}{v:V}(h:uO d=true)(r:Rep K B H d v):∃b,v=.ref b:=by
 cases d<;>simp only[uO]at h<;>first
  |(simp only[Rep]at r;obtain⟨a,xs,e,_⟩:=r;exact⟨a,e⟩)
  |trivial
def da{K:Z5}{B B':Z2->Prop}{H:Hp}{x k:Z_ D}{o:Z_ D}(h:b8 x k=some o):∃d e,x=some d/\k=some e/\∀{v u:V},Rep K B H d v->Rep K B' H e u->∃a r,v=.ref a/\DGA H a u r/\r.isSome=o.isSome/\∀z,o=some z->∃w,r=some w/\Rep K B H z w:=by
 unfold b8 at h;split at h
 .rename_i ks vs d
  split at h
  .rename_i kk hk
   obtain rfl:=Z9 h;refine⟨_,_,rfl,rfl,fun{v u} r1 r2=>?_⟩
   simp only[Rep]at r1;obtain⟨a,b_,rfl,hq,rfl,rs⟩:=r1;have hu:=dP hk r2;obtain⟨n1,n2⟩:=cF kk rs;refine⟨a,dH b_ kk,rfl,.inl (.inl ⟨b_,kk,hq.imp And.right id,hu,rfl⟩),?_,fun z hz=>n2 z hz⟩
   cases q:b7 kk (b_.map (·.1)) vs with
   |none=>rw[n1 q];rfl
   |some z=>obtain⟨w,e,_⟩:=n2 z q;rw[e];rfl
  .trivial
 .rename_i ks vs d
  split at h
  .rename_i hk
   obtain rfl:=Z9 h;rw[ZH]at hk;refine⟨_,_,rfl,rfl,fun{v u} r1 r2=>?_⟩
   simp only[Rep]at r1;obtain⟨a,b_,rfl,⟨ep,hq⟩,rfl,rs⟩:=r1;obtain⟨b,rfl⟩:=de hk.2 r2;obtain⟨n1,n2⟩:=cF d rs;refine⟨a,dH b_ d,rfl,.inr ⟨b_,ep,d,b,hq.imp And.right id,rfl,hk.1,r2.key hk.1,rfl⟩,?_,fun z hz=>n2 z hz⟩
   cases q:b7 d (b_.map (·.1)) vs with
   |none=>rw[n1 q];rfl
   |some z=>obtain⟨w,e,_⟩:=n2 z q;rw[e];rfl
  .trivial
 .trivial
def zl(x k:Z_ D):Z_ D:=match b8 x k with|some (some d)=>some d|_=>none
section
variable{X:Cx}{a b:Expr}{fa fb:DEnv->Z_ D}{m m' mm:Bool}{pos:Pos}
theorem A8(hu:X.A.units+64<cLine)(ha:DE X m a fa)(hb:DE X m' b fb)(hs:BE b:=by intro _ _;rfl):DE X m (.Subscript a b pos) (fun δ=>zl (fa δ) (fb δ)):=
 (vo hu ha hb hs).imp fun σ H Q hz=>by
  obtain⟨B,Hk,δ,d,R,e,k⟩:=hz;dsimp only at e;unfold zl at e;cases q:b8 (fa δ) (fb δ)with
  |none=>rw[q]at e;trivial
  |some o=>
   rw[q]at e;cases o with
   |none=>trivial
   |some z=>
    obtain rfl:=Z9 e;obtain⟨d1,d2,e1,e2,_⟩:=da (K:=X.K) (B:=ba m B δ σ) (B':=ba m' B δ σ) (H:=H) q;refine two R e1 e2 fun v u H' s R' r1 r2=>?_
    obtain⟨RE,RD,Kv,Ku,go⟩:=da (K:=X.K) (B:=ba m B δ σ) (B':=ba m' B δ σ) (H:=H') q;rw[e1]at Kv;obtain rfl:=Z9 Kv;rw[e2]at Ku;obtain rfl:=Z9 Ku;obtain⟨c,r,ev,g,_,hz⟩:=go r1 r2;obtain⟨w,rfl,A_⟩:=hz _ rfl;exact⟨c,w,ev,g,k w H' s A_⟩
end
section
variable{prog:ZC}{w:Zo}{A:Zu}{E:Z7->Z4->Prop}{s:Z4}
def nF{κ:Type}[DecidableEq κ]{knd:PySem.KeyKind prog w κ}{d:Z2}{b_:List (κ×Z7)}{k:κ}{key dflt:Z7}{Q:Z7->Z4->Prop}(v_:knd.is k key=true)(hm:s.heap.DictOf knd d b_)(hsz:b_.length<=sizeLine)
  (old:∀v,valueAt b_ k=some v->Q v {s with toks:=s.toks+1})(new:valueAt b_ k=none->∀h',h'.DictOf knd d (stored b_ k dflt)->Heap.SameBut d s.heap h'->Q dflt {s with heap:=h',toks:=s.toks+1}):
  wpAny (model prog w) A (dictSetDefault d key dflt) Q E s:=by
 obtain⟨o,es,ep,ho,hc,hd,hk,hp,hn⟩:=hm;have QS:es.size<=sizeLine:=by
  have e1:=hp.length;rw[Array.length_toList]at e1
  lia
 have QF:(es.findIdx? fun e=>knd.is k e.key)=b_.findIdx? fun kv=>decide (kv.1=k):=by rw[<-hp.findIdx k];obtain⟨l⟩:=es;simp
 have KU:=hp.find k;unfold dictSetDefault
 try with_reducible refine YQ ?_
 refine Z8 (knd.pyHash v_ (Z8 (wpAny_dictFind_of (s:={s with toks:=s.toks+1}) v_ ho hd hk ?_)))
 rcases hi:(es.findIdx? fun e=>knd.is k e.key)with _|i<;>rw[hi]
 .have Ij:k∉b_.map (·.1):=not_mem_of_findIdx_none (QF▸hi)
  have Jl:¬(b_.any fun kv=>decide (kv.1=k))=true:=by
   rw[Yc]
   rintro⟨kv,Qy,he⟩
   exact Ij (ZL.mpr ⟨kv,Qy,Zc he⟩)
  have hv:valueAt b_ k=none:=by
   unfold valueAt;rw[Option.map_eq_none_iff,List.find?_eq_none]
   exact fun x hx he=>Jl (Yc.mpr ⟨x,hx,he⟩)
  refine Z8 (YW (Z8 (wpAny_updateDictKeys (hz:=QS) (s:={s with toks:=s.toks+1}) ho hd (Z3 (new hv _ ⟨_,_,ep+1,Zi _ ho (Obj.isFreed_of_dict (Xk hd _)),hc.mapDictKeys _,Xk hd _,hk.push v_ _,?_,?_⟩ (Zb ..))))))
  .rw[stored,ZY Jl]
   have q:=hp.append v_ (knd.hash k) dflt;obtain⟨l⟩:=es
   simpa using q
  .rw[stored,ZY Jl,YY,X2]
   refine⟨hn,by simp,fun a ha b hb=>?_⟩
   have FA:b=k:=by simpa using hb
   exact fun e=>Ij (by rw[<-FA,<-e];exact ha)
 .obtain⟨ka,_⟩:=Array.findIdx?_eq_some_iff_findIdx_eq.mp hi
  have hv:valueAt b_ k=some es[i].val:=by
   have q:=hp.find k;rw[<-q];have hf:(es.toList.findIdx? fun e=>knd.is k e.key)=some i:=by rw[<-hi];obtain⟨l⟩:=es;simp
   obtain⟨h1,h2,h3⟩:=List.findIdx?_eq_some_iff_getElem.mp hf
   have:es.toList.find? (fun e=>knd.is k e.key)=some es.toList[i]:=by
    rw[List.find?_eq_some_iff_getElem]
    exact⟨h2,i,h1,rfl,fun j hj=>by simpa using h3 j hj⟩
   rw[this];simp
  refine Z8 (Xu (s:={s with toks:=s.toks+1}) ho hd ?_)
  rw[Y0 ka]
  exact Z8 (YW (Z3 (old _ hv)))
def kE{κ:Type}[DecidableEq κ]{knd:HeapKind prog w κ}{d a:Z2}{xs:List (κ×Z2×Z7)}{k:κ}{dflt:Z7}{Q:Z7->Z4->Prop}(hu:knd.room A)(v_:knd.is s.heap k a)(hm:s.heap.DictOfH knd d xs)(hsz:xs.length<=sizeLine)
  (old:∀p,atKey xs k=some p->Q p.2 {s with toks:=s.toks+knd.draws k})(new:atKey xs k=none->∀h',h'.DictOfH knd d (storedH xs k a dflt)->Heap.SameBut d s.heap h'->Q dflt {s with heap:=h',toks:=s.toks+knd.draws k}):
  wpAny (model prog w) A (dictSetDefault d (.ref a) dflt) Q E s:=by
 obtain⟨o,es,ep,ho,hc,hd,he,OA,hn⟩:=hm;unfold dictSetDefault
 try with_reducible refine YQ ?_
 refine Z8 (knd.pyHash hu v_ (Z8 (wpAny_dictFind_heap (s:={s with toks:=s.toks+knd.draws k}) hu v_ ho hd he OA hn (fun GX=>?_) fun j p hj=>?_)))
 .have G0:=atKey_none_of_get GX
  have Ij:=not_mem_keys_of_get GX;refine Z8 (YW (Z8 (wpAny_updateDictKeys (hz:=by have e:=XC he;lia) (s:={s with toks:=s.toks+knd.draws k}) ho hd (Z3 (new G0 _ ⟨_,_,ep+1,Zi _ ho (Obj.isFreed_of_dict (Xk hd _)),hc.mapDictKeys _,Xk hd _,?_,?_,?_⟩ (Zb ..))))))
  .rw[storedH_new G0]
   simp[he,entryOfKey]
  .rw[storedH_new G0]
   intro x hx
   rcases Zl.mp hx with hx|hx
   .exact knd.keeps (OA x hx) ho hd (Zb ..)
   .rw[ZE.mp hx]
    exact knd.keeps v_ ho hd (Zb ..)
  .rw[storedH_new G0,YY,X2]
   refine⟨hn,by simp,fun x hx y hy=>?_⟩
   have Qc:y=k:=by simpa using hy
   exact fun e=>Ij (by rw[<-Qc,<-e];exact hx)
 .have G0:=atKey_of_get hn hj
  refine Z8 (Xu (s:={s with toks:=s.toks+knd.draws k}) ho hd ?_)
  rw[entry_at he j,hj];exact Z8 (YW (Z3 (old p G0)))
end
section
variable{X:Cx}{a_:List (Z2×Obj)}{σ:St}{H:Hp}{s:Z4}{a:Z2}{y v:V}{u r:Z7}{o:Z_ V}{A:Zu}{E:Z7->Z4->Prop}
def eM{Q:Z7->Z4->Prop}{P:ZC}{w:Zo}{d:Z2}{key dflt:Z7}(ty:s.TypeIs (.ref d) "dict")(hd:(d==sysModules)=false)(h:wpAny (model P w) A.in1 (dictSetDefault d key dflt) Q E s):
  wpAny (model P w) A (call (.builtin "dict.setdefault") [.ref d,key,dflt]) Q E s:=by
 refine Y_ F.slot_dict_setdefault ty F.entry_dict_setdefault ?_ (F.args_dict_setdefault_3 _ _ _)
 unfold Builtin.«dict.setdefault»;refine Z8 ?_
 unfold Builtin.Dict.keyAndDefault;refine Z8 (WE ty (Z3 ?_))
 change wpAny _ _ (if(d==sysModules)=true then _ else(dictSetDefault d key dflt >>= _)) _ _ s
 rw[ZY (by rw[hd];exact Zv)]
 refine Z8 (YV h (fun v s' q=>Z3 ⟨v,rfl,q⟩) fun _ _ q=>q)
end
def DSd(H:Hp)(a:Z2)(y z v:V)(N:Hp->Prop):Prop:=(DGA H a y (some v)/\N H/\((∃b_,H a=some (.dK b_))\/∃b_ ep,H a=some (.dD b_ ep)))\/(DGA H a y none/\v=z/\DPA H a y z N)
section
variable{X:Cx}{a_:List (Z2×Obj)}{σ:St}{H:Hp}{N:Hp->Prop}{s:Z4}{a:Z2}{y z v:V}{u r:Z7}{A:Zu}{E:Z7->Z4->Prop}
def qB{Q:Z7->Z4->Prop}(hu:A.units+40<cLine)(I:Inv X a_ σ H s)(g:DSd H a y z v N)(ry:RelV y u)(rz:RelV z r)(h:∀w' H' s',Inv X a_ σ H' s'->N H'->RelV v w'->Q w' s'):
  wpAny (model X.prog X.w) A (call (.builtin "dict.setdefault") [.ref a,u,r]) Q E s:=by
 have ty:s.TypeIs (.ref a) "dict":=by rcases g with⟨g,_⟩|⟨g,_⟩<;>exact j4 I g
 rcases g with⟨g,nn,own⟩|⟨g,rfl,p⟩
 .rcases g with(⟨b_,k,e,ey,l⟩|⟨b_,k,b,e,ey,eb,l⟩)|⟨b_,ep,k,b,e,ey,hk,kb,l⟩
  .subst ey
   obtain⟨z1,hd,vs,rel,dd⟩:=oE I.hok e;obtain⟨w',hw,A_⟩:=RelO.some_of (v:=v) (o:=valueAt vs k) (by rw[l];exact rel.val k)
   refine eM ty hd (nF (oh ry) dd (by rw[<-rel.length];exact z1) (fun v' HG=>?_) fun hn=>?_)
   .rw[hw]at HG;obtain rfl:=Z9 HG;exact h w' _ _ (I.tok _) nn A_
   .rw[hw]at hn;trivial
  .rcases own with⟨k2,e2⟩|⟨k2,GF,e2⟩
   .rcases e with e|⟨o,e⟩<;>(rw[e2]at e;cases e)
   .rcases e with e|⟨o,e⟩<;>(rw[e2]at e;cases e)
  .subst ey
   cases (show u=Value.ref b from ry)
   obtain⟨z1,hd,xs,rel,dd⟩:=kJ I.hok e;obtain⟨w',hw,A_⟩:=RelO.some_of (v:=v) (o:=(atKey xs k).map (·.2)) (by rw[l];exact rel.val k)
   obtain⟨p,hp,Gk⟩:=X7.mp hw;refine eM ty hd (kE (knd:=br X.prog X.w) (by show A.units+1+30<cLine;lia) (cY I hk kb) dd (by rw[<-YF rel];exact z1) (fun p' Fn=>?_) fun hn=>?_)
   .rw[hp]at Fn;obtain rfl:=Z9 Fn;rw[Gk];exact h w' _ _ (I.tok _) nn A_
   .rw[hp]at hn;trivial
 .rcases p with⟨H',⟨b_,k,e,ey,l,eH⟩|⟨b_,k,b,e,ey,eb,l,eH⟩,nn⟩|⟨b_,ep,k,b,e,ey,hk,kb,l,nn⟩
  .subst ey eH
   obtain⟨z1,hd,vs,rel,dd⟩:=Bp I.hok e;have hn:valueAt vs k=none:=by
    rcases g with(⟨FY,k',e',G1,l'⟩|⟨FY,k',b',e',G1,_,l'⟩)|⟨FY,Fe,k',b',e',G1,_,_,l'⟩
    .have IL:k'=k:=by cases k<;>cases k'<;>simp[kV]at G1<;>rw[G1]
     subst IL
     rcases e' with e'|⟨o,e'⟩
     .rw[e]at e';cases e';exact RelO.none_of (by rw[l'];exact rel.val k')
     .rw[e]at e';cases e'
    .rcases e' with e'|⟨o,e'⟩<;>(rw[e]at e';cases e')
    .rcases e' with e'|⟨o,e'⟩<;>(rw[e]at e';cases e')
   refine eM ty hd (nF (oh ry) dd (by rw[<-rel.length];exact z1) (fun v' HG=>?_) fun _ h' F_ hs=>?_)
   .rw[hn]at HG;trivial
   .have hl:(c6 b_ k v).length<=sizeLine:=by have:=be b_ k v;lia
    have he:∃q,h'.get? a=some q:=let ⟨q,_,_,hq,_⟩:=F_;⟨q,hq⟩
    exact h r _ _ (dL I (by rw[e];exact True.intro) hs he (vY hl hd (rel.put k rz) F_)) nn rz
  .rcases g with(⟨FY,k',e',G1,l'⟩|⟨FY,k',b',e',G1,_,l'⟩)|⟨FY,Fe,k',b',e',G1,_,_,l'⟩
   .rcases e' with e'|⟨o,e'⟩<;>(rw[e]at e';cases e')
   .subst ey eH
    cases (show u=Value.ref b from ry)
    cases G1;obtain⟨z1,hd,xs,rel,dd⟩:=zQ I.hok e
    rcases e' with e'|⟨o,e'⟩
    .rw[e]at e';cases e'
     have IL:k'=k:=by
      rename_i OY;rw[eb]at OY;have e3:k.map kV=k'.map kV:=by
       have:=Z9 OY;injection this
      have inj:∀{x y:Key},kV x=kV y->x=y:=fun{x y} q=>by cases x<;>cases y<;>simp[kV]at q<;>rw[q]
      have Js:∀{l m:List Key},l.map kV=m.map kV->l=m:=by
       intro l
       induction l with
       |nil=>intro m q;cases m with
        |nil=>rfl
        |cons _ _=>trivial
       |cons x l ih=>intro m q;cases m with
        |nil=>trivial
        |cons y m=>simp only[Z1,Yv]at q;rw[inj q.1,ih q.2]
      exact(Js e3).symm
     subst IL;have hn:(atKey xs k').map (·.2)=none:=RelO.none_of (by rw[l'];exact rel.val k')
     refine eM ty hd (kE (knd:=tupleKind (aS X.prog X.w)) (Xa (by lia)) (jR I.hok eb) dd (by rw[<-YF rel];exact z1) (fun p' Fn=>?_) fun _ h' F_ hs=>?_)
     .rw[Fn]at hn;trivial
     .have hl:(c6 b_ k' v).length<=sizeLine:=by have:=be b_ k' v;lia
      obtain⟨q,es,ep,hq,h2,h3,h4,_,h5⟩:=F_;refine h r (upd H a (.dT (c6 b_ k' v))) _ (dL I (by rw[e];exact True.intro) hs ⟨q,hq⟩ ⟨hl,hd,_,(rel.put k' eb rz).keeps fun c ys ec=>?_,q,es,ep,hq,h2,h3,h4,h5⟩) nn rz
      rw[ai (u8 ec e (fun z=>nomatch z))]
      exact ec
    .rw[e]at e';cases e'
   .rcases e' with e'|⟨o,e'⟩<;>(rw[e]at e';cases e')
  .subst ey
   cases (show u=Value.ref b from ry)
   obtain⟨z1,hd,xs,rel,dd⟩:=kJ I.hok (.inl e);have hn:(atKey xs k).map (·.2)=none:=by
    rcases g with(⟨FY,k',e',G1,l'⟩|⟨FY,k',b',e',G1,_,l'⟩)|⟨FY,Fe,k',b',e',G1,GA,P9,l'⟩
    .rcases e' with e'|⟨o,e'⟩<;>(rw[e]at e';cases e')
    .rcases e' with e'|⟨o,e'⟩<;>(rw[e]at e';cases e')
    .cases G1
     have IL:k'=k:=RH.inj (cY I GA P9).2 (cY I hk kb).2;subst IL
     rcases e' with e'|⟨o,e'⟩
     .rw[e]at e';cases e';exact RelO.none_of (by rw[l'];exact rel.val k')
     .rw[e]at e';cases e'
   refine eM ty hd (kE (knd:=br X.prog X.w) (by show A.units+1+30<cLine;lia) (cY I hk kb) dd (by rw[<-YF rel];exact z1) (fun p' Fn=>?_) fun _ h' F_ hs=>?_)
   .rw[Fn]at hn;trivial
   .have hl:(c6 b_ k v).length<=sizeLine:=by have:=be b_ k v;lia
    obtain⟨q,es,Fe,hq,h2,h3,h4,_,h5⟩:=F_;refine h r (upd H a (.dD (c6 b_ k v) Fe)) _ (dL I (by rw[e];exact True.intro) hs ⟨q,hq⟩ ⟨hl,hd,_,Paired.mapP (rel.put k hk kb rz) fun p q z=>⟨z.1,z.2.1,KR.to (fun c ys ec=>?_) z.2.2.1,z.2.2.2⟩,q,es,hq,h2,h3,h4,h5⟩) (nn Fe) rz
    rw[ai (u8 ec e (fun z=>nomatch z))]
    exact ec
end
def tDNewD:TE:=fun _ H Q=>∀p,H p=none->Q (.ref p) (upd H p (.dD [] 0))
section
variable{X:Cx}{pos pos' f_ apos:Pos}{m m':Bool}{a b c:Expr}{fa fb fc:DEnv->Z_ D}{i:Nat}{x:Str}{px:Pos}
def hY:PE X (.Dict [] [] pos) tDNewD:=fun a_ s σ H Q I h=>
 wpAny_Dict_empty ⟨.ref s.heap.objs.size,_,I.laid (a:=s.heap.objs.size) (o:=.dD [] 0) (t':=s.toks) (fun _ _ q=>Z6 _ q) (ZU _) (uB I.big),rfl,h _ (I.hok.fresh (ZU _))⟩
theorem vD:DF X (.Dict [] [] pos) (fun _=>some (.dK [] [])):=uV.imp fun σ H Q hz=>by
 obtain⟨B,Hk,δ,d,R,e,k⟩:=hz;obtain rfl:=Z9 e;intro p hp;exact k p _ (au hp) hp ⟨[],ag,rfl,Reps.nil⟩
theorem vt:DF X (.Dict [] [] pos) (fun _=>some (.dD [] [])):=hY.imp fun σ H Q hz=>by
 obtain⟨B,Hk,δ,d,R,e,k⟩:=hz;obtain rfl:=Z9 e;intro p hp;exact k p _ (au hp) hp ⟨[],⟨0,ag⟩,rfl,Reps.nil⟩
noncomputable def jA(x:D)(k v:D):Z_ D:=match x with
 |.dK ks vs=>(match fQ k with|some kk=>if ks.length<lim then some (.dK (lB kk ks) (zk kk v ks vs)) else none|none=>none)
 |.dD ks vs=>if(bH 8 k&&uO k&&decide (ks.length<lim))=true then some (.dD (lB k ks) (zk k v ks vs)) else none
 |_=>none
noncomputable def oH(i:Nat)(k v:Z_ D)(δ:DEnv):Z_ Out:=match bE i δ,k,v with
 |some x,some k,some v=>(match jA x k v with|some y=>some (.next (δ.set i (some (y,true))))|none=>none)
 |_,_,_=>none
def nB{K:Z5}{B B':Z2->Prop}{H:Hp}{x k v y:D}{l:Z2}{u z:V}(h:jA x k v=some y)(ob:ObR K B H x l)(rk:Rep K B' H k u)(rz:Rep K B H v z):
  ∀{N:Hp->Prop},(∀o,(Ext B H (upd H l o)->ObR K B (upd H l o) y l)->N (upd H l o))->DPA H l u z N:=by
 intro N go;unfold jA at h;split at h
 .rename_i ks vs
  obtain⟨b_,e,rfl,rs⟩:=ob;split at h
  .rename_i kk hk
   split at h
   .rename_i hl
    obtain rfl:=Z9 h;rw[ZJ]at hl;exact .inl ⟨_,.inl ⟨b_,kk,e,dP hk rk,ZA hl (aH (ZU _)),rfl⟩,go _ fun ex=>⟨_,ag,fz kk z b_,(mi rz kk rs).ext ex⟩⟩
   .trivial
  .trivial
 .rename_i ks vs
  obtain⟨b_,⟨ep,e⟩,rfl,rs⟩:=ob;split at h
  .rename_i hc
   obtain rfl:=Z9 h;rw[ZH,ZH,Y8,ZJ]at hc;obtain⟨⟨h1,h2⟩,h3⟩:=hc;obtain⟨b,rfl⟩:=de h2 rk;exact .inr ⟨b_,ep,k,b,e,rfl,h1,rk.key h1,ZA h3 (aH (ZU _)),fun Fe=>go _ fun ex=>⟨_,⟨Fe,ag⟩,fz k z b_,(mi rz k rs).ext ex⟩⟩
  .trivial
 .trivial
theorem xP(hu:X.A.units+64<cLine)(n:Nm X i x)(hb:DE X m b fb)(hv:DE X false c fc)(hs:swapsWith c (some (.Subscript (.Name x px) b pos')) pos.line X.env=pure false:=by rfl):
  DS X (.Assign [.Subscript (.Name x px) b pos'] c pos) (fun δ=>oH i (fb δ) (fc δ) δ):=
 (mV hu (bg n.at' n.vis n.d1 n.d2) hb hv hs).imp fun Dn σ H hz=>by
  obtain⟨B,Hk,δ,o,R,e,k⟩:=hz;dsimp only at e;unfold oH at e;split at e
  .rename_i d0 kd vd q0 q1 q2
   split at e
   .rename_i y qy
    obtain rfl:=Z9 e;have h1:=bN q0;refine⟨B,Hk,δ,vd,R,q2,fun z H1 s1 rz=>?_⟩
    have R1:=R.to s1;obtain⟨l,h2,h3,ob⟩:=R1.own i _ h1;refine⟨.ref l,h2,B,Hk,δ,kd,R1,q1,fun u H2 s2 rk=>?_⟩
    have R2:=R1.to s2;have P0:=ob.ext (R1.ext s2) fun o q n=>s2.get l o n q
    refine⟨l,rfl,nB qy P0 rk (rz.ext (R1.ext s2)) fun ho new=>?_⟩
    obtain⟨x1,x2⟩:=R2.oset h1 h2 new;exact k σ _ ((R.ext (s1.trans s2)).trans x1) x2
   .trivial
  .trivial
end
def mt(x:V)(H:Hp):Prop:=∃a,x=.ref a/\((∃b_,Rd H a (.dK b_))\/∃b_ ep,Rd H a (.dD b_ ep))
section
variable{X:Cx}{pos f_ apos px:Pos}{m m' mm:Bool}{o a b c e:Expr}{es:List Expr}{fa fb fc:DEnv->Z_ D}{i:Nat}{x:Str}{to:TE}{t:TA}{name:Str}{id:String}{r:V->List V->Hp->VK->Prop}
def iY{a_:List (Z2×Obj)}{σ:St}{H:Hp}{s:Z4}{v:V}{u:Z7}(I:Inv X a_ σ H s)(rv:RelV v u)(d:mt v H):s.TypeIs u "dict"/\∀a,u=.ref a->∃ob,s.heap.get? a=some ob/\ob.dict=none:=by
 obtain⟨a,rfl,d⟩:=d;obtain rfl:u=Value.ref a:=rv
 rcases d with⟨b_,e⟩|⟨b_,ep,e⟩
 .obtain⟨_,_,vs,_,dd⟩:=oE I.hok e
  refine⟨dd.typeIs,fun b q=>?_⟩
  cases q;obtain⟨ob,_,_,h1,h2,_⟩:=dd;exact⟨ob,h1,h2.2.1⟩
 .obtain⟨_,_,xs,_,dd⟩:=kJ I.hok e
  refine⟨dd.typeIs,fun b q=>?_⟩
  cases q;obtain⟨ob,_,_,h1,h2,_⟩:=dd;exact⟨ob,h1,h2.2.1⟩
def C6(r:V->List V->Hp->VK->Prop)(to:TE)(t:TA):TE:=fun σ H Q=>to σ H fun x H1=>mt x H1/\t σ H1 fun xs H2=>r x xs H2 Q
def pD(slot:Slot "dict" name id)(Mn:typeOf (.builtin id)=pure (.type "method_descriptor"))(hm:MtM X id r)(ho:PE X o to)(ha:PA X (e::es) t)
  (base:attributeBase o name X.env (eval o X.env)=eval o X.env:=by rfl)
  (few:((backTo f_ (starEach (e::es) X.env)).all (fun x=>!x.1)&&(backToKw f_ (keywordEach [] X.env)).all (fun x=>x.1.isSome)&&decide ((e::es).length+([]:List Keyword).length+(if([]:List Keyword).isEmpty then 0 else 1)<30))=true:=by rfl)
  (line:(apos.endLine==f_.line)=true:=by rfl)(E6:starEach (e::es) X.env=(false,eval e X.env)::starEach es X.env:=by rfl)(plain:(backTo f_ (starEach es X.env)).any (·.1)=false:=by rfl):
  PE X (.Call (.Attribute o name apos) (e::es) [] f_) (C6 r to t):=by
 intro a_ s σ H Q I h;refine wpAny_Call_method_late base few line rfl (thn (ho a_ s σ H _ I h) fun v s1 hz=>?_)
 obtain⟨x,H1,I1,r1,d1,q1⟩:=hz;obtain⟨h1,h2⟩:=iY I1 r1 d1;have hA:=ha f_ a_ s1 σ H1 _ I1 q1;refine⟨"dict",id,PySem.F.plainAttrs_dict,slot,Mn,h1,h2,?_⟩
 rw[E6]at hA⊢;exact WJ (by show(false||(backTo f_ (starEach es X.env)).any (·.1))=false;rw[plain]<;>rfl) (Calls.evalArgs_plain (thn hA fun us s2 hz=>by obtain⟨vs,H2,I2,r2,q2⟩:=hz;exact hm a_ s2 σ H2 x vs v us Q I2 r1 r2 q2))
def rSetdef:V->List V->Hp->VK->Prop:=fun x vs H Q=>∃l y z v,x=.ref l/\vs=[y,z]/\DSd H l y z v fun H'=>Q v H'
def jj(hu:X.A.units+64<cLine):MtM X "dict.setdefault" rSetdef:=by
 intro a_ s σ H x vs v us Q I rx rv h;obtain⟨l,y,z,w,rfl,rfl,g⟩:=h;cases rx;obtain⟨u1,u2,rfl,r1,r2⟩:=rv.two;exact qB (by lia) I g r1 r2 fun w' H' s' I' q A_=>⟨w,H',I',A_,q⟩
noncomputable def tMX(K:Z5)(g:DEnv->Z_ (D×DEnv)):TE:=fun σ H Q=>∃B Hk δ d i_,Rel K B Hk δ σ H/\g δ=some (d,i_)/\∀v H',Ext B H H'->Rel K B Hk i_ σ H'->Rep K B H' d v->Q v H'
noncomputable def EW(K:Z5)(g:DEnv->Z_ (Bool×DEnv)):TT:=fun σ H Q=>∃B Hk δ b i_,Rel K B Hk δ σ H/\g δ=some (b,i_)/\∀H',Ext B H H'->Rel K B Hk i_ σ H'->Q b H'
abbrev DX(X:Cx)(e:Expr)(g:DEnv->Z_ (D×DEnv)):Prop:=PE X e (tMX X.K g)
abbrev DTX(X:Cx)(e:Expr)(g:DEnv->Z_ (Bool×DEnv)):Prop:=PT X e (EW X.K g)
noncomputable def sdO(i:Nat)(k v:Z_ D)(δ:DEnv):Z_ (D×DEnv):=match bE i δ,k,v with
 |some x,some kd,some vd=>(match b8 (some x) (some kd)with
  |some (some d)=>some (d,δ)
  |some none=>(match jA x kd vd with|some y=>some (vd,δ.set i (some (y,true)))|none=>none)
  |none=>none)
 |_,_,_=>none
def ObR.dictAt{K:Z5}{B:Z2->Prop}{H:Hp}{x k v y:D}{l:Z2}{o:Z_ D}(ob:ObR K B H x l)(h:b8 (some x) (some k)=some o):mt (.ref l) H/\((∃b_,H l=some (.dK b_))\/∃b_ ep,H l=some (.dD b_ ep)):=by
 cases x with
 |dK ks vs=>obtain⟨b_,e,_⟩:=ob;exact⟨⟨l,rfl,.inl ⟨b_,.inl e⟩⟩,.inl ⟨b_,e⟩⟩
 |dD ks vs=>obtain⟨b_,⟨ep,e⟩,_⟩:=ob;exact⟨⟨l,rfl,.inr ⟨b_,ep,.inl e⟩⟩,.inr ⟨b_,ep,e⟩⟩
 |_=>simp only[b8]at h;trivial
def ObR.get{K:Z5}{B B':Z2->Prop}{H:Hp}{x k:D}{l:Z2}{o:Z_ D}{u:V}(ob:ObR K B H x l)(h:b8 (some x) (some k)=some o)(rk:Rep K B' H k u):
  ∃r,DGA H l u r/\r.isSome=o.isSome/\∀z,o=some z->∃w,r=some w/\Rep K B H z w:=by
 cases x with
 |dK ks vs=>
  obtain⟨b_,e,rfl,rs⟩:=ob;simp only[b8]at h;split at h
  .rename_i kk hk
   obtain⟨n1,n2⟩:=cF kk rs;have h':b7 kk (b_.map (·.1)) vs=o:=Z9 h
   refine⟨dH b_ kk,.inl (.inl ⟨b_,kk,.inl e,dP hk rk,rfl⟩),?_,fun z hz=>n2 z (h'.trans hz)⟩
   rw[<-h'];cases q:b7 kk (b_.map (·.1)) vs with
   |none=>rw[n1 q];rfl
   |some z=>obtain⟨w,e,_⟩:=n2 z q;rw[e];rfl
  .trivial
 |dD ks vs=>
  obtain⟨b_,⟨ep,e⟩,rfl,rs⟩:=ob;simp only[b8]at h;split at h
  .rename_i hk
   rw[ZH]at hk;obtain⟨b,rfl⟩:=de hk.2 rk;obtain⟨n1,n2⟩:=cF k rs;have h':b7 k (b_.map (·.1)) vs=o:=Z9 h
   refine⟨dH b_ k,.inr ⟨b_,ep,k,b,.inl e,rfl,hk.1,rk.key hk.1,rfl⟩,?_,fun z hz=>n2 z (h'.trans hz)⟩
   rw[<-h'];cases q:b7 k (b_.map (·.1)) vs with
   |none=>rw[n1 q];rfl
   |some z=>obtain⟨w,e,_⟩:=n2 z q;rw[e];rfl
  .trivial
 |_=>simp only[b8]at h;trivial
theorem sv(hu:X.A.units+64<cLine)(n:Nm X i x)(hb:DE X false b fb)(hc:DE X false c fc)
  (base:attributeBase (.Name x px) "setdefault" X.env (eval (.Name x px) X.env)=eval (.Name x px) X.env:=by rfl)
  (few:((backTo f_ (starEach [b,c] X.env)).all (fun x=>!x.1)&&(backToKw f_ (keywordEach [] X.env)).all (fun x=>x.1.isSome)&&decide (([b,c]).length+([]:List Keyword).length+(if([]:List Keyword).isEmpty then 0 else 1)<30))=true:=by rfl)
  (line:(apos.endLine==f_.line)=true:=by rfl)(E6:starEach [b,c] X.env=(false,eval b X.env)::starEach [c] X.env:=by rfl)(Fw:starEach [c] X.env=[(false,eval c X.env)]:=by rfl)(plain:(backTo f_ (starEach [c] X.env)).any (·.1)=false:=by rfl):
  DX X (.Call (.Attribute (.Name x px) "setdefault" apos) [b,c] [] f_) (fun δ=>sdO i (fb δ) (fc δ) δ):=
 (pD PySem.F.slot_dict_setdefault PySem.F.type_dict_setdefault (jj hu) (bg n.at' n.vis n.d1 n.d2) (aw hb (aw hc aO Fw) E6) base few line E6 plain).imp fun σ H Q hz=>by
  obtain⟨B,Hk,δ,d,i_,R,e,k⟩:=hz;dsimp only at e;unfold sdO at e;split at e
  .rename_i d0 kd vd q0 q1 q2
   have h1:=bN q0;obtain⟨l,h2,h3,ob⟩:=R.own i _ h1;obtain⟨og,Ly⟩:∃o,b8 (some d0) (some kd)=some o:=by
    cases q:b8 (some d0) (some kd)with
    |none=>rw[q]at e;trivial
    |some o=>exact⟨o,rfl⟩
   refine⟨.ref l,h2,(ob.dictAt (v:=vd) (y:=d0) Ly).1,two (m:=false) (m':=false) R q1 q2 fun u z H' s R' r1 r2=>?_⟩
   have HY:=ob.ext (R.ext s) fun o q n=>s.get l o n q
   have ow:=(HY.dictAt (v:=vd) (y:=d0) Ly).2;obtain⟨rr,g,gs,gz⟩:=HY.get Ly r1;rw[Ly]at e;cases og with
   |some dd=>
    simp only at e;cases e;obtain⟨w,rfl,A_⟩:=gz _ rfl;exact⟨l,u,z,w,rfl,rfl,.inl ⟨g,k w H' (R.ext s) R' A_,ow⟩⟩
   |none=>
    simp only at e;split at e
    .rename_i y qy
     cases e;have hr:rr=none:=by cases rr with
      |none=>rfl
      |some _=>simp at gs
     subst hr;refine⟨l,u,z,z,rfl,rfl,.inr ⟨g,rfl,nB qy HY r1 r2 fun ho new=>?_⟩⟩
     obtain⟨x1,x2⟩:=R'.oset h1 h2 new;exact k z _ ((R.ext s).trans x1) x2 (r2.ext x1)
    .trivial
  .trivial
def Af{ga:DEnv->Z_ (D×DEnv)}{fb:DEnv->Z_ D}(hu:X.A.units+64<cLine)(ha:DX X a ga)(hb:DE X false b fb)(hm:behindInMarks .NotEq b=false:=by rfl):
  DTX X (.Compare a [.NotEq] [b] pos) (fun δ=>ae (ga δ) fun p=>match neO (some p.1) (fb p.2)with|some c=>some (c,p.2)|none=>none):=
 (dR (vS hu) ha hb hm).imp fun σ H Q hz=>by
  obtain⟨B,Hk,δ,t,i_,R,e,k⟩:=hz;obtain⟨⟨d1,x_⟩,e1,e2⟩:=ak e;simp only at e2;split at e2
  .rename_i cc qc
   cases e2;refine⟨B,Hk,δ,d1,_,R,e1,fun v H1 x1 R1 r1=>?_⟩
   unfold neO iy at qc;cases q:eqO (some d1) (fb i_)with
   |none=>rw[q]at qc;trivial
   |some c0=>
    rw[q]at qc;obtain rfl:=Z9 qc;obtain⟨d,d2,z1,z2,h1,h2,rfl⟩:=eE q;obtain rfl:=Z9 z1;refine⟨B,Hk,i_,d2,R1,z2,fun u H2 s2 r2=>⟨B,_,d1,d2,h1,h2,r1.ext (R1.ext s2),r2,_,rfl,k H2 (x1.trans (R1.ext s2)) (R1.to s2)⟩⟩
  .trivial
def ifX(t:Z_ (Bool×DEnv))(g1 g2:DEnv->Z_ Out):Z_ Out:=match t with
 |some (true,δ)=>g1 δ
 |some (false,δ)=>g2 δ
 |none=>none
theorem zR{gt:DEnv->Z_ (Bool×DEnv)}{g1 g2:DEnv->Z_ Out}{x y:List Stmt}(hc:DTX X c gt)(ha:DSs X x g1)(hb:DSs X y g2):DS X (.If c x y pos) (fun δ=>ifX (gt δ) g1 g2):=
 (xz hc ha hb).imp fun Dn σ H hz=>by
  obtain⟨B,Hk,δ,o,R,e,k⟩:=hz;dsimp only at e;unfold ifX at e;split at e
  .rename_i i_ q
   exact⟨B,Hk,δ,true,i_,R,q,fun H1 x1 R1=>wG ⟨B,Hk,i_,o,R1,e,k.ext x1⟩⟩
  .rename_i i_ q
   exact⟨B,Hk,δ,false,i_,R,q,fun H1 x1 R1=>wC ⟨B,Hk,i_,o,R1,e,k.ext x1⟩⟩
  .trivial
end
section
variable{prog:ZC}{w:Zo}{A:Zu}{E:Z7->Z4->Prop}{s:Z4}
def jx{d:Z2}{o:Obj}{es:Array DictEntry}{ep:Nat}{Q:Z7->Z4->Prop}(hd:(d==sysModules)=false)(ho:s.heap.get? d=some o)(hc:o.ExactDict)(q_:o.data=.dict es ep)
  (hQ:Q (.ref s.heap.objs.size) {s with heap:=s.heap.push {cls:=.type "dict_keyiterator",data:=.fields #[.ref d,.int 0 0,.int es.size 0,.int ep 0]}}):wpAny (model prog w) A (pyIter (.ref d)) Q E s:=by
 have ty:s.TypeIs (.ref d) "dict":=⟨o,ho,hc.1⟩;refine WZ ty F.slot_dict_iter (Y_ F.slot_dict_iter ty F.entry_dict_iter ?_ (F.args_dict_iter_1 _))
 unfold Builtin.«dict.__iter__»;refine Z8 ?_
 unfold Builtin.Dict.dictSlotNone;refine Z8 (WE ty (Z3 ?_))
 change wpAny _ _ (Builtin.Dict.showsAll d >>= _) _ E s;unfold Builtin.Dict.showsAll;rw[ZY (by rw[hd];exact Zv)]
 refine Z8 (Z3 (Z8 (Xu ho q_ (Z8 (wpAny_dictEpoch ho q_ (Z8 (Zd (Z3 ⟨_,rfl,"dict_keyiterator",_,⟨_,ZT _ rfl,rfl⟩,XX.lookup,?_⟩))))))))
 simpa[rawInt]using hQ
def dv{it d:Z2}{o:Obj}{es:Array DictEntry}{i ep:Nat}{Q:Z_ Z7->Z4->Prop}(hh:A.handled=none)(hit:s.heap.IsKeyIter it d i es.size ep)(ho:s.heap.get? d=some o)(q_:o.data=.dict es ep)
  (item:∀e,es[i]?=some e->∀h',h'.IsKeyIter it d (i+1) es.size ep->Heap.SameBut it s.heap h'->Q (some e.key) {s with heap:=h'})
  (stop:es[i]?=none->∀h',Heap.ExtBut it s.heap h'->Q none {s with heap:=h'}):wpAny (model prog w) A (pyNext (.ref it)) Q E s:=by
 obtain⟨oi,gi,ci,di⟩:=id hit;unfold pyNext;refine Z8 (XT (YC (name:=Str.ofString "__next__") hit.typeIs XX (Y_ XX hit.typeIs F.entry_dict_keyiterator_next ?_ (F.args_dict_keyiterator_next_1 _))))
 refine Z8 (Z3 (Z8 (Z8 ?_)))
 first|refine Z8 (Xm hit.typeIs (Z3 ?_))|refine Z8 (WT hit.typeIs (Z3 ?_))
 refine Z8 (Xb gi di ?_)
 simp only[show Builtin.Dict_items.ownsTuple "dict_keyiterator"=false by decide,ZK,Za]
 change wpAny _ _ (if(Value.ref d==Value.none)=true then _ else _) _ _ s
 rw[ZY (by exact Zv)]
 refine Z8 (Z3 (Z8 (Xu ho q_ ?_)))
 rw[ZY (by simp)]
 refine Z8 (Z3 (Z8 (wpAny_dictEpoch ho q_ ?_)))
 rw[ZY (by simp)]
 refine Z3 ?_
 by_cases ka:i<es.size
 .have hx:=Y0 ka
  simp only[show ¬((i:Int)<0) from by lia,Za,Int.toNat_natCast,hx]
  refine Z8 ?_
  first|refine Z8 (Xm hit.typeIs (Z3 ?_))|refine Z8 (WT hit.typeIs (Z3 ?_))
  refine Z8 (wpAny_isOneOf_keyiter hit.typeIs ?_)
  change wpAny _ _ (setField (.ref it) 1 (rawInt ((i:Int)+1)) >>= _) _ _ s;have nx:(s.heap.update it (Obj.mapFields (·.setIfInBounds 1 (rawInt ((i:Int)+1))))).IsKeyIter it d (i+1) es.size ep:=⟨_,Zi _ gi (Yj (Y9 di _)),(Xs ..).trans ci,by rw[Y9 di];simp[rawInt]⟩
  refine Z8 (Yu gi di (by simp) (Z8 (YQ (Z8 (wpAny_isOneOf_keyiter (s:={s with heap:=s.heap.update it (Obj.mapFields (·.setIfInBounds 1 (rawInt ((i:Int)+1))))}) nx.typeIs ?_)))))
  change wpAny _ _ (pure es[i].key) _ _ _;exact Z3 (Z3 ⟨_,rfl,Z3 (item _ hx _ nx (Zb ..))⟩)
 .have hx:es[i]?=none:=X6 (by lia)
  simp only[show ¬((i:Int)<0) from by lia,Za,Int.toNat_natCast,hx]
  refine Z8 ?_
  first|refine Z8 (Xm hit.typeIs (Z3 ?_))|refine Z8 (WT hit.typeIs (Z3 ?_))
  change wpAny _ _ (setField (.ref it) 0 .none >>= _) _ _ s;refine Z8 (Yu gi di (by simp) ?_)
  change wpAny _ _ (newExc (.type "StopIteration") [] >>= _) _ _ _;simp only[newExc,newTuple,raiseNew];refine Z8 (Z8 (Zd ?_ (by size_fits)))
  refine Z8 (m:=firstArgMember _ _) (WD (a:=Value.none) (by first|rfl|(simp only[firstArgMember];rfl)) (Zd ?_ (by size_fits)))
  refine Z8 (wpAny_handled ?_)
  rw[show A.in1.handled=none from hh]
  refine Z8 (Z3 (wpAny_throw ?_))
  refine Z8 (Yp (T:="StopIteration") (b:=true) ⟨_,ZT _ rfl,rfl⟩ WB ?_)
  exact Z3 (stop hx _ (((Zb ..).extBut.push _).push _))
end
noncomputable def Itk(a:Z2)(b_:List (D×V))(ep:Nat):It:=
 ⟨fun i H=>Rd H a (.dD b_ ep)/\i<b_.length,fun i H v H'=>H'=H/\∃p,b_[i]?=some p/\KR H p.1 v,fun i H=>Rd H a (.dD b_ ep)/\b_.length<=i⟩
theorem DPairs.get{H:Hp}:∀{b_:List (D×V)}{xs:List (D×Z2×Z7)}{i:Nat}{p:D×V},DPairs H b_ xs->b_[i]?=some p->∃q,xs[i]?=some q/\KR H p.1 (.ref q.2.1)
 |_,_,_,_,.nil,h=>by simp at h
 |_,_,0,_,.cons r _,h=>by simp at h;subst h;exact⟨_,rfl,r.2.2.1⟩
 |_,_,i+1,p,.cons _ t,h=>by
  obtain⟨q,h1,h2⟩:=DPairs.get (i:=i) (p:=p) t (by simpa using h)
  exact⟨q,by simpa using h1,h2⟩
def qb{P:ZC}{w:Zo}{K:Z5}{tg:Expr}{a it:Z2}{b_:List (D×V)}{ep:Nat}:Turn P w K tg (Itk a b_ ep) [it] it (fun i h=>h.IsKeyIter it a i b_.length ep) where
 mem:=by simp
 obj:=fun i h st b hb=>by
  have e:b=it:=by simpa using hb
  subst e;obtain⟨o,e,c,d⟩:=st;exact⟨o,e,fun v z=>by rw[d]at z;cases z⟩
 keep:=fun i h h' st k=>st.at fun o e=>k it (by simp) o e
 item:=by
  intro X hP hw hK hc i a_ s σ H E I hf st hg;subst hP hw hK;obtain⟨rd,hi⟩:=hg;obtain⟨z,y,xs,r,o,es,h1,h2,h3,h4,h5⟩:=(show ObjOk X.prog X.w H s.heap a (.dD b_ ep) from jF I.hok rd)
  have hsz:es.size=b_.length:=by rw[XC h4,<-YF r]
  have hp:b_[i]?=some b_[i]:=by simp[hi]
  obtain⟨q,hq,kr⟩:=r.get hp;obtain⟨f0,f1,f2,f3,f4,f5⟩:=hf it (by simp)
  rw[<-hsz]at st;refine dv (I.ok.hd hc) st h1 h3 (fun e he h' g_ sb=>?_) fun hn=>?_
  .have ek:e.key=.ref q.2.1:=by
    rw[entry_at h4 i,hq]at he;have:=Z9 he;rw[<-this];rfl
   have I1:Inv X a_ σ H {s with heap:=h'}:=I.turned (t':=s.toks) (fun b o hb e=>(sb.2 b hb).trans e) f0 f1 f3 f4 f5
   rw[hsz]at g_;obtain⟨o',e',c',d'⟩:=id g_;rw[ek];exact⟨_,rfl,t6 (s:={s with heap:=h'}) e' c' d' (by decide) ⟨.ref q.2.1,H,I1,rfl,⟨rfl,b_[i],hp,kr⟩,g_,fun b hb=>(hf b hb).1⟩⟩
  .exfalso
   rw[Y0 (by lia)]at hn
   trivial
 done:=by
  intro X hP hw hK hc i a_ s σ H E I hf st hg;subst hP hw hK;obtain⟨rd,hi⟩:=hg;obtain⟨z,y,xs,r,o,es,h1,h2,h3,h4,h5⟩:=(show ObjOk X.prog X.w H s.heap a (.dD b_ ep) from jF I.hok rd)
  have hsz:es.size=b_.length:=by rw[XC h4,<-YF r]
  obtain⟨f0,f1,f2,f3,f4,f5⟩:=hf it (by simp)
  rw[<-hsz]at st;refine dv (I.ok.hd hc) st h1 h3 (fun e he h' g_ sb=>?_) fun hn h' eb=>⟨rfl,I.turned (t':=s.toks) (fun b o hb e=>eb b o hb e) f0 f1 f3 f4 f5⟩
  exfalso;rw[X6 (by lia)]at he
  trivial
 self:=fun _ _ _ _ _ st h=>wpAny_pyIter_keyiter st h
section
variable{X:Cx}{tg a:Expr}{m:Bool}{fa:DEnv->Z_ D}
def Cp(te:TE):TI:=fun σ H R=>te σ H fun x H1=>∃a b_ ep,x=.ref a/\Rd H1 a (.dD b_ ep)/\R (Itk a b_ ep) H1
def xB{te:TE}(h:PE X a te):PI X tg a (Cp te):=by
 intro a_ s σ H R I hq;refine thn (h a_ s σ H _ I hq) fun v s1 hz=>?_
 obtain⟨x,H1,I1,r1,l,b_,ep,e,rd,q⟩:=hz;subst e;cases r1;obtain⟨z,y,xs,r,o,es,h1,h2,h3,h4,h5⟩:=(show ObjOk X.prog X.w H1 s1.heap l (.dD b_ ep) from jF I1.hok rd)
 have hsz:es.size=b_.length:=by rw[XC h4,<-YF r]
 refine jx y h1 h2 h3 ?_
 rw[hsz];refine⟨s1.heap.objs.size,[s1.heap.objs.size],_,_,H1,rfl,I1.kept (t':=s1.toks) fun b o e=>Z6 _ e,qb,⟨_,ZT _ rfl,rfl,rfl⟩,fun b hb=>?_,q⟩
 have e:b=s1.heap.objs.size:=by simpa using hb
 subst e;exact I1.fpOk (ZU _) (I1.hok.fresh (ZU _))
def uU(x:Z_ D):Z_ (List D):=match x with|some (.dD ks vs)=>some ks|_=>none
theorem yP(h:DE X m a fa):DI X m tg a (fun δ=>uU (fa δ)):=
 (xB h).imp fun σ H Q hz=>by
  obtain⟨B,Hk,δ,ds,R,e,k⟩:=hz;dsimp only at e;unfold uU at e;split at e
  .rename_i ks vs q1
   obtain rfl:=Z9 e;refine⟨B,Hk,δ,_,R,q1,fun v H' s r=>?_⟩
   simp only[Rep]at r;obtain⟨l,b_,rfl,⟨ep,hq⟩,rfl,rs⟩:=r;have rd:∀{H2:Hp},Ext (ba m B δ σ) H' H2->Rd H2 l (.dD b_ ep):=fun{H2} x=>by
    rcases hq with⟨b,hq⟩|⟨o,hq⟩
    .exact .inl ((x.lent l b).trans hq)
    .exact .inr ⟨o,x.frzs _ _ _ hq⟩
   refine⟨l,b_,ep,rfl,rd Ext.refl,k _ H' s fun H2 x=>?_⟩
   refine⟨⟨rd x,by simp⟩,fun i d hd=>?_⟩
   rw[YD]at hd
   cases hp:b_[i]? with
   |none=>rw[hp]at hd;trivial
   |some p=>
    rw[hp]at hd;have C_:p.1=d:=Z9 hd;refine⟨⟨rd x,(ZW.mp hp).1⟩,fun z H3 ⟨e3,p',Fn,kr⟩=>?_⟩
    rw[hp]at Fn;obtain rfl:=Z9 Fn;rw[e3];exact⟨Same.refl _,by rw[<-C_];exact kr.rep⟩
  .trivial
end
section
variable{X:Cx}{pos f_ apos p:Pos}{m m' mm:Bool}{a b c:Expr}{fa fb fc:DEnv->Z_ D}
noncomputable def Ah(K:Z5):R2:=fun x y H Q=>∃a b xs ys,x=.ref a/\y=.ref b/\SqT K H a xs/\SqT K H b ys/\xs.length+ys.length<=sizeLine/\(xs=[]->Q (.ref b) H)/\(ys=[]->Q (.ref a) H)/\∀p,H p=none->Q (.ref p) (upd H p (.tup (xs++ys)))
def tK:OpR X (binaryOp .Add) (Ah X.K):=by
 intro a_ s σ H x y v u Q I rx ry h;obtain⟨t,b,xs,ys,rfl,rfl,ht,hb,hz,q0,q1,q2⟩:=h;cases rx;cases ry;obtain⟨vs,r1,p1,_⟩:=I.tuple ht;obtain⟨ws,r2,p2,_⟩:=I.tuple hb;have l1:=r1.length;have l2:=r2.length;obtain⟨⟨cls,dd,data,sl⟩,ho,hc,n,hd⟩:=id p1;obtain⟨⟨K2,G_,data2,G3⟩,GW,HJ,n2,hd2⟩:=id p2;simp only at hc hd HJ hd2;subst hc hd HJ hd2
 by_cases hv:vs=[]
 .have hx:xs=[]:=by cases xs with
   |nil=>rfl
   |cons _ _=>rw[hv]at l1;simp at l1
  exact concat_meets ⟨_,ho,rfl⟩ ⟨_,GW,rfl⟩ noFill_tuple_add seq_tuple_add W5 W_ (Xd _ _) (tuple_addW0 t b vs.toArray ws.toArray n n2 dd G_ sl G3 (by simp[hv])) ⟨ho,GW,.ref b,H,I,rfl,q0 hx⟩
 .by_cases hw:ws=[]
  .have hy:ys=[]:=by cases ys with
    |nil=>rfl
    |cons _ _=>rw[hw]at l2;simp at l2
   exact concat_meets ⟨_,ho,rfl⟩ ⟨_,GW,rfl⟩ noFill_tuple_add seq_tuple_add W5 W_ (Xd _ _) (tuple_addW1 t b vs.toArray ws.toArray n n2 dd G_ sl G3 (by simpa using hv) (by simp[hw])) ⟨ho,GW,.ref t,H,I,rfl,q1 hy⟩
  .refine concat_meets ⟨_,ho,rfl⟩ ⟨_,GW,rfl⟩ noFill_tuple_add seq_tuple_add W5 W_ (Xd _ _) (tuple_addW2 t b vs.toArray ws.toArray n n2 dd G_ sl G3 (by simpa using hv) (by simpa using hw) (by rw[ZQ,ZQ];lia)) ⟨ho,GW,.ref s.heap.objs.size,_,?_,rfl,q2 _ (I.hok.fresh (ZU _))⟩
   refine I.laid (t':=s.toks) (fun b u e=>Z6 _ e) (ZU _) ⟨by rw[Zz];exact hz,vs++ws,r1.append r2,⟨_,ZT _ rfl,rfl,0,?_⟩⟩
   simp
noncomputable def ql(x y:Z_ D):Z_ D:=match x,y with|some (.tup xs),some (.tup ys)=>if xs.length+ys.length<=lim then some (.tup (xs++ys)) else none|_,_=>none
theorem uP(ha:DE X m a fa)(hb:DE X m b fb):DE X m (.BinOp a .Add b pos) (fun δ=>ql (fa δ) (fb δ)):=
 (uI tK ha hb).imp fun σ H Q hz=>by
  obtain⟨B,Hk,δ,d,R,e,k⟩:=hz;dsimp only at e;unfold ql at e;split at e
  .rename_i ds es q1 q2
   split at e
   .rename_i hl
    obtain rfl:=Z9 e;refine two R q1 q2 fun v u H' s R' r1 r2=>?_
    simp only[Rep]at r1 r2;obtain⟨t,xs,rfl,ht,rx⟩:=r1;obtain⟨b,ys,rfl,hb,ry⟩:=r2;have l1:=rx.length;have l2:=ry.length;refine⟨t,b,xs,ys,rfl,rfl,SqT.of ht,SqT.of hb,by rw[<-l1,<-l2];exact aH hl,fun hx=>?_,fun hy=>?_,fun p hp=>?_⟩
    .have:ds=[]:=by cases ds with
      |nil=>rfl
      |cons _ _=>rw[hx]at l1;simp at l1
     subst this;exact k _ H' s (by simp only[Rep,List.nil_append];exact⟨b,ys,rfl,hb,ry⟩)
    .have:es=[]:=by cases es with
      |nil=>rfl
      |cons _ _=>rw[hy]at l2;simp at l2
     subst this;exact k _ H' s (by simp only[Rep,Y6];exact⟨t,xs,rfl,ht,rx⟩)
    .have s2:=au (o:=.tup (xs++ys)) hp
     exact k _ _ (s.trans s2) (by simp only[Rep];exact⟨p,xs++ys,rfl,ag,(rx.append ry).same R' s2⟩)
   .trivial
  .trivial
def cZ:List D->Z_ (List Bool)
 |[]=>some []
 |.bl b::ds=>(match cZ ds with|some bs=>some (b::bs)|none=>none)
 |_=>none
theorem gg:∀{ds:List D}{bs:List Bool},cZ ds=some bs->ds=bs.map D.bl
 |[],bs,h=>by obtain rfl:=Z9 h;rfl
 |.bl b::ds,bs,h=>by
  simp only[cZ]at h;split at h
  .rename_i SI q
   obtain rfl:=Z9 h;rw[gg q];rfl
  .trivial
 |.non::ds,bs,h=>by simp[cZ]at h
 |.int _::ds,bs,h=>by simp[cZ]at h
 |.str _::ds,bs,h=>by simp[cZ]at h
 |.tup _::ds,bs,h=>by simp[cZ]at h
 |.lst _::ds,bs,h=>by simp[cZ]at h
 |.dT _ _::ds,bs,h=>by simp[cZ]at h
 |.dK _ _::ds,bs,h=>by simp[cZ]at h
 |.dD _ _::ds,bs,h=>by simp[cZ]at h
 |.sp _ _::ds,bs,h=>by simp[cZ]at h
def qA(hc:X.calm=true):ei X (.builtin "any") (fun xs H Q=>∃(q:Z2)(bs:List Bool),xs=[.ref q]/\SqL X.K H q (bs.map V.bl)/\Q (.bl (bs.any id)) H):=by
 intro a_ s σ H xs us Q I rv h;obtain⟨q,bs,rfl,hq,k⟩:=h;obtain⟨u,rfl,ru⟩:=rv.one;cases ru;obtain⟨its,r,pl,hz⟩:=I.list hq;have hl:=r.length;rw[ZJ]at hl;have Fc:q≠s.heap.objs.size:=Zw (by obtain⟨o,e,_⟩:=pl.isList;exact ZO e)
 refine call_any_walk (WY pl.isList ⟨s.heap.objs.size,_,_,its.toArray.size,_,_,fun i=>bs.getD i false,rfl,Walks.list (A:=X.A.in1) (show X.A.in1.handled=none from I.ok.hd hc) s.heap.objs.size q Fc its.toArray,⟨⟨_,ZT _ rfl,rfl,rfl⟩,pl.isList.push _⟩,fun i v s' Q' E' hv Q3=>?_,fun h' tk hk=>?_⟩)
 .have HG:its[i]?=some v:=by simpa using hv
  have hi:i<bs.length:=by have:=(ZW.mp HG).1;lia
  obtain⟨v',e1,e2⟩:=r.get (i:=i) (x:=.bl bs[i]) (by simp[hi])
  rw[HG]at e1;obtain rfl:=Z9 e1;cases e2;refine XR ?_
  rw[show bs[i]=bs.getD i false by simp[hi]]
  exact Q3
 .have e:(List.range its.toArray.size).any (fun i=>bs.getD i false)=bs.any id:=by
   rw[ZQ,<-hl,YL,Yc,Yc];constructor
   .rintro⟨i,hi,h1⟩
    have w_:=Yx.mp hi;exact⟨bs[i],W7 w_,by simpa[w_]using h1⟩
   .rintro⟨x,hx,h1⟩
    obtain⟨i,hi,rfl⟩:=WM.mp hx;exact⟨i,Yx.mpr hi,by simpa[hi]using h1⟩
  rw[e];refine⟨.bl (bs.any id),H,?_,rfl,k⟩
  exact(I.kept (t':=tk) fun b o eb=>hk b o (fun z=>by
   have:b=s.heap.objs.size:=by simpa using z
   rw[this]at eb;exact absurd (ZO eb) (Y5 _)) (Z6 _ eb))
def Bq(x:Z_ D):Z_ D:=match x with|some (.lst ds)=>(match cZ ds with|some bs=>some (.bl (bs.any id))|none=>none)|_=>none
theorem Reps.bols{K:Z5}{B:Z2->Prop}{H:Hp}:∀{bs:List Bool}{xs:List V},Reps K B H (bs.map D.bl) xs->xs=bs.map V.bl
 |[],xs,r=>r
 |b::bs,xs,r=>by
  rw[Z1]at r;simp only[Reps]at r;obtain⟨x,t,rfl,r1,r2⟩:=r;simp only[Rep]at r1;rw[r1,Reps.bols r2];rfl
theorem AJ(hc:X.calm=true)(g:Gl X "any")(hm:X.mg "any"=none)(ha:DE X m a fa)(hs:starEach [a] X.env=[(false,eval a X.env)]:=by rfl):DE X mm (.Call (.Name "any" p) [a] [] pos) (fun δ=>Bq (fa δ)):=
 (cH (qA hc) g hm boot_any (aw ha aO hs) (he:=hs)).imp fun σ H Q hz=>by
  obtain⟨B,Hk,δ,d,R,e,k⟩:=hz;unfold Bq at e;dsimp only at e;split at e
  .rename_i ds q
   split at e
   .rename_i bs qn
    obtain rfl:=Z9 e;obtain rfl:=gg qn;refine oX R q fun v H' s R' r=>?_
    simp only[Rep]at r;obtain⟨c,xs,rfl,hq,rs⟩:=r;obtain rfl:=rs.bols;exact⟨c,bs,rfl,hq.sq,k _ H' s (by simp only[Rep])⟩
   .trivial
  .trivial
def rGetA:V->List V->Hp->VK->Prop:=fun x vs H Q=>∃l y z o,x=.ref l/\vs=[y,z]/\DGA H l y o/\Q (o.getD z) H
def yE(hu:X.A.units+64<cLine):MtM X "dict.get" rGetA:=by
 intro a_ s σ H x vs v us Q I rx rv h;obtain⟨l,y,z,o,rfl,rfl,g,q⟩:=h;cases rx;obtain⟨u1,u2,rfl,r1,r2⟩:=rv.two
 rcases g with g|⟨b_,ep,k,b,e,rfl,hk,kb,rfl⟩
 .exact AF (by lia) I g r1 r2 fun w' s' I' A_=>⟨_,H,I',A_,q⟩
 .cases (show u1=Value.ref b from r1)
  obtain⟨z1,hd,xs,rel,dd⟩:=kJ I.hok e;refine call_meetsIn Xz dd.typeIs W4 (W9 _ _ _) (meetsH_dict_get_default (br X.prog X.w) l b hd u2) ⟨by show X.A.units+1+30<cLine;lia,k,xs,cY I hk kb,dd,⟨_,H,I.tok _,?_,q⟩⟩
  exact(rel.val k).getD r2
def j7(x k y:Z_ D):Z_ D:=match b8 x k,y with|some o,some z=>some (o.getD z)|_,_=>none
theorem xG(hu:X.A.units+64<cLine)(ha:DE X m a fa)(hb:DE X m b fb)(hc:DE X m c fc)
  (base:attributeBase a "get" X.env (eval a X.env)=eval a X.env:=by rfl)
  (few:((backTo f_ (starEach [b,c] X.env)).all (fun x=>!x.1)&&(backToKw f_ (keywordEach [] X.env)).all (fun x=>x.1.isSome)&&decide (([b,c]).length+([]:List Keyword).length+(if([]:List Keyword).isEmpty then 0 else 1)<30))=true:=by rfl)
  (line:(apos.endLine==f_.line)=true:=by rfl)(E6:starEach [b,c] X.env=(false,eval b X.env)::starEach [c] X.env:=by rfl)(Fw:starEach [c] X.env=[(false,eval c X.env)]:=by rfl)(plain:(backTo f_ (starEach [c] X.env)).any (·.1)=false:=by rfl):
  DE X m (.Call (.Attribute a "get" apos) [b,c] [] f_) (fun δ=>j7 (fa δ) (fb δ) (fc δ)):=
 (pD Xz PySem.F.type_dict_get (yE hu) ha (aw hb (aw hc aO Fw) E6) base few line E6 plain).imp fun σ H Q hz=>by
  obtain⟨B,Hk,δ,d,R,e,k⟩:=hz;dsimp only at e;unfold j7 at e;split at e
  .rename_i o z q1 q2
   obtain rfl:=Z9 e;obtain⟨d1,d2,e1,e2,_⟩:=da (K:=X.K) (B:=ba m B δ σ) (B':=ba m B δ σ) (H:=H) q1;refine⟨B,Hk,δ,d1,R,e1,fun v H1 s1 r1=>?_⟩
   have R1:=R.to s1;have QT:mt v H1:=by
    unfold b8 at q1;rw[e1,e2]at q1;cases d1 with
    |dK ks vs=>simp only[Rep]at r1;obtain⟨a,b_,rfl,hq,_⟩:=r1;exact⟨a,rfl,.inl ⟨b_,hq.imp And.right id⟩⟩
    |dD ks vs=>simp only[Rep]at r1;obtain⟨a,b_,rfl,⟨ep,hq⟩,_⟩:=r1;exact⟨a,rfl,.inr ⟨b_,ep,hq.imp And.right id⟩⟩
    |_=>simp at q1
   refine⟨QT,two (m:=m) (m':=m) R1 e2 q2 fun u w H' s R' r2 r3=>?_⟩
   obtain⟨RE,RD,Kv,Ku,go⟩:=da (K:=X.K) (B:=ba m B δ σ) (B':=ba m B δ σ) (H:=H') q1;rw[e1]at Kv;obtain rfl:=Z9 Kv;rw[e2]at Ku;obtain rfl:=Z9 Ku;obtain⟨c',r,ev,g,gs,gz⟩:=go (r1.same R1 s) r2;refine⟨c',u,w,r,ev,rfl,g,?_⟩
   cases o with
   |none=>
    cases r with
    |none=>exact k w H' (s1.trans s) r3
    |some _=>simp at gs
   |some dd=>
    obtain⟨w',rfl,A_⟩:=gz _ rfl;exact k w' H' (s1.trans s) A_
  .trivial
end
section
variable{prog:ZC}{w:Zo}{A:Zu}{E:Z7->Z4->Prop}{s:Z4}
def gj(hh:A.handled=none)(I d:Z2)(Fc:d≠I){o:Obj}{es:Array DictEntry}{ep:Nat}(q_:o.data=.dict es ep):
  Walks prog w A I [I,d] [I] es.size (fun i v=>∃e,es[i]?=some e/\v=e.key) (fun i h=>h.IsKeyIter I d i es.size ep/\h.get? d=some o) where
 sub:=fun b hb=>by simp at hb;simp[hb]
 frame:=fun _ _ _ st hk=>⟨st.1.at fun o e=>hk I (by simp) o e,hk d (by simp) _ st.2⟩
 item:=fun i s Q E hi st hQ=>dv hh st.1 st.2 q_ (fun e he h' HZ sb=>hQ _ h' s.toks ⟨e,he,rfl⟩ ⟨HZ,(sb.2 d Fc).trans st.2⟩ fun b o hb e=>(sb.2 b (fun z=>hb (by simp[z]))).trans e) fun hn=>by
  rw[Y0 hi]at hn;trivial
 done:=fun s Q E st hQ=>dv hh st.1 st.2 q_ (fun e he=>by rw[X6 (ZU _)]at he;trivial) fun _ h' eb=>hQ h' s.toks fun b o hb e=>eb b o (fun z=>hb (by simp[z])) e
 self:=fun _ _ _ _ st hQ=>wpAny_pyIter_keyiter st.1 hQ
def lf{R:Result->Z4->Prop}(hh:A.handled=none){d S:Z2}{o:Obj}{es:Array DictEntry}{ep Hv:Nat}(hd:(d==sysModules)=false)(ho:s.heap.get? d=some o)(hc:o.ExactDict)(q_:o.data=.dict es ep)(hn:es.size<=sizeLine)(res:Z7)
  (hS:s.heap.get? S=some {cls:=.type "list",data:=.seq #[] Hv})
  (hR:∀h' tk y_ c',(∀b o,b≠S->s.heap.get? b=some o->h'.get? b=some o)->h'.get? S=some {cls:=.type "list",dict:=none,data:=.seq y_ c',slots:=#[]}->ItemsOf (fun i v=>∃e,es[i]?=some e/\v=e.key) y_ es.size->R (.ok (.ret res)) {s with heap:=h',toks:=tk}):
  wpAny (model prog w) A.in1 (Builtin.List.listExtendWith (.ref S) (.ref d) res)
   (fun fin s'=>match fin with|.done f=>R (.ok f) s'|.again c'=>c'.quiet=true/\codeAny (model prog w) A c' R s') (fun e s'=>R (.error e) s') s:=by
 have ty:s.TypeIs (.ref d) "dict":=⟨o,ho,hc.1⟩;have JJ:S≠d:=fun e=>by rw[e,ho]at hS;have:=Z9 hS;rw[this]at q_;trivial
 have Kc:S≠s.heap.objs.size:=Zw (ZO hS);have L9:d≠s.heap.objs.size:=Zw (ZO ho);have L_:S∉[s.heap.objs.size,d]:=fun hm=>by
  rcases ZX.mp hm with e|hm
  .exact Kc e
  .exact JJ (ZE.mp hm)
 unfold Builtin.List.listExtendWith;refine Z8 (Xg ty ?_)
 simp only[show Builtin.List.listSameRef (.ref S) (.ref d)=false by simp[Builtin.List.listSameRef,JJ],show(Value.type "dict"==Value.type "list")=false by decide,show(Value.type "dict"==Value.type "tuple")=false by decide,Bool.or_false,ZK,Za]
 refine Z8 (jx hd ho hc q_ (Z8 (YQ ?_)))
 have IJ:(s.heap.push {cls:=.type "dict_keyiterator",data:=.fields #[.ref d,.int 0 0,.int es.size 0,.int ep 0]}).get? d=some o:=Z6 _ ho
 have ID:Shared.TypeIs {s with heap:=s.heap.push {cls:=.type "dict_keyiterator",data:=.fields #[.ref d,.int 0 0,.int es.size 0,.int ep 0]}} (.ref d) "dict":=⟨o,IJ,hc.1⟩
 unfold Builtin.List.listLengthHint;refine Z8 (XZ ID F.slot_dict_len.lookup ?_)
 wp_delta
 refine Z8 (Yp ID (b:=true) (by rw[XN];kernel_rfl) ?_)
 change wpAny _ _ (typeOf (Value.ref d) >>= _) _ _ _;refine Z8 (Xg ID (Z3 ?_))
 rw[Z0 (by decide)]
 have Iv:(s.heap.push {cls:=.type "dict_keyiterator",data:=.fields #[.ref d,.int 0 0,.int es.size 0,.int ep 0]}).get? S=some {cls:=.type "list",data:=.seq #[] Hv}:=Z6 _ hS
 refine Z8 (YW (Z8 ?_))
 change wpAny _ A.in1 (updateSeq S (·.push .none) >>= fun _=>updateSeq S (·.pop)) _ _ _
 have IU:=Zi (Obj.mapSeq (·.push Value.none)) Iv rfl
 refine Z8 (X0 Iv rfl (X0 (hz:=by seq_fits) IU rfl ?_))
 have MK:=Zi (Obj.mapSeq (·.pop)) IU rfl
 have HE:∀b o,b≠S->(s.heap.push {cls:=.type "dict_keyiterator",data:=.fields #[.ref d,.int 0 0,.int es.size 0,.int ep 0]}).get? b=some o->(((s.heap.push {cls:=.type "dict_keyiterator",data:=.fields #[.ref d,.int 0 0,.int es.size 0,.int ep 0]}).update S (Obj.mapSeq (·.push Value.none))).update S (Obj.mapSeq (·.pop))).get? b=some o:=
  fun b o hb e=>(Zr _ _ (Zy hb)).trans ((Zr _ _ (Zy hb)).trans e)
 refine Z3 ⟨X_ Wy _,WA (gj (A:=A.in1) (show A.in1.handled=none from hh) s.heap.objs.size d L9 q_).toS hn _ L_ _ es.size 0 _ _ _ rfl (Zt _) ⟨⟨_,HE _ _ (Zy Kc) (ZT _ rfl),rfl,rfl⟩,HE _ _ (Zy JJ) IJ⟩ MK (ItemsOf.nil _) fun s' y_ c' hm G7 k_=>?_⟩
 rw[Moved.eq_with hm];refine hR s'.heap s'.toks y_ c' (fun b ob hb e=>hm.heap b ob (fun FP=>?_) (HE b ob hb (Z6 _ e))) G7 k_
 rcases ZX.mp FP with e'|FP
 .exact hb e'
 .rw[ZE.mp FP]at e;exact absurd (ZO e) (Y5 _)
def f7{Q:Z7->Z4->Prop}(hh:A.handled=none){d:Z2}{o:Obj}{es:Array DictEntry}{ep:Nat}(hd:(d==sysModules)=false)(ho:s.heap.get? d=some o)(hc:o.ExactDict)(q_:o.data=.dict es ep)(hn:es.size<=sizeLine)
  (hQ:∀h' tk y_ c',(∀b o,s.heap.get? b=some o->h'.get? b=some o)->h'.get? s.heap.objs.size=some {cls:=.type "list",dict:=none,data:=.seq y_ c',slots:=#[]}->ItemsOf (fun i v=>∃e,es[i]?=some e/\v=e.key) y_ es.size->Q (.ref s.heap.objs.size) {s with heap:=h',toks:=tk}):
  wpAny (model prog w) A (call (.type "list") [.ref d]) Q E s:=by
 refine callType_codes (Q₁:=fun obj h_=>obj=.ref s.heap.objs.size/\h_={s with heap:=s.heap.push {cls:=.type "list",data:=.seq #[]}}) F.called_list (F.typeCall_list_1 _) F.entry_list_init (code_list_new _ ⟨rfl,rfl⟩) fun obj h_ FG=>?_
 obtain⟨rfl,rfl⟩:=FG;have hS:(s.heap.push {cls:=.type "list",data:=.seq #[]}).get? s.heap.objs.size=some {cls:=.type "list",data:=.seq #[]}:=ZT _ rfl
 refine⟨⟨_,hS,rfl⟩,F.args_list_init_2 _ _,?_⟩
 change wpAny _ _ (do let old <-Builtin.List.listItems (.ref s.heap.objs.size);Builtin.List.listUpdate (.ref s.heap.objs.size) (fun _=>#[]);letGo old.toList.reverse;Builtin.List.listExtendWith (.ref s.heap.objs.size) (.ref d) .none) _ _ _
 refine Z8 ?_
 unfold Builtin.List.listItems;refine Z8 (Yo hS rfl (Z3 ?_))
 change wpAny _ _ (updateSeq s.heap.objs.size (fun _=>#[]) >>= fun _=>letGo (#[]:Array Z7).toList.reverse >>= fun _=>Builtin.List.listExtendWith (.ref s.heap.objs.size) (.ref d) .none) _ _ _
 have IU:=Zi (Obj.mapSeq (fun _=>(#[]:Array Z7))) hS rfl
 have up:∀b ob,s.heap.get? b=some ob->((s.heap.push {cls:=.type "list",data:=.seq #[]}).update s.heap.objs.size (Obj.mapSeq (fun _=>(#[]:Array Z7)))).get? b=some ob:=fun b ob e=>(Zr _ _ (Zy (Zw (ZO e)))).trans (Z6 _ e)
 refine Z8 (X0 hS rfl (Z8 (wpAny_letGo ?_)))
 exact lf (A:=A.in1) hh hd (up d o ho) hc q_ hn .none IU fun h' tk y_ c' hk G7 k_=>⟨rfl,hQ h' tk y_ c' (fun b ob e=>hk b ob (Zw (ZO e)) (up b ob e)) G7 k_⟩
end
section
variable{X:Cx}{pos p:Pos}{m:Bool}{a:Expr}{fa:DEnv->Z_ D}
theorem DPairs.keys{H:Hp}:∀{b_:List (D×V)}{xs:List (D×Z2×Z7)},DPairs H b_ xs->KRs H (b_.map (·.1)) (xs.map fun q=>V.ref q.2.1)
 |_,_,.nil=>by simp only[Y7,KRs]
 |_,_,.cons r t=>by
  simp only[Z1,KRs];exact⟨_,_,rfl,r.2.2.1,DPairs.keys t⟩
def oP(hc:X.calm=true):ei X (.type "list") (fun xs H Q=>∃d b_ ep,xs=[.ref d]/\Rd H d (.dD b_ ep)/\∀ks p,KRs H (b_.map (·.1)) ks->H p=none->Q (.ref p) (upd H p (.lst ks))):=by
 intro a_ s σ H xs us Q I rv h;obtain⟨d,b_,ep,rfl,rd,k⟩:=h;obtain⟨u,rfl,ru⟩:=rv.one;cases ru;obtain⟨z,y,xs,r,o,es,h1,h2,h3,h4,h5⟩:=(show ObjOk X.prog X.w H s.heap d (.dD b_ ep) from jF I.hok rd)
 have hsz:es.size=b_.length:=by rw[XC h4,<-YF r]
 refine f7 (I.ok.hd hc) y h1 h2 h3 (by rw[hsz];exact z) fun h' tk acc c' hk hS k_=>?_
 have hf:H s.heap.objs.size=none:=I.hok.fresh (ZU _);have Lv:xs.length=b_.length:=(YF r).symm;have hv:Vals (xs.map fun q=>V.ref q.2.1) acc.toList:=by
  have hlen:acc.toList.length=xs.length:=by rw[Array.length_toList,k_.1,hsz,Lv]
  have key:∀(l:List (D×Z2×Z7))(m:List Z7),m.length=l.length->(∀(i:Nat) q v,l[i]?=some q->m[i]?=some v->v=.ref q.2.1)->Vals (l.map fun q=>V.ref q.2.1) m:=by
   intro l
   induction l with
   |nil=>intro m hm _;cases m with
    |nil=>exact .nil
    |cons _ _=>simp at hm
   |cons q l ih=>intro m hm hp;cases m with
    |nil=>simp at hm
    |cons v m=>exact .cons (hp 0 q v rfl rfl) (ih m (by simpa using hm) fun i q' v' a1 a2=>hp (i+1) q' v' (by simpa using a1) (by simpa using a2))
  refine key xs acc.toList hlen fun i q v a1 a2=>?_
  obtain⟨e,he,rfl⟩:=k_.2 i v (by simpa using a2)
  rw[entry_at h4 i,a1]at he;rw[<-Z9 he];rfl
 refine⟨.ref s.heap.objs.size,_,I.laid (t':=tk) (o:=.lst (xs.map fun q=>V.ref q.2.1)) hk (ZU _) ⟨by rw[ZJ,Lv];exact z,acc.toList,c',hv,by rw[hS]⟩,rfl,k _ _ r.keys hf⟩
def mE(x:Z_ D):Z_ D:=match x with|some (.dD ks vs)=>some (.lst ks)|_=>none
def t7:bootBuiltins "list"=some (.type "list"):=by decide +kernel
theorem vg(hc:X.calm=true)(g:Gl X "list")(hm:X.mg "list"=none)(ha:DE X false a fa)(hs:starEach [a] X.env=[(false,eval a X.env)]:=by rfl):DF X (.Call (.Name "list" p) [a] [] pos) (fun δ=>mE (fa δ)):=
 (dG (oP hc) g hm t7 (aw ha aO hs) (he:=hs)).imp fun σ H Q hz=>by
  obtain⟨B,Hk,δ,d,R,e,k⟩:=hz;dsimp only at e;unfold mE at e;split at e
  .rename_i ks vs q
   obtain rfl:=Z9 e;refine oX R q fun v H' s R' r=>?_
   simp only[Rep]at r;obtain⟨c,b_,rfl,⟨ep,hq⟩,rfl,rs⟩:=r;refine⟨c,b_,ep,rfl,hq.imp And.right id,fun ks p kr hp=>?_⟩
   have s2:=au (o:=.lst ks) hp;exact k p _ (s.trans s2) (s.free hp) ⟨_,ag,(KRs.rep kr).same (m:=false) R' s2⟩
  .trivial
end
section
variable{K:Z5}{B:Z2->Prop}{Hk H H' H1:Hp}
def Rel.unset{δ:DEnv}{σ:St}{i:Nat}{v:V}(R:Rel K B Hk δ σ H)(hi:i<σ.length):Rel K B Hk (δ.set i none) (σ.set i (some v)) H:=by
 have w_:i<δ.length:=by rw[R.len];exact hi
 have key:∀(j:Nat) p,(δ.set i none)[j]?=some (some p)->j≠i/\δ[j]?=some (some p)/\(σ.set i (some v))[j]?=σ[j]?:=fun j p q=>by
  by_cases hj:j=i
  .subst hj;rw[ZF w_]at q;cases q
  .rw[ZP (Zy hj)]at q
   exact⟨hj,q,by rw[ZP (Zy hj)]⟩
 refine⟨R.same,R.bor,by simpa using R.len,fun j e q=>?_,fun j e q=>?_,fun j k e f q GY h1 h2 h3 h4=>?_⟩
 .obtain⟨_,q1,q2⟩:=key j _ q
  obtain⟨u,q3,q4⟩:=R.var j e q1;exact⟨u,by rw[q2];exact q3,q4⟩
 .obtain⟨_,q1,q2⟩:=key j _ q
  obtain⟨a,q3,q4⟩:=R.own j e q1;exact⟨a,by rw[q2];exact q3,q4⟩
 .obtain⟨_,q1,q2⟩:=key j _ h1
  obtain⟨_,q3,q4⟩:=key k _ h2;rw[q2]at h3;rw[q4]at h4;exact R.dis j k e f q GY q1 q3 h3 h4
end
section
variable{X:Cx}{i:Nat}{x y:Str}{ao:List Stmt}{gr gb:DEnv->Z_ Out}{pos pos' p f_ apos px:Pos}{k:Nat}{f:List D->Z_ (D×Bool)}{e a b:Expr}{es:List Expr}{fs:DEnv->Z_ (List D)}{fa fb:DEnv->Z_ D}{ft:DEnv->Z_ Bool}
end
section
variable{X:Cx}{i:Nat}{x:Str}{e:Expr}{es:List Expr}{fs:DEnv->Z_ (List D)}{fe:DEnv->Z_ D}{pos px:Pos}
end
section
variable{X:Cx}{a b:Expr}{fa fb:DEnv->Z_ D}{m m' mm:Bool}{apos f_:Pos}
open Classical in
def Bf{a_:List (Z2×Obj)}{σ:St}{H:Hp}{s:Z4}{B B':Z2->Prop}{d:D}{es:List D}{x:V}{v:Z7}{xs:List V}{its:List Z7}(hu:X.A.units+64<cLine)(I:Inv X a_ σ H s)(hd:okD 16 d=true)(he:es.all (okD 16)=true)
  (r1:Rep X.K B H d x)(r2:Reps X.K B' H es xs)(rx:RelV x v)(rv:Vals xs its):∃e:Z7->Bool,(∀y,y∈its.toArray->SeqAt.EqAt X.A.in1 s y v (e y))/\∀(j:Nat) u d',its[j]?=some u->es[j]?=some d'->e u=decide (d'=d):=by
 have one:∀j u,its[j]?=some u->∃d' x',es[j]?=some d'/\okD 16 d'=true/\Rep X.K B' H d' x'/\RelV x' u:=fun j u hj=>by
  have hl:=rv.length;have ka:j<xs.length:=by rw[hl];exact(ZW.mp hj).1
  obtain⟨u',FC,ru⟩:=rv.get (i:=j) (x:=xs[j]) (by simp[ka])
  rw[hj]at FC;obtain rfl:=Z9 FC;obtain⟨d',C_,FI⟩:=r2.get' (i:=j) (x:=xs[j]) (by simp[ka])
  exact⟨d',xs[j],C_,(ZM.mp he) d' (Zj C_),FI,ru⟩
 have key:∀u d' x',okD 16 d'=true->Rep X.K B' H d' x'->RelV x' u->decide (∃d' x',okD 16 d'=true/\Rep X.K B' H d' x'/\RelV x' u/\d'=d)=decide (d'=d):=fun u d' x' o' FI ru=>by
  rw[YL,Y8,Y8];constructor
  .rintro⟨d2,x2,o2,J7,J4,e2⟩
   rw[<-e2];have ex:=ru.inj J4;subst ex;exact Rep.inj I o' o2 FI J7
  .intro e2
   exact⟨d',x',o',FI,ru,e2⟩
 refine⟨fun u=>decide (∃d' x',okD 16 d'=true/\Rep X.K B' H d' x'/\RelV x' u/\d'=d),fun u FC=>?_,fun j u d' hj C_=>?_⟩
 .obtain⟨j,hj⟩:=Yl (show u∈its by simpa using FC)
  obtain⟨d',x',_,o',FI,ru⟩:=one j u hj;have q:=(zm I 16 d' d x' x u v X.A.in1 o' hd (by show X.A.units+1+16+1<cLine;lia) FI r1 ru rx).2.1
  show SeqAt.EqAt X.A.in1 s u v (decide (∃d' x',okD 16 d'=true/\Rep X.K B' H d' x'/\RelV x' u/\d'=d));rw[key u d' x' o' FI ru];exact q
 .obtain⟨d2,x',e2,o',FI,ru⟩:=one j u hj
  rw[C_]at e2;obtain rfl:=Z9 e2;exact(key u d' x' o' FI ru).trans (by congr)
noncomputable def zi(x y:Z_ D):Z_ D:=match x,y with
 |some (.lst ds),some d=>if okD 16 d=true/\ds.all (okD 16)=true/\ds.idxOf d<ds.length/\ds.length<=lim then some (.int (ds.idxOf d)) else none
 |_,_=>none
def ud(hu:X.A.units+64<cLine):MtR X "list.index" (fun x vs H Q=>∃B B' l y ds d,x=.ref l/\vs=[y]/\Rep X.K B H (.lst ds) x/\Rep X.K B' H d y/\okD 16 d=true/\ds.all (okD 16)=true/\ds.idxOf d<ds.length/\ds.length<=lim/\Q (.int (ds.idxOf d)) H):=by
 intro a_ s σ H x vs v us Q I rx rv h;obtain⟨B,B',l,y,ds,d,rfl,rfl,r1,r2,o1,o2,hj,hz,q⟩:=h;cases rx;obtain⟨u,rfl,ru⟩:=rv.one;simp only[Rep]at r1;obtain⟨l',xs,e,hq,rs⟩:=r1;cases e;obtain⟨its,r,pl,_⟩:=I.list hq.sq;obtain⟨e,g1,g2⟩:=Bf hu I o1 o2 r2 rs ru r;obtain⟨⟨cl,dd,dt,sl⟩,n,e1,e2,e3,e4⟩:=pl;simp only at e2 e3 e4;subst e2;subst e3;subst e4;have Gz:=r.length;have LB:=rs.length;have hsz:ds.idxOf d<its.toArray.size:=by rw[ZQ];lia
 have at1:∀(i:Nat)(hi:i<its.length),e its[i]=decide (ds[i]'(by lia)=d):=fun i hi=>g2 i its[i] (ds[i]'(by lia)) (by simp) (by simp)
 refine call_meets F.slot_list_index ⟨_,e1,rfl⟩ F.entry_list_index (F.args_list_index_2 _ _) (SeqAt.list_indexAt l its.toArray n none sl u e (ds.idxOf d) hsz ?_ ?_ ?_) ⟨e1,g1,?_⟩
 .have:lim<2 ^ 63 - 1:=by decide +kernel
  lia
 .rw[List.getElem_toArray,at1]
  simp
 .intro i hi ka
  rw[List.getElem_toArray,at1 i (by simpa using hi)]
  have:=List.not_of_lt_findIdx (p:=fun z=>z==d) (xs:=ds) (i:=i) ka
  simpa using this
 .exact⟨.int _,H,I.tok _,⟨_,rfl⟩,q⟩
def rQ{x y:Z_ D}{z:D}(h:zi x y=some z):∃ds d,x=some (.lst ds)/\y=some d/\okD 16 d=true/\ds.all (okD 16)=true/\ds.idxOf d<ds.length/\ds.length<=lim/\z=.int (ds.idxOf d):=by
 unfold zi at h;split at h
 .rename_i ds d
  split at h
  .rename_i c;obtain rfl:=Z9 h;exact⟨ds,d,rfl,rfl,c.1,c.2.1,c.2.2.1,c.2.2.2,rfl⟩
  .trivial
 .trivial
theorem tT(hu:X.A.units+64<cLine)(ha:DE X m a fa)(hb:DE X m' b fb)(n_:attributeBase a "index" X.env (eval a X.env)=eval a X.env:=by rfl)
  (D_:((backTo f_ (starEach [b] X.env)).all (fun x=>!x.1)&&(backToKw f_ (keywordEach [] X.env)).all (fun x=>x.1.isSome)&&decide (([b]).length+([]:List Keyword).length+(if([]:List Keyword).isEmpty then 0 else 1)<30))=true:=by rfl)
  (m_:(apos.endLine==f_.line)=true:=by rfl)(hs:starEach [b] X.env=(false,eval b X.env)::starEach [] X.env:=by rfl):DE X mm (.Call (.Attribute a "index" apos) [b] [] f_) (fun δ=>zi (fa δ) (fb δ)):=
 (n9 XF PySem.F.slot_list_index PySem.F.type_list_index (ud hu) ha (aw hb aO hs) n_ D_ m_ hs).imp fun σ H Q hz=>by
  obtain⟨B,Hk,δ,d,R,e,k⟩:=hz;obtain⟨ds,d0,e1,e2,o1,o2,h1,h2,rfl⟩:=rQ e;refine⟨B,Hk,δ,_,R,e1,fun v H1 s1 r1=>?_⟩
  have R1:=R.to s1;obtain⟨l,xs,ev,hq,rs⟩:∃l xs,v=.ref l/\LstS X.K (ba m B δ σ) H1 l xs/\Reps X.K (ba m B δ σ) H1 ds xs:=by simpa only[Rep]using r1
  subst ev;refine⟨.inl ⟨rfl,xs,hq.sq⟩,B,Hk,δ,_,R1,e2,fun y H2 s2 r2=>?_⟩
  exact⟨_,_,l,y,ds,d0,rfl,rfl,r1.same R1 s2,r2,o1,o2,h1,h2,k _ H2 (s1.trans s2) (by simp only[Rep])⟩
end
end L2
namespace L2
open PySem
def aY:List (D×List D)->D->D->List (D×List D)
 |[],k,e=>[(k,[e])]
 |p::r,k,e=>if p.1=k then(p.1,if e∈p.2 then p.2 else p.2++[e])::r else p::aY r k e
def mI(g:List (D×List D)):D:=.dD (g.map (·.1)) (g.map fun p=>.dD p.2 (p.2.map fun _=>.bl true))
end L2
namespace L2
open PySem PySem.Spec PyProof.Rows
variable[Lams]
def InAt(Hk H:Hp)(l:Z2)(v:V)(es:List D):Prop:=∃a ks ep,v=.ref a/\a≠l/\Hk a=none/\H a=some (.dD ks ep)/\ks.map (·.1)=es/\∀x∈ks,x.2=.bl true
def GL(Hk H:Hp)(l:Z2):List (D×V)->List (D×List D)->Prop
 |[],g=>g=[]
 |p::r,g=>∃q g',g=q::g'/\p.1=q.1/\InAt Hk H l p.2 q.2/\GL Hk H l r g'
def InAt.to{Hk H H':Hp}{l:Z2}{v:V}{es:List D}(h:InAt Hk H l v es)(k:∀a ks ep,v=.ref a->H a=some (.dD ks ep)->H' a=some (.dD ks ep)):InAt Hk H' l v es:=by
 obtain⟨a,ks,ep,h1,h2,h3,h4,h5⟩:=h;exact⟨a,ks,ep,h1,h2,h3,k a ks ep h1 h4,h5⟩
theorem GL.to{Hk H H':Hp}{l:Z2}:∀{b_:List (D×V)}{g:List (D×List D)},GL Hk H l b_ g->(∀p∈b_,∀a ks ep,p.2=.ref a->H a=some (.dD ks ep)->H' a=some (.dD ks ep))->GL Hk H' l b_ g
 |[],g,h,k=>h
 |p::r,g,h,k=>by
  obtain⟨q,g',h1,h2,h3,h4⟩:=h;exact⟨q,g',h1,h2,h3.to (k p (ZV ..)),GL.to h4 fun p' hp=>k p' (ZZ _ hp)⟩
theorem GL.length{Hk H:Hp}{l:Z2}:∀{b_:List (D×V)}{g:List (D×List D)},GL Hk H l b_ g->b_.length=g.length
 |[],g,h=>by rw[show g=[] from h];rfl
 |p::r,g,h=>by obtain⟨q,g',rfl,_,_,h4⟩:=h;simp[GL.length h4]
theorem GL.mem{Hk H:Hp}{l:Z2}:∀{b_:List (D×V)}{g:List (D×List D)}{p:D×V},GL Hk H l b_ g->p∈b_->∃es,InAt Hk H l p.2 es/\∃q∈g,q.2=es
 |[],g,p,h,hp=>by trivial
 |p'::r,g,p,h,hp=>by
  obtain⟨q,g',rfl,h2,h3,h4⟩:=h
  rcases ZX.mp hp with rfl|hp
  .exact⟨q.2,h3,q,ZV ..,rfl⟩
  .obtain⟨es,h5,q',h6,h7⟩:=GL.mem h4 hp
   exact⟨es,h5,q',ZZ _ h6,h7⟩
def ie{b_:List (D×V)}{k:D}{v:V}(h:dH b_ k=some v):∃p∈b_,p.2=v/\p.1=k:=by
 unfold dH at h;obtain⟨p,h1,h2⟩:=X7.mp h;exact⟨p,Xj h1,h2,by simpa using List.find?_some h1⟩
theorem GL.add{Hk H:Hp}{l a:Z2}{ks:List (D×V)}{k e:D}{ep:Nat}:∀{b_:List (D×V)}{g:List (D×List D)},GL Hk H l b_ g->(b_.map (·.2)).Nodup->dH b_ k=some (.ref a)->H a=some (.dD ks ep)->∀Fe,GL Hk (upd H a (.dD (c6 ks e (.bl true)) Fe)) l b_ (aY g k e)
 |[],g,h,nd,hv,ha=>by trivial
 |p::r,g,h,nd,hv,ha=>by
  intro Fe;obtain⟨q,g',rfl,h2,h3,h4⟩:=h;rw[Z1,YN]at nd;unfold aY
  by_cases c:p.1=k
  .rw[bA c]at hv
   rw[Z0 (by rw[<-h2];exact c)]
   refine⟨_,_,rfl,h2,?_,h4.to fun p' Fn a' N3 GF e1 e2=>?_⟩
   .obtain⟨a',N3,GF,e1,e2,e3,e4,e5,e6⟩:=h3
    have HG:p.2=.ref a:=Z9 hv;rw[e1]at HG;cases HG;rw[ha]at e4;cases e4;refine⟨a,_,Fe,e1,e2,e3,ag,?_,fun x hx=>?_⟩
    .rw[fz];unfold lB;rw[e5]
    .unfold c6 at hx
     split at hx
     .obtain⟨y,hy,rfl⟩:=ZL.mp hx
      split
      .rfl
      .exact e6 y hy
     .rcases Zl.mp hx with hx|hx
      .exact e6 x hx
      .rw[ZE.mp hx]
   .have:a'≠a:=fun z=>by
     subst z;exact nd.1 (ZL.mpr ⟨p',Fn,by rw[e1];exact(Z9 hv).symm⟩)
    rw[ai this];exact e2
  .rw[bB c]at hv
   rw[ZY (by rw[<-h2];exact c)]
   refine⟨_,_,rfl,h2,h3.to fun a' N3 GF e1 e2=>?_,GL.add h4 nd.2 hv ha Fe⟩
   obtain⟨p',Fn,e3,_⟩:=ie hv;have:a'≠a:=fun z=>by
    subst z;exact nd.1 (ZL.mpr ⟨p',Fn,by rw[e3,e1]⟩)
   rw[ai this];exact e2
theorem GL.keys{Hk H:Hp}{l:Z2}:∀{b_:List (D×V)}{g:List (D×List D)},GL Hk H l b_ g->b_.map (·.1)=g.map (·.1)
 |[],g,h=>by rw[show g=[] from h];rfl
 |p::r,g,h=>by obtain⟨q,g',rfl,h2,_,h4⟩:=h;simp[GL.keys h4,h2]
theorem GL.snoc{Hk H:Hp}{l a:Z2}{k:D}{es:List D}:∀{b_:List (D×V)}{g:List (D×List D)},GL Hk H l b_ g->InAt Hk H l (.ref a) es->GL Hk H l (b_++[(k,.ref a)]) (g++[(k,es)])
 |[],g,h,i=>by rw[show g=[] from h];exact⟨_,_,rfl,rfl,i,rfl⟩
 |p::r,g,h,i=>by obtain⟨q,g',rfl,h2,h3,h4⟩:=h;exact⟨_,_,rfl,h2,h3,GL.snoc h4 i⟩
theorem GL.lens{n:Nat}{Hk H:Hp}{l:Z2}{k e:D}:∀{g:List (D×List D)},(∀q∈g,q.2.length<=n)->∀q∈aY g k e,q.2.length<=n+1
 |[],h,q,hq=>by unfold aY at hq;rw[ZE.mp hq];simp
 |p::r,h,q,hq=>by
  unfold aY at hq;split at hq
  .rcases ZX.mp hq with rfl|hq
   .have:=h p (ZV ..)
    dsimp only;split
    .lia
    .rw[Zz,List.length_singleton];lia
   .have:=h q (ZZ _ hq);lia
  .rcases ZX.mp hq with rfl|hq
   .have:=h q (ZV ..);lia
   .exact GL.lens (Hk:=Hk) (H:=H) (l:=l) (fun q' FT=>h q' (ZZ _ FT)) q hq
theorem gh:∀(g:List (D×List D))(k e:D),(aY g k e).length<=g.length+1
 |[],k,e=>by simp[aY]
 |p::r,k,e=>by
  unfold aY;split
  .simp
  .have:=gh r k e;simp only[List.length_cons];lia
def InM(K:Z5)(B:Z2->Prop)(Hk H:Hp)(l:Z2)(v:V)(es:List D):Prop:=Rep K B H (.dD es (es.map fun _=>.bl true)) v\/InAt Hk H l v es
def GM(K:Z5)(B:Z2->Prop)(Hk H:Hp)(l:Z2):List (D×V)->List (D×List D)->Prop
 |[],g=>g=[]
 |p::r,g=>∃q g',g=q::g'/\p.1=q.1/\InM K B Hk H l p.2 q.2/\GM K B Hk H l r g'
theorem GL.m{K:Z5}{B:Z2->Prop}{Hk H:Hp}{l:Z2}:∀{b_:List (D×V)}{g:List (D×List D)},GL Hk H l b_ g->GM K B Hk H l b_ g
 |[],g,h=>h
 |p::r,g,h=>by obtain⟨q,g',h1,h2,h3,h4⟩:=h;exact⟨q,g',h1,h2,.inr h3,GL.m h4⟩
theorem AQ{K:Z5}{B:Z2->Prop}{H:Hp}:∀{ks:List (D×V)},(∀x∈ks,x.2=.bl true)->Reps K B H ((ks.map (·.1)).map fun _=>.bl true) (ks.map (·.2))
 |[],h=>Reps.nil
 |p::r,h=>Reps.cons (by simp only[Rep];exact h p (ZV ..)) (AQ fun x hx=>h x (ZZ _ hx))
def InAt.obR{K:Z5}{B:Z2->Prop}{Hk H:Hp}{l:Z2}{v:V}{es:List D}(h:InAt Hk H l v es):∃a,v=.ref a/\a≠l/\Hk a=none/\ObR K B H (.dD es (es.map fun _=>.bl true)) a:=by
 obtain⟨a,ks,ep,h1,h2,h3,h4,rfl,h6⟩:=h;exact⟨a,h1,h2,h3,ks,⟨ep,h4⟩,rfl,AQ h6⟩
theorem GM.frz1{K:Z5}{B:Z2->Prop}{Hk H:Hp}{l b:Z2}{u:HO}{o:Obj}(hx:H b=some u)(mu:Mut (some u))(nb:¬B b):∀{b_:List (D×V)}{g:List (D×List D)},GM K B Hk H l b_ g->GM K B Hk (upd H b (.frz o u)) l b_ g
 |[],g,h=>h
 |p::r,g,h=>by
  obtain⟨q,g',h1,h2,h3,h4⟩:=h;refine⟨q,g',h1,h2,?_,GM.frz1 hx mu nb h4⟩
  rcases h3 with h3|h3
  .exact .inl (h3.ext (bF hx mu nb))
  .by_cases c:p.2=.ref b
   .obtain⟨a,e1,e2,e3,ob⟩:=h3.obR (K:=K) (B:=B)
    rw[c]at e1;cases e1;rw[c];exact .inl (ob.frozen hx nb fun _ z=>z)
   .exact .inr (h3.to fun a ks ep e1 e2=>by rw[ai (fun z=>c (by rw[e1,z]))];exact e2)
theorem B4{X:Cx}{a_:List (Z2×Obj)}{σ:St}{s:Z4}{B:Z2->Prop}{Hk:Hp}{l:Z2}{ol:HO}(hB:∀a,B a->∃o:HOn,Hk a=some o.1):∀(b_:List (D×V))(g:List (D×List D))(H:Hp),Inv X a_ σ H s->GM X.K B Hk H l b_ g->H l=some ol->
  ∃H',Inv X a_ σ H' s/\Ext B H H'/\(∀c o o',Hk c=some o'->H c=some o->H' c=some o)/\H' l=some ol/\Reps X.K B H' (g.map fun p=>.dD p.2 (p.2.map fun _=>.bl true)) (b_.map (·.2))
 |[],g,H,I,h,hl=>⟨H,I,Ext.refl,fun _ _ _ _ q=>q,hl,by rw[show g=[] from h];exact Reps.nil⟩
 |p::r,g,H,I,h,hl=>by
  obtain⟨q,g',rfl,h2,h3,h4⟩:=h
  rcases h3 with h3|h3
  .obtain⟨H',I',e',k',l',r'⟩:=B4 hB r g' H I h4 hl
   exact⟨H',I',e',k',l',Reps.cons (h3.ext e') r'⟩
  .obtain⟨a,e1,e2,e3,ob⟩:=h3.obR (K:=X.K) (B:=B)
   obtain⟨u,hu,mu⟩:=ob.mut;obtain⟨o,I1⟩:=I.frz hu mu;have nb:¬B a:=fun z=>by obtain⟨o',w⟩:=hB a z;rw[e3]at w;trivial
   have ex:Ext B H (upd H a (.frz o u)):=bF hu mu nb;obtain⟨H',I',e',k',l',r'⟩:=B4 hB r g' _ I1 (GM.frz1 hu mu nb h4) (by rw[ai (Zy e2)];exact hl)
   refine⟨H',I',ex.trans e',fun c o' o2 q1 q2=>k' c o' o2 q1 (by rw[ai (aq q1 e3)];exact q2),l',Reps.cons ?_ r'⟩
   dsimp only;rw[e1];exact(ob.frozen hu nb fun _ z=>z).ext e'
def wl(δ:DEnv):Bool:=δ.all fun o=>match o with|some (_,true)=>false|_=>true
def rN{δ:DEnv}(h:wl δ=true):aX δ:=fun i d e=>by
 have:=(ZM.mp h) _ (Zj e);simp at this
def dQ{δ:DEnv}{i:Nat}(h:aX δ):aX (δ.set i none):=fun j e q=>by
 by_cases hj:i=j
 .subst hj
  rw[List.getElem?_set]at q
  split at q
  .split at q<;>cases q
  .exact h i e q
 .rw[ZP hj]at q
  exact h j e q
def Rel.updX{K:Z5}{B:Z2->Prop}{Hk H:Hp}{δ:DEnv}{σ:St}{l:Z2}{u o:HO}(R:Rel K B Hk δ σ H)(no:aX δ)(hk:Hk l=none)(hl:H l=some u)(mu:Mut (some u)):Ext B H (upd H l o)/\Rel K B Hk δ σ (upd H l o):=by
 have nb:¬B l:=fun z=>by obtain⟨o,q⟩:=R.bor l z;rw[hk]at q;trivial
 have ex:Ext B H (upd H l o):=bF hl mu nb;refine⟨ex,R.same.put hk,R.bor,R.len,fun j e q=>?_,fun j e q=>(no j e q).elim,R.dis⟩
 obtain⟨v,q1,q2⟩:=R.var j e q;exact⟨v,q1,q2.ext ex⟩
noncomputable def bX(ib ik ir:Nat)(fk fe:DEnv->Z_ D):List D->DEnv->List (D×List D)->Z_ (List (D×List D))
 |[],_,g=>some g
 |d::ds,δ,g=>match fk (δ.set ib (some (d,false)))with
  |some k=>(match fe (((δ.set ib (some (d,false))).set ik (some (k,false))).set ir none)with
   |some e=>if(bH 8 k&&uO k&&(bH 8 e&&uO e))=true then bX ib ik ir fk fe ds (((δ.set ib (some (d,false))).set ik (some (k,false))).set ir none) (aY g k e) else none
   |none=>none)
  |none=>none
noncomputable def zW(ig ib ik ir:Nat)(fi:DEnv->Z_ (List D))(fk fe:DEnv->Z_ D)(δ:DEnv):Z_ Out:=
 if wl δ=true/\ig<δ.length/\ib<δ.length/\ik<δ.length/\ir<δ.length then
  (match fi (δ.set ig none)with
  |some ds=>if ds.length<lim then(match bX ib ik ir fk fe ds (δ.set ig none) []with|some g=>some (.ret (mI g) true)|none=>none) else none
  |none=>none) else none
def rE{ig ib ik ir:Nat}{fi:DEnv->Z_ (List D)}{fk fe:DEnv->Z_ D}{δ:DEnv}{o:Out}(h:zW ig ib ik ir fi fk fe δ=some o):aX δ/\(ig<δ.length/\ib<δ.length/\ik<δ.length/\ir<δ.length)/\∃ds g,fi (δ.set ig none)=some ds/\ds.length<lim/\bX ib ik ir fk fe ds (δ.set ig none) []=some g/\o=.ret (mI g) true:=by
 unfold zW at h;split at h
 .rename_i c
  split at h
  .rename_i ds q1
   split at h
   .rename_i hl
    split at h
    .rename_i g q2
     cases h;exact⟨rN c.1,c.2,ds,g,q1,hl,q2,rfl⟩
    .trivial
   .trivial
  .trivial
 .trivial
theorem fg:∀{g:List (D×List D)}{k e:D},¬k∈g.map (·.1)->aY (g++[(k,[])]) k e=aY g k e
 |[],k,e,_=>by simp[aY]
 |p::r,k,e,h=>by
  simp only[Z1,ZX,Xf]at h;show aY (p::(r++[(k,[])])) k e=_;unfold aY;rw[ZY (fun z=>h.1 z.symm),ZY (fun z=>h.1 z.symm),fg h.2]
def t9{b_:List (D×V)}{k:D}{v:V}(h:dH b_ k=none):dH (b_++[(k,v)]) k=some v:=by
 induction b_ with
 |nil=>exact bA rfl
 |cons p r ih=>
  by_cases c:p.1=k
  .rw[bA c]at h;trivial
  .rw[bB c]at h
   rw[List.cons_append,bB c];exact ih h
structure GInv (K:Z5)(B:Z2->Prop)(Hk:Hp)(ig l n:Nat)(δ:DEnv)(σ:St)(H:Hp)(g:List (D×List D)):Prop where
 rel:Rel K B Hk δ σ H
 no:aX δ
 at':σ[ig]?=some (some (.ref l))
 new:Hk l=none
 dict:∃b_ ep,H l=some (.dD b_ ep)/\GL Hk H l b_ g/\(b_.map (·.2)).Nodup
 len:g.length<=n
 lens:∀q∈g,q.2.length<=n
section
variable{X:Cx}{ig ib ik ir:Nat}{xg xb xk xr:Str}{iter ke ve:Expr}{fi:DEnv->Z_ (List D)}{fk fe:DEnv->Z_ D}{p1 p2 p3 p4 p5 p6 p7 p8 p9 HX NT NS NR NQ NP PX NO NN ap cp:Pos}{kk:Nat}
noncomputable def tGR(K:Z5)(ig:Nat):TS:=fun Dn σ H=>∃B Hk l b_ ep g,(∀a,B a->∃o:HOn,Hk a=some o.1)/\σ[ig]?=some (some (.ref l))/\H l=some (.dD b_ ep)/\GL Hk H l b_ g/\
 ∀H',Ext B H H'->(∀c o o',Hk c=some o'->H c=some o->H' c=some o)->ObR K B H' (mI g) l->Dn.rt (.ref l) H'
def wU(ng:Nm X ig xg):PS X (.Return (some (.Name xg NO)) NN) (tGR X.K ig):=by
 intro a_ s σ H Dn I ⟨B,Hk,l,b_,ep,g,hB,Me,hl,gl,k⟩;obtain⟨H',I',e',k',l',r'⟩:=B4 hB b_ g H I gl.m hl;exact iZ (bg ng.at' ng.vis ng.d1 ng.d2) a_ s σ H' Dn I' ⟨.ref l,Me,k H' e' k' ⟨b_,⟨ep,l'⟩,gl.keys,r'⟩⟩
def t8{K:Z5}{B:Z2->Prop}{Hk:Hp}{l n:Nat}{δ:DEnv}{σ:St}{H H3 H4:Hp}{g:List (D×List D)}{d k e:D}{v vk:V}{N:St->Hp->Prop}{Dn:Ends}
  (ka:ig<σ.length/\ib<σ.length/\ik<σ.length/\ir<σ.length) (h1:ig≠ib) (h2:ig≠ik) (h3:ig≠ir) (h5:ik≠ir) (hn:n<lim)
  (G:GInv K B Hk ig l n δ σ H g) (sy:Same H H3) (rv:Rep K B H3 d v) (qk:fk (δ.set ib (some (d,false)))=some k) (s4:Same H3 H4) (rk:Rep K B H4 k vk)
  (qe:fe (((δ.set ib (some (d,false))).set ik (some (k,false))).set ir none)=some e) (Ox:(bH 8 k&&uO k&&(bH 8 e&&uO e))=true)
  (fin:∀j_ H',Ext B H H'->GInv K B Hk ig l (n+1) (((δ.set ib (some (d,false))).set ik (some (k,false))).set ir none) j_ H' (aY g k e)->N j_ H'):
  BT (xY (C6 rSetdef (tq ig) (n5 (tq ik) (n5 tDNewD tNil))) (fw ir)) (sPA (tq ir) (tM K false fe) (tC (.bl true))) {Dn with nx:=N} ((σ.set ib (some v)).set ik (some vk)) H4:=by
 simp only[ZH]at Ox;obtain⟨⟨k8,kt⟩,e8,et⟩:=Ox;obtain⟨lg,lb,lk,lr⟩:=ka;have R3:=(G.rel.to sy).set (i:=ib) lb rv;have R4:=(R3.to s4).set (i:=ik) (by rw[Zk];exact lk) rk
 have L7:aX ((δ.set ib (some (d,false))).set ik (some (k,false))):=fN (fN G.no);obtain⟨b_,ep,hl,gl,nd⟩:=G.dict;have Lm:=sy.trans s4;have Mw:H4 l=some (.dD b_ ep):=Lm l _ hl;have OQ:GL Hk H4 l b_ g:=gl.to fun p hp a ks GF e1 e2=>Lm a _ e2
 obtain⟨b,rfl⟩:=de kt rk;have kr:KR H4 k (.ref b):=rk.key k8;have Ny:((σ.set ib (some v)).set ik (some (.ref b)))[ig]?=some (some (.ref l)):=by
  rw[ZP (Zy h2),ZP (Zy h1)];exact G.at'
 have O7:((σ.set ib (some v)).set ik (some (.ref b)))[ik]?=some (some (.ref b)):=ZF (by rw[Zk];exact lk)
 refine⟨.ref l,Ny,⟨l,rfl,.inr ⟨b_,ep,.inl Mw⟩⟩,.ref b,O7,fun c hc=>?_⟩
 have cl:c≠l:=fun z=>by subst z;rw[Mw]at hc;trivial
 have sc:=au (o:=.dD [] 0) hc;have JO:upd H4 c (.dD [] 0) l=some (.dD b_ ep):=sc l _ Mw;have LM:GL Hk (upd H4 c (.dD [] 0)) l b_ g:=OQ.to fun p hp a ks GF e1 e2=>sc a _ e2
 have Mb:KR (upd H4 c (.dD [] 0)) k (.ref b):=(rk.ext (R4.ext sc)).key k8;have Rc:=R4.to sc;have xc:Ext B H (upd H4 c (.dD [] 0)):=G.rel.ext (Lm.trans sc);have ao:∀(H5:Hp)(a:Z2)(Gc:List (D×V))(Kt:Nat)(g1:List (D×List D)),Ext B H H5->Rel K B Hk ((δ.set ib (some (d,false))).set ik (some (k,false))) ((σ.set ib (some v)).set ik (some (.ref b))) H5->H5 l=some (.dD Gc Kt)->GL Hk H5 l Gc g1->(Gc.map (·.2)).Nodup->
   dH Gc k=some (.ref a)->aY g1 k e=aY g k e->(∀q∈g1,q.2.length<=n)->
   sPA (tq ir) (tM K false fe) (tC (.bl true)) {Dn with nx:=N} (((σ.set ib (some v)).set ik (some (.ref b))).set ir (some (.ref a))) H5:=by
  intro H5 a Gc Kt g1 x5 R5 Qx OP NZ N_ OW N1;have R6:=R5.unset (i:=ir) (v:=.ref a) (by rw[Zk,Zk];exact lr)
  refine⟨.ref a,ZF (by rw[Zk,Zk];exact lr),B,Hk,_,e,R6,qe,fun y H6 s6 ry=>?_⟩
  obtain⟨b2,rfl⟩:=de et ry;obtain⟨p,hp,e1,e2⟩:=ie N_;obtain⟨es,⟨a',ks,GF,f1,f2,f3,f4,f5,f6⟩,q,hq,Og⟩:=OP.mem hp;rw[e1]at f1;cases f1;have MP:H6 a=some (.dD ks GF):=s6 a _ f4;have Iq:ks.length<=n:=by
   have:=N1 q hq;rw[Og,<-f5,ZJ]at this;exact this
  refine⟨a,rfl,.inr ⟨ks,GF,e,b2,MP,rfl,e8,ry.key e8,?_,fun Fe=>?_⟩⟩
  .exact ZA (Nat.lt_of_le_of_lt Iq hn) (aH (ZU _))
  .have R7:=R6.to s6
   have Ri:GL Hk H6 l Gc g1:=OP.to fun p hp a ks GF e1 e2=>s6 a _ e2
   obtain⟨x8,R8⟩:=R7.updX (o:=.dD (c6 ks e (.bl true)) Fe) (dQ L7) f3 MP trivial;refine fin _ _ ((x5.trans (R5.ext s6)).trans x8) ⟨R8,dQ L7,?_,G.new,⟨Gc,Kt,?_,?_,NZ⟩,?_,?_⟩
   .rw[ZP (Zy h3)];exact Ny
   .rw[ai (Zy f2)];exact s6 l _ Qx
   .rw[<-OW];exact Ri.add NZ N_ MP Fe
   .have:=gh g k e;have:=G.len;lia
   .rw[<-OW];exact GL.lens (Hk:=Hk) (H:=H) (l:=l) N1
 cases hv:dH b_ k with
 |some w=>
  obtain⟨p,hp,e1,e2⟩:=ie hv;obtain⟨es,⟨a,ks,GF,f1,f2,f3,f4,f5,f6⟩,q,hq,Og⟩:=LM.mem hp;have ew:w=.ref a:=by rw[<-e1,f1]
  subst ew;refine⟨l,.ref b,.ref c,.ref a,rfl,rfl,.inl ⟨.inr ⟨b_,ep,k,b,.inl JO,rfl,k8,Mb,hv.symm⟩,?_,.inr ⟨b_,ep,JO⟩⟩⟩
  exact ao _ a b_ ep g xc Rc JO LM nd hv rfl G.lens
 |none=>
  refine⟨l,.ref b,.ref c,.ref c,rfl,rfl,.inr ⟨.inr ⟨b_,ep,k,b,.inl JO,rfl,k8,Mb,hv.symm⟩,rfl,.inr ⟨b_,ep,k,b,JO,rfl,k8,Mb,?_,fun Fe=>?_⟩⟩⟩
  .rw[gl.length];exact ZA (Nat.lt_of_le_of_lt G.len hn) (aH (ZU _))
  .have Qz:Hk c=none:=G.rel.same.free ((Lm.free hc))
   obtain⟨x5,R5⟩:=Rc.updX (o:=.dD (c6 b_ k (.ref c)) Fe) L7 G.new JO trivial;have ek:¬k∈g.map (·.1):=by rw[<-gl.keys];exact vG hv
   refine ao _ c (c6 b_ k (.ref c)) Fe (g++[(k,[])]) (xc.trans x5) R5 ag ?_ ?_ ?_ (fg ek) ?_
   .rw[iD _ hv]
    refine GL.snoc (LM.to fun p hp a ks GF e1 e2=>?_) ⟨c,[],0,rfl,cl,Qz,?_,rfl,fun x hx=>by cases hx⟩
    .have:a≠l:=fun z=>by
      obtain⟨es,⟨a2,P7,Rx,z1,z2,_⟩,_⟩:=LM.mem hp;rw[e1]at z1;cases z1;exact z2 z
     rw[ai this];exact e2
    .rw[ai cl];exact ag
   .rw[iD _ hv,YY]
    refine X2.mpr ⟨nd,by simp,fun x hx y hy z=>?_⟩
    obtain rfl:y=.ref c:=by simpa using hy
    subst z;obtain⟨p,hp,e1⟩:=ZL.mp hx;obtain⟨es,⟨a2,P7,Rx,z1,z2,z3,z4,_⟩,_⟩:=OQ.mem hp;rw[e1]at z1;cases z1;rw[hc]at z4;trivial
   .rw[iD _ hv];exact t9 hv
   .intro q hq
    rcases Zl.mp hq with hq|hq
    .exact G.lens q hq
    .rw[ZE.mp hq];exact Zt _
theorem qU(hp:PassesOwn (model X.prog X.w) X.A X.env X.xe)(hc:X.calm=true)(hu:X.A.units+64<cLine)(hN:X.N.Nodup)(ng:Nm X ig xg)(lg:Lc X ig xg)(lb:Lc X ib xb)(nk:Nm X ik xk)(lk:Lc X ik xk)(nr:Nm X ir xr)(lr:Lc X ir xr)
  (h1:ig≠ib) (h2:ig≠ik) (h3:ig≠ir) (h5:ik≠ir) (hi:DI X false (.Name xb p4) iter fi) (hk:DE X false ke fk) (he:DE X false ve fe)
  (hs:∀x,foldedSetIterable iter X.env x=pure x)
  (Nb:swapsWith (.Dict [] [] p2) (some (.Name xg p1)) p3.line X.env=pure false)
  (Jf:swapsWith ke (some (.Name xk p5)) p6.line X.env=pure false)
  (Je:swapsWith (.Call (.Attribute (.Name xg p8) "setdefault" ap) [.Name xk p9,.Dict [] [] HX] [] cp) (some (.Name xr p7)) NT.line X.env=pure false)
  (Na:swapsWith (.Constant (.bool true) kk NQ) (some (.Subscript (.Name xr NS) ve NR)) NP.line X.env=pure false)
  (base:attributeBase (.Name xg p8) "setdefault" X.env (eval (.Name xg p8) X.env)=eval (.Name xg p8) X.env)
  (few:((backTo cp (starEach [.Name xk p9,.Dict [] [] HX] X.env)).all (fun x=>!x.1)&&(backToKw cp (keywordEach [] X.env)).all (fun x=>x.1.isSome)&&decide (([Expr.Name xk p9,.Dict [] [] HX]).length+([]:List Keyword).length+(if([]:List Keyword).isEmpty then 0 else 1)<30))=true)
  (line:(ap.endLine==cp.line)=true)(E6:starEach [.Name xk p9,.Dict [] [] HX] X.env=(false,eval (.Name xk p9) X.env)::starEach [.Dict [] [] HX] X.env)(Fw:starEach [.Dict [] [] HX] X.env=[(false,eval (.Dict [] [] HX) X.env)])(plain:(backTo cp (starEach [.Dict [] [] HX] X.env)).any (·.1)=false):
  DSs X (.Assign [.Name xg p1] (.Dict [] [] p2) p3::
   .For (.Name xb p4) iter (.Assign [.Name xk p5] ke p6::
    .Assign [.Name xr p7] (.Call (.Attribute (.Name xg p8) "setdefault" ap) [.Name xk p9,.Dict [] [] HX] [] cp) NT::
    .Assign [.Subscript (.Name xr NS) ve NR] (.Constant (.bool true) kk NQ) NP::[]) [] PX::
   .Return (some (.Name xg NO)) NN::[]) (zW ig ib ik ir fi fk fe):=by
 intro a_ s σ H Dn I hq;obtain⟨B,Hk,δ,o,R,e,P8⟩:=hq;obtain⟨no,⟨q1,q2,q3,q4⟩,ds,g,FE,hl,hg,rfl⟩:=rE e;have Me:=R.len;refine bx (gN hN lg.at' lg.loc hY Nb lg.fnl)
  (bx (rX hp hc hi (lW hN lb.at' lb.loc lb.fnl)
   (bx (gN hN lk.at' lk.loc hk Jf lk.fnl)
    (bx (gN hN lr.at' lr.loc (pD PySem.F.slot_dict_setdefault PySem.F.type_dict_setdefault (jj hu) (bg ng.at' ng.vis ng.d1 ng.d2) (aw (bg nk.at' nk.vis nk.d1 nk.d2) (aw hY aO Fw) E6) base few line E6 plain) Je lr.fnl)
     (eQ (mV hu (bg nr.at' nr.vis nr.d1 nr.d2) he Av Na)))) hs)
   (eQ (wU ng))) a_ s σ H Dn I ?_
 intro p Oi;have s1:=au (o:=.dD [] 0) Oi;have R1:=(R.to s1).unset (i:=ig) (v:=.ref p) (by lia)
 have LC:Hk p=none:=R.same.free Oi;refine⟨B,Hk,_,ds,R1,FE,fun J H2 s2 it=>?_⟩
 have HZ:ItD X.K B H2 J ds:=it;refine⟨fun i n j_ H'=>n=ds.length - i/\i<=ds.length/\Ext B H2 H'/\∃i_ g',GInv X.K B Hk ig p i i_ j_ H' g'/\j_.length=σ.length/\bX ib ik ir fk fe (ds.drop i) i_ g'=some g,
  ⟨ds.length,by simp,Zt _,Ext.refl,_,[],⟨R1.to s2,dQ no,ZF (by lia),LC,⟨[],0,s2 p _ ag,rfl,Y3⟩,Zt _,fun q hq=>by cases hq⟩,by rw[Zk],by simpa using hg⟩,?_⟩
 rintro i n j_ H' ⟨rfl,w_,x,i_,g',G,hlen,e'⟩
 obtain⟨FD,IP⟩:=HZ H' x
 by_cases ka:i<ds.length
 .obtain⟨go,yl⟩:=IP i ds[i] (by simp[ka])
  refine .inr ⟨go,fun Fz H3=>Ext B H2 H3/\∃i_ g',GInv X.K B Hk ig p (i+1) i_ Fz H3 g'/\Fz.length=σ.length/\bX ib ik ir fk fe (ds.drop (i+1)) i_ g'=some g,fun Fz H3 z=>⟨_,by lia,rfl,ka,z⟩,fun v H3 hy=>?_⟩
  obtain⟨sy,rv⟩:=yl v H3 hy;rw[Zf ka]at e';simp only[bX]at e';split at e'
  .rename_i k qk
   split at e'
   .rename_i e2 qe
    split at e'
    .rename_i h8
     refine⟨B,Hk,_,k,(G.rel.to sy).set (i:=ib) (by lia) rv,qk,fun vk H4 s4 rk=>?_⟩
     refine t8 (Dn:=Dn) ⟨by lia,by lia,by lia,by lia⟩ h1 h2 h3 h5 (by lia) G sy rv qk s4 rk qe h8 fun Fz H5 x5 G5=>⟨x.trans x5,_,_,G5,?_,e'⟩
     have r1:=G5.rel.len;have r2:=G.rel.len;simp only[Zk]at r1
     lia
    .trivial
   .trivial
  .trivial
 .have Mz:i=ds.length:=by lia
  subst Mz;rw[Xw]at e';simp only[bX]at e';cases e';obtain⟨b_,ep,Gz,gl,nd⟩:=G.dict;refine .inl ⟨FD,B,Hk,p,b_,ep,g,R.bor,G.at',Gz,gl,fun H' x' k' ob=>?_⟩
  have same:Same Hk H':=G.rel.same.keep k';exact P8 (.ref p) H' (((R.ext s1).trans (R1.ext s2)).trans (x.trans x')) same (by unfold kB;rw[Z0 rfl];exact .inl ⟨p,rfl,LC,ob⟩)
end
section
variable{prog:ZC}{w:Zo}{A:Zu}{E:Z7->Z4->Prop}{s:Z4}
def Made(h:Heap)(lo:Z2)(xs ys:Array Z7):Nat->List Z7->Prop
 |_,[]=>True
 |i,v::r=>∃T x y,v=.ref T/\lo<=T/\xs[i]?=some x/\ys[i]?=some y/\IsPair h T x y/\(∀v'∈r,v'≠v)/\Made h lo xs ys (i+1) r
end
def jW:Expr->Z_ D
 |.Constant (.int i) _ _=>some (.int i)
 |.Constant (.str x) _ _=>some (.str x)
 |.Constant .none _ _=>some .non
 |_=>none
section
variable{X:Cx}{m:Bool}
def tJ{e:Expr}{d:D}(h:jW e=some d):DE X m e (fun _=>some d):=by
 unfold jW at h;split at h
 .obtain rfl:=Z9 h;exact jo
 .obtain rfl:=Z9 h;exact wB
 .obtain rfl:=Z9 h;exact m4
 .trivial
def oj{e:Expr}{es:List Expr}{d:D}{env:Env}(h:jW e=some d):starEach (e::es) env=(false,eval e env)::starEach es env:=by
 unfold jW at h;split at h
 .rfl
 .rfl
 .rfl
 .trivial
theorem jn:∀{es:List Expr}{ds:List D},es.map jW=ds.map some->DA X m es (fun _=>some ds)
 |[],[],_=>ff
 |[],_::_,h=>by simp at h
 |_::_,[],h=>by simp at h
 |e::es,d::ds,h=>by
  rw[Z1,Z1,Yv]at h;exact bY (tJ h.1) (jn h.2) (oj h.1)
end
def leT(a b:Str):Bool:=!decide (b.cps.toList<a.cps.toList)
def dk(a b c:Str)(h1:leT a b=true)(h2:leT b c=true):leT a c=true:=by
 unfold leT at*;simp only[YB,XG]at*;exact List.le_trans h1 h2
def fv(a b:Str):(leT a b||leT b a)=true:=by
 unfold leT
 by_cases h:b.cps.toList<a.cps.toList
 .have:¬a.cps.toList<b.cps.toList:=fun h'=>absurd (List.lt_trans h h') (List.lt_irrefl _)
  simp[this]
 .simp[h]
def mq(a b:Str)(h1:leT a b=true)(h2:leT b a=true):a=b:=by
 unfold leT at*;simp only[YB,XG]at*;exact Str.ext' (Array.toList_inj.mp (List.le_antisymm h1 h2))
def eB(ss:List Str):List Str:=ss.mergeSort leT
def cL(ss:List Str):(eB ss).Perm ss:=List.mergeSort_perm ss leT
theorem fM:∀(l:List Str)(p:Str),risingS p l=true->(p::l).Pairwise (fun a b=>leT a b=true)
 |[],p,_=>by simp
 |x::r,p,h=>by
  have h':(!ltCps x.cps.toList p.cps.toList&&risingS x r)=true:=h;rw[ZH,ltCps_eq]at h';have ih:=fM r x h'.2;refine Ys.mpr ⟨fun y hy=>?_,ih⟩
  rcases ZX.mp hy with rfl|hy
  .exact h'.1
  .exact dk _ _ _ h'.1 ((Ys.mp ih).1 y hy)
def k9:∀(l:List Str),sortedS l=true->l.Pairwise (fun a b=>leT a b=true)
 |[],_=>.nil
 |x::r,h=>fM r x h
def r6{ss HW:List Str}(hp:HW.Perm ss)(hs:sortedS HW=true):HW=eB ss:=
 List.Perm.eq_of_pairwise (le:=fun a b=>leT a b=true) (fun a b _ _ h1 h2=>mq a b h1 h2) (k9 _ hs) (W8 dk fv ss) (hp.trans (cL ss).symm)
def gJ{ss HW:List Str}(hp:HW.Perm ss):eB HW=eB ss:=
 List.Perm.eq_of_pairwise (le:=fun a b=>leT a b=true) (fun a b _ _ h1 h2=>mq a b h1 h2) (W8 dk fv HW) (W8 dk fv ss) ((cL HW).trans (hp.trans (cL ss).symm))
theorem du:∀{ss:List Str}{us:List Z7},StrsAre us ss->Vals (ss.map V.str) us
 |_,_,.nil=>.nil
 |_,_,.cons x t h=>.cons ⟨t,rfl⟩ (du h)
theorem jl{K:Z5}{B:Z2->Prop}{H:Hp}:∀ss:List Str,Reps K B H (ss.map D.str) (ss.map V.str)
 |[]=>Reps.nil
 |x::ss=>Reps.cons (by simp only[Rep]) (jl ss)
section
variable{X:Cx}
def jX{a_:List (Z2×Obj)}{σ:St}{H:Hp}{s:Z4}{ss:List Str}{us:List Z7}{Q:VK}{h1:Heap}{t1:Nat}(I:Inv X a_ σ H s)(k1:∀b o,s.heap.get? b=some o->h1.get? b=some o)(hsz:s.heap.objs.size<=h1.objs.size)
  (v:StrsAre us ss)(HL:us.length<64)(q:∀l,H l=none->Q (.ref l) (upd H l (.lst ((eB ss).map V.str)))):
  wpAny (model X.prog X.w) X.A.in1 (do
   let l <-newList us
   let _ <-holding [l] (call (.builtin "list.sort") [l] [])
   ret l) (fun fin s'=>∃w,fin=.done (.ret w)/\EP X a_ σ Q w s') X.xe {s with heap:=h1,toks:=t1}:=by
 have hz:us.length<=sizeLine:=by rw[XO];lia
 refine Z8 (WR ?_ hz)
 have g0:(h1.push (seqObj "list" us.toArray 0)).get? h1.objs.size=some (seqObj "list" us.toArray 0):=ZT _ rfl
 have k2:∀b o,s.heap.get? b=some o->b≠h1.objs.size/\b<(h1.push (seqObj "list" us.toArray 0)).objs.size/\(h1.push (seqObj "list" us.toArray 0)).get? b=some o:=fun b o e=>
  ⟨Zw (ZO (k1 b o e)),ZO (Z6 _ (k1 b o e)),Z6 _ (k1 b o e)⟩
 refine Z8 (YQ (Y_ slot_list_sort ⟨_,g0,rfl⟩ entry_list_sort ?_ (args_list_sort _)))
 refine list_sort_treeK (s:={s with heap:=h1.push (seqObj "list" us.toArray 0),toks:=t1}) strKind_oneLt g0 v.keysOf (fun RN RM ao e=>keyKind_strs (by rw[<-e];exact v)) HL fun g_ hp hs=>?_
 obtain⟨HW,a1,a2,a3⟩:=sorted_out_str v hp hs;have e:=r6 a2 a3;subst e;obtain⟨c,hc⟩:=sortedHeap_at (vs:=us) (out:=(arrOf g_).map (·.2)) g0
 have GB:H h1.objs.size=none:=I.hok.fresh hsz;have hl:((eB ss).map V.str).length<=sizeLine:=by
  have h1:=du a1;have h2:=a2.length_eq;have h3:=(du v).length;rw[ZJ]at h3⊢
  lia
 refine⟨_,rfl,Z3 ⟨_,rfl,.ref h1.objs.size,_,I.laid (a:=h1.objs.size) (o:=.lst ((eB ss).map V.str)) (h':=sortedHeap (h1.push (seqObj "list" us.toArray 0)) h1.objs.size us ((arrOf g_).map (·.2))) (t':=t1) (fun b o e=>(sortedHeap_old (k2 b o e).1 (k2 b o e).2.1).trans (k2 b o e).2.2) hsz ?_,rfl,q _ GB⟩⟩
 exact⟨hl,_,c,du a1,by rw[Array.toArray_toList];exact hc⟩
theorem Bl:∀ts:List (Str×Tok),StrsAre (ts.map fun p=>.str p.1 p.2) (ts.map (·.1))
 |[]=>.nil
 |p::ts=>.cons p.1 p.2 (Bl ts)
def jq(hc:X.calm=true):ei X (.builtin "sorted") (fun xs H Q=>∃S us,xs=[.ref S]/\H S=some (uq X.w S us)/\us.length<64/\∀l,H l=none->Q (.ref l) (upd H l (.lst ((eB us).map V.str)))):=by
 intro a_ s σ H xs us Q I r h;obtain⟨S,ss,rfl,hS,HL,q⟩:=h;obtain⟨u,rfl,rx⟩:=gd r;cases rx;obtain⟨⟨Fm,p1,o,ep,t,ho,hex,hd,hf,FH,hpl⟩,_,_⟩:=I.hok S _ hS;have Gz:=p1.length_eq;rw[ZJ]at Gz;have st:SetIs s.heap S (Fm.map (tE X.w)) ep t:=⟨⟨o,ho,hex,hd⟩,by simpa using hf⟩
 refine W0 kind_sorted plain_sorted entry_sorted (args_sorted1 _) ?_
 unfold Builtin.«sorted»;refine Z8 (m:=checkCount "sorted" 1 1 _) (Z3 (Z8 (ly (by simp[I.ok.hd hc]) st FH (hpl.imp (fun h=>by simp[h]) id) (by rw[ZJ];lia) fun vs h' d tk hp F4 hsz=>?_)))
 rw[List.map_map]at hp;obtain⟨JV,p2,rfl⟩:=eJ (fun p:Str×Tok=>Value.str p.1 p.2) hp Fm rfl
 have LB:=p2.length_eq;refine jX (s:={s with drawn:=d}) (t1:=tk) (I.drawn d) F4 hsz (Bl JV) (by rw[ZJ];lia) fun l Fj=>?_
 rw[gJ ((p2.map (·.1)).trans p1)]
 exact q l Fj
noncomputable def cz(x:Z_ D):Z_ D:=match x with
 |some (.lst ds)=>(match b9 ds with|some ss=>if ss.length<64 then some (.lst ((eB (uS ss)).map D.str)) else none|none=>none)
 |_=>none
variable{a:Expr}{fa:DEnv->Z_ D}{pos GH p p2:Pos}
theorem fK{K:Z5}{B:Z2->Prop}{H:Hp}:∀{ss:List Str}{ys:List V},Reps K B H (ss.map D.str) ys->ys=ss.map V.str
 |[],ys,r=>r
 |x::ss,ys,r=>by
  obtain⟨y,rr,rfl,r1,r2⟩:=r;simp only[Rep]at r1;rw[r1,fK r2];rfl
theorem iz(hc:X.calm=true)(g:Gl X "sorted")(hm:X.mg "sorted"=none)(g2:Gl X "set")(Ki:X.mg "set"=none)(ha:DE X false a fa)(hs:starEach [a] X.env=[(false,eval a X.env)]:=by rfl)
  (Gj:starEach [.Call (.Name "set" p2) [a] [] GH] X.env=[(false,eval (.Call (.Name "set" p2) [a] [] GH) X.env)]:=by rfl):
  DF X (.Call (.Name "sorted" p) [.Call (.Name "set" p2) [a] [] GH] [] pos) (fun δ=>cz (fa δ)):=
 (cH (jq hc) g hm dC (aw (dG (rh hc) g2 Ki zV (aw ha aO hs) (he:=hs)) aO Gj) (he:=Gj)).imp fun σ H Q hz=>by
  obtain⟨B,Hk,δ,d,R,e,k⟩:=hz;unfold cz at e;dsimp only at e;split at e
  .rename_i ds qd
   split at e
   .rename_i us qu
    cases dM qu
    by_cases cc:us.length<64
    .rw[Z0 cc]at e;obtain rfl:=Z9 e
     simp only[tCB,n5,tNil];refine⟨B,Hk,δ,_,R,qd,fun v H' s r=>?_⟩
     have R':=R.to s;simp only[Rep]at r;obtain⟨l,xs,rfl,hq,rs⟩:=r;cases fK rs;refine⟨l,us,rfl,hq.sq,cc,fun S ss hS Qs FP hlen=>?_⟩
     have s2:=au (o:=uq X.w S ss) hS;refine⟨S,ss,rfl,ag,by lia,fun l' Fj=>?_⟩
     rw[gJ ((List.perm_ext_iff_of_nodup Qs (eG us)).mpr fun x=>(FP x).trans (i8 x us).symm)]
     have s3:=au (o:=.lst ((eB (uS us)).map V.str)) Fj;exact k l' _ (s.trans (s2.trans s3)) (s.free (s2.free Fj)) ⟨_,ag,jl _⟩
    .rw[ZY cc]at e;trivial
   .trivial
  .trivial
end
end L2
namespace L2
open PySem PySem.StrLaws
variable[Lams]
def sU(ss:List Str):List D:=(eB (uS ss)).map D.str
def jB{ss:List Str}(hu:ss.length<64):cz (some (.lst (ss.map D.str)))=some (.lst (sU ss)):=by
 unfold cz sU;simp only[jk,Z0 hu]
def aU(x y:Str):eqO (some (.str x)) (some (.str y))=some (decide (x=y)):=by
 rw[oM _ _ rfl];congr 1;simp
end L2
namespace L2
open PySem
variable[Lams]
def ifV{α:Type}(c:Z_ Bool)(x y:Z_ α):Z_ α:=match c with|some true=>x|some false=>y|none=>none
def Cr(x y:Z_ D):Z_ D:=match tyB x with|some true=>y|some false=>some (.bl false)|none=>none
def neX(x:Z_ (D×DEnv))(fb:DEnv->Z_ D):Z_ (Bool×DEnv):=ae x fun p=>match neO (some p.1) (fb p.2)with|some c=>some (c,p.2)|none=>none
section
variable{X:Cx}{m mm:Bool}{a b c:Expr}{ao:List Expr}{fa fb:DEnv->Z_ D}{fc:DEnv->Z_ Bool}{pos:Pos}
theorem xH(ha:DE X m a fa)(hb:DE X mm (.BoolOp .And (b::ao) pos) fb):DE X mm (.BoolOp .And (a::b::ao) pos) (fun δ=>Cr (fa δ) (fb δ)):=AE ha hb
theorem yr{ga:DEnv->Z_ (D×DEnv)}(hu:X.A.units+64<cLine)(ha:DX X a ga)(hb:DE X false b fb)(hm:behindInMarks .NotEq b=false:=by rfl):DTX X (.Compare a [.NotEq] [b] pos) (fun δ=>neX (ga δ) fb):=Af hu ha hb hm
end
end L2
namespace L2
open PySem PySem.Spec PyProof.Rows
variable[Lams]
theorem yd{X:Cx}{mm:Bool}{a:Expr}{fa:DEnv->Z_ D}{op:BoolOp}{pos:Pos}(ha:DE X mm a fa):DE X mm (.BoolOp op [a] pos) fa:=Aq ha rfl
noncomputable def eh(τ:D->DEnv->Z_ DEnv)(fc:DEnv->Z_ Bool):List D->DEnv->Z_ Out
 |[],δ=>some (.next δ)
 |d::ds,δ=>ae (τ d δ) fun x_=>match fc x_ with|some true=>some (.ret .non false)|some false=>eh τ fc ds x_|none=>none
noncomputable def fW(τ:D->DEnv->Z_ DEnv)(fc:DEnv->Z_ Bool)(x:Z_ (List D))(δ:DEnv):Z_ Out:=match x with|some ds=>if D.flats ds=true then eh τ fc ds δ else none|none=>none
def rH{ds:List D}{i:Nat}{d:D}(h:D.flats ds=true)(e:ds[i]?=some d):d.flat=true:=by
 rw[D.flats_all]at h;exact ZM.mp h d (Zj e)
section
variable{X:Cx}{tg iter c:Expr}{pos p1 p2 p3:Pos}{j:Nat}{fi:DEnv->Z_ (List D)}{τ:D->DEnv->Z_ DEnv}{fc:DEnv->Z_ Bool}
theorem rU(hp:PassesOwn (model X.prog X.w) X.A X.env X.xe)(hc:X.calm=true)(hi:DI X true tg iter fi)(hg:DG X tg τ)(ht:DT X c fc)(hs:∀x,foldedSetIterable iter X.env x=pure x:=by intro _;rfl):
  DS X (.For tg iter [.If c [.Return (some (.Constant .none j p3)) p2] [] p1] [] pos) (fun δ=>fW τ fc (fi δ) δ):=
 (rX hp hc hi hg (eQ (xz ht (eQ (iZ (m4 (m:=false) (j:=j) (pos:=p3)))) sj)) hs).imp fun Dn σ H hz=>by
  obtain⟨B,Hk,δ,o,R,e,k⟩:=hz;unfold fW at e;dsimp only at e;split at e
  .rename_i ds e1
   by_cases hf:D.flats ds=true
   .rw[Z0 hf]at e
    refine⟨B,Hk,δ,ds,R,e1,fun J H1 s1 it=>?_⟩
    have R1:=R.to s1;refine⟨fun i n j_ H'=>n=ds.length - i/\i<=ds.length/\Same H1 H'/\∃i_,Rel X.K B Hk i_ j_ H'/\eh τ fc (ds.drop i) i_=some o,⟨ds.length,by simp,Zt _,Same.refl _,δ,R1,e⟩,?_⟩
    rintro i n j_ H' ⟨rfl,hi,x,i_,R',e'⟩
    obtain⟨FD,IP⟩:=it H' (x.ext (R1.bsH true));have xx:Ext B H H':=(R.ext s1).trans (R1.ext x)
    by_cases ka:i<ds.length
    .obtain⟨go,yl⟩:=IP i ds[i] (by simp[ka])
     refine .inr ⟨go,fun Fz H2=>Same H1 H2/\∃JB,Rel X.K B Hk JB Fz H2/\eh τ fc (ds.drop (i+1)) JB=some o,fun Fz H2 z=>⟨_,by lia,rfl,ka,z⟩,fun v H2 hy=>?_⟩
     obtain⟨sy,rv⟩:=yl v H2 hy;have R2:=R'.to sy;rw[Zf ka]at e';simp only[eh]at e';obtain⟨x_,q1,q2⟩:=ak e';refine⟨B,Hk,i_,ds[i],x_,R2,rv.flat (rH (i:=i) hf (by simp[ka])),q1,fun F6 R3=>?_⟩
     split at q2
     .rename_i qc
      obtain rfl:=Z9 q2;refine⟨B,Hk,x_,true,R3,qc,fun H3 s3=>wG ⟨B,Hk,x_,.non,R3.to s3,rfl,fun v4 H4 s4 r4=>?_⟩⟩
      have x4:=(xx.trans (R'.ext sy)).trans (R3.ext (s3.trans s4));exact k v4 H4 x4 ((R3.to (s3.trans s4)).same) (by unfold kB;rw[ZY Zv];exact r4)
     .rename_i qc
      exact⟨B,Hk,x_,false,R3,qc,fun H3 s3=>wC ⟨x.trans (sy.trans s3),x_,R3.to s3,q2⟩⟩
     .trivial
    .have w_:i=ds.length:=by lia
     subst w_;rw[Xw]at e';simp only[eh]at e';obtain rfl:=Z9 e';exact .inl ⟨FD,k j_ H' xx R'⟩
   .rw[ZY hf]at e;trivial
  .trivial
end
def d9:Slot "dict_keys" "__iter__" "dict_keys.__iter__":=
 .of (owner:="dict_keys") (n:="__iter__") (by rw[WH,Xp];kernel_rfl) (by decide +kernel) (by decide +kernel) (by decide +kernel)
  (by first|exact .inl (by decide +kernel)|exact .inr (by decide +kernel)) (by rw[XN];kernel_rfl)
def lN:∃id,Slot "dict_keys" "__len__" id/\id="dict_keys.__len__":=⟨_,
 .of (owner:="dict_keys") (n:="__len__") (by rw[WH,Xp];kernel_rfl) (by decide +kernel) (by decide +kernel) (by decide +kernel)
  (by first|exact .inl (by decide +kernel)|exact .inr (by decide +kernel)) (by rw[XN];kernel_rfl),rfl⟩
def iB:entryFor table "dict_keys.__iter__"=some Builtin.«dict_keys.__iter__»:=entryFor_of_tree (by kernel_rfl)
def kg(a:Z7):argsOk "dict_keys.__iter__" ⟨[a],[]⟩:=by unfold argsOk;kernel_rfl
section
variable{prog:ZC}{w:Zo}{A:Zu}{E:Z7->Z4->Prop}{s:Z4}
abbrev sJ(d:Z2):Obj:={cls:=.type "dict_keys",data:=.fields #[.ref d]}
def xV{v d:Z2}{o:Obj}{es:Array DictEntry}{ep:Nat}{Q:Z7->Z4->Prop}(hv:s.heap.get? v=some (sJ d))(ho:s.heap.get? d=some o)(q_:o.data=.dict es ep)
  (hQ:Q (.ref s.heap.objs.size) {s with heap:=s.heap.push {cls:=.type "dict_keyiterator",data:=.fields #[.ref d,.int 0 0,.int es.size 0,.int ep 0]}}):wpAny (model prog w) A (pyIter (.ref v)) Q E s:=by
 have ty:s.TypeIs (.ref v) "dict_keys":=⟨_,hv,rfl⟩;refine WZ ty d9 (Y_ d9 ty iB ?_ (kg _))
 unfold Builtin.«dict_keys.__iter__»;refine Z8 (Z3 (Z8 ?_))
 unfold Builtin.Dict_items.dictOf;refine Z8 (Xl hv rfl (x:=.ref d) rfl (Z3 (Z8 ?_)))
 unfold Builtin.Dict_items.newIterator;refine Z8 (Xu ho q_ (Z8 (wpAny_dictEpoch ho q_ ?_)))
 dsimp only;rw[ZY (show ¬Builtin.Dict_items.ownsTuple "dict_keyiterator"=true by decide)]
 refine Zd (Z3 ⟨_,rfl,"dict_keyiterator",_,⟨_,ZT _ rfl,rfl⟩,XX.lookup,?_⟩)
 simpa[rawInt]using hQ
def qr{R:Result->Z4->Prop}(hh:A.handled=none){v d S:Z2}{o:Obj}{es:Array DictEntry}{ep Hv:Nat}(hv:s.heap.get? v=some (sJ d))(ho:s.heap.get? d=some o)(q_:o.data=.dict es ep)(hn:es.size<=sizeLine)(res:Z7)
  (hS:s.heap.get? S=some {cls:=.type "list",data:=.seq #[] Hv})
  (hR:∀h' tk y_ c',(∀b o,b≠S->s.heap.get? b=some o->h'.get? b=some o)->h'.get? S=some {cls:=.type "list",dict:=none,data:=.seq y_ c',slots:=#[]}->ItemsOf (fun i v=>∃e,es[i]?=some e/\v=e.key) y_ es.size->R (.ok (.ret res)) {s with heap:=h',toks:=tk}):
  wpAny (model prog w) A.in1 (Builtin.List.listExtendWith (.ref S) (.ref v) res)
   (fun fin s'=>match fin with|.done f=>R (.ok f) s'|.again c'=>c'.quiet=true/\codeAny (model prog w) A c' R s') (fun e s'=>R (.error e) s') s:=by
 have ty:s.TypeIs (.ref v) "dict_keys":=⟨_,hv,rfl⟩;have P2:S≠v:=fun e=>by rw[e,hv]at hS;have:=congrArg Obj.cls (Z9 hS);simp at this
 have JJ:S≠d:=fun e=>by rw[e,ho]at hS;have:=Z9 hS;rw[this]at q_;trivial
 have Kc:S≠s.heap.objs.size:=Zw (ZO hS);have L9:d≠s.heap.objs.size:=Zw (ZO ho);have L_:S∉[s.heap.objs.size,d]:=fun hm=>by
  rcases ZX.mp hm with e|hm
  .exact Kc e
  .exact JJ (ZE.mp hm)
 unfold Builtin.List.listExtendWith;refine Z8 (Xg ty ?_)
 simp only[show Builtin.List.listSameRef (.ref S) (.ref v)=false by simp[Builtin.List.listSameRef,P2],show(Value.type "dict_keys"==Value.type "list")=false by decide,show(Value.type "dict_keys"==Value.type "tuple")=false by decide,Bool.or_false,ZK,Za]
 refine Z8 (xV hv ho q_ (Z8 (YQ ?_)))
 have IJ:(s.heap.push {cls:=.type "dict_keyiterator",data:=.fields #[.ref d,.int 0 0,.int es.size 0,.int ep 0]}).get? d=some o:=Z6 _ ho
 have ID:Shared.TypeIs {s with heap:=s.heap.push {cls:=.type "dict_keyiterator",data:=.fields #[.ref d,.int 0 0,.int es.size 0,.int ep 0]}} (.ref v) "dict_keys":=⟨_,Z6 _ hv,rfl⟩
 unfold Builtin.List.listLengthHint;obtain⟨id,sl,rfl⟩:=lN;refine Z8 (XZ ID sl.lookup ?_)
 wp_delta
 refine Z8 (Yp ID (b:=true) (by rw[XN];kernel_rfl) ?_)
 change wpAny _ _ (typeOf (Value.ref v) >>= _) _ _ _;refine Z8 (Xg ID (Z3 ?_))
 rw[Z0 (by decide)]
 have Iv:(s.heap.push {cls:=.type "dict_keyiterator",data:=.fields #[.ref d,.int 0 0,.int es.size 0,.int ep 0]}).get? S=some {cls:=.type "list",data:=.seq #[] Hv}:=Z6 _ hS
 refine Z8 (YW (Z8 ?_))
 change wpAny _ A.in1 (updateSeq S (·.push .none) >>= fun _=>updateSeq S (·.pop)) _ _ _
 have IU:=Zi (Obj.mapSeq (·.push Value.none)) Iv rfl
 refine Z8 (X0 Iv rfl (X0 (hz:=by seq_fits) IU rfl ?_))
 have MK:=Zi (Obj.mapSeq (·.pop)) IU rfl
 have HE:∀b o,b≠S->(s.heap.push {cls:=.type "dict_keyiterator",data:=.fields #[.ref d,.int 0 0,.int es.size 0,.int ep 0]}).get? b=some o->(((s.heap.push {cls:=.type "dict_keyiterator",data:=.fields #[.ref d,.int 0 0,.int es.size 0,.int ep 0]}).update S (Obj.mapSeq (·.push Value.none))).update S (Obj.mapSeq (·.pop))).get? b=some o:=
  fun b o hb e=>(Zr _ _ (Zy hb)).trans ((Zr _ _ (Zy hb)).trans e)
 refine Z3 ⟨X_ Wy _,WA (gj (A:=A.in1) (show A.in1.handled=none from hh) s.heap.objs.size d L9 q_).toS hn _ L_ _ es.size 0 _ _ _ rfl (Zt _) ⟨⟨_,HE _ _ (Zy Kc) (ZT _ rfl),rfl,rfl⟩,HE _ _ (Zy JJ) IJ⟩ MK (ItemsOf.nil _) fun s' y_ c' hm G7 k_=>?_⟩
 rw[Moved.eq_with hm];refine hR s'.heap s'.toks y_ c' (fun b ob hb e=>hm.heap b ob (fun FP=>?_) (HE b ob hb (Z6 _ e))) G7 k_
 rcases ZX.mp FP with e'|FP
 .exact hb e'
 .rw[ZE.mp FP]at e;exact absurd (ZO e) (Y5 _)
def gX{R:Result->Z4->Prop}(hh:A.handled=none){v d:Z2}{o:Obj}{es:Array DictEntry}{ep:Nat}(hv:s.heap.get? v=some (sJ d))(ho:s.heap.get? d=some o)(q_:o.data=.dict es ep)(hn:es.size<=sizeLine)
  (hR:∀(h':Heap)(tk:Nat)(acc:Array Z7)(c':Nat),(∀b o,s.heap.get? b=some o->h'.get? b=some o)->h'.get? s.heap.objs.size=some {cls:=.type "list",dict:=none,data:=.seq acc c',slots:=#[]}->ItemsOf (fun i v=>∃e,es[i]?=some e/\v=e.key) acc es.size->R (.ok (.ret (.ref s.heap.objs.size))) {s with heap:=h',toks:=tk}):
  codeAny (model prog w) A (.builtin "proto.collect" ⟨[.ref v],[]⟩) R s:=by
 refine Yz F.entry_proto_collect ?_
 rw[YI F.plain_proto_collect _];change wpAny _ A.in1 (newList [] >>= fun l=>again (.builtin "list.__iadd__" ⟨[l,.ref v],[]⟩)) _ _ s
 refine Z8 (Zd ?_)
 refine Z3 ⟨X_ WU _,Yz F.entry_list_iadd ?_⟩
 rw[YI WU _];have g0:(s.heap.push {cls:=.type "list",data:=.seq ([]:List Z7).toArray}).get? s.heap.objs.size=some {cls:=.type "list",data:=.seq #[]}:=ZT _ rfl
 change wpAny _ A.in1 (Builtin.List.listExtendWith (.ref s.heap.objs.size) (.ref v) (.ref s.heap.objs.size)) _ _ _;exact qr (s:={s with heap:=s.heap.push {cls:=.type "list",data:=.seq ([]:List Z7).toArray}}) hh (Z6 _ hv) (Z6 _ ho) q_ hn _ g0 fun h' tk acc c' hk hS k_=>hR h' tk acc c' (fun b ob e=>hk b ob (Zw (ZO e)) (Z6 _ e)) hS k_
def uN{Q:List Z7->Z4->Prop}(hh:A.handled=none){v d:Z2}{o:Obj}{es:Array DictEntry}{ep:Nat}(hv:s.heap.get? v=some (sJ d))(ho:s.heap.get? d=some o)(q_:o.data=.dict es ep)(hn:es.size<=sizeLine)
  (hQ:∀(h':Heap)(tk:Nat)(acc:Array Z7),(∀b o,s.heap.get? b=some o->h'.get? b=some o)->s.heap.objs.size<=h'.objs.size->ItemsOf (fun i v=>∃e,es[i]?=some e/\v=e.key) acc es.size->Q acc.toList {s with heap:=h',toks:=tk}):wpAny (model prog w) A (collect (.ref v)) Q E s:=by
 unfold collect;refine Z8 (wpAny_runValue (gX hh hv ho q_ hn fun h' tk acc c' kp hS k_=>?_))
 exact Z8 (wpAny_load hS (Z3 (hQ h' tk acc kp (W3 (ZO hS)) k_)))
end
def qF{es:Array DictEntry}{f:D×Z2×Z7->DictEntry}(hf:∀q,(f q).key=.ref q.2.1){xs:List (D×Z2×Z7)}(h4:es.toList=xs.map f){acc:Array Z7}(k_:ItemsOf (fun i v=>∃e,es[i]?=some e/\v=e.key) acc es.size):Vals (xs.map fun q=>V.ref q.2.1) acc.toList:=by
 have hlen:acc.toList.length=xs.length:=by rw[Array.length_toList,k_.1,<-Array.length_toList,h4,ZJ]
 have key:∀(l:List (D×Z2×Z7))(m:List Z7),m.length=l.length->(∀(i:Nat) q v,l[i]?=some q->m[i]?=some v->v=.ref q.2.1)->Vals (l.map fun q=>V.ref q.2.1) m:=by
  intro l
  induction l with
  |nil=>intro m hm _;cases m with
   |nil=>exact .nil
   |cons _ _=>simp at hm
  |cons q l ih=>intro m hm hp;cases m with
   |nil=>simp at hm
   |cons v m=>exact .cons (hp 0 q v rfl rfl) (ih m (by simpa using hm) fun i q' v' a1 a2=>hp (i+1) q' v' (by simpa using a1) (by simpa using a2))
 refine key xs acc.toList hlen fun i q v a1 a2=>?_
 obtain⟨e,he,rfl⟩:=k_.2 i v (by simpa using a2)
 have:es.toList[i]?=some (f q):=by rw[h4,YD,a1];rfl
 rw[Xy,he]at this
 rw[Z9 this];exact hf q
section
variable{X:Cx}{m:Bool}{a:Expr}{fa:DEnv->Z_ D}{pos p apos f_:Pos}
def tSK(K:Z5)(c:KD)(te:TE):TE:=fun σ H Q=>te σ H fun x H1=>∃(B:Z2->Prop)(d:Z2)(b_:List (D×V))(ep:Nat),x=.ref d/\Rd H1 d (.dD b_ ep)/\eI (b_.map (·.1))=true/\(decide ((b_.map (·.1)).length<2)||(b_.map (·.1)).all (dI c))=true/\
  ∀l zs,H1 l=none->Reps K B H1 (aZ (b_.map (·.1))) zs->Q (.ref l) (upd H1 l (.lst zs))
def kT{c:KD}{te:TE}(hc:X.calm=true)(hu:X.A.units+64<cLine)(g:Gl X "sorted")(hm:X.mg "sorted"=none)(h:PE X a te)(n_:attributeBase a "keys" X.env (eval a X.env)=eval a X.env)(m_:(apos.endLine==f_.line)=true)
  (hs:starEach [.Call (.Attribute a "keys" apos) [] [] f_] X.env=[(false,eval (.Call (.Attribute a "keys" apos) [] [] f_) X.env)]):PE X (.Call (.Name "sorted" p) [.Call (.Attribute a "keys" apos) [] [] f_] [] pos) (tSK X.K c te):=by
 intro a_ s σ H Q I h0;refine XB (d6 I g hm dC ?_ (by decide) (by decide))
 refine PyProof.Rows.callWith_builtin1 ?_ hs rfl
 rw[hs];show wpAny _ _ (spliced ((false,eval (.Call (.Attribute a "keys" apos) [] [] f_) X.env)::backTo pos [])) _ _ s;refine Calls.spliced_cons (wpAny_Call_method0_late n_ m_ (thn (h a_ s σ H _ I h0) fun v s1 hz=>?_))
 obtain⟨x,H1,I1,r1,B,d,b_,ep,rfl,rd,q1,q2,k⟩:=hz;obtain rfl:v=Value.ref d:=r1;obtain⟨h1,h2⟩:=iY I1 (v:=.ref d) rfl ⟨d,rfl,.inr ⟨b_,ep,rd⟩⟩;obtain⟨z,y,xs,r,o,es,e1,e2,e3,e4,e5⟩:=(show ObjOk X.prog X.w H1 s1.heap d (.dD b_ ep) from jF I1.hok rd)
 have hsz:es.size=b_.length:=by rw[XC e4,<-YF r]
 refine⟨"dict","dict.keys",F.plainAttrs_dict,F.slot_dict_keys,F.type_dict_keys,h1,h2,WJ rfl (PySem.evalArgs_none (Y_ F.slot_dict_keys h1 F.entry_dict_keys ?_ (F.args_dict_keys_1 _)))⟩
 show wpAny _ _ (Builtin.Dict.noArgs "keys" ⟨[.ref d],[]⟩ >>= fun d=>Builtin.Dict.showsAll d >>= fun _=>newFields "dict_keys" [.ref d] >>= fun v=>ret v) _ _ s1
 refine Z8 ?_
 unfold Builtin.Dict.noArgs;refine Z8 (WE h1 ?_)
 change wpAny _ _ (pure d) _ _ s1;refine Z3 ?_
 change wpAny _ _ (Builtin.Dict.showsAll d >>= _) _ _ s1;unfold Builtin.Dict.showsAll;rw[ZY (by rw[y];exact Zv)]
 refine Z8 (Z3 (Z8 (Zd (Z3 ⟨_,rfl,?_⟩))))
 refine Calls.spliced_nil ?_
 refine W0 kind_sorted plain_sorted entry_sorted (args_sorted1 _) ?_
 unfold Builtin.«sorted»;have g0:(s1.heap.push {cls:=.type "dict_keys",data:=.fields #[.ref d]}).get? s1.heap.objs.size=some (sJ d):=ZT _ rfl
 refine Z8 (m:=checkCount "sorted" 1 1 _) (Z3 (Z8 (uN (A:=X.A.in1) (s:={s1 with heap:=s1.heap.push {cls:=.type "dict_keys",data:=.fields #[.ref d]}}) (I1.ok.hd hc) g0 (Z6 _ e1) e3 (by rw[hsz];exact z) fun h' tk acc kp hz k_=>?_)))
 have Qb:s1.heap.objs.size<=h'.objs.size:=Zh (by rw[YJ];exact Xi _) hz
 exact e7 (s:=s1) (h1:=h') (t1:=tk) hu I1 (fun b o e=>kp b o (Z6 _ e)) Qb (KRs.rep (K:=X.K) (B:=B) r.keys) (qF (fun _=>rfl) e4 k_) (by rw[Array.length_toList,k_.1,hsz];exact z) q1 q2 k
noncomputable def j8(c:KD)(x:Z_ D):Z_ D:=match x with|some (.dD ks vs)=>if(eI ks&&(decide (ks.length<2)||ks.all (dI c)))=true then some (.lst (aZ ks)) else none|_=>none
theorem kU{c:KD}(hc:X.calm=true)(hu:X.A.units+64<cLine)(g:Gl X "sorted")(hm:X.mg "sorted"=none)(ha:DE X m a fa)(n_:attributeBase a "keys" X.env (eval a X.env)=eval a X.env)(m_:(apos.endLine==f_.line)=true)
  (hs:starEach [.Call (.Attribute a "keys" apos) [] [] f_] X.env=[(false,eval (.Call (.Attribute a "keys" apos) [] [] f_) X.env)]):DF X (.Call (.Name "sorted" p) [.Call (.Attribute a "keys" apos) [] [] f_] [] pos) (fun δ=>j8 c (fa δ)):=
 (kT (c:=c) hc hu g hm ha n_ m_ hs).imp fun σ H Q hz=>by
  obtain⟨B,Hk,δ,d,R,e,k⟩:=hz;unfold j8 at e;dsimp only at e;split at e
  .rename_i ks vs qd
   by_cases cc:(eI ks&&(decide (ks.length<2)||ks.all (dI c)))=true
   .rw[Z0 cc]at e;obtain rfl:=Z9 e
    rw[ZH]at cc;refine⟨B,Hk,δ,_,R,qd,fun v H' s r=>?_⟩
    simp only[Rep]at r;obtain⟨l,b_,rfl,⟨ep,hq⟩,rfl,rs⟩:=r;refine⟨B,l,b_,ep,rfl,?_,cc.1,cc.2,fun l' zs hl rz=>?_⟩
    .rcases hq with⟨b,hq⟩|⟨o,hq⟩
     .exact .inl hq
     .exact .inr ⟨o,hq⟩
    .have s2:=au (o:=.lst zs) hl
     exact k l' _ (s.trans s2) (s.free hl) ⟨_,ag,rz.same (m:=false) (R.to s) s2⟩
   .rw[ZY cc]at e;trivial
  .trivial
end
end L2
namespace JP
open PySem L2
inductive Ce where|nm (w:Str)|bk (n:Int)
deriving DecidableEq,Inhabited
inductive Te where|any (l:Str)|nm (w:Str)
deriving DecidableEq
def ceD:Ce->D|.nm w=>.tup [.str "name",.str w]|.bk n=>.tup [.str "blank",.int n]
def teD:Te->D|.any l=>.tup [.str "any",.str l]|.nm w=>.tup [.str "name",.str w]
def iO{a b:Ce}(h:ceD a=ceD b):a=b:=by
 cases a<;>cases b<;>simp[ceD]at h
 .rw[h]
 .rw[h]
abbrev Row:=Str×List Ce
abbrev Pat:=Str×List Te
def aD(r:Row):D:=.tup [.str r.1,.tup (r.2.map ceD)]
def aF(p:Pat):D:=.tup [.str p.1,.tup (p.2.map teD)]
abbrev Fit:=Str->Ce
def ev(φ:Fit):Te->Ce|.any l=>φ l|.nm w=>.nm w
def pF(rows:List Row)(φ:Fit)(p:Pat):Prop:=∃r∈rows,r.1=p.1/\r.2=p.2.map (ev φ)
def ans:List Te->List Str
 |[]=>[]
 |.any l::ts=>l::ans ts
 |.nm _::ts=>ans ts
theorem ip{φ ψ:Fit}:∀{ts:List Te},(∀l∈ans ts,φ l=ψ l)->ts.map (ev φ)=ts.map (ev ψ)
 |[],_=>rfl
 |.any l::ts,h=>by
  rw[Z1,Z1,ip (ts:=ts) fun l' hl=>h l' (ZZ _ hl)]
  simp only[ev];rw[h l (ZV ..)]
 |.nm w::ts,h=>by rw[Z1,Z1,ip (ts:=ts) h];rfl
def oB{rows:List Row}{φ ψ:Fit}{p:Pat}(h:∀l∈ans p.2,φ l=ψ l)(i:pF rows φ p):pF rows ψ p:=by
 obtain⟨r,h1,h2,h3⟩:=i;exact⟨r,h1,h2,by rw[h3,ip h]⟩
abbrev Bi:=List (Str×Ce)
def gt(b:Bi)(l:Str):Z_ Ce:=(b.find? fun q=>decide (q.1=l)).map (·.2)
def cE(b:Bi)(k:Str)(c:Ce)(l:Str):gt ((k,c)::b) l=if k=l then some c else gt b l:=by
 unfold gt;rw[List.find?_cons]
 by_cases h:k=l<;>simp[h]
theorem jv(l:Str):∀(b b':Bi),gt (b++b') l=(gt b l).or (gt b' l)
 |[],b'=>by simp[gt]
 |(k,c)::b,b'=>by
  rw[List.cons_append,cE,cE,jv l b b'];split<;>simp
noncomputable def bnd:List Te->List Ce->Bi->Z_ Bi
 |.any l::ts,c::cs,b=>(match gt b l with|some c'=>if c'=c then bnd ts cs b else none|none=>bnd ts cs (b++[(l,c)]))
 |.nm w::ts,c::cs,b=>if Ce.nm w=c then bnd ts cs b else none
 |_,_,b=>some b
theorem bO:∀{ts:List Te}{cs:List Ce}{b b':Bi},ts.length=cs.length->bnd ts cs b=some b'->(∀l c,gt b l=some c->gt b' l=some c)/\(∀l∈ans ts,∃c,gt b' l=some c)/\∀φ:Fit,(∀l∈ans ts,gt b' l=some (φ l))->cs=ts.map (ev φ)
 |[],[],b,b',_,h=>by simp only[bnd,ZR]at h;subst h;exact⟨fun _ _ h=>h,fun _ h=>by simp[ans]at h,fun _ _=>rfl⟩
 |.any l::ts,c::cs,b,b',hl,h=>by
  simp only[bnd]at h;have Fj:ts.length=cs.length:=by simpa using hl
  split at h
  .rename_i c' e
   split at h
   .rename_i ec
    subst ec;obtain⟨h1,h2,h3⟩:=bO Fj h;refine⟨h1,fun l' Fj=>?_,fun φ Fk=>?_⟩
    .rcases ZX.mp Fj with rfl|hm
     .exact⟨_,h1 _ _ e⟩
     .exact h2 l' hm
    .have:=Fk l (ZV ..)
     rw[h1 _ _ e]at this;rw[Z1,<-h3 φ fun l' hm=>Fk l' (ZZ _ hm)]
     simp only[ev];rw[Z9 this]
   .trivial
  .rename_i e
   obtain⟨h1,h2,h3⟩:=bO Fj h;have hg:gt b' l=some c:=h1 l c (by rw[jv,e];simp[gt])
   refine⟨fun l' c' e'=>h1 l' c' (by rw[jv,e'];rfl),fun l' Fj=>?_,fun φ Fk=>?_⟩
   .rcases ZX.mp Fj with rfl|hm
    .exact⟨_,hg⟩
    .exact h2 l' hm
   .have:=Fk l (ZV ..)
    rw[hg]at this;rw[Z1,<-h3 φ fun l' hm=>Fk l' (ZZ _ hm)]
    simp only[ev];rw[Z9 this]
 |.nm w::ts,c::cs,b,b',hl,h=>by
  simp only[bnd]at h;split at h
  .rename_i ec
   subst ec;obtain⟨h1,h2,h3⟩:=bO (by simpa using hl) h
   exact⟨h1,h2,fun φ Fk=>by rw[Z1,<-h3 φ Fk];rfl⟩
  .trivial
theorem dh{φ:Fit}:∀(ts:List Te)(b:Bi),(∀l c,gt b l=some c->φ l=c)->∃b',bnd ts (ts.map (ev φ)) b=some b'/\∀l c,gt b' l=some c->φ l=c
 |[],b,h=>⟨b,rfl,h⟩
 |.any l::ts,b,h=>by
  simp only[Z1,ev,bnd];cases e:gt b l with
  |some c=>
   simp only;rw[Z0 (h l c e).symm];exact dh ts b h
  |none=>
   refine dh ts _ fun l' c hc=>?_
   rw[jv]at hc;cases e':gt b l' with
   |some c'=>rw[e']at hc;simp at hc;subst hc;exact h _ _ e'
   |none=>
    rw[e']at hc;simp only[Option.none_or]at hc;rw[cE]at hc;split at hc
    .rename_i q;subst q;exact Z9 hc
    .simp[gt]at hc
 |.nm w::ts,b,h=>by
  simp only[Z1,ev,bnd,Y2];exact dh ts b h
def fP(p:Pat)(r:Row):Z_ Bi:=if r.1=p.1/\r.2.length=p.2.length then bnd p.2 r.2 [] else none
def binds(rows:List Row)(p:Pat):List Bi:=rows.filterMap (fP p)
def c7{rows:List Row}{p:Pat}{b:Bi}(h:b∈binds rows p):(∀l∈ans p.2,∃c,gt b l=some c)/\∀φ:Fit,(∀l∈ans p.2,gt b l=some (φ l))->pF rows φ p:=by
 obtain⟨r,hr,e⟩:=Yr.mp h;unfold fP at e;split at e
 .rename_i c
  obtain⟨_,h2,h3⟩:=bO c.2.symm e;exact⟨h2,fun φ Fk=>⟨r,hr,c.1,h3 φ Fk⟩⟩
 .trivial
def om{rows:List Row}{p:Pat}{φ:Fit}(h:pF rows φ p):∃b∈binds rows p,∀l∈ans p.2,gt b l=some (φ l):=by
 obtain⟨r,hr,h1,h2⟩:=h;obtain⟨b,e,hb⟩:=dh (φ:=φ) p.2 [] (fun l c e=>by simp[gt]at e)
 have hm:fP p r=some b:=by unfold fP;rw[Z0 ⟨h1,by rw[h2];simp⟩,h2];exact e
 have G4:b∈binds rows p:=Yr.mpr ⟨r,hr,hm⟩;refine⟨b,G4,fun l hl=>?_⟩
 obtain⟨c,hc⟩:=(c7 G4).1 l hl;rw[hc,hb l c hc]
def vl(b:Bi)(ls:List Str):List Ce:=ls.map fun l=>(gt b l).getD default
abbrev Gr:=List (List Ce×List (List Ce))
def lU:Gr->List Ce->List Ce->Gr
 |[],k,e=>[(k,[e])]
 |p::r,k,e=>if p.1=k then(p.1,if e∈p.2 then p.2 else p.2++[e])::r else p::lU r k e
def ce(g:Gr)(k:List Ce):List (List Ce):=((g.find? fun q=>decide (q.1=k)).map (·.2)).getD []
def aT(g:Gr)(q:List Ce×List (List Ce))(k:List Ce):ce (q::g) k=if q.1=k then q.2 else ce g k:=by
 unfold ce;rw[List.find?_cons]
 by_cases h:q.1=k<;>simp[h]
theorem nJ:∀(g:Gr)(k e k' x:List Ce),x∈ce (lU g k e) k'↔x∈ce g k'\/(k'=k/\x=e)
 |[],k,e,k',x=>by
  unfold lU;rw[aT]
  by_cases h:k=k'
  .simp[h,ce]
  .simp[h,ce];intro z;exact absurd z.symm h
 |p::r,k,e,k',x=>by
  unfold lU
  by_cases h:p.1=k
  .rw[Z0 h,aT,aT]
   dsimp only
   by_cases h':p.1=k'
   .rw[Z0 h',Z0 h']
    have hk:k'=k:=h'.symm.trans h;split
    .rename_i m
     constructor
     .exact .inl
     .rintro(q|⟨_,rfl⟩)
      .exact q
      .exact m
    .simp[hk]
   .rw[ZY h',ZY h']
    constructor
    .exact .inl
    .rintro(q|⟨rfl,_⟩)
     .exact q
     .exact absurd h h'
  .rw[ZY h,aT,aT]
   by_cases h':p.1=k'
   .rw[Z0 h',Z0 h']
    constructor
    .exact .inl
    .rintro(q|⟨rfl,_⟩)
     .exact q
     .exact absurd h' h
   .rw[ZY h',ZY h'];exact nJ r k e k' x
def grp(bs:List Bi)(sh ad:List Str):Gr:=bs.foldl (fun g b=>lU g (vl b sh) (vl b ad)) []
def kZ(bs:List Bi)(sh ad:List Str)(k x:List Ce):x∈ce (grp bs sh ad) k↔∃b∈bs,vl b sh=k/\vl b ad=x:=by
 have key:∀(bs:List Bi)(g:Gr),x∈ce (bs.foldl (fun g b=>lU g (vl b sh) (vl b ad)) g) k↔x∈ce g k\/∃b∈bs,vl b sh=k/\vl b ad=x:=by
  intro bs
  induction bs with
  |nil=>intro g;simp
  |cons b bs ih=>
   intro g;rw[List.foldl_cons,ih,nJ];constructor
   .rintro((q|⟨q1,q2⟩)|⟨b',m,q⟩)
    .exact .inl q
    .exact .inr ⟨b,ZV ..,q1.symm,q2.symm⟩
    .exact .inr ⟨b',ZZ _ m,q⟩
   .rintro(q|⟨b',m,q1,q2⟩)
    .exact .inl (.inl q)
    .rcases ZX.mp m with rfl|m
     .exact .inl (.inr ⟨q1.symm,q2.symm⟩)
     .exact .inr ⟨b',m,q1,q2⟩
 rw[grp,key];simp[ce]
def aL(ls known:List Str):List Nat:=ls.map fun l=>known.idxOf l
def pk(c:List Ce)(ps:List Nat):List Ce:=ps.map fun i=>c.getD i default
def bi{φ:Fit}{ls known:List Str}(h:∀l∈ls,l∈known):pk (known.map φ) (aL ls known)=ls.map φ:=by
 unfold pk aL;rw[List.map_map];refine YE fun l hl=>?_
 have hi:=YR (h l hl);simp[hi]
def ins(x:List Ce)(l:List (List Ce)):List (List Ce):=if x∈l then l else l++[x]
def qp{x y:List Ce}{l:List (List Ce)}:y∈ins x l↔y∈l\/y=x:=by
 unfold ins;split
 .constructor
  .exact .inl
  .rintro(h|rfl)<;>assumption
 .simp
def wJ{x:List Ce}{l:List (List Ce)}(h:l.Nodup):(ins x l).Nodup:=by
 unfold ins;split
 .exact h
 .rename_i n
  rw[X2];exact⟨h,by simp,fun a ha b hb e=>n (by simp at hb;rw[<-hb,<-e];exact ha)⟩
def oR(g:Gr)(sp kp:List Nat)(l:List (List Ce))(c:List Ce):List (List Ce):=(ce g (pk c sp)).foldl (fun l a=>ins (pk c kp++a) l) l
def ext(found:List (List Ce))(sp kp:List Nat)(g:Gr):List (List Ce):=found.foldl (oR g sp kp) []
def xW(g:Gr)(sp kp:List Nat)(c:List Ce)(l:List (List Ce))(h:l.Nodup):(oR g sp kp l c).Nodup/\∀x,x∈oR g sp kp l c↔x∈l\/∃a∈ce g (pk c sp),x=pk c kp++a:=by
 unfold oR;generalize ce g (pk c sp)=as
 induction as generalizing l with
 |nil=>exact⟨h,fun x=>by simp⟩
 |cons a as ih=>
  rw[List.foldl_cons];obtain⟨h1,h2⟩:=ih _ (wJ h);refine⟨h1,fun x=>?_⟩
  rw[h2,qp];simp only[ZX,exists_eq_or_imp];constructor
  .rintro((q|q)|q)
   .exact .inl q
   .exact .inr (.inl q)
   .exact .inr (.inr q)
  .rintro(q|q|q)
   .exact .inl (.inl q)
   .exact .inl (.inr q)
   .exact .inr q
def Bh(found:List (List Ce))(sp kp:List Nat)(g:Gr):(ext found sp kp g).Nodup/\∀x,x∈ext found sp kp g↔∃c∈found,∃a∈ce g (pk c sp),x=pk c kp++a:=by
 have key:∀(found l:List (List Ce)),l.Nodup->(found.foldl (oR g sp kp) l).Nodup/\∀x,x∈found.foldl (oR g sp kp) l↔x∈l\/∃c∈found,∃a∈ce g (pk c sp),x=pk c kp++a:=by
  intro found
  induction found with
  |nil=>intro l h;exact⟨h,fun x=>by simp⟩
  |cons c found ih=>
   intro l h;obtain⟨e1,e2⟩:=xW g sp kp c l h;obtain⟨h1,h2⟩:=ih _ e1;rw[List.foldl_cons];refine⟨h1,fun x=>?_⟩
   rw[h2,e2];simp only[ZX,exists_eq_or_imp];constructor
   .rintro((q|q)|q)
    .exact .inl q
    .exact .inr (.inl q)
    .exact .inr (.inr q)
   .rintro(q|q|q)
    .exact .inl (.inl q)
    .exact .inl (.inr q)
    .exact .inr q
 obtain⟨h1,h2⟩:=key found [] Y3;exact⟨h1,fun x=>by rw[ext,h2];simp⟩
structure Jn (rows:List Row)(wanted:List Str)(done ao:List Pat)(known:List Str)(found:List (List Ce)):Prop where
 nk:known.Nodup
 nf:found.Nodup
 mem:∀x,x∈found↔∃φ:Fit,x=known.map φ/\∀p∈done,pF rows φ p
 has:∀l,(∃p∈done,l∈ans p.2)->(l∈wanted\/∃p∈ao,l∈ans p.2)->l∈known
 few:∀l∈known,l∈wanted\/∃p∈ao,l∈ans p.2
 old:∀l∈known,∃p∈done,l∈ans p.2
def ug(rows:List Row)(wanted:List Str)(ao:List Pat):Jn rows wanted [] ao [] [[]]:=
 ⟨Y3,by simp,fun x=>⟨fun h=>⟨fun _=>default,by simpa using h,fun p hp=>(by trivial)⟩,fun hz=>by obtain⟨φ,e,_⟩:=hz;simpa using e⟩,fun l hz=>by obtain⟨p,hp,_⟩:=hz;exact(by trivial),fun l h=>(by trivial),fun l h=>(by trivial)⟩
def wX{rows:List Row}{wanted:List Str}{done ao:List Pat}{p:Pat}{known own later:List Str}{found:List (List Ce)}(J:Jn rows wanted done (p::ao) known found)
  (Gd:∀l,l∈own↔l∈ans p.2)(GX:own.Nodup)(GK:∀l,l∈later↔l∈wanted\/∃q∈ao,l∈ans q.2):
  Jn rows wanted (done++[p]) ao (known.filter (fun l=>decide (l∈later))++own.filter fun l=>decide (l∈later)&&!decide (l∈known))
   (ext found (aL (own.filter fun l=>decide (l∈known)) known) (aL (known.filter fun l=>decide (l∈later)) known)
    (grp (binds rows p) (own.filter fun l=>decide (l∈known)) (own.filter fun l=>decide (l∈later)&&!decide (l∈known)))):=by
 obtain⟨e1,e2⟩:=Bh found (aL (own.filter fun l=>decide (l∈known)) known) (aL (known.filter fun l=>decide (l∈later)) known) (grp (binds rows p) (own.filter fun l=>decide (l∈known)) (own.filter fun l=>decide (l∈later)&&!decide (l∈known)))
 have Ha:∀l∈own.filter (fun l=>decide (l∈known)),l∈known:=fun l hl=>by simp at hl;exact hl.2
 have GJ:∀l∈known.filter (fun l=>decide (l∈later)),l∈known:=fun l hl=>by simp at hl;exact hl.1
 refine⟨?_,e1,fun x=>?_,fun l hd hw=>?_,fun l hl=>?_,fun l hl=>?_⟩
 .rw[X2]
  refine⟨J.nk.filter _,GX.filter _,fun a ha b hb e=>?_⟩
  subst e;simp at ha hb;exact hb.2.2 ha.1
 .rw[e2]
  constructor
  .rintro⟨c,hc,a,ha,rfl⟩
   obtain⟨φ,rfl,Fk⟩:=(J.mem c).mp hc;rw[bi Ha,kZ]at ha;obtain⟨b,hb,h1,h2⟩:=ha;obtain⟨RI,RG⟩:=c7 hb;have hv:∀l∈own,∃c,gt b l=some c:=fun l hl=>RI l ((Gd l).mp hl)
   refine⟨fun l=>if l∈own then(gt b l).getD default else φ l,?_,fun q hq=>?_⟩
   .rw[bi GJ,YY]
    congr 1
    .refine YE fun l hl=>?_
     split
     .rename_i ho
      have hs:l∈own.filter (fun l=>decide (l∈known)):=by simp;exact⟨ho,GJ l hl⟩
      have:=congrArg (fun z=>z) h1
      unfold vl at h1;exact((List.map_inj_left.mp h1) l hs).symm
     .rfl
    .rw[<-h2]
     unfold vl;refine YE fun l hl=>?_
     simp at hl;rw[Z0 hl.1]
   .rcases Zl.mp hq with hq|hq
    .refine oB (fun l hl=>?_) (Fk q hq)
     split
     .rename_i ho
      have hk:l∈known:=J.has l ⟨q,hq,hl⟩ (.inr ⟨p,ZV ..,(Gd l).mp ho⟩);have hs:l∈own.filter (fun l=>decide (l∈known)):=by simp;exact⟨ho,hk⟩
      unfold vl at h1;exact((List.map_inj_left.mp h1) l hs).symm
     .rfl
    .rw[ZE.mp hq]
     refine RG _ fun l hl=>?_
     have ho:=(Gd l).mpr hl;obtain⟨c,hc⟩:=hv l ho;rw[Z0 ho,hc];rfl
  .rintro⟨φ,rfl,Fk⟩
   obtain⟨b,hb,Kq⟩:=om (Fk p (ZI _ (ZE.mpr rfl)));refine⟨known.map φ,(J.mem _).mpr ⟨φ,rfl,fun q hq=>Fk q (Y1 _ hq)⟩,(own.filter fun l=>decide (l∈later)&&!decide (l∈known)).map φ,?_,?_⟩
   .rw[bi Ha,kZ]
    refine⟨b,hb,?_,?_⟩
    .unfold vl;refine YE fun l hl=>?_
     rw[Kq l ((Gd l).mp (YM.mp hl).1)];rfl
    .unfold vl;refine YE fun l hl=>?_
     rw[Kq l ((Gd l).mp (YM.mp hl).1)];rfl
   .rw[bi GJ,YY]
 .have Oq:l∈later:=(GK l).mpr hw
  obtain⟨q,hq,hl⟩:=hd
  by_cases hk:l∈known
  .exact Y1 _ (YM.mpr ⟨hk,by simpa using Oq⟩)
  .rcases Zl.mp hq with hq|hq
   .exfalso
    refine hk (J.has l ⟨q,hq,hl⟩ ?_)
    rcases hw with hw|⟨q',FT,Fj⟩
    .exact .inl hw
    .exact .inr ⟨q',ZZ _ FT,Fj⟩
   .rw[ZE.mp hq]at hl
    exact ZI _ (YM.mpr ⟨(Gd l).mpr hl,by simp[Oq,hk]⟩)
 .rcases Zl.mp hl with hl|hl
  .exact(GK l).mp (by simpa using(YM.mp hl).2)
  .have:=(YM.mp hl).2
   simp at this;exact(GK l).mp this.1
 .rcases Zl.mp hl with hl|hl
  .obtain⟨q,hq,h⟩:=J.old l (YM.mp hl).1
   exact⟨q,Y1 _ hq,h⟩
  .exact⟨p,ZI _ (ZE.mpr rfl),(Gd l).mp (YM.mp hl).1⟩
def zp{rows:List Row}{wanted:List Str}{done:List Pat}{known:List Str}{found:List (List Ce)}(J:Jn rows wanted done [] known found)(hw:∀l∈wanted,∃p∈done,l∈ans p.2):
  (found.map fun c=>pk c (aL wanted known)).Nodup/\∀x,x∈found.map (fun c=>pk c (aL wanted known))↔∃φ:Fit,x=wanted.map φ/\∀p∈done,pF rows φ p:=by
 have wk:∀l∈wanted,l∈known:=fun l hl=>J.has l (hw l hl) (.inl hl)
 have kw:∀l∈known,l∈wanted:=fun l hl=>(J.few l hl).elim id fun hz=>by obtain⟨p,hp,_⟩:=hz;trivial
 constructor
 .rw[List.nodup_iff_pairwise_ne,List.pairwise_map]
  refine J.nf.imp_of_mem fun{c d} hc hd Fc e=>Fc ?_
  obtain⟨φ,rfl,_⟩:=(J.mem c).mp hc;obtain⟨ψ,rfl,_⟩:=(J.mem d).mp hd;rw[bi wk,bi wk]at e;exact YE fun l hl=>(List.map_inj_left.mp e) l (kw l hl)
 .intro x
  rw[ZL];constructor
  .rintro⟨c,hc,rfl⟩
   obtain⟨φ,rfl,Fk⟩:=(J.mem c).mp hc;exact⟨φ,bi wk,Fk⟩
  .rintro⟨φ,rfl,Fk⟩
   exact⟨known.map φ,(J.mem _).mpr ⟨φ,rfl,Fk⟩,bi wk⟩
end JP
namespace L2
open PySem PySem.Spec PyProof.Rows PySem.W
section
theorem gx{a:Z2}{o:Obj}:∀{l:Frag},l.lookup a=some o->(a,o)∈l
 |[],h=>nomatch h
 |(b,p)::l,h=>by
  rw[List.lookup_cons]at h;cases e:a==b with
  |true=>rw[e]at h;cases h;rw[Zx.mp e];exact .head _
  |false=>rw[e]at h;exact .tail _ (gx h)
def t4(h:Heap):(yJ h).In h:=fun a o e=>by
 obtain⟨b,_,hb⟩:=Yr.mp (gx e);obtain⟨p,h1,h2⟩:=Option.bind_eq_some_iff.mp hb;split at h2
 .cases h2;exact h1
 .cases h2
structure Seen (defs:List (Str×Stmt))(bl:List Str)(cs:List (Str×Z2))(K:Frag):Prop where
 fn:defs.map (fun p=>Bx K p.1)=defs.map fun p=>some (u6 p.1 p.2)
 bl:bl.map (nsIn K mainGlobals)=bl.map fun _=>some none
 cd:cs.map (fun p=>m6 K p.1)=cs.map fun p=>some (.ref p.2)
theorem nu{α β:Type}{f g:α->β}:∀{l:List α}{i:Nat}{x:α},l.map f=l.map g->l[i]?=some x->f x=g x
 |[],_,_,_,h=>by simp at h
 |y::l,0,x,e,h=>by cases h;exact(List.cons.inj e).1
 |y::l,i+1,x,e,h=>nu (List.cons.inj e).2 h
def map_mem{α β:Type}{f g:α->β}{l:List α}{x:α}(e:l.map f=l.map g)(h:x∈l):f x=g x:=by
 obtain⟨i,hi⟩:=Yl h
 exact nu e hi
section
variable{defs:List (Str×Stmt)}{bl:List Str}{cs:List (Str×Z2)}{K:Frag}{h:Heap}{mg:Str->Z_ Z7}
def Seen.df0(S:Seen defs bl cs K)(X:K.In h)(G:h.Ns mainGlobals mg)(i:Nat){x:Str}{st:Stmt}(e:defs[i]?=some (x,st)):∃f fd,Fun K x x st f fd/\mg x=some (.ref f)/\m6 K x=some fd.code:=by
 have q:Bx K x=some (u6 x st):=nu S.fn e;unfold Bx at q;unfold m6;split at q
 .rename_i f hf
  split at q
  .rename_i oc od fd sl hl
   split at q
   .rename_i hc
    refine⟨f,fd,⟨⟨oc,od,fd.kwdefaults,fd.doc,fd.pyModule,fd.annotations,fd.code,fd.closureTuple,sl,?_,hl,hc⟩,?_⟩,mg_of X G hf,rfl⟩
    .have q':=Z9 q
     obtain⟨a1,a2,a3,a4,a5,a6,a7,a8,a9,SR,SQ,SO,SN,SK,SJ⟩:=fd;simp only[zT,u6,XM]at q';obtain⟨rfl,rfl,rfl,rfl,rfl,rfl,rfl,rfl,rfl⟩:=q';rfl
    .unfold keepIn;dsimp only;rw[hl]
   .cases q
  .cases q
 .cases q
def Seen.df(S:Seen defs bl cs K)(X:K.In h)(G:h.Ns mainGlobals mg)(i:Nat){x:Str}{st:Stmt}(e:defs[i]?=some (x,st)):∃f fd,Fun K x x st f fd/\mg x=some (.ref f):=by
 obtain⟨f,fd,F,hm,_⟩:=S.df0 X G i e;exact⟨f,fd,F,hm⟩
def Seen.dfC(S:Seen defs bl cs K)(X:K.In h)(G:h.Ns mainGlobals mg)(i j:Nat){x:Str}{st:Stmt}{c:Z2}(e:defs[i]?=some (x,st))(e':cs[j]?=some (x,c)):∃f fd,Fun K x x st f fd/\mg x=some (.ref f)/\fd.code=.ref c:=by
 obtain⟨f,fd,F,hm,hc⟩:=S.df0 X G i e;exact⟨f,fd,F,hm,Z9 (hc.symm.trans (nu S.cd e'))⟩
def Seen.txt(S:Seen defs bl cs K)(X:K.In h)(G:h.Ns mainGlobals mg):∀x∈bl,mg x=none:=fun x hx=>mg_none_of X G (map_mem S.bl hx)
end
variable[Lams]
def Do(cs:List (Str×Z2))(K:Frag):Prop:=(Lams.tb.zip cs).map (fun q=>codeHdIn K q.2.2 q.1.1)=(Lams.tb.zip cs).map (fun _=>true)/\Lams.tb.map (fun q=>K.lookup q.1)=Lams.tb.map (fun _=>none)
def YH(defs:List (Str×Stmt))(bl:List Str)(cs:List (Str×Z2))(_:Zo)(h:Heap):Prop:=∃K:Frag,K.In h/\Seen defs bl cs K/\Lams.tb.map (fun q=>h.get? q.1)=Lams.tb.map (fun _=>some CP)/\Do cs K
def yh_of{defs:List (Str×Stmt)}{bl:List Str}{cs:List (Str×Z2)}(w:Zo)(s:Z4)(e:YfH defs bl cs s=YaH defs bl cs w):YH defs bl cs w s.heap:=by
 unfold YfH YaH at e;simp only[XM]at e;exact⟨yJ s.heap,t4 _,⟨e.1,e.2.1,e.2.2.1⟩,e.2.2.2.1,e.2.2.2.2.1,e.2.2.2.2.2⟩
def yh_keeps{defs:List (Str×Stmt)}{bl:List Str}{cs:List (Str×Z2)}(w:Zo)(h h':Heap)(y:YH defs bl cs w h)(k:∀b o,h.get? b=some o->h'.get? b=some o):YH defs bl cs w h':=by
 obtain⟨K,hK,hS,ht,hc⟩:=y;refine⟨K,hK.keeps k,hS,?_,hc⟩
 exact YE fun q hq=>k _ _ (map_mem ht hq)
theorem qV{α β:Type}:∀{l:List α}{m:List β}{x:α},l.length=m.length->x∈l->∃y,(x,y)∈l.zip m
 |a::l,b::m,x,e,h=>by
  rcases ZX.mp h with rfl|h
  .exact⟨b,.head _⟩
  .obtain⟨y,hy⟩:=qV (Nat.succ.inj e) h
   exact⟨y,.tail _ hy⟩
def walk_H{l:OpenLaw}{n k:Nat}{q:ZC}{loose:List Str}{XP:(Str->Z_ Z7)->Heap->Prop}{d:DefRec}{defs:List (Str×Stmt)}{bl:List Str}{cs:List (Str×Z2)}{CX:CXT}{sp:Frag->Sp}{x:Str}
  (hn:l.most=some n) (Qu:n<=sizeLine) (JR:d.params.defaults=[]) (hr:Room k callerA) (MD:Lams.tb.length=cs.length)
  (F:∀(w:Zo)(mg:Str->Z_ Z7)(fa:Z2)(h:Heap)(K:Frag),Seen defs bl cs K->Do cs K->K.In h->h.Ns mainGlobals mg->mg d.name=some (.ref fa)->
   ∃fd:FuncData,(∀(s:Z4)(u:Z7),BindsTo s fd ⟨[u],[]⟩ [(x,u)])/\
    ∀base:Heap,K.In base->base.Ns mainGlobals mg->FnOk l.prog w K mg base CX k fa fd [x] (sp K))
  (HH:∀(K:Frag)(H:Hp)(a:Z2)(ns:List Int),ns.length<=n->B6 H->SqL K H a (ns.map V.int)->sp K [.ref a] H (fun v _=>v=.bl true) fun _ _ _=>False)
  (MM:∀(H:Hp)(s:Z4)(e:Z7)(s':Z4),CX [] H s (fun _ _ _=>False) e s'->False)(IT:∀q∈Lams.tb,∀r∈Lams.tb,q.1=r.1->q=r):
  WalkO q loose XP (YH defs bl cs) l.row.toRowW d [] (fun f vs=>PySem.call f vs):=by
 refine Att.attach_call hn JR fun w p_ h_ mg mb fa o pm cd doc a vs ns G Y ho hd Fo hmg Ji hints hlen hg=>?_
 obtain⟨K,KX,S,ht,hL⟩:=Y;obtain⟨fd,hb,hF⟩:=F w mg fa _ K S hL KX G.T.g hmg;exact vv KX G.T.g G.T.b G.T.builtins G.T.nolimit hg Ji hints (Zh hlen Qu) hr hF hb (fun H hO hS=>HH K H a ns hlen hO hS) (fun H e s'=>MM H h_ e s') G.T.bmain (fun q hq=>⟨map_mem ht hq,map_mem hL.2 hq,by
  obtain⟨c,hz⟩:=qV MD hq;obtain⟨o,vs,_,_,_,_,_,_,_,e1,e2,e3,e4,_⟩:=codeHd_of_K KX (map_mem hL.1 hz);exact⟨c.2,o,vs,e1,e2,e3,e4⟩⟩) IT
end
end L2
namespace L2
open PySem
def Txb(bl:List Str)(mg:Str->Z_ Z7):Prop:=∀x∈bl,mg x=none
def Txb.get{bl:List Str}{mg:Str->Z_ Z7}{x:Str}(T:Txb bl mg)(h:decide (x∈bl)=true):mg x=none:=T x (Zc h)
def us0{P:List Z7->Prop}(h:P []):∀us:List Z7,us.length=0->P us
 |[],_=>h
def usS{n:Nat}{P:List Z7->Prop}(h:∀a us,us.length=n->P (a::us)):∀us:List Z7,us.length=n+1->P us
 |a::us,e=>h a us (Nat.succ.inj e)
def Df(K:Z5)(mg:Str->Z_ Z7)(x:Str)(st:Stmt):Prop:=∃f fd,Fun K x x st f fd/\mg x=some (.ref f)
def DfC(K:Z5)(mg:Str->Z_ Z7)(x:Str)(st:Stmt)(c:Z2):Prop:=∃f fd,Fun K x x st f fd/\mg x=some (.ref f)/\fd.code=.ref c
section
variable[Lams]{P:ZC}{w:Zo}{K:Z5}{mg:Str->Z_ Z7}{base:Heap}{x:Str}{st:Stmt}{f:Z2}
def mkF{fd:FuncData}{k:Nat}(n:Nat)(N:List Str)(g:DEnv->Z_ Out)(F:Fun K x x st f fd)(hm:mg x=some (.ref f))(S:FnScope N (N.take n) (defScope st))
  (hb:∀(kV doc pm:Z7)(an:Z_ Z2)(E5 ct:Z7)(us:List Z7),us.length=(N.take n).length->bindArgs (PySem.W.fnOf x x (defArgs st) (defBody st) (defScope st) .none kV doc pm an E5 ct) ⟨us,[]⟩=pure ((N.take n).zip us))
  (body:∀X:Cx,X.prog=P->X.w=w->X.K=K->X.mg=mg->X.base=base->Has X N (defScope st)->(∀x,X.fn x=true)->PassesOwn (model X.prog X.w) X.A X.env X.xe->Room k X.A->DSs X (defBody st) g):
  FnOk P w K mg base CX0 (k+1) f fd (N.take n) (spM K (bG N.length (N.take n).length g))/\FnM P w K mg base (k+1) x (bG N.length (N.take n).length g):=
 zr (P:=P) (w:=w) (base:=base) (g:=g) F S (F.binds hb) hm (by rw[Xx];exact Nat.min_le_right ..) fun E5 A outer s H E hr=>body _ rfl rfl rfl rfl rfl (Bw S.nd) (fun _=>rfl) PassesOwn.never hr
def mk{k:Nat}(n:Nat)(N:List Str)(g:DEnv->Z_ Out)(D:Df K mg x st)(S:FnScope N (N.take n) (defScope st))
  (hb:∀(kV doc pm:Z7)(an:Z_ Z2)(E5 ct:Z7)(us:List Z7),us.length=(N.take n).length->bindArgs (PySem.W.fnOf x x (defArgs st) (defBody st) (defScope st) .none kV doc pm an E5 ct) ⟨us,[]⟩=pure ((N.take n).zip us))
  (body:∀X:Cx,X.prog=P->X.w=w->X.K=K->X.mg=mg->X.base=base->Has X N (defScope st)->(∀x,X.fn x=true)->PassesOwn (model X.prog X.w) X.A X.env X.xe->Room k X.A->DSs X (defBody st) g):FnM P w K mg base (k+1) x (bG N.length (N.take n).length g):=by
 obtain⟨f,fd,F,hm⟩:=D;exact(mkF n N g F hm S hb body).2
end
end L2
namespace K13
open PySem L2
variable[Lams]
local macro_rules| `(tactic|walk_at "z")=> `(tactic|first
 |fail_if_success refine(?_:(_:Prop))
 |rfl
 |assumption
 |(((with_reducible first|refine' @nv .. |refine' @jo .. |refine' @wB .. |refine' @uo .. |refine' @l8 .. |refine' @ya .. |refine' @AC .. |refine' @AK .. |refine' @Be .. |refine' @uP .. |refine' @xG .. |refine' @tT .. |refine' @Ba .. |refine' @AJ .. |refine' @xH .. |refine' @AD .. |refine' @A8 .. |refine' @AH .. |refine' @wZ .. |refine' @sx .. |refine' @z0 .. |refine' @tN .. |refine' @BI .. |refine' @wv .. |refine' @BK .. |refine' @AT .. |refine' @CG .. |refine' @m4 .. |refine' @xM .. |refine' @yZ .. |refine' @vg .. |refine' @iX .. |refine' @iz .. |refine' @m3 .. |refine' @mv .. |refine' @o9 .. |refine' @yV .. |refine' @qf .. |refine' @wn .. |refine' @wc .. |refine' @vD .. |refine' @kU .. |refine' @sA .. |refine' @vt .. |refine' @ym .. |refine' @Bd .. |refine' @CJ .. |refine' @uh .. |refine' @BG .. |refine' @B3 .. |refine' @wL .. |refine' @rU .. |refine' @pi .. |refine' @mx .. |refine' @xP .. |refine' @uT .. |refine' @iN .. |refine' @ot .. |refine' @gQ .. |refine' @yj .. |refine' @Ay .. |refine' @BB .. |refine' @sw .. |refine' @pv .. |refine' @zR .. |refine' @me .. |refine' @ff .. |refine' @bY .. |refine' @jn .. |refine' @yP .. |refine' @kP .. |refine' @zC .. |refine' @ze .. |refine' @yY .. |refine' @Al .. |refine' @AS .. |refine' @io .. |refine' @uL .. |refine' @yG .. |refine' @xX .. |refine' @yO .. |refine' @lS .. |refine' @pC .. |refine' @sv .. |refine' @yr .. |refine' @xI .. |refine' @zq .. |refine' @BU .. |refine' @Bj .. |refine' @yd .. |refine' @yn .. |refine' @yF .. |refine' @qU .. |refine' @dg .. |refine' @lY .. |refine' @DF.share .. |refine' @wg .. |refine' @Au .. |refine' PW.pt ..)<;>walk_at "z");all_goals exact false)
 |(have h:=(by assumption:Has _ _ _);first|exact Has.nm h (by decide +kernel)|exact Has.nm (Has.comp h ..) (by decide +kernel)|exact Has.nm (Has.comp (Has.comp h ..) ..) (by decide +kernel))
 |(have h:=(by assumption:Has _ _ _);first|exact Has.lc h (by assumption) (by decide +kernel)|exact Has.lcl (Has.comp h ..) (by decide +kernel)|exact Has.lcl (Has.comp (Has.comp h ..) ..) (by decide +kernel))
 |(refine Gb.gl ?_;walk_at "z")
 |(have h:=(by assumption:Has _ _ _);first|exact Has.gb h (by decide +kernel)|exact Has.gb (Has.comp h ..) (by decide +kernel)|exact Has.gb (Has.comp (Has.comp h ..) ..) (by decide +kernel))
 |(have h:=(by assumption:Txb _ _);exact Txb.get h (by decide +kernel))
 |(have h:=(by assumption:Room _ _);exact Room.mono h (by decide))
 |(have h:=(by assumption:Has _ _ _);first|exact Has.calm h|exact Has.calm (Has.comp h ..)|exact Has.calm (Has.comp (Has.comp h ..) ..))
 |(have h:=(by assumption:Has _ _ _);first|exact Has.nd h|exact Has.nd (Has.comp h ..)|exact Has.nd (Has.comp (Has.comp h ..) ..))
 |(have h:=(by assumption:Has _ _ _);first|exact CompScope.of' h (by decide +kernel)|exact CompScope.of' (Has.comp h ..) (by decide +kernel))
 |exact fq _
 |exact pT _ _ (by decide)
 |exact BD
 |exact CF
 |exact BY
 |exact Ck
 |exact Ag
 |exact xu
 |exact zF
 |exact rC
 |exact mP
 |exact bw (bw eL)
 |exact bw eL
 |exact bw (bw (bw eL))
 |(have h:=(by assumption:Has _ _ _);exact cG h (by decide +kernel))
 |decide +kernel
 |decide
 |(simp;done)
 |(intros;rfl)
 |(intro _;walk_at "z"))
local macro_rules| `(tactic|walk_at "sc")=> `(tactic|first
 |exact⟨rfl,rfl,rfl,by decide +kernel,rfl,by decide +kernel,by decide +kernel⟩)
local macro_rules| `(tactic|walk_at "bi")=> `(tactic|first
 |exact fun _ _ _ _ _ _=>usS fun _=>us0 rfl
 |exact fun _ _ _ _ _ _=>usS fun _=>usS fun _=>us0 rfl
 |exact fun _ _ _ _ _ _=>usS fun _=>usS fun _=>usS fun _=>us0 rfl
 |exact fun _ _ _ _ _ _=>usS fun _=>usS fun _=>usS fun _=>usS fun _=>us0 rfl
 |exact fun _ _ _ _ _ _=>usS fun _=>usS fun _=>usS fun _=>usS fun _=>usS fun _=>us0 rfl)
local macro_rules| `(tactic|walk_at "mk")=> `(tactic|first
 |(intro X e1 e2 e3 e4 e5 h f p r;subst e1 e2 e3 e4 e5;have u:=r.units;(conv in defBody _=>whnf);walk_at "z"))
abbrev Txt:(Str->Z_ Z7)->Prop:=Txb blK
abbrev DN:List Str:=["patterns","letters","table","terms","term"]
abbrev mf(δ:DEnv):Z_ D:=ixO (rd false 4 δ) (some (.int 1))
noncomputable abbrev rY(δ:DEnv):Z_ Out:=si 1 (ar (ae (tZ (rd false 3 δ)) (bW false [false,false,false,false,false] (aa 4) (fun δ=>eqO (ixO (rd false 4 δ) (some (.int 0))) (some (.str "any"))) mf δ))) δ
abbrev vP(δ:DEnv):Z_ Out:=eF (cz (rd false 1 δ))
noncomputable abbrev BS(δ:DEnv):Z_ Out:=aG (cQ 1 (bU (some [])) δ) (fun δ=>aG (ae (cf (rd false 0 δ)) fun ds=>am (fun d δ=>ae ((aK (ah (aa 2) (ah (aa 3) (toNil)))) d δ) rY) ds δ) (fun δ=>vP (frzE 1 δ)))
def Fl:List D->Z_ (D×Bool):=bG 5 1 BS
abbrev E1:List Str:=["terms","cells","binding","term","cell"]
abbrev wH(δ:DEnv):Z_ (Bool×DEnv):=neX (sdO 2 (ixO (rd false 3 δ) (some (.int 1))) (rd false 4 δ) δ) (fun δ=>rd false 4 δ)
noncomputable abbrev kj(δ:DEnv):Z_ Out:=ifO (eqO (ixO (rd false 3 δ) (some (.int 0))) (some (.str "any"))) (ifX (wH δ) (fun δ=>fZ (some .non)) (fun δ=>nextO δ)) (ifO (neO (rd false 3 δ) (rd false 4 δ)) (fZ (some .non)) (nextO δ))
noncomputable abbrev BZ(δ:DEnv):Z_ Out:=aG (cQ 2 (some (.dK [] [])) δ) (fun δ=>aG (ae (zH true true (rd false 0 δ) (rd false 1 δ)) fun ds=>am (fun d δ=>ae ((aK (ah (aa 3) (ah (aa 4) (toNil)))) d δ) kj) ds δ) (fun δ=>eF (bE 2 δ)))
def Hr:List D->Z_ (D×Bool):=bG 5 2 BZ
abbrev EV:List Str:=["rows","pattern","found","table","cells","binding"]
noncomputable abbrev gB(δ:DEnv):Z_ Out:=ifO (wM (eqO (rd false 3 δ) (ixO (rd false 1 δ) (some (.int 0)))) (eqO (iM (rd false 4 δ)) (iM (ixO (rd false 1 δ) (some (.int 1)))))) (aG (b0 5 (shO (ae (af (ixO (rd false 1 δ) (some (.int 1))) (af (rd false 4 δ) (some []))) Hr)) δ) (fun δ=>ifO (iy (vi (rd false 5 δ))) (iV 2 (rd false 5 δ) δ) (nextO δ))) (nextO δ)
noncomputable abbrev Cc(δ:DEnv):Z_ Out:=aG (cQ 2 (bU (some [])) δ) (fun δ=>aG (ae (cf (rd false 0 δ)) fun ds=>am (fun d δ=>ae ((aK (ah (aa 3) (ah (aa 4) (toNil)))) d δ) gB) ds δ) (fun δ=>eF (bE 2 δ)))
def GQ:List D->Z_ (D×Bool):=bG 6 2 Cc
abbrev EK:List Str:=["pattern","known","letter"]
abbrev rA(δ:DEnv):Z_ D:=ofB (inO (rd false 2 δ) (rd false 1 δ))
noncomputable abbrev Cq(δ:DEnv):Z_ Out:=fZ (Bq (ar (ae (cf (frO (ae (af (bU (af (rd false 0 δ) (some []))) (some [])) Fl))) (bW false [false,true,false] (aa 2) (fun δ=>some true) rA δ))))
def Gg:List D->Z_ (D×Bool):=bG 3 2 Cq
abbrev CC:List Str:=["rows","body","known","rest","placed","bound","linked","taken","pattern","pair"]
abbrev i7(δ:DEnv):Z_ D:=gO (af (rd false 8 δ) (af (frO (ae (af (rd false 0 δ) (af (rd false 8 δ) (some []))) GQ)) (some [])))
abbrev gC(δ:DEnv):Z_ D:=iM (ixO (rd false 0 δ) (some (.int 1)))
abbrev mW(δ:DEnv):Z_ D:=ixO (rd false 9 δ) (some (.int 0))
abbrev nE(δ:DEnv):Z_ Bool:=tyB (shO (ae (af (ixO (rd false 9 δ) (some (.int 0))) (af (rd false 5 δ) (some []))) Gg))
abbrev pI(δ:DEnv):Z_ Out:=iV 4 (rd false 7 δ) δ
abbrev jw(δ:DEnv):Z_ Bool:=oY (rd true 3 δ)
noncomputable abbrev jQ(δ:DEnv):Z_ Out:=aG (b0 5 (tQ (f8 (rd false 2 δ)) (flO (ae (af (ar (cW (ae (cf (rd true 4 δ)) (bW true [false,false,false,false,false,false,false,false,false,false] (aa 9) (fun δ=>some true) mW δ)))) (some [])) Fl))) δ) (fun δ=>pG 3 6 7 9 [false,false,false,false,false,true,false,false,false,false] nE δ pI)
noncomputable abbrev Ik(δ:DEnv):Z_ Out:=aG (cQ 3 (gy (ar (ae (cf (rd false 1 δ)) (bW false [true,false,false,false,false,false,false,false,false,false] (aa 8) (fun δ=>some true) i7 δ))) (fun d=>gC [some (d,false)])) δ) (fun δ=>aG (cQ 4 (bU (some [])) δ) (fun δ=>aG (cV jw jQ 1000 δ) (fun δ=>eF (bE 4 δ))))
def Hs:List D->Z_ (D×Bool):=bG 10 3 Ik
abbrev Er:List Str:=["letters","known","letter"]
abbrev pN(δ:DEnv):Z_ D:=zi (rd false 1 δ) (rd false 2 δ)
abbrev BQ(δ:DEnv):Z_ Out:=eF (ar (ae (cf (rd false 0 δ)) (bW false [false,true,false] (aa 2) (fun δ=>some true) pN δ)))
def Gf:List D->Z_ (D×Bool):=bG 3 2 BQ
abbrev Eo:List Str:=["found","shared","added","groups","binding","key","group","letter"]
abbrev Fy(δ:DEnv):Z_ D:=zl (rd false 4 δ) (rd false 7 δ)
abbrev wF(δ:DEnv):Z_ D:=zl (rd false 4 δ) (rd false 7 δ)
abbrev wK(δ:DEnv):Z_ (List D):=cf (rd false 0 δ)
noncomputable abbrev mQ(δ:DEnv):Z_ D:=cS (ar (ae (cf (rd false 1 δ)) (bW false [false,false,false,false,true,false,false,false] (aa 7) (fun δ=>some true) Fy δ)))
noncomputable abbrev mM(δ:DEnv):Z_ D:=cS (ar (ae (cf (rd false 2 δ)) (bW false [false,false,false,false,true,false,false,false] (aa 7) (fun δ=>some true) wF δ)))
abbrev BC(δ:DEnv):Z_ Out:=zW 3 4 5 6 wK mQ mM δ
def Hq:List D->Z_ (D×Bool):=bG 8 3 BC
abbrev ED:List Str:=["cells","places","place"]
abbrev qC(δ:DEnv):Z_ D:=ixO (rd false 0 δ) (rd false 2 δ)
abbrev B5(δ:DEnv):Z_ Out:=fZ (cS (ar (ae (cf (rd false 1 δ)) (bW false [true,false,false] (aa 2) (fun δ=>some true) qC δ))))
def F1:List D->Z_ (D×Bool):=bG 3 2 B5
abbrev Ef:List Str:=["found","shared_places","kept_places","groups","longer","cells","kept","added"]
abbrev pR(δ:DEnv):Z_ Out:=oH 4 (ql (rd false 6 δ) (rd false 7 δ)) (some (.bl true)) δ
noncomputable abbrev s0(δ:DEnv):Z_ Out:=aG (b0 6 (shO (ae (af (rd false 5 δ) (af (rd false 2 δ) (some []))) F1)) δ) (fun δ=>ae (uU (j7 (rd false 3 δ) (shO (ae (af (rd false 5 δ) (af (rd false 1 δ) (some []))) F1)) (some (.dD [] [])))) fun ds=>am (fun d δ=>ae ((aa 7) d δ) pR) ds δ)
abbrev ww(δ:DEnv):Z_ Out:=eF (mE (rd false 4 δ))
noncomputable abbrev CB(δ:DEnv):Z_ Out:=aG (cQ 4 (some (.dD [] [])) δ) (fun δ=>aG (ae (cf (rd false 0 δ)) fun ds=>am (fun d δ=>ae ((aa 5) d δ) s0) ds δ) (fun δ=>ww (frzE 4 δ)))
def Ho:List D->Z_ (D×Bool):=bG 8 4 CB
noncomputable abbrev EC:List Str:=["rows","body","wanted","known","found","pairs","place","pair","later","own","shared","added","kept","groups","wanted_places","letter","cells","behind"]
abbrev rK(δ:DEnv):Z_ D:=ixO (rd false 17 δ) (some (.int 0))
abbrev vR(δ:DEnv):Z_ D:=rd false 15 δ
abbrev vO(δ:DEnv):Z_ D:=rd false 15 δ
abbrev wm(δ:DEnv):Z_ D:=rd false 15 δ
noncomputable abbrev wD(δ:DEnv):Z_ Out:=aG (b0 13 (frO (ae (af (ixO (rd false 7 δ) (some (.int 1))) (af (rd false 10 δ) (af (rd false 11 δ) (some [])))) Hq)) δ) (fun δ=>aG (b0 4 (frO (ae (af (rd false 4 δ) (af (frO (ae (af (rd false 10 δ) (af (rd false 3 δ) (some []))) Gf)) (af (frO (ae (af (rd false 12 δ) (af (rd false 3 δ) (some []))) Gf)) (af (rd false 13 δ) (some []))))) Ho)) δ) (fun δ=>b0 3 (tQ (rd false 12 δ) (rd false 11 δ)) δ))
noncomputable abbrev wQ(δ:DEnv):Z_ Out:=aG (cQ 12 (ar (ae (cf (rd false 3 δ)) (bW false [false,false,false,false,false,false,false,false,true,false,false,false,false,false,false,false,false,false] (aa 15) (fun δ=>inO (rd false 15 δ) (rd false 8 δ)) wm δ))) δ) (fun δ=>wD (frzE 12 δ))
noncomputable abbrev v8(δ:DEnv):Z_ Out:=aG (cQ 11 (ar (ae (cf (rd false 9 δ)) (bW false [false,false,false,true,false,false,false,false,true,false,false,false,false,false,false,false,false,false] (aa 15) (fun δ=>wM (inO (rd false 15 δ) (rd false 8 δ)) (bZ (rd false 15 δ) (rd false 3 δ))) vO δ))) δ) (fun δ=>wQ (frzE 11 δ))
noncomputable abbrev kf(δ:DEnv):Z_ Out:=aG (b0 8 (tQ (f8 (rd false 2 δ)) (frO (ae (af (ar (ae (cf (nN (rd false 5 δ) (iK (fX (rd false 6 δ) (some (.int 1)))) (some none))) (bW false [false,false,false,false,false,false,false,false,false,false,false,false,false,false,false,false,false,false] (aa 17) (fun δ=>some true) rK δ))) (some [])) Fl))) δ) (fun δ=>aG (b0 9 (frO (ae (af (bU (af (ixO (rd false 7 δ) (some (.int 0))) (some []))) (some [])) Fl)) δ) (fun δ=>aG (cQ 10 (ar (ae (cf (rd false 9 δ)) (bW false [false,false,false,true,false,false,false,false,false,false,false,false,false,false,false,false,false,false] (aa 15) (fun δ=>inO (rd false 15 δ) (rd false 3 δ)) vR δ))) δ) (fun δ=>v8 (frzE 10 δ))))
abbrev wj(δ:DEnv):Z_ D:=shO (ae (af (rd false 16 δ) (af (rd false 14 δ) (some []))) F1)
noncomputable abbrev Cn(δ:DEnv):Z_ Out:=aG (b0 5 (frO (ae (af (rd false 0 δ) (af (rd false 1 δ) (af (rd false 3 δ) (some [])))) Hs)) δ) (fun δ=>aG (ae (tU (rd false 5 δ)) fun ds=>am (fun d δ=>ae ((aK (ah (aa 6) (ah (aa 7) (toNil)))) d δ) kf) ds δ) (fun δ=>aG (b0 14 (frO (ae (af (rd false 2 δ) (af (rd false 3 δ) (some []))) Gf)) δ) (fun δ=>eF (jb .tt (ar (ae (cf (rd false 4 δ)) (bW false [false,false,false,false,false,false,false,false,false,false,false,false,false,false,true,false,false,false] (aa 16) (fun δ=>some true) wj δ)))))))
def Ht:List D->Z_ (D×Bool):=bG 18 5 Cn
abbrev Es:List Str:=["rows","body","wanted"]
noncomputable abbrev B9(δ:DEnv):Z_ Out:=eF (frO (ae (af (rd false 0 δ) (af (rd false 1 δ) (af (rd false 2 δ) (af (bU (some [])) (af (bU (af (gO (some [])) (some []))) (some [])))))) Ht))
def Hu:List D->Z_ (D×Bool):=bG 3 3 B9
abbrev D8:List Str:=["rows","question"]
noncomputable abbrev Cs(δ:DEnv):Z_ Out:=eF (frO (ae (af (rd false 0 δ) (af (ixO (rd false 1 δ) (some (.int 1))) (af (ixO (rd false 1 δ) (some (.int 0))) (some [])))) Hu))
def F2:List D->Z_ (D×Bool):=bG 2 2 Cs
abbrev DV:List Str:=["_law_cell","_law_j","_law_number"]
noncomputable abbrev Cu(δ:DEnv):Z_ Out:=aG (b0 2 (c8 (fX (qI (rd false 0 δ) (fX (qI (some (.int 2)) (rd false 1 δ)) (some (.int 3)))) (rd false 1 δ)) (some (.int 2147483629))) δ) (fun δ=>fZ (c8 (qI (fX (qI (rd false 2 δ) (rd false 2 δ)) (some (.int 1))) (some (.int 48271))) (some (.int 2147483629))))
def r_:List D->Z_ (D×Bool):=bG 3 2 Cu
abbrev Ec:List Str:=["_law_cell","_law_letters_here","_law_size","_law_stem","_law_at","_law_found","_law_k","_law_sign"]
noncomputable abbrev sC(δ:DEnv):Z_ D:=tu (rd false 1 δ) (c8 (shO (ae (af (rd false 0 δ) (af (fX (some (.int 2)) (rd false 6 δ)) (some []))) r_)) (some (.int 26)))
noncomputable abbrev sK(δ:DEnv):Z_ Out:=aG (b0 7 (tu (rd false 1 δ) (c8 (fX (uG (rd false 1 δ) (tu (rd false 3 δ) (rd false 4 δ))) (qI (some (.int 7)) (rd false 6 δ))) (some (.int 26)))) δ) (fun δ=>iV 5 (xF (xF (kN (rd false 3 δ) (some none) (iK (rd false 4 δ))) (rd false 7 δ)) (kN (rd false 3 δ) (iK (fX (rd false 4 δ) (some (.int 1)))) (some none))) δ)
noncomputable abbrev vT(δ:DEnv):Z_ Out:=eF (tQ (rd false 5 δ) (bU (af (xF (rd false 3 δ) (tu (rd false 1 δ) (c8 (shO (ae (af (rd false 0 δ) (af (some (.int 10)) (some []))) r_)) (some (.int 26))))) (af (kN (rd false 3 δ) (some none) (iK (Ca (rd false 2 δ) (some (.int 1))))) (some [])))))
noncomputable abbrev Cw(δ:DEnv):Z_ Out:=aG (b0 1 (some (.str "abcdefghijklmnopqrstuvwxyz")) δ) (fun δ=>aG (b0 2 (fX (some (.int 2)) (c8 (shO (ae (af (rd false 0 δ) (af (some (.int 1)) (some []))) r_)) (some (.int 6)))) δ) (fun δ=>aG (b0 3 (qN (some (.str "")) (ar (ae (qD (rd false 2 δ)) (bW false [true,true,false,false,false,false,false,false] (aa 6) (fun δ=>some true) sC δ)))) δ) (fun δ=>aG (b0 4 (c8 (shO (ae (af (rd false 0 δ) (af (some (.int 9)) (some []))) r_)) (rd false 2 δ)) δ) (fun δ=>aG (cQ 5 (bU (some [])) δ) (fun δ=>aG (ae (qD (some (.int 4))) fun ds=>am (fun d δ=>ae ((aa 6) d δ) sK) ds δ) (fun δ=>vT (frzE 5 δ)))))))
def Hn:List D->Z_ (D×Bool):=bG 8 1 Cw
abbrev D6:List Str:=["_law_cell"]
noncomputable abbrev B7(δ:DEnv):Z_ Out:=fZ (gO (af (frO (ae (af (rd false 0 δ) (some [])) Hn)) (af (c8 (shO (ae (af (rd false 0 δ) (af (some (.int 11)) (some []))) r_)) (some (.int 400000))) (af (fX (some (.int 1)) (c8 (shO (ae (af (rd false 0 δ) (af (some (.int 12)) (some []))) r_)) (some (.int 50000)))) (some [])))))
def Hm:List D->Z_ (D×Bool):=bG 1 1 B7
abbrev ET:List Str:=["_law_cell","_law_letters_here","_law_start","_law_step","_law_k"]
abbrev qT(δ:DEnv):Z_ D:=tu (rd false 1 δ) (c8 (fX (rd false 2 δ) (qI (rd false 3 δ) (rd false 4 δ))) (some (.int 26)))
noncomputable abbrev Cv(δ:DEnv):Z_ Out:=aG (b0 1 (some (.str "ABCDEFGHIJKLMNOPQRSTUVWXYZ")) δ) (fun δ=>aG (b0 2 (c8 (shO (ae (af (rd false 0 δ) (af (some (.int 13)) (some []))) r_)) (some (.int 26))) δ) (fun δ=>aG (b0 3 (ixO (bU (some [(.int 1),(.int 3),(.int 5),(.int 7),(.int 9),(.int 11)])) (c8 (shO (ae (af (rd false 0 δ) (af (some (.int 14)) (some []))) r_)) (some (.int 6)))) δ) (fun δ=>eF (ar (ae (qD (some (.int 4))) (bW false [false,true,true,true,false] (aa 4) (fun δ=>some true) qT δ))))))
def Hl:List D->Z_ (D×Bool):=bG 5 1 Cv
abbrev E3:List Str:=["_law_world_here","_law_number","_law_words_here","_law_start","_law_step"]
noncomputable abbrev Bs(δ:DEnv):Z_ Out:=aG (tw (rd false 0 δ) (aK (ah (aa 2) (ah (aa 3) (ah (aa 4) (toNil))))) δ) (fun δ=>aG (ifO (eqO (c8 (rd false 1 δ) (some (.int 2))) (some (.int 0))) (fZ (gO (af (some (.str "blank")) (af (fX (rd false 3 δ) (qI (rd false 4 δ) (tm (c8 (tm (rd false 1 δ) (some (.int 2))) (some (.int 12))) (fX (some (.int 1)) (c8 (tm (rd false 1 δ) (some (.int 24))) (some (.int 4))))))) (some []))))) (nextO δ)) (fun δ=>fZ (gO (af (some (.str "name")) (af (ixO (rd false 2 δ) (tm (c8 (tm (rd false 1 δ) (some (.int 2))) (some (.int 6))) (fX (some (.int 1)) (c8 (tm (rd false 1 δ) (some (.int 12))) (some (.int 3)))))) (some []))))))
def GP:List D->Z_ (D×Bool):=bG 5 2 Bs
abbrev Eu:List Str:=["_law_world_here","_law_cell","_law_size","_law_cells","_law_k"]
noncomputable abbrev qH(δ:DEnv):Z_ D:=shO (ae (af (rd false 0 δ) (af (shO (ae (af (rd false 1 δ) (af (fX (some (.int 3)) (rd false 4 δ)) (some []))) r_)) (some []))) GP)
noncomputable abbrev v3(δ:DEnv):Z_ Out:=fZ (gO (af (ixO (ixO (rd false 0 δ) (some (.int 0))) (tm (c8 (shO (ae (af (rd false 1 δ) (af (some (.int 2)) (some []))) r_)) (some (.int 3))) (fX (some (.int 1)) (c8 (shO (ae (af (rd false 1 δ) (af (some (.int 7)) (some []))) r_)) (some (.int 2)))))) (af (cS (rd false 3 δ)) (some []))))
noncomputable abbrev Cz(δ:DEnv):Z_ Out:=aG (b0 2 (fX (some (.int 1)) (c8 (shO (ae (af (rd false 1 δ) (af (some (.int 1)) (some []))) r_)) (some (.int 3)))) δ) (fun δ=>aG (cQ 3 (ar (ae (qD (rd false 2 δ)) (bW false [true,true,false,false,false] (aa 4) (fun δ=>some true) qH δ))) δ) (fun δ=>v3 (frzE 3 δ)))
def Ge:List D->Z_ (D×Bool):=bG 5 2 Cz
abbrev DK:List Str:=["_law_rows","_law_found","_law_row_here"]
abbrev mF(δ:DEnv):Z_ Out:=ifO (bZ (rd false 2 δ) (rd true 1 δ)) (iV 1 (rd false 2 δ) δ) (nextO δ)
noncomputable abbrev Cy(δ:DEnv):Z_ Out:=aG (cQ 1 (bU (some [])) δ) (fun δ=>aG (ae (cf (jb .ts (rd false 0 δ))) fun ds=>am (fun d δ=>ae ((aa 2) d δ) mF) ds δ) (fun δ=>eF (bE 1 δ)))
def Hj:List D->Z_ (D×Bool):=bG 3 1 Cy
abbrev EN:List Str:=["_law_world_here","_law_letters_here","_law_rows","_law_cell","_law_table","_law_cells","_law_terms","_law_k","_law_drawn"]
noncomputable abbrev mU(δ:DEnv):Z_ Out:=aG (b0 8 (shO (ae (af (rd false 3 δ) (af (fX (some (.int 17)) (rd false 7 δ)) (some []))) r_)) δ) (fun δ=>ifO (orO (eqO (ixO (ixO (rd false 5 δ) (rd false 7 δ)) (some (.int 0))) (some (.str "blank"))) (eqO (c8 (rd false 8 δ) (some (.int 2))) (some (.int 1)))) (iV 6 (gO (af (some (.str "any")) (af (ixO (rd false 1 δ) (c8 (tm (rd false 8 δ) (some (.int 2))) (some (.int 4)))) (some [])))) δ) (iV 6 (ixO (rd false 5 δ) (rd false 7 δ)) δ))
abbrev wo(δ:DEnv):Z_ Out:=fZ (gO (af (rd false 4 δ) (af (cS (rd false 6 δ)) (some []))))
noncomputable abbrev Ct(δ:DEnv):Z_ Out:=aG (tw (shO (ae (af (rd false 0 δ) (af (rd false 3 δ) (some []))) Ge)) (aK (ah (aa 4) (ah (aa 5) (toNil)))) δ) (fun δ=>aG (ifO (neO (rd false 2 δ) (bU (some []))) (tw (ixO (rd false 2 δ) (c8 (shO (ae (af (rd false 3 δ) (af (some (.int 16)) (some []))) r_)) (iM (rd false 2 δ)))) (aK (ah (aa 4) (ah (aa 5) (toNil)))) δ) (nextO δ)) (fun δ=>aG (cQ 6 (bU (some [])) δ) (fun δ=>aG (ae (qD (iM (rd false 5 δ))) fun ds=>am (fun d δ=>ae ((aa 7) d δ) mU) ds δ) (fun δ=>wo (frzE 6 δ)))))
def Hi:List D->Z_ (D×Bool):=bG 9 4 Ct
abbrev DZ:List Str:=["_law_fit","_law_terms","_law_cells","_law_found","_law_term","_law_cell","_law_letter","_law_known"]
abbrev d7(δ:DEnv):Z_ Bool:=wM (eqO (rd false 6 δ) (ixO (rd false 4 δ) (some (.int 1)))) (neO (rd false 7 δ) (rd false 5 δ))
noncomputable abbrev jE(δ:DEnv):Z_ Out:=aG (ifO (wM (eqO (ixO (rd false 4 δ) (some (.int 0))) (some (.str "name"))) (neO (rd false 4 δ) (rd false 5 δ))) (fZ (some .non)) (nextO δ)) (fun δ=>ifO (eqO (ixO (rd false 4 δ) (some (.int 0))) (some (.str "any"))) (aG (fW (aK (ah (aa 6) (ah (aa 7) (toNil)))) d7 (cf (rd true 3 δ)) δ) (fun δ=>ifO (bZ (gO (af (ixO (rd false 4 δ) (some (.int 1))) (af (rd false 5 δ) (some [])))) (rd true 3 δ)) (iV 3 (gO (af (ixO (rd false 4 δ) (some (.int 1))) (af (rd false 5 δ) (some [])))) δ) (nextO δ))) (nextO δ))
noncomputable abbrev B0(δ:DEnv):Z_ Out:=aG (ifO (neO (iM (rd false 1 δ)) (iM (rd false 2 δ))) (fZ (some .non)) (nextO δ)) (fun δ=>aG (cQ 3 (f8 (rd false 0 δ)) δ) (fun δ=>aG (ae (zH true true (rd false 1 δ) (rd false 2 δ)) fun ds=>am (fun d δ=>ae ((aK (ah (aa 4) (ah (aa 5) (toNil)))) d δ) jE) ds δ) (fun δ=>eF (bE 3 δ))))
def Hh:List D->Z_ (D×Bool):=bG 8 3 B0
abbrev EI:List Str:=["_law_rows","_law_body","_law_found","_law_pattern_here","_law_more","_law_row_here","_law_fit"]
noncomputable abbrev pQ(δ:DEnv):Z_ Out:=ifO (eqO (ixO (rd false 5 δ) (some (.int 0))) (ixO (rd false 3 δ) (some (.int 0)))) (iV 4 (shO (ae (af (rd false 6 δ) (af (ixO (rd false 3 δ) (some (.int 1))) (af (ixO (rd false 5 δ) (some (.int 1))) (some [])))) Hh)) δ) (nextO δ)
abbrev qv(δ:DEnv):Z_ Out:=ae (cf (rd false 2 δ)) fun ds=>am (fun d δ=>ae ((aa 6) d δ) pQ) ds δ
abbrev wq(δ:DEnv):Z_ D:=rd false 6 δ
abbrev v9(δ:DEnv):Z_ Out:=nextO δ
noncomputable abbrev vK(δ:DEnv):Z_ Out:=aG (cQ 2 (ar (ae (cf (rd false 4 δ)) (bW false [false,false,false,false,false,false,false] (aa 6) (fun δ=>iy (vi (rd false 6 δ))) wq δ))) δ) (fun δ=>v9 (frzE 2 δ))
noncomputable abbrev mR(δ:DEnv):Z_ Out:=aG (cQ 4 (bU (some [])) δ) (fun δ=>aG (ae (cf (rd false 0 δ)) fun ds=>am (fun d δ=>ae ((aa 5) d δ) qv) ds δ) (fun δ=>vK (frzE 4 δ)))
noncomputable abbrev BN(δ:DEnv):Z_ Out:=aG (b0 2 (bU (af (bU (some [])) (some []))) δ) (fun δ=>aG (ae (cf (rd false 1 δ)) fun ds=>am (fun d δ=>ae ((aa 3) d δ) mR) ds δ) (fun δ=>fZ (rd false 2 δ)))
def Hg:List D->Z_ (D×Bool):=bG 7 2 BN
abbrev Ew:List Str:=["_law_body","_law_total","_law_known","_law_table","_law_terms","_law_k","_law_term"]
abbrev mL(δ:DEnv):Z_ D:=ixO (rd false 6 δ) (some (.int 1))
noncomputable abbrev pL(δ:DEnv):Z_ Out:=si 2 (ar (ae (tZ (rd false 4 δ)) (bW false [false,false,false,false,false,false,false] (aa 6) (fun δ=>eqO (ixO (rd false 6 δ) (some (.int 0))) (some (.str "any"))) mL δ))) δ
noncomputable abbrev sg(δ:DEnv):Z_ D:=ixO (rd false 2 δ) (c8 (shO (ae (af (rd false 1 δ) (af (fX (some (.int 40)) (rd false 5 δ)) (some []))) r_)) (iM (rd false 2 δ)))
noncomputable abbrev rR(δ:DEnv):Z_ Out:=aG (ifO (eqO (rd false 2 δ) (bU (some []))) (eF (bU (some []))) (nextO δ)) (fun δ=>eF (ar (ae (qD (c8 (shO (ae (af (rd false 1 δ) (af (some (.int 39)) (some []))) r_)) (some (.int 9)))) (bW false [false,true,true,false,false,false,false] (aa 5) (fun δ=>some true) sg δ))))
noncomputable abbrev CH(δ:DEnv):Z_ Out:=aG (cQ 2 (bU (some [])) δ) (fun δ=>aG (ae (cf (rd false 0 δ)) fun ds=>am (fun d δ=>ae ((aK (ah (aa 3) (ah (aa 4) (toNil)))) d δ) pL) ds δ) (fun δ=>rR (frzE 2 δ)))
def GO:List D->Z_ (D×Bool):=bG 7 2 CH
abbrev Ev:List Str:=["_law_rows","_law_letters_here","_law_body","_law_found","_law_fit","_law_answer","_law_asked_here","_law_cell","_law_letter"]
abbrev wE(δ:DEnv):Z_ D:=rd false 7 δ
noncomputable abbrev rq(δ:DEnv):Z_ Out:=si 5 (ar (ae (cf (rd false 4 δ)) (bW false [false,false,false,false,false,false,true,false,false] (aK (ah (aa 8) (ah (aa 7) (toNil)))) (fun δ=>eqO (rd false 8 δ) (rd false 6 δ)) wE δ))) δ
abbrev wz(δ:DEnv):Z_ Out:=oH 3 (cS (rd false 5 δ)) (some (.bl true)) δ
noncomputable abbrev rL(δ:DEnv):Z_ Out:=aG (cQ 5 (bU (some [])) δ) (fun δ=>aG (ae (cf (rd false 1 δ)) fun ds=>am (fun d δ=>ae ((aa 6) d δ) rq) ds δ) (fun δ=>wz (frzE 5 δ)))
abbrev vZ(δ:DEnv):Z_ Out:=eF (j8 .tt (rd false 3 δ))
noncomputable abbrev B2(δ:DEnv):Z_ Out:=aG (cQ 3 (some (.dD [] [])) δ) (fun δ=>aG (ae (cf (shO (ae (af (rd false 0 δ) (af (rd false 2 δ) (some []))) Hg))) fun ds=>am (fun d δ=>ae ((aa 4) d δ) rL) ds δ) (fun δ=>vZ (frzE 3 δ)))
def Hf:List D->Z_ (D×Bool):=bG 9 3 B2
abbrev El:List Str:=["_law_found","_law_due_here","_law_answer","_law_cell"]
abbrev Aw(δ:DEnv):Z_ D:=rd false 3 δ
noncomputable abbrev qm(δ:DEnv):Z_ Out:=ifO (orO (iy (tyB (vU "tuple" (rd false 2 δ)))) (neO (ar (ae (tZ (rd false 2 δ)) (bW false [false,false,false,false] (aa 3) (fun δ=>iy (tyB (vU "tuple" (rd false 3 δ)))) Aw δ))) (bU (some [])))) (fZ (some (.bl false))) (nextO δ)
noncomputable abbrev BM(δ:DEnv):Z_ Out:=aG (ifO (orO (iy (tyB (vU "list" (rd false 0 δ)))) (neO (rd false 0 δ) (rd false 1 δ))) (fZ (some (.bl false))) (nextO δ)) (fun δ=>aG (ae (cf (rd false 0 δ)) fun ds=>am (fun d δ=>ae ((aa 2) d δ) qm) ds δ) (fun δ=>fZ (some (.bl true))))
def He:List D->Z_ (D×Bool):=bG 4 2 BM
noncomputable abbrev N_law:List Str:=["_law_script","_law_total","_law_many","_law_cells","_law_world_here","_law_rows","_law_body","_law_letters_here","_law_kept","_law_question","_law_due_here","_law_found","_law_k","_law_cell"]
abbrev lR(δ:DEnv):Z_ D:=shO (ae (af (rd false 4 δ) (af (rd false 13 δ) (some []))) Ge)
noncomputable abbrev lj(δ:DEnv):Z_ D:=shO (ae (af (rd false 4 δ) (af (frO (ae (af (rd false 1 δ) (some [])) Hl)) (af (rd false 5 δ) (af (fX (fX (qI (rd false 1 δ) (some (.int 7))) (qI (rd false 12 δ) (rd false 12 δ))) (rd false 12 δ)) (some []))))) Hi)
noncomputable abbrev sF(δ:DEnv):Z_ Out:=aG (b0 7 (frO (ae (af (rd false 6 δ) (af (rd false 1 δ) (some []))) GO)) δ) (fun δ=>aG (b0 8 (bU (af (f8 (rd false 5 δ)) (af (f8 (rd false 7 δ)) (af (f8 (rd false 6 δ)) (some []))))) δ) (fun δ=>aG (b0 9 (gO (af (rd false 7 δ) (af (rd false 6 δ) (some [])))) δ) (fun δ=>aG (b0 10 (frO (ae (af (rd false 5 δ) (af (rd false 7 δ) (af (rd false 6 δ) (some [])))) Hf)) δ) (fun δ=>aG (cQ 11 (frO (ae (af (rd false 5 δ) (af (rd false 9 δ) (some []))) F2)) δ) (fun δ=>aG (ifO (orO (iy (tyB (shO (ae (af (rd true 11 δ) (af (rd true 10 δ) (some []))) He)))) (neO (bU (af (rd false 5 δ) (af (rd false 7 δ) (af (rd false 6 δ) (some []))))) (rd false 8 δ))) (fZ (some (.bl false))) (nextO δ)) (fun δ=>aG (iV 11 (some .non) δ) (fun δ=>fZ (Cr (ofB (eqO (bU (af (rd false 5 δ) (af (rd false 7 δ) (af (rd false 6 δ) (some []))))) (rd false 8 δ))) (Cr (ofB (eqO (frO (ae (af (rd false 5 δ) (af (rd false 9 δ) (some []))) F2)) (rd false 10 δ))) (ofB (eqO (frO (ae (af (rd false 5 δ) (af (gO (af (bU (some [])) (af (bU (some [])) (some [])))) (some []))) F2)) (bU (af (gO (some [])) (some []))))))))))))))
noncomputable abbrev w9(δ:DEnv):Z_ Out:=aG (b0 1 (c8 (zU (nN (rd false 0 δ) (some none) (iK (some (.int 63))))) (some (.int 1000003))) δ) (fun δ=>aG (b0 2 (c8 (shO (ae (af (rd false 1 δ) (af (some (.int 30)) (some []))) r_)) (some (.int 4))) δ) (fun δ=>aG (b0 3 (nN (rd false 0 δ) (some none) (iK (ixO (bU (af (some (.int 40)) (af (some (.int 40)) (af (some (.int 40)) (af (some (.int 9)) (some [])))))) (rd false 2 δ)))) δ) (fun δ=>aG (b0 4 (shO (ae (af (rd false 1 δ) (some [])) Hm)) δ) (fun δ=>aG (b0 5 (frO (ae (af (ar (ae (cf (rd false 3 δ)) (bW false [false,false,false,false,true,false,false,false,false,false,false,false,false,false] (aa 13) (fun δ=>some true) lR δ))) (some [])) Hj)) δ) (fun δ=>aG (cQ 6 (ar (ae (qD (rd false 2 δ)) (bW false [false,true,false,false,true,true,false,false,false,false,false,false,false,false] (aa 12) (fun δ=>some true) lj δ))) δ) (fun δ=>sF (frzE 6 δ)))))))
def f_law:List D->Z_ (D×Bool):=bG 14 1 w9
section
variable{P:ZC}{w:Zo}{K:Z5}{mg:Str->Z_ Z7}{base:Heap}
theorem DP(T:Txt mg)(D:Df K mg "letters_of" CS):FnM P w K mg base 1 "letters_of" Fl:=
 mk 1 DN BS D (by walk_at "sc") (by walk_at "bi") (by walk_at "mk")
theorem Em(T:Txt mg)(D:Df K mg "binding_of" Dv):FnM P w K mg base 1 "binding_of" Hr:=
 mk 2 E1 BZ D (by walk_at "sc") (by walk_at "bi") (by walk_at "mk")
theorem D7(T:Txt mg)(D:Df K mg "bindings" CU)(_:FnM P w K mg base 1 "binding_of" Hr):FnM P w K mg base 2 "bindings" GQ:=
 mk 2 EV Cc D (by walk_at "sc") (by walk_at "bi") (by walk_at "mk")
theorem DY(T:Txt mg)(D:Df K mg "is_linked" Dw)(_:FnM P w K mg base 1 "letters_of" Fl):FnM P w K mg base 2 "is_linked" Gg:=
 mk 2 EK Cq D (by walk_at "sc") (by walk_at "bi") (by walk_at "mk")
def zu:FnScope CC (["rows","body","known"]:List Str) (defScope zo):=⟨rfl,rfl,rfl,by decide +kernel,rfl,by decide +kernel,by decide +kernel⟩
theorem DL{X:Cx}(hX:Has X CC (defScope zo))(hf:∀x,X.fn x=true)(hp:PassesOwn (model X.prog X.w) X.A X.env X.xe)(hr:Room 3 X.A)(T:Txt X.mg)(P_ c_:Z2)(Kr:((P_,("search_order.<locals>.<lambda>":Str)):Z2×Str)∈Lams.tb)(Q5:X.env.qual++"<lambda>"=("search_order.<locals>.<lambda>":Str))(Ks:PySem.W.CodeHd X.base c_ P_)(Q6:X.env.code=.ref c_)(Jq:FnM X.prog X.w X.K X.mg X.base 1 "letters_of" Fl)(Jo:FnM X.prog X.w X.K X.mg X.base 2 "bindings" GQ)(Jp:FnM X.prog X.w X.K X.mg X.base 2 "is_linked" Gg):
  DSs X (defBody zo) Ik:=by
 have hu:=hr.units;have n1:Nm X 1 "body":=hX.nm (by decide +kernel)
 have n2:Nm X 2 "known":=hX.nm (by decide +kernel)
 have n3:Nm X 3 "rest":=hX.nm (by decide +kernel)
 have l3:Lc X 3 "rest":=hX.lc hf (by decide +kernel)
 have n4:Nm X 4 "placed":=hX.nm (by decide +kernel)
 have l4:Lc X 4 "placed":=hX.lc hf (by decide +kernel)
 have l5:Lc X 5 "bound":=hX.lc hf (by decide +kernel)
 have n6:Nm X 6 "linked":=hX.nm (by decide +kernel)
 have n7:Nm X 7 "taken":=hX.nm (by decide +kernel)
 have l7:Lc X 7 "taken":=hX.lc hf (by decide +kernel)
 have La:Gb X "letters_of":=hX.gb (by decide +kernel)
 have Im:Gb X "list":=hX.gb (by decide +kernel)
 have GS:Gb X "sorted":=hX.gb (by decide +kernel)
 refine' @dg _ _ _ _ _ _ ?z1 ?_
 case z1=>
  refine' @iN _ _ _ _ _ _ _ _ hX.nd l3 ?z2 (by rfl)
  case z2=>
   refine' @kX _ _ _ _ _ gC _ _ _ _ _ _ _ _ _ "pair" 0 (hr.mono (by decide)) GS.gl (Txb.get (x:="sorted") T (by decide +kernel)) Kr Q5 Ks Q6 rfl rfl ⟨rfl,rfl,rfl,by decide +kernel,rfl,by decide +kernel,by decide +kernel⟩ (fun _ _ _ _ _=>.of_eq rfl) ?z3 ?z4 (by rfl)
   case z3=>
    intro _ _ _ _ _ _;exact @sx _ _ false false _ _ _ _ ((Bw (N:=["pair"]) (by decide +kernel)).gb (x:="len") (by decide +kernel)) (Txb.get (x:="len") T (by decide +kernel)) (@uo _ _ false false _ _ _ _ _ (@nv _ _ _ _ _ false ((Bw (N:=["pair"]) (by decide +kernel)).nm (i:=0) (by decide +kernel))) (@jo _ _ false _ _ _) (by exact fun _ _=>rfl)) (by rfl)
   case z4=>
    refine' @DF.share _ _ false _ _ ?z5
    case z5=>
     refine' @sA _ _ _ _ _ _ _ _ _ _ _ _ _ hX.calm (fq 8) (@kP _ _ false _ _ _ (@nv _ _ _ _ _ false n1)) (CompScope.of' hX (by decide +kernel)) (fun cl C d_ e_ ex pn=>@io _ _ _ _ _ (hX.comp _ cl C d_ e_ ex pn).nd ((hX.comp _ cl C d_ e_ ex pn).lcl (i:=8) (by decide +kernel))) (fun cl C d_ e_ ex pn=>@lS _ _) ?z6 (by intro _;rfl)
     case z6=>
      intro cl C d_ e_ ex pn;refine' @wv _ _ false _ _ _ _ ?z7
      case z7=>
       refine' @bY _ _ false _ _ _ _ (@nv _ _ _ _ _ false ((hX.comp _ cl C d_ e_ ex pn).nm (i:=8) (by decide +kernel))) ?z8 (by rfl)
       case z8=>
        refine' @bY _ _ false _ _ _ _ ?z9 (@ff _ _ _) (by rfl)
        case z9=>
         refine' @DF.share _ _ false _ _ ?Lj
         case Lj=>
          refine' @mv _ _ _ _ _ _ _ _ _ _ Jo (hr.mono (by decide)) ((hX.comp _ cl C d_ e_ ex pn).gb (x:="bindings") (by decide +kernel)) ?Li (by rfl) (by rfl)
          case Li=>
           exact @bY _ _ false _ _ _ _ (@nv _ _ _ _ _ false ((hX.comp _ cl C d_ e_ ex pn).nm (i:=0) (by decide +kernel))) (@bY _ _ false _ _ _ _ (@nv _ _ _ _ _ false ((hX.comp _ cl C d_ e_ ex pn).nm (i:=8) (by decide +kernel))) (@ff _ _ _) (by rfl)) (by rfl)
 refine' @dg _ _ _ _ _ _ ?Lh ?_
 case Lh=>
  exact @iN _ _ _ _ _ _ _ _ hX.nd l4 (@wn _ _ _ _ _ (@ff _ _ _)) (by rfl)
 refine @dg _ _ _ _ _ _ (@me _ _ _ _ jw jQ _ 1000 hp (@wL _ _ _ _ _ (@nv _ _ _ _ _ true n3) (by intro _;rfl)) ?_) ?_
 .refine' @dg _ _ _ _ _ _ ?Lg ?_
  case Lg=>
   refine' @pi _ _ _ _ _ _ _ _ hX.nd l5 ?Pm (by rfl)
   case Pm=>
    refine' @DF.share _ _ false _ _ ?Pl
    case Pl=>
     refine' @wc _ _ _ _ _ _ _ ?Pk ?Pj
     case Pk=>
      exact @DF.share _ _ false _ _ (@o9 _ _ _ _ _ _ Im.gl (Txb.get (x:="list") T (by decide +kernel)) (@nv _ _ _ _ _ false n2) (by rfl))
     case Pj=>
      refine' @DF.share _ _ false _ _ ?Ph
      case Ph=>
       refine' @iX _ _ _ _ _ _ _ _ _ _ Jq (hr.mono (by decide)) La ?Pg (by rfl) (by rfl)
       case Pg=>
        refine' @bY _ _ _ _ _ _ _ ?Pf (@ff _ _ _) (by rfl)
        case Pf=>
         refine' @DF.share _ _ true _ _ ?Pe
         case Pe=>
          refine' @m3 _ _ _ _ _ _ _ _ _ _ _ _ _ hX.calm (fq 9) (@kP _ _ _ _ _ _ (@nv _ _ _ _ _ true n4)) (CompScope.of' hX (by decide +kernel)) (fun cl C d_ e_ ex pn=>@io _ _ _ _ _ (hX.comp _ cl C d_ e_ ex pn).nd ((hX.comp _ cl C d_ e_ ex pn).lcl (i:=9) (by decide +kernel))) (fun cl C d_ e_ ex pn=>@lS _ _) ?Pb (by intro _;rfl)
          case Pb=>
           intro cl C d_ e_ ex pn;exact @uo _ _ false false _ _ _ _ _ (@nv _ _ _ _ _ false ((hX.comp _ cl C d_ e_ ex pn).nm (i:=9) (by decide +kernel))) (@jo _ _ false _ _ _) (by exact fun _ _=>rfl)
  refine' @rJ _ _ 3 9 6 7 _ _ _ _ ([false,false,false,false,false,true,false,false,false,false]) _ _ nE _ pI _ _ _ _ _ _ _ _ _ _ _ _ _ _ _ _ _ _ _ _ _ _ _ hu hX.nd hX.calm n3 n6 n7 l7 (eY hX (by decide +kernel)) (by decide) (by decide) (by decide) (CompScope.of' hX (by decide +kernel)) (fun cl C d_ e_ ex pn=>lW (hX.comp _ cl C d_ e_ ex pn).nd ((hX.comp _ cl C d_ e_ ex pn).lcl (i:=9) (x:="pair") (by decide +kernel)).at' ((hX.comp _ cl C d_ e_ ex pn).lcl (i:=9) (x:="pair") (by decide +kernel)).loc ((hX.comp _ cl C d_ e_ ex pn).lcl (i:=9) (x:="pair") (by decide +kernel)).fnl) ?Pa (fun cl C d_ e_ ex pn=>bg ((hX.comp _ cl C d_ e_ ex pn).nm (i:=9) (x:="pair") (by decide +kernel)).at' ((hX.comp _ cl C d_ e_ ex pn).nm (i:=9) (x:="pair") (by decide +kernel)).vis (by decide) (by decide)) ?_ (cG hX (by decide +kernel)) (by intro _;rfl) (by rfl) (by intro _;rfl) (fun _ _=>rfl) (fun _ _=>rfl) (by rfl) (by rfl) (by rfl) (by rfl) (by rfl)
  case Pa=>
   intro cl C d_ e_ ex pn;refine' @pC _ _ _ _ ?O_
   case O_=>
    refine' @wg _ _ false _ _ ?O9 (by intro _;rfl)
    case O9=>
     refine' @l8 _ _ false _ _ _ _ _ _ _ _ Jp (hr.mono (by decide)) ((hX.comp _ cl C d_ e_ ex pn).gb (x:="is_linked") (by decide +kernel)) ?O8 (by rfl) (by rfl)
     case O8=>
      exact @bY _ _ false _ _ _ _ (@uo _ _ false false _ _ _ _ _ (@nv _ _ _ _ _ false ((hX.comp _ cl C d_ e_ ex pn).nm (i:=9) (by decide +kernel))) (@jo _ _ false _ _ _) (by exact fun _ _=>rfl)) (@bY _ _ false _ _ _ _ (@nv _ _ _ _ _ false ((hX.comp _ cl C d_ e_ ex pn).nm (i:=5) (by decide +kernel))) (@ff _ _ _) (by rfl)) (by rfl)
  refine @lY _ _ _ _ (@gQ _ _ _ _ _ _ _ _ _ _ n4 (@nv _ _ _ _ _ false n7) (by rfl) (by rfl) (by rfl) (by rfl) (by rfl))
 refine @lY _ _ _ _ (@mx _ _ _ _ _ _ n4)
theorem Ed{c_ P_:Z2}(D:DfC K mg "search_order" zo c_)(T:Txt mg)(Kr:((P_,("search_order.<locals>.<lambda>":Str)):Z2×Str)∈Lams.tb)(Ks:PySem.W.CodeHd base c_ P_)(Jq:FnM P w K mg base 1 "letters_of" Fl)(Jo:FnM P w K mg base 2 "bindings" GQ)(Jp:FnM P w K mg base 2 "is_linked" Gg):
  FnM P w K mg base 4 "search_order" Hs:=by
 obtain⟨f,fd,F,hm,K9⟩:=D;have hb:=F.binds (ps:=["rows","body","known"]) (by walk_at "bi")
 have h:=xT (P:=P) (w:=w) (base:=base) (k:=3) (g:=Ik) F K9 zu hb hm (by decide) fun A outer s H E hr=>by
  exact @DL _ ((kC CX0 P w K mg base CC "search_order" (defScope zo) f (.ref c_) A outer s H E).nox) (Bw zu.nd) (fun _=>rfl) PassesOwn.never hr T P_ c_ Kr rfl Ks rfl Jq Jo Jp
 exact h.2
theorem EF(T:Txt mg)(D:Df K mg "places_of" C7):FnM P w K mg base 1 "places_of" Gf:=
 mk 2 Er BQ D (by walk_at "sc") (by walk_at "bi") (by walk_at "mk")
theorem DM(T:Txt mg)(D:Df K mg "grouped" Dp):FnM P w K mg base 1 "grouped" Hq:=
 mk 3 Eo BC D (by walk_at "sc") (by walk_at "bi") (by walk_at "mk")
theorem EO(T:Txt mg)(D:Df K mg "picked" Dd):FnM P w K mg base 1 "picked" F1:=
 mk 2 ED B5 D (by walk_at "sc") (by walk_at "bi") (by walk_at "mk")
theorem Ea(T:Txt mg)(D:Df K mg "extended" CQ)(_:FnM P w K mg base 1 "picked" F1):FnM P w K mg base 2 "extended" Ho:=
 mk 4 Ef CB D (by walk_at "sc") (by walk_at "bi") (by walk_at "mk")
theorem Ee(T:Txt mg)(D:Df K mg "joined_from" C4)(_:FnM P w K mg base 1 "letters_of" Fl)(_:FnM P w K mg base 4 "search_order" Hs)(_:FnM P w K mg base 1 "places_of" Gf)(_:FnM P w K mg base 1 "grouped" Hq)(_:FnM P w K mg base 1 "picked" F1)(_:FnM P w K mg base 2 "extended" Ho):FnM P w K mg base 5 "joined_from" Ht:=
 mk 5 EC Cn D (by walk_at "sc") (by walk_at "bi") (by walk_at "mk")
theorem Ep(T:Txt mg)(D:Df K mg "joined" DD)(_:FnM P w K mg base 5 "joined_from" Ht):FnM P w K mg base 6 "joined" Hu:=
 mk 3 Es B9 D (by walk_at "sc") (by walk_at "bi") (by walk_at "mk")
theorem DU(T:Txt mg)(D:Df K mg "answers" DH)(_:FnM P w K mg base 6 "joined" Hu):FnM P w K mg base 7 "answers" F2:=
 mk 2 D8 Cs D (by walk_at "sc") (by walk_at "bi") (by walk_at "mk")
theorem DQ(T:Txt mg)(D:Df K mg "_law_mix" CN):FnM P w K mg base 1 "_law_mix" r_:=
 mk 2 DV Cu D (by walk_at "sc") (by walk_at "bi") (by walk_at "mk")
theorem EE(T:Txt mg)(D:Df K mg "_law_words" Dr)(_:FnM P w K mg base 1 "_law_mix" r_):FnM P w K mg base 2 "_law_words" Hn:=
 mk 1 Ec Cw D (by walk_at "sc") (by walk_at "bi") (by walk_at "mk")
theorem EB(T:Txt mg)(D:Df K mg "_law_world" CZ)(_:FnM P w K mg base 1 "_law_mix" r_)(_:FnM P w K mg base 2 "_law_words" Hn):FnM P w K mg base 3 "_law_world" Hm:=
 mk 1 D6 B7 D (by walk_at "sc") (by walk_at "bi") (by walk_at "mk")
theorem EH(T:Txt mg)(D:Df K mg "_law_letters" Dg)(_:FnM P w K mg base 1 "_law_mix" r_):FnM P w K mg base 2 "_law_letters" Hl:=
 mk 1 ET Cv D (by walk_at "sc") (by walk_at "bi") (by walk_at "mk")
theorem EA(T:Txt mg)(D:Df K mg "_law_cell_by" De):FnM P w K mg base 1 "_law_cell_by" GP:=
 mk 2 E3 Bs D (by walk_at "sc") (by walk_at "bi") (by walk_at "mk")
theorem D0(T:Txt mg)(D:Df K mg "_law_row" CW)(_:FnM P w K mg base 1 "_law_mix" r_)(_:FnM P w K mg base 1 "_law_cell_by" GP):FnM P w K mg base 2 "_law_row" Ge:=
 mk 2 Eu Cz D (by walk_at "sc") (by walk_at "bi") (by walk_at "mk")
theorem Ey(T:Txt mg)(D:Df K mg "_law_stand" Dt):FnM P w K mg base 1 "_law_stand" Hj:=
 mk 1 DK Cy D (by walk_at "sc") (by walk_at "bi") (by walk_at "mk")
theorem EX(T:Txt mg)(D:Df K mg "_law_pattern" C9)(_:FnM P w K mg base 1 "_law_mix" r_)(_:FnM P w K mg base 2 "_law_row" Ge):FnM P w K mg base 3 "_law_pattern" Hi:=
 mk 4 EN Ct D (by walk_at "sc") (by walk_at "bi") (by walk_at "mk")
theorem EL(T:Txt mg)(D:Df K mg "_law_joined" Dk):FnM P w K mg base 1 "_law_joined" Hh:=
 mk 3 DZ B0 D (by walk_at "sc") (by walk_at "bi") (by walk_at "mk")
theorem EZ(T:Txt mg)(D:Df K mg "_law_fits" CL)(_:FnM P w K mg base 1 "_law_joined" Hh):FnM P w K mg base 2 "_law_fits" Hg:=
 mk 2 EI BN D (by walk_at "sc") (by walk_at "bi") (by walk_at "mk")
theorem Eg(T:Txt mg)(D:Df K mg "_law_asked" Dh)(_:FnM P w K mg base 1 "_law_mix" r_):FnM P w K mg base 2 "_law_asked" GO:=
 mk 2 Ew CH D (by walk_at "sc") (by walk_at "bi") (by walk_at "mk")
theorem D9(T:Txt mg)(D:Df K mg "_law_due" Db)(_:FnM P w K mg base 2 "_law_fits" Hg):FnM P w K mg base 3 "_law_due" Hf:=
 mk 3 Ev B2 D (by walk_at "sc") (by walk_at "bi") (by walk_at "mk")
theorem ES(T:Txt mg)(D:Df K mg "_law_right" Du):FnM P w K mg base 1 "_law_right" He:=
 mk 2 El BM D (by walk_at "sc") (by walk_at "bi") (by walk_at "mk")
def BH{f:Z2}{fd:FuncData}(F:Fun K "law" "law" s_law f fd)(hm:mg "law"=some (.ref f))(T:Txt mg)(_:FnM P w K mg base 7 "answers" F2)(_:FnM P w K mg base 1 "_law_mix" r_)(_:FnM P w K mg base 3 "_law_world" Hm)(_:FnM P w K mg base 2 "_law_letters" Hl)(_:FnM P w K mg base 2 "_law_row" Ge)(_:FnM P w K mg base 1 "_law_stand" Hj)(_:FnM P w K mg base 3 "_law_pattern" Hi)(_:FnM P w K mg base 2 "_law_asked" GO)(_:FnM P w K mg base 3 "_law_due" Hf)(_:FnM P w K mg base 1 "_law_right" He):FnOk P w K mg base CX0 8 f fd (N_law.take 1) (spM K f_law):=
 (mkF 1 N_law w9 F hm (by walk_at "sc") (by walk_at "bi") (by walk_at "mk")).1
end
end K13
namespace K13
open PySem L2
variable[Lams]
def all_mk{l:PySem.W.OpenLaw}{w:Zo}{K:Z5}{h:Heap}{mg:Str->Z_ Z7}{fa c_ P_:Z2}(S:Seen defsK blK [("search_order",c_)] K)(X:K.In h)(G:h.Ns mainGlobals mg)(LH:mg "law"=some (.ref fa))(Kr:((P_,("search_order.<locals>.<lambda>":Str)):Z2×Str)∈Lams.tb)(Ks:PySem.W.codeHdIn K c_ P_=true):
  ∃fd:FuncData,(∀(s:Z4)(v:Z7),BindsTo s fd ⟨[v],[]⟩ [("_law_script",v)])/\∀base:Heap,K.In base->base.Ns mainGlobals mg->FnOk l.prog w K mg base CX0 8 fa fd ["_law_script"] (spM K f_law):=by
 have T:Txt mg:=S.txt X G;obtain⟨f,fd,F,hm⟩:=S.df X G 25 rfl;cases LH.symm.trans hm;have F':=F;obtain⟨oc,od,kV,doc,pm,an,E5,ct,IE,rfl,_,_⟩:=F'.ex;refine⟨PySem.W.fnOf "law" "law" (defArgs s_law) (defBody s_law) (defScope s_law) .none kV doc pm an E5 ct,fun s v=>.of_eq rfl,fun base KB _=>?_⟩
 have M_letters_of:=@DP _ l.prog w K mg base T (S.df X G 0 rfl);have M_binding_of:=@Em _ l.prog w K mg base T (S.df X G 1 rfl);have M_bindings:=@D7 _ l.prog w K mg base T (S.df X G 2 rfl) M_binding_of;have M_is_linked:=@DY _ l.prog w K mg base T (S.df X G 3 rfl) M_letters_of;have M_search_order:=@Ed _ l.prog w K mg base c_ P_ (S.dfC X G 4 0 rfl rfl) T Kr (PySem.W.codeHd_of_K KB Ks) M_letters_of M_bindings M_is_linked;have M_places_of:=@EF _ l.prog w K mg base T (S.df X G 5 rfl);have M_grouped:=@DM _ l.prog w K mg base T (S.df X G 6 rfl);have M_picked:=@EO _ l.prog w K mg base T (S.df X G 7 rfl);have M_extended:=@Ea _ l.prog w K mg base T (S.df X G 8 rfl) M_picked;have M_joined_from:=@Ee _ l.prog w K mg base T (S.df X G 9 rfl) M_letters_of M_search_order M_places_of M_grouped M_picked M_extended;have M_joined:=@Ep _ l.prog w K mg base T (S.df X G 10 rfl) M_joined_from;have M_answers:=@DU _ l.prog w K mg base T (S.df X G 11 rfl) M_joined;have M__law_mix:=@DQ _ l.prog w K mg base T (S.df X G 12 rfl);have M__law_words:=@EE _ l.prog w K mg base T (S.df X G 13 rfl) M__law_mix;have M__law_world:=@EB _ l.prog w K mg base T (S.df X G 14 rfl) M__law_mix M__law_words;have M__law_letters:=@EH _ l.prog w K mg base T (S.df X G 15 rfl) M__law_mix;have M__law_cell_by:=@EA _ l.prog w K mg base T (S.df X G 16 rfl);have M__law_row:=@D0 _ l.prog w K mg base T (S.df X G 17 rfl) M__law_mix M__law_cell_by;have M__law_stand:=@Ey _ l.prog w K mg base T (S.df X G 18 rfl);have M__law_pattern:=@EX _ l.prog w K mg base T (S.df X G 19 rfl) M__law_mix M__law_row;have M__law_joined:=@EL _ l.prog w K mg base T (S.df X G 20 rfl);have M__law_fits:=@EZ _ l.prog w K mg base T (S.df X G 21 rfl) M__law_joined;have M__law_asked:=@Eg _ l.prog w K mg base T (S.df X G 22 rfl) M__law_mix;have M__law_due:=@D9 _ l.prog w K mg base T (S.df X G 23 rfl) M__law_fits;have M__law_right:=@ES _ l.prog w K mg base T (S.df X G 24 rfl);exact BH F LH T M_answers M__law_mix M__law_world M__law_letters M__law_row M__law_stand M__law_pattern M__law_asked M__law_due M__law_right
end K13
namespace K13
open PySem L2 JP
variable[Lams]
def na:(("name":Str)="any")=False:=by simp;decide +kernel
theorem at0(a b:D):atI [a,b] 0=some a:=rfl
theorem at1(a b:D):atI [a,b] 1=some b:=rfl
def E4(a:D)(r:List D):atI (a::r) 0=some a:=by unfold atI ixN;simp
theorem fm:∀ts:List Te,(ans ts).length<=ts.length
 |[]=>ZU _
 |.any m::ts=>by have:=fm ts;simp[ans];lia
 |.nm w::ts=>by have:=fm ts;simp[ans];lia
def bu(ps:List Pat):List Str:=(ps.map fun p=>ans p.2).flatten
def iG{ps:List Pat}{l:Str}:l∈bu ps↔∃p∈ps,l∈ans p.2:=by
 unfold bu;rw[List.mem_flatten];constructor
 .rintro⟨x,hx,hl⟩
  obtain⟨p,hp,rfl⟩:=ZL.mp hx;exact⟨p,hp,hl⟩
 .rintro⟨p,hp,hl⟩
  exact⟨_,ZL.mpr ⟨p,hp,rfl⟩,hl⟩
theorem bR:∀{ps:List Pat},(∀p∈ps,p.2.length<=4)->(bu ps).length<=4*ps.length
 |[],_=>ZU _
 |p::ps,h=>by
  have h1:=bR fun q hq=>h q (ZZ _ hq)
  have h2:=fm p.2;have h3:=h p (ZV ..);have:bu (p::ps)=ans p.2++bu ps:=by simp[bu]
  rw[this,Zz,List.length_cons]
  lia
def ui(ts:List Te):bb (aC (aa 4) (fun δ=>eqO (ixO (rd false 4 δ) (some (.int 0))) (some (.str "any"))) mf [none,none,none,none,none]) (ts.map teD)=some ((ans ts).map D.str):=by
 induction ts with
 |nil=>rfl
 |cons c ts ih=>
  rw[Z1];unfold bb;rw[ih];cases c with
  |any n=>simp[aC,teD,mf,at0,at1,aU,ans]
  |nm w=>simp[aC,teD,mf,at0,at1,aU,na,ans]
theorem km:∀(rs:List Pat)(acc:List Str)(a0 x2 x3 x4:Z_ (D×Bool)),(∀r∈rs,r.2.length<=4)->acc.length+4*rs.length<=1000->∃y2 y3,
  am (fun d δ=>ae ((aK (ah (aa 2) (ah (aa 3) (toNil)))) d δ) rY) (rs.map aF) [a0,some (.lst (acc.map D.str),true),x2,x3,x4]=some (.next [a0,some (.lst ((acc++bu rs).map D.str),true),y2,y3,x4])
 |[],acc,a0,x2,x3,x4,_,_=>⟨x2,x3,by simp[am,bu]⟩
 |r::rs,acc,a0,x2,x3,x4,h4,hl=>by
  have hr:=h4 r (ZV ..);have hb:=fm r.2;rw[List.length_cons]at hl;obtain⟨y2,y3,e⟩:=km rs (acc++ans r.2) a0 (some (.str r.1,false)) (some (.tup (r.2.map teD),false)) x4 (fun q hq=>h4 q (ZZ _ hq)) (by simp;lia)
  refine⟨y2,y3,?_⟩
  have en:acc++bu (r::rs)=acc++ans r.2++bu rs:=by simp[bu]
  rw[en,<-e,Z1]
  conv=>lhs;unfold am
  simp[aF,rY];rw[aQ (by simp;lia)]
  simp[ax];have:=ui r.2;rw[this];simp[v5];rw[Z0 (by lia)]
def bq{ps:List Pat}(hl:ps.length<=4)(h4:∀p∈ps,p.2.length<=4):Fl [.lst (ps.map aF)]=some (.lst (sU (bu ps)),true):=by
 obtain⟨y2,y3,e⟩:=km ps [] (some (.lst (ps.map aF),false)) none none none h4 (by simp;lia)
 have:=bR h4;rw[ay (f:=Fl) (δ:=[some (.lst (ps.map aF),false),none,none,none,none]) rfl rfl rfl];rw[Y7]at e;simp[BS];rw[e];simp[vP];rw[jB (by lia)]
 simp
def gW(ss:List Str):∃us:List Str,sU ss=us.map D.str/\us.Nodup/\(∀x,x∈us↔x∈ss)/\us.length<=ss.length:=by
 have hp:=cL (uS ss);exact⟨eB (uS ss),rfl,hp.nodup_iff.mpr (eG ss),fun x=>hp.mem_iff.trans (i8 x ss),hp.length_eq▸wP ss⟩
def bD(b:Bi):D:=.dK (b.map fun q=>.inr q.1) (b.map fun q=>ceD q.2)
theorem sM(l:Str):∀b:Bi,b7 (.inr l:Key) (b.map fun q=>(.inr q.1:Key)) (b.map fun q=>ceD q.2)=(gt b l).map ceD
 |[]=>rfl
 |(k,c)::b=>by
  rw[Z1,Z1,b7,cE,sM l b]
  by_cases h:k=l
  .subst h;simp
  .rw[ZY (fun z=>h (by cases z;rfl)),ZY h]
def sr(b:Bi)(l:Str):b8 (some (bD b)) (some (.str l))=some ((gt b l).map ceD):=by
 unfold bD b8;simp only[fQ,sM]
def sZ{b:Bi}{l:Str}(h:gt b l=none):l∉b.map (·.1):=by
 induction b with
 |nil=>simp
 |cons q b ih=>
  obtain⟨k,c⟩:=q;rw[cE]at h;split at h
  .trivial
  .rename_i n
   simp only[Z1,ZX,Xf];exact⟨fun z=>n z.symm,ih h⟩
def y0{b:Bi}{l:Str}{c:Ce}(h:gt b l=none)(hl:b.length<1000000):jA (bD b) (.str l) (ceD c)=some (bD (b++[(l,c)])):=by
 unfold bD jA;have hm:(.inr l:Key)∉b.map fun q=>(.inr q.1:Key):=fun z=>by
  obtain⟨q,hq,e⟩:=ZL.mp z;exact sZ h (ZL.mpr ⟨q,hq,by cases e;rfl⟩)
 simp only[fQ,ZJ];rw[Z0 (by rw[lim_eq];exact hl)]
 unfold lB zk;rw[ZY hm,ZY hm];simp
def vB(c:Ce):okD 16 (ceD c)=true:=by cases c<;>rfl
def EM(t:Te):okD 16 (teD t)=true:=by cases t<;>rfl
def mB(a b:Ce):neO (some (ceD a)) (some (ceD b))=some (!decide (a=b)):=by
 rw[yC _ _ (by unfold ok2;rw[vB,vB];rfl)]
 congr 2;exact Yt.mpr ⟨iO,fun h=>by rw[h]⟩
def Dm(a b:Ce):eqO (some (ceD a)) (some (ceD b))=some (decide (a=b)):=by
 rw[oM _ _ (by unfold ok2;rw[vB,vB];rfl)]
 congr 1;exact Yt.mpr ⟨iO,fun h=>by rw[h]⟩
def vQ(w:Str)(c:Ce):neO (some (teD (.nm w))) (some (ceD c))=some (!decide (Ce.nm w=c)):=mB (.nm w) c
theorem eS:∀(ts:List Te)(cs:List Ce),cX (ts.map teD) (cs.map ceD)=(ts.zip cs).map fun q=>.tup [teD q.1,ceD q.2]
 |[],cs=>by simp[cX]
 |t::ts,[]=>by simp[cX]
 |t::ts,c::cs=>by simp[cX,eS ts cs]
theorem fj:∀(ts:List Te)(cs:List Ce)(b:Bi)(a0 a1 x3 x4:Z_ (D×Bool)),b.length+ts.length<1000->
  (match bnd ts cs b with
  |some b'=>∃y3 y4,am (fun d δ=>ae ((aK (ah (aa 3) (ah (aa 4) (toNil)))) d δ) kj) ((ts.zip cs).map fun q=>.tup [teD q.1,ceD q.2]) [a0,a1,some (bD b,true),x3,x4]=some (.next [a0,a1,some (bD b',true),y3,y4])
  |none=>am (fun d δ=>ae ((aK (ah (aa 3) (ah (aa 4) (toNil)))) d δ) kj) ((ts.zip cs).map fun q=>.tup [teD q.1,ceD q.2]) [a0,a1,some (bD b,true),x3,x4]=some (.ret .non false))
 |[],cs,b,a0,a1,x3,x4,_=>⟨x3,x4,by simp[am]⟩
 |.any l::ts,[],b,a0,a1,x3,x4,_=>⟨x3,x4,by simp[am]⟩
 |.nm l::ts,[],b,a0,a1,x3,x4,_=>⟨x3,x4,by simp[am]⟩
 |.any l::ts,c::cs,b,a0,a1,x3,x4,hl=>by
  have ih:=fun b hb=>fj ts cs b a0 a1 (some (teD (.any l),false)) (some (ceD c,false)) hb
  rw[List.length_cons]at hl;rw[List.zip_cons_cons,Z1];unfold am;have e0:eqO (ixO (rd false 3 [a0,a1,some (bD b,true),some (teD (.any l),false),some (ceD c,false)]) (some (.int 0))) (some (.str "any"))=some true:=by simp[teD,at0,aU]
  have e1:ixO (rd false 3 [a0,a1,some (bD b,true),some (teD (.any l),false),some (ceD c,false)]) (some (.int 1))=some (.str l):=by simp[teD,at1]
  have e2:rd false 4 [a0,a1,some (bD b,true),some (teD (.any l),false),some (ceD c,false)]=some (ceD c):=by simp
  simp only[toTup_s,toCons_s,toNil_s,toName_s,Zk,List.length_cons,List.length_nil,bindO_s,List.set_cons_succ,List.set_cons_zero,Nat.reduceAdd,Nat.reduceLT];simp only[kj,e0,ifO_t,wH,e1,e2,sdO,rdOwn_1,rdOwn_0,sr,bnd];cases eg:gt b l with
  |some c'=>
   simp only[Option.map_some,neX,bindO_s,e2,mB]
   by_cases hc:c'=c
   .simp only[hc,X9,YU,ifX,nextO_s,Y2]
    have:=ih b (by lia)
    cases eb:bnd ts cs b with
    |some b'=>rw[eb]at this;exact this
    |none=>rw[eb]at this;exact this
   .simp only[hc,X8,XW,ifX,retO_s,Za]
  |none=>
   simp only[Option.map_none,y0 eg (show b.length<1000000 by lia)]
   simp only[neX,bindO_s,List.set_cons_succ,List.set_cons_zero];have e3:rd false 4 [a0,a1,some (bD (b++[(l,c)]),true),some (teD (.any l),false),some (ceD c,false)]=some (ceD c):=by simp
   simp only[e3,mB,X9,YU,ifX,nextO_s];have:=ih (b++[(l,c)]) (by simp;lia)
   cases eb:bnd ts cs (b++[(l,c)])with
   |some b'=>rw[eb]at this;exact this
   |none=>rw[eb]at this;exact this
 |.nm w::ts,c::cs,b,a0,a1,x3,x4,hl=>by
  have ih:=fj ts cs b a0 a1 (some (teD (.nm w),false)) (some (ceD c,false)) (by simp at hl;lia)
  rw[List.zip_cons_cons,Z1];unfold am;have e0:eqO (ixO (rd false 3 [a0,a1,some (bD b,true),some (teD (.nm w),false),some (ceD c,false)]) (some (.int 0))) (some (.str "any"))=some false:=by simp[teD,at0,aU,na]
  have e1:rd false 3 [a0,a1,some (bD b,true),some (teD (.nm w),false),some (ceD c,false)]=some (teD (.nm w)):=by simp
  have e2:rd false 4 [a0,a1,some (bD b,true),some (teD (.nm w),false),some (ceD c,false)]=some (ceD c):=by simp
  simp only[toTup_s,toCons_s,toNil_s,toName_s,Zk,List.length_cons,List.length_nil,bindO_s,List.set_cons_succ,List.set_cons_zero,Nat.reduceAdd,Nat.reduceLT];have RC:eqO (ixO (some (teD (.nm w))) (some (.int 0))) (some (.str "any"))=some false:=by simp[teD,at0,aU,na]
  simp only[kj,e0,RC,ifO_f,e1,e2,vQ,bnd]
  by_cases hc:Ce.nm w=c
  .simp only[hc,X9,YU,ifO_f,nextO_s,Y2]
   exact ih
  .rw[ZY hc]
   simp only[hc,X8,XW,ifO_t,retO_s]
def g8(ts:List Te)(cs:List Ce)(hl:ts.length<=4):Hr [.tup (ts.map teD),.tup (cs.map ceD)]=some (match bnd ts cs []with|some b=>(bD b,true)|none=>(.non,false)):=by
 rw[ay (f:=Hr) (δ:=[some (.tup (ts.map teD),false),some (.tup (cs.map ceD),false),none,none,none]) rfl rfl rfl];have:=fj ts cs [] (some (.tup (ts.map teD),false)) (some (.tup (cs.map ceD),false)) none none (by simp;lia)
 have e0:(.dK [] []:D)=bD []:=rfl;simp only[BZ,setF_s,List.length_cons,List.length_nil,Nat.reduceAdd,Nat.reduceLT,List.set_cons_succ,List.set_cons_zero,seqO_n,rd_0,rd_1,zH,Ac,Y2,tupL_s,bindO_s,eS,e0];cases eb:bnd ts cs []with
 |some b=>
  rw[eb]at this;obtain⟨y3,y4,e⟩:=this;rw[e];simp
 |none=>
  rw[eb]at this;rw[this];simp
end K13
namespace K13
open PySem L2 JP
variable[Lams]
def AM(b:Bi):vi (some (bD b))=some false:=by simp[vi,bD]
theorem gP{p:Pat}(h4:p.2.length<=4):∀(rs:List Row)(acc:List Bi)(a0 x3 x4 x5:Z_ (D×Bool)),acc.length+rs.length<=100000->∃y3 y4 y5,
  am (fun d δ=>ae ((aK (ah (aa 3) (ah (aa 4) (toNil)))) d δ) gB) (rs.map aD) [a0,some (aF p,false),some (.lst (acc.map bD),true),x3,x4,x5]=some (.next [a0,some (aF p,false),some (.lst ((acc++binds rs p).map bD),true),y3,y4,y5])
 |[],acc,a0,x3,x4,x5,_=>⟨x3,x4,x5,by simp[am,binds]⟩
 |r::rs,acc,a0,x3,x4,x5,hl=>by
  rw[List.length_cons]at hl;rw[Z1];have e1:eqO (some (.str r.1)) (ixO (some (aF p)) (some (.int 0)))=some (decide (r.1=p.1)):=by simp[aF,at0,aU]
  have e2:eqO (iM (some (.tup (r.2.map ceD)))) (iM (ixO (some (aF p)) (some (.int 1))))=some (decide (r.2.length=p.2.length)):=by
   simp only[aF,ixO_t,at1,lenL_t,ZJ,eqO_int];congr 1;exact Yt.mpr (by lia)
  have e3:ixO (some (aF p)) (some (.int 1))=some (.tup (p.2.map teD)):=by simp[aF,at1]
  have body:∃y5,gB [a0,some (aF p,false),some (.lst (acc.map bD),true),some (.str r.1,false),some (.tup (r.2.map ceD),false),x5]=some (.next [a0,some (aF p,false),some (.lst ((acc++(fP p r).toList).map bD),true),some (.str r.1,false),some (.tup (r.2.map ceD),false),y5]):=by
   simp only[gB,rd_0,rd_1,e1,e2];unfold fP
   by_cases c1:r.1=p.1
   .by_cases c2:r.2.length=p.2.length
    .rw[Z0 ⟨c1,c2⟩]
     simp only[c1,c2,X9,andO_t,ifO_t,e3,consO_s,bindO_s,g8 p.2 r.2 h4];cases eb:bnd p.2 r.2 []with
     |some b=>
      refine⟨some (bD b,false),?_⟩
      simp[AM];rw[fS (ds:=acc.map bD) (bD b) rfl (by simp;lia)]
      simp
     |none=>
      refine⟨some (.non,false),?_⟩
      simp[vi]
    .rw[ZY (fun z=>c2 z.2)]
     exact⟨x5,by simp[c1,c2]⟩
   .rw[ZY (fun z=>c1 z.1)]
    exact⟨x5,by simp[c1]⟩
  obtain⟨Pn,eb⟩:=body;have hle:(fP p r).toList.length<=1:=by cases fP p r<;>simp
  obtain⟨y3,y4,y5,e⟩:=gP h4 rs (acc++(fP p r).toList) a0 (some (.str r.1,false)) (some (.tup (r.2.map ceD),false)) Pn (by simp;lia)
  refine⟨y3,y4,y5,?_⟩
  have en:acc++binds (r::rs) p=acc++(fP p r).toList++binds rs p:=by
   unfold binds;rw[List.filterMap_cons];cases fP p r<;>simp
  rw[en,<-e]
  conv=>lhs;unfold am
  have et:ae ((aK (ah (aa 3) (ah (aa 4) (toNil)))) (aD r) [a0,some (aF p,false),some (.lst (acc.map bD),true),x3,x4,x5]) gB=gB [a0,some (aF p,false),some (.lst (acc.map bD),true),some (.str r.1,false),some (.tup (r.2.map ceD),false),x5]:=by
   simp[aD]
  rw[et,eb]
def lL{p:Pat}(h4:p.2.length<=4){rs:List Row}(hl:rs.length<=1000):GQ [.lst (rs.map aD),aF p]=some (.lst ((binds rs p).map bD),true):=by
 rw[ay (f:=GQ) (δ:=[some (.lst (rs.map aD),false),some (aF p,false),none,none,none,none]) rfl rfl rfl];obtain⟨y3,y4,y5,e⟩:=gP h4 rs [] (some (.lst (rs.map aD),false)) none none none (by simp;lia)
 simp[Cc];rw[Y7]at e;rw[e];simp
def i0(rs:List Row)(p:Pat):(binds rs p).length<=rs.length:=Xc ..
def prD(rs:List Row)(p:Pat):D:=.tup [aF p,.lst ((binds rs p).map bD)]
def eX(l:Str)(ss:List Str):inO (some (.str l)) (some (.lst (ss.map D.str)))=some (decide (l∈ss)):=by
 unfold inO;simp only[aP];rw[Z0]
 .congr 1
  apply Yt.mpr;simp
 .rw[ZH,ZM]
  refine⟨rfl,fun x hx=>?_⟩
  obtain⟨c,_,rfl⟩:=ZL.mp hx;rfl
def tX(bs:List Bool):cZ (bs.map D.bl)=some bs:=by
 induction bs with
 |nil=>rfl
 |cons b bs ih=>simp[cZ,ih]
def lk(ks:List Str)(p:Pat):Bool:=(ans p.2).any fun l=>decide (l∈ks)
def q8(p:Pat)(h4:p.2.length<=4)(ks:List Str):Gg [aF p,.lst (ks.map D.str)]=some (.bl (lk ks p),false):=by
 rw[ay (f:=Gg) (δ:=[some (aF p,false),some (.lst (ks.map D.str),false),none]) rfl rfl rfl];have el:=bq (ps:=[p]) (by simp) (by simpa using h4)
 obtain⟨us,e1,_,e3,e4⟩:=gW (bu [p]);rw[e1]at el;have Si:us.length<=1000:=by
  have:=bR (ps:=[p]) (by simpa using h4)
  simp at this;lia
 simp only[Cq,rd_0,rd_1,consO_s,bindO_s];rw[lstO_s _ (by simp)]
 simp only[Z1,Y7]at el;simp only[consO_s,bindO_s,el,frO_s,lstL_s];rw[aQ (by simp;lia)]
 have hc:bb (aC (aa 2) (fun δ=>some true) rA (ax false [false,true,false] [some (aF p,false),some (.lst (ks.map D.str),false),none])) (us.map D.str)=some ((us.map fun l=>decide (l∈ks)).map D.bl):=by
  rw[fR (g:=fun d=>match d with|.str l=>.bl (decide (l∈ks))|d=>d)]
  .simp
  .intro d hd
   obtain⟨l,_,rfl⟩:=ZL.mp hd;simp[aC,ax,rA,eX]
 rw[hc];simp only[lstLim_s,Bq,tX,retO_s,outF_r];congr 3;rw[YL];unfold lk;simp only[Yc,ZL,id_eq];constructor
 .rintro⟨_,⟨l,hl,rfl⟩,h⟩
  have:=(e3 l).mp hl;simp[bu]at this;exact⟨l,this,h⟩
 .rintro⟨l,hl,h⟩
  exact⟨_,⟨l,(e3 l).mpr (by simp[bu];exact hl),rfl⟩,h⟩
def xN{a b:Te}(h:teD a=teD b):a=b:=by
 cases a<;>cases b<;>simp[teD]at h
 .rw[h]
 .exact absurd h.1 (by decide +kernel)
 .exact absurd h.1 (by decide +kernel)
 .rw[h]
theorem pV{α:Type}{f:α->D}(hf:∀a b,f a=f b->a=b):∀{l m:List α},l.map f=m.map f->l=m
 |[],[],_=>rfl
 |[],_::_,h=>by simp at h
 |_::_,[],h=>by simp at h
 |a::l,b::m,h=>by
  simp only[Z1,Yv]at h;rw[hf _ _ h.1,pV hf h.2]
def t5{p q:Pat}(h:aF p=aF q):p=q:=by
 simp[aF]at h;exact Prod.ext h.1 (pV (fun _ _=>xN) h.2)
def zf(t:Te):D.flat (teD t)=true:=by cases t<;>rfl
def uQ(p:Pat):D.flat (aF p)=true:=by
 have:D.flats (p.2.map teD)=true:=by rw[D.flats_all,ZM];intro x hx;obtain⟨t,_,rfl⟩:=ZL.mp hx;exact zf t
 simp[aF,D.flat,D.flats,this]
def Ae(p:Pat):okD 15 (aF p)=true:=by
 simp only[aF,okD,List.all_cons,List.all_nil,Xv,XJ,ZM];intro x hx;obtain⟨t,_,rfl⟩:=ZL.mp hx;cases t<;>rfl
def nV(ss:List Str):D.flats (ss.map D.str)=true:=by
 rw[D.flats_all,ZM];intro x hx;obtain⟨t,_,rfl⟩:=ZL.mp hx;rfl
theorem jT{f:D->Z_ Bool}{g:Pat->Bool}{h:Pat->D}:∀{ps:List Pat},(∀p∈ps,f (h p)=some (g p))->cx f (ps.map h)=some (ps.map g)
 |[],_=>rfl
 |p::ps,e=>by simp only[Z1,cx,e p (ZV ..),jT fun q hq=>e q (ZZ _ hq)]
def sL{bl:List Bool}(h:bl≠[]):aE bl<bl.length:=by
 unfold aE;split
 .rename_i m;exact YR m
 .exact WK.mpr h
def pS{bl:List Bool}{i:Nat}(h:i<aE bl):bl[i]?=some false/\bl[aE bl]?=some true:=by
 unfold aE at h⊢;split at h
 .rename_i m
  rw[Z0 m];have hl:=YR m;have h1:=List.not_of_lt_findIdx (p:=fun z=>z==true) (xs:=bl) (i:=i) h
  have hi:i<bl.length:=by lia
  refine⟨?_,?_⟩
  .rw[Y4 hi];simp at h1;rw[h1]
  .rw[Y4 hl];simp
 .lia
def w8(rs:List Row)(ks:List Str)(hk:ks.length<=1000){ao placed:List Pat}(h4:∀p∈ao++placed,p.2.length<=4)(Fc:ao≠[])(hl:ao.length+placed.length<=4)(a0 a1 x5 x6 x7 x8 x9:Z_ (D×Bool)):
  ∃j y5 y6 y7,j<ao.length/\jQ [a0,a1,some (.lst (ks.map D.str),false),some (.lst (ao.map (prD rs)),true),some (.lst (placed.map (prD rs)),true),x5,x6,x7,x8,x9]=
   some (.next [a0,a1,some (.lst (ks.map D.str),false),some (.lst ((ao.eraseIdx j).map (prD rs)),true),some (.lst ((placed++(ao[j]?).toList).map (prD rs)),true),y5,y6,y7,x8,x9]):=by
 have hpl:placed.length<=4:=by lia
 have el:=bq (ps:=placed) hpl (fun p hp=>h4 p (ZI _ hp))
 obtain⟨us,e1,_,e3,e4⟩:=gW (bu placed);have e5:=bR (ps:=placed) (fun p hp=>h4 p (ZI _ hp))
 rw[e1]at el;have hc:bb (aC (aa 9) (fun δ=>some true) mW (ax true [false,false,false,false,false,false,false,false,false,false] [a0,a1,some (.lst (ks.map D.str),false),some (.lst (ao.map (prD rs)),true),some (.lst (placed.map (prD rs)),true),x5,x6,x7,x8,x9])) (placed.map (prD rs))=some (placed.map aF):=by
  have:(placed.map aF)=(placed.map (prD rs)).map fun d=>match d with|.tup (x::_)=>x|d=>d:=by rw[List.map_map];rfl
  rw[this,fR];intro d hd;obtain⟨p,_,rfl⟩:=ZL.mp hd;simp[aC,ax,mW,prD,at0]
 have JQ:D.flats (placed.map aF)=true:=by rw[D.flats_all,ZM];intro x hx;obtain⟨t,_,rfl⟩:=ZL.mp hx;exact uQ t
 have hb:tQ (f8 (some (.lst (ks.map D.str)))) (flO (ae (af (ar (cW (ae (cf (some (.lst (placed.map (prD rs))))) (bW true [false,false,false,false,false,false,false,false,false,false] (aa 9) (fun δ=>some true) mW [a0,a1,some (.lst (ks.map D.str),false),some (.lst (ao.map (prD rs)),true),some (.lst (placed.map (prD rs)),true),x5,x6,x7,x8,x9])))) (some [])) Fl))=some (.lst ((ks++us).map D.str)):=by
  simp only[lstL_s,bindO_s];rw[aQ (by simp;lia),hc]
  simp only[cW,JQ,Y2,lstLim_s,consO_s,bindO_s,el,flO,nV,listO_l];rw[catO_s _ _ (by simp;lia)]
  simp
 have hf:cx (fun d=>nE ((ax true [false,false,false,false,false,true,false,false,false,false] [a0,a1,some (.lst (ks.map D.str),false),some (.lst (ao.map (prD rs)),true),some (.lst (placed.map (prD rs)),true),some (.lst ((ks++us).map D.str),false),x6,x7,x8,x9]).set 9 (some (d,false)))) (ao.map (prD rs))=some (ao.map (lk (ks++us))):=by
  refine jT fun p hp=>?_
  have:=q8 p (h4 p (Y1 _ hp)) (ks++us);simp only[nE,ax,List.zipWith,List.set_cons_succ,List.set_cons_zero,rd_1,rd_0];have e9:∀(x:Z_ D),x=some (.lst ((ks++us).map D.str))->tyB (shO (ae (af (ixO (some (prD rs p)) (some (.int 0))) (af x (some []))) Gg))=some (lk (ks++us) p):=fun x hx=>by rw[hx];simp only[prD,ixO_t,at0,consO_s,bindO_s,this,shO_s,tyB_s]
  exact e9 _ rfl
 have Kq:ao.map (lk (ks++us))≠[]:=by simpa using Fc
 have hj:aE (ao.map (lk (ks++us)))<ao.length:=by have:=sL Kq;simpa using this
 generalize My:aE (ao.map (lk (ks++us)))=j at hj;have LG:(ao.map (prD rs)).getD j .non=prD rs ao[j]:=by rw[YO];simp[hj]
 refine⟨j,some (.lst ((ks++us).map D.str),false),some (.lst (c9 (ao.map (prD rs)) (ao.map (lk (ks++us)))),true),some (prD rs ao[j],false),hj,?_⟩
 have Oe:rd true 4 [a0,a1,some (.lst (ks.map D.str),false),some (.lst (ao.map (prD rs)),true),some (.lst (placed.map (prD rs)),true),x5,x6,x7,x8,x9]=some (.lst (placed.map (prD rs))):=rfl;simp only[jQ,Oe,rd_1,rd_0,hb];rw[setO_s _ _ _ (by simp)]
 simp only[seqO_n,List.set_cons_succ,List.set_cons_zero];unfold pG;simp only[List.getElem?_cons_succ,List.getElem?_cons_zero,hf]
 have h0:(ao.map (prD rs))[0]?=some (prD rs (ao[0]'(by lia))):=by simp[show 0<ao.length by lia]
 simp only[h0,My];rw[Z0]
 .simp only[pI,List.set_cons_succ,List.set_cons_zero,rd_1,rd_0,LG]
  rw[fS (ds:=placed.map (prD rs)) _ rfl (by simp;lia)]
  have em:(ao.map (prD rs)).eraseIdx j=(ao.eraseIdx j).map (prD rs):=by rw[XA,XA,YY,List.map_take,List.map_drop]
  simp[em,hj]
 .refine⟨⟨by simp,by simp,by simp,by simp;lia⟩,?_⟩
  rw[ZH,ZM,ZM];refine⟨fun d hd=>?_,fun d hd=>?_⟩
  .obtain⟨p,_,rfl⟩:=ZL.mp hd;rfl
  .obtain⟨i,hi⟩:=List.mem_iff_getElem?.mp hd
   rw[List.getElem?_take]at hi
   split at hi
   .rename_i Ir
    rw[YD]at hi
    obtain⟨p,hp,rfl⟩:=X7.mp hi;rw[LG];obtain⟨f1,f2⟩:=pS (bl:=ao.map (lk (ks++us))) (i:=i) (by rw[My];exact Ir)
    rw[My]at f2;rw[YD,hp]at f1
    rw[YD,Y4 hj]at f2
    simp only[Option.map_some,ZR]at f1 f2;simp only[dU,prD,Ae,Xv,XJ,Zn];intro e;rw[t5 e,f2]at f1;cases f1
   .cases hi
end K13
namespace K13
open PySem L2 JP
variable[Lams]
theorem bP{α:Type}:∀{l:List α}{j:Nat}{x:α},l[j]?=some x->(x::l.eraseIdx j).Perm l
 |[],j,x,h=>by simp at h
 |a::l,0,x,h=>by simp at h;subst h;exact YX _
 |a::l,j+1,x,h=>by
  rw[List.eraseIdx_cons_succ];exact(List.Perm.swap a x _).trans ((bP (by simpa using h)).cons a)
theorem gI(rs:List Row)(ks:List Str)(hk:ks.length<=1000):∀(n:Nat)(ao placed:List Pat)(a0 a1 x5 x6 x7 x8 x9:Z_ (D×Bool))(fuel:Nat),ao.length=n->n<fuel->(∀p∈ao++placed,p.2.length<=4)->ao.length+placed.length<=4->∃o y5 y6 y7,o.Perm ao/\
  cV jw jQ fuel [a0,a1,some (.lst (ks.map D.str),false),some (.lst (ao.map (prD rs)),true),some (.lst (placed.map (prD rs)),true),x5,x6,x7,x8,x9]=
   some (.next [a0,a1,some (.lst (ks.map D.str),false),some (.lst [],true),some (.lst ((placed++o).map (prD rs)),true),y5,y6,y7,x8,x9])
 |0,ao,placed,a0,a1,x5,x6,x7,x8,x9,fuel,hn,hf,h4,hl=>by
  have:ao=[]:=Yd.mp hn;subst this;obtain⟨f,rfl⟩:∃f,fuel=f+1:=⟨fuel - 1,by lia⟩
  refine⟨[],x5,x6,x7,YX _,?_⟩
  unfold cV;have:jw [a0,a1,some (.lst (ks.map D.str),false),some (.lst (([]:List Pat).map (prD rs)),true),some (.lst (placed.map (prD rs)),true),x5,x6,x7,x8,x9]=some false:=rfl;rw[this];simp
 |n+1,ao,placed,a0,a1,x5,x6,x7,x8,x9,fuel,hn,hf,h4,hl=>by
  obtain⟨f,rfl⟩:∃f,fuel=f+1:=⟨fuel - 1,by lia⟩
  have Fc:ao≠[]:=fun z=>by rw[z]at hn;simp at hn
  obtain⟨j,y5,y6,y7,hj,e⟩:=w8 rs ks hk h4 Fc hl a0 a1 x5 x6 x7 x8 x9;have Lx:ao[j]?=some ao[j]:=by simp[hj]
  have hp:=bP Lx;have hlen:(ao.eraseIdx j).length=n:=by have:=hp.length_eq;simp at this;lia
  have hm:∀p∈ao.eraseIdx j++(placed++ao[j]?.toList),p.2.length<=4:=fun p Fn=>by
   refine h4 p ?_
   rw[Lx]at Fn;simp only[Option.toList_some,Zl,ZE]at Fn⊢
   rcases Fn with q|q|q
   .exact .inl (hp.mem_iff.mp (ZZ _ q))
   .exact .inr q
   .exact .inl (hp.mem_iff.mp (by rw[q];exact ZV ..))
  obtain⟨o,z5,z6,z7,po,e'⟩:=gI rs ks hk n (ao.eraseIdx j) (placed++ao[j]?.toList) a0 a1 y5 y6 y7 x8 x9 f hlen (by lia) hm (by rw[Lx];simp;lia)
  refine⟨ao[j]::o,z5,z6,z7,(po.cons _).trans hp,?_⟩
  have ht:jw [a0,a1,some (.lst (ks.map D.str),false),some (.lst (ao.map (prD rs)),true),some (.lst (placed.map (prD rs)),true),x5,x6,x7,x8,x9]=some true:=by
   cases ao with
   |nil=>exact absurd rfl Fc
   |cons a b=>rfl
  unfold cV;rw[ht];simp only[e];rw[e',Lx];simp
theorem nC(rs:List Row):∀ps:List Pat,gf (fun d=>gC [some (d,false)]) (ps.map (prD rs))=some (ps.map fun p=>((binds rs p).length:Int))
 |[]=>rfl
 |p::ps=>by
  simp only[Z1,gf,nC rs ps];have:gC [some (prD rs p,false)]=some (.int (binds rs p).length):=by simp[gC,prD,at1]
  rw[this]
def kR{f:Pat->D}(ps:List Pat)(ks:List Int)(h:ks.length=ps.length)(h5:ks.length<5):∃o:List Pat,o.Perm ps/\ny (ps.map f) ks=o.map f:=by
 have hp:=fA h5;rw[h]at hp;refine⟨(hZ ks).filterMap fun i=>ps[i]?,?_,?_⟩
 .have e:(List.range ps.length).filterMap (fun i=>ps[i]?)=ps:=by
   clear hp h;have key:∀(l pre:List Pat),((List.range' pre.length l.length).filterMap fun i=>(pre++l)[i]?)=l:=by
    intro l
    induction l with
    |nil=>intro pre;rfl
    |cons a l ih=>
     intro pre;rw[List.length_cons,List.range'_succ,List.filterMap_cons];have:(pre++a::l)[pre.length]?=some a:=by simp
     rw[this];have:=ih (pre++[a]);simp only[Zz,List.length_singleton,Zg,List.singleton_append]at this;rw[this]
   have:=key ps []
   simpa[List.range_eq_range']using this
  have:=hp.filterMap fun i=>ps[i]?
  rw[e]at this;exact this
 .unfold ny
  rw[List.map_filterMap];have hm:∀i∈hZ ks,i<ps.length:=fun i hi=>Yx.mp (hp.mem_iff.mp hi)
  generalize hZ ks=kp at hm
  induction kp with
  |nil=>rfl
  |cons i l ih=>
   have hi:=hm i (ZV ..);rw[Z1,List.filterMap_cons,ih fun j hj=>hm j (ZZ _ hj)]
   have:ps[i]?=some ps[i]:=by simp[hi]
   rw[this];simp[hi]
def fH(rs:List Row)(Fb:rs.length<=1000)(ks:List Str)(hk:ks.length<=1000){ps:List Pat}(h4:∀p∈ps,p.2.length<=4)(hl:ps.length<=4):∃o:List Pat,o.Perm ps/\
  Hs [.lst (rs.map aD),.lst (ps.map aF),.lst (ks.map D.str)]=some (.lst (o.map (prD rs)),true):=by
 obtain⟨o1,p1,e1⟩:=kR (f:=prD rs) ps (ps.map fun p=>((binds rs p).length:Int)) (by simp) (by simp;lia)
 have Rb:∀p∈o1++[],p.2.length<=4:=fun p hp=>h4 p (p1.mem_iff.mp (by simpa using hp))
 have Gz:o1.length=ps.length:=p1.length_eq;obtain⟨o,y5,y6,y7,po,e⟩:=gI rs ks hk o1.length o1 [] (some (.lst (rs.map aD),false)) (some (.lst (ps.map aF),false)) none none none none none 1000 rfl (by lia) Rb (by simp;lia)
 refine⟨o,po.trans p1,?_⟩
 rw[ay (f:=Hs) (δ:=[some (.lst (rs.map aD),false),some (.lst (ps.map aF),false),some (.lst (ks.map D.str),false),none,none,none,none,none,none,none]) rfl rfl rfl];have hc:bb (aC (aa 8) (fun δ=>some true) i7 (ax false [true,false,false,false,false,false,false,false,false,false] [some (.lst (rs.map aD),false),some (.lst (ps.map aF),false),some (.lst (ks.map D.str),false),none,none,none,none,none,none,none])) (ps.map aF)=some (ps.map (prD rs)):=by
  have key:∀qs:List Pat,(∀p∈qs,p.2.length<=4)->bb (aC (aa 8) (fun δ=>some true) i7 (ax false [true,false,false,false,false,false,false,false,false,false] [some (.lst (rs.map aD),false),some (.lst (ps.map aF),false),some (.lst (ks.map D.str),false),none,none,none,none,none,none,none])) (qs.map aF)=some (qs.map (prD rs)):=by
   intro qs
   induction qs with
   |nil=>intro _;rfl
   |cons q qs ih=>
    intro h;rw[Z1];unfold bb;have:aC (aa 8) (fun δ=>some true) i7 (ax false [true,false,false,false,false,false,false,false,false,false] [some (.lst (rs.map aD),false),some (.lst (ps.map aF),false),some (.lst (ks.map D.str),false),none,none,none,none,none,none,none]) (aF q)=some (some (prD rs q)):=by
     simp[aC,ax,i7,lL (h q (ZV ..)) Fb,prD]
    rw[this,ih fun p hp=>h p (ZZ _ hp)]
    rfl
  exact key ps h4
 simp only[Ik,rd_1,rd_0,lstL_s,bindO_s];rw[aQ (by simp;lia),hc]
 have hs:gy (ar (some (ps.map (prD rs)))) (fun d=>gC [some (d,false)])=some (.lst (o1.map (prD rs))):=by
  unfold gy;simp only[lstLim_s,nC,e1];rw[Z0 (by simp;lia)]
 rw[hs,setF_s _ _ _ (by simp)]
 simp only[seqO_n,List.set_cons_succ,List.set_cons_zero];rw[lstO_s _ (by simp),setF_s _ _ _ (by simp)]
 simp only[seqO_n,List.set_cons_succ,List.set_cons_zero];rw[Y7]at e;rw[e];simp
end K13
namespace K13
open PySem L2 JP
variable[Lams]
theorem cM{α:Type}{f:α->D}{h:α->D}{p:α->Bool}{F:D->Z_ (Z_ D)}:∀{xs:List α},(∀x∈xs,F (f x)=some (if p x=true then some (h x) else none))->bb F (xs.map f)=some ((xs.filter p).map h)
 |[],_=>rfl
 |x::xs,H=>by
  rw[Z1];unfold bb;rw[H x (ZV ..),cM fun y hy=>H y (ZZ _ hy),List.filter_cons]
  cases p x<;>rfl
def dr{α:Type}{f:α->D}{h:α->D}{F:D->Z_ (Z_ D)}{xs:List α}(H:∀x∈xs,F (f x)=some (some (h x))):bb F (xs.map f)=some (xs.map h):=by
 have:=cM (f:=f) (h:=h) (p:=fun _=>true) (F:=F) (xs:=xs) fun x hx=>by rw[H x hx];rfl
 rwa[List.filter_eq_self.mpr fun _ _=>rfl]at this
def iA(ns:List Nat):D:=.lst (ns.map fun n:Nat=>D.int n)
def cD(c:List Ce):D:=.tup (c.map ceD)
def mY{a b:List Ce}(h:cD a=cD b):a=b:=by
 unfold cD at h;injection h with h
 induction a generalizing b with
 |nil=>cases b with
  |nil=>rfl
  |cons=>simp at h
 |cons x a ih=>cases b with
  |nil=>simp at h
  |cons y b=>simp only[Z1,Yv]at h;rw[iO h.1,ih h.2]
def pM(c:List Ce):bH 8 (cD c)=true:=by
 unfold cD;simp only[bH];rw[ZM];intro d hd;obtain⟨x,_,rfl⟩:=ZL.mp hd;cases x<;>rfl
theorem sS(c:List Ce):uO (cD c)=true:=rfl
def CT(c:List Ce):okD 15 (cD c)=true:=by
 unfold cD;simp only[okD];rw[ZM];intro d hd;obtain⟨x,_,rfl⟩:=ZL.mp hd;cases x<;>rfl
theorem qR(l:Str):∀known:List Str,(known.map D.str).idxOf (.str l)=known.idxOf l
 |[]=>rfl
 |k::known=>by
  rw[Z1,List.idxOf_cons,List.idxOf_cons,qR l known];have:((D.str k==D.str l):Bool)=(k==l):=by
   by_cases h:k=l
   .subst h;rw[Yh,Yh]
   .have h':¬D.str k=D.str l:=fun z=>h (by injection z)
    rw[beq_false_of_ne h,beq_false_of_ne h']
  rw[this]
def uE{l:Str}{known:List Str}(h:l∈known)(hk:known.length<=1000):zi (some (.lst (known.map D.str))) (some (.str l))=some (.int (known.idxOf l)):=by
 unfold zi;simp only[qR];rw[Z0];refine⟨rfl,?_,by rw[ZJ];exact YR h,by simp;lia⟩
 rw[ZM];intro d hd;obtain⟨x,_,rfl⟩:=ZL.mp hd;rfl
def cr{ls known:List Str}(h:∀l∈ls,l∈known)(hl:ls.length<=1000)(hk:known.length<=1000):Gf [.lst (ls.map D.str),.lst (known.map D.str)]=some (iA (aL ls known),true):=by
 rw[ay (f:=Gf) (δ:=[some (.lst (ls.map D.str),false),some (.lst (known.map D.str),false),none]) rfl rfl rfl];simp only[BQ,rd_0,lstL_s,bindO_s];rw[aQ (by simp;lia)]
 have:=dr (f:=D.str) (h:=fun l=>D.int (known.idxOf l)) (xs:=ls) (F:=aC (aa 2) (fun δ=>some true) pN (ax false [false,true,false] [some (.lst (ls.map D.str),false),some (.lst (known.map D.str),false),none])) fun l hm=>by
  simp[aC,ax,pN,uE (h l hm) hk]
 rw[this];simp[iA,aL]
def fE{c:List Ce}{ps:List Nat}(h:∀i∈ps,i<c.length)(hl:ps.length<=1000):F1 [cD c,iA ps]=some (cD (pk c ps),false):=by
 rw[ay (f:=F1) (δ:=[some (cD c,false),some (iA ps,false),none]) rfl rfl rfl];simp only[B5,rd_0,rd_1,iA,lstL_s,bindO_s];rw[aQ (by simp;lia)]
 have:=dr (f:=fun n:Nat=>D.int n) (h:=fun n=>ceD (c.getD n default)) (xs:=ps) (F:=aC (aa 2) (fun δ=>some true) qC (ax false [true,false,false] [some (cD c,false),some (.lst (ps.map fun n:Nat=>D.int n),false),none])) fun n hm=>by
  have hn:=h n hm;have:atI (c.map ceD) (n:Int)=some (ceD (c.getD n default)):=wf (by lia) (by simp[hn])
  simp[aC,ax,qC,cD,this]
 rw[this];simp[cD,pk]
def gD(g:Gr):List (D×List D):=g.map fun q=>(cD q.1,q.2.map cD)
theorem wN(k e:List Ce):∀g:Gr,aY (gD g) (cD k) (cD e)=gD (lU g k e)
 |[]=>rfl
 |q::g=>by
  have ih:=wN k e g;unfold gD at ih⊢;rw[Z1];unfold aY lU;have h1:(cD q.1=cD k)=(q.1=k):=propext ⟨mY,fun h=>by rw[h]⟩
  have h2:(cD e∈q.2.map cD)=(e∈q.2):=propext ⟨fun h=>by
   obtain⟨x,hx,he⟩:=ZL.mp h;rwa[<-mY he],fun h=>ZL.mpr ⟨e,h,rfl⟩⟩
  simp only[h1,h2,ih];split
  .split<;>simp
  .simp
def AX{b:Bi}{l:Str}{c:Ce}(h:gt b l=some c):zl (some (bD b)) (some (.str l))=some (ceD c):=by
 unfold zl;rw[sr,h];rfl
def o6{b:Bi}{sh:List Str}(h:∀l∈sh,∃c,gt b l=some c)(ε:DEnv)(hm:ε=[none,none,none,none,some (bD b,false),none,none,none]):
  bb (aC (aa 7) (fun δ=>some true) Fy ε) (sh.map D.str)=some ((vl b sh).map ceD):=by
 subst hm;have:=dr (f:=D.str) (h:=fun l=>ceD ((gt b l).getD default)) (xs:=sh) (F:=aC (aa 7) (fun δ=>some true) Fy [none,none,none,none,some (bD b,false),none,none,none]) fun l hm=>by
  obtain⟨c,hc⟩:=h l hm;simp[aC,Fy,AX hc,hc]
 rw[this];simp[vl]
theorem mS{sh ad:List Str}(h1:sh.length<=1000)(h2:ad.length<=1000)(a0:D):∀(bs:List Bi)(g:Gr)(a4 a5:Z_ (D×Bool)),(∀b∈bs,∀l∈sh++ad,∃c,gt b l=some c)->
  bX 4 5 6 mQ mM (bs.map bD) [some (a0,false),some (.lst (sh.map D.str),false),some (.lst (ad.map D.str),false),none,a4,a5,none,none] (gD g)=some (gD (bs.foldl (fun g b=>lU g (vl b sh) (vl b ad)) g))
 |[],g,a4,a5,_=>rfl
 |b::bs,g,a4,a5,h=>by
  have hb:=h b (ZV ..);have ih:=mS h1 h2 a0 bs (lU g (vl b sh) (vl b ad)) (some (bD b,false)) (some (cD (vl b sh),false)) fun b' FA=>h b' (ZZ _ FA)
  rw[Z1,List.foldl_cons,<-ih]
  conv=>lhs;unfold bX
  have e1:mQ [some (a0,false),some (.lst (sh.map D.str),false),some (.lst (ad.map D.str),false),none,some (bD b,false),a5,none,none]=some (cD (vl b sh)):=by
   simp only[mQ,rd_1,rd_0,lstL_s,bindO_s];rw[aQ (by simp;lia)]
   exact congrArg (fun z=>cS (ar z)) (o6 (fun l hl=>hb l (Y1 _ hl)) _ rfl)
  have e2:mM [some (a0,false),some (.lst (sh.map D.str),false),some (.lst (ad.map D.str),false),none,some (bD b,false),some (cD (vl b sh),false),none,none]=some (cD (vl b ad)):=by
   simp only[mM,rd_1,rd_0,lstL_s,bindO_s];rw[aQ (by simp;lia)]
   have:=o6 (fun l hl=>hb l (ZI _ hl)) _ rfl
   have hh:(wF:DEnv->Z_ D)=Fy:=rfl;rw[hh];exact congrArg (fun z=>cS (ar z)) this
  simp only[List.set_cons_succ,List.set_cons_zero,e1,e2,pM,sS,Bool.and_self,Y2,wN]
def oS{bs:List Bi}{sh ad:List Str}(h1:sh.length<=1000)(h2:ad.length<=1000)(hl:bs.length<=1000)(h:∀b∈bs,∀l∈sh++ad,∃c,gt b l=some c):
  Hq [.lst (bs.map bD),.lst (sh.map D.str),.lst (ad.map D.str)]=some (mI (gD (grp bs sh ad)),true):=by
 rw[ay (f:=Hq) (δ:=[some (.lst (bs.map bD),false),some (.lst (sh.map D.str),false),some (.lst (ad.map D.str),false),none,none,none,none,none]) rfl rfl rfl];unfold BC zW;rw[Z0 ⟨rfl,by simp,by simp,by simp,by simp⟩]
 have e0:wK ([some (.lst (bs.map bD),false),some (.lst (sh.map D.str),false),some (.lst (ad.map D.str),false),none,none,none,none,none].set 3 none)=some (bs.map bD):=rfl;simp only[e0];rw[Z0 (by simp;lia)]
 have:=mS h1 h2 (.lst (bs.map bD)) bs [] none none h;simp only[List.set_cons_succ,List.set_cons_zero];have hg:gD []=[]:=rfl;rw[hg]at this;rw[this];rfl
theorem wu(k:List Ce):∀g:Gr,(b7 (cD k) ((gD g).map (·.1)) ((gD g).map fun p=>(.dD p.2 (p.2.map fun _=>.bl true):D))).getD (.dD [] [])=.dD ((ce g k).map cD) ((ce g k).map fun _=>.bl true)
 |[]=>rfl
 |q::g=>by
  have ih:=wu k g;rw[aT];show(b7 (cD k) (cD q.1::(gD g).map (·.1)) ((.dD (q.2.map cD) ((q.2.map cD).map fun _=>.bl true):D)::_)).getD _=_
  unfold b7
  by_cases h:q.1=k
  .rw[Z0 (by rw[h]),Z0 h];simp
  .rw[ZY fun z=>h (mY z),ZY h];exact ih
def BX(g:Gr)(k:List Ce):j7 (some (mI (gD g))) (some (cD k)) (some (.dD [] []))=some (.dD ((ce g k).map cD) ((ce g k).map fun _=>.bl true)):=by
 unfold j7 b8 mI;simp only[pM,sS,Bool.and_self,Y2,wu]
def kL(l:List (List Ce)):D:=.dD (l.map cD) (l.map fun _=>.bl true)
def ox{ks:List D}(k:D):∀{n:List (List Ce)},ks.length=n.length->oC k (.bl true) ks (n.map fun _=>(.bl true:D))=n.map fun _=>.bl true:=by
 induction ks with
 |nil=>intro n h;cases n with
  |nil=>rfl
  |cons=>simp at h
 |cons a ks ih=>intro n h;cases n with
  |nil=>simp at h
  |cons b n=>simp only[Z1,oC,ite_self,ih (by simpa using h)]
def qS(x:List Ce)(l:List (List Ce))(hl:l.length<100000):jA (kL l) (cD x) (.bl true)=some (kL (ins x l)):=by
 unfold kL jA;have hm:(cD x∈l.map cD)=(x∈l):=propext ⟨fun h=>by
   obtain⟨y,hy,he⟩:=ZL.mp h;rwa[<-mY he],fun h=>ZL.mpr ⟨x,h,rfl⟩⟩
 simp only[pM,sS,Bool.and_self,XJ];rw[Z0 (by simp;lia)]
 unfold lB zk ins;simp only[hm];split
 .rw[ox _ (by simp)]
 .simp
def fu(x:List Ce)(l:List (List Ce)):(ins x l).length<=l.length+1:=by unfold ins;split<;>simp
theorem wx(kc:List Ce)(hk:kc.length<=1000)(a0 a1 a2 a3 a5:Z_ (D×Bool)):∀(as:List (List Ce))(l:List (List Ce))(a7:Z_ (D×Bool)),(∀a∈as,a.length<=1000)->l.length+as.length<=50000->∃y7,
  am (fun d δ=>ae ((aa 7) d δ) pR) (as.map cD) [a0,a1,a2,a3,some (kL l,true),a5,some (cD kc,false),a7]=some (.next [a0,a1,a2,a3,some (kL (as.foldl (fun l a=>ins (kc++a) l) l),true),a5,some (cD kc,false),y7])
 |[],l,a7,_,_=>⟨a7,rfl⟩
 |a::as,l,a7,ha,hl=>by
  rw[List.length_cons]at hl;have hi:=fu (kc++a) l;obtain⟨y7,e⟩:=wx kc hk a0 a1 a2 a3 a5 as (ins (kc++a) l) (some (cD a,false)) (fun x hx=>ha x (ZZ _ hx)) (by lia)
  refine⟨y7,?_⟩
  rw[List.foldl_cons,<-e,Z1]
  conv=>lhs;unfold am
  have hc:ql (some (cD kc)) (some (cD a))=some (cD (kc++a)):=by
   unfold ql cD;have:=ha a (ZV ..);simp only[ZJ,lim_eq];rw[Z0 (by lia),YY]
  simp[pR,oH,hc,qS _ _ (show l.length<100000 by lia)]
theorem mj{sp kp:List Nat}{g:Gr}(h1:sp.length<=1000)(h2:kp.length<=1000)(hg:∀k,((ce g k).length<=500)/\∀a∈ce g k,a.length<=1000)(a0:Z_ (D×Bool)):∀(found l:List (List Ce))(a5 a6 a7:Z_ (D×Bool)),(∀c∈found,∀i∈sp++kp,i<c.length)->l.length+500*found.length<=50000->∃y5 y6 y7,
  am (fun d δ=>ae ((aa 5) d δ) s0) (found.map cD) [a0,some (iA sp,false),some (iA kp,false),some (mI (gD g),false),some (kL l,true),a5,a6,a7]=some (.next [a0,some (iA sp,false),some (iA kp,false),some (mI (gD g),false),some (kL (found.foldl (oR g sp kp) l),true),y5,y6,y7])
 |[],l,a5,a6,a7,_,_=>⟨a5,a6,a7,rfl⟩
 |c::found,l,a5,a6,a7,hc,hl=>by
  rw[List.length_cons]at hl;have MG:=hc c (ZV ..);have g1:=(hg (pk c sp)).1;obtain⟨z7,e1⟩:=wx (pk c kp) (by unfold pk;simpa using h2) a0 (some (iA sp,false)) (some (iA kp,false)) (some (mI (gD g),false)) (some (cD c,false)) (ce g (pk c sp)) l a7 (hg _).2 (by lia)
  have hx:(oR g sp kp l c).length<=l.length+500:=by
   unfold oR;have key:∀(as l:List (List Ce)),(as.foldl (fun l a=>ins (pk c kp++a) l) l).length<=l.length+as.length:=by
    intro as
    induction as with
    |nil=>intro l;simp
    |cons a as ih=>intro l;rw[List.foldl_cons];have:=ih (ins (pk c kp++a) l);have:=fu (pk c kp++a) l;simp;lia
   have:=key (ce g (pk c sp)) l
   lia
  obtain⟨y5,y6,y7,e⟩:=mj h1 h2 hg a0 found (oR g sp kp l c) (some (cD c,false)) (some (cD (pk c kp),false)) z7 (fun x hx=>hc x (ZZ _ hx)) (by lia)
  refine⟨y5,y6,y7,?_⟩
  rw[List.foldl_cons,<-e,Z1]
  conv=>lhs;unfold am
  simp only[toName_s,List.length_cons,List.length_nil,Nat.reduceAdd,Nat.reduceLT,bindO_s,List.set_cons_succ,List.set_cons_zero];simp only[s0,rd_1,rd_0,consO_s,bindO_s,fE (fun i hi=>MG i (ZI _ hi)) h2,shO_s,setO_s,List.length_cons,List.length_nil,Nat.reduceAdd,Nat.reduceLT,seqO_n,List.set_cons_succ,List.set_cons_zero,fE (fun i hi=>MG i (Y1 _ hi)) h1,BX,uU]
  rw[e1];rfl
def ln{found:List (List Ce)}{sp kp:List Nat}{g:Gr}(h1:sp.length<=1000)(h2:kp.length<=1000)(hg:∀k,((ce g k).length<=500)/\∀a∈ce g k,a.length<=1000)(hf:found.length<=100)(h:∀c∈found,∀i∈sp++kp,i<c.length):
  Ho [.lst (found.map cD),iA sp,iA kp,mI (gD g)]=some (.lst ((ext found sp kp g).map cD),true):=by
 rw[ay (f:=Ho) (δ:=[some (.lst (found.map cD),false),some (iA sp,false),some (iA kp,false),some (mI (gD g),false),none,none,none,none]) rfl rfl rfl];obtain⟨y5,y6,y7,e⟩:=mj h1 h2 hg (some (.lst (found.map cD),false)) found [] none none none h (by simp;lia)
 have e0:kL []=.dD [] []:=rfl;rw[e0]at e;simp only[CB,setF_s,List.length_cons,List.length_nil,Nat.reduceAdd,Nat.reduceLT,seqO_n,List.set_cons_succ,List.set_cons_zero,rd_0,lstL_s,bindO_s];rw[e];simp[ww,kL,mE,ext]
end K13
namespace K13
open PySem L2 JP
variable[Lams]
def uf(g:Gr)(k e k':List Ce):(ce (lU g k e) k').length<=(ce g k').length+1:=by
 induction g with
 |nil=>
  unfold lU;rw[aT];split<;>simp[ce]
 |cons q g ih=>
  unfold lU
  by_cases h:q.1=k
  .rw[Z0 h,aT,aT]
   dsimp only
   by_cases h':q.1=k'
   .rw[Z0 h',Z0 h'];split<;>simp
   .rw[ZY h',ZY h'];lia
  .rw[ZY h,aT,aT]
   by_cases h':q.1=k'
   .rw[Z0 h',Z0 h'];lia
   .rw[ZY h',ZY h'];exact ih
def yQ(sh ad:List Str)(k:List Ce)(bs:List Bi):(ce (grp bs sh ad) k).length<=bs.length:=by
 have key:∀(bs:List Bi)(g:Gr),(ce (bs.foldl (fun g b=>lU g (vl b sh) (vl b ad)) g) k).length<=(ce g k).length+bs.length:=by
  intro bs
  induction bs with
  |nil=>intro g;simp
  |cons b bs ih=>intro g;rw[List.foldl_cons];have:=ih (lU g (vl b sh) (vl b ad));have:=uf g (vl b sh) (vl b ad) k;simp;lia
 have:=key bs []
 simpa[ce,grp]using this
def yR{found:List (List Ce)}{sp kp:List Nat}{g:Gr}{n:Nat}(h:∀k,(ce g k).length<=n):(ext found sp kp g).length<=found.length*n:=by
 have kin:∀(c:List Ce)(as l:List (List Ce)),(as.foldl (fun l a=>ins (pk c kp++a) l) l).length<=l.length+as.length:=by
  intro c as
  induction as with
  |nil=>intro l;simp
  |cons a as ih=>intro l;rw[List.foldl_cons];have:=ih (ins (pk c kp++a) l);have:=fu (pk c kp++a) l;simp;lia
 have key:∀(found l:List (List Ce)),(found.foldl (oR g sp kp) l).length<=l.length+found.length*n:=by
  intro found
  induction found with
  |nil=>intro l;simp
  |cons c found ih=>
   intro l;rw[List.foldl_cons];have h1:=ih (oR g sp kp l c);have h2:=kin c (ce g (pk c sp)) l;have h3:=h (pk c sp);unfold oR at h1⊢;rw[List.length_cons,Nat.add_mul]
   lia
 have:=key found []
 simpa[ext]using this
def oN{α:Type}(f:α->D)(a:List α)(x:α)(b:List α):rP ((a++x::b).map f) (some ((a.length:Int)+1)) none=b.map f:=by
 unfold rP;have e:((a.length:Int)+1)=((a.length+1:Nat):Int):=by lia
 rw[e,HT.sIx_nat,HT.sIx_none];simp only[ZJ,Zz,List.length_cons];rw[Nat.min_eq_left (by lia)]
 rw[YK (by simp)]
 rw[<-List.map_drop];congr 1;rw[List.drop_append];simp
def Cg(l:Str)(ss:List Str):bZ (some (.str l)) (some (.lst (ss.map D.str)))=some (!decide (l∈ss)):=by
 unfold bZ;rw[eX];rfl
def iF{own:List Str}{P:Str->Bool}{F:D->Z_ (Z_ D)}(h:∀l∈own,F (.str l)=some (if P l=true then some (.str l) else none)):bb F (own.map D.str)=some ((own.filter P).map D.str):=cM h
def lZ{α:Type}(P:α->Bool)(l:List α):(l.filter P).length<=l.length:=List.length_filter_le ..
def yS{rs:List Row}(Fb:rs.length<=500){wanted:List Str}(hw:wanted.length<=100){done ao:List Pat}{p:Pat}{known:List Str}{found:List (List Ce)}(J:Jn rs wanted done (p::ao) known found)(hk:known.length<=100)(hf:found.length<=100)
  (h4:∀q∈p::ao,q.2.length<=4) (hl:(p::ao).length<=4) (a0 a1 x8 x9 HV HU HR HQ HD HC HB HA:Z_ (D×Bool)):∃E9 E_ y8 y9 JF JE JD JC,Jn rs wanted (done++[p]) ao E9 E_/\E9.length<=known.length+4/\E_.length<=found.length*rs.length/\
  kf [a0,a1,some (.lst (wanted.map D.str),false),some (.lst (known.map D.str),false),some (.lst (found.map cD),false),some (.lst ((done++p::ao).map (prD rs)),false),some (.int done.length,false),some (prD rs p,false),x8,x9,HV,HU,HR,HQ,HD,HC,HB,HA]=
   some (.next [a0,a1,some (.lst (wanted.map D.str),false),some (.lst (E9.map D.str),false),some (.lst (E_.map cD),false),some (.lst ((done++p::ao).map (prD rs)),false),some (.int done.length,false),some (prD rs p,false),y8,y9,JF,JE,JD,JC,HD,HC,HB,HA]):=by
 obtain⟨ls,Ry,_,P5,Sf⟩:=gW (bu ao);obtain⟨own,Nu,GI,M0,RP⟩:=gW (bu [p]);have Oh:=h4 p (ZV ..);have Of:∀q∈ao,q.2.length<=4:=fun q hq=>h4 q (ZZ _ hq)
 have Mq:ao.length<=3:=by simp at hl;lia
 have lr:=bR Of;have lp:(bu [p]).length<=4:=by
  have:=bR (ps:=[p]) fun q hq=>by rw[ZE.mp hq];exact Oh
  simpa using this
 have mo:∀l,l∈own↔l∈ans p.2:=fun l=>by rw[M0,iG];simp
 have ml:∀l,l∈wanted++ls↔l∈wanted\/∃q∈ao,l∈ans q.2:=fun l=>by rw[Zl,P5,iG]
 have Mt:own.length<=4:=by lia
 generalize GK:wanted++ls=later at ml;have Sn:later.length<=200:=by rw[<-GK,Zz];lia
 have J':=wX J mo GI ml;have f1:=lZ (fun l=>decide (l∈known)) own
 have f2:=lZ (fun l=>decide (l∈later)&&!decide (l∈known)) own
 have f3:=lZ (fun l=>decide (l∈later)) known
 have Ha:∀l∈own.filter (fun l=>decide (l∈known)),l∈known:=fun l hl=>by simp at hl;exact hl.2
 have GJ:∀l∈known.filter (fun l=>decide (l∈later)),l∈known:=fun l hl=>by simp at hl;exact hl.1
 have G4:∀b∈binds rs p,∀l∈own,∃c,gt b l=some c:=fun b hb l hl=>(c7 hb).1 l ((mo l).mp hl)
 have Hd:∀l∈own.filter (fun l=>decide (l∈known))++own.filter (fun l=>decide (l∈later)&&!decide (l∈known)),l∈own:=fun l hl=>(Zl.mp hl).elim (fun h=>(YM.mp h).1) fun h=>(YM.mp h).1
 have eg:=oS (bs:=binds rs p) (sh:=own.filter (fun l=>decide (l∈known))) (ad:=own.filter (fun l=>decide (l∈later)&&!decide (l∈known))) (by lia) (by lia) (by have:=i0 rs p;lia) fun b hb l hl=>G4 b hb l (Hd l hl)
 generalize Mp:own.filter (fun l=>decide (l∈known))=sh at*
 generalize QW:own.filter (fun l=>decide (l∈later)&&!decide (l∈known))=ad at*
 generalize LC:known.filter (fun l=>decide (l∈later))=kept at*
 have OD:∀k,(ce (grp (binds rs p) sh ad) k).length<=rs.length:=fun k=>Zh (yQ sh ad k _) (i0 rs p)
 have ee:=ln (found:=found) (sp:=aL sh known) (kp:=aL kept known) (g:=grp (binds rs p) sh ad) (by unfold aL;simp;lia) (by unfold aL;simp;lia) (fun k=>⟨by have:=OD k;lia,fun a ha=>by
   obtain⟨b,_,_,e⟩:=(kZ _ _ _ _ _).mp ha;rw[<-e];unfold vl;simp;lia⟩) hf fun c hc i hi=>by
  obtain⟨φ,rfl,_⟩:=(J.mem c).mp hc;rw[ZJ];have:∃l∈sh++kept,i=known.idxOf l:=by
   unfold aL at hi;rw[<-YY]at hi;obtain⟨l,h1,h2⟩:=ZL.mp hi;exact⟨l,h1,h2.symm⟩
  obtain⟨l,h1,rfl⟩:=this;exact YR ((Zl.mp h1).elim (Ha l) (GJ l))
 have Kt:=cr Ha (by lia) (by lia)
 have GF:=cr GJ (by lia) (by lia)
 refine⟨_,_,some (.lst (later.map D.str),false),some (.lst (own.map D.str),false),some (.lst (sh.map D.str),false),some (.lst (ad.map D.str),false),some (.lst (kept.map D.str),false),some (mI (gD (grp (binds rs p) sh ad)),false),J',by rw[Zz];lia,yR OD,?_⟩
 have c1:bb (aC (aa 17) (fun δ=>some true) rK (ax false [false,false,false,false,false,false,false,false,false,false,false,false,false,false,false,false,false,false] [a0,a1,some (.lst (wanted.map D.str),false),some (.lst (known.map D.str),false),some (.lst (found.map cD),false),some (.lst ((done++p::ao).map (prD rs)),false),some (.int done.length,false),some (prD rs p,false),x8,x9,HV,HU,HR,HQ,HD,HC,HB,HA])) (ao.map (prD rs))=some (ao.map aF):=dr fun q hq=>by
  simp[aC,ax,rK,prD,at0]
 have l1:=bq (ps:=ao) (by lia) Of
 have l2:=bq (ps:=[p]) (by simp) fun q hq=>by rw[ZE.mp hq];exact Oh
 have e0:ixO (some (prD rs p)) (some (.int 0))=some (aF p):=by simp[prD,at0]
 have e1:ixO (some (prD rs p)) (some (.int 1))=some (.lst ((binds rs p).map bD)):=by simp[prD,at1]
 rw[Ry]at l1;rw[Nu,Z1,Y7]at l2;simp only[kf,rd_1,rd_0,listO_l,addI_s,partI_s,cutLO_s,oN,lstL_s,bindO_s];rw[aQ (by simp;lia),c1]
 simp only[lstLim_s,consO_s,bindO_s,l1,frO_s];rw[catO_s _ _ (by simp;lia),<-YY,GK,setO_s _ _ _ (by simp)]
 simp only[seqO_n,List.set_cons_succ,List.set_cons_zero,rd_1,rd_0,e0,consO_s];rw[lstO_s _ (by simp)]
 simp only[consO_s,bindO_s,l2,frO_s];rw[setO_s _ _ _ (by simp)]
 simp only[seqO_n,List.set_cons_succ,List.set_cons_zero,rd_1,rd_0,lstL_s,bindO_s];rw[aQ (by simp;lia),iF (P:=fun l=>decide (l∈known)) fun l hl=>by
  by_cases hm:l∈known<;>simp[aC,ax,vR,eX,hm]]
 rw[Mp,lstLim_s,setF_s _ _ _ (by simp)]
 simp only[seqO_n,List.set_cons_succ,List.set_cons_zero,frzE_1,frzE_0,v8,rd_1,rd_0,lstL_s,bindO_s];rw[aQ (by simp;lia),iF (P:=fun l=>decide (l∈later)&&!decide (l∈known)) fun l hl=>by
  by_cases hm:l∈later<;>by_cases hn:l∈known<;>simp[aC,ax,vO,eX,Cg,hm,hn]]
 rw[QW,lstLim_s,setF_s _ _ _ (by simp)]
 simp only[seqO_n,List.set_cons_succ,List.set_cons_zero,frzE_1,frzE_0,wQ,rd_1,rd_0,lstL_s,bindO_s];rw[aQ (by simp;lia),iF (P:=fun l=>decide (l∈later)) fun l hl=>by
  by_cases hm:l∈later<;>simp[aC,ax,wm,eX,hm]]
 rw[LC,lstLim_s,setF_s _ _ _ (by simp)]
 simp only[seqO_n,List.set_cons_succ,List.set_cons_zero,frzE_1,frzE_0,wD,rd_1,rd_0,e1,consO_s,bindO_s,eg];have RA:frO (some (mI (gD (grp (binds rs p) sh ad)),true))=some (mI (gD (grp (binds rs p) sh ad))):=rfl;rw[RA,setO_s _ _ _ (by simp)]
 have MR:∀ns,frO (some (iA ns,true))=some (iA ns):=fun _=>rfl
 simp only[seqO_n,List.set_cons_succ,List.set_cons_zero,rd_1,rd_0,consO_s,bindO_s,Kt,GF,MR,ee,frO_s];rw[setO_s _ _ _ (by simp)]
 simp only[seqO_n,List.set_cons_succ,List.set_cons_zero,rd_1,rd_0];rw[catO_s _ _ (by simp;lia),setO_s _ _ _ (by simp),<-YY]
 rfl
theorem fI{lt:D->D->Z_ Bool}:∀{xs ys:List D},(∀x∈xs,∀y∈ys,(lt x y).isSome=true)->(cb lt xs ys).isSome=true
 |[],[],_=>rfl
 |[],_::_,_=>rfl
 |_::_,[],_=>rfl
 |x::xs,y::ys,h=>by
  unfold cb;split
  .exact fI fun a ha b hb=>h a (ZZ _ ha) b (ZZ _ hb)
  .exact h x (ZV ..) y (ZV ..)
def bn:¬(Str.ofString "blank")=(Str.ofString "name"):=by decide +kernel
def nb:¬(Str.ofString "name")=(Str.ofString "blank"):=by decide +kernel
def AB(n:Nat)(c e:Ce):(ltD (n+1) (ceD c) (ceD e)).isSome=true:=by
 cases c<;>cases e<;>simp[ceD,ltD,cb,bn,nb]<;>split<;>rfl
def pJ(fs:List (List Ce)):eI (fs.map cD)=true:=by
 unfold eI;rw[ZM];intro x hx;obtain⟨r,_,rfl⟩:=ZL.mp hx;rw[ZH];refine⟨CT r,?_⟩
 rw[ZM];intro y hy;obtain⟨q,_,rfl⟩:=ZL.mp hy;show(cb (ltD 14) (r.map ceD) (q.map ceD)).isSome=true;refine fI fun x hx y hy=>?_
 obtain⟨c,_,rfl⟩:=ZL.mp hx;obtain⟨e,_,rfl⟩:=ZL.mp hy;exact AB 13 c e
def eJ{α:Type}{f:α->D}:∀{l:List D}{fs:List α},l.Perm (fs.map f)->∃gs:List α,gs.Perm fs/\l=gs.map f:=by
 intro l fs h;generalize hm:fs.map f=m at h
 induction h generalizing fs with
 |nil=>exact⟨[],by simp at hm;rw[hm],rfl⟩
 |cons x h ih=>
  cases fs with
  |nil=>simp at hm
  |cons a fs=>
   simp only[Z1,Yv]at hm;obtain⟨gs,p,e⟩:=ih hm.2;exact⟨a::gs,p.cons a,by rw[e,<-hm.1];rfl⟩
 |swap x y l=>
  cases fs with
  |nil=>simp at hm
  |cons a fs=>
   cases fs with
   |nil=>simp at hm
   |cons b fs=>
    simp only[Z1,Yv]at hm;exact⟨b::a::fs,List.Perm.swap ..,by rw[<-hm.1,<-hm.2.1,<-hm.2.2];rfl⟩
 |trans h1 h2 Md Mc=>
  obtain⟨gs,p,e⟩:=Mc hm;obtain⟨Rg,p',e'⟩:=Md e.symm;exact⟨Rg,p'.trans p,e'⟩
def Dc{fs:List (List Ce)}(nd:fs.Nodup){n:Nat}(hn:∀c∈fs,c.length=n):fs.length<2\/(fs.map cD).all (dI .tt)=true:=by
 by_cases h1:fs.length<2
 .exact .inl h1
 .have Ol:n≠0:=fun z=>by
   subst z
   match fs,nd,hn,h1 with
   |[],_,_,h=>simp at h
   |[_],_,_,h=>simp at h
   |a::b::r,nd,hn,_=>
    have ha:=Yd.mp (hn a (by simp))
    have hb:=Yd.mp (hn b (by simp))
    simp[ha,hb]at nd
  refine .inr (ZM.mpr fun d hd=>?_)
  obtain⟨c,hc,rfl⟩:=ZL.mp hd;have:=hn c hc;cases c with
  |nil=>exact absurd this.symm Ol
  |cons x c=>cases x<;>rfl
def Bm{fs:List (List Ce)}(nd:fs.Nodup){n:Nat}(hn:∀c∈fs,c.length=n):jb .tt (some (.lst (fs.map cD)))=some (.lst (aZ (fs.map cD))):=
 mw (pJ fs) (by simpa using Dc nd hn)
theorem j5{rs:List Row}(Fb:rs.length<=500){wanted:List Str}(hw:wanted.length<=100)(a0 a1 HD HC HB HA:Z_ (D×Bool)){n:Nat}(hN:∀k,k<n->rs.length ^ k<=100):∀(ao done:List Pat)(known:List Str)(found:List (List Ce))(x6 x7 x8 x9 HV HU HR HQ:Z_ (D×Bool)),
  done.length+ao.length=n->n<=4->(∀q∈ao,q.2.length<=4)->Jn rs wanted done ao known found->known.length<=4*done.length->found.length<=rs.length ^ done.length->∃E9 E_ y6 y7 y8 y9 JF JE JD JC,Jn rs wanted (done++ao) [] E9 E_/\E9.length<=16/\E_.length<=rs.length ^ n/\
  am (fun d δ=>ae ((aK (ah (aa 6) (ah (aa 7) (toNil)))) d δ) kf) (f9 done.length (ao.map (prD rs))) [a0,a1,some (.lst (wanted.map D.str),false),some (.lst (known.map D.str),false),some (.lst (found.map cD),false),some (.lst ((done++ao).map (prD rs)),false),x6,x7,x8,x9,HV,HU,HR,HQ,HD,HC,HB,HA]=
   some (.next [a0,a1,some (.lst (wanted.map D.str),false),some (.lst (E9.map D.str),false),some (.lst (E_.map cD),false),some (.lst ((done++ao).map (prD rs)),false),y6,y7,y8,y9,JF,JE,JD,JC,HD,HC,HB,HA])
 |[],done,known,found,x6,x7,x8,x9,HV,HU,HR,HQ,h1,h2,h3,J,hk,hf=>by
  simp at h1;exact⟨known,found,x6,x7,x8,x9,HV,HU,HR,HQ,by simpa using J,by lia,by rw[<-h1];exact hf,rfl⟩
 |p::ao,done,known,found,x6,x7,x8,x9,HV,HU,HR,HQ,h1,h2,h3,J,hk,hf=>by
  have hd:done.length<n:=by simp at h1;lia
  have QR:found.length<=100:=Zh hf (hN _ hd);obtain⟨k1,f1,z8,z9,Lj,Li,Lh,Lg,J1,Sq,QQ,e⟩:=yS Fb hw J (by lia) QR h3 (by simp at h1⊢;lia) a0 a1 x8 x9 HV HU HR HQ HD HC HB HA
  obtain⟨k2,f2,y6,y7,y8,y9,JF,JE,JD,JC,J2,Mx,QP,e2⟩:=j5 Fb hw a0 a1 HD HC HB HA hN ao (done++[p]) k1 f1 (some (.int done.length,false)) (some (prD rs p,false)) z8 z9 Lj Li Lh Lg (by simp at h1⊢;lia) h2 (fun q hq=>h3 q (ZZ _ hq)) J1 (by simp;lia)
   (by rw[Zz,List.length_singleton,Nat.pow_succ];exact Zh QQ (Nat.mul_le_mul_right _ hf))
  refine⟨k2,f2,y6,y7,y8,y9,JF,JE,JD,JC,by simpa using J2,Mx,QP,?_⟩
  rw[Zg,List.singleton_append]at e2;rw[Z1];simp only[f9];unfold am;have et:(ae ((aK (ah (aa 6) (ah (aa 7) (toNil)))) (.tup [.int (done.length:Int),prD rs p]) [a0,a1,some (.lst (wanted.map D.str),false),some (.lst (known.map D.str),false),some (.lst (found.map cD),false),some (.lst ((done++p::ao).map (prD rs)),false),x6,x7,x8,x9,HV,HU,HR,HQ,HD,HC,HB,HA]) kf)=some (.next [a0,a1,some (.lst (wanted.map D.str),false),some (.lst (k1.map D.str),false),some (.lst (f1.map cD),false),some (.lst ((done++p::ao).map (prD rs)),false),some (.int (done.length:Int),false),some (prD rs p,false),z8,z9,Lj,Li,Lh,Lg,HD,HC,HB,HA]):=by
   rw[<-e];simp only[toTup_s,toCons_s,toNil_s,toName_s,Zk,List.length_cons,List.length_nil,bindO_s,List.set_cons_succ,List.set_cons_zero,Nat.reduceAdd,Nat.reduceLT]
  rw[et];rw[Zz,List.length_singleton]at e2;exact e2
def sn{rs:List Row}(Fb:rs.length<=500){ps:List Pat}(FJ:ps.length<=4)(h4:∀p∈ps,p.2.length<=4)(hN:∀k,k<ps.length->rs.length ^ k<=100){wanted:List Str}(hw:wanted.length<=100)(Mi:∀l∈wanted,l∈bu ps):∃fs:List (List Ce),fs.Nodup/\(∀x,x∈fs↔∃φ:Fit,x=wanted.map φ/\∀p∈ps,pF rs φ p)/\
  Hu [.lst (rs.map aD),.lst (ps.map aF),.lst (wanted.map D.str)]=some (.lst (aZ (fs.map cD)),true):=by
 obtain⟨o,po,eo⟩:=fH rs (by lia) [] (by simp) h4 FJ
 have ol:=po.length_eq;have ho:∀q∈o,q.2.length<=4:=fun q hq=>h4 q (po.mem_iff.mp hq)
 obtain⟨known,found,y6,y7,y8,y9,JF,JE,JD,JC,J,hk,hf,e⟩:=j5 Fb hw (some (.lst (rs.map aD),false)) (some (.lst (ps.map aF),false)) none none none none (n:=ps.length) hN o [] [] [[]] none none none none none none none none (by simpa using ol) FJ ho (ug rs wanted o) (by simp) (by simp)
 simp only[List.nil_append]at J e;have N7:∀l∈wanted,∃p∈o,l∈ans p.2:=fun l hl=>by
  obtain⟨p,hp,h⟩:=iG.mp (Mi l hl);exact⟨p,po.mem_iff.mpr hp,h⟩
 have N8:∀l∈wanted,l∈known:=fun l hl=>J.has l (N7 l hl) (.inl hl)
 obtain⟨nd,mem⟩:=zp J N7;have es:=Bm nd (n:=wanted.length) (fun c hc=>by
  obtain⟨d,_,rfl⟩:=ZL.mp hc;unfold pk aL;simp)
 have Su:found.length<=50000:=by
  refine Zh hf ?_
  rcases Nat.eq_zero_or_pos ps.length with z|z
  .rw[z];simp
  .obtain⟨m,hm⟩:∃m,ps.length=m+1:=⟨ps.length - 1,by lia⟩
   rw[hm,Nat.pow_succ];exact Zh (WN (hN m (by lia)) Fb) (by decide)
 refine⟨found.map fun c=>pk c (aL wanted known),nd,fun x=>?_,?_⟩
 .rw[mem]
  constructor
  .rintro⟨φ,h1,h2⟩;exact⟨φ,h1,fun p hp=>h2 p (po.mem_iff.mpr hp)⟩
  .rintro⟨φ,h1,h2⟩;exact⟨φ,h1,fun p hp=>h2 p (po.mem_iff.mp hp)⟩
 .have ej:Ht [.lst (rs.map aD),.lst (ps.map aF),.lst (wanted.map D.str),.lst [],.lst [.tup []]]=some (.lst (aZ ((found.map fun c=>pk c (aL wanted known)).map cD)),true):=by
   rw[ay (f:=Ht) (δ:=[some (.lst (rs.map aD),false),some (.lst (ps.map aF),false),some (.lst (wanted.map D.str),false),some (.lst [],false),some (.lst [.tup []],false),none,none,none,none,none,none,none,none,none,none,none,none,none]) rfl rfl rfl];simp only[Y7]at eo;simp only[Cn,rd_1,rd_0,consO_s,bindO_s,eo,frO_s];rw[setO_s _ _ _ (by simp)]
   simp only[seqO_n,List.set_cons_succ,List.set_cons_zero,rd_1,rd_0,tU,bindO_s];simp only[Z1,Y7,List.length_nil]at e;have ec:cD []=.tup []:=rfl;rw[ec]at e;rw[e];simp only[seqO_n,rd_1,rd_0,consO_s,bindO_s];rw[cr N8 (by lia) (by lia)]
   have MR:∀ns,frO (some (iA ns,true))=some (iA ns):=fun _=>rfl
   rw[MR,setO_s _ _ _ (by simp)]
   simp only[seqO_n,List.set_cons_succ,List.set_cons_zero,rd_1,rd_0,lstL_s,bindO_s];rw[aQ (by simp;lia),dr (f:=cD) (h:=fun c=>cD (pk c (aL wanted known))) fun c hc=>by
    obtain⟨φ,rfl,_⟩:=(J.mem c).mp hc;have:=fE (c:=known.map φ) (ps:=aL wanted known) (fun i hi=>by
     unfold aL at hi;obtain⟨l,h1,rfl⟩:=ZL.mp hi;rw[ZJ];exact YR (N8 l h1)) (by unfold aL;simp;lia)
    simp[aC,ax,wj,this]]
   have em:found.map (fun c=>cD (pk c (aL wanted known)))=(found.map fun c=>pk c (aL wanted known)).map cD:=by simp
   rw[lstLim_s,em,es];rfl
  rw[ay (f:=Hu) (δ:=[some (.lst (rs.map aD),false),some (.lst (ps.map aF),false),some (.lst (wanted.map D.str),false)]) rfl rfl rfl];simp only[B9,rd_1,rd_0];rw[lstO_s [] (by simp),tupO_s [] (by simp)]
  simp only[consO_s];rw[lstO_s _ (by simp)]
  simp only[consO_s,bindO_s,ej,frO_s,retF_s,outF_r]
def gw{rs:List Row}(Fb:rs.length<=500){ps:List Pat}(FJ:ps.length<=4)(h4:∀p∈ps,p.2.length<=4)(hN:∀k,k<ps.length->rs.length ^ k<=100){wanted:List Str}(hw:wanted.length<=100)(Mi:∀l∈wanted,l∈bu ps):∃fs:List (List Ce),fs.Nodup/\(∀x,x∈fs↔∃φ:Fit,x=wanted.map φ/\∀p∈ps,pF rs φ p)/\
  F2 [.lst (rs.map aD),.tup [.lst (wanted.map D.str),.lst (ps.map aF)]]=some (.lst (aZ (fs.map cD)),true):=by
 obtain⟨fs,h1,h2,h3⟩:=sn Fb FJ h4 hN hw Mi;refine⟨fs,h1,h2,?_⟩
 rw[ay (f:=F2) (δ:=[some (.lst (rs.map aD),false),some (.tup [.lst (wanted.map D.str),.lst (ps.map aF)],false)]) rfl rfl rfl];simp only[Cs,rd_1,rd_0];simp[h3,at0,at1]
end K13
namespace K13
open PySem L2 JP
variable[Lams]
def nk(b:Bi):Prop:=(b.map (·.1)).Nodup
def vW{b:Bi}{l:Str}{c:Ce}(h:nk b)(hg:gt b l=none):nk (b++[(l,c)]):=by
 unfold nk at*;rw[YY,X2];refine⟨h,by simp,fun a ha d hd e=>?_⟩
 simp at hd;subst hd;exact sZ hg (by rw[<-e];exact ha)
theorem dE:∀{ts:List Te}{cs:List Ce}{b b':Bi},bnd ts cs b=some b'->nk b->nk b'/\b'.length<=b.length+ts.length/\∀l c,gt b' l=some c->gt b l=some c\/l∈ans ts
 |[],cs,b,b',h,hn=>by
  have:b=b':=by cases cs<;>(simp only[bnd,ZR]at h;exact h)
  subst this;exact⟨hn,by simp,fun l c e=>.inl e⟩
 |.any l::ts,[],b,b',h,hn=>by simp only[bnd,ZR]at h;subst h;exact⟨hn,by simp,fun l c e=>.inl e⟩
 |.nm l::ts,[],b,b',h,hn=>by simp only[bnd,ZR]at h;subst h;exact⟨hn,by simp,fun l c e=>.inl e⟩
 |.any l::ts,c::cs,b,b',h,hn=>by
  simp only[bnd]at h;split at h
  .split at h
   .obtain⟨h1,h2,h3⟩:=dE h hn
    refine⟨h1,by simp;lia,fun l' c' e=>?_⟩
    rcases h3 l' c' e with q|q
    .exact .inl q
    .exact .inr (ZZ _ q)
   .trivial
  .rename_i eg
   obtain⟨h1,h2,h3⟩:=dE h (vW hn eg);refine⟨h1,by simp at h2⊢;lia,fun l' c' e=>?_⟩
   rcases h3 l' c' e with q|q
   .rw[jv]at q
    cases e':gt b l' with
    |some SH=>rw[e']at q;simp at q;exact .inl (by rw[q])
    |none=>
     rw[e',Option.none_or,cE]at q;split at q
     .rename_i hh;subst hh;exact .inr (ZV ..)
     .simp[gt]at q
   .exact .inr (ZZ _ q)
 |.nm w::ts,c::cs,b,b',h,hn=>by
  simp only[bnd]at h;split at h
  .obtain⟨h1,h2,h3⟩:=dE h hn
   exact⟨h1,by simp;lia,h3⟩
  .trivial
def an:(("any":Str)="name")=False:=by simp;decide +kernel
def gF(q:Str×Ce):D:=.tup [.str q.1,ceD q.2]
def cy(b:Bi):D:=.lst (b.map gF)
def tY{a b:Str×Ce}(h:gF a=gF b):a=b:=by
 obtain⟨x,c⟩:=a;obtain⟨y,d⟩:=b;simp only[gF,D.tup.injEq,Yv,D.str.injEq,and_true]at h;rw[h.1,iO h.2]
def jO{b:Bi}{l:Str}{c:Ce}(hn:nk b):(l,c)∈b↔gt b l=some c:=by
 induction b with
 |nil=>simp[gt]
 |cons q b ih=>
  obtain⟨k,e⟩:=q;have Ia:k∉b.map (·.1)/\nk b:=by unfold nk at*;rw[Z1,YN]at hn;exact hn
  rw[cE,ZX]
  by_cases h:k=l
  .subst h
   rw[Z0 rfl];constructor
   .rintro(q|q)
    .cases q;rfl
    .exact absurd (Xo (f:=(·.1)) q) Ia.1
   .intro q;cases q;exact .inl rfl
  .rw[ZY h,<-ih Ia.2]
   constructor
   .rintro(q|q)
    .cases q;exact absurd rfl h
    .exact q
   .exact .inr
def zZ(q:Str×Ce):okD 16 (gF q)=true:=by obtain⟨l,c⟩:=q;cases c<;>rfl
def wR(b:Bi):D.flats (b.map gF)=true:=by
 rw[D.flats_all,ZM];intro d hd;obtain⟨q,_,rfl⟩:=ZL.mp hd;obtain⟨l,c⟩:=q;cases c<;>rfl
def Cd(l:Str)(c:Ce)(b:Bi):bZ (some (.tup [.str l,ceD c])) (some (.lst (b.map gF)))=some (!decide ((l,c)∈b)):=by
 unfold bZ inO;simp only[aP];rw[Z0]
 .have:decide ((D.tup [.str l,ceD c])∈b.map gF)=decide ((l,c)∈b):=Yt.mpr ⟨fun h=>by
   obtain⟨v,hv,e⟩:=ZL.mp h;rw[tY (a:=v) (b:=(l,c)) e]at hv;exact hv,fun h=>ZL.mpr ⟨_,h,rfl⟩⟩
  rw[this];rfl
 .rw[ZH,ZM]
  refine⟨zZ (l,c),fun x hx=>?_⟩
  obtain⟨v,_,rfl⟩:=ZL.mp hx;exact zZ v
abbrev Jz:D->DEnv->Z_ DEnv:=aK (ah (aa 6) (ah (aa 7) (toNil)))
theorem sW(l:Str)(c:Ce)(a0 a1 a2 a3:Z_ (D×Bool)):∀(b:Bi)(x6 x7:Z_ (D×Bool)),
  (if ∃q∈b,q.1=l/\q.2≠c then eh Jz d7 (b.map gF) [a0,a1,a2,a3,some (teD (.any l),false),some (ceD c,false),x6,x7]=some (.ret .non false)
  else ∃y6 y7,eh Jz d7 (b.map gF) [a0,a1,a2,a3,some (teD (.any l),false),some (ceD c,false),x6,x7]=some (.next [a0,a1,a2,a3,some (teD (.any l),false),some (ceD c,false),y6,y7]))
 |[],x6,x7=>by rw[ZY (by simp)];exact⟨x6,x7,rfl⟩
 |q::b,x6,x7=>by
  have ih:=sW l c a0 a1 a2 a3 b (some (.str q.1,false)) (some (ceD q.2,false));have e1:ixO (some (teD (.any l))) (some (.int 1))=some (.str l):=by simp[teD,at1]
  have es:eh Jz d7 ((q::b).map gF) [a0,a1,a2,a3,some (teD (.any l),false),some (ceD c,false),x6,x7]=
    if q.1=l/\q.2≠c then some (.ret .non false) else eh Jz d7 (b.map gF) [a0,a1,a2,a3,some (teD (.any l),false),some (ceD c,false),some (.str q.1,false),some (ceD q.2,false)]:=by
   rw[Z1];simp only[eh,gF,toTup_s,toCons_s,toNil_s,toName_s,Zk,List.length_cons,List.length_nil,bindO_s,List.set_cons_succ,List.set_cons_zero,Nat.reduceAdd,Nat.reduceLT];simp only[d7,rd_1,rd_0,e1,aU,mB]
   by_cases h1:q.1=l
   .by_cases h2:q.2=c
    .simp[h1,h2]
    .simp[h1,h2]
   .simp[h1]
  rw[es]
  by_cases h:q.1=l/\q.2≠c
  .rw[Z0 h,Z0 ⟨q,.head _,h⟩]
  .rw[ZY h]
   by_cases h':∃q∈b,q.1=l/\q.2≠c
   .rw[Z0 h']at ih
    obtain⟨r,hr,e⟩:=h';rw[Z0 ⟨r,.tail _ hr,e⟩];exact ih
   .rw[ZY h']at ih
    rw[ZY fun z=>by
     obtain⟨r,hr,e⟩:=z
     rcases ZX.mp hr with rfl|hr
     .exact h e
     .exact h' ⟨r,hr,e⟩]
    exact ih
theorem lu:∀(ts:List Te)(cs:List Ce)(b:Bi)(a0 a1 a2 x4 x5 x6 x7:Z_ (D×Bool)),nk b->b.length+ts.length<1000->
  (match bnd ts cs b with
  |some b'=>∃y4 y5 y6 y7,am (fun d δ=>ae ((aK (ah (aa 4) (ah (aa 5) (toNil)))) d δ) jE) ((ts.zip cs).map fun q=>.tup [teD q.1,ceD q.2]) [a0,a1,a2,some (cy b,true),x4,x5,x6,x7]=some (.next [a0,a1,a2,some (cy b',true),y4,y5,y6,y7])
  |none=>am (fun d δ=>ae ((aK (ah (aa 4) (ah (aa 5) (toNil)))) d δ) jE) ((ts.zip cs).map fun q=>.tup [teD q.1,ceD q.2]) [a0,a1,a2,some (cy b,true),x4,x5,x6,x7]=some (.ret .non false))
 |[],cs,b,a0,a1,a2,x4,x5,x6,x7,_,_=>⟨x4,x5,x6,x7,by simp[am]⟩
 |.any l::ts,[],b,a0,a1,a2,x4,x5,x6,x7,_,_=>⟨x4,x5,x6,x7,by simp[am]⟩
 |.nm l::ts,[],b,a0,a1,a2,x4,x5,x6,x7,_,_=>⟨x4,x5,x6,x7,by simp[am]⟩
 |.any l::ts,c::cs,b,a0,a1,a2,x4,x5,x6,x7,hn,hl=>by
  have ih:=fun b y6 y7 hn hb=>lu ts cs b a0 a1 a2 (some (teD (.any l),false)) (some (ceD c,false)) y6 y7 hn hb
  rw[List.length_cons]at hl;have hs:=sW l c a0 a1 a2 (some (cy b,true)) b x6 x7;have e0:ixO (some (teD (.any l))) (some (.int 0))=some (.str "any"):=by simp[teD,at0]
  have e1:ixO (some (teD (.any l))) (some (.int 1))=some (.str l):=by simp[teD,at1]
  have se:∀δ,fW Jz d7 (cf (some (cy b))) δ=eh Jz d7 (b.map gF) δ:=fun δ=>by
   unfold cy;rw[lstL_s];unfold fW;dsimp only;rw[Z0 (wR b)]
  have ec:∀y:Bi,(if ∃q∈b,q.1=l/\q.2≠c then False else True)↔∀c',gt b l=some c'->c'=c:=fun _=>by
   split
   .rename_i h
    obtain⟨⟨k,e⟩,h1,rfl,h3⟩:=h;simp only[false_iff];exact fun z=>h3 (z e ((jO hn).mp h1))
   .rename_i h
    simp only[true_iff];intro c' hc;exact Decidable.byContradiction fun z=>h ⟨(l,c'),(jO hn).mpr hc,rfl,z⟩
  rw[List.zip_cons_cons,Z1];unfold am;simp only[toTup_s,toCons_s,toNil_s,toName_s,Zk,List.length_cons,List.length_nil,bindO_s,List.set_cons_succ,List.set_cons_zero,Nat.reduceAdd,Nat.reduceLT];simp only[jE,rd_1,rd_0,rd_0o,e0,aU,an,X8,X9,andO_f,ifO_f,ifO_t,nextO_s,seqO_n,se,bnd]
  by_cases h:∃q∈b,q.1=l/\q.2≠c
  .rw[Z0 h]at hs
   obtain⟨⟨k,e⟩,h1,rfl,h3⟩:=h;rw[hs,(jO hn).mp h1];simp only[seqO_r];rw[ZY h3]
   trivial
  .rw[ZY h]at hs
   obtain⟨y6,y7,hs⟩:=hs;have hc:=(ec b).mp (by rw[ZY h];trivial)
   rw[hs];simp only[seqO_n,rd_1,rd_0,rd_0o,e1,consO_s];rw[tupO_s _ (by simp)]
   have Jm:cy b=.lst (b.map gF):=rfl;rw[Jm,Cd];cases eg:gt b l with
   |some c'=>
    obtain rfl:=hc c' eg;simp only[(jO hn).mpr eg,X9,YU,ifO_f,Y2];have:=ih b y6 y7 hn (by lia)
    cases eb:bnd ts cs b with
    |some b'=>rw[eb]at this;exact this
    |none=>rw[eb]at this;exact this
   |none=>
    have nm:(l,c)∉b:=fun z=>by rw[(jO hn).mp z]at eg;cases eg
    simp only[nm,X8,XW,ifO_t];rw[fS (ds:=b.map gF) _ rfl (by simp;lia)]
    have ea:(D.lst (b.map gF++[.tup [.str l,ceD c]]))=cy (b++[(l,c)]):=by unfold cy;rw[YY];rfl
    simp only[List.set_cons_succ,List.set_cons_zero,ea];have:=ih (b++[(l,c)]) y6 y7 (vW hn eg) (by simp;lia)
    cases eb:bnd ts cs (b++[(l,c)])with
    |some b'=>rw[eb]at this;exact this
    |none=>rw[eb]at this;exact this
 |.nm w::ts,c::cs,b,a0,a1,a2,x4,x5,x6,x7,hn,hl=>by
  have ih:=lu ts cs b a0 a1 a2 (some (teD (.nm w),false)) (some (ceD c,false)) x6 x7 hn (by simp at hl;lia)
  rw[List.zip_cons_cons,Z1];unfold am;have e0:ixO (some (teD (.nm w))) (some (.int 0))=some (.str "name"):=by simp[teD,at0]
  simp only[toTup_s,toCons_s,toNil_s,toName_s,Zk,List.length_cons,List.length_nil,bindO_s,List.set_cons_succ,List.set_cons_zero,Nat.reduceAdd,Nat.reduceLT];simp only[jE,rd_1,rd_0,e0,aU,na,X8,X9,andO_t,vQ,bnd]
  by_cases hc:Ce.nm w=c
  .simp only[hc,X9,YU,ifO_f,nextO_s,seqO_n,rd_1,rd_0,e0,aU,na,X8,Y2]
   exact ih
  .rw[ZY hc]
   simp only[hc,X8,XW,ifO_t,retO_s,seqO_r]
def jnB(b:Bi)(ts:List Te)(cs:List Ce):Z_ Bi:=if ts.length=cs.length then bnd ts cs b else none
def Bt:Z_ Bi->D×Bool|some b=>(cy b,true)|none=>(.non,false)
def g9{b:Bi}(hn:nk b)(hb:b.length<=100)(ts:List Te)(cs:List Ce)(h4:ts.length<=4):Hh [cy b,.tup (ts.map teD),.tup (cs.map ceD)]=some (Bt (jnB b ts cs)):=by
 rw[ay (f:=Hh) (δ:=[some (cy b,false),some (.tup (ts.map teD),false),some (.tup (cs.map ceD),false),none,none,none,none,none]) rfl rfl rfl];have n2:neO (iM (some (.tup (ts.map teD)))) (iM (some (.tup (cs.map ceD))))=some (!decide (ts.length=cs.length)):=by
  simp only[lenL_t,ZJ];unfold neO;rw[eqO_int];show some (!decide ((ts.length:Int)=cs.length))=_;congr 2;exact Yt.mpr (by lia)
 simp only[B0,rd_1,rd_0,n2];unfold jnB
 by_cases c2:ts.length=cs.length
 .rw[Z0 c2]
  have el:f8 (some (cy b))=some (cy b):=rfl;simp only[c2,X9,YU,ifO_f,nextO_s,seqO_n,rd_0,el];rw[setF_s _ _ _ (by simp)]
  have:=lu ts cs b (some (cy b,false)) (some (.tup (ts.map teD),false)) (some (.tup (cs.map ceD),false)) none none none none hn (by lia)
  simp only[seqO_n,List.set_cons_succ,List.set_cons_zero,rd_1,rd_0,zH,Ac,Y2,tupL_s,bindO_s,eS];cases eb:bnd ts cs b with
  |some b'=>
   rw[eb]at this;obtain⟨y4,y5,y6,y7,e⟩:=this;rw[e];rfl
  |none=>
   rw[eb]at this;simp only at this;rw[this];rfl
 .rw[ZY c2]
  simp only[c2,X8,XW,ifO_t,retO_s,seqO_r];rfl
end K13
namespace K13
open PySem L2 JP
variable[Lams]
def dm(o:Z_ Bi):D:=(Bt o).1
def ca(found:List Bi)(p:Pat)(r:Row):List (Z_ Bi):=if r.1=p.1 then found.map fun b=>jnB b p.2 r.2 else[]
def cu(rs:List Row)(found:List Bi)(p:Pat):List Bi:=rs.flatMap fun r=>if r.1=p.1 then found.filterMap fun b=>jnB b p.2 r.2 else[]
def LF(rs:List Row)(ps:List Pat):List Bi:=ps.foldl (cu rs) [[]]
def jJ(found:List Bi)(p:Pat)(r:Row):(ca found p r).length<=found.length:=by unfold ca;split<;>simp
theorem pj{p:Pat}(h4:p.2.length<=4)(r:Row)(a0 a1 a2:Z_ (D×Bool)):∀(found:List Bi)(more:List (Z_ Bi))(x6:Z_ (D×Bool)),(∀b∈found,nk b/\b.length<=100)->more.length+found.length<=200000->∃y6,
  am (fun d δ=>ae ((aa 6) d δ) pQ) (found.map cy) [a0,a1,a2,some (aF p,false),some (.lst (more.map dm),true),some (aD r,false),x6]=some (.next [a0,a1,a2,some (aF p,false),some (.lst ((more++ca found p r).map dm),true),some (aD r,false),y6])
 |[],more,x6,_,_=>⟨x6,by unfold ca;split<;>simp[am]⟩
 |b::found,more,x6,hb,hl=>by
  have p0:ixO (some (aF p)) (some (.int 0))=some (.str p.1):=by simp[aF,at0]
  have p1:ixO (some (aF p)) (some (.int 1))=some (.tup (p.2.map teD)):=by simp[aF,at1]
  have r0:ixO (some (aD r)) (some (.int 0))=some (.str r.1):=by simp[aD,at0]
  have r1:ixO (some (aD r)) (some (.int 1))=some (.tup (r.2.map ceD)):=by simp[aD,at1]
  have OK:=hb b (.head _);simp at hl;rw[Z1];unfold am;rw[toName_s _ _ _ (by simp)]
  simp only[bindO_s,List.set_cons_succ,List.set_cons_zero,pQ,rd_1,rd_0,p0,p1,r0,r1,aU]
  by_cases c:r.1=p.1
  .obtain⟨y6,e⟩:=pj h4 r a0 a1 a2 found (more++[jnB b p.2 r.2]) (some (cy b,false)) (fun b' h'=>hb b' (.tail _ h')) (by simp;lia)
   refine⟨y6,?_⟩
   simp only[c,X9,ifO_t,consO_s,bindO_s,g9 OK.1 OK.2 p.2 r.2 h4];have es:shO (some (Bt (jnB b p.2 r.2)))=some (dm (jnB b p.2 r.2)):=rfl;rw[es,fS (ds:=more.map dm) _ rfl (by simp;lia)]
   simp only[List.set_cons_succ,List.set_cons_zero];have em:more.map dm++[dm (jnB b p.2 r.2)]=(more++[jnB b p.2 r.2]).map dm:=by simp
   rw[em,e];have er:more++[jnB b p.2 r.2]++ca found p r=more++ca (b::found) p r:=by unfold ca;rw[Z0 c,Z0 c];simp
   rw[er]
  .obtain⟨y6,e⟩:=pj h4 r a0 a1 a2 found more (some (cy b,false)) (fun b' h'=>hb b' (.tail _ h')) (by lia)
   refine⟨y6,?_⟩
   simp only[c,X8,ifO_f,nextO_s];rw[e];have er:ca found p r=ca (b::found) p r:=by unfold ca;rw[ZY c,ZY c]
   rw[er]
theorem nH{p:Pat}(h4:p.2.length<=4)(a0 a1:Z_ (D×Bool)){found:List Bi}(hb:∀b∈found,nk b/\b.length<=100):∀(rs:List Row)(more:List (Z_ Bi))(x5 x6:Z_ (D×Bool)),more.length+rs.length*found.length<=100000->found.length<=100000->∃y5 y6,
  am (fun d δ=>ae ((aa 5) d δ) qv) (rs.map aD) [a0,a1,some (.lst (found.map cy),false),some (aF p,false),some (.lst (more.map dm),true),x5,x6]=some (.next [a0,a1,some (.lst (found.map cy),false),some (aF p,false),some (.lst ((more++rs.flatMap (ca found p)).map dm),true),y5,y6])
 |[],more,x5,x6,_,_=>⟨x5,x6,by simp[am]⟩
 |r::rs,more,x5,x6,hl,hf=>by
  have hm:=jJ found p r;simp only[List.length_cons,Nat.succ_mul]at hl;obtain⟨z6,e⟩:=pj h4 r a0 a1 (some (.lst (found.map cy),false)) found more x6 hb (by lia)
  obtain⟨y5,y6,e2⟩:=nH h4 a0 a1 hb rs (more++ca found p r) (some (aD r,false)) z6 (by simp;lia) hf
  refine⟨y5,y6,?_⟩
  rw[Z1];unfold am;rw[toName_s _ _ _ (by simp)]
  simp only[bindO_s,List.set_cons_succ,List.set_cons_zero,qv,rd_1,rd_0,lstL_s];rw[e];simp only;rw[e2];simp
def o8(rs:List Row)(found:List Bi)(p:Pat):(rs.flatMap (ca found p)).filterMap id=cu rs found p:=by
 unfold cu;rw[List.filterMap_flatMap];congr 1
 funext r
 unfold ca;split
 .rw[List.filterMap_map];rfl
 .rfl
def kq(rs:List Row)(found:List Bi)(p:Pat):(cu rs found p).length<=rs.length*found.length:=by
 unfold cu
 induction rs with
 |nil=>simp
 |cons r rs ih=>
  rw[List.flatMap_cons,Zz,List.length_cons,Nat.succ_mul];have:(if r.1=p.1 then found.filterMap fun b=>jnB b p.2 r.2 else[]).length<=found.length:=by
   split
   .exact Xc ..
   .simp
  lia
def AI(o:Z_ Bi):vi (some (dm o))=some (!o.isSome):=by cases o<;>simp[vi,dm,Bt,cy]
theorem lG:∀l:List (Z_ Bi),(l.filter (·.isSome)).map dm=(l.filterMap id).map cy
 |[]=>rfl
 |none::l=>by simpa using lG l
 |some b::l=>by simpa[dm,Bt]using lG l
def rl{p:Pat}(h4:p.2.length<=4){rs:List Row}(Fb:rs.length<=500){found:List Bi}(hb:∀b∈found,nk b/\b.length<=100)(hf:found.length<=100)(a1 x3 x4 x5 x6:Z_ (D×Bool)):∃y4 y5 y6,
  ae ((aa 3) (aF p) [some (.lst (rs.map aD),false),a1,some (.lst (found.map cy),false),x3,x4,x5,x6]) mR=some (.next [some (.lst (rs.map aD),false),a1,some (.lst ((cu rs found p).map cy),false),some (aF p,false),y4,y5,y6]):=by
 have hm:rs.length*found.length<=500*100:=WN Fb hf;obtain⟨y5,y6,e⟩:=nH h4 (some (.lst (rs.map aD),false)) a1 hb rs [] x5 x6 (by simp;lia) (by lia)
 have ml:(rs.flatMap (ca found p)).length<=50000:=by
  have:∀rs:List Row,(rs.flatMap (ca found p)).length<=rs.length*found.length:=fun rs=>by
   induction rs with
   |nil=>simp
   |cons r rs ih=>rw[List.flatMap_cons,Zz,List.length_cons,Nat.succ_mul];have:=jJ found p r;lia
  exact Zh (this rs) (by lia)
 refine⟨some (.lst ((rs.flatMap (ca found p)).map dm),false),y5,y6,?_⟩
 rw[toName_s _ _ _ (by simp)]
 simp only[bindO_s,List.set_cons_succ,List.set_cons_zero,mR];rw[lstO_s [] (by simp),setF_s _ _ _ (by simp)]
 simp only[seqO_n,List.set_cons_succ,List.set_cons_zero,rd_1,rd_0,lstL_s,bindO_s];simp only[Y7,List.nil_append]at e;rw[e];simp only[seqO_n,frzE_1,frzE_0,vK,rd_1,rd_0,lstL_s,bindO_s];rw[aQ (by rw[ZJ,lim_eq];lia),cM (f:=dm) (h:=dm) (p:=fun o=>o.isSome) fun o _=>by
  unfold aC;have em:(ax false [false,false,false,false,false,false,false] [some (.lst (rs.map aD),false),a1,some (.lst (found.map cy),false),some (aF p,false),some (.lst ((rs.flatMap (ca found p)).map dm),false),y5,y6])=[none,none,none,none,none,none,none]:=by simp[ax]
  rw[em,toName_s _ _ _ (by simp)]
  simp only[bindO_s,List.set_cons_succ,List.set_cons_zero,rd_1,rd_0,AI,notO_s,Bool.not_not,wq];cases o<;>rfl]
 rw[lG,o8,lstLim_s,setF_s _ _ _ (by simp)]
 simp only[seqO_n,List.set_cons_succ,List.set_cons_zero,v9,frzE_1,frzE_0,nextO_s]
def mO{b b':Bi}{ts:List Te}{cs:List Ce}(h:jnB b ts cs=some b')(hn:nk b):nk b'/\b'.length<=b.length+ts.length/\∀l c,gt b' l=some c->gt b l=some c\/l∈ans ts:=by
 unfold jnB at h;split at h
 .exact dE h hn
 .cases h
def dF{rs:List Row}{found:List Bi}{p:Pat}{b':Bi}:b'∈cu rs found p↔∃r∈rs,r.1=p.1/\∃b∈found,jnB b p.2 r.2=some b':=by
 unfold cu;rw[List.mem_flatMap];constructor
 .rintro⟨r,hr,h⟩
  split at h
  .rename_i c;obtain⟨b,hb,e⟩:=Yr.mp h;exact⟨r,hr,c,b,hb,e⟩
  .cases h
 .rintro⟨r,hr,c,b,hb,e⟩
  exact⟨r,hr,by rw[Z0 c];exact Yr.mpr ⟨b,hb,e⟩⟩
theorem jL{rs:List Row}(Fb:rs.length<=500){n:Nat}(hN:∀k,k<n->rs.length ^ k<=100)(a1:Z_ (D×Bool)):∀(ps:List Pat)(k:Nat)(found:List Bi)(x3 x4 x5 x6:Z_ (D×Bool)),k+ps.length=n->n<=4->(∀p∈ps,p.2.length<=4)->(∀b∈found,nk b/\b.length<=4*k)->found.length<=rs.length ^ k->∃y3 y4 y5 y6,
  am (fun d δ=>ae ((aa 3) d δ) mR) (ps.map aF) [some (.lst (rs.map aD),false),a1,some (.lst (found.map cy),false),x3,x4,x5,x6]=some (.next [some (.lst (rs.map aD),false),a1,some (.lst ((ps.foldl (cu rs) found).map cy),false),y3,y4,y5,y6])
 |[],k,found,x3,x4,x5,x6,_,_,_,_,_=>⟨x3,x4,x5,x6,by simp[am]⟩
 |p::ps,k,found,x3,x4,x5,x6,h1,h2,h4,hb,hf=>by
  simp at h1;have hp:=h4 p (.head _);obtain⟨z4,z5,z6,e⟩:=rl hp Fb (fun b h=>⟨(hb b h).1,by have:=(hb b h).2;lia⟩) (Zh hf (hN k (by lia))) a1 x3 x4 x5 x6
  obtain⟨y3,y4,y5,y6,e2⟩:=jL Fb hN a1 ps (k+1) (cu rs found p) (some (aF p,false)) z4 z5 z6 (by lia) h2 (fun q hq=>h4 q (.tail _ hq)) (fun b' h'=>by
   obtain⟨r,_,_,b,IQ,hj⟩:=dF.mp h';obtain⟨q1,q2,_⟩:=mO hj (hb b IQ).1;have:=(hb b IQ).2;exact⟨q1,by lia⟩) (Zh (kq rs found p) (by rw[Nat.pow_succ,Nat.mul_comm];exact Nat.mul_le_mul_right _ hf))
  refine⟨y3,y4,y5,y6,?_⟩
  rw[Z1];unfold am;rw[e];simp only[List.foldl_cons];exact e2
def kO{rs:List Row}(Fb:rs.length<=500){ps:List Pat}(FJ:ps.length<=4)(h4:∀p∈ps,p.2.length<=4)(hN:∀k,k<ps.length->rs.length ^ k<=100):Hg [.lst (rs.map aD),.lst (ps.map aF)]=some (.lst ((LF rs ps).map cy),false):=by
 rw[ay (f:=Hg) (δ:=[some (.lst (rs.map aD),false),some (.lst (ps.map aF),false),none,none,none,none,none]) rfl rfl rfl];obtain⟨y3,y4,y5,y6,e⟩:=jL Fb hN (some (.lst (ps.map aF),false)) ps 0 [[]] none none none none (by simp) FJ h4 (fun b hb=>by rw[ZE.mp hb];exact⟨Y3,by simp⟩) (by simp)
 simp only[BN];rw[lstO_s [] (by simp)]
 simp only[consO_s];rw[lstO_s _ (by simp),setO_s _ _ _ (by simp)]
 have ef:([[]]:List Bi).map cy=[.lst []]:=rfl;rw[ef]at e;simp only[seqO_n,List.set_cons_succ,List.set_cons_zero,rd_1,rd_0,lstL_s,bindO_s];rw[e];simp only[seqO_n,rd_1,rd_0,retO_s,outF_r];rfl
end K13
namespace K13
open PySem L2 JP
variable[Lams]
structure Fd (rs:List Row)(done:List Pat)(found:List Bi):Prop where
 nd:∀b∈found,nk b
 has:∀b∈found,∀l∈bu done,∃c,gt b l=some c
 snd:∀b∈found,∀φ:Fit,(∀l∈bu done,gt b l=some (φ l))->∀p∈done,pF rs φ p
 cpl:∀φ:Fit,(∀p∈done,pF rs φ p)->∃b∈found,∀l c,gt b l=some c->φ l=c
def gY(ps:List Pat)(p:Pat)(l:Str):l∈bu (ps++[p])↔l∈bu ps\/l∈ans p.2:=by simp[bu]
def wS{rs:List Row}{done:List Pat}{found:List Bi}(F:Fd rs done found)(p:Pat):Fd rs (done++[p]) (cu rs found p):=by
 have key:∀b'∈cu rs found p,∃r∈rs,r.1=p.1/\∃b∈found,p.2.length=r.2.length/\bnd p.2 r.2 b=some b':=fun b' h=>by
  obtain⟨r,hr,c,b,hb,e⟩:=dF.mp h;unfold jnB at e;split at e
  .rename_i hl;exact⟨r,hr,c,b,hb,hl,e⟩
  .cases e
 refine⟨fun b' h=>?_,fun b' h l hl=>?_,fun b' h φ Fk q hq=>?_,fun φ Fk=>?_⟩
 .obtain⟨r,_,_,b,hb,_,e⟩:=key b' h
  exact(dE e (F.nd b hb)).1
 .obtain⟨r,_,_,b,hb,Fj,e⟩:=key b' h
  obtain⟨s1,s2,_⟩:=bO Fj e
  rcases(gY done p l).mp hl with q|q
  .obtain⟨c,hc⟩:=F.has b hb l q;exact⟨c,s1 l c hc⟩
  .exact s2 l q
 .obtain⟨r,hr,c,b,hb,Fj,e⟩:=key b' h
  obtain⟨s1,_,s3⟩:=bO Fj e
  rcases Zl.mp hq with hq|hq
  .refine F.snd b hb φ (fun l hl=>?_) q hq
   obtain⟨d,hd⟩:=F.has b hb l hl;have:=Fk l ((gY done p l).mpr (.inl hl));rw[s1 l d hd]at this;rw[hd];exact this
  .rw[ZE.mp hq]
   exact⟨r,hr,c,s3 φ fun l hl=>Fk l ((gY done p l).mpr (.inr hl))⟩
 .obtain⟨b,hb,hg⟩:=F.cpl φ fun q hq=>Fk q (Y1 _ hq)
  obtain⟨r,hr,h1,h2⟩:=Fk p (ZI _ (.head _));obtain⟨b',e,FA⟩:=dh (φ:=φ) p.2 b fun l c h=>hg l c h
  refine⟨b',dF.mpr ⟨r,hr,h1,b,hb,?_⟩,FA⟩
  unfold jnB;rw[Z0 (by rw[h2];simp),h2];exact e
theorem we(rs:List Row):∀(ps done:List Pat)(found:List Bi),Fd rs done found->Fd rs (done++ps) (ps.foldl (cu rs) found)
 |[],done,found,F=>by simpa using F
 |p::ps,done,found,F=>by
  have:=we rs ps (done++[p]) (cu rs found p) (wS F p);rwa[Zg]at this
def At(rs:List Row)(ps:List Pat):Fd rs ps (LF rs ps):=
 we rs ps [] [[]] ⟨fun b hb=>by rw[ZE.mp hb];exact Y3,fun b _ l hl=>by simp[bu]at hl,fun _ _ _ _ p hp=>(nomatch hp),fun φ _=>⟨[],.head _,fun l c h=>by simp[gt]at h⟩⟩
def oZ(ls:List Str)(l:List (List Ce))(b:Bi):List (List Ce):=ins (vl b ls) l
def due(rs:List Row)(ps:List Pat)(ls:List Str):List (List Ce):=(LF rs ps).foldl (oZ ls) []
theorem lX(ls:List Str):∀(bs:List Bi)(l:List (List Ce)),l.Nodup->(bs.foldl (oZ ls) l).Nodup/\∀x,x∈bs.foldl (oZ ls) l↔x∈l\/∃b∈bs,x=vl b ls
 |[],l,h=>⟨h,fun x=>by simp⟩
 |b::bs,l,h=>by
  obtain⟨h1,h2⟩:=lX ls bs (oZ ls l b) (wJ h);refine⟨h1,fun x=>?_⟩
  rw[List.foldl_cons,h2,oZ,qp];simp only[ZX,exists_eq_or_imp];constructor
  .rintro((q|q)|q)
   .exact .inl q
   .exact .inr (.inl q)
   .exact .inr (.inr q)
  .rintro(q|q|q)
   .exact .inl (.inl q)
   .exact .inl (.inr q)
   .exact .inr q
def lJ(rs:List Row)(ps:List Pat){ls:List Str}(hl:∀l∈ls,l∈bu ps):(due rs ps ls).Nodup/\∀x,x∈due rs ps ls↔∃φ:Fit,x=ls.map φ/\∀p∈ps,pF rs φ p:=by
 obtain⟨h1,h2⟩:=lX ls (LF rs ps) [] Y3;have F:=At rs ps;refine⟨h1,fun x=>?_⟩
 unfold due;rw[h2];constructor
 .rintro(q|⟨b,hb,rfl⟩)
  .cases q
  .refine⟨fun l=>(gt b l).getD default,rfl,F.snd b hb _ fun l Fj=>?_⟩
   obtain⟨c,hc⟩:=F.has b hb l Fj;rw[hc];rfl
 .rintro⟨φ,rfl,Fk⟩
  obtain⟨b,hb,hg⟩:=F.cpl φ Fk;refine .inr ⟨b,hb,?_⟩
  unfold vl;refine YE fun l Fj=>?_
  obtain⟨c,hc⟩:=F.has b hb l (hl l Fj);rw[hc,hg l c hc];rfl
def Bk(b:Bi)(ls:List Str):(vl b ls).length=ls.length:=by unfold vl;simp
def qg{rs:List Row}{ps:List Pat}{ls:List Str}:∀c∈due rs ps ls,c.length=ls.length:=fun c hc=>by
 obtain⟨h1,h2⟩:=lX ls (LF rs ps) [] Y3
 rcases(h2 c).mp hc with q|⟨b,_,rfl⟩
 .cases q
 .exact Bk b ls
def CA{b:Bi}{l:Str}{c:Ce}(hn:nk b)(h:gt b l=some c):(b.filter fun q=>decide (q.1=l)).map (fun q=>ceD q.2)=[ceD c]:=by
 induction b with
 |nil=>simp[gt]at h
 |cons q b ih=>
  obtain⟨k,e⟩:=q;have Ia:k∉b.map (·.1)/\nk b:=by unfold nk at*;rw[Z1,YN]at hn;exact hn
  rw[cE]at h
  by_cases hk:k=l
  .subst hk
   rw[Z0 rfl]at h;cases h;have:b.filter (fun q=>decide (q.1=k))=[]:=List.filter_eq_nil_iff.mpr fun q hq z=>Ia.1 (by have:=Zc z;rw[<-this];exact Xo (f:=(·.1)) hq)
   simp[this]
  .rw[ZY hk]at h
   have:=ih Ia.2 h
   simpa[hk]using this
theorem md{b:Bi}(hn:nk b)(hb:b.length<=100)(a0 a1 a2 a3:Z_ (D×Bool)):∀(ls:List Str)(acc:List Ce)(x6 x7 x8:Z_ (D×Bool)),(∀l∈ls,∃c,gt b l=some c)->acc.length+ls.length<=1000->∃y6,
  am (fun d δ=>ae ((aa 6) d δ) rq) (ls.map D.str) [a0,a1,a2,a3,some (cy b,false),some (.lst (acc.map ceD),true),x6,x7,x8]=some (.next [a0,a1,a2,a3,some (cy b,false),some (.lst ((acc++vl b ls).map ceD),true),y6,x7,x8])
 |[],acc,x6,x7,x8,_,_=>⟨x6,by simp[am,vl]⟩
 |l::ls,acc,x6,x7,x8,hl,hs=>by
  obtain⟨c,hc⟩:=hl l (.head _);simp at hs;obtain⟨y6,e⟩:=md hn hb a0 a1 a2 a3 ls (acc++[c]) (some (.str l,false)) x7 x8 (fun l' h'=>hl l' (.tail _ h')) (by simp;lia)
  refine⟨y6,?_⟩
  rw[Z1];unfold am;rw[toName_s _ _ _ (by simp)]
  have Jm:cf (some (cy b))=some (b.map gF):=rfl;simp only[bindO_s,List.set_cons_succ,List.set_cons_zero,rq,rd_1,rd_0,Jm];rw[aQ (by simp;lia),cM (f:=gF) (h:=fun q=>ceD q.2) (p:=fun q=>decide (q.1=l)) fun q _=>by
   unfold aC;have em:(ax false [false,false,false,false,false,false,true,false,false] [a0,a1,a2,a3,some (cy b,false),some (.lst (acc.map ceD),true),some (.str l,false),x7,x8])=[none,none,none,none,none,none,some (.str l,false),none,none]:=by simp[ax]
   rw[em];simp only[gF,toTup_s,toCons_s,toNil_s,toName_s,Zk,List.length_cons,List.length_nil,bindO_s,List.set_cons_succ,List.set_cons_zero,Nat.reduceAdd,Nat.reduceLT,rd_1,rd_0,aU,wE]
   by_cases h:q.1=l<;>simp[h]]
  rw[CA hn hc,lstLim_s,zB (ds:=acc.map ceD) rfl (by simp;lia)]
  simp only[List.set_cons_succ,List.set_cons_zero];have ea:acc.map ceD++[ceD c]=(acc++[c]).map ceD:=by simp
  rw[ea,e];have Rp:acc++[c]++vl b ls=acc++vl b (l::ls):=by unfold vl;simp[hc]
  rw[Rp]
theorem m5{ls:List Str}(hl:ls.length<=100)(a0 a2:Z_ (D×Bool)):∀(bs:List Bi)(L:List (List Ce))(x4 x5 x6 x7 x8:Z_ (D×Bool)),(∀b∈bs,nk b/\b.length<=100/\∀l∈ls,∃c,gt b l=some c)->L.length+bs.length<100000->∃y4 y5 y6,
  am (fun d δ=>ae ((aa 4) d δ) rL) (bs.map cy) [a0,some (.lst (ls.map D.str),false),a2,some (kL L,true),x4,x5,x6,x7,x8]=some (.next [a0,some (.lst (ls.map D.str),false),a2,some (kL (bs.foldl (oZ ls) L),true),y4,y5,y6,x7,x8])
 |[],L,x4,x5,x6,x7,x8,_,_=>⟨x4,x5,x6,by simp[am]⟩
 |b::bs,L,x4,x5,x6,x7,x8,hb,hs=>by
  obtain⟨h1,h2,h3⟩:=hb b (.head _);simp at hs;obtain⟨z6,e⟩:=md h1 h2 a0 (some (.lst (ls.map D.str),false)) a2 (some (kL L,true)) ls [] x6 x7 x8 h3 (by simp;lia)
  have:=fu (vl b ls) L;obtain⟨y4,y5,y6,e2⟩:=m5 hl a0 a2 bs (oZ ls L b) (some (cy b,false)) (some (.lst ((vl b ls).map ceD),false)) z6 x7 x8 (fun b' h'=>hb b' (.tail _ h')) (by unfold oZ;lia)
  refine⟨y4,y5,y6,?_⟩
  rw[Z1];unfold am;rw[toName_s _ _ _ (by simp)]
  simp only[bindO_s,List.set_cons_succ,List.set_cons_zero,rL];rw[lstO_s [] (by simp),setF_s _ _ _ (by simp)]
  simp only[Y7,List.nil_append]at e;simp only[seqO_n,List.set_cons_succ,List.set_cons_zero,rd_1,rd_0,lstL_s,bindO_s];rw[e];have et:D.tup ((vl b ls).map ceD)=cD (vl b ls):=rfl;simp only[seqO_n,frzE_1,frzE_0,wz,rd_1,rd_0,tupleO_l,et,oH,rdOwn_1,rdOwn_0,qS (vl b ls) L (by lia),List.set_cons_succ,List.set_cons_zero]
  rw[List.foldl_cons];exact e2
def zM{rs:List Row}{ps:List Pat}:∀{found:List Bi}{k:Nat},(∀p∈ps,p.2.length<=4)->(∀b∈found,nk b/\b.length<=4*k)->(∀b∈ps.foldl (cu rs) found,nk b/\b.length<=4*(k+ps.length))/\(ps.foldl (cu rs) found).length<=rs.length ^ ps.length*found.length:=by
 induction ps with
 |nil=>intro found k _ h;simpa using h
 |cons p ps ih=>
  intro found k h4 hb;have hp:=h4 p (.head _);obtain⟨q1,q2⟩:=ih (found:=cu rs found p) (k:=k+1) (fun q hq=>h4 q (.tail _ hq)) fun b' h'=>by
   obtain⟨r,_,_,b,IQ,hj⟩:=dF.mp h';obtain⟨q1,q2,_⟩:=mO hj (hb b IQ).1;have:=(hb b IQ).2;exact⟨q1,by lia⟩
  refine⟨fun b h=>⟨(q1 b h).1,by have:=(q1 b h).2;simp;lia⟩,?_⟩
  rw[List.foldl_cons,List.length_cons,Nat.pow_succ,Nat.mul_assoc];exact Zh q2 (Nat.mul_le_mul_left _ (kq rs found p))
def oJ{rs:List Row}(Fb:rs.length<=500){ps:List Pat}(FJ:ps.length<=4)(h4:∀p∈ps,p.2.length<=4)(hN:∀k,k<ps.length->rs.length ^ k<=100){ls:List Str}(hl:ls.length<=100)(Ib:∀l∈ls,l∈bu ps):
  Hf [.lst (rs.map aD),.lst (ls.map D.str),.lst (ps.map aF)]=some (.lst (aZ ((due rs ps ls).map cD)),true):=by
 obtain⟨o1,o2⟩:=zM (rs:=rs) (ps:=ps) (found:=[[]]) (k:=0) h4 fun b hb=>by rw[ZE.mp hb];exact⟨Y3,by simp⟩
 have F:=At rs ps;have hlen:(LF rs ps).length<=50000:=by
  refine Zh o2 ?_
  simp only[List.length_cons,List.length_nil,XS,Nat.mul_one]
  rcases Nat.eq_zero_or_pos ps.length with z|z
  .rw[z];simp
  .obtain⟨m,hm⟩:∃m,ps.length=m+1:=⟨ps.length - 1,by lia⟩
   rw[hm,Nat.pow_succ];exact Zh (WN (hN m (by lia)) Fb) (by decide)
 rw[ay (f:=Hf) (δ:=[some (.lst (rs.map aD),false),some (.lst (ls.map D.str),false),some (.lst (ps.map aF),false),none,none,none,none,none,none]) rfl rfl rfl];obtain⟨y4,y5,y6,e⟩:=m5 hl (some (.lst (rs.map aD),false)) (some (.lst (ps.map aF),false)) (LF rs ps) [] none none none none none (fun b hb=>⟨F.nd b hb,by have:=(o1 b hb).2;lia,fun l Fj=>F.has b hb l (Ib l Fj)⟩) (by simp;lia)
 have e0:kL []=.dD [] []:=rfl;rw[e0]at e;simp only[B2];rw[setF_s _ _ _ (by simp)]
 simp only[seqO_n,List.set_cons_succ,List.set_cons_zero,rd_1,rd_0,consO_s,bindO_s,kO Fb FJ h4 hN,shO_s,lstL_s];rw[e];simp only[seqO_n,frzE_1,frzE_0,vZ,rd_1,rd_0];have es:j8 .tt (some (kL ((LF rs ps).foldl (oZ ls) [])))=some (.lst (aZ ((due rs ps ls).map cD))):=by
  unfold j8 kL;dsimp only;rw[Z0]
  .rfl
  .rw[pJ,XJ,Bool.or_eq_true,ZJ,Zn]
   exact Dc (lJ rs ps Ib).1 qg
 rw[es];rfl
def jV{fs gs:List (List Ce)}(h1:fs.Nodup)(h2:gs.Nodup)(h:∀x,x∈fs↔x∈gs):aZ (fs.map cD)=aZ (gs.map cD):=by
 have p:fs.Perm gs:=(List.perm_ext_iff_of_nodup h1 h2).mpr h;exact dJ (pJ fs) _ _ (fun y hy=>(bt _).mem_iff.mp hy) ((bt _).trans ((p.map cD).trans (bt _).symm)) (ck (pJ fs)) (ck (pJ gs))
end K13
namespace K13
open PySem L2 JP
variable[Lams]
def i5(r:Row)(n:Nat):okD (n+3) (aD r)=true:=by
 simp only[aD,okD,List.all_cons,List.all_nil,Xv,XJ,List.all_map,ZM];intro c _;cases c<;>simp[ceD,okD]
def yU(rs:List Row):okD 16 (.lst (rs.map aD))=true:=by
 simp only[okD,List.all_map,ZM];intro r _;exact i5 r 12
open Classical in
def cP(c j:Int):Int:=((c*(2*j+3)+j)%2147483629*((c*(2*j+3)+j)%2147483629)+1)*48271%2147483629
def aR(c j:Int):0<=cP c j:=by unfold cP;lia
def CD(c j:Int):cP c j<2147483629:=by unfold cP;lia
def bh(c j:Int)(h0: -1000<=j)(h1:j<=1000):r_ [.int c,.int j]=some (.int (cP c j),false):=by
 rw[ay (f:=r_) (δ:=[some (.int c,false),some (.int j,false),none]) rfl rfl rfl];have e1:(0:Int)<=(c*(2*j+3)+j)%2147483629:=by lia
 have e2:(c*(2*j+3)+j)%2147483629<2147483629:=by lia
 simp[Cu,mulI_s c (2*j+3) (by lia),mulI_s ((c*(2*j+3)+j)%2147483629) ((c*(2*j+3)+j)%2147483629) (by lia),cP]
def dS:Str.length "abcdefghijklmnopqrstuvwxyz"=26:=by decide +kernel
def vj(c:Int):∃ws:List Str,ws.length=6/\Hn [.int c]=some (.lst (ws.map .str),true):=by
 have m1:=aR c 1;generalize hsz:2+cP c 1%6=sz;have Gj:2<=sz:=by lia
 have Sj:sz<=7:=by lia
 obtain⟨g,eg,gl,gp⟩:=bV (ds:=gT 0 sz.toNat) (P:=fun _ y=>∃x:Str,x.length=1/\y=.str x)
  (h:=aC (aa 6) (fun δ=>some true) sC [some (.int c,false),some (.str "abcdefghijklmnopqrstuvwxyz",false),none,none,none,none,none,none]) fun d hd=>by
   obtain⟨i,hi,rfl⟩:=bT hd;have h0:=aR c (2+(0+(i:Int)));obtain⟨x,hx,ex⟩:=fC "abcdefghijklmnopqrstuvwxyz" (cP c (2+(0+(i:Int)))%26) (by rw[dS];decide) (by lia) (by rw[dS];lia)
   refine⟨.str x,?_,x,hx,rfl⟩
   simp[aC,sC];rw[bh c _ (by lia) (by lia),shO_s,modI_s _ _ (by decide)]
   have e0:(0:Int)+(i:Int)=i:=by lia
   rw[e0]at ex;rw[ex]
 obtain⟨ss,rfl,IG⟩:=lD (Q:=fun x=>x.length=1) gl gp fun d y hz=>by obtain⟨x,hx,e⟩:=hz;exact⟨x,e,hx⟩
 rw[aM,ZJ]at gl;have hj:=yy "" ss (by rw[ni IG,show Str.length ""=0 by decide +kernel];lia)
 have QD:(Txt.join "" ss).length=ss.length:=by rw[qw,ni IG]
 generalize Txt.join "" ss=FF at hj QD;have m9:=aR c 9;generalize G0:cP c 9%sz=at';have QX:0<=at':=by rw[<-G0];exact Int.emod_nonneg _ (by lia)
 have Sz:at'<sz:=by rw[<-G0];exact Int.emod_lt_of_pos _ (by lia)
 have O5:FF.length<=7:=by lia
 obtain⟨i_,el,fs,JQ,x6,x7,rfl⟩:=fG (body:=fun d δ=>ae ((aa 6) d δ) sK) (fun pre δ=>∃fs:List Str,fs.length=pre.length/\∃x6 x7,
   δ=[some (.int c,false),some (.str "abcdefghijklmnopqrstuvwxyz",false),some (.int sz,false),some (.str FF,false),some (.int at',false),some (.lst (fs.map D.str),true),x6,x7]) (gT 0 4) []
  [some (.int c,false),some (.str "abcdefghijklmnopqrstuvwxyz",false),some (.int sz,false),some (.str FF,false),some (.int at',false),some (.lst [],true),none,none] ⟨[],rfl,none,none,rfl⟩
  fun p d q δ IH hz=>by
   obtain⟨fs,QN,x6,x7,e⟩:=hz;have hd:d∈gT 0 4:=by
    rw[List.nil_append]at IH;rw[<-IH];simp
   have hp:p.length<4:=by
    have:=congrArg List.length IH;rw[List.nil_append,aM]at this;simp at this;lia
   obtain⟨i,hi,rfl⟩:=bT hd;subst e;obtain⟨y,hy,ey⟩:=fC FF at' (by have:lim=1000000:=rfl;lia) QX (by lia)
   obtain⟨z,hz,ez⟩:=fC "abcdefghijklmnopqrstuvwxyz" ((Txt.find "abcdefghijklmnopqrstuvwxyz" y+7*(0+(i:Int)))%26) (by rw[dS];decide) (by lia) (by rw[dS];lia)
   have c1:=iI FF none (some at');have c2:=iI FF (some (at'+1)) none;have Fv:lim=1000000:=rfl;refine⟨_,.inl ?_,fs++[tj FF none (some at')++z++tj FF (some (at'+1)) none],by simp[QN],some (.int (0+(i:Int)),false),some (.str z,false),rfl⟩
   have e0:(0:Int)+(i:Int)=i:=by lia
   rw[e0]at ez⊢;simp[sK,ey,ez];rw[cutSO_s _ _ _ (by lia),cutSO_s _ _ _ (by lia),addS_s _ _ (by lia),addS_s _ _ (by rw[Str.length_append];lia)]
   rw[fS (ds:=fs.map D.str) _ (by rfl) (by rw[ZJ];lia)]
   simp
 rw[List.nil_append,aM]at JQ;have Sd:=aR c 10;obtain⟨z,hz,ez⟩:=fC "abcdefghijklmnopqrstuvwxyz" (cP c 10%26) (by rw[dS];decide) (by lia) (by rw[dS];lia)
 refine⟨fs++[FF++z,tj FF none (some (sz - 1))],by simp[JQ],?_⟩
 rw[ay (f:=Hn) (δ:=[some (.int c,false),none,none,none,none,none,none,none]) rfl rfl rfl];simp[Cw];rw[bh c 1 (by lia) (by lia),shO_s,modI_s _ _ (by decide),addI_s,hsz]
 simp;rw[eT sz (by lia),bindO_s,aQ (by rw[aM,lim_eq];lia)]
 simp[ax];rw[eg,lstLim_s,hj];simp;rw[bh c 9 (by lia) (by lia),shO_s,modI_s _ _ (by lia),G0]
 simp;rw[eT 4 (by lia),bindO_s]
 rw[show(4:Int).toNat=4 from rfl]
 rw[el];simp[vT];have Fv:lim=1000000:=rfl;rw[bh c 10 (by lia) (by lia),shO_s,modI_s _ _ (by decide),ez,addS_s _ _ (by lia),cutSO_s _ _ _ (by lia)]
 simp;rw[catO_s _ _ (by simp;lia)]
 simp
def pU:Str.length "ABCDEFGHIJKLMNOPQRSTUVWXYZ"=26:=by decide +kernel
def nO(c:Int):∃ws:List Str,ws.length=4/\Hl [.int c]=some (.lst (ws.map .str),true):=by
 have m1:=aR c 13;have m2:=aR c 14;obtain⟨st,FD,_,Rr⟩:=jY (xs:=[D.int 1,.int 3,.int 5,.int 7,.int 9,.int 11]) (i:=cP c 14%6) (by lia) (by simp;lia)
 obtain⟨sp,Sl,Sk,rfl⟩:∃sp:Int,0<=sp/\sp<=11/\st=.int sp:=by
  simp at FD
  rcases FD with rfl|rfl|rfl|rfl|rfl|rfl<;>exact⟨_,by lia,by lia,rfl⟩
 obtain⟨g,eg,gl,gp⟩:=bV (ds:=gT 0 4) (P:=fun _ y=>∃x:Str,x.length=1/\y=.str x)
  (h:=aC (aa 4) (fun δ=>some true) qT [none,some (.str "ABCDEFGHIJKLMNOPQRSTUVWXYZ",false),some (.int (cP c 13%26),false),some (.int sp,false),none]) fun d hd=>by
   obtain⟨i,hi,rfl⟩:=bT hd;obtain⟨x,hx,ex⟩:=fC "ABCDEFGHIJKLMNOPQRSTUVWXYZ" ((cP c 13%26+sp*(0+(i:Int)))%26) (by rw[pU];decide) (by lia) (by rw[pU];lia)
   refine⟨.str x,?_,x,hx,rfl⟩
   have e0:(0:Int)+(i:Int)=i:=by lia
   rw[e0]at ex;simp[aC,qT];rw[mulI_s _ _ (by lia),addI_s,modI_s _ _ (by decide),ex]
 obtain⟨ss,rfl,IG⟩:=lD (Q:=fun x=>x.length=1) gl gp fun d y hz=>by obtain⟨x,hx,e⟩:=hz;exact⟨x,e,hx⟩
 rw[aM,ZJ]at gl;refine⟨ss,by lia,?_⟩
 rw[ay (f:=Hl) (δ:=[some (.int c,false),none,none,none,none]) rfl rfl rfl];have Fv:lim=1000000:=rfl;simp[Cv,Fv];rw[bh c 13 (by lia) (by lia),shO_s,modI_s _ _ (by decide)]
 simp;rw[bh c 14 (by lia) (by lia),shO_s,modI_s _ _ (by decide)]
 simp;rw[Rr];simp;rw[eT 4 (by lia),bindO_s,aQ (by rw[aM];decide)]
 simp[ax];rw[eg];simp
theorem nI(x:D):∀l:List D,(lM x l).length=l.length+1
 |[]=>rfl
 |y::ys=>by
  unfold lM;split
  .simp[nI x ys]
  .simp
theorem nG{x z:D}:∀{l:List D},z∈lM x l->z=x\/z∈l
 |[],h=>by simpa[lM]using h
 |y::ys,h=>by
  unfold lM at h;split at h
  .rcases ZX.mp h with h|h
   .exact .inr (ZX.mpr (.inl h))
   .rcases nG h with h|h
    .exact .inl h
    .exact .inr (ZZ _ h)
  .rcases ZX.mp h with h|h
   .exact .inl h
   .exact .inr h
theorem fV:∀l:List D,(aZ l).length=l.length
 |[]=>rfl
 |x::l=>by show(lM x (aZ l)).length=_;rw[nI,fV l];rfl
theorem fT{z:D}:∀{l:List D},z∈aZ l->z∈l
 |[],h=>h
 |x::l,h=>by
  rcases nG (show z∈lM x (aZ l) from h)with h|h
  .exact ZX.mpr (.inl h)
  .exact ZZ _ (fT h)
def rf{ws:List Str}{i:Int}(h0:0<=i)(h1:i<ws.length):∃w,atI (ws.map D.str) i=some (.str w):=by
 obtain⟨v,hv,_,e⟩:=jY (xs:=ws.map D.str) h0 (by simpa using h1)
 obtain⟨w,_,rfl⟩:=ZL.mp hv;exact⟨w,e⟩
def k6{α:Type}{F:α->D}{P:D->D->Prop}{ds g:List D}{Q:α->Prop}(hl:g.length=ds.length)(h:∀(i:Nat) d,ds[i]?=some d->∃y,g[i]?=some y/\P d y)(hP:∀d y,P d y->∃x,y=F x/\Q x):∃ss:List α,g=ss.map F/\∀x∈ss,Q x:=by
 have hy:∀y∈g,∃x,y=F x/\Q x:=fun y hy=>by
  obtain⟨i,hi,e⟩:=WM.mp hy;obtain⟨z,ez,p⟩:=h i (ds[i]'(by lia)) (by simp[show i<ds.length by lia])
  rw[Y4 hi]at ez
  obtain rfl:=Z9 ez;rw[<-e];exact hP _ _ p
 clear h hl
 induction g with
 |nil=>exact⟨[],rfl,by simp⟩
 |cons y g ih=>
  obtain⟨x,e,q⟩:=hy y (ZV ..);obtain⟨ss,e2,q2⟩:=ih fun z hz=>hy z (ZZ _ hz)
  refine⟨x::ss,by rw[e,e2];rfl,fun z hz=>?_⟩
  rcases ZX.mp hz with hz|hz
  .rw[hz];exact q
  .exact q2 z hz
def Bv(ns:List Int)(l u:Z_ Int):∃cs:List Int,rP (ns.map D.int) l u=cs.map D.int/\cs.length<=ns.length:=by
 unfold rP;refine⟨_,by rw[<-List.map_drop,<-List.map_take],?_⟩
 simp;lia
def A9(n:Nat)(r q:Row):(ltD (n+3) (aD r) (aD q)).isSome=true:=by
 show(cb (ltD (n+2)) [.str r.1,.tup (r.2.map ceD)] [.str q.1,.tup (q.2.map ceD)]).isSome=true;unfold cb;split
 .unfold cb
  split
  .rfl
  .show(cb (ltD (n+1)) (r.2.map ceD) (q.2.map ceD)).isSome=true
   refine fI fun x hx y hy=>?_
   obtain⟨c,_,rfl⟩:=ZL.mp hx;obtain⟨e,_,rfl⟩:=ZL.mp hy;exact AB n c e
 .rfl
def tR(rs:List Row):eI (rs.map aD)=true:=by
 unfold eI;rw[ZM];intro x hx;obtain⟨r,_,rfl⟩:=ZL.mp hx;rw[ZH];refine⟨i5 r 12,?_⟩
 rw[ZM];intro y hy;obtain⟨q,_,rfl⟩:=ZL.mp hy;exact A9 12 r q
def yc(rs:List Row):(rs.map aD).all (dI .ts)=true:=by
 rw[ZM];intro x hx;obtain⟨r,_,rfl⟩:=ZL.mp hx;rfl
def mG{α:Type}{F:α->D}{l:List D}{P:α->Prop}(h:∀x∈l,∃a,P a/\x=F a):∃as:List α,l=as.map F/\∀a∈as,P a:=by
 induction l with
 |nil=>exact⟨[],rfl,by simp⟩
 |cons x l ih=>
  obtain⟨a,pa,e⟩:=h x (ZV ..);obtain⟨as,e2,PV⟩:=ih fun y hy=>h y (ZZ _ hy)
  refine⟨a::as,by rw[e,e2];rfl,fun b hb=>?_⟩
  rcases ZX.mp hb with rfl|hb
  .exact pa
  .exact PV b hb
def uZ(rs:List Row)(h:rs.length<64):∃fs:List Row,(∀r∈fs,r∈rs)/\fs.length<=rs.length/\Hj [.lst (rs.map aD)]=some (.lst (fs.map aD),true):=by
 obtain⟨ss,es,IG⟩:=mG (F:=aD) (l:=aZ (rs.map aD)) (P:=fun r=>r∈rs) fun x hx=>by
  obtain⟨r,hr,e⟩:=ZL.mp (fT hx);exact⟨r,hr,e.symm⟩
 have Mo:ss.length=rs.length:=by have:=congrArg List.length es;rw[fV]at this;simpa using this.symm
 have loop:∀(qs fs:List Row)(x2:Z_ (D×Bool)),fs.length+qs.length<64->∃(Ie:List Row)(y2:Z_ (D×Bool)),(∀r∈Ie,r∈fs\/r∈qs)/\Ie.length<=fs.length+qs.length/\
   am (fun d δ=>ae ((aa 2) d δ) mF) (qs.map aD) [some (.lst (rs.map aD),false),some (.lst (fs.map aD),true),x2]=some (.next [some (.lst (rs.map aD),false),some (.lst (Ie.map aD),true),y2]):=by
  intro qs
  induction qs with
  |nil=>intro fs x2 _;exact⟨fs,x2,fun r hr=>.inl hr,by simp,rfl⟩
  |cons q qs ih=>
   intro fs x2 hl;rw[List.length_cons]at hl;have G4:inO (some (aD q)) (some (.lst (fs.map aD)))=some (decide (aD q∈fs.map aD)):=by
    unfold inO;simp only[aP];rw[Z0];rw[i5 q 13,XJ,ZM];intro x hx;obtain⟨r,_,rfl⟩:=ZL.mp hx;exact i5 r 13
   by_cases hm:aD q∈fs.map aD
   .obtain⟨Ie,y2,h1,h2,h3⟩:=ih fs (some (aD q,false)) (by lia)
    refine⟨Ie,y2,fun r hr=>(h1 r hr).imp id fun z=>ZZ _ z,by rw[List.length_cons];lia,?_⟩
    rw[Z1,<-h3]
    conv=>lhs;unfold am
    simp[mF,bZ,G4,hm]
   .obtain⟨Ie,y2,h1,h2,h3⟩:=ih (fs++[q]) (some (aD q,false)) (by simp;lia)
    refine⟨Ie,y2,fun r hr=>?_,by simp at h2⊢;lia,?_⟩
    .rcases h1 r hr with z|z
     .rcases Zl.mp z with z|z
      .exact .inl z
      .rw[ZE.mp z];exact .inr (ZV ..)
     .exact .inr (ZZ _ z)
    .rw[Z1,<-h3]
     conv=>lhs;unfold am
     have Kj:decide (aD q∈fs.map aD)=false:=ZN hm;simp only[mF,bZ,toName_s,rd_1,rd_0,rd_0o,List.length_cons,List.length_nil,List.set_cons_succ,List.set_cons_zero,bindO_s,XS,Nat.reduceAdd,Nat.reduceLT,G4,Kj,notO_s,XW,ifO_t,Bo,rdOwn_0,rdOwn_1];rw[Z0 (by rw[ZJ,lim_eq];lia)]
     simp
 obtain⟨fs,y2,h1,h2,h3⟩:=loop ss [] none (by simp;lia)
 refine⟨fs,fun r hr=>?_,by simp at h2;lia,?_⟩
 .rcases h1 r hr with z|z
  .simp at z
  .exact IG r z
 .rw[ay (f:=Hj) (δ:=[some (.lst (rs.map aD),false),none,none]) rfl rfl rfl]
  have Qg:jb .ts (some (.lst (rs.map aD)))=some (.lst (ss.map aD)):=by
   rw[mw (tR rs) (.inr (yc rs)),es]
  rw[Y7]at h3;simp[Cy,Qg];rw[h3];simp
def aN(ws:List Str)(st sp:Int):D:=.tup [.lst (ws.map .str),.int st,.int sp]
def u9(c:Int):∃ws st sp,ws.length=6/\0<=st/\st<400000/\0<=sp/\sp<=50000/\Hm [.int c]=some (aN ws st sp,false):=by
 obtain⟨ws,hw,ew⟩:=vj c;have m1:=aR c 11;have m2:=aR c 12;refine⟨ws,cP c 11%400000,1+cP c 12%50000,hw,by lia,by lia,by lia,by lia,?_⟩
 rw[ay (f:=Hm) (δ:=[some (.int c,false)]) rfl rfl rfl];simp[B7,ew];rw[bh c 11 (by lia) (by lia),bh c 12 (by lia) (by lia)]
 simp[aN]
def rg{a b m:Int}(h0:0<=a)(h1:a<m)(hb:1<=b):0<=a / b/\a / b<m:=⟨Int.ediv_nonneg h0 (by lia),Int.lt_of_le_of_lt (Int.ediv_le_self b h0) h1⟩
def xD{ws:List Str}{st sp:Int}(hw:ws.length=6)(h0:0<=st)(h1:st<400000)(h2:0<=sp)(h3:sp<=50000)(c:Int)(hc:0<=c):∃e:Ce,GP [aN ws st sp,.int c]=some (ceD e,false):=by
 have d1:=rg (a:=c / 2%6) (b:=1+c / 12%3) (m:=6) (by lia) (by lia) (by lia)
 have d2:=rg (a:=c / 2%12) (b:=1+c / 24%4) (m:=12) (by lia) (by lia) (by lia)
 obtain⟨w,ew⟩:=rf (ws:=ws) (i:=c / 2%6 / (1+c / 12%3)) d1.1 (by have:=d1.2;lia)
 by_cases hm:c%2=0
 .refine⟨.bk (st+sp*(c / 2%12 / (1+c / 24%4))),?_⟩
  rw[ay (f:=GP) (δ:=[some (aN ws st sp,false),some (.int c,false),none,none,none]) rfl rfl rfl];simp[Bs,aN,hm];rw[divI_s _ _ (by lia),mulI_s sp _ (by lia)]
  simp[ceD]
 .refine⟨.nm w,?_⟩
  rw[ay (f:=GP) (δ:=[some (aN ws st sp,false),some (.int c,false),none,none,none]) rfl rfl rfl];simp[Bs,aN,hm];rw[divI_s _ _ (by lia),ixO_l,ew]
  simp[ceD]
def wA{ws:List Str}{st sp:Int}(hw:ws.length=6)(h0:0<=st)(h1:st<400000)(h2:0<=sp)(h3:sp<=50000)(c:Int):∃r:Row,r.2.length<=4/\Ge [aN ws st sp,.int c]=some (aD r,false):=by
 have m1:=aR c 1;have m2:=aR c 2;have m7:=aR c 7;generalize hsz:1+cP c 1%3=sz;have d1:=rg (a:=cP c 2%3) (b:=1+cP c 7%2) (m:=3) (by lia) (by lia) (by lia)
 obtain⟨t,et⟩:=rf (ws:=ws) (i:=cP c 2%3 / (1+cP c 7%2)) d1.1 (by have:=d1.2;lia)
 have Ro:atI [D.lst (ws.map .str),.int st,.int sp] 0=some (.lst (ws.map .str)):=rfl;obtain⟨g,eg,gl,gp⟩:=bV (ds:=gT 0 sz.toNat) (P:=fun _ y=>∃e:Ce,True/\y=ceD e)
  (h:=aC (aa 4) (fun δ=>some true) qH [some (aN ws st sp,false),some (.int c,false),none,none,none]) fun d hd=>by
   obtain⟨i,hi,rfl⟩:=bT hd;obtain⟨e,ee⟩:=xD hw h0 h1 h2 h3 (cP c (3+(0+(i:Int)))) (aR _ _);refine⟨ceD e,?_,e,trivial,rfl⟩
   have e0:(0:Int)+(i:Int)=i:=by lia
   rw[e0]at ee⊢;simp[aC,qH];rw[bh c _ (by lia) (by lia)]
   simp[ee]
 obtain⟨cs,rfl,MD⟩:=k6 (F:=ceD) (Q:=fun _=>True) gl gp fun d y hz=>by obtain⟨e,a,b⟩:=hz;exact⟨e,b,a⟩
 rw[aM,ZJ]at gl;refine⟨(t,cs),by simp only;lia,?_⟩
 rw[ay (f:=Ge) (δ:=[some (aN ws st sp,false),some (.int c,false),none,none,none]) rfl rfl rfl];simp[Cz];rw[bh c 1 (by lia) (by lia),shO_s,modI_s _ _ (by decide),addI_s,hsz]
 simp;rw[eT sz (by lia),bindO_s,aQ (by rw[aM,lim_eq];lia)]
 simp[ax];rw[eg];simp[v3,aN,Ro];rw[bh c 2 (by lia) (by lia),bh c 7 (by lia) (by lia),shO_s,shO_s,modI_s _ _ (by decide),modI_s _ _ (by decide),addI_s,divI_s _ _ (by lia),ixO_l,et]
 simp[aD]
end K13
namespace K13
open PySem L2 JP
variable[Lams]
def Dz(a b:D)(i j:Nat)(δ:DEnv)(hi:i<δ.length)(hj:j<δ.length):tw (some (.tup [a,b])) (aK (ah (aa i) (ah (aa j) (toNil)))) δ=some (.next ((δ.set i (some (a,false))).set j (some (b,false)))):=by
 unfold tw;simp only[toTup_s,toCons_s,toNil_s,toName_s i a δ hi,bindO_s];rw[toName_s j b _ (by simpa using hj)]
 rfl
def C5:¬(Str.ofString "blank")=(Str.ofString "any"):=by decide +kernel
def By(c:Ce)(d:Int)(l:Str):Te:=match c with|.bk _=>.any l|.nm w=>if d%2=1 then .any l else .nm w
def Wd(w:D):Prop:=∃ws st sp,ws.length=6/\0<=st/\st<400000/\0<=sp/\sp<=50000/\w=aN ws st sp
def ur{ls:List Str}(hl:ls.length=4)(c:Int)(a0 a2 a4:Z_ (D×Bool))(cs:List Ce)(MD:cs.length<=4):∃ts:List Te,ts.length=cs.length/\∃x7 x8,
  am (fun d δ=>ae ((aa 7) d δ) mU) (gT 0 cs.length) [a0,some (.lst (ls.map .str),false),a2,some (.int c,false),a4,some (.tup (cs.map ceD),false),some (.lst [],true),none,none]=
   some (.next [a0,some (.lst (ls.map .str),false),a2,some (.int c,false),a4,some (.tup (cs.map ceD),false),some (.lst (ts.map teD),true),x7,x8]):=by
 obtain⟨i_,el,ts,hpl,x7,x8,rfl⟩:=fG (body:=fun d δ=>ae ((aa 7) d δ) mU) (fun pre δ=>∃ts:List Te,ts.length=pre.length/\∃x7 x8,
   δ=[a0,some (.lst (ls.map .str),false),a2,some (.int c,false),a4,some (.tup (cs.map ceD),false),some (.lst (ts.map teD),true),x7,x8]) (gT 0 cs.length) []
  [a0,some (.lst (ls.map .str),false),a2,some (.int c,false),a4,some (.tup (cs.map ceD),false),some (.lst [],true),none,none] ⟨[],rfl,none,none,rfl⟩
  fun p d q δ IH hz=>by
   obtain⟨ts,FJ,x7,x8,e⟩:=hz;have hd:d∈gT 0 cs.length:=by
    rw[List.nil_append]at IH;rw[<-IH];simp
   have hp:p.length<4:=by
    have:=congrArg List.length IH;rw[List.nil_append,aM]at this;simp at this;lia
   obtain⟨i,hi,rfl⟩:=bT hd;subst e;have e0:(0:Int)+(i:Int)=i:=by lia
   rw[e0];have h0:=aR c (17+(i:Int));obtain⟨l,el⟩:=rf (ws:=ls) (i:=cP c (17+(i:Int)) / 2%4) (by lia) (by lia)
   have hc:atI (cs.map ceD) (i:Int)=some (ceD cs[i]):=wf (by lia) (by simp[hi])
   have hm:=bh c (17+(i:Int)) (by lia) (by lia)
   have ap:∀(t:Te)(x7 x8:Z_ (D×Bool)),iV 6 (some (teD t)) [a0,some (.lst (ls.map .str),false),a2,some (.int c,false),a4,some (.tup (cs.map ceD),false),some (.lst (ts.map teD),true),x7,x8]=some (.next [a0,some (.lst (ls.map .str),false),a2,some (.int c,false),a4,some (.tup (cs.map ceD),false),some (.lst ((ts++[t]).map teD),true),x7,x8]):=fun t x7 x8=>by
    rw[fS (ds:=ts.map teD) _ (by rfl) (by rw[ZJ,lim_eq];lia)]
    simp
   refine⟨_,.inl ?_,ts++[By cs[i] (cP c (17+(i:Int))) l],by simp[FJ],some (.int i,false),some (.int (cP c (17+(i:Int))),false),rfl⟩
   simp only[toName_s,List.length_cons,List.length_nil,Nat.reduceAdd,Nat.reduceLT,bindO_s,List.set_cons_succ,List.set_cons_zero,mU,rd_1,rd_0,addI_s,consO_s,hm,shO_s,setO_s,seqO_n,ixO_t,hc,ixO_l,modI_s _ _ (show(0:Int)<2 by lia),modI_s _ _ (show(0:Int)<4 by lia),divI_s _ _ (show(0:Int)<2/\(2:Int)<1073741824 by lia),el]
   rw[tupO_s _ (by simp)]
   have ta:(.tup [.str "any",.str l]:D)=teD (.any l):=rfl;rw[ta,ap];cases Sw:cs[i]with
   |bk n=>
    have:eqO (ixO (some (ceD (.bk n))) (some (.int 0))) (some (.str "blank"))=some true:=by simp[ceD,at0,aU]
    rw[this];simp[By]
   |nm w=>
    have:eqO (ixO (some (ceD (.nm w))) (some (.int 0))) (some (.str "blank"))=some false:=by simp[ceD,at0,aU,nb]
    rw[this];have tn:ceD (.nm w)=teD (.nm w):=rfl;rw[tn,ap]
    by_cases hm:cP c (17+(i:Int))%2=1
    .simp[hm,By]
    .simp[hm,By]
 rw[List.nil_append,aM]at hpl;exact⟨ts,hpl,x7,x8,el⟩
def nU{w:D}(hw:Wd w){ls:List Str}(hl:ls.length=4){rs:List Row}(Fb:rs.length<=63)(h4:∀r∈rs,r.2.length<=4)(c:Int):∃p:Pat,p.2.length<=4/\Hi [w,.lst (ls.map .str),.lst (rs.map aD),.int c]=some (aF p,false):=by
 obtain⟨ws,st,sp,w1,w2,w3,w4,w5,rfl⟩:=hw;obtain⟨r0,Qj,Rv⟩:=wA w1 w2 w3 w4 w5 c;have Sb:=aR c 16;have c9:∃r:Row,r.2.length<=4/\ifO (neO (some (.lst (rs.map aD))) (bU (some []))) (tw (ixO (some (.lst (rs.map aD))) (c8 (shO (ae (af (some (.int c)) (af (some (.int 16)) (some []))) r_)) (iM (some (.lst (rs.map aD)))))) (aK (ah (aa 4) (ah (aa 5) (toNil)))) [some (aN ws st sp,false),some (.lst (ls.map .str),false),some (.lst (rs.map aD),false),some (.int c,false),some (.str r0.1,false),some (.tup (r0.2.map ceD),false),none,none,none]) (nextO [some (aN ws st sp,false),some (.lst (ls.map .str),false),some (.lst (rs.map aD),false),some (.int c,false),some (.str r0.1,false),some (.tup (r0.2.map ceD),false),none,none,none])=
   some (.next [some (aN ws st sp,false),some (.lst (ls.map .str),false),some (.lst (rs.map aD),false),some (.int c,false),some (.str r.1,false),some (.tup (r.2.map ceD),false),none,none,none]):=by
  have en:neO (some (.lst (rs.map aD))) (bU (some []))=some (!decide (rs=[])):=by
   rw[lstO_s _ (by simp),yC _ _ (by unfold ok2;rw[yU];rfl)]
   congr 2;exact Yt.mpr (by simp)
  rw[en]
  by_cases hn:rs=[]
  .refine⟨r0,Qj,?_⟩
   rw[Zm hn];rfl
  .have Nd:0<rs.length:=WK.mpr hn
   have a0:(0:Int)<=cP c 16%(rs.length:Int):=Int.emod_nonneg _ (by lia)
   have a1:cP c 16%(rs.length:Int)<rs.length:=Int.emod_lt_of_pos _ (by lia)
   obtain⟨v,hv,_,ev⟩:=jY (xs:=rs.map aD) a0 (by simpa using a1)
   obtain⟨r,hr,rfl⟩:=ZL.mp hv;refine⟨r,h4 r hr,?_⟩
   rw[ZN hn];simp only[XW,ifO_t,consO_s,bindO_s,bh c 16 (by lia) (by lia),shO_s,lenL_l,ZJ,modI_s _ _ (show(0:Int)<rs.length by lia),ixO_l,ev]
   unfold aD;rw[Dz _ _ _ _ _ (by simp) (by simp)]
   rfl
 obtain⟨r,hr,er⟩:=c9;obtain⟨ts,ht,x7,x8,el⟩:=ur hl c (some (aN ws st sp,false)) (some (.lst (rs.map aD),false)) (some (.str r.1,false)) r.2 hr;refine⟨(r.1,ts),by simp only;lia,?_⟩
 rw[ay (f:=Hi) (δ:=[some (aN ws st sp,false),some (.lst (ls.map .str),false),some (.lst (rs.map aD),false),some (.int c,false),none,none,none,none,none]) rfl rfl rfl];simp only[Ct,rd_1,rd_0,consO_s,bindO_s,Rv,shO_s];have e1:aD r0=.tup [.str r0.1,.tup (r0.2.map ceD)]:=rfl;rw[e1,Dz _ _ _ _ _ (by simp) (by simp)]
 simp only[seqO_n,List.set_cons_succ,List.set_cons_zero,rd_1,rd_0];simp only[consO_s,bindO_s]at er;simp only[consO_s,bindO_s];rw[er];simp only[seqO_n];rw[lstO_s _ (by simp),setF_s _ _ _ (by simp)]
 simp only[seqO_n,List.set_cons_succ,List.set_cons_zero,rd_1,rd_0,lenL_t,ZJ];rw[eT _ (by lia),bindO_s,Int.toNat_natCast,el]
 simp only[seqO_n,frzE_1,frzE_0,wo,rd_1,rd_0,tupleO_l,consO_s];rw[tupO_s _ (by simp)]
 rfl
end K13
namespace K13
open PySem L2 JP
variable[Lams]
def mZ(xs:List Int)(k:Nat):rP (xs.map D.int) none (some (k:Int))=(xs.take k).map D.int:=by
 unfold rP;rw[HT.sIx_nat,HT.sIx_none,List.drop_zero,Nat.sub_zero,<-List.map_take,ZJ];congr 1
 by_cases h:xs.length<=k
 .rw[Nat.min_eq_right h,YK h,YK (ZU _)]
 .rw[Nat.min_eq_left (by lia)]
def je{n:Nat}{ds:List D}(h:∀d∈ds,okD n d=true):okD (n+1) (.lst ds)=true:=by simp only[okD];exact ZM.mpr h
def qJ(n:Nat)(ss:List Str):okD (n+1) (.lst (ss.map D.str))=true:=je fun d hd=>by obtain⟨s,_,rfl⟩:=ZL.mp hd;cases n<;>rfl
def Ak(t:Te)(n:Nat):okD (n+1) (teD t)=true:=by cases t<;>simp[teD,okD]
def yz(n:Nat)(ps:List Pat):okD (n+4) (.lst (ps.map aF))=true:=je fun d hd=>by
 obtain⟨p,_,rfl⟩:=ZL.mp hd;simp only[aF,okD,List.all_cons,List.all_nil,Xv,XJ];exact ZM.mpr fun x hx=>by obtain⟨t,_,rfl⟩:=ZL.mp hx;exact Ak t n
def uw(n:Nat)(rs:List Row):okD (n+4) (.lst (rs.map aD))=true:=je fun d hd=>by obtain⟨r,_,rfl⟩:=ZL.mp hd;exact i5 r n
def Ai(fs:List (List Ce)):okD 16 (.lst (fs.map cD))=true:=je fun d hd=>by obtain⟨c,_,rfl⟩:=ZL.mp hd;exact CT c
def kQ{d:D}(h:okD 16 d=true):eqO (some d) (some d)=some true:=by rw[oM _ _ (by unfold ok2;rw[h];rfl)];simp
def lF{d:D}(h:okD 16 d=true):neO (some d) (some d)=some false:=by rw[yC _ _ (by unfold ok2;rw[h];rfl)];simp
def uu(ts:List Te):bb (aC (aa 6) (fun δ=>eqO (ixO (rd false 6 δ) (some (.int 0))) (some (.str "any"))) mL [none,none,none,none,none,none,none]) (ts.map teD)=some ((ans ts).map D.str):=by
 induction ts with
 |nil=>rfl
 |cons c ts ih=>
  rw[Z1];unfold bb;rw[ih];cases c with
  |any n=>simp[aC,teD,mL,at0,at1,aU,ans]
  |nm w=>simp[aC,teD,mL,at0,at1,aU,na,ans]
theorem nz:∀(rs:List Pat)(acc:List Str)(a0 a1 x3 x4 x5 x6:Z_ (D×Bool)),(∀r∈rs,r.2.length<=4)->acc.length+4*rs.length<=1000->∃y3 y4,
  am (fun d δ=>ae ((aK (ah (aa 3) (ah (aa 4) (toNil)))) d δ) pL) (rs.map aF) [a0,a1,some (.lst (acc.map D.str),true),x3,x4,x5,x6]=some (.next [a0,a1,some (.lst ((acc++bu rs).map D.str),true),y3,y4,x5,x6])
 |[],acc,a0,a1,x3,x4,x5,x6,_,_=>⟨x3,x4,by simp[am,bu]⟩
 |r::rs,acc,a0,a1,x3,x4,x5,x6,h4,hl=>by
  have hr:=h4 r (ZV ..);have hb:=fm r.2;rw[List.length_cons]at hl;obtain⟨y3,y4,e⟩:=nz rs (acc++ans r.2) a0 a1 (some (.str r.1,false)) (some (.tup (r.2.map teD),false)) x5 x6 (fun q hq=>h4 q (ZZ _ hq)) (by simp;lia)
  refine⟨y3,y4,?_⟩
  have en:acc++bu (r::rs)=acc++ans r.2++bu rs:=by simp[bu]
  rw[en,<-e,Z1]
  conv=>lhs;unfold am
  simp[aF,pL];rw[aQ (by simp;lia)]
  simp[ax];have:=uu r.2;rw[this];simp[v5];rw[Z0 (by lia)]
def j9{ps:List Pat}(FJ:ps.length<=4)(h4:∀p∈ps,p.2.length<=4)(t:Int):∃ws:List Str,ws.length<=100/\(∀w∈ws,w∈bu ps)/\GO [.lst (ps.map aF),.int t]=some (.lst (ws.map D.str),true):=by
 obtain⟨y3,y4,e⟩:=nz ps [] (some (.lst (ps.map aF),false)) (some (.int t,false)) none none none none h4 (by simp;lia)
 have ll:=bR h4;have R_:=aR t 39;have bM:GO [.lst (ps.map aF),.int t]=oV (rR [some (.lst (ps.map aF),false),some (.int t,false),some (.lst ((bu ps).map D.str),false),y3,y4,none,none]):=by
  rw[ay (f:=GO) (δ:=[some (.lst (ps.map aF),false),some (.int t,false),none,none,none,none,none]) rfl rfl rfl];simp only[CH];rw[lstO_s [] (by simp),setF_s _ _ _ (by simp)]
  simp only[seqO_n,List.set_cons_succ,List.set_cons_zero,rd_1,rd_0,lstL_s,bindO_s];simp only[Y7,List.nil_append]at e;rw[e];simp only[seqO_n,frzE_1,frzE_0]
 have Rw:eqO (some (.lst ((bu ps).map D.str))) (bU (some []))=some (decide (bu ps=[])):=by
  rw[lstO_s [] (by simp),oM _ _ (by unfold ok2;rw[qJ 15];rfl)]
  congr 1;exact Yt.mpr (by simp)
 rw[bM];simp only[rR,rd_1,rd_0,Rw]
 by_cases hn:bu ps=[]
 .refine⟨[],by simp,by simp,?_⟩
  rw[Zm hn,lstO_s [] (by simp)]
  simp only[ifO_t,retF_s,seqO_r,outF_r,Y7]
 .have Nd:0<(bu ps).length:=WK.mpr hn
  obtain⟨g,eg,gl,gp⟩:=bV (ds:=gT 0 (cP t 39%9).toNat) (P:=fun _ y=>∃x:Str,x∈bu ps/\y=.str x)
   (h:=aC (aa 5) (fun δ=>some true) sg [none,some (.int t,false),some (.lst ((bu ps).map D.str),false),none,none,none,none]) fun d hd=>by
    obtain⟨i,hi,rfl⟩:=bT hd;have h0:=aR t (40+(0+(i:Int)));have a0:(0:Int)<=cP t (40+(0+(i:Int)))%((bu ps).length:Int):=Int.emod_nonneg _ (by lia)
    have a1:cP t (40+(0+(i:Int)))%((bu ps).length:Int)<(bu ps).length:=Int.emod_lt_of_pos _ (by lia)
    obtain⟨v,hv,_,ev⟩:=jY (xs:=(bu ps).map D.str) a0 (by simpa using a1)
    obtain⟨x,hx,rfl⟩:=ZL.mp hv;refine⟨.str x,?_,x,hx,rfl⟩
    have e0:(0:Int)+(i:Int)=i:=by lia
    rw[e0]at ev⊢;simp only[aC,toName_s,List.length_cons,List.length_nil,Nat.reduceAdd,Nat.reduceLT,bindO_s,List.set_cons_succ,List.set_cons_zero,sg,rd_1,rd_0,addI_s,consO_s,bh t (40+(i:Int)) (by lia) (by lia),shO_s,lenL_l,ZJ,modI_s _ _ (show(0:Int)<(bu ps).length by lia),ixO_l,ev]
  obtain⟨ss,rfl,IG⟩:=lD (Q:=fun x=>x∈bu ps) gl gp fun d y hz=>by obtain⟨x,hx,e⟩:=hz;exact⟨x,e,hx⟩
  rw[aM,ZJ]at gl;refine⟨ss,by lia,IG,?_⟩
  rw[ZN hn];simp only[ifO_f,nextO_s,seqO_n,rd_1,rd_0,consO_s,bindO_s,bh t 39 (by lia) (by lia),shO_s,modI_s _ _ (show(0:Int)<9 by lia)]
  rw[eT _ (by lia),bindO_s,aQ (by rw[aM,lim_eq];lia)]
  simp[ax];rw[eg];simp
theorem gA(a0 a1:Z_ (D×Bool)):∀(fs:List (List Ce))(x2 x3:Z_ (D×Bool)),(∀c∈fs,c.length<=1000)->∃y2,
  am (fun d δ=>ae ((aa 2) d δ) qm) (fs.map cD) [a0,a1,x2,x3]=some (.next [a0,a1,y2,x3])
 |[],x2,x3,_=>⟨x2,by simp[am]⟩
 |c::fs,x2,x3,h=>by
  obtain⟨y2,e⟩:=gA a0 a1 fs (some (cD c,false)) x3 fun c' h'=>h c' (.tail _ h')
  refine⟨y2,?_⟩
  have hc:=h c (.head _);rw[Z1];unfold am;rw[toName_s _ _ _ (by simp)]
  have i1:vU "tuple" (some (cD c))=some (.bl true):=rfl;have i2:tZ (some (cD c))=some (c.map ceD):=rfl;simp only[bindO_s,List.set_cons_succ,List.set_cons_zero,qm,rd_1,rd_0,i1,i2,tyB_s,notO_s,YU,orO_f];rw[aQ (by simp;lia),cM (f:=ceD) (h:=ceD) (p:=fun _=>false) fun e _=>by
   have i3:vU "tuple" (some (ceD e))=some (.bl true):=by cases e<;>rfl
   unfold aC;have em:(ax false [false,false,false,false] [a0,a1,some (cD c,false),x3])=[none,none,none,none]:=by simp[ax]
   rw[em,toName_s _ _ _ (by simp)]
   simp only[bindO_s,List.set_cons_succ,List.set_cons_zero,rd_1,rd_0,i3,tyB_s,notO_s,YU];rfl]
  have e0:(c.filter fun _=>false).map ceD=[]:=by simp
  rw[e0,lstLim_s,lstO_s [] (by simp),lF rfl]
  simp only[ifO_f,nextO_s];exact e
def jm(fs:List (List Ce))(h:∀c∈fs,c.length<=1000):He [.lst (fs.map cD),.lst (fs.map cD)]=some (.bl true,false):=by
 rw[ay (f:=He) (δ:=[some (.lst (fs.map cD),false),some (.lst (fs.map cD),false),none,none]) rfl rfl rfl];obtain⟨y2,e⟩:=gA (some (.lst (fs.map cD),false)) (some (.lst (fs.map cD),false)) fs none none h;have i1:vU "list" (some (.lst (fs.map cD)))=some (.bl true):=rfl;simp only[BM,rd_1,rd_0,i1,tyB_s,notO_s,YU,orO_f,lF (Ai fs),ifO_f,nextO_s,seqO_n,lstL_s,bindO_s];rw[e];simp only[seqO_n,retO_s,outF_r]
end K13
namespace K13
open PySem L2 JP
variable[Lams]
def xO{rs:List Row}(Fb:rs.length<=500):F2 [.lst (rs.map aD),.tup [.lst [],.lst []]]=some (.lst [.tup []],true):=by
 obtain⟨fs,n1,m1,e⟩:=gw Fb (ps:=[]) (by simp) (by simp) (by simp) (wanted:=[]) (by simp) (by simp)
 have:aZ (fs.map cD)=aZ (([[]]:List (List Ce)).map cD):=jV n1 (by simp) fun x=>by
  rw[m1];constructor
  .rintro⟨φ,rfl,_⟩;simp
  .intro h;simp at h;subst h;exact⟨fun _=>default,rfl,fun p hp=>nomatch hp⟩
 rw[this]at e;exact e
def D5{m:Int}(h0:0<=m)(h1:m<4):∃k:Nat,k<=40/\(m=3->k<=9)/\atI [D.int 40,.int 40,.int 40,.int 9] m=some (.int (k:Int)):=by
 have:m=0\/m=1\/m=2\/m=3:=by lia
 rcases this with rfl|rfl|rfl|rfl
 .exact⟨40,by lia,by lia,rfl⟩
 .exact⟨40,by lia,by lia,rfl⟩
 .exact⟨40,by lia,by lia,rfl⟩
 .exact⟨9,by lia,by lia,rfl⟩
def pure(ns:List Int)(hn:ns.length<=63):f_law [.lst (ns.map D.int)]=some (.bl true,false):=by
 have ec:rP (ns.map D.int) none (some 63)=(ns.take 63).map D.int:=mZ ns 63;generalize M_:(ns.take 63).sum%1000003=Gw;have Sa:=aR Gw 30;obtain⟨k,k1,k2,ek⟩:=D5 (m:=cP Gw 30%4) (by lia) (by lia)
 obtain⟨ws,st,sp,w1,w2,w3,w4,w5,ew⟩:=u9 Gw;obtain⟨ls,hl,el⟩:=nO Gw;obtain⟨g,eg,gl,gp⟩:=bV (ds:=(ns.take k).map D.int) (P:=fun _ y=>∃r:Row,r.2.length<=4/\y=aD r)
  (h:=aC (aa 13) (fun δ=>some true) lR [none,none,none,none,some (aN ws st sp,false),none,none,none,none,none,none,none,none,none]) fun d hd=>by
   obtain⟨c,_,rfl⟩:=ZL.mp hd;obtain⟨r,hr,er⟩:=wA w1 w2 w3 w4 w5 c;exact⟨aD r,by simp[aC,lR,er],r,hr,rfl⟩
 obtain⟨qs,rfl,Qk⟩:=k6 (F:=aD) (Q:=fun r=>r.2.length<=4) gl gp fun d y hz=>by obtain⟨e,a,b⟩:=hz;exact⟨e,b,a⟩
 rw[ZJ,ZJ]at gl;have hk:(ns.take k).length<=k:=by simp;lia
 obtain⟨rs,P4,Se,Ru⟩:=uZ qs (by lia)
 have Fb:rs.length<=63:=by lia
 have Ra:∀r∈rs,r.2.length<=4:=fun r hr=>Qk r (P4 r hr)
 have hW:Wd (aN ws st sp):=⟨ws,st,sp,w1,w2,w3,w4,w5,rfl⟩;obtain⟨g2,Rz,OR,Rh⟩:=bV (ds:=gT 0 (cP Gw 30%4).toNat) (P:=fun _ y=>∃p:Pat,p.2.length<=4/\y=aF p)
  (h:=aC (aa 12) (fun δ=>some true) lj [none,some (.int Gw,false),none,none,some (aN ws st sp,false),some (.lst (rs.map aD),false),none,none,none,none,none,none,none,none]) fun d hd=>by
   obtain⟨i,hi,rfl⟩:=bT hd;obtain⟨u,hu,eu⟩:=nU hW hl Fb Ra (Gw*7+(0+(i:Int))*(0+(i:Int))+(0+(i:Int)));refine⟨aF u,?_,u,hu,rfl⟩
   have e0:(0:Int)+(i:Int)=i:=by lia
   rw[e0]at eu⊢;simp[aC,lj,mulI_s (Gw) 7 (by lia),mulI_s (i:Int) (i:Int) (by lia),el,eu]
 obtain⟨ps,rfl,h4⟩:=k6 (F:=aF) (Q:=fun p=>p.2.length<=4) OR Rh fun d y hz=>by obtain⟨e,a,b⟩:=hz;exact⟨e,b,a⟩
 rw[aM,ZJ]at OR;have FJ:ps.length<=4:=by lia
 have hN:∀j,j<ps.length->rs.length ^ j<=100:=fun j hj=>by
  have QE:j=0\/j=1\/(j=2/\rs.length<=9):=by
   by_cases c:cP Gw 30%4=3
   .have:=k2 c;lia
   .lia
  rcases QE with rfl|rfl|⟨rfl,h9⟩
  .simp
  .simp;lia
  .exact Zh (Nat.pow_le_pow_left h9 2) (by decide)
 obtain⟨as,la,ma,ea⟩:=j9 FJ h4 Gw;obtain⟨fs,n1,m1,ef⟩:=gw (rs:=rs) (by lia) FJ h4 hN la ma
 have ed:=oJ (rs:=rs) (by lia) FJ h4 hN la ma
 have es:aZ (fs.map cD)=aZ ((due rs ps as).map cD):=jV n1 (lJ rs ps ma).1 fun x=>by rw[m1,(lJ rs ps ma).2]
 rw[es]at ef;obtain⟨ds,OX,P6⟩:=mG (F:=cD) (l:=aZ ((due rs ps as).map cD)) (P:=fun c=>c.length<=1000) fun x hx=>by
  obtain⟨r,hr,e⟩:=ZL.mp (fT hx);exact⟨r,by rw[qg r hr];lia,e.symm⟩
 rw[OX]at ef ed;have eR:=jm ds P6;have e0:=xO (rs:=rs) (by lia)
 have NU:okD 16 (.lst [.lst (rs.map aD),.lst (as.map D.str),.lst (ps.map aF)])=true:=je fun d hd=>by
  simp only[ZX,Ze,Yy]at hd
  rcases hd with rfl|rfl|rfl
  .exact uw 11 rs
  .exact qJ 14 as
  .exact yz 11 ps
 have dl:ds.length<100000:=by
  have q:=congrArg List.length OX;rw[fV,ZJ,ZJ]at q;have key:∀(bs:List Bi)(l:List (List Ce)),(bs.foldl (oZ as) l).length<=l.length+bs.length:=fun bs=>by
   induction bs with
   |nil=>intro l;simp
   |cons b bs ih=>
    intro l;have h1:=ih (oZ as l b);have h2:(oZ as l b).length<=l.length+1:=fu (vl b as) l;rw[List.foldl_cons,List.length_cons];lia
  have hd:=key (LF rs ps) [];obtain⟨o1,o2⟩:=zM (rs:=rs) (ps:=ps) (found:=[[]]) (k:=0) h4 fun b hb=>by rw[ZE.mp hb];exact⟨Y3,by simp⟩
  have o3:rs.length ^ ps.length<=100*63:=by
   rcases Nat.eq_zero_or_pos ps.length with z|z
   .rw[z];simp
   .obtain⟨m,hm⟩:∃m,ps.length=m+1:=⟨ps.length - 1,by lia⟩
    rw[hm,Nat.pow_succ];exact WN (hN m (by lia)) Fb
  simp only[List.length_cons,List.length_nil,XS,Nat.mul_one]at o2;have C_:(due rs ps as).length<=0+(LF rs ps).length:=hd;have R9:(LF rs ps).length<=rs.length ^ ps.length:=o2
  lia
 rw[ay (f:=f_law) (δ:=[some (.lst (ns.map D.int),false),none,none,none,none,none,none,none,none,none,none,none,none,none]) rfl rfl rfl];simp only[w9,rd_0,partI_s,cutLO_s,ec,AG,modI_s _ _ (show(0:Int)<1000003 by lia),M_]
 rw[setO_s _ _ _ (by simp)]
 simp only[seqO_n,List.set_cons_succ,List.set_cons_zero,rd_1,rd_0,consO_s,bindO_s,bh Gw 30 (by lia) (by lia),shO_s,modI_s _ _ (show(0:Int)<4 by lia)]
 rw[setO_s _ _ _ (by simp)]
 simp only[seqO_n,List.set_cons_succ,List.set_cons_zero,rd_1,rd_0];rw[lstO_s _ (by simp),ixO_l,ek,partI_s,cutLO_s,mZ,setO_s _ _ _ (by simp)]
 simp only[seqO_n,List.set_cons_succ,List.set_cons_zero,rd_1,rd_0,consO_s,bindO_s,ew,shO_s];rw[setO_s _ _ _ (by simp)]
 simp only[seqO_n,List.set_cons_succ,List.set_cons_zero,rd_1,rd_0,lstL_s,bindO_s];rw[aQ (by simp;lia)]
 have Mv:∀(x y z u:Z_ (D×Bool)),ax false [false,false,false,false,true,false,false,false,false,false,false,false,false,false] [x,y,z,u,some (aN ws st sp,false),none,none,none,none,none,none,none,none,none]=[none,none,none,none,some (aN ws st sp,false),none,none,none,none,none,none,none,none,none]:=fun _ _ _ _=>by simp[ax]
 rw[Mv,eg,lstLim_s];simp only[consO_s,bindO_s,Ru,frO_s];rw[setO_s _ _ _ (by simp)]
 simp only[seqO_n,List.set_cons_succ,List.set_cons_zero,rd_1,rd_0];rw[eT _ (by lia),bindO_s,aQ (by rw[aM,lim_eq];lia)]
 have Ki:∀(x z u:Z_ (D×Bool)),ax false [false,true,false,false,true,true,false,false,false,false,false,false,false,false] [x,some (.int Gw,false),z,u,some (aN ws st sp,false),some (.lst (rs.map aD),false),none,none,none,none,none,none,none,none]=[none,some (.int Gw,false),none,none,some (aN ws st sp,false),some (.lst (rs.map aD),false),none,none,none,none,none,none,none,none]:=fun _ _ _=>by simp[ax]
 rw[Ki,Rz,lstLim_s,setF_s _ _ _ (by simp)]
 simp only[seqO_n,List.set_cons_succ,List.set_cons_zero,frzE_1,frzE_0,sF,rd_1,rd_0,consO_s,bindO_s,ea,frO_s];rw[setO_s _ _ _ (by simp)]
 simp only[seqO_n,List.set_cons_succ,List.set_cons_zero,rd_1,rd_0,listO_l,consO_s];rw[lstO_s _ (by simp),setO_s _ _ _ (by simp)]
 simp only[seqO_n,List.set_cons_succ,List.set_cons_zero,rd_1,rd_0,consO_s];rw[tupO_s _ (by simp),setO_s _ _ _ (by simp)]
 simp only[seqO_n,List.set_cons_succ,List.set_cons_zero,rd_1,rd_0,consO_s,bindO_s,ed,frO_s];rw[setO_s _ _ _ (by simp)]
 simp only[seqO_n,List.set_cons_succ,List.set_cons_zero,rd_1,rd_0,consO_s,bindO_s,ef,frO_s];rw[setF_s _ _ _ (by simp)]
 simp only[seqO_n,List.set_cons_succ,List.set_cons_zero,rd_1,rd_0,rd_0o,consO_s,bindO_s,eR,shO_s,tyB_s,notO_s,YU,orO_f];rw[lstO_s _ (by simp),lF NU]
 simp only[ifO_f,nextO_s,seqO_n];rw[fS (ds:=ds.map cD) _ rfl (by rw[ZJ,lim_eq];lia)]
 have l3:bU (some [.lst (rs.map aD),.lst (as.map D.str),.lst (ps.map aF)])=some (.lst [.lst (rs.map aD),.lst (as.map D.str),.lst (ps.map aF)]):=lstO_s _ (by simp)
 have l0:bU (some [])=some (.lst []):=lstO_s _ (by simp)
 have t0:gO (some [])=some (.tup []):=tupO_s _ (by simp)
 have t2:gO (some [.lst [],.lst []])=some (.tup [.lst [],.lst []]):=tupO_s _ (by simp)
 have l1:bU (some [.tup []])=some (.lst [.tup []]):=lstO_s _ (by simp)
 simp only[seqO_n,List.set_cons_succ,List.set_cons_zero,rd_1,rd_0,consO_s,bindO_s,ef,frO_s,l3,l0,t0,t2,l1,e0,kQ NU,kQ (Ai ds),kQ (show okD 16 (.lst [.tup []])=true from rfl),ofB_s]
 rfl
end K13
set_option maxRecDepth 100000 in
set_option maxHeartbeats 0 in
theorem PySem.Challenge.cw_mustrows_k13_answers_holds : PySem.Challenge.rw_mustrows_k13_answers.Holds := by
 letI:L2.Lams:=⟨[(40,"search_order.<locals>.<lambda>")]⟩
 refine PySem.W.holds_law K13.hl1 fun said=>?_
 refine PySem.W.holds_open (d:=PySem.DefRec.mk "law" (L2.defArgs K13.s_law) (L2.defBody K13.s_law) (L2.defScope K13.s_law) K13.s_law.pos) (kwd:=[]) (q:=PySem.W.view PySem.Challenge.pw_mustrows_k13_answers BJ) (loose:=[]) (Xt:=fun _=>true) (XP:=fun _ _=>True) (Yf:=L2.YfH K13.defsK K13.blK [("search_order",42)]) (Ya:=L2.YaH K13.defsK K13.blK [("search_order",42)]) (YP:=L2.YH K13.defsK K13.blK [("search_order",42)]) (N:=2000) ?hl L2.yh_of L2.yh_keeps (fun _ _=>trivial) (fun _ _ _ _ _=>trivial) (by kernel_rfl) (by kernel_rfl) (by kernel_rfl) (fun s _=>PySem.W.recFacts_of (by kernel_rfl)) (by kernel_rfl) said K13.hl7 ⟨rfl,rfl,rfl,rfl,rfl,by decide +kernel⟩ ?hw ?hc
 case hl=>exact K13.hl0
 case hw=>w_witness2
 case hc=>
  refine L2.walk_H (l:=PySem.Challenge.rw_mustrows_k13_answers) (n:=63) (k:=8) (x:="_law_script") (CX:=L2.CX0) (sp:=fun K=>L2.spM K K13.f_law) rfl (by decide) rfl ⟨rfl,by decide,by decide⟩ rfl (fun w mg fa h K S L X G hmg=>K13.all_mk S X G hmg (.head _) (L2.map_mem L.1 (.head _))) (fun K H a ns hl hO hS=>L2.spM_law hS (K13.pure ns hl)) (fun _ _ _ _ h=>h) (fun q hq r hr _=>by rw[List.mem_singleton.mp hq,List.mem_singleton.mp hr])
