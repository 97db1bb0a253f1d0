import PyProof.Rows.All
import PyProof.ZipIter
import Wide.All
import OpenK.AllK
import Wide.FinOn
import Lean
import PyProof.Rows.SortRuns
import PyProof.EqAt
import PyProof.EqKinds
import PyProof.TupleCall
import PyProof.DictRoadsH
import KE.KLam
import KE.KNestM
import PyProof.NeKinds
import KE.KSortTup
import KE.KSortKey
import PyProof.Conv_int_bool
import PyProof.EnumStmt
import PyProof.DictIter
import PyProof.DictWalks
import PyProof.ConsumeWalk
import PyProof.ListStr
import KE.KIntText
import KE.KDictOf
import KE.IntTextLaws
import PyProof.Rows.SortStr
import PyProof.StrLawsTight
import PyProof.StrLawsOcc
import PySem.Challenge.RW_mustrows_k14_whole_fits_moved
set_option Elab.async false
set_option linter.all false
set_option genSizeOf false
set_option maxRecDepth 100000
set_option maxHeartbeats 4000000
set_option tactic.hygienic false
local macro_rules | `(tactic| obtain $p:rcasesPatMed := $e:term) => do
  let n := (p.raw.reprint.getD "").foldl (λn c => if c == ',' then n + 1 else n) 0
  let q := Lean.mkIdent `hzz
  if n < 2 then `(tactic| rcases $e:term with $p:rcasesPatMed) else `(tactic| (refine Classical.byContradiction fun $q => ?_; rcases $e:term with $p:rcasesPatMed; refine $q ?_; clear $q))
local macro_rules| `(tactic|trivial)=> `(tactic|contradiction)
abbrev Z_:=@PySem.wpAny_bind
abbrev Z9:=@List
abbrev Z8:=@Option.some.inj
abbrev Z7:=@Option
abbrev Z6:=@PySem.wpAny_pure
abbrev Z5:=@PySem.W.Frag
abbrev Z4:=@PySem.Heap.get?_push_of_some
abbrev Z3:=@PySem.Value
abbrev Z2:=@List.map_cons
abbrev Z1:=@List.mem_cons_of_mem
abbrev Z0:=@List.mem_cons
abbrev ZZ:=@Bool.false_eq_true
abbrev ZY:=@List.length_map
abbrev ZX:=@List.mem_cons_self
abbrev ZW:=@List.all_eq_true
abbrev ZV:=@List.mem_map
abbrev ZU:=@Nat.le_refl
abbrev ZT:=@List.size_toArray
abbrev ZR:=@PySem.Shared
abbrev ZQ:=@PySem.Heap.lt_size
abbrev ZP:=@List.getElem?_eq_some_iff
abbrev ZO:=@if_pos
abbrev ZN:=@PySem.Heap.get?_push_size
abbrev ZM:=@PySem.Addr
abbrev ZL:=@List.getElem?_set_ne
abbrev ZK:=@Bool.and_eq_true
abbrev ZJ:=@if_neg
abbrev ZI:=@List.mem_append_right
abbrev ZH:=@PyProof.Rows.wpS_bind
abbrev ZG:=@List.getElem?_set_self
abbrev ZF:=@Option.some.injEq
abbrev ZE:=@decide_eq_false
abbrev ZD:=@Nat.lt_of_lt_of_le
abbrev ZC:=@List.mem_singleton
abbrev ZA:=@Ne.symm
abbrev Zz:=@PyProof.Rows.wpS_pure
abbrev Zy:=@List.length_append
abbrev Zx:=@beq_iff_eq
abbrev Zw:=@decide_eq_true
abbrev Zv:=@Nat.ne_of_lt
abbrev Zu:=@Nat.zero_le
abbrev Zt:=@List.mem_append
abbrev Zs:=@List.drop_eq_getElem_cons
abbrev Zr:=@List.not_mem_nil
abbrev Zo:=@PySem.Heap.get?_update_other
abbrev Zn:=@Nat.le_trans
abbrev Zm:=@if_false
abbrev Zl:=@Array.toList_append
abbrev Zk:=@PySem.Heap.get?_update_self
abbrev Zj:=@of_decide_eq_true
abbrev Zi:=@List.length_set
abbrev Zh:=@Bool.false_ne_true
abbrev Zg:=@List.mem_of_getElem?
abbrev Zf:=@decide_eq_true_eq
abbrev Ze:=@PySem.Heap.SameBut.update
abbrev Zd:=@Nat.lt_irrefl
abbrev Zc:=@List.append_assoc
abbrev Zb:=@Array.getElem?_eq_getElem
abbrev Za:=@PySem.Around
abbrev Y_:=@if_true
abbrev Y9:=@PySem.Around.under_plainId
abbrev Y8:=@decide_eq_true_iff
abbrev Y7:=@List.map_congr_left
abbrev Y6:=@PySem.wpAny_holding
abbrev Y5:=@PySem.Obj.data_mapFields
abbrev Y4:=@List.mem_range
abbrev Y3:=@PySem.wpAny_newObj_type
abbrev Y2:=@List.getElem?_append_left
abbrev Y1:=@List.mem_filter
abbrev Y0:=@List.append_nil
abbrev YZ:=@List.mem_iff_getElem
abbrev YY:=@List.getElem?_map
abbrev YX:=@PySem.Program
abbrev YW:=@PySem.wpAny_call_entry
abbrev YV:=@List.getElem?_eq_getElem
abbrev YU:=@List.map_append
abbrev YT:=@List.length_eq_zero_iff
abbrev YS:=@Array.getElem?_eq_some_iff
abbrev YR:=@Bool.not_true
abbrev YQ:=@PySem.codeAny_builtin
abbrev YO:=@List.map_nil
abbrev YN:=@List.map_map
abbrev YM:=@List.nodup_cons
abbrev YL:=@PySem.wpAny_mono
abbrev YK:=@PySem.World
abbrev YJ:=@PySem.mem_of_lookup
abbrev YI:=@List.getElem?_eq_none
abbrev YG:=@List.idxOf_lt_length_of_mem
abbrev YF:=@PySem.Heap.size_push
abbrev YE:=@Array.toList_push
abbrev YD:=@PySem.wpAny_rule
abbrev YC:=@PySem.wpAny_setState_of
abbrev YB:=@or_false
abbrev YA:=@List.mem_append_left
abbrev Yz:=@List.getD_eq_getElem?_getD
abbrev Yy:=@List.Perm.refl
abbrev Yx:=@Bool.eq_iff_iff
abbrev Yw:=@PySem.wpAny_callSpecial?_slot
abbrev Yv:=@List.take_of_length_le
abbrev Yu:=@PySem.wpAny_seqItems
abbrev Yt:=@PyProof.Rows.wpS_forRange
abbrev Ys:=@Bool.not_eq_true'
abbrev Yr:=@List.nodup_nil
abbrev Yp:=@PySem.plainId_quiet
abbrev Yo:=@beq_self_eq_true
abbrev Yn:=@PyProof.Rows.callWith_type1
abbrev Ym:=@List.perm_ext_iff_of_nodup
abbrev Yl:=@List.getElem?_append_right
abbrev Yk:=@PySem.Paired.length
abbrev Yj:=@Nat.lt_succ_self
abbrev Yi:=@PySem.sizeLine_eq
abbrev Yh:=@List.pairwise_append
abbrev Yg:=@List.cons.injEq
abbrev Ye:=@PySem.wpAny_setField
abbrev Yd:=@Nat.zero_add
abbrev Yc:=@Bool.true_and
abbrev Yb:=@Bool.and_true
abbrev X_:=@PySem.wpAny_updateSeq
abbrev X9:=@PySem.wpAny_specialOf
abbrev X8:=@decide_eq_decide
abbrev X7:=@List.length_take
abbrev X6:=@of_decide_eq_false
abbrev X5:=@Bool.not_false
abbrev X4:=@List.take_append_drop
abbrev X3:=@PySem.wpAny_isInstance
abbrev X2:=@PySem.wpAny_forIn_list
abbrev X1:=@PySem.wpAny_setField_rec
abbrev X0:=@PySem.MeetsSeq.plain_remove_loop
abbrev XZ:=@List.nodup_append
abbrev XY:=@List.getElem?_of_mem
abbrev XX:=@Array.toList_reverse
abbrev XW:=@PySem.Obj.isFreed_of_fields
abbrev XU:=@List.reverse_append
abbrev XT:=@List.mem_map_of_mem
abbrev XS:=@List.mem_reverse
abbrev XR:=@List.any_eq_true
abbrev XQ:=@PyProof.Rows.wpS_modify
abbrev XO:=@PySem.wpAny_attempt
abbrev XN:=@List.pairwise_cons
abbrev XM:=@List.mem_filterMap
abbrev XJ:=@Array.getElem?_eq_none
abbrev XI:=@PySem.F.plain_extend_loop
abbrev XH:=@PyProof.Rows.wpS_mono
abbrev XG:=@PySem.wpAny_field
abbrev XF:=@List.pairwise_map
abbrev XE:=@PySem.wpAny_Call_Name_kw
abbrev XD:=@PySem.wpAny_passesOwn
abbrev XC:=@Bool.and_false
abbrev XB:=@Array.toList_extract
abbrev XA:=@PySem.builtinLookup_eq_fast
abbrev Xz:=@List.getElem_mem
abbrev Xy:=@PySem.wpAny_truthy_bool
abbrev Xx:=@List.pairwise_iff_getElem
abbrev Xw:=@Nat.not_lt_zero
abbrev Xv:=@PySem.wpAny_typeOf
abbrev Xu:=@PySem.wpAny_askSetting
abbrev Xs:=@List.find?_eq_none
abbrev Xr:=@PySem.Heap.size_update
abbrev Xq:=@PySem.F.called_set
abbrev Xp:=@Array.forIn_toList
abbrev Xo:=@decide_eq_false_iff_not
abbrev Xn:=@PySem.F.plainAttrs_list
abbrev Xm:=@PySem.wpAny_setEntries_of
abbrev Xl:=@not_or
abbrev Xk:=@Option.map_eq_some_iff
abbrev Xj:=@List.length_range
abbrev Xi:=@List.eraseIdx_eq_take_drop_succ
abbrev Xh:=@PySem.wpAny_pyIter_list
abbrev Xg:=@PySem.Obj.cls_mapFields
abbrev Xf:=@List.reverse_reverse
abbrev Xe:=@PySem.F.slot_tuple_hash
abbrev Xd:=@PyProof.Rows.listUpdate_at
abbrev Xc:=@Array.getElem?_setIfInBounds
abbrev Xb:=@Nat.succ_pos
abbrev Xa:=@PySem.wpAny_typeNameOfWhole_keyiter
abbrev W_:=@PySem.Obj.data_mapDictKeys
abbrev W9:=@Array.toList_setIfInBounds
abbrev W8:=@PySem.typeLookup_type
abbrev W7:=@PySem.size_of_entries
abbrev W6:=@List.mem_of_find?_eq_some
abbrev W5:=@PySem.F.slot_dict_keyiterator_next
abbrev W4:=@not_false_eq_true
abbrev W3:=@decide_true
abbrev W2:=@Nat.lt_trichotomy
abbrev W0:=@Nat.le_succ
abbrev WZ:=@List.map_inj_left
abbrev WY:=@List.ext_getElem?
abbrev WX:=@List.Pairwise.map
abbrev WW:=@PySem.codeAny_mono
abbrev WV:=@PySem.F.args_tuple_add_2
abbrev WU:=@Prod.mk.injEq
abbrev WT:=@PySem.wpAny_fieldsOf
abbrev WR:=@PySem.isSubtype_stop
abbrev WQ:=@exists_eq_or_imp
abbrev WO:=@PySem.F.entry_tuple_add
abbrev WN:=@List.drop_length
abbrev WM:=@PySem.W.cellsFrom_some
abbrev WL:=@PySem.F.slot_tuple_add
abbrev WK:=@Nat.mod_lt
abbrev WJ:=@Nat.le_of_lt
abbrev WI:=@List.set_set
abbrev WH:=@List.drop_eq_nil_of_le
abbrev WG:=@List.all_map
abbrev WE:=@PySem.wpAny_storeSet_of
abbrev WD:=@PySem.wpAny_dictEntries
abbrev WB:=@PyProof.Rows.get?_update_seq
abbrev WA:=@Nat.min_eq_left
abbrev Wz:=@List.of_mem_zip
abbrev Wy:=@List.forIn_cons
abbrev Wx:=@PySem.wpAny_typeNameOf_keyiter
abbrev Ww:=@PySem.SetTable.toList_insertAt
abbrev Wv:=@PySem.F.slot_dict_get
abbrev Wu:=@List.length_filter_le
abbrev Wt:=@List.getElem?_zipWith
abbrev Ws:=@PySem.F.slot_list_getattribute
abbrev Wr:=@PySem.AutoSeq1.sub_tuple_tuple
abbrev Wq:=@Array.getElem?_toList
abbrev Wp:=@PySem.F.slot_list_lt
abbrev Wo:=@PySem.richCompare_meets_room
abbrev Wn:=@PySem.call_meets
abbrev Wm:=@beq_eq_false_iff_ne
abbrev Wl:=@PySem.SetTable.insertAt_perm
abbrev Wk:=@PySem.wpAny_execs_nil
abbrev Wj:=@PySem.F.slot_zip_next
abbrev Wi:=@PyProof.Rows.wpS_get
abbrev Wh:=@PySem.wpAny_notOrdered_dict
abbrev Wg:=@PySem.wpAny_of_eq
abbrev Wf:=@PySem.wpAny_newTuple
abbrev We:=@PySem.wpAny_letGo
abbrev Wd:=@PySem.isSubtype_type
abbrev Wc:=@PyProof.Rows.F.plain_set_update_loop
abbrev Wb:=@PyProof.Rows.listItems_at
abbrev U:=@some
abbrev M:=@none
abbrev Y:=false
abbrev L:=true
abbrev PySem.Shared.z(s:PySem.Shared):Nat:=s.heap.objs.size
open PySem PyProof.Rows in
def eL{P:YX}{w:YK}{A:Za}{α:Type}{c:Prop}[Decidable c]{t e:Sem α}{Q:α->ZR->Prop}{E:Z3->ZR->Prop}{s:ZR}(h:c)(k:wpAny (model P w) A t Q E s):wpAny (model P w) A (if c then t else e) Q E s:=by rw[ZO h];exact k
open PySem PyProof.Rows in
def dy{P:YX}{w:YK}{A:Za}{α:Type}{c:Prop}[Decidable c]{t e:Sem α}{Q:α->ZR->Prop}{E:Z3->ZR->Prop}{s:ZR}(h:¬c)(k:wpAny (model P w) A e Q E s):wpAny (model P w) A (if c then t else e) Q E s:=by rw[ZJ h];exact k
open PySem PyProof.Rows in
def aP{P:YX}{w:YK}{A:Za}{α σ:Type}{c:Prop}[Decidable c]{t e:StateT σ Sem α}{Q:α->σ->Prop}{E:Z3->ZR->Prop}{s:ZR}{st:σ}(h:c)(k:wpS (model P w) A E s t Q st):wpS (model P w) A E s (if c then t else e) Q st:=by rw[ZO h];exact k
open PySem PyProof.Rows in
def aM{P:YX}{w:YK}{A:Za}{α σ:Type}{c:Prop}[Decidable c]{t e:StateT σ Sem α}{Q:α->σ->Prop}{E:Z3->ZR->Prop}{s:ZR}{st:σ}(h:¬c)(k:wpS (model P w) A E s e Q st):wpS (model P w) A E s (if c then t else e) Q st:=by rw[ZJ h];exact k
noncomputable section
namespace L2
open PySem PySem.Spec PyProof.Rows PySem.W
class Lams where
 tb:Z9 (ZM×Str)
variable[Lams]
noncomputable def defArgs(s:Stmt):Arguments:=match s with
 |.FunctionDef _ a _ _ _ _ _ _ _ _=>a
 |_=>{posonlyargs:=[],args:=[],vararg:=M,kwonlyargs:=[],kw_defaults:=[],kwarg:=M,defaults:=[]}
def defBody(s:Stmt):Z9 Stmt:=match s with
 |.FunctionDef _ _ b _ _ _ _ _ _ _=>b
 |_=>[]
def defScope(s:Stmt):Scope:=match s with
 |.FunctionDef _ _ _ _ _ _ sc _ _ _=>sc
 |_=>{kind:=.function,names:=[],isGenerator:=Y,isCoroutine:=Y}
def Ae(h:Heap):Frag:=(List.range h.objs.size).filterMap λa=>(h.get? a).bind λo=>if o.cls != .none||a==mainGlobals then U (a,o) else M
abbrev acw:=Str×Str×Arguments×FuncBody×Scope×ZM×Z9 (Str×ZM)×Z3×ZM
def BN(fd:FuncData):acw:=(fd.name,fd.qualname,fd.params,fd.body,fd.scope,fd.globals,fd.closure,fd.defaults,fd.builtins)
noncomputable def Dq(K:Frag)(x:Str):Z7 acw:=match nsIn K mainGlobals x with
 |some (some (.ref f))=>(match K.lookup f with
  |some ⟨_,_,.func fd,_⟩=>if codeIn K fd.code x then U (BN fd) else M
  |_=>M)
 |_=>M
def wC(x:Str)(st:Stmt):acw:=(x,x,defArgs st,.stmts (defBody st),defScope st,mainGlobals,[],.none,builtinsNs)
noncomputable def n8(K:Frag)(x:Str):Z7 Z3:=match nsIn K mainGlobals x with
 |some (some (.ref f))=>(match K.lookup f with
  |some ⟨_,_,.func fd,_⟩=>U fd.code
  |_=>M)
 |_=>M
def Fu:Obj:={cls:=.none,data:=.fields #[]}
noncomputable def YfH(defs:Z9 (Str×Stmt))(bl:Z9 Str)(cs:Z9 (Str×ZM))(s:ZR):=
 (λ(h:Heap) (K:Frag)=>(defs.map (λp=>Dq K p.1),bl.map (nsIn K mainGlobals),cs.map (λp=>n8 K p.1),Lams.tb.map (λq=>h.get? q.1),(Lams.tb.zip cs).map (λq=>codeHdIn K q.2.2 q.1.1),Lams.tb.map (λq=>K.lookup q.1))) s.heap (Ae s.heap)
noncomputable def YaH(defs:Z9 (Str×Stmt))(bl:Z9 Str)(cs:Z9 (Str×ZM))(_:YK):=
 (defs.map (λp=>U (wC p.1 p.2)),bl.map (λ_=>U (M:Z7 Z3)),cs.map (λp=>U (Value.ref p.2)),Lams.tb.map (λ_=>U Fu),(Lams.tb.zip cs).map (λ_=>L),Lams.tb.map (λ_=>(M:Z7 Obj)))
end L2
namespace K14
open PySem L2
def top(i:Nat):Stmt:=PySem.Challenge.pw_mustrows_k14_whole_fits_moved.main.body.getD i (.Pass ⟨0,0,0,0⟩)
abbrev Fj:Stmt:=top 1
abbrev FE:Stmt:=top 3
abbrev FJ:Stmt:=top 2
abbrev Fr:Stmt:=top 8
abbrev Fx:Stmt:=top 15
abbrev FA:Stmt:=top 14
abbrev FC:Stmt:=top 13
abbrev A6:Stmt:=top 12
abbrev Fv:Stmt:=top 18
abbrev Fa:Stmt:=top 16
abbrev Fl:Stmt:=top 19
abbrev FG:Stmt:=top 17
abbrev FB:Stmt:=top 11
abbrev FR:Stmt:=top 10
abbrev FD:Stmt:=top 5
abbrev Ff:Stmt:=top 6
abbrev E7:Stmt:=top 9
abbrev EZ:Stmt:=top 7
abbrev Ft:Stmt:=top 21
abbrev Fm:Stmt:=top 22
abbrev E4:Stmt:=top 23
abbrev FU:Stmt:=top 24
abbrev E2:Stmt:=top 25
abbrev E8:Stmt:=top 26
abbrev FP:Stmt:=top 27
abbrev Fn:Stmt:=top 28
abbrev Fd:Stmt:=top 29
abbrev Fw:Stmt:=top 30
abbrev E1:Stmt:=top 31
abbrev Fk:Stmt:=top 32
abbrev s_law:Stmt:=top 33
abbrev blK:Z9 Str:=["any","dict","enumerate","len","list","range","set","sorted","sum","tuple","zip"]
noncomputable def defsK:Z9 (Str×Stmt):=[("stand_of",Fj),("exchanged",FE),("moved",FJ),("letters_of",Fr),("binding_of",Fx),("bindings",FA),("is_linked",FC),("search_order",A6),("places_of",Fv),("grouped",Fa),("picked",Fl),("extended",FG),("joined_from",FB),("fits_from",FR),("fits",FD),("filled",Ff),("joined",E7),("answers",EZ),("_law_mix",Ft),("_law_words",Fm),("_law_world",E4),("_law_letters",FU),("_law_cell_by",E2),("_law_row",E8),("_law_stand",FP),("_law_pattern",Fn),("_law_moves",Fd),("_law_led",Fw),("_law_unknowns",E1),("_law_each",Fk),("law",s_law)]
end K14
noncomputable def EC:Z9 Nat:=((PySem.Challenge.pw_mustrows_k14_whole_fits_moved.main.body.zipIdx.filter λp=>match p.1 with|.FunctionDef .. =>true|_=>false).map (·.2))
set_option maxHeartbeats 0 in
theorem K14.hl0:PySem.W.LeftO PySem.Challenge.rw_mustrows_k14_whole_fits_moved.row.prog (PySem.W.view PySem.Challenge.pw_mustrows_k14_whole_fits_moved EC) [] (fun _=>true) (@L2.YfH ⟨[(74,"search_order.<locals>.<lambda>")]⟩ K14.defsK K14.blK [("search_order",76)]) (@L2.YaH ⟨[(74,"search_order.<locals>.<lambda>")]⟩ K14.defsK K14.blK [("search_order",76)]) 2000:=fun w=>by kernel_rfl
set_option maxHeartbeats 0 in
theorem K14.hl1:PySem.Challenge.rw_mustrows_k14_whole_fits_moved.wellSaid=true:=by kernel_rfl
set_option maxHeartbeats 0 in
theorem K14.hl7:(PySem.W.chainsOk (PySem.W.view PySem.Challenge.pw_mustrows_k14_whole_fits_moved EC)&&PySem.W.opensWell PySem.Challenge.rw_mustrows_k14_whole_fits_moved.row.prog&&(PySem.W.frees PySem.Challenge.rw_mustrows_k14_whole_fits_moved.row.toRowW&&PySem.Challenge.rw_mustrows_k14_whole_fits_moved.row.within.isEmpty))=true:=by kernel_rfl
namespace L2
theorem aT{α:Type u}{x a:α}{xs:Z9 α}:(x::xs).set 0 a=a::xs:=rfl
theorem aS{α:Type u}{x a:α}{xs:Z9 α}{i:Nat}:(x::xs).set (i+1) a=x::xs.set i a:=rfl
theorem bO{α:Type u}{a:α}{as:Z9 α}:(a::as).length=as.length+1:=rfl
theorem gC{α:Type u}:([]:Z9 α).length=0:=rfl
def mq{α:Type u}{a:α}{l:Z9 α}{f:α->Bool}:(a::l).all f=(f a&&l.all f):=rfl
end L2
namespace L2
open PySem PySem.Spec PyProof.Rows
abbrev Key:=Sum Int Str
inductive D where
 |non|bl (b:Bool)|int (i:Int)|str (x:Str)|tup (ds:List D)|lst (ds:List D)|dK (ks:List Key) (vs:List D)
 |dD (ks vs:List D)
noncomputable instance:DecidableEq D:=λ_ _=>Classical.propDecidable _
def aR:Nat->D->Bool
 |_,.int _=>L
 |_,.str _=>L
 |n+1,.tup ds=>ds.all (aR n)
 |_,_=>Y
mutual
def cr(w:YK):D->Int
 |.int i=>hashInt i
 |.str x=>hashStr w x
 |.tup ds=>reduceHash (Builtin.Tuple.tupleHashOf (kX w ds))
 |_=>0
def kX(w:YK):Z9 D->Z9 Int
 |[]=>[]
 |d::ds=>cr w d::kX w ds
end
theorem hU(w:YK):∀ds:Z9 D,kX w ds=ds.map (cr w)
 |[]=>by simp[kX]
 |d::ds=>by simp[kX,hU w ds]
def cC(h:aR n (.tup ds)=L):∃k,n=k+1/\ds.all (aR k)=L:=by
 cases n with
 |zero=>simp[aR]at h
 |succ n=>exact⟨n,rfl,by simpa[aR]using h⟩
mutual
def dk:D->Nat
 |.int _=>1
 |.str _=>1
 |.tup ds=>cE ds+1
 |_=>0
def cE:Z9 D->Nat
 |[]=>0
 |d::ds=>dk d+cE ds
end
theorem fJ(d:D):∀ds:Z9 D,cE (ds++[d])=cE ds+dk d
 |[]=>by simp[cE]
 |x::ds=>by rw[List.cons_append];simp only[cE];rw[fJ d ds];lia
mutual
def RH(h:Heap):D->Z3->Prop
 |.int i,v=>∃t,v=.int i t
 |.str x,v=>∃t,v=.str x t
 |.tup ds,v=>∃a its,v=.ref a/\IsTup h a its.toArray/\RHs h ds its
 |_,_=>False
def RHs(h:Heap):Z9 D->Z9 Z3->Prop
 |[],vs=>vs=[]
 |d::ds,vs=>∃v r,vs=v::r/\RH h d v/\RHs h ds r
end
theorem RHs.length:∀{ds:Z9 D}{vs:Z9 Z3},RHs h ds vs->ds.length=vs.length
 |[],vs,r=>by simp only[RHs]at r;subst r;rfl
 |d::ds,vs,r=>by
  simp only[RHs]at r;obtain⟨v,q,rfl,_,r2⟩:=r;simp[RHs.length r2]
theorem RHs.get:∀{ds:Z9 D}{vs:Z9 Z3}{i:Nat}{d:D},RHs h ds vs->ds[i]?=U d->∃v,vs[i]?=U v/\RH h d v
 |[],vs,i,d,_,e=>by simp at e
 |x::ds,vs,0,d,r,e=>by
  simp only[RHs]at r;obtain⟨v,q,rfl,r1,_⟩:=r;simp at e;subst e;exact⟨v,rfl,r1⟩
 |x::ds,vs,i+1,d,r,e=>by
  simp only[RHs]at r;obtain⟨v,q,rfl,_,r2⟩:=r;obtain⟨u,h1,h2⟩:=RHs.get (i:=i) (d:=d) r2 (by simpa using e);exact⟨u,by simpa using h1,h2⟩
mutual
theorem RH.inj:∀{d e:D}{v:Z3},RH h d v->RH h e v->d=e
 |.int i,e,v,r,q=>by
  simp only[RH]at r;obtain⟨t,rfl⟩:=r;cases e<;>simp only[RH]at q<;>first
   |(obtain⟨t',z⟩:=q;cases z;rfl)
   |(obtain⟨t',z⟩:=q;cases z;done)
   |(obtain⟨a,its,z,_⟩:=q;cases z)
   |cases q
 |.str i,e,v,r,q=>by
  simp only[RH]at r;obtain⟨t,rfl⟩:=r;cases e<;>simp only[RH]at q<;>first
   |(obtain⟨t',z⟩:=q;cases z;rfl)
   |(obtain⟨t',z⟩:=q;cases z;done)
   |(obtain⟨a,its,z,_⟩:=q;cases z)
   |cases q
 |.tup ds,e,v,r,q=>by
  simp only[RH]at r;obtain⟨a,its,rfl,⟨o,g,_,n,hd⟩,rs⟩:=r;cases e with
  |tup es=>
   simp only[RH]at q;obtain⟨b,Ru,z,⟨o',g',_,n',x_⟩,qs⟩:=q;cases z;rw[g]at g';obtain rfl:=Z8 g';rw[hd]at x_;have:its.toArray=Ru.toArray:=by injection x_
   have e2:its=Ru:=by simpa using this
   subst e2;rw[RHs.inj rs qs]
  |int _=>simp only[RH]at q;obtain⟨t',z⟩:=q;trivial
  |str _=>simp only[RH]at q;obtain⟨t',z⟩:=q;trivial
  |_=>simp only[RH]at q
 |.non,e,v,r,q=>by simp only[RH]at r
 |.bl _,e,v,r,q=>by simp only[RH]at r
 |.lst _,e,v,r,q=>by simp only[RH]at r
 |.dK _ _,e,v,r,q=>by simp only[RH]at r
 |.dD _ _,e,v,r,q=>by simp only[RH]at r
theorem RHs.inj:∀{ds es:Z9 D}{vs:Z9 Z3},RHs h ds vs->RHs h es vs->ds=es
 |[],es,vs,r,q=>by
  simp only[RHs]at r;subst r;cases es with
  |nil=>rfl
  |cons e es=>simp only[RHs]at q;obtain⟨v,z,e,_⟩:=q;trivial
 |d::ds,es,vs,r,q=>by
  simp only[RHs]at r;obtain⟨v,z,rfl,r1,r2⟩:=r;cases es with
  |nil=>simp only[RHs]at q;trivial
  |cons e es=>
   simp only[RHs]at q;obtain⟨v',z',e',q1,q2⟩:=q;cases e';rw[RH.inj r1 q1,RHs.inj r2 q2]
end
mutual
theorem RH.to(k:∀a o,h.get? a=U o->o.cls=.type "tuple"->(∃its n,o.data=.seq its n)->h'.get? a=U o):∀{d:D}{v:Z3},RH h d v->RH h' d v
 |.int i,v,r=>by simp only[RH]at r⊢;exact r
 |.str i,v,r=>by simp only[RH]at r⊢;exact r
 |.tup ds,v,r=>by
  simp only[RH]at r⊢;obtain⟨a,its,e,⟨o,g,hc,n,hd⟩,rs⟩:=r;exact⟨a,its,e,⟨o,k a o g hc ⟨_,_,hd⟩,hc,n,hd⟩,RHs.to k rs⟩
 |.non,v,r=>by simp only[RH]at r
 |.bl _,v,r=>by simp only[RH]at r
 |.lst _,v,r=>by simp only[RH]at r
 |.dK _ _,v,r=>by simp only[RH]at r
 |.dD _ _,v,r=>by simp only[RH]at r
theorem RHs.to(k:∀a o,h.get? a=U o->o.cls=.type "tuple"->(∃its n,o.data=.seq its n)->h'.get? a=U o):∀{ds:Z9 D}{vs:Z9 Z3},RHs h ds vs->RHs h' ds vs
 |[],vs,r=>by simp only[RHs]at r⊢;exact r
 |d::ds,vs,r=>by
  simp only[RHs]at r⊢;obtain⟨v,z,e,r1,r2⟩:=r;exact⟨v,z,e,RH.to k r1,RHs.to k r2⟩
end
def xP:∀(n:Nat)(d:D)(u:Z3)(A:Za)(s:ZR)(Q:Int->ZR->Prop)(E:Z3->ZR->Prop),aR n d=L->A.units+2*n+2<cLine->RH s.heap d u->
  Q (cr w d) {s with toks:=s.toks+dk d}->wpAny (model P w) A (pyHash u) Q E s:=by
 intro n
 induction n using Nat.strongRecOn with
 |ind n ih=>
 intro d u A s Q E hd hA rd hQ;cases d with
 |int i=>
  simp only[RH]at rd;obtain⟨t,rfl⟩:=rd;simp only[cr,dk]at hQ;exact wpAny_pyHash_int hQ
 |str i=>
  simp only[RH]at rd;obtain⟨t,rfl⟩:=rd;simp only[cr,dk]at hQ;exact wpAny_pyHash_str hQ
 |tup ds=>
  simp only[RH]at rd;obtain⟨a,its,rfl,⟨o,ho,hc,m,o_⟩,hr⟩:=rd;obtain⟨k,rfl,x_⟩:=cC hd;have hT:s.TypeIs (.ref a) "tuple":=⟨o,ho,hc⟩;unfold pyHash;unfold pyHashByItsType;refine Z_ (wpAny_cRoomFor_or (.inr (by lia)) (Z_ (X9 hT Xe.lookup ?_)));show wpAny _ _ (if(U (Value.builtin "tuple.__hash__")==U Value.none)=L then _ else _) Q E _;refine dy (by rw[beq_builtin_none];exact Zh) ?_;refine Z_ (X9 hT Xe.lookup ?_);show wpAny _ _ (callSpecialIfBoundUnlessNone? (.ref a) "__hash__" _ >>= _) Q E _;refine Z_ (wpAny_callSpecialIfBoundUnlessNone?_slot hT Xe (YW Xe hT F.entry_tuple_hash ?_ (F.args_tuple_hash_1 _)));show wpAny _ _ (Builtin.Tuple.tupleItemsOf (.ref a) >>= _) _ _ _;refine Z_ (wpAny_tupleItemsOf ho o_ (Z_ ?_));rw[<-Xp];refine X2 _
   (λar (b:Array Int) s'=>∃done left,ds=done++left/\RHs s.heap left ar/\b.toList=done.map (cr w)/\s'={s with toks:=s.toks+cE done})
   _ ?_ ?_ _ _ ⟨[],ds,rfl,by simpa using hr,rfl,rfl⟩
  .intro v ar b s' hz;obtain⟨done,left,rfl,hl,hb,rfl⟩:=hz
   cases left with
   |nil=>simp only[RHs]at hl;trivial
   |cons d' HF=>
    simp only[RHs]at hl;obtain⟨v',r',e',r1,r2⟩:=hl;cases e';have Jf:aR k d'=L:=by
     rw[List.all_append,ZK,mq,ZK]at x_;exact x_.2.1
    refine Z_ (ih k (by lia) d' v _ _ _ _ Jf ?_ r1 ?_);show A.units+1+2*k+2<cLine;lia
    .have et:({s with toks:=s.toks+cE done+dk d'}:ZR)={s with toks:=s.toks+cE (done++[d'])}:=by rw[fJ,Nat.add_assoc]
     first
      |exact Z6 ⟨done++[d'],HF,by simp,r2,by simp[hb],et⟩
      |exact Z_ (Z6 (Z6 ⟨done++[d'],HF,by simp,r2,by simp[hb],et⟩))
  .intro b s' hz;obtain⟨done,left,rfl,hl,hb,rfl⟩:=hz
   have NU:left=[]:=by
    have:=hl.length;cases left with
    |nil=>rfl
    |cons _ _=>simp at this
   subst NU;rw[Y0]at hQ;simp only[cr,hU,dk]at hQ;show wpAny _ _ (retInt (Builtin.Tuple.tupleHashOf b.toList)) _ _ _;rw[hb];refine wpAny_ret_mkInt ?_;show wpAny _ _ (if(decide (-(2:Int) ^ 63<=Builtin.Tuple.tupleHashOf (done.map (cr w)))&&decide (Builtin.Tuple.tupleHashOf (done.map (cr w))<2 ^ 63))=L then _ else _) Q E _;unfold reduceHash at hQ;by_cases hr:(decide (-(2:Int) ^ 63<=Builtin.Tuple.tupleHashOf (done.map (cr w)))&&decide (Builtin.Tuple.tupleHashOf (done.map (cr w))<2 ^ 63))=L;refine eL hr ?_;rw[ZO hr]at hQ;exact Z6 hQ;refine dy hr ?_;rw[ZJ hr]at hQ;exact Z_ (YD (Z6 hQ))
 |_=>simp[aR]at hd
def lT:∀(n:Nat)(d:D)(u:Z3)(A:Za)(s:ZR)(Q:Bool->ZR->Prop)(E:Z3->ZR->Prop),aR n d=L->RH s.heap d u->Q L s->wpAny (model P w) A (eqIsQuiet n u) Q E s:=by
 intro n
 induction n using Nat.strongRecOn with
 |ind n ih=>
 intro d u A s Q E hd rd hQ;cases d with
 |int i=>simp only[RH]at rd;obtain⟨t,rfl⟩:=rd;unfold eqIsQuiet;exact Z6 hQ
 |str i=>simp only[RH]at rd;obtain⟨t,rfl⟩:=rd;unfold eqIsQuiet;exact Z6 hQ
 |tup ds=>
  simp only[RH]at rd;obtain⟨a,its,rfl,⟨o,ho,hc,m,o_⟩,hr⟩:=rd;obtain⟨k,rfl,x_⟩:=cC hd;have hT:s.TypeIs (.ref a) "tuple":=⟨o,ho,hc⟩;unfold eqIsQuiet;refine Z_ (X9 hT F.slot_tuple_eq.lookup ?_);dsimp only;refine Z_ (X3 hT isSubtype_tuple_tuple ?_);simp only[YR,ZZ,Zm];refine Z_ (Yu ho o_ (Z_ ?_));simp only[Option.getD_some];rw[<-Xp];refine X2 _ (λar b s'=>b.1=M/\s'=s/\∃left,left.all (aR k)=L/\RHs s.heap left ar) _ ?_ ?_ _ _ ⟨rfl,rfl,ds,x_,by simpa using hr⟩;intro v ar b s' hz;obtain⟨hb,rfl,left,w_,hl⟩:=hz;cases left with
  |nil=>simp only[RHs]at hl;trivial
  |cons d' HF=>
   simp only[RHs]at hl;obtain⟨v',r',e',r1,r2⟩:=hl;cases e';rw[mq,ZK]at w_;refine Z_ (ih k (by lia) d' v _ _ _ _ w_.1 r1 ?_);simp only[YR,ZZ,Zm];exact Z6 ⟨rfl,rfl,HF,w_.2,r2⟩
  rintro⟨b1,b2⟩ s' ⟨hb,rfl,_⟩
  simp only at hb;subst hb;exact Z6 hQ
 |_=>simp[aR]at hd
def Ci:∀(ds es:Z9 D),ds.length=es.length->((List.range ds.length).all λj=>decide (ds[j]?=es[j]?))=decide (ds=es):=by
 intro ds es hl;rw[Yx,ZW,Y8];constructor;intro h;refine WY λj=>?_;by_cases hj:j<ds.length;exact Zj (h j (Y4.mpr hj));rw[YI (by lia),YI (by lia)]
 rintro rfl j _
 exact Zw rfl
def AT(ds es:Z9 D):(((List.range (min ds.length es.length)).all λj=>decide (ds[j]?=es[j]?))&&ds.length==es.length)=decide (ds=es):=by
 by_cases hl:ds.length=es.length;rw[hl,Nat.min_self,Yo,Yb,<-hl,Ci ds es hl];rw[show(ds.length==es.length)=Y by simpa using hl,XC,ZE λz=>hl (by rw[z])]
open SeqAt in
def FH:∀(n:Nat)(d e:D)(u w:Z3)(A:Za),aR n d=L->aR n e=L->A.units+n+1<cLine->RH s.heap d u->RH s.heap e w->EqAt A s u w (decide (d=e)):=by
 intro n
 induction n using Nat.strongRecOn with
 |ind n ih=>
 intro d e u w A hd he hA rd re;have hu:A.units<cLine:=by lia
 cases d with
 |int i=>
  simp only[RH]at rd;obtain⟨t',rfl⟩:=rd;cases e with
  |int j=>
   simp only[RH]at re;obtain⟨t,rfl⟩:=re;rw[show decide (D.int i=D.int j)=(i==j) by rw[Yx,Y8,Zx,D.int.injEq]];exact EqAt.int_int i t' j t
  |str j=>simp only[RH]at re;obtain⟨t,rfl⟩:=re;rw[ZE nofun];exact EqAt.int_str i t' j t
  |tup es=>simp only[RH]at re;obtain⟨b,its,rfl,ht,_⟩:=re;rw[ZE nofun];exact EqAt.int_tuple i t' ht hu
  |_=>simp[aR]at he
 |str i=>
  simp only[RH]at rd;obtain⟨t',rfl⟩:=rd;cases e with
  |int j=>simp only[RH]at re;obtain⟨t,rfl⟩:=re;rw[ZE nofun];exact EqAt.str_int i t' j t
  |str j=>
   simp only[RH]at re;obtain⟨t,rfl⟩:=re;rw[show decide (D.str i=D.str j)=(i==j) by rw[Yx,Y8,Zx,D.str.injEq]];exact EqAt.str_str i t' j t
  |tup es=>simp only[RH]at re;obtain⟨b,its,rfl,ht,_⟩:=re;rw[ZE nofun];exact EqAt.str_tuple i t' ht hu
  |_=>simp[aR]at he
 |tup ds=>
  have Tr:=rd;simp only[RH]at rd;obtain⟨a,its,rfl,C_,hr⟩:=rd;obtain⟨k,rfl,x_⟩:=cC hd;cases e with
  |int j=>simp only[RH]at re;obtain⟨t,rfl⟩:=re;rw[ZE nofun];exact EqAt.tuple_int j t C_ hu
  |str j=>simp only[RH]at re;obtain⟨t,rfl⟩:=re;rw[ZE nofun];exact EqAt.tuple_str j t C_ hu
  |tup es=>
   have Tq:=re;simp only[RH]at re;obtain⟨b,ka,rfl,A_,Jd⟩:=re;obtain⟨k',e',K_⟩:=cC he;cases e';have l1:=hr.length;have l2:=Jd.length;by_cases HH:a=b;subst HH;rw[Zw (RH.inj Tr Tq)];exact EqAt.same _;have el:∀j (h1:j<its.toArray.size) (h2:j<ka.toArray.size),EqAt A.in1 s its.toArray[j] ka.toArray[j] (decide (ds[j]?=es[j]?)):=λj h1 h2=>by
    simp only[ZT]at h1 h2;obtain⟨d',Jf⟩:∃d',ds[j]?=U d':=⟨ds[j]'(by lia),by simp⟩
    obtain⟨e',LU⟩:∃e',es[j]?=U e':=⟨es[j]'(by lia),by simp⟩
    obtain⟨u',JI,O0⟩:=hr.get Jf;obtain⟨w',Pw,Hs⟩:=Jd.get LU;have q:=ih k (Yj k) d' e' u' w' A.in1 ((ZW.mp x_) d' (Zg Jf)) ((ZW.mp K_) e' (Zg LU)) (by show A.units+1+k+1<cLine;lia) O0 Hs;have g1:its.toArray[j]=u':=by simpa using(ZP.mp JI).2
    have g2:ka.toArray[j]=w':=by simpa using(ZP.mp Pw).2
    rw[g1,g2,Jf,LU,show decide (U d'=U e')=decide (d'=e') by simp];exact q
   have key:((List.range (min its.toArray.size ka.toArray.size)).all (λj=>decide (ds[j]?=es[j]?))&&its.toArray.size==ka.toArray.size)=decide (D.tup ds=D.tup es):=by
    rw[ZT,ZT,<-l1,<-l2,AT];simp only[D.tup.injEq]
   have rc:=RcAt.tuples C_ A_ hu el;rw[key]at rc;exact EqAt.of_refs HH rc
  |_=>simp[aR]at he
 |_=>simp[aR]at hd
noncomputable def bh(P:YX)(w:YK):HeapKind P w D where
 is h d a:=aR 8 d=L/\RH h d (.ref a)
 hash:=cr w
 draws:=dk
 room A:=A.units+30<cLine
 inj hx hy:=RH.inj hx.2 hy.2
 keeps:=λ{h h' k a d o es ep} hk ho hd hs=>⟨hk.1,hk.2.to λb u g _ ⟨its,n,q⟩=>((hs.2 b (λe=>by subst e;rw[ho]at g;obtain rfl:=Z8 g;rw[hd]at q;trivial)).trans g)⟩
 pyHash:=λ{A E s k a Q} hr hk h=>xP 8 k _ A s Q E hk.1 (by lia) hk.2 h
 eqBool:=λ{A E s x y a b Q} hr hx hy h=>FH 8 x y _ _ A hx.1 hy.1 (by lia) hx.2 hy.2 P w E Q h
 quiet:=λ{A E s k a Q} hk h=>lT 8 k _ A s Q E hk.1 hk.2 h
def qm:Key->Z3->Bool
 |.inl k,v=>Value.isInt k v
 |.inr x,v=>Value.isStrOf x v
def Hf(w:YK):Key->Int
 |.inl k=>hashInt k
 |.inr x=>hashStr w x
def aL:∀{k:Key}{v:Z3},qm k v=L->(∃i t,k=Sum.inl i/\v=Value.int i t)\/(∃x t,k=Sum.inr x/\v=Value.str x t)
 |.inl i,v,h=>by
  obtain⟨t,e⟩:=Value.isInt_shape (k:=i) (v:=v) h;exact .inl ⟨i,t,rfl,e⟩
 |.inr x,v,h=>by
  obtain⟨t,e⟩:=Value.isStrOf_shape (x:=x) (v:=v) h;exact .inr ⟨x,t,rfl,e⟩
def qR(i:Int)(t:Tok):qm (.inl i) (.int i t)=L:=by simp[qm,Value.isInt]
def rC(x:Str)(t:Tok):qm (.inr x) (.str x t)=L:=by simp[qm,Value.isStrOf]
def Be(a b:Int):decide ((Sum.inl a:Key)=Sum.inl b)=(a==b):=by
 by_cases e:a=b;subst e;simp;have h:¬(Sum.inl a:Key)=Sum.inl b:=λq=>e (Sum.inl.inj q);rw[ZE h];exact(Wm.mpr e).symm
def Bj(a b:Str):decide ((Sum.inr a:Key)=Sum.inr b)=decide (a=b):=by
 by_cases e:a=b;subst e;simp;have h:¬(Sum.inr a:Key)=Sum.inr b:=λq=>e (Sum.inr.inj q);rw[ZE h,ZE e]
def CS(a:Int)(b:Str):decide ((Sum.inl a:Key)=Sum.inr b)=Y:=ZE (λq=>nomatch q)
def Cq(a:Str)(b:Int):decide ((Sum.inr a:Key)=Sum.inl b)=Y:=ZE (λq=>nomatch q)
noncomputable def aA(prog:YX)(w:YK):PySem.KeyKind prog w Key where
 is:=qm
 hash:=Hf w
 inj:=λv a b ha hb=>by
  rcases aL ha with⟨i,t,rfl,rfl⟩|⟨x,t,rfl,rfl⟩;rcases aL hb with⟨j,u,rfl,e⟩|⟨y,u,rfl,e⟩;injection e with e1 _;rw[e1];exact nomatch e;rcases aL hb with⟨j,u,rfl,e⟩|⟨y,u,rfl,e⟩;exact nomatch e;injection e with e1 _;rw[e1]
 byValue:=λk v h=>by
  rcases aL h with⟨i,t,rfl,rfl⟩|⟨x,t,rfl,rfl⟩<;>rfl
 pyHash:=λhv h=>by
  rcases aL hv with⟨i,t,rfl,rfl⟩|⟨x,t,rfl,rfl⟩;exact wpAny_pyHash_int h;exact wpAny_pyHash_str h
 eqBool:=λhu hv h=>by
  rcases aL hu with⟨i,t,rfl,rfl⟩|⟨x,t,rfl,rfl⟩;rcases aL hv with⟨j,u,rfl,rfl⟩|⟨y,u,rfl,rfl⟩;rw[Be]at h;exact wpAny_eqBool_int h;rw[CS]at h;exact SeqAt.EqAt.int_str i t y u _ _ _ _ h;rcases aL hv with⟨j,u,rfl,rfl⟩|⟨y,u,rfl,rfl⟩;rw[Cq]at h;exact SeqAt.EqAt.str_int x t j u _ _ _ _ h;rw[Bj]at h;exact wpAny_eqBool_str h
 «strs»:=λk x t v h=>by
  rcases aL h with⟨i,u,rfl,e⟩|⟨y,u,rfl,e⟩;exact nomatch e
  .injection e with e1 _
   subst e1;cases v<;>rfl
def gm(prog:YX)(w:YK)(i:Int)(t:Tok):(aA prog w).is (.inl i) (.int i t)=L:=qR i t
def fx(prog:YX)(w:YK)(x:Str)(t:Tok):(aA prog w).is (.inr x) (.str x t)=L:=rC x t
inductive V where
 |non|bl (b:Bool)|int (i:Int)|str (x:Str)|byt (b:Array UInt8)|flt (b:UInt64)|ref (a:ZM)|ty (n:String)
 deriving DecidableEq
def RelV:V->Z3->Prop
 |.non,u=>u=Value.none
 |.bl b,u=>u=Value.bool b
 |.int i,u=>∃t,u=Value.int i t
 |.str x,u=>∃t,u=Value.str x t
 |.byt b,u=>∃t,u=Value.bytes b t
 |.flt b,u=>∃t,u=Value.float b t
 |.ref a,u=>u=Value.ref a
 |.ty n,u=>u=Value.type n
abbrev aab:Z9 V->Z9 Z3->Prop:=Paired RelV
theorem aab.length(r:aab xs us):xs.length=us.length:=Yk r
theorem aab.get:∀{xs:Z9 V}{us:Z9 Z3}{i:Nat}{x:V},aab xs us->xs[i]?=U x->∃u,us[i]?=U u/\RelV x u
 |_,_,_,_,.nil,e=>by simp at e
 |_,_,0,_,.cons r _,e=>by simp at e;subst e;exact⟨_,rfl,r⟩
 |_,_,i+1,x,.cons _ t,e=>by
  obtain⟨u,h1,h2⟩:=aab.get (i:=i) (x:=x) t (by simpa using e);exact⟨u,by simpa using h1,h2⟩
theorem aab.append:∀{xs ys:Z9 V}{us ws:Z9 Z3},aab xs us->aab ys ws->aab (xs++ys) (us++ws)
 |_,_,_,_,.nil,s=>s
 |_,_,_,_,.cons r t,s=>.cons r (aab.append t s)
theorem aab.take:∀{xs:Z9 V}{us:Z9 Z3}(n:Nat),aab xs us->aab (xs.take n) (us.take n)
 |_,_,0,_=>.nil
 |_,_,_+1,.nil=>.nil
 |_,_,n+1,.cons r t=>.cons r (aab.take n t)
theorem aab.drop:∀{xs:Z9 V}{us:Z9 Z3}(n:Nat),aab xs us->aab (xs.drop n) (us.drop n)
 |_,_,0,r=>r
 |_,_,_+1,.nil=>.nil
 |_,_,n+1,.cons _ t=>aab.drop n t
def aaX:Z7 V->Z7 Z3->Prop
 |some v,some u=>RelV v u
 |none,none=>True
 |_,_=>False
def KV{κ:Type}:Z9 (κ×V)->Z9 (κ×Z3)->Prop:=Paired λ(p:κ×V) (q:κ×Z3)=>p.1=q.1/\RelV p.2 q.2
def kV:Key->V
 |.inl i=>.int i
 |.inr x=>.str x
inductive HO where
 |lst (xs:List V)
 |tup (xs:List V)
 |dK (kvs:List (Key×V))|dD (kvs:List (D×V)) (ep:Nat)
 |own (x:ZM)
 |rng (lo hi:Int)
 |frz (o:Obj) (u:HO)
 |tbl (lq:Str) (ps:Array Z3)
 |ext (φ:Heap->Prop)
abbrev Hp:=ZM->Z7 HO
def upd(H:Hp)(a:ZM)(o:HO):Hp:=λb=>if b=a then U o else H b
def ah:upd H a o a=U o:=by unfold upd;rw[ZO rfl]
def ai(h:b≠a):upd H a o b=H b:=by unfold upd;rw[ZJ h]
def uK:upd (upd H a o) a u=upd H a u:=by
 funext b;unfold upd;split<;>rfl
def lW{H:Hp}(h:H a=U o)(h':H b=U u)(d:o≠u):a≠b:=by
 intro e;subst e;rw[h]at h';exact d (Z8 h')
def av{H:Hp}(h:H a=U o)(h':H b=M):a≠b:=by
 intro e;subst e;rw[h]at h';trivial
mutual
def KR(H:Hp):D->V->Prop
 |.int i,v=>v=.int i
 |.str x,v=>v=.str x
 |.tup ds,v=>∃a xs,v=.ref a/\H a=U (.tup xs)/\KRs H ds xs
 |_,_=>False
def KRs(H:Hp):Z9 D->Z9 V->Prop
 |[],xs=>xs=[]
 |d::ds,xs=>∃x r,xs=x::r/\KR H d x/\KRs H ds r
end
mutual
theorem KR.to(t:∀a xs,H a=U (.tup xs)->H' a=U (.tup xs)):∀{d:D}{v:V},KR H d v->KR H' d v
 |.int i,v,r=>by simp only[KR]at r⊢;exact r
 |.str i,v,r=>by simp only[KR]at r⊢;exact r
 |.tup ds,v,r=>by
  simp only[KR]at r⊢;obtain⟨a,xs,e,g,rs⟩:=r;exact⟨a,xs,e,t a xs g,KRs.to t rs⟩
 |.non,v,r=>by simp only[KR]at r
 |.bl _,v,r=>by simp only[KR]at r
 |.lst _,v,r=>by simp only[KR]at r
 |.dK _ _,v,r=>by simp only[KR]at r
 |.dD _ _,v,r=>by simp only[KR]at r
theorem KRs.to(t:∀a xs,H a=U (.tup xs)->H' a=U (.tup xs)):∀{ds:Z9 D}{xs:Z9 V},KRs H ds xs->KRs H' ds xs
 |[],xs,r=>by simp only[KRs]at r⊢;exact r
 |d::ds,xs,r=>by
  simp only[KRs]at r⊢;obtain⟨x,q,e,r1,r2⟩:=r;exact⟨x,q,e,KR.to t r1,KRs.to t r2⟩
end
def aap(H:Hp):Z9 (D×V)->Z9 (D×ZM×Z3)->Prop:=Paired λp q=>p.1=q.1/\aR 8 p.1=L/\KR H p.1 (.ref q.2.1)/\RelV p.2 q.2.2
section
variable(P:YX)(w:YK)
def aal(H:Hp)(h:Heap)(a:ZM):HO->Prop
 |.lst xs=>xs.length<=sizeLine/\∃(its:Z9 Z3)(n:Nat),aab xs its/\h.get? a=U {cls:=.type "list",data:=.seq its.toArray n}
 |.tup xs=>xs.length<=sizeLine/\∃its:Z9 Z3,aab xs its/\IsTup h a its.toArray
 |.dK kvs=>kvs.length<=sizeLine/\(a==sysModules)=Y/\∃vs,KV kvs vs/\h.DictOf (aA P w) a vs
 |.dD kvs ep=>kvs.length<=sizeLine/\(a==sysModules)=Y/\∃xs,aap H kvs xs/\
   ∃o es,h.get? a=U o/\o.ExactDict/\o.data=.dict es ep/\es.toList=xs.map (entryOfKey (bh P w))/\(xs.map (·.1)).Nodup
 |.own _=>∃o,h.get? a=U o
 |.rng lo hi=>∃t u v,h.get? a=U {cls:=.type "range",data:=.fields #[.int lo t,.int hi u,.int 1 v]}
 |.frz o u=>h.get? a=U o/\aal H h a u
 |.tbl lq ps=>h.get? a=U {cls:=.none,data:=.fields ps}/\TriplesOk ps.toList/\∀pos cv,codeAmong pos ps.toList=U cv->
   ∃c' oc vs t,cv=.ref c'/\H c'=U (.own a)/\h.get? c'=U oc/\oc.data=.fields vs/\vs[1]?=U (.str lq t)
 |.ext φ=>φ h/\(∃o,h.get? a=U o)/\∀h1 h2:Heap,φ h1->(∀o,h1.get? a=U o->h2.get? a=U o)->φ h2
def HOk(H:Hp)(h:Heap):Prop:=∀a o,H a=U o->aal P w H h a o
end
section
variable{H':Hp}{h':Heap}{a:ZM}{o:HO}
theorem aal.lt(x:aal P w H h a o):a<h.objs.size:=by
 cases o with
 |lst xs=>obtain⟨_,_,_,_,e⟩:=x;exact ZQ e
 |tup xs=>obtain⟨_,_,_,p⟩:=x;exact p.lt
 |dK kvs=>obtain⟨_,_,_,_,o,_,_,e,_⟩:=x;exact ZQ e
 |dD kvs ep=>obtain⟨_,_,_,_,o,_,e,_⟩:=x;exact ZQ e
 |own y=>obtain⟨_,e⟩:=x;exact ZQ e
 |rng lo hi=>obtain⟨_,_,_,e⟩:=x;exact ZQ e
 |frz ob u=>obtain⟨e,_⟩:=x;exact ZQ e
 |tbl lq ps=>exact ZQ x.1
 |ext φ=>obtain⟨_,⟨_,e⟩,_⟩:=x;exact ZQ e
theorem Paired.abW{α β:Type}{F G:α->β->Prop}:∀{l₁:Z9 α}{l₂:Z9 β},Paired F l₁ l₂->(∀a b,F a b->G a b)->Paired G l₁ l₂
 |_,_,.nil,_=>.nil
 |_,_,.cons r t,f=>.cons (f _ _ r) (Paired.abW t f)
def aal.abi(x:aal P w H h a o)(k:∀b u,(b=a\/H b=U (.own a))->h.get? b=U u->h'.get? b=U u)(ho:∀b,H b=U (.own a)->H' b=U (.own a))(ht:∀b xs,H b=U (.tup xs)->H' b=U (.tup xs)):aal P w H' h' a o:=by
 induction o with
 |lst xs=>obtain⟨z,its,n,r,e⟩:=x;exact⟨z,its,n,r,k _ _ (.inl rfl) e⟩
 |tup xs=>obtain⟨z,its,r,ob,e,c⟩:=x;exact⟨z,its,r,ob,k _ _ (.inl rfl) e,c⟩
 |dK kvs=>obtain⟨z,y,vs,r,ob,es,ep,e,c⟩:=x;exact⟨z,y,vs,r,ob,es,ep,k _ _ (.inl rfl) e,c⟩
 |dD kvs ep=>
  obtain⟨z,y,xs,r,ob,es,e,c⟩:=x;exact⟨z,y,xs,Paired.abW r λp q z=>⟨z.1,z.2.1,KR.to ht z.2.2.1,z.2.2.2⟩,ob,es,k _ _ (.inl rfl) e,c⟩
 |own y=>obtain⟨ob,e⟩:=x;exact⟨ob,k _ _ (.inl rfl) e⟩
 |rng lo hi=>obtain⟨t,u,v,e⟩:=x;exact⟨t,u,v,k _ _ (.inl rfl) e⟩
 |frz ob u ih=>obtain⟨e,q⟩:=x;exact⟨k _ _ (.inl rfl) e,ih q⟩
 |tbl lq ps=>
  obtain⟨e,tr,r⟩:=x;refine⟨k _ _ (.inl rfl) e,tr,λpos cv q=>?_⟩;obtain⟨c',oc,vs,t,e1,e2,e3,e4⟩:=r pos cv q;exact⟨c',oc,vs,t,e1,ho _ e2,k _ _ (.inr e2) e3,e4⟩
 |ext φ=>obtain⟨p,⟨o,e⟩,st⟩:=x;exact⟨st _ _ p λo q=>k _ _ (.inl rfl) q,⟨o,k _ _ (.inl rfl) e⟩,st⟩
theorem HOk.lt(x:HOk P w H h)(e:H a=U o):a<h.objs.size:=(x a o e).lt
def HOk.fresh(x:HOk P w H h)(e:h.objs.size<=a):H a=M:=by
 cases q:H a with
 |none=>rfl
 |some u=>exact absurd (ZD (x.lt q) e) (Zd _)
def HOk.kept(x:HOk P w H h)(k:∀b u,h.get? b=U u->h'.get? b=U u):HOk P w H h':=λa o e=>
 (x a o e).abi (λb u _ q=>k b u q) (λ_ q=>q) λ_ _ q=>q
def HOk.laid(x:HOk P w H h)(k:∀b u,h.get? b=U u->h'.get? b=U u)(hp:h.objs.size<=a)(new:aal P w (upd H a o) h' a o):HOk P w (upd H a o) h':=λb u e=>by
 have hn:=x.fresh hp;by_cases hb:b=a;subst hb;rw[ah]at e;obtain rfl:=Z8 e;exact new;rw[ai hb]at e;exact(x b u e).abi (λc v _ q=>k c v q) (λc q=>by rw[ai (av q hn)];exact q) λc xs q=>by rw[ai (av q hn)];exact q
end
def Rd(H:Hp)(a:ZM)(u:HO):Prop:=H a=U u\/∃o,H a=U (.frz o u)
def Rd.ok(r:Rd H a u)(x:HOk P w H h):aal P w H h a u:=by
 rcases r with r|⟨o,r⟩;exact x a u r;obtain⟨_,q⟩:=x a _ r;exact q
def Mut:Z7 HO->Prop
 |some (.lst _)=>True
 |some (.dK _)=>True
 |some (.dD _ _)=>True
 |some (.ext _)=>True
 |_=>False
section
variable{h':Heap}
def HOk.write(ok:HOk P w H h)(mu:Mut (H x))(he:e=x\/H e=U (.own x))(k:∀b u,b≠e->h.get? b=U u->h'.get? b=U u)(Lx:∃u,h'.get? e=U u)(new:aal P w (upd H x o') h' x o'):HOk P w (upd H x o') h':=λb u q=>by
 have JU:∀c y,H c=U (.own y)->c≠x:=λc y r z=>by subst z;rw[r]at mu;exact mu
 have L4:∀c xs,H c=U (.tup xs)->c≠x:=λc xs r z=>by subst z;rw[r]at mu;exact mu
 by_cases hb:b=x;subst hb;rw[ah]at q;obtain rfl:=Z8 q;exact new;rw[ai hb]at q;by_cases LX:b=e;have q':H b=U (.own x):=by
  rcases he with z|z;exact absurd (LX.trans z) hb;rw[LX];exact z
 rw[q]at q';obtain rfl:=Z8 q';obtain⟨v,hv⟩:=Lx;exact⟨v,by rw[LX];exact hv⟩;refine(ok b u q).abi (λc v hc r=>k c v ?_ r) (λc r=>by rw[ai (JU c b r)];exact r) λc xs r=>by rw[ai (L4 c xs r)];exact r
 rcases hc with rfl|hc;exact LX
 rintro rfl
 rcases he with z|z;exact JU c b hc z;rw[hc]at z;cases z;exact hb rfl
end
structure Un (fs ex:List ZM)(H H':Hp)(h h':Heap):Prop where
 keep:∀b o,h.get? b=some o->H b=none->b∉fs->b∉ex->h'.get? b=some o
 slot:∀b o,h.get? b=some o->H b=none->b∈fs->b∉ex->∃sl,h'.get? b=some {o with slots:=sl}
 free:∀b o,h.get? b=some o->H b=none->b∉ex->H' b=none
 there:∀b o,h.get? b=some o->b∉ex->∃o',h'.get? b=some o'
 aa1:∀b xs,H b=some (.tup xs)->H' b=some (.tup xs)
 aaW:∀b o u,H b=some (.frz o u)->H' b=some (.frz o u)
 aa5:∀b lq ps,H b=some (.tbl lq ps)->∃more,H' b=some (.tbl lq (ps++more))
section
variable{H:Hp}{h h':Heap}
def Un.any(u:Un fs ex H H1 h h1)(q:h.get? b=U ob)(n:H b=M)(hx:b∉ex):∃sl,h1.get? b=U {ob with slots:=sl}:=by
 by_cases hb:b∈fs;exact u.slot b ob q n hb hx;exact⟨ob.slots,u.keep b ob q n hb hx⟩
def Un.kept(k:∀b u,h.get? b=U u->h'.get? b=U u):Un fs ex H H h h':=
 ⟨λb ob q _ _ _=>k b ob q,λb ob q _ _ _=>⟨ob.slots,k b ob q⟩,λ_ _ _ n _=>n,λb ob q _=>⟨ob,k b ob q⟩,λ_ _ q=>q,λ_ _ _ q=>q,λ_ lq ps q=>⟨#[],by rw[q];simp⟩⟩
def Un.refl:Un fs ex H H h h:=Un.kept λ_ _ q=>q
def Un.laid(k:∀b u,h.get? b=U u->h'.get? b=U u)(hp:h.objs.size<=a)(hn:H a=M):Un fs ex H (upd H a o) h h' where
 keep:=λb u q _ _ _=>k b u q
 slot:=λb u q _ _ _=>⟨u.slots,k b u q⟩
 free:=λb u q n _=>by rw[ai (Zv (ZD (ZQ q) hp))];exact n
 there:=λb u q _=>⟨u,k b u q⟩
 aa1:=λb xs q=>by rw[ai (av q hn)];exact q
 aaW:=λb u xs q=>by rw[ai (av q hn)];exact q
 aa5:=λb lq ps q=>⟨#[],by rw[ai (av q hn),q];simp⟩
def Un.write(mu:Mut (H x))(he:e=x\/H e=U (.own x))(k:∀b u,b≠e->h.get? b=U u->h'.get? b=U u)(Lx:∃u,h'.get? e=U u):Un fs ex H (upd H x o) h h':=by
 have hx:∀b,H b=M->b≠x:=λb n z=>by subst z;rw[n]at mu;exact mu
 have hb:∀b,H b=M->b≠e:=λb n z=>by
  subst z;rcases he with r|r;exact hx b n r;rw[n]at r;trivial
 have hm:∀b u,H b=U u->¬Mut (U u)->b≠x:=λb u q nm z=>by subst z;rw[q]at mu;exact nm mu
 refine⟨λb u q n _ _=>k b u (hb b n) q,λb u q n _ _=>⟨u.slots,k b u (hb b n) q⟩,λb u q n _=>by rw[ai (hx b n)];exact n,λb u q _=>?_,
  λb xs q=>by rw[ai (hm b _ q λz=>z)];exact q,λb u xs q=>by rw[ai (hm b _ q λz=>z)];exact q,λb lq ps q=>⟨#[],by rw[ai (hm b _ q λz=>z),q];simp⟩⟩
 by_cases LX:b=e;subst LX;exact Lx;exact⟨u,k b u LX q⟩
end
def trk(h:Heap)(H:Hp):Z9 ZM:=(List.range h.objs.size).filter λa=>(H a).isSome
def wI(h:Heap)(H:Hp):Heap:=PySem.W.hideAll h (trk h H)
def rJ(h:Heap)(H:Hp):(wI h H).objs.size=h.objs.size:=PySem.W.hideAll_size _ _
def xn(e:h.get? b=U o)(n:H b=M):(wI h H).get? b=U o:=
 PySem.W.hideAll_get _ e λhm=>by
  have q:(H b).isSome=L:=(Y1.mp hm).2;rw[n]at q;simp at q
def AL(e:(wI h H).get? b=U o):h.get? b=U o/\H b=M:=by
 have e':h.get? b=U o:=PySem.W.of_hideAll (trk h H) e;refine⟨e',?_⟩;cases q:H b with
 |none=>rfl
 |some x=>
  have hm:b∈trk h H:=Y1.mpr ⟨Y4.mpr (ZQ e'),by simp[q]⟩;have z:(wI h H).get? b=M:=PySem.W.hideAll_none (trk h H) hm;rw[z]at e;trivial
noncomputable def yN(g h:Heap)(Lq:ZM):Z9 (ZM×Obj):=(List.range h.objs.size).filterMap λa=>if a=Lq\/(g.get? a).isSome=L then M else(h.get? a).map λo=>(a,o)
def ar(g h:Heap)(Lq d:ZM):Z9 (ZM×Obj):=(yN g h Lq).filter λp=>decide (p.1≠d)
section
structure Mod (K:Z5)(mg:Str->Z7 Z3)(base:Heap):Prop where
 kin:K.In base
 glob:base.Ns mainGlobals mg
 blt:∃mb,base.Ns builtinsNs mb/\∀x:Str,x≠"__name__"->mb x=bootBuiltins x
 nolimit:base.NoLimit
 bmain:∃bm ob,mg "__builtins__"=some (.ref bm)/\bm≠builtinsNs/\base.get? bm=some ob/\ob.cls=.type "module"/\ob.dict=some builtinsNs/\ob.data=.plain
structure Cx where
 prog:YX
 w:YK
 K:Z5
 mg:Str->Z7 Z3
 base:Heap
 A:Za
 N:List Str
 n_:ZR
 J7:Hp
 env:Env
 outer:List Env
 stack:List Env
 ex:List ZM
 fn:Str->Bool
 calm:Bool
 pn:List (ZM×Obj)
 xe:Z3->ZR->Prop
def frs(l:Z9 Env):Z9 ZM:=l.filterMap (·.frame)
abbrev Cx.fs(X:Cx):Z9 ZM:=frs X.outer
def Vis(sc:Scope)(x:Str):Prop:=sc.names.lookup x=U .local\/sc.names.lookup x=U .cell\/sc.names.lookup x=U .free
def Loc(sc:Scope)(x:Str):Prop:=sc.names.lookup x=U .local\/sc.names.lookup x=U .cell
def F5(env:Env)(h:Heap)(m:Str->Z7 Z3)(x:Str)(u:Z3):Prop:=
 (env.kindOf x=U .local/\m x=U u)\/((env.kindOf x=U .cell\/env.kindOf x=U .free)/\∃c,env.cells.lookup x=U c/\h.IsCell c (U u))
variable[Lams]
def abX(H:Hp):Prop:=∀q∈Lams.tb,∃ps,H q.1=U (.tbl q.2 ps)
def abX.to(h:abX H)(tb:∀b lq ps,H b=U (.tbl lq ps)->∃more,H' b=U (.tbl lq (ps++more))):abX H':=λq hq=>by
 obtain⟨ps,e⟩:=h q hq;obtain⟨m,e'⟩:=tb _ _ _ e;exact⟨_,e'⟩
structure Cx.Ok (X:Cx):Prop where
 mod:Mod X.K X.mg X.base
 kind:X.env.scope.kind=.function
 glob:X.env.globals=mainGlobals
 blt:X.env.builtins=builtinsNs
 above:X.n_.heap.objs.size<=X.env.locals
 inj:∀x y c,X.env.cells.lookup x=some c->X.env.cells.lookup y=some c->x=y
 has:∀x,(X.env.kindOf x=some .cell\/X.env.kindOf x=some .free)->∃c,X.env.cells.lookup x=some c
 cab:∀x c,X.fn x=true->X.env.cells.lookup x=some c->X.n_.heap.objs.size<=c
 hd:X.calm=true->X.A.handled=none
 frames:X.A.frames=some X.stack
 stk:X.stack=X.outer\/(X.stack=X.env::X.outer/\X.env.frame=some X.env.locals)
 exf:∀b∈X.ex,b≠X.env.locals/\∀x c,X.env.cells.lookup x=some c->c≠b
 bs:∀b o,X.base.get? b=some o->X.n_.heap.get? b=some o/\X.J7 b=none
 bsz:X.base.objs.size<=X.n_.heap.objs.size
 ab5:∀b o,X.base.get? b=some o->b∉X.ex
 acg:∀b∈X.ex,b∉X.fs
 aa8:X.n_.heap.FunFrames X.base X.outer
 frf:∀b∈X.fs,X.J7 b=none
 tabs:abX X.J7
structure Inv (X:Cx)(pins:List (ZM×Obj))(σ:List (Z7 V))(H:Hp)(s:ZR):Prop where
 ok:X.Ok
 os:s.os=X.n_.os
 bare:AllBare s.gens
 base:Un X.fs X.ex X.J7 H X.n_.heap s.heap
 loc:∃m,s.heap.Ns X.env.locals m/\∀(i:Nat)(x:Str)(v:V),X.N[i]?=some x->σ[i]?=some (some v)->Vis X.env.scope x->∃u,RelV v u/\F5 X.env s.heap m x u
 cell:∀x c,X.env.cells.lookup x=some c->∃v,s.heap.IsCell c v
 free:H X.env.locals=none
 aaU:∀x c,X.env.cells.lookup x=some c->H c=none
 pin:∀p∈X.pn++pins,s.heap.get? p.1=some p.2/\H p.1=none/\p.1≠X.env.locals/\p.1∉X.fs/\∀v,p.2.data≠.cell v
 hok:HOk X.prog X.w H s.heap
 len:σ.length=X.N.length
section
variable{X:Cx}{H':Hp}{h':Heap}
def Cx.Ok.acN(ok:X.Ok)(e:X.base.get? b=U o):b∉X.fs:=λhb=>by
 have:=(ok.aa8.mem hb).1;rw[e]at this;trivial
theorem Inv.bs(I:Inv X pins σ H s):∀b o,X.base.get? b=U o->s.heap.get? b=U o/\H b=M:=λb o e=>
 ⟨I.base.keep b o (I.ok.bs b o e).1 (I.ok.bs b o e).2 (I.ok.acN e) (I.ok.ab5 b o e),I.base.free b o (I.ok.bs b o e).1 (I.ok.bs b o e).2 (I.ok.ab5 b o e)⟩
def Inv.bk(I:Inv X pins σ H s):∀b o,X.base.get? b=U o->s.heap.get? b=U o:=λb o e=>(I.bs b o e).1
theorem Inv.mod(I:Inv X pins σ H s):Mod X.K X.mg X.base:=I.ok.mod
def Inv.kIn(I:Inv X pins σ H s):X.K.In s.heap:=I.ok.mod.kin.keeps I.bk
theorem Inv.lt(I:Inv X pins σ H s):X.env.locals<s.z:=let ⟨_,hn,_⟩:=I.loc;hn.lt
def Inv.sz(I:Inv X pins σ H s):X.n_.z<=s.z:=Zn I.ok.above (WJ I.lt)
def Inv.acq(I:Inv X pins σ H s)(h:s.z<=a):a∉X.fs:=λhb=>by
 obtain⟨_,o,ho,_⟩:=I.ok.aa8.mem hb;exact absurd (ZD (ZQ ho) (Zn I.sz h)) (Zd _)
def Inv.cne(I:Inv X pins σ H s):∀x c,X.env.cells.lookup x=U c->c≠X.env.locals:=λx c e z=>by
 obtain⟨v,o,ho,hd⟩:=I.cell x c e;obtain⟨m,⟨o',es,ep,LN,x_,_⟩,_⟩:=I.loc;rw[z,LN]at ho;obtain rfl:=Z8 ho;rw[x_]at hd;trivial
theorem Inv.aa8(I:Inv X pins σ H s):s.heap.FunFrames X.base X.outer:=by
 have all:∀(l:Z9 Env),(∀b∈frs l,b∈X.fs)->X.n_.heap.FunFrames X.base l->s.heap.FunFrames X.base l:=by
  intro l
  induction l with
  |nil=>intro _ _;trivial
  |cons env r ih=>
   intro hs hl;obtain⟨hk,⟨Lq,o,hf,hn,ho,hd⟩,hr⟩:=hl;have hL:Lq∈X.fs:=hs Lq (by unfold frs;rw[List.filterMap_cons,hf];exact ZX);obtain⟨sl,e⟩:=I.base.slot Lq o ho (I.ok.frf Lq hL) hL λz=>I.ok.acg Lq z hL;exact⟨hk,⟨Lq,_,hf,hn,e,hd⟩,ih (λb hb=>hs b (by unfold frs;rw[List.filterMap_cons,hf];exact Z1 _ hb)) hr⟩
 exact all X.outer (λ_ hb=>hb) I.ok.aa8
theorem Inv.stack(I:Inv X pins σ H s):s.heap.FunFrames X.base X.stack:=by
 rcases I.ok.stk with e|⟨e,hf⟩;rw[e];exact I.aa8;rw[e];obtain⟨m,hn,_⟩:=I.loc;refine .cons (by rw[I.ok.kind];decide) hf hn ?_ I.aa8;exact Heap.get?_none_of_le (Zn I.ok.bsz I.ok.above)
def Inv.aba(I:Inv X pins σ H s):∀b∈frs X.stack,b∈X.env.locals::X.fs:=λb hb=>by
 rcases I.ok.stk with e|⟨e,hf⟩;rw[e]at hb;exact Z1 _ hb;rw[e]at hb;unfold frs at hb;rw[List.filterMap_cons,hf]at hb;exact hb
def Inv.abO(I:Inv X pins σ H s):∀b∈frs X.stack,H b=M:=λb hb=>by
 rcases Z0.mp (I.aba b hb)with e|hb;rw[e];exact I.free;obtain⟨_,o,ho,_⟩:=I.ok.aa8.mem hb;exact I.base.free b o ho (I.ok.frf b hb) λz=>I.ok.acg b z hb
def Inv.step{g':Array GenState}{t':Nat}{d':Drawn}{ch:Z9 ZM}(I:Inv X pins σ H s)
  (KW:∀b∈ch,(b∈X.ex\/X.n_.z<=b)/\b≠X.env.locals/\(∀x c,X.env.cells.lookup x=U c->c≠b)/\∀p∈X.pn++pins,p.1≠b)
  (keep:∀b o,b≠X.env.locals->b∉X.fs->b∉ch->s.heap.get? b=U o->H b=M->h'.get? b=U o)
  (slot:∀b o,b≠X.env.locals->b∈X.fs->b∉ch->s.heap.get? b=U o->H b=M->∃sl,h'.get? b=U {o with slots:=sl}) (free:∀b o,b∉ch->s.heap.get? b=U o->H b=M->H' b=M)
  (there:∀b o,b∉ch->s.heap.get? b=U o->∃o',h'.get? b=U o')
  (aa1:∀b xs,H b=U (.tup xs)->H' b=U (.tup xs)) (aaW:∀b o u,H b=U (.frz o u)->H' b=U (.frz o u)) (aa5:∀b lq ps,H b=U (.tbl lq ps)->∃more,H' b=U (.tbl lq (ps++more)))
  (ns:∀m,s.heap.Ns X.env.locals m->h'.Ns X.env.locals m)(hok:HOk X.prog X.w H' h')(hg:AllBare g'):
  Inv X pins σ H' {s with heap:=h',gens:=g',drawn:=d',toks:=t'}:=by
 have Rj:∀b o,X.n_.heap.get? b=U o->b≠X.env.locals:=λb o e=>Zv (ZD (ZQ e) I.ok.above);have Of:∀b o,X.n_.heap.get? b=U o->b∉X.ex->b∉ch:=λb o e hx hb=>by
  rcases(KW b hb).1 with z|z;exact hx z;exact absurd (ZD (ZQ e) z) (Zd _)
 have cellK:∀x c,X.env.cells.lookup x=U c->∀v,s.heap.IsCell c v->h'.IsCell c v:=λx c e v hz=>by
  obtain⟨o,ho,hd⟩:=hz;have M7:c∉ch:=λz=>(KW c z).2.2.1 x c e rfl;by_cases hc:c∈X.fs;obtain⟨sl,q⟩:=slot c o (I.cne x c e) hc M7 ho (I.aaU x c e);exact⟨_,q,hd⟩;exact⟨o,keep c o (I.cne x c e) hc M7 ho (I.aaU x c e),hd⟩
 refine⟨I.ok,I.os,hg,⟨λb o e n hb hx=>?_,λb o e n hb hx=>?_,λb o e n hx=>?_,λb o e hx=>?_,λb xs e=>aa1 b xs (I.base.aa1 b xs e),λb o xs e=>aaW b o xs (I.base.aaW b o xs e),λb lq ps e=>?_⟩,?_,λx c e=>?_,?_,λx c e=>?_,λp hp=>?_,hok,I.len⟩;exact keep b o (Rj b o e) hb (Of b o e hx) (I.base.keep b o e n hb hx) (I.base.free b o e n hx);obtain⟨sl,e1⟩:=I.base.slot b o e n hb hx;obtain⟨Q6,e2⟩:=slot b _ (Rj b o e) hb (Of b o e hx) e1 (I.base.free b o e n hx);exact⟨Q6,e2⟩;obtain⟨o',e1⟩:=I.base.there b o e hx;exact free b o' (Of b o e hx) e1 (I.base.free b o e n hx);obtain⟨o',e1⟩:=I.base.there b o e hx;exact there b o' (Of b o e hx) e1;obtain⟨m1,e1⟩:=I.base.aa5 b lq ps e;obtain⟨m2,e2⟩:=aa5 b lq _ e1;exact⟨m1++m2,by rw[e2,Array.append_assoc]⟩;obtain⟨m,hn,hl⟩:=I.loc;refine⟨m,ns m hn,λi x v e1 e2 e3=>?_⟩;obtain⟨u,r,l⟩:=hl i x v e1 e2 e3;refine⟨u,r,?_⟩;rcases l with l|⟨k,c,e,z⟩;exact .inl l;exact .inr ⟨k,c,e,cellK x c e _ z⟩;obtain⟨v,z⟩:=I.cell x c e;exact⟨v,cellK x c e v z⟩;obtain⟨m,⟨o,_,_,ho,_⟩,_⟩:=I.loc;exact free _ o (λz=>(KW _ z).2.1 rfl) ho I.free;obtain⟨v,o,ho,hd⟩:=I.cell x c e;exact free c o (λz=>(KW c z).2.2.1 x c e rfl) ho (I.aaU x c e);obtain⟨e,n,ne,nf,d⟩:=I.pin p hp;have M7:p.1∉ch:=λz=>(KW p.1 z).2.2.2 p hp rfl
 exact⟨keep p.1 p.2 ne nf M7 e n,free p.1 p.2 M7 e n,ne,nf,d⟩
def Inv.un(I:Inv X pins σ H s)(u:Un X.fs [] H H' s.heap h')(hok:HOk X.prog X.w H' h'):Inv X pins σ H' {s with heap:=h',toks:=t'}:=by
 obtain⟨m,⟨o,es,ep,ho,r⟩,_⟩:=id I.loc;obtain⟨sl,hL⟩:=u.any ho I.free (by simp);exact I.step (g':=s.gens) (d':=s.drawn) (ch:=[]) (λ_ z=>nomatch z) (λb o _ hb _ e n=>u.keep b o e n hb (by simp)) (λb o _ hb _ e n=>u.slot b o e n hb (by simp)) (λb o _ e n=>u.free b o e n (by simp)) (λb o _ e=>u.there b o e (by simp)) u.aa1 u.aaW u.aa5 (λm' hm=>by
  obtain⟨o',es',y_,LN,r'⟩:=hm;rw[ho]at LN;obtain rfl:=Z8 LN;exact⟨_,es',y_,hL,r'⟩) hok I.bare
def Inv.call(I:Inv X pins σ H s)(u:Un (frs X.stack) ch H H' s.heap h')(hok:HOk X.prog X.w H' h')(hg:AllBare g')(KW:∀b∈ch,(b∈X.ex\/X.n_.z<=b)/\b≠X.env.locals/\(∀x c,X.env.cells.lookup x=U c->c≠b)/\∀p∈X.pn++pins,p.1≠b):
  Inv X pins σ H' {s with heap:=h',gens:=g',drawn:=d',toks:=t'}:=by
 obtain⟨m,⟨o,es,ep,ho,r⟩,_⟩:=id I.loc;obtain⟨sl,hL⟩:=u.any ho I.free λz=>(KW _ z).2.1 rfl;exact I.step (ch:=ch) KW (λb o hL hb hc e n=>u.keep b o e n (λz=>(Z0.mp (I.aba b z)).elim hL hb) hc) (λb o _ _ hc e n=>u.any e n hc) (λb o hc e n=>u.free b o e n hc) (λb o hc e=>u.there b o e hc) u.aa1 u.aaW u.aa5 (λm' hm=>by
  obtain⟨o',es',y_,LN,r'⟩:=hm;rw[ho]at LN;obtain rfl:=Z8 LN;exact⟨_,es',y_,hL,r'⟩) hok hg
def Inv.turned{t':Nat}{it:ZM}(I:Inv X pins σ H s)(k:∀b o,b≠it->s.heap.get? b=U o->h'.get? b=U o)(hn:H it=M)(hL:it≠X.env.locals)
  (h1:it∈X.ex\/X.n_.z<=it)(h2:∀x c,X.env.cells.lookup x=U c->c≠it)(h3:∀p∈X.pn++pins,p.1≠it):Inv X pins σ H {s with heap:=h',toks:=t'}:=by
 have Ri:∀b u,H b=U u->b≠it:=λb u e z=>by rw[z,hn]at e;trivial
 refine I.step (g':=s.gens) (d':=s.drawn) (ch:=[it]) (λb hb=>?_) (λb o _ _ hc e _=>k b o (λz=>hc (by simp[z])) e) (λb o _ _ hc e _=>⟨o.slots,k b o (λz=>hc (by simp[z])) e⟩) (λ_ _ _ _ n=>n)
  (λb o hc e=>⟨o,k b o (λz=>hc (by simp[z])) e⟩) (λ_ _ e=>e) (λ_ _ _ e=>e) (λb lq ps e=>⟨#[],by rw[e];simp⟩) (λm hm=>?_) (λb u e=>?_) I.bare
 have e:b=it:=by simpa using hb
 subst e;exact⟨h1,hL,h2,h3⟩;obtain⟨o,es,ep,ho,r⟩:=hm;exact⟨o,es,ep,k _ o (ZA hL) ho,r⟩;refine(I.hok b u e).abi (λc v hc q=>k c v ?_ q) (λ_ q=>q) λ_ _ q=>q;rcases hc with z|z
 rw[z];exact Ri b u e;exact Ri c _ z
def Inv.tok(I:Inv X pins σ H s)(t:Nat):Inv X pins σ H {s with toks:=t}:=I.un (h':=s.heap) (t':=t) Un.refl I.hok
theorem Inv.kept(I:Inv X pins σ H s)(k:∀b u,s.heap.get? b=U u->h'.get? b=U u):Inv X pins σ H {s with heap:=h',toks:=t'}:=I.un (Un.kept k) (I.hok.kept k)
theorem Inv.laid(I:Inv X pins σ H s)(k:∀b u,s.heap.get? b=U u->h'.get? b=U u)(hp:s.z<=a)(new:aal X.prog X.w (upd H a o) h' a o):
  Inv X pins σ (upd H a o) {s with heap:=h',toks:=t'}:=I.un (Un.laid k hp (I.hok.fresh hp)) (I.hok.laid k hp new)
theorem Inv.write(I:Inv X pins σ H s)(mu:Mut (H x))(he:e=x\/H e=U (.own x))(k:∀b u,b≠e->s.heap.get? b=U u->h'.get? b=U u)(Lx:∃u,h'.get? e=U u)(new:aal X.prog X.w (upd H x o) h' x o):Inv X pins σ (upd H x o) {s with heap:=h',toks:=t'}:=I.un (Un.write mu he k Lx) (I.hok.write mu he k Lx new)
def Inv.aaL(I:Inv X pins σ H s)(h:∀p∈HQ,s.heap.get? p.1=U p.2/\H p.1=M/\p.1≠X.env.locals/\p.1∉X.fs/\∀v,p.2.data≠.cell v):Inv X HQ σ H s:=
 ⟨I.ok,I.os,I.bare,I.base,I.loc,I.cell,I.free,I.aaU,λp hp=>(Zt.mp hp).elim (λz=>I.pin p (YA _ z)) (h p),I.hok,I.len⟩
def o0{N:Z9 Str}(hN:N.Nodup){i j:Nat}{x:Str}(a:N[i]?=U x)(b:N[j]?=U x):i=j:=by
 obtain⟨h1,e1⟩:=ZP.mp a;obtain⟨h2,e2⟩:=ZP.mp b;exact(List.getElem_inj hN).mp (e1.trans e2.symm)
def lm(I:Inv X pins σ H s)(hN:X.N.Nodup)(hi:X.N[i]?=U x)(hx:Loc X.env.scope x)(r:RelV v u)(h:∀s',Inv X pins (σ.set i (U v)) H s'->(∃a,Heap.SameBut a s.heap s'.heap/\(a=X.env.locals\/X.env.cells.lookup x=U a))->Q () s')(hf:X.fn x=L\/X.env.scope.names.lookup x=U .local:=by first|exact .inl rfl|exact .inr rfl|assumption):wpAny Mq A (storeName X.env x u) Q E s:=by
 obtain⟨m,hn,hl⟩:=id I.loc;have QM:(X.env.scope.kind==.class||(X.env.scope.kind==.module&&X.env.locals != X.env.globals))=Y:=by rw[I.ok.kind];rfl
 have NL:i<σ.length:=by rw[I.len];exact(ZP.mp hi).1
 have cne:=I.cne;have tracked:∀{a:ZM}{h':Heap},(∃o,s.heap.get? a=U o/\H a=M)->Heap.SameBut a s.heap h'->HOk X.prog X.w H h':=λ{a h'} ha hs b ob e=>by
  obtain⟨_,_,JE⟩:=ha;refine(I.hok b ob e).abi (λc w' hc q=>(hs.2 c ?_).trans q) (λ_ q=>q) λ_ _ q=>q
  rintro rfl
  rcases hc with rfl|hc;rw[JE]at e;trivial;rw[JE]at hc;trivial
 rcases hx with hk|hk;refine wpAny_storeName_local hk hn (λh' K8 hs=>?_) QM;obtain⟨oL,_,_,LM,_⟩:=id hn;refine h _ ⟨I.ok,I.os,I.bare,⟨λb o e n hb hx=>?_,λb o e n hb hx=>?_,I.base.free,λb o e hx=>?_,I.base.aa1,I.base.aaW,I.base.aa5⟩,⟨_,K8,λj y v' e1 e2 e3=>?_⟩,λy c e=>?_,I.free,I.aaU,λp hp=>?_,tracked ⟨oL,LM,I.free⟩ hs,by simpa using I.len⟩ ⟨_,hs,.inl rfl⟩;exact(hs.2 b (Zv (ZD (ZQ e) I.ok.above))).trans (I.base.keep b o e n hb hx);obtain⟨sl,e1⟩:=I.base.slot b o e n hb hx;exact⟨sl,(hs.2 b (Zv (ZD (ZQ e) I.ok.above))).trans e1⟩;obtain⟨o',e1⟩:=I.base.there b o e hx;exact⟨o',(hs.2 b (Zv (ZD (ZQ e) I.ok.above))).trans e1⟩;by_cases hj:j=i;subst hj;rw[hi]at e1;obtain rfl:=Z8 e1;rw[ZG NL]at e2;cases e2;exact⟨u,r,.inl ⟨hk,by simp⟩⟩;rw[ZL (ZA hj)]at e2;obtain⟨u',r',q⟩:=hl j y v' e1 e2 e3;refine⟨u',r',?_⟩;rcases q with⟨k,e⟩|⟨k,c,e,z⟩;refine .inl ⟨k,?_⟩;have:y≠x:=λe=>hj (o0 hN e1 (e▸hi))
 simp[this,e];exact .inr ⟨k,c,e,z.sameBut hs (cne y c e)⟩;obtain⟨w',z⟩:=I.cell y c e;exact⟨w',z.sameBut hs (cne y c e)⟩;obtain⟨e,n,ne,nf,d⟩:=I.pin p hp;exact⟨(hs.2 p.1 ne).trans e,n,ne,nf,d⟩;have PZ:X.fn x=L:=by
  rcases hf with z|z;exact z;rw[z]at hk;trivial
 obtain⟨c,hc⟩:=I.ok.has x (.inl hk);obtain⟨w',z⟩:=I.cell x c hc;refine wpAny_storeName_cell I.ok.kind hk hc z (λh' LW hs=>?_);obtain⟨oc,Na,QI⟩:=id z;refine h {s with heap:=h'} ⟨I.ok,I.os,I.bare,⟨λb o e n hb hx=>?_,λb o e n hb hx=>?_,I.base.free,λb o e hx=>?_,I.base.aa1,I.base.aaW,I.base.aa5⟩,⟨m,hn.sameBut hs (ZA (cne x c hc)),λj y v' e1 e2 e3=>?_⟩,λy c' e=>?_,I.free,I.aaU,λp hp=>?_,tracked ⟨oc,Na,I.aaU x c hc⟩ hs,by simpa using I.len⟩ ⟨c,hs,.inr hc⟩;exact(hs.2 b (Zv (ZD (ZQ e) (I.ok.cab x c PZ hc)))).trans (I.base.keep b o e n hb hx);obtain⟨sl,e1⟩:=I.base.slot b o e n hb hx;exact⟨sl,(hs.2 b (Zv (ZD (ZQ e) (I.ok.cab x c PZ hc)))).trans e1⟩;obtain⟨o',e1⟩:=I.base.there b o e hx;exact⟨o',(hs.2 b (Zv (ZD (ZQ e) (I.ok.cab x c PZ hc)))).trans e1⟩;by_cases hj:j=i;subst hj;rw[hi]at e1;obtain rfl:=Z8 e1;rw[ZG NL]at e2;cases e2;exact⟨u,r,.inr ⟨.inl hk,c,hc,LW⟩⟩;rw[ZL (ZA hj)]at e2;obtain⟨u',r',q⟩:=hl j y v' e1 e2 e3;refine⟨u',r',?_⟩;rcases q with q|⟨k,c',e,z'⟩;exact .inl q;refine .inr ⟨k,c',e,z'.sameBut hs ?_⟩
 rintro rfl
 exact hj (o0 hN e1 (I.ok.inj _ _ _ e hc▸hi));by_cases Sf:c'=c;subst Sf;exact⟨_,LW⟩;obtain⟨w2,z2⟩:=I.cell y c' e;exact⟨w2,z2.sameBut hs Sf⟩;obtain⟨e,n,ne,nf,d⟩:=I.pin p hp;refine⟨(hs.2 p.1 ?_).trans e,n,ne,nf,d⟩;intro q;rw[q,Na]at e;have q':oc=p.2:=Z8 e;exact d w' (by rw[<-q'];exact QI)
def oz{Mq:Model}{A:Za}{E:Z3->ZR->Prop}{Q:Unit->ZR->Prop}(I:Inv X pins σ H s)(hN:X.N.Nodup)(hi:X.N[i]?=U x)(hx:Loc X.env.scope x)(r:RelV v u)(h:∀s',Inv X pins (σ.set i (U v)) H s'->Q () s')(hf:X.fn x=L\/X.env.scope.names.lookup x=U .local:=by first|exact .inl rfl|exact .inr rfl|assumption):wpAny Mq A (storeName X.env x u) Q E s:=
 lm I hN hi hx r (λs' I' _=>h s' I') hf
def Inv.acI(I:Inv X pins σ H s)(ho:s'.os=s.os)(u:Un (frs X.stack) ch H H' s.heap s'.heap)(hok:HOk X.prog X.w H' s'.heap)(hg:AllBare s'.gens)(KW:∀b∈ch,(b∈X.ex\/X.n_.z<=b)/\b≠X.env.locals/\(∀x c,X.env.cells.lookup x=U c->c≠b)/\∀p∈X.pn++pins,p.1≠b):Inv X pins σ H' s':=by
 obtain⟨h',g',d',t',o'⟩:=s';have e:o'=s.os:=ho;subst e;exact I.call (g':=g') (t':=t') (d':=d') u hok hg KW
end
abbrev XK:=Z3->Z7 ZM->Hp->Prop
abbrev St:=Z9 (Z7 V)
abbrev VK:=V->Hp->Prop
abbrev TE:=St->Hp->VK->Prop
abbrev TT:=St->Hp->(Bool->Hp->Prop)->Prop
abbrev TA:=St->Hp->(Z9 V->Hp->Prop)->Prop
structure Ends where
 nx:St->Hp->Prop
 rt:VK
 bk:St->Hp->Prop:=λ_ _=>False
 ct:St->Hp->Prop:=λ_ _=>False
abbrev TS:=Ends->St->Hp->Prop
def EP(X:Cx)(pins:Z9 (ZM×Obj))(σ:St)(Q:VK)(u:Z3)(s':ZR):Prop:=∃v H',Inv X pins σ H' s'/\RelV v u/\Q v H'
def TP(X:Cx)(pins:Z9 (ZM×Obj))(σ:St)(Q:Bool->Hp->Prop)(b:Bool)(s':ZR):Prop:=∃H',Inv X pins σ H' s'/\Q b H'
def AP(X:Cx)(pins:Z9 (ZM×Obj))(σ:St)(Q:Z9 V->Hp->Prop)(us:Z9 Z3)(s':ZR):Prop:=∃vs H',Inv X pins σ H' s'/\aab vs us/\Q vs H'
def SP(X:Cx)(pins:Z9 (ZM×Obj))(D:Ends)(f:Flow)(s':ZR):Prop:=
 match f with
 |.next=>∃h_ H',Inv X pins h_ H' s'/\D.nx h_ H'
 |.brk=>∃h_ H',Inv X pins h_ H' s'/\D.bk h_ H'
 |.cont=>∃h_ H',Inv X pins h_ H' s'/\D.ct h_ H'
 |.ret u=>∃v h_ H',Inv X pins h_ H' s'/\RelV v u/\D.rt v H'
def PE(X:Cx)(e:Expr)(t:TE):Prop:=
 ∀(pins:Z9 (ZM×Obj))(s:ZR)(σ:St)(H:Hp)(Q:VK),Inv X pins σ H s->t σ H Q->wpAny (model X.prog X.w) X.A (eval e X.env) (EP X pins σ Q) X.xe s
def PT(X:Cx)(e:Expr)(t:TT):Prop:=
 ∀(pins:Z9 (ZM×Obj))(s:ZR)(σ:St)(H:Hp)(Q:Bool->Hp->Prop),Inv X pins σ H s->t σ H Q->wpAny (model X.prog X.w) X.A (isTrue e X.env (eval e X.env)) (TP X pins σ Q) X.xe s
def PW(X:Cx)(e:Expr)(t:TT):Prop:=
 ∀(whole:Sem Z3)(pins:Z9 (ZM×Obj))(s:ZR)(σ:St)(H:Hp)(Q:Bool->Hp->Prop),Inv X pins σ H s->t σ H Q->wpAny (model X.prog X.w) X.A (isTrue e X.env whole) (TP X pins σ Q) X.xe s
def PW.pt(h:PW X e t):PT X e t:=h _
def PA(X:Cx)(es:Z9 Expr)(t:TA):Prop:=
 ∀(pos:Pos)(pins:Z9 (ZM×Obj))(s:ZR)(σ:St)(H:Hp)(Q:Z9 V->Hp->Prop),Inv X pins σ H s->t σ H Q->wpAny (model X.prog X.w) X.A (spliced (backTo pos (starEach es X.env))) (AP X pins σ Q) X.xe s
def PS(X:Cx)(st:Stmt)(t:TS):Prop:=
 ∀(pins:Z9 (ZM×Obj))(s:ZR)(σ:St)(H:Hp)(D:Ends),Inv X pins σ H s->t D σ H->wpAny (model X.prog X.w) X.A (exec st X.env) (SP X pins D) X.xe s
def PSs(X:Cx)(st:Z9 Stmt)(t:TS):Prop:=
 ∀(pins:Z9 (ZM×Obj))(s:ZR)(σ:St)(H:Hp)(D:Ends),Inv X pins σ H s->t D σ H->wpAny (model X.prog X.w) X.A (execs st X.env) (SP X pins D) X.xe s
def thn{α:Type}{t:Sem α}{Q Q':α->ZR->Prop}{Mq:Model}{A:Za}{E:Z3->ZR->Prop}{s:ZR}(h:wpAny Mq A t Q E s)(hQ:∀a s,Q a s->Q' a s):wpAny Mq A t Q' E s:=YL h hQ λ_ _ x=>x
end
end L2
namespace L2
open PySem PySem.Spec PyProof.Rows
variable[Lams]
section
variable{X:Cx}
def u6(i:Nat):TE:=λσ H Q=>∃v,σ[i]?=U (U v)/\Q v H
def tC(v:V):TE:=λ_ H Q=>Q v H
def bA(hN:X.N[i]?=U x)(hv:Vis X.env.scope x)(hd:(x==("__debug__":Str))=Y:=by decide)(HZ:(x==("__classdict__":Str))=Y:=by decide):PE X (.Name x pos) (u6 i):=by
 intro pins s σ H Q I h;obtain⟨v,e,h⟩:=h;obtain⟨m,hn,hl⟩:=I.loc;obtain⟨u,r,l⟩:=hl i x v hN e hv;have fin:EP X pins σ Q u s:=⟨v,H,I,r,h⟩
 rcases l with⟨hk,hm⟩|⟨hk,c,hc,LD⟩;exact wpAny_Name (wpAny_loadName_local I.ok.kind hk hn hm fin) hd;rcases hk with hk|hk;exact wpAny_Name (wpAny_loadName_cell I.ok.kind hk hc LD fin) hd;exact wpAny_Name (wpAny_loadName_free I.ok.kind hk hc LD fin HZ) hd
def sF{i j pos}:PE X (.Constant (.int i) j pos) (tC (.int i)):=λ_ _ _ H _ I h=>wpAny_Constant_int ⟨.int i,H,I.tok _,⟨_,rfl⟩,h⟩
def Cu{b j pos}:PE X (.Constant (.bool b) j pos) (tC (.bl b)):=λ_ _ _ H _ I h=>Constant_bool ⟨.bl b,H,I,rfl,h⟩
def Cd{j pos}:PE X (.Constant .none j pos) (tC .non):=λ_ _ _ H _ I h=>Constant_none ⟨.non,H,I,rfl,h⟩
def Cm{x j pos}:PE X (.Constant (.str x) j pos) (tC (.str x)):=λ_ _ _ H _ I h=>Calls.Constant_str ⟨.str x,H,I.tok _,⟨_,rfl⟩,h⟩
def Gl(X:Cx)(x:Str):Prop:=X.env.kindOf x=U .globalImplicit
def AD(I:Inv X pins σ H s)(hg:Gl X x)(hm:X.mg x=U u)(h:Q u s)(hd:(x==("__debug__":Str))=Y:=by decide):wpAny (model X.prog X.w) X.A (eval (.Name x pos) X.env) Q E s:=
 Calls.Name_function_global I.ok.kind hg (Calls.loadGlobal_global (by rw[I.ok.glob];exact I.mod.glob.keeps I.bk) hm h) hd
def eQ{E:Z3->ZR->Prop}{pos:Pos}{Q:Z3->ZR->Prop}(I:Inv X pins σ H s)(hg:Gl X x)(hm:X.mg x=M)(hv:bootBuiltins x=U u)(h:Q u s)(hn:x≠"__name__":=by decide)(hd:(x==("__debug__":Str))=Y:=by decide):wpAny (model X.prog X.w) X.A (eval (.Name x pos) X.env) Q E s:=by
 obtain⟨mb,h1,h2⟩:=I.mod.blt;exact Calls.Name_function_global I.ok.kind hg (Calls.loadGlobal_builtin (by rw[I.ok.glob];exact I.mod.glob.keeps I.bk) hm (by rw[I.ok.blt];exact h1.keeps I.bk) ((h2 x hn).trans hv) h) hd
variable{a b:Expr}{ta tb:TE}{pos:Pos}
def PC(X:Cx)(op:CmpOp)(a b:Expr)(t:TE):Prop:=
 ∀(pins:Z9 (ZM×Obj))(s:ZR)(σ:St)(H:Hp)(Q:VK),Inv X pins σ H s->t σ H Q->
  wpAny (model X.prog X.w) X.A (eval a X.env) (λv g_=>wpAny (model X.prog X.w) X.A (eval b X.env) (λu a_=>wpAny (model X.prog X.w) X.A (compareOp op v u) (EP X pins σ Q) X.xe a_) X.xe g_) X.xe s
def wv(b:Expr)(h:op≠.In)(h2:op≠.NotIn):behindInMarks op b=Y:=by
 have e1:(op==CmpOp.In)=Y:=by cases op<;>first|rfl|exact absurd rfl h
 have e2:(op==CmpOp.NotIn)=Y:=by cases op<;>first|rfl|exact absurd rfl h2
 cases b<;>simp[behindInMarks,e1,e2]
def tB(t:TE):TT:=λσ H Q=>t σ H λx H1=>∃c,x=.bl c/\Q c H1
def Fo{op:CmpOp}{t:TE}(h:PC X op a b t)(h1:behindInMarks op b=Y:=by first|exact wv _ (by decide) (by decide)|rfl):PT X (.Compare a [op] [b] pos) (tB t):=by
 intro pins s σ H Q I hw;refine wpAny_isTrue_Compare1 (thn (h pins s σ H _ I hw) λv s1 h1=>thn h1 λu s2 h2=>thn h2 λc s3 ⟨x,H1,I1,r1,q1⟩=>?_) h1;obtain⟨d,rfl,q⟩:=q1;cases r1;exact Xy ⟨H1,I1,q⟩
def CD{e:Expr}{t:TE}(h:PE X e t)(he:∀whole,isTrue e X.env whole=(do let v <-whole;standAt e.pos;holding [v] (truthy v)):=by intro _;rfl):PT X e (tB t):=by
 intro pins s σ H Q I hw;refine isTrue_plain (thn (h pins s σ H _ I hw) λv s1 ⟨x,H1,I1,r1,q1⟩=>?_) (he _);obtain⟨d,rfl,q⟩:=q1;cases r1;exact Xy ⟨H1,I1,q⟩
variable{tA N4:TT}{ar:Z9 Expr}
def Hd(t u:TT):TT:=λσ H Q=>t σ H λc H1=>if c=L then u σ H1 Q else Q Y H1
def tOr(t u:TT):TT:=λσ H Q=>t σ H λc H1=>if c=L then Q L H1 else u σ H1 Q
def G4(t:TT):TT:=λσ H Q=>t σ H λc H1=>Q (!c) H1
def yJ(ha:PT X a tA):PW X (.BoolOp .And [a] pos) tA:=by
 intro wh pins s σ H Q I h;refine isTrue_and (thn (ha pins s σ H Q I h) λc s1 e=>?_);cases c with
 |true=>exact isTrue_and_nil e
 |false=>exact e
def CQ(ha:PT X a tA):PW X (.BoolOp .Or [a] pos) tA:=by
 intro wh pins s σ H Q I h;refine isTrue_or (thn (ha pins s σ H Q I h) λc s1 e=>?_);cases c with
 |false=>exact isTrue_or_nil e
 |true=>exact e
def Cp(ha:PT X a tA)(hb:PW X (.BoolOp .And (b::ar) pos) N4):PW X (.BoolOp .And (a::b::ar) pos) (Hd tA N4):=by
 intro wh pins s σ H Q I h;refine isTrue_and (thn (ha pins s σ H _ I h) λc s1 hz=>?_);obtain⟨H1,I1,q1⟩:=hz;cases c with
 |true=>exact hb wh pins s1 σ H1 Q I1 q1
 |false=>exact⟨H1,I1,q1⟩
def DU(ha:PT X a tA)(hb:PW X (.BoolOp .Or (b::ar) pos) N4):PW X (.BoolOp .Or (a::b::ar) pos) (tOr tA N4):=by
 intro wh pins s σ H Q I h;refine isTrue_or (thn (ha pins s σ H _ I h) λc s1 hz=>?_);obtain⟨H1,I1,q1⟩:=hz;cases c with
 |true=>exact⟨H1,I1,q1⟩
 |false=>exact hb wh pins s1 σ H1 Q I1 q1
def C3(ha:PT X a tA):PT X (.UnaryOp .Not a pos) (G4 tA):=by
 intro pins s σ H Q I h;exact isTrue_not (ha pins s σ H (λc H1=>Q (!c) H1) I h)
def tIf(t:TT)(ta tb:TE):TE:=λσ H Q=>t σ H λc H1=>if c=L then ta σ H1 Q else tb σ H1 Q
def wX{c:Expr}(hc:PT X c tA)(ha:PE X a ta)(hb:PE X b tb):PE X (.IfExp c a b pos) (tIf tA ta tb):=by
 intro pins s σ H Q I h;refine wpAny_IfExp (thn (hc pins s σ H _ I h) λd s1 hz=>?_);obtain⟨H1,I1,q1⟩:=hz;cases d with
 |true=>exact ha pins s1 σ H1 Q I1 q1
 |false=>exact hb pins s1 σ H1 Q I1 q1
end
def SqL(K:Z5)(H:Hp)(a:ZM)(xs:Z9 V):Prop:=
 Rd H a (.lst xs)\/
  ∃(o:Obj)(its:Array Z3)(n:Nat),K.lookup a=U o/\o.cls=.type "list"/\o.dict=M/\o.data=.seq its n/\its.size<=sizeLine/\aab xs its.toList
def SqT(K:Z5)(H:Hp)(a:ZM)(xs:Z9 V):Prop:=
 Rd H a (.tup xs)\/
  ∃(o:Obj)(its:Array Z3)(n:Nat),K.lookup a=U o/\o.cls=.type "tuple"/\o.data=.seq its n/\its.size<=sizeLine/\aab xs its.toList
noncomputable def Gj:Z3->Z7 V
 |.none=>U .non
 |.bool b=>U (.bl b)
 |.int i _=>U (.int i)
 |.str x _=>U (.str x)
 |.bytes b _=>U (.byt b)
 |.float b _=>U (.flt b)
 |.ref a=>U (.ref a)
 |.type n=>U (.ty n)
 |_=>M
def RelV.abs(r:RelV x u):Gj u=U x:=by
 cases x with
 |non=>cases r;rfl
 |bl _=>cases r;rfl
 |int _=>obtain⟨t,rfl⟩:=r;rfl
 |str _=>obtain⟨t,rfl⟩:=r;rfl
 |byt _=>obtain⟨t,rfl⟩:=r;rfl
 |flt _=>obtain⟨t,rfl⟩:=r;rfl
 |ref _=>cases r;rfl
 |ty _=>cases r;rfl
theorem RelV.inj(r:RelV x u)(q:RelV y u):x=y:=Z8 (r.abs.symm.trans q.abs)
theorem aab.inj:∀{xs ys:Z9 V}{us:Z9 Z3},aab xs us->aab ys us->xs=ys
 |_,_,_,.nil,.nil=>rfl
 |_,_,_,.cons r t,.cons r' t'=>by rw[r.inj r',aab.inj t t']
section
variable{H:Hp}
def SqL.of{K:Z5}(h:H a=U (.lst xs)):SqL K H a xs:=.inl (.inl h)
def SqT.of{K:Z5}(h:H a=U (.tup xs)):SqT K H a xs:=.inl (.inl h)
def Inv.list(I:Inv X pins σ H s)(h:SqL X.K H a xs):∃its:Z9 Z3,aab xs its/\PlainL s.heap a its.toArray/\xs.length<=sizeLine:=by
 rcases h with h|⟨o,its,n,hk,hc,hd,hs,hz,r⟩;obtain⟨z,its,n,r,e⟩:=h.ok I.hok;exact⟨its,r,⟨_,n,e,rfl,rfl,rfl⟩,z⟩;refine⟨its.toList,r,⟨o,n,I.kIn a o hk,hc,hd,by simpa using hs⟩,?_⟩;have e:=r.length;simp only[Array.length_toList]at e;lia
def Inv.tuple(I:Inv X pins σ H s)(h:SqT X.K H a xs):∃its:Z9 Z3,aab xs its/\IsTup s.heap a its.toArray/\xs.length<=sizeLine:=by
 rcases h with h|⟨o,its,n,hk,hc,hs,hz,r⟩;obtain⟨z,its,r,p⟩:=h.ok I.hok;exact⟨its,r,p,z⟩;refine⟨its.toList,r,⟨o,I.kIn a o hk,hc,n,by simpa using hs⟩,?_⟩;have e:=r.length;simp only[Array.length_toList]at e;lia
def Inv.aaN(I:Inv X pins σ H s)(h:SqL X.K H a xs)(h':SqL X.K H a ys):xs=ys:=by
 obtain⟨its,r,⟨o,n,e,_,_,d⟩,_⟩:=I.list h;obtain⟨its',r',⟨o',n',e',_,_,d'⟩,_⟩:=I.list h';rw[e]at e';obtain rfl:=Z8 e';rw[d]at d';injection d' with d1 _;have:its=its':=by simpa using congrArg Array.toList d1
 subst this;exact r.inj r'
def Inv.aaY(I:Inv X pins σ H s)(h:SqT X.K H a xs)(h':SqT X.K H a ys):xs=ys:=by
 obtain⟨its,r,⟨o,e,_,n,d⟩,_⟩:=I.tuple h;obtain⟨its',r',⟨o',e',_,n',d'⟩,_⟩:=I.tuple h';rw[e]at e';obtain rfl:=Z8 e';rw[d]at d';injection d' with d1 _;have:its=its':=by simpa using congrArg Array.toList d1
 subst this;exact r.inj r'
end
abbrev Cx.aa_(X:Cx)(E:Z3->ZR->Prop):Cx:={X with xe:=E}
abbrev Cx.nox(X:Cx):Cx:=X.aa_ λ_ _=>False
theorem Cx.Ok.aa_{X:Cx}(ok:X.Ok)(E:Z3->ZR->Prop):(X.aa_ E).Ok:=
 ⟨ok.mod,ok.kind,ok.glob,ok.blt,ok.above,ok.inj,ok.has,ok.cab,ok.hd,ok.frames,ok.stk,ok.exf,ok.bs,ok.bsz,ok.ab5,ok.acg,ok.aa8,ok.frf,ok.tabs⟩
def Cx.Ok.aaP{X:Cx}(ok:(X.aa_ E).Ok):X.Ok:=
 ⟨ok.mod,ok.kind,ok.glob,ok.blt,ok.above,ok.inj,ok.has,ok.cab,ok.hd,ok.frames,ok.stk,ok.exf,ok.bs,ok.bsz,ok.ab5,ok.acg,ok.aa8,ok.frf,ok.tabs⟩
section
variable{X:Cx}{pins:Z9 (ZM×Obj)}{σ:St}{H:Hp}{s:ZR}
theorem Inv.aa_(I:Inv X pins σ H s)(E:Z3->ZR->Prop):Inv (X.aa_ E) pins σ H s:=⟨I.ok.aa_ E,I.os,I.bare,I.base,I.loc,I.cell,I.free,I.aaU,I.pin,I.hok,I.len⟩
theorem Inv.aaP(I:Inv (X.aa_ E) pins σ H s):Inv X pins σ H s:=⟨I.ok.aaP,I.os,I.bare,I.base,I.loc,I.cell,I.free,I.aaU,I.pin,I.hok,I.len⟩
theorem SP.aaP{D:Ends}{f:Flow}{s':ZR}(h:SP (X.aa_ E) pins D f s'):SP X pins D f s':=by
 cases f with
 |next=>obtain⟨h_,H',I,q⟩:=h;exact⟨h_,H',I.aaP,q⟩
 |brk=>obtain⟨h_,H',I,q⟩:=h;exact⟨h_,H',I.aaP,q⟩
 |cont=>obtain⟨h_,H',I,q⟩:=h;exact⟨h_,H',I.aaP,q⟩
 |ret u=>obtain⟨v,h_,H',I,r,q⟩:=h;exact⟨v,h_,H',I.aaP,r,q⟩
theorem PE.nox(h:PE X.nox e t):PE X e t:=λpins s σ H Q I hw=>
 YL (h pins s σ H Q (I.aa_ _) hw) (λ_ _ hz=>by obtain⟨v,H',I',r,q⟩:=hz;exact⟨v,H',I'.aaP,r,q⟩) λ_ _ z=>False.elim z
theorem PSs.nox{st:Z9 Stmt}{t:TS}(h:PSs X.nox st t):PSs X st t:=λpins s σ H D I hw=>
 YL (h pins s σ H D (I.aa_ _) hw) (λ_ _ q=>q.aaP) λ_ _ z=>False.elim z
end
section
variable{X:Cx}{st:Stmt}{ar:Z9 Stmt}{t u:TS}{e:Expr}{te:TE}{pos:Pos}
def acB:TS:=λD σ H=>D.nx σ H
def DP(t u:TS):TS:=λD σ H=>t {D with nx:=u D} σ H
def yT:PSs X [] acB:=λ_ _ σ H _ I h=>Wk ⟨σ,H,I,h⟩
def bT(h1:PS X st t)(h2:PSs X ar u):PSs X (st::ar) (DP t u):=by
 intro pins s σ H D I h;refine wpAny_execs_cons (thn (h1 pins s σ H {D with nx:=u D} I h) λf s1 q=>?_);cases f with
 |next=>
  obtain⟨h_,H',I',q⟩:=q;exact h2 pins s1 h_ H' D I' q
 |ret v=>exact q
 |brk=>exact q
 |cont=>exact q
def mP(h1:PS X st t):PSs X [st] t:=by
 intro pins s σ H D I h;refine wpAny_execs_cons (thn (h1 pins s σ H D I h) λf s1 q=>?_);cases f with
 |next=>exact Wk q
 |ret v=>exact q
 |brk=>exact q
 |cont=>exact q
def Inv.quiet(I:Inv X pins σ H s):interactive X.env=Y:=by simp[interactive,I.ok.kind]
def Co(te:TE):TS:=λD σ H=>te σ H λ_ H1=>D.nx σ H1
def me(he:PE X e te)(hs:swapsWith e M pos.line X.env=pure Y:=by rfl):PS X (.Expr e pos) (Co te):=by
 intro pins s σ H D I h;exact wpAny_Expr_any (thn (he pins s σ H _ I h) λv s1 hz=>by obtain⟨x,H1,I1,r1,q1⟩:=hz;exact⟨σ,H1,I1,q1⟩) I.quiet hs
def F8(te:TE):TS:=λD σ H=>te σ H D.rt
def mU(he:PE X e te):PS X (.Return (U e) pos) (F8 te):=by
 intro pins s σ H D I h;exact wpAny_Return_some (thn (he pins s σ H _ I h) λv s1 hz=>by obtain⟨x,H1,I1,r1,q1⟩:=hz;exact⟨x,σ,H1,I1,r1,q1⟩)
def G9(c:TT)(t u:TS):TS:=λD σ H=>c σ H λb H1=>if b=L then t D σ H1 else u D σ H1
def BW{c:Expr}{a b:Z9 Stmt}{tc:TT}(hc:PT X c tc)(ha:PSs X a t)(hb:PSs X b u):PS X (.If c a b pos) (G9 tc t u):=by
 intro pins s σ H D I h;refine wpAny_If (thn (hc pins s σ H _ I h) λd s1 hz=>?_);obtain⟨H1,I1,q1⟩:=hz;cases d with
 |true=>exact ha pins s1 σ H1 D I1 q1
 |false=>exact hb pins s1 σ H1 D I1 q1
end
abbrev TG:=V->St->Hp->(St->Hp->Prop)->Prop
abbrev TGs:=Z9 V->St->Hp->(St->Hp->Prop)->Prop
def PG(X:Cx)(target:Expr)(t:TG):Prop:=
 ∀(pins:Z9 (ZM×Obj))(s:ZR)(σ:St)(H:Hp)(v:V)(u:Z3)(Q:St->Hp->Prop),Inv X pins σ H s->RelV v u->t v σ H Q->
  wpAny (model X.prog X.w) X.A (assign target X.env u) (λ_ s'=>∃h_ H',Inv X pins h_ H' s'/\Q h_ H') X.xe s
def PGs(X:Cx)(ts:Z9 Expr)(t:TGs):Prop:=
 ∀(pins:Z9 (ZM×Obj))(s:ZR)(σ:St)(H:Hp)(vs:Z9 V)(us:Z9 Z3)(Q:St->Hp->Prop),Inv X pins σ H s->aab vs us->t vs σ H Q->
  wpAny (model X.prog X.w) X.A (assignInOrder ((assignEach ts X.env).map (·.2)) us) (λ_ s'=>∃h_ H',Inv X pins h_ H' s'/\Q h_ H') X.xe s
section
variable{X:Cx}{pos:Pos}
def gF(i:Nat):TG:=λv σ H Q=>Q (σ.set i (U v)) H
def mn(hN:X.N.Nodup)(hi:X.N[i]?=U x)(hx:Loc X.env.scope x)(hf:X.fn x=L\/X.env.scope.names.lookup x=U .local:=by first|exact .inl rfl|exact .inr rfl|assumption):PG X (.Name x pos) (gF i):=by
 intro pins s σ H v u Q I r h;exact wpAny_assign_Name (oz I hN hi hx r (λs' I'=>⟨_,H,I',h⟩) hf)
def acO:TGs:=λvs σ H Q=>vs=[]/\Q σ H
def DZ(t:TG)(u:TGs):TGs:=λvs σ H Q=>∃v r,vs=v::r/\t v σ H λh_ H'=>u r h_ H' Q
def zj:PGs X [] acO:=by
 intro pins s σ H vs us Q I r h;obtain⟨e,h⟩:=h;subst e;cases r;exact assignInOrder_nil ⟨σ,H,I,h⟩
def wZ{e:Expr}{es:Z9 Expr}{t:TG}{u:TGs}(h1:PG X e t)(h2:PGs X es u)
  (hs:(assignEach (e::es) X.env).map (·.2)=assign e X.env::(assignEach es X.env).map (·.2):=by rfl):PGs X (e::es) (DZ t u):=by
 intro pins s σ H vs us Q I r h;obtain⟨v,vr,e1,h⟩:=h;subst e1;cases r with
 |cons r rr=>
  rw[hs];refine assignInOrder_cons (thn (h1 pins s σ H _ _ _ I r h) λ_ s1 hz=>?_);obtain⟨KZ,H1,I1,q1⟩:=hz;exact h2 pins s1 KZ H1 _ _ Q I1 rr q1
def G3(K:Z5)(n:Nat)(t:TGs):TG:=λv σ H Q=>∃a xs,v=.ref a/\SqT K H a xs/\xs.length=n/\t xs σ H Q
def Bz(hc:X.calm=L)(h:PGs X es t)(hn:(assignEach es X.env).length=n:=by rfl)(HG:(assignEach es X.env).findIdx? (·.1)=M:=by rfl):PG X (.Tuple es k pos) (G3 X.K n t):=by
 intro pins s σ H v u Q I r hw;obtain⟨a,xs,e1,hq,hl,hw⟩:=hw;subst e1;cases r;obtain⟨its,rv,ht,hz⟩:=I.tuple hq;refine assign_Tuple_tuple (I.ok.hd hc) ht (by simp[hn,<-hl,rv.length]) HG λh' hx=>?_;have I1:Inv X pins σ H {s with heap:=h'}:=I.kept (t':=s.toks) λb o e=>hx b o (Zv (ZQ e)) e;exact h pins _ σ H xs _ Q I1 (by simpa using rv) hw
def zo(te:TE)(g:TG):TS:=λD σ H=>te σ H λx H1=>g x σ H1 D.nx
def Bf{tg e:Expr}{te:TE}{g:TG}(he:PE X e te)(hg:PG X tg g)(hs:swapsWithSole [tg] e pos.line X.env=pure Y:=by rfl)(hw:swappedStores [tg] e X.env=pure M:=by rfl)
  (h1:(assignEach [tg] X.env).map (·.2)=[assign tg X.env]:=by rfl):PS X (.Assign [tg] e pos) (zo te g):=by
 intro pins s σ H D I h;refine wpAny_Assign_stores (thn (he pins s σ H _ I h) λv s1 ⟨x,H1,I1,r1,q1⟩=>?_) hs hw;rw[h1];exact thn (hg pins s1 σ H1 x v _ I1 r1 q1) λ_ s2 q=>q
def iu{i:Nat}{x:Str}{e:Expr}{te:TE}{pos':Pos}(hN:X.N.Nodup)(hi:X.N[i]?=U x)(hx:Loc X.env.scope x)(he:PE X e te)(hs:swapsWith e (U (.Name x pos')) pos.line X.env=pure Y:=by rfl)(hf:X.fn x=L\/X.env.scope.names.lookup x=U .local:=by first|exact .inl rfl|exact .inr rfl|assumption):
  PS X (.Assign [.Name x pos'] e pos) (zo te (gF i)):=by
 intro pins s σ H D I h;refine wpAny_Assign_Name (thn (he pins s σ H _ I h) λv s1 ⟨y,H1,I1,r1,q1⟩=>?_) hs;exact oz I1 hN hi hx r1 (λs2 I2=>⟨_,H1,I2,q1⟩) hf
end
section
variable{X:Cx}
def CP(c:TT)(tb:TS):TS:=λD σ H=>∃W:Nat->St->Hp->Prop,(∃m,W m σ H)/\∀m σ H,W m σ H->
 c σ H λb H1=>if b=L then ∃N:St->Hp->Prop,(∀h_ H',N h_ H'->∃m',m'<m/\W m' h_ H')/\tb {D with nx:=N,ct:=N,bk:=D.nx} σ H1 else D.nx σ H1
def wY{c:Expr}{body:Z9 Stmt}{tc:TT}{tb:TS}(hp:PassesOwn (model X.prog X.w) X.A X.env X.xe)(hc:PT X c tc)(hb:PSs X body tb):PS X (.While c body [] pos) (CP tc tb):=by
 intro pins s σ H D I h;obtain⟨W,⟨m0,w0⟩,turn⟩:=h;refine wpAny_While (codeAny_whileLoop (λn s'=>∃h_ H',Inv X pins h_ H' s'/\W n h_ H') ?_ m0 ⟨σ,H,I,w0⟩);intro n s1 hz;obtain⟨KZ,H1,I1,w1⟩:=hz;refine XD hp (thn (hc pins s1 KZ H1 _ I1 (turn n KZ H1 w1)) λb s2 hz=>?_);obtain⟨H2,I2,q2⟩:=hz;cases b with
 |true=>
  obtain⟨N,hN,q2⟩:=q2;rw[ZO rfl];refine XD hp (thn (hb pins s2 KZ H2 _ I2 q2) λf s3 q3=>?_);cases f with
  |next=>
   obtain⟨Im,H3,I3,n3⟩:=q3;obtain⟨m',hm,w3⟩:=hN Im H3 n3;exact⟨m',hm,Im,H3,I3,w3⟩
  |cont=>
   obtain⟨Im,H3,I3,n3⟩:=q3;obtain⟨m',hm,w3⟩:=hN Im H3 n3;exact⟨m',hm,Im,H3,I3,w3⟩
  |brk=>exact q3
  |ret v=>exact q3
 |false=>
  rw[ZJ Zh];exact Wk ⟨KZ,H2,I2,q2⟩
end
structure It where
 go:Nat->Hp->Prop
 yld:Nat->Hp->V->Hp->Prop
 stop:Nat->Hp->Prop
def eU(X:Cx)(pins:Z9 (ZM×Obj))(H:Hp)(b:ZM):Prop:=
 H b=M/\b≠X.env.locals/\b∉X.fs/\(b∈X.ex\/X.n_.z<=b)/\(∀x c,X.env.cells.lookup x=U c->c≠b)/\∀p∈X.pn++pins,p.1≠b
def Inv.abj(I:Inv X pins σ H s)(hb:s.z<=b)(hn:H' b=M):eU X pins H' b:=by
 refine⟨hn,Nat.ne_of_gt (ZD I.lt hb),I.acq hb,.inr (Zn I.sz hb),λx c e z=>?_,λp hp z=>?_⟩;obtain⟨v,q⟩:=I.cell x c e;exact absurd (ZD q.lt (by rw[z];exact hb)) (Zd _);exact absurd (ZD (ZQ (I.pin p hp).1) (by rw[z];exact hb)) (Zd _)
structure Turn (P:YX)(w:YK)(K:Z5)(tg:Expr)(J:It)(fp:List ZM)(it:ZM)(tn:Nat->Heap->Prop):Prop where
 mem:it∈fp
 obj:∀i h,tn i h->∀b∈fp,∃o,h.get? b=some o/\∀v,o.data≠.cell v
 keep:∀i h h',tn i h->(∀b∈fp,∀o,h.get? b=some o->h'.get? b=some o)->tn i h'
 item:∀(X:Cx),X.prog=P->X.w=w->X.K=K->X.calm=true->∀(i:Nat)(pins:List (ZM×Obj))(s:ZR)(σ:St)(H:Hp)(E:Z3->ZR->Prop),Inv X pins σ H s->(∀b∈fp,eU X pins H b)->tn i s.heap->J.go i H->
  wpAny (model P w) X.A (pyNext (.ref it)) (λr s1=>∃u,r=some u/\
   wpAny (model P w) X.A (letOwnedTupleGo tg (.ref it) u) (λ_ s2=>∃x H',Inv X pins σ H' s2/\RelV x u/\J.yld i H x H'/\tn (i+1) s2.heap/\∀b∈fp,H' b=none) E s1) E s
 done:∀(X:Cx),X.prog=P->X.w=w->X.K=K->X.calm=true->∀(i:Nat)(pins:List (ZM×Obj))(s:ZR)(σ:St)(H:Hp)(E:Z3->ZR->Prop),Inv X pins σ H s->(∀b∈fp,eU X pins H b)->tn i s.heap->J.stop i H->
  wpAny (model P w) X.A (pyNext (.ref it)) (λr s1=>r=none/\Inv X pins σ H s1) E s
 self:∀(A:Za)(i:Nat)(s:ZR)(Q:Z3->ZR->Prop)(E:Z3->ZR->Prop),tn i s.heap->Q (.ref it) s->wpAny (model P w) A (pyIter (.ref it)) Q E s
abbrev TI:=St->Hp->(It->Hp->Prop)->Prop
def PIE(X:Cx)(pins:Z9 (ZM×Obj))(σ:St)(tg:Expr)(R:It->Hp->Prop)(Oh:Z3)(s2:ZR):Prop:=
 ∃(it:ZM)(fp:Z9 ZM)(tn:Nat->Heap->Prop)(J:It)(H':Hp),Oh=.ref it/\Inv X pins σ H' s2/\Turn X.prog X.w X.K tg J fp it tn/\tn 0 s2.heap/\(∀b∈fp,eU X pins H' b)/\R J H'
def PI(X:Cx)(tg iter:Expr)(wi:TI):Prop:=
 ∀(pins:Z9 (ZM×Obj))(s:ZR)(σ:St)(H:Hp)(R:It->Hp->Prop),Inv X pins σ H s->wi σ H R->
  wpAny (model X.prog X.w) X.A (eval iter X.env) (λv s1=>wpAny (model X.prog X.w) X.A (pyIter v) (PIE X pins σ tg R) X.xe s1) X.xe s
def vW(ho:s.heap.get? it=U o)(hc:o.cls=.type n)(hd:o.data=.fields vs)(hn:["enumerate","zip","dict_itemiterator","dict_reverseitemiterator","odict_iterator","itertools.zip_longest","itertools.pairwise"].contains n=Y)(hQ:Q () s):wpAny Mq A (letOwnedTupleGo tg (.ref it) u) Q E s:=by
 unfold letOwnedTupleGo;cases tg<;>first
  |exact Z6 hQ
  |(cases u<;>first
    |exact Z6 hQ
    |(refine Z_ (wpAny_load ho ?_)
      rw[hc,hd];show wpAny Mq A (if(["enumerate","zip","dict_itemiterator","dict_reverseitemiterator","odict_iterator","itertools.zip_longest","itertools.pairwise"].contains n&&vs[0]?==U (rawInt _))=L then _ else _) Q E s;rw[ZJ (by intro h;rw[hn,Bool.false_and]at h;trivial)];exact Z6 hQ))
noncomputable def Itl(K:Z5)(a:ZM):It:=
 ⟨λi H=>∃xs x,SqL K H a xs/\xs[i]?=U x,λi H x H'=>H'=H/\∀xs,SqL K H a xs->xs[i]?=U x,λi H=>∃xs,SqL K H a xs/\xs.length<=i⟩
noncomputable def Itt(K:Z5)(a:ZM):It:=
 ⟨λi H=>∃xs x,SqT K H a xs/\xs[i]?=U x,λi H x H'=>H'=H/\∀xs,SqT K H a xs->xs[i]?=U x,λi H=>∃xs,SqT K H a xs/\xs.length<=i⟩
def Itr(lo:Int)(n:Nat):It:=⟨λi _=>i<n,λi H x H'=>H'=H/\x=.int (lo+i),λi _=>n<=i⟩
def qZ{P:YX}{w:YK}{K:Z5}{tg:Expr}(a it:ZM):Turn P w K tg (Itl K a) [it] it (λi h=>h.IsListIter it a i) where
 mem:=by simp
 obj:=λi h st b hb=>by
  have e:b=it:=by simpa using hb
  subst e;obtain⟨o,e,c,d⟩:=st;exact⟨o,e,λv z=>by rw[d]at z;cases z⟩
 keep:=λi h h' st k=>st.at λo e=>k it (by simp) o e
 item:=by
  intro X hP hw hK hc i pins s σ H E I hf st hg;subst hP hw hK;obtain⟨xs,x,hq,hx⟩:=hg;obtain⟨its,rv,p,hz⟩:=I.list hq;obtain⟨u,hu,ru⟩:=rv.get hx;obtain⟨f0,f1,f2,f3,f4,f5⟩:=hf it (by simp);refine wpAny_pyNext_list_item st p.isList (x:=u) (by simpa using hu) λh' e_ sb=>?_;have I1:Inv X pins σ H {s with heap:=h'}:=I.turned (t':=s.toks) (λb o hb e=>(sb.2 b hb).trans e) f0 f1 f3 f4 f5;obtain⟨o,e,c,d⟩:=id e_;exact⟨u,rfl,vW (s:={s with heap:=h'}) e c d (by decide) ⟨x,H,I1,ru,⟨rfl,λys hy=>by rw[I.aaN hy hq];exact hx⟩,e_,λb hb=>(hf b hb).1⟩⟩
 done:=by
  intro X hP hw hK hc i pins s σ H E I hf st hg;subst hP hw hK;obtain⟨xs,hq,hx⟩:=hg;obtain⟨its,rv,p,hz⟩:=I.list hq;obtain⟨f0,f1,f2,f3,f4,f5⟩:=hf it (by simp);have hl:=rv.length;exact wpAny_pyNext_list_end (I.ok.hd hc) st p.isList (by simp;lia) λh' eb=>⟨rfl,I.turned (t':=s.toks) (λb o hb e=>eb b o hb e) f0 f1 f3 f4 f5⟩
 self:=λ_ _ _ _ _ st h=>wpAny_pyIter_listiter st h
def qb{P:YX}{w:YK}{K:Z5}{tg:Expr}(a it:ZM):Turn P w K tg (Itt K a) [it] it (λi h=>h.IsTupleIter it a i) where
 mem:=by simp
 obj:=λi h st b hb=>by
  have e:b=it:=by simpa using hb
  subst e;obtain⟨o,e,c,d⟩:=st;exact⟨o,e,λv z=>by rw[d]at z;cases z⟩
 keep:=λi h h' st k=>st.at λo e=>k it (by simp) o e
 item:=by
  intro X hP hw hK hc i pins s σ H E I hf st hg;subst hP hw hK;obtain⟨xs,x,hq,hx⟩:=hg;obtain⟨its,rv,p,hz⟩:=I.tuple hq;obtain⟨u,hu,ru⟩:=rv.get hx;obtain⟨f0,f1,f2,f3,f4,f5⟩:=hf it (by simp);refine wpAny_pyNext_tuple_item st (show s.heap.IsTuple a its.toArray from p) (x:=u) (by simpa using hu) λh' e_ sb=>?_;have I1:Inv X pins σ H {s with heap:=h'}:=I.turned (t':=s.toks) (λb o hb e=>(sb.2 b hb).trans e) f0 f1 f3 f4 f5;obtain⟨o,e,c,d⟩:=id e_;exact⟨u,rfl,vW (s:={s with heap:=h'}) e c d (by decide) ⟨x,H,I1,ru,⟨rfl,λys hy=>by rw[I.aaY hy hq];exact hx⟩,e_,λb hb=>(hf b hb).1⟩⟩
 done:=by
  intro X hP hw hK hc i pins s σ H E I hf st hg;subst hP hw hK;obtain⟨xs,hq,hx⟩:=hg;obtain⟨its,rv,p,hz⟩:=I.tuple hq;obtain⟨f0,f1,f2,f3,f4,f5⟩:=hf it (by simp);have hl:=rv.length;exact wpAny_pyNext_tuple_end (I.ok.hd hc) st (show s.heap.IsTuple a its.toArray from p) (by simp;lia) λh' eb=>⟨rfl,I.turned (t':=s.toks) (λb o hb e=>eb b o hb e) f0 f1 f3 f4 f5⟩
 self:=λ_ _ _ _ _ st h=>wpAny_pyIter_tupleiter st h
def qI{P:YX}{w:YK}{K:Z5}{tg:Expr}(it:ZM)(lo:Int)(n:Nat):Turn P w K tg (Itr lo n) [it] it (λi h=>IsRangeIter h it (lo+(i:Nat)*1) ((n:Int) - (i:Nat)) 1) where
 mem:=by simp
 obj:=λi h st b hb=>by
  have e:b=it:=by simpa using hb
  subst e;exact⟨_,st,λv z=>by
   have z':Data.fields _=Data.cell v:=z;cases z'⟩
 keep:=λi h h' st k=>k it (by simp) _ st
 item:=by
  intro X hP hw hK hc i pins s σ H E I hf st hg;subst hP hw hK;obtain⟨f0,f1,f2,f3,f4,f5⟩:=hf it (by simp);have W:=Walks.range (prog:=X.prog) (w:=X.w) (I.ok.hd hc) it lo 1 n;refine W.item i s _ _ hg st λv h' tk hv e_ kk=>?_;obtain⟨t,rfl⟩:=hv;have I1:Inv X pins σ H {s with heap:=h',toks:=tk}:=I.turned (λb o hb e=>kk b o (by simpa using hb) e) f0 f1 f3 f4 f5;refine⟨_,rfl,vW (s:={s with heap:=h',toks:=tk}) (n:="range_iterator") e_ rfl rfl (by decide) ⟨.int (lo+i),H,I1,⟨t,?_⟩,⟨rfl,rfl⟩,e_,λb hb=>(hf b hb).1⟩⟩;rw[Int.mul_one]
 done:=by
  intro X hP hw hK hc i pins s σ H E I hf st hg;subst hP hw hK;obtain⟨f0,f1,f2,f3,f4,f5⟩:=hf it (by simp);exact wpAny_pyNext_range_end (I.ok.hd hc) st (by have:n<=i:=hg;lia) λh' eb=>⟨rfl,I.turned (t':=s.toks) (λb o hb e=>eb b o hb e) f0 f1 f3 f4 f5⟩
 self:=λ_ _ _ _ _ st h=>wpAny_pyIter_rangeiter st h
section
variable{X:Cx}
def B2(K:Z5)(tl:TE):TI:=λσ H R=>tl σ H λx H1=>∃a,x=.ref a/\(∃xs,SqL K H1 a xs)/\R (Itl K a) H1
def GD(K:Z5)(tl:TE):TI:=λσ H R=>tl σ H λx H1=>∃a,x=.ref a/\(∃xs,SqT K H1 a xs)/\R (Itt K a) H1
def rQ{l:Expr}{tl:TE}(hl:PE X l tl):PI X tg l (B2 X.K tl):=by
 intro pins s σ H R I h;refine thn (hl pins s σ H _ I h) λv s1 hz=>?_;obtain⟨x,H1,I1,r1,q1⟩:=hz;obtain⟨a,e,⟨xs,hq⟩,q⟩:=q1;subst e;cases r1;obtain⟨its,rv,p,hz⟩:=I1.list hq;refine Xh p.isList ?_;refine⟨s1.z,[s1.z],_,_,H1,rfl,I1.kept (t':=s1.toks) λb o e=>Z4 _ e,qZ a _,⟨_,ZN _ rfl,rfl,rfl⟩,λb hb=>?_,q⟩;have e:b=s1.z:=by simpa using hb
 subst e;exact I1.abj (ZU _) (I1.hok.fresh (ZU _))
def Bx{l:Expr}{tl:TE}(hl:PE X l tl):PI X tg l (GD X.K tl):=by
 intro pins s σ H R I h;refine thn (hl pins s σ H _ I h) λv s1 hz=>?_;obtain⟨x,H1,I1,r1,q1⟩:=hz;obtain⟨a,e,⟨xs,hq⟩,q⟩:=q1;subst e;cases r1;obtain⟨its,rv,p,hz⟩:=I1.tuple hq;refine wpAny_pyIter_tuple (show s1.heap.IsTuple a its.toArray from p) ?_;refine⟨s1.z,[s1.z],_,_,H1,rfl,I1.kept (t':=s1.toks) λb o e=>Z4 _ e,qb a _,⟨_,ZN _ rfl,rfl,rfl⟩,λb hb=>?_,q⟩;have e:b=s1.z:=by simpa using hb
 subst e;exact I1.abj (ZU _) (I1.hok.fresh (ZU _))
def wg{R:It->Hp->Prop}{lo hi:Int}{tk:Nat}(I:Inv X pins σ H s)(h1: -(2 ^ 62)<=lo)(h2:lo<2 ^ 62)(h3: -(2 ^ 62)<=hi)(h4:hi<2 ^ 62)(q:R (Itr lo (hi - lo).toNat) H):wpAny (model X.prog X.w) X.A (pyIter (.ref s.z)) (PIE X pins σ tg R) E {s with heap:=s.heap.push {cls:=.type "range",data:=.fields #[.int lo t,.int hi u,.int 1 v]},toks:=tk}:=by
 refine wpAny_pyIter_range (IsRange.new ..) (small_one h1 h2 h3 h4) ?_;have I1:Inv X pins σ H {s with heap:=s.heap.push {cls:=.type "range",data:=.fields #[.int lo t,.int hi u,.int 1 v]},toks:=tk}:=I.kept λb o e=>Z4 _ e;refine⟨(s.heap.push {cls:=.type "range",data:=.fields #[.int lo t,.int hi u,.int 1 v]}).objs.size,[(s.heap.push {cls:=.type "range",data:=.fields #[.int lo t,.int hi u,.int 1 v]}).objs.size],_,_,H,rfl,
  I1.kept (t':=tk) λb o e=>Z4 _ e,qI _ lo (hi - lo).toNat,?_,λb hb=>?_,q⟩
 .have e1:lo+((0:Nat):Int)*1=lo:=by simp
  have e2:(((hi - lo).toNat:Nat):Int) - ((0:Nat):Int)=Builtin.Range.rangeSize lo hi 1:=by rw[rangeSize_one];split<;>lia
  show IsRangeIter _ _ (lo+((0:Nat):Int)*1) ((((hi - lo).toNat:Nat):Int) - ((0:Nat):Int)) 1;rw[e1,e2];exact ZN _ rfl
 have e:b=(s.heap.push {cls:=.type "range",data:=.fields #[.int lo t,.int hi u,.int 1 v]}).objs.size:=by simpa using hb
 subst e;exact I1.abj (ZU _) (I1.hok.fresh (ZU _))
def DD(ta:TA):TI:=λσ H R=>ta σ H λvs H1=>∃j:Int,vs=[.int j]/\ -(2 ^ 62)<=j/\j<2 ^ 62/\R (Itr 0 j.toNat) H1
def rf{a:Expr}{ta:TA}{p pos:Pos}(hg:Gl X "range")(hm:X.mg "range"=M)(ha:PA X [a] ta)(hs:starEach [a] X.env=[(Y,eval a X.env)]:=by rfl):PI X tg (.Call (.Name "range" p) [a] [] pos) (DD ta):=by
 intro pins s σ H R I h;refine Call_ (eQ I hg hm boot_range (Yn (thn (ha pos pins s σ H _ I h) λus s1 ⟨vs,H1,I1,r1,q1⟩=>?_) hs rfl));obtain⟨j,e,q1,q2,q⟩:=q1;subst e;cases r1 with
 |cons r rr=>
  cases rr;obtain⟨t,rfl⟩:=r;exact call_range_1 (wg I1 (by lia) (by lia) q1 q2 (by simpa using q))
def G7(wi:TI)(g:TG)(tb:TS):TS:=λD σ H=>wi σ H λJ H1=>∃W:Nat->Nat->St->Hp->Prop,(∃m,W 0 m σ H1)/\∀i m σ H,W i m σ H->
 (J.stop i H/\D.nx σ H)\/(J.go i H/\∃N:St->Hp->Prop,(∀h_ H',N h_ H'->∃m',m'<m/\W (i+1) m' h_ H')/\∀x H',J.yld i H x H'->g x σ H' λIo H2=>tb {D with nx:=N,ct:=N,bk:=D.nx} Io H2)
def kM(fp:Z9 ZM)(h:Heap):Z9 (ZM×Obj):=fp.filterMap λb=>(h.get? b).map λo=>(b,o)
def da(hb:b∈fp)(e:h.get? b=U o):(b,o)∈kM fp h:=XM.mpr ⟨b,hb,by rw[e];rfl⟩
def uC(hp:p∈kM fp h):p.1∈fp/\h.get? p.1=U p.2:=by
 obtain⟨b,hb,e⟩:=XM.mp hp;cases q:h.get? b with
 |none=>rw[q]at e;trivial
 |some o=>
  rw[q]at e;have e':(b,o)=p:=Z8 e;subst e';exact⟨hb,q⟩
def Inv.pinned(I:Inv X pins σ H s)(hf:∀b∈fp,eU X pins H b)(ho:∀b∈fp,∃o,s.heap.get? b=U o/\∀v,o.data≠.cell v):Inv X (pins++kM fp s.heap) σ H s:=
 I.aaL λp hp=>(Zt.mp hp).elim (λz=>I.pin p (ZI _ z)) λz=>by
  obtain⟨hb,e⟩:=uC z;obtain⟨f0,f1,f2,_⟩:=hf p.1 hb;obtain⟨o,e',d⟩:=ho p.1 hb;rw[e]at e';obtain rfl:=Z8 e';exact⟨e,f0,f1,f2,d⟩
def Inv.aaV(I:Inv X (pins++pl) σ H s):Inv X pins σ H s:=I.aaL λp hp=>I.pin p (ZI _ (YA _ hp))
def yp{iter:Expr}{body:Z9 Stmt}{wi:TI}{g:TG}{tb:TS}{pos:Pos}(hp:PassesOwn (model X.prog X.w) X.A X.env X.xe)(hc:X.calm=L)(hi:PI X tg iter wi)(hg:PG X tg g)(hb:PSs X body tb)
  (hs:∀x,foldedSetIterable iter X.env x=pure x:=by intro _;rfl):PS X (.For tg iter body [] pos) (G7 wi g tb):=by
 intro pins s σ H D I h;refine wpAny_For (thn (hi pins s σ H _ I h) λv s1 h1=>thn h1 λOh s2 h2=>?_) hs;obtain⟨it,fp,tn,J,H2,e,I2,T,MX,f2,W,⟨m0,w0⟩,turn⟩:=h2;subst e;have Jj:∀{H':Hp},(∀b∈fp,H' b=M)->∀b∈fp,eU X pins H' b:=λhn b hb=>⟨hn b hb,(f2 b hb).2⟩
 refine codeAny_forLoop_any (λn s'=>∃i h_ H',Inv X pins h_ H' s'/\tn i s'.heap/\(∀b∈fp,H' b=M)/\W i n h_ H') ?_ m0 ⟨0,σ,H2,I2,MX,λb hb=>(f2 b hb).1,w0⟩;intro n s3 hz;obtain⟨i,Im,H3,I3,Q5,Sv,w3⟩:=hz;rcases turn i n Im H3 w3 with⟨stop,qn⟩|⟨go,N,hN,step⟩
 .refine XD hp (thn (T.done X rfl rfl rfl hc i pins s3 Im H3 X.xe I3 (Jj Sv) Q5 stop) λr s4 hz=>?_)
  obtain⟨hr,I4⟩:=hz;subst hr;exact Wk ⟨Im,H3,I4,qn⟩
 .refine XD hp (thn (T.item X rfl rfl rfl hc i pins s3 Im H3 X.xe I3 (Jj Sv) Q5 go) λr s4 hz=>?_)
  obtain⟨u,hr,h4⟩:=hz;subst hr;refine XD hp (thn h4 λ_ s5 hz=>?_);obtain⟨x,H5,I5,r5,y5,OZ,Vh⟩:=hz;have VI:=I5.pinned (Jj Vh) (T.obj _ _ OZ);refine XD hp (thn (hg _ s5 Im H5 x u _ VI r5 (step x H5 y5)) λ_ s6 hz=>?_);obtain⟨MA,H6,I6,q6⟩:=hz;refine XD hp (thn (hb _ s6 MA H6 _ I6 q6) λf s7 q7=>?_);have again:∀{Kd:St}{H7:Hp},Inv X (pins++kM fp s5.heap) Kd H7 s7->N Kd H7->∃m,m<n/\∃i h_ H',Inv X pins h_ H' s7/\tn i s7.heap/\(∀b∈fp,H' b=M)/\W i m h_ H':=λ{Kd H7} I7 n7=>by
   obtain⟨m',hm,w7⟩:=hN Kd H7 n7;refine⟨m',hm,i+1,Kd,H7,I7.aaV,T.keep _ _ _ OZ λb hb o e=>(I7.pin (b,o) (ZI _ (ZI _ (da hb e)))).1,λb hb=>?_,w7⟩;obtain⟨o,e,d⟩:=T.obj _ _ OZ b hb;exact(I7.pin (b,o) (ZI _ (ZI _ (da hb e)))).2.1
  cases f with
  |next=>obtain⟨Kd,H7,I7,n7⟩:=q7;exact again I7 n7
  |cont=>obtain⟨Kd,H7,I7,n7⟩:=q7;exact again I7 n7
  |brk=>obtain⟨Kd,H7,I7,q7⟩:=q7;exact⟨Kd,H7,I7.aaV,q7⟩
  |ret v=>obtain⟨x7,Kd,H7,I7,r7,q7⟩:=q7;exact⟨x7,Kd,H7,I7.aaV,r7,q7⟩
end
abbrev R2:=V->V->Hp->VK->Prop
def OpR(X:Cx)(f:Z3->Z3->Sem Z3)(r:R2):Prop:=
 ∀(pins:Z9 (ZM×Obj))(s:ZR)(σ:St)(H:Hp)(x y:V)(v u:Z3)(Q:VK),Inv X pins σ H s->RelV x v->RelV y u->r x y H Q->
  wpAny (model X.prog X.w) X.A (f v u) (EP X pins σ Q) X.xe s
def ff(X:Cx)(f:Z3)(r:Z9 V->Hp->VK->Prop):Prop:=
 ∀(pins:Z9 (ZM×Obj))(s:ZR)(σ:St)(H:Hp)(xs:Z9 V)(us:Z9 Z3)(Q:VK),Inv X pins σ H s->aab xs us->r xs H Q->
  wpAny (model X.prog X.w) X.A (call f us) (EP X pins σ Q) X.xe s
def Hq(X:Cx)(r:V->Hp->(Bool->Hp->Prop)->Prop):Prop:=
 ∀(pins:Z9 (ZM×Obj))(s:ZR)(σ:St)(H:Hp)(x:V)(v:Z3)(Q:Bool->Hp->Prop),Inv X pins σ H s->RelV x v->r x H Q->
  wpAny (model X.prog X.w) X.A (truthy v) (TP X pins σ Q) X.xe s
def tOp(r:R2)(ta tb:TE):TE:=λσ H Q=>ta σ H λx H1=>tb σ H1 λy H2=>r x y H2 Q
def rI(C:Int->Int->Prop)(g:Int->Int->V):R2:=λx y H Q=>∃i j,x=.int i/\y=.int j/\C i j/\Q (g i j) H
def rI0(g:Int->Int->V):R2:=λx y H Q=>∃i j,x=.int i/\y=.int j/\Q (g i j) H
section
variable{X:Cx}
def EX(ha:PE X a ta)(hb:PE X b tb){pins:Z9 (ZM×Obj)}{s:ZR}{σ:St}{H:Hp}{R:V->V->Hp->Prop}(I:Inv X pins σ H s)
  (h:ta σ H λx H1=>tb σ H1 λy H2=>R x y H2) {Q:Z3->ZR->Prop}{f:Z3->Z3->Sem Z3}
  (hf:∀v u s2 x y H2,Inv X pins σ H2 s2->RelV x v->RelV y u->R x y H2->wpAny (model X.prog X.w) X.A (f v u) Q X.xe s2):
  wpAny (model X.prog X.w) X.A (eval a X.env) (λv g_=>wpAny (model X.prog X.w) X.A (eval b X.env) (λu a_=>wpAny (model X.prog X.w) X.A (f v u) Q X.xe a_) X.xe g_) X.xe s:=by
 refine thn (ha pins s σ H _ I h) λv s1 hz=>?_;obtain⟨x,H1,I1,r1,q1⟩:=hz;refine thn (hb pins s1 σ H1 _ I1 q1) λu s2 hz=>?_;obtain⟨y,H2,I2,r2,q2⟩:=hz;exact hf v u s2 x y H2 I2 r1 r2 q2
def v8(ho:OpR X (binaryOp op) r)(ha:PE X a ta)(hb:PE X b tb):PE X (.BinOp a op b pos) (tOp r ta tb):=by
 intro pins s σ H Q I h;exact wpAny_BinOp (EX ha hb I h λv u s2 x y H2 I2 rx ry q=>ho pins s2 σ H2 x y v u Q I2 rx ry q)
def opI{f:Z3->Z3->Sem Z3}{C:Int->Int->Prop}{g:Int->Int->Int}(rule:∀(i j:Int)(t u:Tok)(s:ZR)(Q:Z3->ZR->Prop)(E:Z3->ZR->Prop),C i j->Q (.int (g i j) s.toks) {s with toks:=s.toks+1}->wpAny (model X.prog X.w) X.A (f (.int i t) (.int j u)) Q E s):
  OpR X f (rI C λi j=>.int (g i j)):=by
 intro pins s σ H x y v u Q I rx ry h;obtain⟨i,j,rfl,rfl,hc,q⟩:=h;obtain⟨t,rfl⟩:=rx;obtain⟨t',rfl⟩:=ry;exact rule i j t t' s _ _ hc ⟨.int (g i j),H,I.tok _,⟨_,rfl⟩,q⟩
def Fc{f:Z3->Z3->Sem Z3}{g:Int->Int->Int}(rule:∀(i j:Int)(t u:Tok)(s:ZR)(Q:Z3->ZR->Prop)(E:Z3->ZR->Prop),Q (.int (g i j) s.toks) {s with toks:=s.toks+1}->wpAny (model X.prog X.w) X.A (f (.int i t) (.int j u)) Q E s):
  OpR X f (rI0 λi j=>.int (g i j)):=by
 intro pins s σ H x y v u Q I rx ry h;obtain⟨i,j,rfl,rfl,q⟩:=h;obtain⟨t,rfl⟩:=rx;obtain⟨t',rfl⟩:=ry;exact rule i j t t' s _ _ ⟨.int (g i j),H,I.tok _,⟨_,rfl⟩,q⟩
def Di{f:Z3->Z3->Sem Z3}{g:Int->Int->Bool}(rule:∀(i j:Int)(t u:Tok)(s:ZR)(Q:Z3->ZR->Prop)(E:Z3->ZR->Prop),Q (.bool (g i j)) s->wpAny (model X.prog X.w) X.A (f (.int i t) (.int j u)) Q E s):
  OpR X f (rI0 λi j=>.bl (g i j)):=by
 intro pins s σ H x y v u Q I rx ry h;obtain⟨i,j,rfl,rfl,q⟩:=h;obtain⟨t,rfl⟩:=rx;obtain⟨t',rfl⟩:=ry;exact rule i j t t' s _ _ ⟨.bl (g i j),H,I,rfl,q⟩
def Hb(i j:Int):Prop:=0<j/\j<1073741824
def acx(i j:Int):Prop:=(-(2 ^ 64)<i/\i<2 ^ 64)\/(-(2 ^ 64)<j/\j<2 ^ 64)
def acx.ok(h:acx i j):IntMulOk i j:=by
 rcases h with⟨h1,h2⟩|⟨h1,h2⟩;exact .of_left (intBits_le_64 h1 h2);exact .of_right (intBits_le_64 h1 h2)
def Ca:OpR X (binaryOp .Add) (rI0 λi j=>.int (i+j)):=Fc λ_ _ _ _ _ _ _ q=>add_int q
def Bw:OpR X (binaryOp .Sub) (rI0 λi j=>.int (i - j)):=Fc λ_ _ _ _ _ _ _ q=>sub_int q
def Bn:OpR X (binaryOp .Mult) (rI acx λi j=>.int (i*j)):=opI λ_ _ _ _ _ _ _ hc q=>mul_int q hc.ok
def Aj:OpR X (binaryOp .FloorDiv) (rI Hb λi j=>.int (i / j)):=opI λi j _ _ _ _ _ hc q=>by
 have h1:(0:Int)<j:=hc.1;have h2:j<1073741824:=hc.2;exact floordiv_int (by lia) (by rw[Int.fdiv_eq_ediv_of_nonneg i (by lia)];exact q) (.inl (PyProof.noPylong_small (by lia)))
def CT:OpR X (binaryOp .Mod) (rI (λ_ j=>0<j) λi j=>.int (i%j)):=opI λi j _ _ _ _ _ hc q=>by
 have h1:(0:Int)<j:=hc;exact mod_int' (by lia) (by rw[Int.fmod_eq_emod_of_nonneg i (by lia)];exact q)
end
section
variable{b c:Expr}
def Bb(I:Inv X pins σ H s)(q:Q (.bl k) H)(e:k=k'):EP X pins σ Q (.bool k') s:=by
 subst e;exact⟨.bl k,H,I,rfl,q⟩
def DN:OpR X (compareOp .Lt) (rI0 λi j=>.bl (decide (i<j))):=Di λ_ _ _ _ _ _ _ q=>lt_int q
def Ev:OpR X (compareOp .LtE) (rI0 λi j=>.bl (decide (i<=j))):=Di λ_ _ _ _ _ _ _ q=>le_int q
def Eb:OpR X (compareOp .Gt) (rI0 λi j=>.bl (decide (j<i))):=Di λ_ _ _ _ _ _ _ q=>gt_int q
def DM:OpR X (compareOp .GtE) (rI0 λi j=>.bl (decide (j<=i))):=Di λ_ _ _ _ _ _ _ q=>ge_int q
def zM:OpR X (compareOp .IsNot) (λx y H Q=>y=.non/\Q (.bl (!decide (x=.non))) H):=by
 intro pins s σ H x y v u Q I rx ry h;obtain⟨rfl,q⟩:=h;cases ry;refine isnot_none_gen (Bb I q ?_);cases x<;>first
  |(cases rx;rfl)
  |(obtain⟨t,rfl⟩:=rx;rfl)
def rE(b:Expr)(h:op≠.In:=by decide)(h2:op≠.NotIn:=by decide):behindInMarks op b=Y:=by
 have e1:(op==CmpOp.In)=Y:=by cases op<;>first|rfl|exact absurd rfl h
 have e2:(op==CmpOp.NotIn)=Y:=by cases op<;>first|rfl|exact absurd rfl h2
 cases b<;>simp[behindInMarks,e1,e2]
def sL(ho:OpR X (compareOp op) r)(ha:PE X a ta)(hb:PE X b tb)(hm:behindInMarks op b=Y):PE X (.Compare a [op] [b] pos) (tOp r ta tb):=by
 intro pins s σ H Q I h;exact wpAny_Compare1 (EX ha hb I h λv u s2 x y H2 I2 rx ry q=>ho pins s2 σ H2 x y v u Q I2 rx ry q) hm
def EJ(t:TE):TT:=λσ H Q=>t σ H λx H'=>∃k,x=.bl k/\Q k H'
def dC{op:CmpOp}{r:R2}(ho:OpR X (compareOp op) r)(ha:PE X a ta)(hb:PE X b tb)(hm:behindInMarks op b=Y):PT X (.Compare a [op] [b] pos) (EJ (tOp r ta tb)):=by
 intro pins s σ H Q I h;refine wpAny_isTrue_Compare1 (thn (ha pins s σ H _ I h) λv s1 ⟨x,H1,I1,r1,q1⟩=>thn (hb pins s1 σ H1 _ I1 q1) λu s2 ⟨y,H2,I2,r2,q2⟩=>
  thn (ho pins s2 σ H2 x y v u _ I2 r1 r2 q2) λc s3 ⟨z,H3,I3,r3,k,e,q3⟩=>?_) hm
 subst e;cases r3;exact Xy ⟨H3,I3,q3⟩
def FI(K:Z5)(x:V)(H:Hp)(k:Bool):Prop:=
 match x with
 |.non=>k=Y
 |.bl b=>k=b
 |.int i=>k=(i != 0)
 |.str y=>y.length<=sizeLine/\k=((y.length:Int) != 0)
 |.byt y=>y.size<=sizeLine/\k=((y.size:Int) != 0)
 |.ref p=>(∃xs,SqL K H p xs/\k=!xs.isEmpty)\/(∃xs,SqT K H p xs/\k=!xs.isEmpty)\/∃kvs,H p=U (.dK kvs)/\k=!kvs.isEmpty
 |_=>False
def qa{κ:Type}{kvs:Z9 (κ×V)}{vs:Z9 (κ×Z3)}(r:KV kvs vs):(!vs.isEmpty)=!kvs.isEmpty:=by
 cases r<;>rfl
def hV(r:aab xs its):(!its.toArray.isEmpty)=!xs.isEmpty:=by
 cases r<;>simp
def j5:(sizeLine:Nat)<2 ^ 63:=by rw[Yi];decide
def BC:Hq X (λx H Q=>∃k,FI X.K x H k/\Q k H):=by
 intro pins s σ H x v Q I rx h;obtain⟨k,e,q⟩:=h;have hl:=j5;have hs:sizeLine=16777216:=Yi;cases x with
 |non=>
  cases rx;have e':k=Y:=e;subst e';exact truthy_none ⟨H,I,q⟩
 |bl b=>
  cases rx;have e':k=b:=e;subst e';exact Xy ⟨H,I,q⟩
 |int i=>
  obtain⟨t,rfl⟩:=rx;have e':k=(i != 0):=e;subst e';exact PySem.P.truthy_int ⟨H,I,q⟩
 |str y=>
  obtain⟨t,rfl⟩:=rx;obtain⟨hy,e'⟩:y.length<=sizeLine/\k=((y.length:Int) != 0):=e;subst e';exact PySem.P.truthy_str (by lia) ⟨H,I.tok _,q⟩
 |byt y=>
  obtain⟨t,rfl⟩:=rx;obtain⟨hy,e'⟩:y.size<=sizeLine/\k=((y.size:Int) != 0):=e;subst e';exact PySem.W.truthy_bytes (by lia) ⟨H,I.tok _,q⟩
 |ref p=>
  cases rx;have e':(∃xs,SqL X.K H p xs/\k=!xs.isEmpty)\/(∃xs,SqT X.K H p xs/\k=!xs.isEmpty)\/∃kvs,H p=U (.dK kvs)/\k=!kvs.isEmpty:=e;rcases e' with⟨xs,hx,e'⟩|⟨xs,hx,e'⟩|⟨kvs,hx,e'⟩;subst e';obtain⟨its,r,pl,hz⟩:=I.list hx;have hlen:=r.length;exact wpAny_truthy_list pl.isList (by simp only[ZT];lia) ⟨H,I.tok _,by rw[hV r];exact q⟩;subst e';obtain⟨its,r,pl,hz⟩:=I.tuple hx;have hlen:=r.length;exact truthy_tuple pl (by simp only[ZT];lia) ⟨H,I.tok _,by rw[hV r];exact q⟩;subst e';obtain⟨hz,hS,vs,r,m⟩:kvs.length<=sizeLine/\(p==sysModules)=Y/\∃vs,KV kvs vs/\s.heap.DictOf (aA X.prog X.w) p vs:=I.hok p _ hx;have hlen:kvs.length=vs.length:=Yk r;exact wpAny_truthy_dict hS m (by lia) ⟨H,I.tok _,by rw[qa r];exact q⟩
 |_=>exact(show False from e).elim
def oQ(ha:PE X a ta)(he:∀whole,isTrue a X.env whole=(do let v <-whole;standAt a.pos;holding [v] (truthy v))):
  PT X a (λσ H Q=>ta σ H λx H'=>∃k,FI X.K x H' k/\Q k H'):=by
 intro pins s σ H Q I h;exact isTrue_plain (thn (ha pins s σ H _ I h) λv s1 hz=>by obtain⟨x,H1,I1,r1,q1⟩:=hz;exact BC pins s1 σ H1 x v Q I1 r1 q1) (he _)
def qC:OpR X (binaryOp .Add) (λx y H Q=>∃i j,x=.str i/\y=.str j/\i.length+j.length<=sizeLine/\Q (.str (i++j)) H):=by
 intro pins s σ H x y v u Q I rx ry h;obtain⟨i,j,rfl,rfl,hz,q⟩:=h;obtain⟨t,rfl⟩:=rx;obtain⟨t',rfl⟩:=ry;exact add_str (λt' tk=>⟨.str (i++j),H,I.tok _,⟨_,rfl⟩,q⟩) hz
def gE(r:aab [x] us):∃u,us=[u]/\RelV x u:=by
 cases r with
 |cons r1 r2=>cases r2;exact⟨_,rfl,r1⟩
end
section
end
def aaX.some_of(r:aaX (U v) o):∃u,o=U u/\RelV v u:=by
 cases o with
 |none=>exact(show False from r).elim
 |some u=>exact⟨u,rfl,r⟩
def aaX.none_of(r:aaX M o):o=M:=by
 cases o with
 |none=>rfl
 |some u=>exact(show False from r).elim
section
end
section
end
section
end
section
end
structure aan (k:Nat)(A:Za):Prop where
 hd:A.handled=none
 dp:A.depth+3*k+5<recursionLimit
 un:A.units+16*k+200<cLine
def aan.mono(r:aan k A)(h:j<=k):aan j A:=⟨r.hd,by have:=r.dp;lia,by have:=r.un;lia⟩
theorem aan.deeper(r:aan (k+1) A)(env:Env):aan k (A.deeper env):=
 ⟨r.hd,by have:=r.dp;show A.depth+1+3*k+5<_;lia,by have:=r.un;show A.units+3+16*k+200<_;lia⟩
theorem aan.in1(r:aan (k+1) A):aan k A.in1:=
 ⟨r.hd,by have:=r.dp;show A.depth+3*k+5<_;lia,by have:=r.un;show A.units+1+16*k+200<_;lia⟩
theorem aan.depth(r:aan k A):A.depth<recursionLimit:=by have:=r.dp;lia
theorem aan.units(r:aan k A):A.units+64<cLine:=by have:=r.un;lia
def ab0:TA:=λ_ H Q=>Q [] H
def pI(ta:TE)(tr:TA):TA:=λσ H Q=>ta σ H λx H1=>tr σ H1 λxs H2=>Q (x::xs) H2
section
variable{e:Expr}{t:TA}{pos:Pos}
def aN:PA X [] ab0:=λ_ _ _ _ H Q I h=>Calls.spliced_nil ⟨[],H,I,.nil,h⟩
def ay(ha:PE X e te)(hr:PA X es t)(hs:starEach (e::es) X.env=(Y,eval e X.env)::starEach es X.env:=by rfl):PA X (e::es) (pI te t):=by
 intro pos pins s σ H Q I h;rw[hs];show wpAny _ _ (spliced ((Y,eval e X.env)::backTo pos (starEach es X.env))) _ _ s;refine Calls.spliced_cons (thn (ha pins s σ H _ I h) λu s1 hz=>?_);obtain⟨x,H1,I1,r1,q1⟩:=hz;exact thn (hr pos pins s1 σ H1 _ I1 q1) λus s2 hz=>by obtain⟨xs,H2,I2,r2,q2⟩:=hz;exact⟨x::xs,H2,I2,.cons r1 r2,q2⟩
def Hh(t:TA):TE:=λσ H Q=>t σ H λxs H1=>xs.length<=sizeLine/\∀p,H1 p=M->Q (.ref p) (upd H1 p (.tup xs))
def Ga(t:TA):TE:=λσ H Q=>t σ H λxs H1=>xs.length<=sizeLine/\∀p,H1 p=M->Q (.ref p) (upd H1 p (.lst xs))
def Cw{x1}(h:PA X es t):PE X (.Tuple es x1 pos) (Hh t):=by
 intro pins s σ H Q I hq;refine wpAny_Tuple_spliced (thn (h pos pins s σ H _ I hq) λus s1 ⟨xs,H1,I1,r,z,q⟩=>⟨by rw[<-r.length];exact z,?_⟩);have hf:H1 s1.z=M:=I1.hok.fresh (ZU _);refine⟨.ref s1.z,upd H1 s1.z (.tup xs),I1.laid (t':=s1.toks) (λb u e=>Z4 _ e) (ZU _) ?_,rfl,q _ hf⟩;exact⟨z,us,r,⟨_,ZN _ rfl,rfl,_,rfl⟩⟩
def BZ(h:PA X es t):PE X (.List es pos) (Ga t):=by
 intro pins s σ H Q I hq;refine wpAny_List_spliced (thn (h pos pins s σ H _ I hq) λus s1 ⟨xs,H1,I1,r,z,q⟩=>⟨by rw[<-r.length];exact z,?_⟩);have hf:H1 s1.z=M:=I1.hok.fresh (ZU _);refine⟨.ref s1.z,upd H1 s1.z (.lst xs),I1.laid (t':=s1.toks) (λb u e=>Z4 _ e) (ZU _) ?_,rfl,q _ hf⟩;exact⟨z,us,0,r,ZN _ rfl⟩
end
abbrev Sp:=Z9 V->Hp->VK->XK->Prop
abbrev CXT:=Z9 Env->Hp->ZR->XK->Z3->ZR->Prop
structure abn (P:YX)(w:YK)(K:Z5)(mg:Str->Z7 Z3)(base:Heap)(A:Za)(outer:List Env)(s:ZR)(H:Hp):Prop where
 frames:A.frames=some outer
 mod:Mod K mg base
 bs:∀b o,base.get? b=some o->s.heap.get? b=some o/\H b=none
 bsz:base.objs.size<=s.heap.objs.size
 aa8:s.heap.FunFrames base outer
 frf:∀b∈frs outer,H b=none
 hok:HOk P w H s.heap
 bare:AllBare s.gens
 tabs:abX H
def CE(outer:Z9 Env)(P:YX)(w:YK)(H:Hp)(s:ZR)(Q:VK)(u:Z3)(s':ZR):Prop:=
 ∃v H',s'.os=s.os/\AllBare s'.gens/\Un (frs outer) [] H H' s.heap s'.heap/\HOk P w H' s'.heap/\RelV v u/\Q v H'
def CR(CX:CXT)(outer:Z9 Env)(P:YX)(w:YK)(H:Hp)(s:ZR)(Q:VK)(E:XK)(r:Result)(s':ZR):Prop:=
 match r with
 |.ok (.ret u)=>CE outer P w H s Q u s'
 |.ok _=>False
 |.error e=>CX outer H s E e s'
structure abg (P:YX)(w:YK)(K:Z5)(mg:Str->Z7 Z3)(base:Heap)(CX:CXT)(k:Nat)(f:ZM)(fd:FuncData)(ps:List Str)(sp:Sp):Prop where
 len:∀vs H Q E,sp vs H Q E->vs.length=ps.length
 run:∀(A:Za)(outer:List Env)(s:ZR)(H:Hp)(args:Args)(us:List Z3)(vs:List V)(Q:VK)(E:XK),aan k A->abn P w K mg base A outer s H->BindsTo s fd args (ps.zip us)->aab vs us->sp vs H Q E->
  codeAny (model P w) A (.call (.ref f) args) (CR CX outer P w H s Q E) s
theorem abn.in1{P:YX}{w:YK}{K:Z5}{mg:Str->Z7 Z3}{base:Heap}{A:Za}{outer:Z9 Env}{s:ZR}{H:Hp}(e:abn P w K mg base A outer s H):
  abn P w K mg base A.in1 outer s H:=⟨e.frames,e.mod,e.bs,e.bsz,e.aa8,e.frf,e.hok,e.bare,e.tabs⟩
section
def Inv.acH(I:Inv X pins σ H s):abn X.prog X.w X.K X.mg X.base X.A X.stack s H:=
 ⟨I.ok.frames,I.ok.mod,I.bs,Zn I.ok.bsz I.sz,I.stack,I.abO,I.hok,I.bare,I.ok.tabs.to I.base.aa5⟩
def Inv.after(I:Inv X pins σ H s)(h:CE X.stack X.prog X.w H s Q u s'):EP X pins σ Q u s':=by
 obtain⟨v,H',os,bare,un,hok,r,q⟩:=h;obtain⟨hh,g,d,t,TH⟩:=s';obtain rfl:TH=s.os:=os;exact⟨v,H',I.call (h':=hh) (g':=g) (d':=d) (t':=t) (ch:=[]) un hok bare (λb z=>absurd z (by simp)),r,q⟩
end
def ED(sp:Sp)(dvs:Z9 V)(E:XK)(t:TA):TE:=λσ H Q=>t σ H λvs H1=>sp (vs++dvs) H1 Q E
def Binds(K:Z5)(fd:FuncData)(ps:Z9 Str)(ds:Z9 Z3):Prop:=
 ∀(s:ZR)(us:Z9 Z3),K.In s.heap->(us++ds).length=ps.length->BindsTo s fd ⟨us,[]⟩ (ps.zip (us++ds))
def Binds.all{K:Z5}{fd:FuncData}{ps:Z9 Str}(h:∀us:Z9 Z3,us.length=ps.length->bindArgs fd ⟨us,[]⟩=pure (ps.zip us)):Binds K fd ps []:=λs us _ hl=>by
 rw[Y0]at hl⊢;exact .of_eq (h us hl)
def s0(CX:CXT)(X:Cx)(E:XK):Prop:=∀(pins:Z9 (ZM×Obj))(σ:St)(H:Hp)(s:ZR)(e:Z3)(s':ZR),Inv X pins σ H s->CX X.stack H s E e s'->X.xe e s'
section
variable{X:Cx}{e:Expr}
def CF(F:abg X.prog X.w X.K X.mg X.base CX k f fd ps sp)(hr:aan k X.A)(hb:Binds X.K fd ps ds)(hd:aab dvs ds)(hx:s0 CX X E)(I:Inv X pins σ H s)(r:aab vs us)(h:sp (vs++dvs) H Q E):wpAny (model X.prog X.w) X.A (call (.ref f) us) (EP X pins σ Q) X.xe s:=by
 have r2:aab (vs++dvs) (us++ds):=r.append hd;have hl:(us++ds).length=ps.length:=by rw[<-r2.length];exact F.len _ _ _ _ h
 refine wpAny_call (WW (F.run X.A X.stack s H ⟨us,[]⟩ (us++ds) (vs++dvs) Q E hr I.acH (hb s us I.kIn hl) r2 h) λr s' hq=>?_);cases r with
 |error e=>exact hx pins σ H s e s' I hq
 |ok fl=>
  cases fl with
  |ret u=>exact I.after hq
  |next=>exact False.elim hq
  |brk=>exact False.elim hq
  |cont=>exact False.elim hq
def As(F:abg X.prog X.w X.K X.mg X.base CX k f fd ps sp)(hr:aan k X.A)(hg:Gl X x)(hm:X.mg x=U (.ref f))(hk:PySem.W.keepIn X.K (.ref f)=L)(hb:Binds X.K fd ps ds)(hd:aab dvs ds)(hx:s0 CX X E)
  (ha:PA X (e::es) t)(JQ:(x==("__debug__":Str))=Y:=by decide)(he:starEach (e::es) X.env=(Y,eval e X.env)::starEach es X.env:=by rfl)(s_:(backTo pos (starEach es X.env)).any (·.1)=Y:=by rfl):
  PE X (.Call (.Name x p) (e::es) [] pos) (ED sp dvs E t):=by
 intro pins s σ H Q I h;refine XE (AD I hg hm ?_ JQ);refine PySem.W.callWith_K (h₀:=X.base) I.ok.mod.kin hk (thn (ha pos pins s σ H _ I h) λus s1 ⟨vs,H1,I1,r,q⟩=>⟨I1.kIn,?_⟩) he s_;exact CF F hr hb hd hx I1 r q
end
section
end
structure aaB (N P:List Str)(sc:Scope):Prop where
 kind:sc.kind=.function
 co:sc.isCoroutine=false
 gen:sc.isGenerator=false
 nd:N.Nodup
 pre:N.take P.length=P
 par:∀x∈P,sc.names.lookup x=some .local\/sc.names.lookup x=some .cell
 acr:∀y∈sc.names,y.2≠.free
theorem kj{kindOf:Str->Z7 NameKind}{x:Str}:∀{binds:Z9 (Str×Z3)}{m:Str->Z7 Z3},(∀v,(x,v)∉binds)->bindL kindOf binds m x=m x
 |[],_,_=>rfl
 |(n,v)::r,m,h=>by
  unfold bindL;rw[kj λw hw=>h w (Z1 _ hw)];split;have:x≠n:=by rintro rfl;exact h v ZX
  simp[this];rfl
theorem kY{kindOf:Str->Z7 NameKind}{x:Str}:∀{binds:Z9 (Str×Z3)}{m:Str->Z7 Z3},(∀v,(x,v)∉binds)->bindC kindOf binds m x=m x
 |[],_,_=>rfl
 |(n,v)::r,m,h=>by
  unfold bindC;rw[kY λw hw=>h w (Z1 _ hw)];split;rfl;have:x≠n:=by rintro rfl;exact h v ZX
  simp[this]
theorem kE{kindOf:Str->Z7 NameKind}:∀{P:Z9 Str}{vs:Z9 Z3}{i:Nat}{m:Str->Z7 Z3},P.Nodup->P[i]?=U x->vs[i]?=U v->kindOf x=U .local->
  bindL kindOf (P.zip vs) m x=U v
 |[],_,_,_,_,h,_,_=>by simp at h
 |_::_,[],_,_,_,_,h,_=>by simp at h
 |p::P,w::vs,0,m,nd,h1,h2,hk=>by
  simp at h1 h2;subst h1;subst h2;show bindL kindOf ((p,w)::P.zip vs) m p=_;unfold bindL;rw[kj λv hv=>(YM.mp nd).1 (Wz hv).1,ZO hk];simp
 |p::P,w::vs,i+1,m,nd,h1,h2,hk=>by
  show bindL kindOf ((p,w)::P.zip vs) m x=_;unfold bindL;exact kE (i:=i) (YM.mp nd).2 (by simpa using h1) (by simpa using h2) hk
theorem j6{kindOf:Str->Z7 NameKind}:∀{P:Z9 Str}{vs:Z9 Z3}{i:Nat}{m:Str->Z7 Z3},P.Nodup->P[i]?=U x->vs[i]?=U v->kindOf x≠U .local->
  bindC kindOf (P.zip vs) m x=U v
 |[],_,_,_,_,h,_,_=>by simp at h
 |_::_,[],_,_,_,_,h,_=>by simp at h
 |p::P,w::vs,0,m,nd,h1,h2,hk=>by
  simp at h1 h2;subst h1;subst h2;show bindC kindOf ((p,w)::P.zip vs) m p=_;unfold bindC;rw[kY λv hv=>(YM.mp nd).1 (Wz hv).1,ZJ hk];simp
 |p::P,w::vs,i+1,m,nd,h1,h2,hk=>by
  show bindC kindOf ((p,w)::P.zip vs) m x=_;unfold bindC;exact j6 (i:=i) (YM.mp nd).2 (by simpa using h1) (by simpa using h2) hk
def dg(N:Z9 Str)(vs:Z9 V):St:=vs.map U++List.replicate (N.length - vs.length) M
noncomputable def qw(CX:CXT)(P:YX)(w:YK)(K:Z5)(mg:Str->Z7 Z3)(base:Heap)(N:Z9 Str)(qual:Str)(scope:Scope)(f:ZM)(cd:Z3)(A:Za)(outer:Z9 Env)(s:ZR)(H:Hp)(E:XK):Cx where
 prog:=P
 w:=w
 K:=K
 mg:=mg
 base:=base
 A:=A.deeper (envOfC qual scope s.z f cd)
 N:=N
 n_:=s
 J7:=H
 env:=envOfC qual scope s.z f cd
 outer:=outer
 stack:=envOfC qual scope s.z f cd::outer
 ex:=[]
 calm:=L
 fn:=λ_=>L
 pn:=[]
 xe:=λe s'=>wpAny (model P w) (A.deeper (envOfC qual scope s.z f cd)) (leaving (envOfC qual scope s.z f cd) e) (λ_ JF=>CX outer H s E e JF) (λe' JF=>CX outer H s E e' JF) s'
def n5{sc:Scope}(h:sc.names.lookup x=U .cell):∃c,(cellsFrom n sc.names []).lookup x=U c:=by
 have q:=WM sc.names n [] (.inl h);exact Option.isSome_iff_exists.mp q
def lw{CX:CXT}{P:YX}{w:YK}{K:Z5}{mg:Str->Z7 Z3}{base:Heap}{N ps:Z9 Str}{qual:Str}{scope:Scope}{f:ZM}{cd:Z3}{A:Za}{outer:Z9 Env}{s s1:ZR}{H:Hp}{E:XK}{us:Z9 Z3}{vs:Z9 V}
  (S:aaB N ps scope) (hd:A.handled=M) (e0:abn P w K mg base A outer s H) (hl:vs.length=ps.length) (r:aab vs us)
  (x:InCallC s s.z (bindL (envOfC qual scope s.z f cd).kindOf (ps.zip us) λ_=>M) (cellsFrom (s.z+1) scope.names []) (bindC (envOfC qual scope s.z f cd).kindOf (ps.zip us) λ_=>M) s1):
  Inv (qw CX P w K mg base N qual scope f cd A outer s H E) [] (dg N vs) H s1:=by
 have s_:ps.length<=N.length:=by have:=congrArg List.length S.pre;rw[X7]at this;lia
 obtain⟨h1,tk,rfl,hk⟩:=x.done;have M6:∀b:ZM,b∉(qw CX P w K mg base N qual scope f cd A outer s H E).ex:=λb z=>absurd (show b∈([]:Z9 ZM) from z) (by simp);refine⟨⟨e0.mod,S.kind,rfl,rfl,ZU _,λy z c h1 h2=>?_,λy hy=>?_,λy c _ h=>?_,λ_=>hd,Around.frames_deeper e0.frames,.inr ⟨rfl,rfl⟩,λb z=>absurd z (M6 b),e0.bs,e0.bsz,λb _ _=>M6 b,λb z=>absurd z (M6 b),e0.aa8,e0.frf,e0.tabs⟩,
  rfl,e0.bare,Un.kept hk,⟨_,x.toInCall.ns,λi y v h1 h2 h3=>?_⟩,λy c h=>⟨_,x.cell y c h⟩,e0.hok.fresh (ZU _),λy c h=>?_,λp hp=>absurd (show p∈([]:Z9 (ZM×Obj)) from hp) (by simp),e0.hok.kept hk,?_⟩
 exact name_of_addr x.apart (YJ h1) (YJ h2);have hy:scope.names.lookup y=U .cell\/scope.names.lookup y=U .free:=hy;rcases hy with hy|hy;exact n5 hy;exact absurd rfl (S.acr _ (YJ hy));exact WJ (x.above y c (YJ h))
 .have hi:i<vs.length:=by
   unfold dg at h2;by_cases hi:i<vs.length;exact hi
   .rw[Yl (by simpa using hi)]at h2
    rw[List.getElem?_replicate]at h2;split at h2<;>cases h2
  have ha:vs[i]?=U v:=by
   unfold dg at h2;rw[Y2 (by simpa using hi),YY]at h2;cases e:vs[i]? with
   |none=>rw[e]at h2;trivial
   |some a=>rw[e]at h2;cases h2;rfl
  obtain⟨u,hu,rv⟩:=r.get ha;have hp:ps[i]?=U y:=by
   rw[<-S.pre,List.getElem?_take_of_lt (by lia)];exact h1
  have Rk:ps.Nodup:=by rw[<-S.pre];exact S.nd.sublist (List.take_sublist _ _)
  refine⟨u,rv,?_⟩;rcases S.par y (Zg hp)with k|k;exact .inl ⟨k,kE Rk hp hu k⟩;obtain⟨c,e⟩:=n5 (n:=s.z+1) k;refine .inr ⟨.inl k,c,e,?_⟩;have q:=x.cell y c e;rw[j6 Rk hp hu (by show scope.names.lookup y≠_;rw[k];decide)]at q;exact q
 exact e0.hok.fresh (WJ (x.above y c (YJ h)));unfold dg;show _=N.length;rw[Zy,ZY,List.length_replicate];lia
def Dy{CX:CXT}{P:YX}{w:YK}{K:Z5}{mg:Str->Z7 Z3}{base:Heap}{k:Nat}{f:ZM}{name qual:Str}{params:Arguments}{body:Z9 Stmt}{scope:Scope}{dV kV doc pm HM ct oc:Z3}{an od:Z7 ZM}
  {MI:Array (Z7 Z3)}{N ps:Z9 Str}{sp:Sp}(lk:K.lookup f=U ⟨oc,od,.func (PySem.W.fnOf name qual params body scope dV kV doc pm an HM ct),MI⟩) (HZ:PySem.W.codeIn K HM qual=L) (S:aaB N ps scope)
  (len:∀vs H Q E,sp vs H Q E->vs.length=ps.length)
  (HR:∀(A:Za)(outer:Z9 Env)(s:ZR)(H:Hp)(vs:Z9 V)(Q:VK)(E:XK),aan k (A.deeper (envOfC qual scope s.z f HM))->sp vs H Q E->
   ∃t,PSs (qw CX P w K mg base N qual scope f HM A outer s H E) body t/\t {nx:=λ_ H'=>Q .non H',rt:=Q} (dg N vs) H):
  abg P w K mg base CX (k+1) f (PySem.W.fnOf name qual params body scope dV kV doc pm an HM ct) ps sp:=by
 refine⟨len,λA outer s H args us vs Q E hr e0 hb r Lv=>?_⟩;have hl:=len _ _ _ _ Lv;have KX:K.In s.heap:=e0.mod.kin.keeps λb o e=>(e0.bs b o e).1;have lim:s.heap.NoLimit:=e0.mod.nolimit.keeps λb o e=>(e0.bs b o e).1;have KN:∀y∈ps.zip us,scope.names.lookup y.1=U .local\/(scope.names.lookup y.1=U .cell/\((cellsFrom (s.z+1) scope.names []).lookup y.1).isSome=L):=λ⟨n,v⟩ hy=>by
  rcases S.par n (Wz hy).1 with q|q;exact .inl q;exact .inr ⟨q,WM _ _ _ (.inl q)⟩
 refine codeAny_call_function hr.depth (KX _ _ lk) rfl S.co S.gen rfl (PySem.W.codeRec_of KX HZ) (hb _ _ _ _ ?_);refine wpAny_newFunctionEnv_cells S.kind KN λenv he s1 x=>?_;subst he;refine⟨lim.keeps x.toInCall.keep,codeAny_func ?_⟩;obtain⟨t,ht,hq⟩:=HR A outer s H vs Q E (hr.deeper _) Lv;have I:Inv (qw CX P w K mg base N qual scope f HM A outer s H E) [] (dg N vs) H s1:=lw S hr.hd e0 hl r x;refine YL (ht [] s1 (dg N vs) H _ I hq) (λfl s' hs=>?_) λe s' hs=>hs;have fin:∀{h_:St}{H':Hp}{v:V}{u:Z3},Inv (qw CX P w K mg base N qual scope f HM A outer s H E) [] h_ H' s'->RelV v u->Q v H'->CE outer P w H s Q u s':=
  λ{h_ H' v u} J rv q=>⟨v,H',J.os,J.bare,J.base,J.hok,rv,q⟩
 cases fl with
 |ret u=>
  obtain⟨v,h_,H',J,rv,q⟩:=hs;exact fin J rv q
 |next=>
  obtain⟨h_,H',J,q⟩:=hs;exact fin (v:=V.non) (u:=Value.none) J rfl q
 |brk=>
  obtain⟨_,_,_,q⟩:=hs;exact False.elim q
 |cont=>
  obtain⟨_,_,_,q⟩:=hs;exact False.elim q
section
variable{X:Cx}{x:Str}{p pos:Pos}{e:Expr}{es:Z9 Expr}{t:TA}{id T:String}{r:Z9 V->Hp->VK->Prop}
def tCB(r:Z9 V->Hp->VK->Prop)(t:TA):TE:=λσ H Q=>t σ H λvs H1=>r vs H1 Q
def dS(hc:ff X (.builtin id) r)(hg:Gl X x)(hm:X.mg x=M)(hv:bootBuiltins x=U (.builtin id))(ha:PA X (e::es) t)(hn:x≠"__name__":=by decide)(JQ:(x==("__debug__":Str))=Y:=by decide)(he:starEach (e::es) X.env=(Y,eval e X.env)::starEach es X.env:=by rfl)(s_:(backTo pos (starEach es X.env)).any (·.1)=Y:=by rfl):PE X (.Call (.Name x p) (e::es) [] pos) (tCB r t):=by
 intro pins s σ H Q I h;refine XE (eQ I hg hm hv ?_ hn JQ);exact PyProof.Rows.callWith_builtin1 (thn (ha pos pins s σ H _ I h) λus s1 hz=>by obtain⟨vs,H1,I1,r1,q1⟩:=hz;exact hc pins s1 σ H1 vs us Q I1 r1 q1) he s_
def cK(hc:ff X (.type T) r)(hg:Gl X x)(hm:X.mg x=M)(hv:bootBuiltins x=U (.type T))(ha:PA X (e::es) t)(hn:x≠"__name__":=by decide)(JQ:(x==("__debug__":Str))=Y:=by decide)(he:starEach (e::es) X.env=(Y,eval e X.env)::starEach es X.env:=by rfl)(s_:(backTo pos (starEach es X.env)).any (·.1)=Y:=by rfl):PE X (.Call (.Name x p) (e::es) [] pos) (tCB r t):=by
 intro pins s σ H Q I h;refine XE (eQ I hg hm hv ?_ hn JQ);exact Yn (thn (ha pos pins s σ H _ I h) λus s1 hz=>by obtain⟨vs,H1,I1,r1,q1⟩:=hz;exact hc pins s1 σ H1 vs us Q I1 r1 q1) he s_
end
section
variable{κ:Type}[DecidableEq κ]
def dZ(kvs:Z9 (κ×V))(k:κ):Z7 V:=(kvs.find? λkv=>decide (kv.1=k)).map (·.2)
noncomputable def dh(kvs:Z9 (κ×V))(k:κ)(v:V):Z9 (κ×V):=
 if(kvs.any λkv=>decide (kv.1=k))=L then kvs.map (λkv=>if kv.1=k then(kv.1,v) else kv) else kvs++[(k,v)]
def bR{p:κ×V}{r:Z9 (κ×V)}{k:κ}(e:p.1=k):dZ (p::r) k=U p.2:=by simp[dZ,List.find?_cons,e]
def bQ{p:κ×V}{r:Z9 (κ×V)}{k:κ}(e:¬p.1=k):dZ (p::r) k=dZ r k:=by simp[dZ,List.find?_cons,e]
theorem dT(k:κ):∀kvs:Z9 (κ×V),(kvs.any λkv=>decide (kv.1=k))=(dZ kvs k).isSome
 |[]=>rfl
 |p::r=>by
  rw[List.any_cons];by_cases e:p.1=k;simp only[bR e,Zw e,Bool.true_or,Option.isSome_some];rw[bQ e,ZE e,Bool.false_or];exact dT k r
def bt(kvs:Z9 (κ×V))(k:κ)(v:V):(dh kvs k v).length<=kvs.length+1:=by
 unfold dh;split;rw[ZY];lia;rw[Zy,bO,gC];lia
def jg{kvs:Z9 (κ×V)}{k:κ}(v:V)(h:dZ kvs k=M):dh kvs k v=kvs++[(k,v)]:=by
 unfold dh;rw[dT,h];exact ZJ (by decide)
def aaX.aaZ(r:aaX o u):o.isSome=u.isSome:=by
 cases o with
 |none=>cases u with
  |none=>rfl
  |some _=>exact(show False from r).elim
 |some _=>cases u with
  |none=>exact(show False from r).elim
  |some _=>rfl
theorem aaX.getD(r:aaX o u)(rd:RelV d d'):RelV (o.getD d) (u.getD d'):=by
 cases o with
 |none=>cases u with
  |none=>exact rd
  |some _=>exact(show False from r).elim
 |some _=>cases u with
  |none=>exact(show False from r).elim
  |some _=>exact r
def KV.val(r:KV kvs vs)(k:κ):aaX (dZ kvs k) (valueAt vs k):=by
 unfold KV at r
 induction r with
 |nil=>exact True.intro
 | @cons p q ps qs h t ih=>
  obtain⟨h1,h2⟩:=h;by_cases e:p.1=k;have e':q.1=k:=h1.symm.trans e;have b:valueAt (q::qs) k=U q.2:=by simp[valueAt,List.find?_cons,e']
  rw[bR e,b];exact h2;have e':¬q.1=k:=λz=>e (h1.trans z);have b:valueAt (q::qs) k=valueAt qs k:=by simp[valueAt,List.find?_cons,e']
  rw[bQ e,b];exact ih
theorem KV.any(r:KV kvs vs)(k:κ):(kvs.any λkv=>decide (kv.1=k))=vs.any λkv=>decide (kv.1=k):=by
 unfold KV at r
 induction r with
 |nil=>rfl
 |cons h t ih=>rw[List.any_cons,List.any_cons,ih,h.1]
def KV.ab2(r:KV kvs vs)(k:κ)(ry:RelV y u):
  KV (kvs.map λkv=>if kv.1=k then(kv.1,y) else kv) (vs.map λkv=>if kv.1=k then(kv.1,u) else kv):=by
 unfold KV at r⊢
 induction r with
 |nil=>exact .nil
 | @cons p q ps qs h t ih=>
  rw[Z2,Z2];refine .cons ?_ ih;obtain⟨h1,h2⟩:=h;by_cases e:p.1=k;rw[ZO e,ZO (h1.symm.trans e)];exact⟨h1,ry⟩;rw[ZJ e,ZJ (λz=>e (h1.trans z))];exact⟨h1,h2⟩
def KV.put(r:KV kvs vs)(k:κ)(ry:RelV y u):KV (dh kvs k y) (stored vs k u):=by
 unfold dh stored;rw[r.any k];by_cases e:(vs.any λkv=>decide (kv.1=k))=L;rw[ZO e,ZO e];exact r.ab2 k ry;rw[ZJ e,ZJ e];exact Paired.snoc r ⟨rfl,ry⟩
theorem KV.length(r:KV kvs vs):kvs.length=vs.length:=Yk r
end
def lE(r:RelV (kV k) u):(aA P w).is k u=L:=by
 cases k with
 |inl i=>obtain⟨t,e⟩:=(show ∃t,u=Value.int i t from r);subst e;exact gm P w i t
 |inr x=>obtain⟨t,e⟩:=(show ∃t,u=Value.str x t from r);subst e;exact fx P w x t
theorem kO:∀{ks:Z9 Key}{us:Z9 Z3},aab (ks.map kV) us->ItemsAre (aA P w) ks us
 |[],_,r=>by rw[YO]at r;cases r;exact .nil
 |k::ks,_,r=>by
  rw[Z2]at r;cases r with
  |cons h t=>exact .cons (lE h) (kO t)
abbrev KT(H:Hp):Z9 (Z9 Key×V)->Z9 (Z9 Key×ZM×Z3)->Prop:=Paired λp q=>p.1=q.1/\H q.2.1=U (.tup (p.1.map kV))/\RelV p.2 q.2.2
def KT.val(r:KT H kvs xs)(k:Z9 Key):aaX (dZ kvs k) ((atKey xs k).map (·.2)):=by
 induction r with
 |nil=>exact True.intro
 | @cons p q ps qs h t ih=>
  obtain⟨h1,_,h2⟩:=h;by_cases e:p.1=k;have e':q.1=k:=h1.symm.trans e;have b:atKey (q::qs) k=U q.2:=by simp[atKey,List.find?_cons,e']
  rw[bR e,b];exact h2;have e':¬q.1=k:=λz=>e (h1.trans z);have b:atKey (q::qs) k=atKey qs k:=by simp[atKey,List.find?_cons,e']
  rw[bQ e,b];exact ih
def KT.ab2(r:KT H kvs xs)(k:Z9 Key)(ry:RelV y u):
  KT H (kvs.map λkv=>if kv.1=k then(kv.1,y) else kv) (xs.map (putAt k u)):=by
 induction r with
 |nil=>exact .nil
 | @cons p q ps qs h t ih=>
  rw[Z2,Z2];refine .cons ?_ ih;obtain⟨h1,h2,h3⟩:=h;unfold putAt;by_cases e:p.1=k;rw[ZO e,ZO (h1.symm.trans e)];exact⟨h1,h2,ry⟩;rw[ZJ e,ZJ (λz=>e (h1.trans z))];exact⟨h1,h2,h3⟩
def KT.put(r:KT H kvs xs)(k:Z9 Key)(hb:H b=U (.tup (k.map kV)))(ry:RelV y u):
  KT H (dh kvs k y) (storedH xs k b u):=by
 have e:(kvs.any λkv=>decide (kv.1=k))=(atKey xs k).isSome:=by
  rw[dT,(r.val k).aaZ,Option.isSome_map]
 unfold dh storedH;rw[e];by_cases q:(atKey xs k).isSome=L;rw[ZO q,ZO q];exact r.ab2 k ry;rw[ZJ q,ZJ q];exact Paired.snoc r ⟨rfl,hb,ry⟩
def KT.keeps(r:KT H kvs xs)(ht:∀b ys,H b=U (.tup ys)->H' b=U (.tup ys)):KT H' kvs xs:=
 Paired.abW r λ_ _ z=>⟨z.1,ht _ _ z.2.1,z.2.2⟩
section
def qG(ok:HOk P w H h)(e:Rd H a u):aal P w H h a u:=e.ok ok
def lF(ok:HOk P w H h)(e:Rd H a (.dK kvs)):kvs.length<=sizeLine/\(a==sysModules)=Y/\∃vs,KV kvs vs/\h.DictOf (aA P w) a vs:=
 show aal P w H h a (.dK kvs) from qG ok e
def CO(ok:HOk P w H h)(e:H a=U (.dK kvs)):kvs.length<=sizeLine/\(a==sysModules)=Y/\∃vs,KV kvs vs/\h.DictOf (aA P w) a vs:=lF ok (.inl e)
def FQ(ok:HOk P w H h)(e:H a=U (.tup (ks.map kV))):(tupleKind (aA P w)).is h ks a:=by
 obtain⟨_,its,r,o,h1,h2,n,h3⟩:=(show aal P w H h a (.tup (ks.map kV)) from ok a _ e)
 exact⟨o,its.toArray,n,h1,h2,h3,by simpa using kO r⟩
end
def Ba(H:Hp)(a:ZM)(y:V)(r:Z7 V):Prop:=
 ∃kvs k,Rd H a (.dK kvs)/\y=kV k/\r=dZ kvs k
def FT(H:Hp)(a:ZM)(y v:V)(H':Hp):Prop:=
 ∃kvs k,H a=U (.dK kvs)/\y=kV k/\kvs.length<sizeLine/\H'=upd H a (.dK (dh kvs k v))
section
variable{o:Z7 V}{A:Za}
def Inv.big(I:Inv X pins σ H s):sysModules<s.z:=by
 have h:mainGlobals<s.z:=(I.mod.glob.keeps I.bk).lt;exact Nat.lt_trans (by decide) h
def sW(hu:A.units+1<cLine)(I:Inv X pins σ H s)(g:Ba H a y (U v))(ry:RelV y u)(h:∀w' s',Inv X pins σ H s'->RelV v w'->Q w' s'):
  wpAny (model X.prog X.w) A (getItem (.ref a) u) Q E s:=by
 obtain⟨kvs,k,e,ey,l⟩:=g;subst ey;obtain⟨z,hd,vs,rel,dd⟩:=lF I.hok e;obtain⟨w',hw,Hs⟩:=aaX.some_of (v:=v) (o:=valueAt vs k) (by rw[l];exact rel.val k);exact wpAny_getItem_of (lE ry) dd.mapOf hw (h w' _ (I.tok _) Hs)
def zH(hu:A.units+1<cLine)(I:Inv X pins σ H s)(g:Ba H a y o)(ry:RelV y u)(h:∀s',Inv X pins σ H s'->Q (.bool (!o.isSome)) s'):
  wpAny (model X.prog X.w) A (compareOp .NotIn u (.ref a)) Q E s:=by
 obtain⟨kvs,k,e,ey,l⟩:=g;subst ey;obtain⟨z,hd,vs,rel,dd⟩:=lF I.hok e;refine wpAny_notIn_of (lE ry) hd dd.mapOf ?_;rw[<-(rel.val k).aaZ,<-l];exact h _ (I.tok _)
def fC(I:Inv X pins σ H s)(mu:Mut (H a))(hs:Heap.SameBut a s.heap h')(he:∃q,h'.get? a=U q)(new:aal X.prog X.w (upd H a ob) h' a ob):
  Inv X pins σ (upd H a ob) {s with heap:=h',toks:=t'}:=
 I.write (x:=a) (e:=a) mu (.inl rfl) (λb q hb z=>(hs.2 b hb).trans z) he new
def xS(z:kvs.length<=sizeLine)(hd:(a==sysModules)=Y)(rel:KV kvs vs)(dd:h'.DictOf (aA P w) a vs):
  aal P w H' h' a (.dK kvs):=⟨z,hd,vs,rel,dd⟩
def t8(hu:A.units+1<cLine)(I:Inv X pins σ H s)(g:FT H a y v H')(ry:RelV y u)(rv:RelV v r)(h:∀s',Inv X pins σ H' s'->Q () s'):
  wpAny (model X.prog X.w) A (setItem (.ref a) u r) Q E s:=by
 obtain⟨kvs,k,e,ey,l,eH⟩:=g;subst ey eH;obtain⟨z,hd,vs,rel,dd⟩:=CO I.hok e;have hz:vs.length<=sizeLine:=by rw[<-rel.length];exact z
 have hl:(dh kvs k v).length<=sizeLine:=by have:=bt kvs k v;lia
 refine wpAny_setItem_pairs (hsz:=hz) (lE ry) dd λh' JS hs=>h _ ?_;have he:∃q,h'.get? a=U q:=let ⟨q,_,_,hq,_⟩:=JS;⟨q,hq⟩
 exact fC I (by rw[e];exact True.intro) hs he (xS hl hd (rel.put k rv) JS)
end
section
end
def Eu(i:Expr):Prop:=∀ov iv,subscripted i Y ov iv=operate [ov,iv] (getItem ov iv)
def AR{prog:YX}{w:YK}{A:Za}{E:Z3->ZR->Prop}{s:ZR}{env:Env}{value slice:Expr}{pos:Pos}{T id:String}{Q:Z3->ZR->Prop}
  (hl:typeLookup (.type T) "__getitem__"=pure (U (.builtin id))) (hs:Eu slice)
  (h:wpAny (model prog w) A (eval value env) (λo g_=>wpAny (model prog w) A (eval slice env) (λi a_=>a_.TypeIs o T/\wpAny (model prog w) A (getItem o i) Q E a_) E g_) E s):
  wpAny (model prog w) A (eval (.Subscript value slice pos) env) Q E s:=by
 refine Subscript_ (YL h (λo g_ HI=>YL HI (λi a_ Kn=>?_) λ_ _ x=>x) λ_ _ x=>x);obtain⟨hT,Kn⟩:=Kn;unfold subscriptTail;refine Z_ ?_;rw[getitemInPython_of_ne hT.not_modules];refine Z_ (X9 hT hl ?_);have fin:wpAny (model prog w) A (subscripted slice Y o i) (λr IK=>wpAny (model prog w) A (letTemporaryGo value o r >>= λ_=>pure r) Q E IK) E a_:=by
  rw[hs o i];exact wpAny_operating (YL Kn (λr IK Lf=>Z_ (wpAny_letTemporaryGo (Z6 Lf))) λ_ _ x=>x)
 first
  |exact Z6 (Z_ fin)
  |exact Z_ (Z6 (Z_ fin))
  |exact Z_ fin
def mB(I:Inv X pins σ H s)(g:Ba H a y o):s.TypeIs (.ref a) "dict":=by
 obtain⟨kvs,k,e,_,_⟩:=g;obtain⟨_,_,vs,_,dd⟩:=lF I.hok e;exact dd.typeIs
section
end
def vE(h:Heap)(hb:sysModules<h.objs.size):aal P w H (h.push {cls:=.type "dict",data:=.dict #[]}) h.objs.size (.dK []):=
 ⟨Zu _,Wm.mpr (ZA (Zv hb)),[],.nil,Heap.DictOf.new h⟩
def aco:TE:=λ_ H Q=>∀p,H p=M->Q (.ref p) (upd H p (.dK []))
section
def vT:PE X (.Dict [] [] pos) aco:=λpins s σ H Q I h=>
 wpAny_Dict_empty ⟨.ref s.z,_,I.laid (a:=s.z) (o:=.dK []) (t':=s.toks) (λ_ _ q=>Z4 _ q) (ZU _) (vE s.heap I.big),rfl,h _ (I.hok.fresh (ZU _))⟩
end
section
variable{A:Za}
def Bs(hu:A.units+1<cLine)(I:Inv X pins σ H s)(g:Ba H a y o)(ry:RelV y u)(rd:RelV d r)(h:∀w' s',Inv X pins σ H s'->RelV (o.getD d) w'->Q w' s'):
  wpAny (model X.prog X.w) A (call (.builtin "dict.get") [.ref a,u,r]) Q E s:=by
 obtain⟨kvs,k,e,ey,l⟩:=g;subst ey;obtain⟨z,hd,vs,rel,dd⟩:=lF I.hok e;refine call_meetsIn Wv dd.typeIs PySem.F.entry_dict_get (PySem.F.args_dict_get_3 _ _ _) (meets_dict_get_default (aA X.prog X.w) a (lE ry) hd r) ⟨_,dd.mapOf,h _ _ (I.tok _) ?_⟩;rw[l];exact(rel.val k).getD rd
end
section
end
section
end
section
end
end L2
namespace HT
open PySem PyProof.Rows
def ab4(A:Za)(s:ZR)(a:Int)(t:Tok)(c:Int)(u:Tok)(prog:YX)(w:YK)(E:Z3->ZR->Prop)(Q:Z3->ZR->Prop)(h:Q (.bool (decide (a<c))) s):
  wpAny (model prog w) A (richCompare .Lt (.int a t) (.int c u)) Q E s:=
 (PyProof.Rows.lt_int h:wpAny (model prog w) A (compareOp .Lt (.int a t) (.int c u)) Q E s)
section
open PySem.SeqAt
open PySem.AutoSeq1 (wpAny_loadPart')
open PySem.MeetsSeq PySem.MeetsSeq2 PySem.MeetsSeq3
end
section
def sIx(n d:Nat):Z7 Int->Nat
 |none=>d
 |some v=>if v<0 then(v+(n:Int)).toNat else min v.toNat n
theorem abC(n d:Nat):sIx n d M=d:=rfl
def abP(n d k:Nat):sIx n d (U (k:Int))=min k n:=by
 show(if(k:Int)<0 then((k:Int)+(n:Int)).toNat else min (k:Int).toNat n)=min k n;rw[ZJ (by lia),Int.toNat_natCast]
end
end HT
namespace L2
open PySem PySem.Spec PyProof.Rows
variable[Lams]
abbrev TO:=St->Hp->(Z7 Int->Hp->Prop)->Prop
def PO(X:Cx)(e:Z7 Expr)(t:TO):Prop:=
 ∀(pins:Z9 (ZM×Obj))(s:ZR)(σ:St)(H:Hp)(Q:Z7 Int->Hp->Prop),Inv X pins σ H s->t σ H Q->
  wpAny (model X.prog X.w) X.A (evalPart e X.env) (λu s'=>∃o H',Inv X pins σ H' s'/\IsPart u o/\Q o H') X.xe s
def aca:TO:=λ_ H Q=>Q M H
def Ed(t:TE):TO:=λσ H Q=>t σ H λx H1=>∃i,x=.int i/\Q (U i) H1
def pb:∀{us:Z9 Z3},aab (ns.map V.int) us->IntsAre us ns:=by
 induction ns with
 |nil=>intro us r;rw[YO]at r;cases r;exact .nil
 |cons n ns ih=>
  intro us r;rw[Z2]at r;cases r with
  |cons r1 r2=>
   obtain⟨t,e⟩:=r1;subst e;exact .cons n t (ih r2)
section
variable{X:Cx}{te:TE}{lo hi:Z7 Expr}{tl th:TO}
def zW:PO X M aca:=by
 intro pins s σ H Q I h;rw[evalPart_none];exact Z6 ⟨M,H,I,.none,h⟩
def Aq(h:PE X e te):PO X (U e) (Ed te):=by
 intro pins s σ H Q I hw;rw[evalPart_some];refine thn (h pins s σ H _ I hw) λu s1 hz=>?_;obtain⟨x,H1,I1,r1,q1⟩:=hz;obtain⟨i,rfl,q⟩:=q1;obtain⟨t,rfl⟩:=r1;exact⟨U i,H1,I1,.int i t,q⟩
def SlR(X:Cx)(r:V->Z7 Int->Z7 Int->Hp->VK->Prop):Prop:=
 ∀(pins:Z9 (ZM×Obj))(s:ZR)(σ:St)(H:Hp)(x:V)(v vl vu:Z3)(lo hi:Z7 Int)(sl:ZM)(Q:VK),Inv X pins σ H s->RelV x v->s.heap.IsSliceOf sl vl vu .none->IsPart vl lo->IsPart vu hi->r x lo hi H Q->
  ∃T id,typeLookup (.type T) "__getitem__"=pure (U (.builtin id))/\s.TypeIs v T/\wpAny (model X.prog X.w) X.A (getItem v (.ref sl)) (EP X pins σ Q) X.xe s
def tSl(r:V->Z7 Int->Z7 Int->Hp->VK->Prop)(te:TE)(tl th:TO):TE:=λσ H Q=>te σ H λx H1=>tl σ H1 λl H2=>th σ H2 λu H3=>r x l u H3 Q
def o6(hr:SlR X r)(he:PE X e te)(hl:PO X lo tl)(hu:PO X hi th):PE X (.Subscript e (.Slice lo hi M p2) pos) (tSl r te tl th):=by
 intro pins s σ H Q I h;refine Subscript_ (thn (he pins s σ H _ I h) λv s1 hz=>?_);obtain⟨x,H1,I1,r1,q1⟩:=hz;refine wpAny_Slice (thn (hl pins s1 σ H1 _ I1 q1) λvl s2 ⟨l,H2,I2,pl,q2⟩=>thn (hu pins s2 σ H2 _ I2 q2) λvu s3 hz=>?_);obtain⟨u,H3,I3,pu,q3⟩:=hz;rw[evalPart_none];refine Z6 ?_;have I4:Inv X pins σ H3 {s3 with heap:=s3.heap.push {cls:=.type "slice",data:=.fields #[vl,vu,.none]}}:=I3.kept (t':=s3.toks) λb ob q=>Z4 _ q;obtain⟨T,id,hT,ht,hg⟩:=hr pins {s3 with heap:=s3.heap.push {cls:=.type "slice",data:=.fields #[vl,vu,.none]}} σ H3 x v vl vu l u s3.z Q I4 r1 (Heap.IsSliceOf.new ..) pl pu q3;show wpAny (model X.prog X.w) X.A (subscriptTail e (.Slice lo hi M p2) v (.ref s3.z)) (EP X pins σ Q) X.xe {s3 with heap:=s3.heap.push {cls:=.type "slice",data:=.fields #[vl,vu,.none]}};exact tail_any (ops:=[.ref s3.z,v]) ht hT hg (by with_unfolding_all rfl)
def AJ(xs:Z9 V)(lo hi:Z7 Int):Z9 V:=(xs.drop (HT.sIx xs.length 0 lo)).take (HT.sIx xs.length xs.length hi - HT.sIx xs.length 0 lo)
def mN(xs:Z9 V)(lo hi:Z7 Int):(AJ xs lo hi).length<=xs.length:=by
 unfold AJ;rw[X7,List.length_drop];lia
end
def ixN(n:Nat)(i:Int):Z7 Nat:=if 0<=i then(if i<n then U i.toNat else M) else if -(n:Int)<=i then U (i+n).toNat else M
def atI{α:Type}(xs:Z9 α)(i:Int):Z7 α:=(ixN xs.length i).bind λj=>xs[j]?
def yL(h:ixN n i=U j):seqIndex? i n=U j/\j<n/\ -(n:Int)<=i/\i<n:=by
 unfold ixN at h;by_cases h0:0<=i;rw[ZO h0]at h;by_cases h1:i<n;rw[ZO h1]at h;have e:i.toNat=j:=Z8 h;exact⟨by rw[seqIndex_of h0 h1,e],by lia,by lia,h1⟩;rw[ZJ h1]at h;trivial;rw[ZJ h0]at h;by_cases h1: -(n:Int)<=i;rw[ZO h1]at h;have e:(i+n).toNat=j:=Z8 h;exact⟨by rw[seqIndex_neg (by lia) h1,e],by lia,h1,by lia⟩;rw[ZJ h1]at h;trivial
def mx{α:Type}{xs:Z9 α}{i:Int}{v:α}(h:atI xs i=U v):∃j,seqIndex? i xs.length=U j/\xs[j]?=U v/\j<xs.length/\ -(xs.length:Int)<=i/\i<xs.length:=by
 unfold atI at h;cases e:ixN xs.length i with
 |none=>rw[e]at h;trivial
 |some j=>
  rw[e]at h;obtain⟨h1,h2,h3,h4⟩:=yL e;exact⟨j,h1,h,h2,h3,h4⟩
def qT{α:Type}{xs:Z9 α}{j:Nat}{v:α}(h:xs[j]?=U v):atI xs (j:Int)=U v:=by
 have hj:j<xs.length:=(ZP.mp h).1;have e:ixN xs.length (j:Int)=U j:=by
  unfold ixN;rw[ZO (by lia),ZO (by lia)];simp
 unfold atI;rw[e];exact h
def f9(b:Expr):Prop:=∀o i,subscripted b Y o i=operate [o,i] (getItem o i)
def IxR(X:Cx)(r:R2):Prop:=
 ∀(value slice:Expr)(pins:Z9 (ZM×Obj))(s:ZR)(σ:St)(H:Hp)(x y:V)(v u:Z3)(Q:VK),Inv X pins σ H s->RelV x v->RelV y u->r x y H Q->
  subscripted slice Y v u=operate [v,u] (getItem v u)->wpAny (model X.prog X.w) X.A (subscriptTail value slice v u) (EP X pins σ Q) X.xe s
def MtR(X:Cx)(id:String)(r:V->Z9 V->Hp->VK->Prop):Prop:=
 ∀(pins:Z9 (ZM×Obj))(s:ZR)(σ:St)(H:Hp)(x:V)(xs:Z9 V)(v:Z3)(us:Z9 Z3)(Q:VK),Inv X pins σ H s->RelV x v->aab xs us->r x xs H Q->
  wpAny (model X.prog X.w) X.A (call (.builtin id) (v::us)) (EP X pins σ Q) X.xe s
structure Mc (v:Env)(o:Expr)(n:Str)(e:Expr)(es:List Expr)(ap cp:Pos):Prop where
 b:attributeBase o n v (eval o v)=eval o v
 f:((backTo cp (starEach (e::es) v)).all (λx=>!x.1)&&(backToKw cp (keywordEach [] v)).all (λx=>x.1.isSome)&&decide ((e::es).length+([]:List Keyword).length+(if([]:List Keyword).isEmpty then 0 else 1)<30))=true
 l:(ap.endLine==cp.line)=true
 s:starEach (e::es) v=(false,eval e v)::starEach es v
 p:(backTo cp (starEach es v)).any (·.1)=false
section
variable{X:Cx}{a b:Expr}{ta tb:TE}{pos:Pos}
def IxR.or(h:IxR X r)(h':IxR X r'):IxR X (λx y H Q=>r x y H Q\/r' x y H Q):=by
 intro value slice pins s σ H x y v u Q I rx ry q hs;rcases q with q|q;exact h value slice pins s σ H x y v u Q I rx ry q hs;exact h' value slice pins s σ H x y v u Q I rx ry q hs
def wl(hr:IxR X r)(ha:PE X a ta)(hb:PE X b tb)(hs:f9 b):PE X (.Subscript a b pos) (tOp r ta tb):=by
 intro pins s σ H Q I h;exact Subscript_ (EX ha hb I h λv u s2 x y H2 I2 rx ry q=>hr a b pins s2 σ H2 x y v u Q I2 rx ry q (hs _ _))
def FK(K:Z5):R2:=λx y H Q=>∃p xs i v,x=.ref p/\y=.int i/\SqL K H p xs/\atI xs i=U v/\Q v H
def Fg(K:Z5):R2:=λx y H Q=>∃p xs i v,x=.ref p/\y=.int i/\SqT K H p xs/\atI xs i=U v/\Q v H
def acD:R2:=λx y H Q=>∃z i c,x=.str z/\y=.int i/\z.length<=sizeLine/\atI z.cps.toList i=U c/\Q (.str ⟨#[c]⟩) H
def lI:IxR X (FK X.K):=by
 intro value slice pins s σ H x y v u Q I rx ry h hs;obtain⟨p,xs,i,z,rfl,rfl,hq,he,q⟩:=h;cases rx;obtain⟨t,rfl⟩:=ry;obtain⟨its,r,pl,hz⟩:=I.list hq;obtain⟨j,h1,h2,h3,h4,h5⟩:=mx he;obtain⟨w,ew,Hs⟩:=r.get h2;have hl:=r.length;have hn:=j5;have fin:EP X pins σ Q w s:=⟨z,H,I,Hs,q⟩
 by_cases h0:0<=i;have hj:i.toNat=j:=by
  rw[seqIndex_of h0 h5]at h1;exact Z8 h1
 exact item_listR pl.isList h0 (by lia) (by rw[hj];simpa using ew) fin hs
 .have hj:(i+(its.toArray.size:Int)).toNat=j:=by
   rw[seqIndex_neg (by lia) h4]at h1;rw[ZT,<-hl];exact Z8 h1
  exact subscriptTail_builtinR (x:=w) pl.isList.typeIs slot_list_getitem.lookup
   (wpAny_getItem_list_neg (Q:=λr s'=>r=w/\EP X pins σ Q r s') pl.isList (by lia) (by rw[ZT]<;>lia) (by lia) (by rw[hj];simpa using ew) ⟨rfl,fin⟩) hs
def CG:IxR X (Fg X.K):=by
 intro value slice pins s σ H x y v u Q I rx ry h hs;obtain⟨p,xs,i,z,rfl,rfl,hq,he,q⟩:=h;cases rx;obtain⟨t,rfl⟩:=ry;obtain⟨its,r,pl,hz⟩:=I.tuple hq;obtain⟨j,h1,h2,h3,h4,h5⟩:=mx he;obtain⟨w,ew,Hs⟩:=r.get h2;have hl:=r.length;have hn:=j5;have fin:EP X pins σ Q w s:=⟨z,H,I,Hs,q⟩;exact subscriptTail_builtinR (x:=w) pl.typeIs slot_tuple_getitem.lookup
  (getItem_tuple (j:=j) (Q:=λr s'=>r=w/\EP X pins σ Q r s') pl (by lia) (by lia) (by rw[ZT,<-hl];exact h1) (by simpa using ew) ⟨rfl,fin⟩) hs
def xw:IxR X acD:=by
 intro value slice pins s σ H x y v u Q I rx ry h hs;obtain⟨z,i,c,rfl,rfl,hz,he,q⟩:=h;obtain⟨t,rfl⟩:=rx;obtain⟨t',rfl⟩:=ry;obtain⟨j,h1,h2,h3,h4,h5⟩:=mx he;have hl:z.cps.toList.length=z.length:=by simp[Str.length]
 rw[hl]at h1 h4 h5;have hn:=j5;exact tail_any (typeIs_str s z t) slot_str_getitem.lookup (getItem_str (c:=c) (by
  have e1:decide (i< -(2 ^ 63:Int))=Y:=ZE (by lia);have e2:decide (i>=2 ^ 63)=Y:=ZE (by lia);rw[e1,e2,Bool.or_false]) (by rw[h1];simpa using h2) ⟨.str ⟨#[c]⟩,H,I.tok _,⟨_,rfl⟩,q⟩) hs
def rIx(K:Z5):R2:=λx y H Q=>FK K x y H Q\/Fg K x y H Q\/acD x y H Q
def BK:IxR X (rIx X.K):=lI.or (CG.or xw)
def kU(lo hi:Z7 Int)(n:Nat):(sliceBounds lo hi M n).1=((HT.sIx n 0 lo:Nat):Int)/\(sliceBounds lo hi M n).2.1=((HT.sIx n n hi:Nat):Int)/\(sliceBounds lo hi M n).2.2=1:=by
 refine⟨?_,?_,rfl⟩
 .cases lo with
  |none=>simp[sliceBounds,HT.sIx]
  |some i=>
   simp only[sliceBounds,HT.sIx,Option.getD_none,show(1:Int)>0 by decide,Y_];by_cases h:i<0
   .simp only[h,Y_]<;>lia
   .simp only[h,Zm]<;>lia
 .cases hi with
  |none=>simp[sliceBounds,HT.sIx]
  |some i=>
   simp only[sliceBounds,HT.sIx,Option.getD_none,show(1:Int)>0 by decide,Y_];by_cases h:i<0
   .simp only[h,Y_]<;>lia
   .simp only[h,Zm]<;>lia
def jf(its:Z9 Z3)(lo hi:Z7 Int):slicePick its.toArray lo hi M=((its.drop (HT.sIx its.length 0 lo)).take (HT.sIx its.length its.length hi - HT.sIx its.length 0 lo)).toArray:=by
 obtain⟨h1,h2,h3⟩:=kU lo hi its.toArray.size;unfold slicePick;rw[h1,h2,h3];simp only[sliceRange_one,pick_run,ZT]<;>rfl
def GA(K:Z5):V->Z7 Int->Z7 Int->Hp->VK->Prop:=λx lo hi H Q=>∃a xs,x=.ref a/\SqL K H a xs/\∀p,H p=M->Q (.ref p) (upd H p (.lst (AJ xs lo hi)))
def Ag:SlR X (GA X.K):=by
 intro pins s σ H x v vl vu lo hi sl Q I rx hs pl pu h;obtain⟨a,xs,rfl,hx,q⟩:=h;cases rx;obtain⟨its,r,ht,hz⟩:=I.list hx;have hlen:=r.length;refine⟨"list",_,slot_list_getitem.lookup,ht.isList.typeIs,?_⟩;refine wpAny_getItem_list_slice ht.isList hs pl pu .none (by simp) ?_ (by rw[ZT]<;>lia);rw[jf,<-hlen];refine⟨.ref s.z,_,I.laid (t':=s.toks) (o:=.lst (AJ xs lo hi)) (λb ob q=>Z4 _ q) (ZU _) ?_,rfl,q _ (I.hok.fresh (ZU _))⟩;exact⟨Zn (mN xs lo hi) hz,_,0,(r.drop (HT.sIx xs.length 0 lo)).take (HT.sIx xs.length xs.length hi - HT.sIx xs.length 0 lo),ZN _ rfl⟩
def kL:ff X (.builtin "len") (λxs H Q=>∃p ys,xs=[.ref p]/\(SqL X.K H p ys\/SqT X.K H p ys)/\Q (.int ys.length) H):=by
 intro pins s σ H xs us Q I r h;obtain⟨p,ys,rfl,hq,q⟩:=h;obtain⟨u,rfl,rx⟩:=gE r;cases rx;have hn:=j5;rcases hq with hq|hq
 .obtain⟨its,r',pl,hz⟩:=I.list hq
  have hlen:=r'.length;exact Calls.call_len_list pl.isList (by simp only[ZT]<;>lia) ⟨.int ys.length,H,I.tok _,⟨s.toks+1,by rw[ZT,hlen]⟩,q⟩
 .obtain⟨its,r',pl,hz⟩:=I.tuple hq
  have hlen:=r'.length;exact len_tuple pl (by simp only[ZT]<;>lia) ⟨.int ys.length,H,I.tok _,⟨s.toks+1,by rw[ZT,hlen]⟩,q⟩
def ln:ff X (.type "list") (λxs H Q=>∃p ys,xs=[.ref p]/\(SqL X.K H p ys\/SqT X.K H p ys)/\∀l,H l=M->Q (.ref l) (upd H l (.lst ys))):=by
 intro pins s σ H xs us Q I r h;obtain⟨p,ys,rfl,hq,q⟩:=h;obtain⟨u,rfl,rx⟩:=gE r;cases rx;have fin:∀(its:Z9 Z3),aab ys its->ys.length<=sizeLine->∀(h':Heap)(c':Nat),(∀b o',s.heap.get? b=U o'->h'.get? b=U o')->
   h'.get? s.z=U {cls:=.type "list",dict:=M,data:=.seq its.toArray c',slots:=#[]}->EP X pins σ Q (.ref s.z) {s with heap:=h'}:=λits r' hz h' c' kp e=>
  ⟨.ref s.z,_,I.laid (t':=s.toks) kp (ZU _) (show aal X.prog X.w _ h' _ (.lst ys) from⟨hz,its,c',r',e⟩),rfl,q _ (I.hok.fresh (ZU _))⟩
 rcases hq with hq|hq
 .obtain⟨its,r',pl,hz⟩:=I.list hq
  have hlen:=r'.length;obtain⟨o,ho,hc,n,hd⟩:=pl.isList;exact call_list_seq p (.inl rfl) ho hc hd (λh' c' kp e=>fin its r' hz h' c' kp e) (by simp only[ZT]<;>lia)
 .obtain⟨its,r',pl,hz⟩:=I.tuple hq
  have hlen:=r'.length;obtain⟨o,ho,hc,n,hd⟩:=pl;exact call_list_seq p (.inr rfl) ho hc hd (λh' c' kp e=>fin its r' hz h' c' kp e) (by simp only[ZT]<;>lia)
def iQ:ff X (.type "tuple") (λxs H Q=>∃p ys,xs=[.ref p]/\((SqL X.K H p ys/\∀l,H l=M->Q (.ref l) (upd H l (.tup ys)))\/(SqT X.K H p ys/\Q (.ref p) H))):=by
 intro pins s σ H xs us Q I r h;obtain⟨p,ys,rfl,h⟩:=h;obtain⟨u,rfl,rx⟩:=gE r;cases rx;rcases h with⟨hq,q⟩|⟨hq,q⟩
 .obtain⟨its,r',pl,hz⟩:=I.list hq
  have hlen:=r'.length;refine call_tuple_list pl.isList (λh' kp=>?_) (by simp only[ZT]<;>lia);have I1:Inv X pins σ H {s with heap:=h'}:=I.kept (t':=s.toks) kp;have I2:Inv X pins σ (upd H h'.objs.size (.tup ys)) {s with heap:=h'.push {cls:=.type "tuple",data:=.seq its.toArray}}:=
   I1.laid (t':=s.toks) (λb o e=>Z4 _ e) (ZU _) (show aal X.prog X.w _ _ _ (.tup ys) from⟨hz,its,r',IsTup.new _ _⟩)
  exact⟨.ref h'.objs.size,_,I2,rfl,q _ (I1.hok.fresh (ZU _))⟩
 obtain⟨its,r',pl,hz⟩:=I.tuple hq;exact call_tuple_same pl ⟨.ref p,H,I,rfl,q⟩
def tyV(K:Z5)(T:String)(x:V)(H:Hp):Prop:=match x with
 |.str _=>T="str"
 |.int _=>T="int"
 |.ref p=>(T="list"/\∃xs,SqL K H p xs)\/(T="tuple"/\∃o,K.lookup p=U o/\o.cls=.type "tuple"/\o.dict=M)\/
   (T="dict"/\∃kvs,H p=U (.dK kvs))
 |_=>False
def Cz(I:Inv X pins σ H s)(r:RelV x v)(ty:tyV X.K T x H):
  s.TypeIs v T/\∀a,v=.ref a->∃ob,s.heap.get? a=U ob/\ob.dict=M:=by
 cases x with
 |str z=>
  obtain⟨t,rfl⟩:=r;cases (show T="str" from ty);exact⟨typeIs_str s z t,λ_ e=>nomatch e⟩
 |int i=>
  obtain⟨t,rfl⟩:=r;cases (show T="int" from ty);exact⟨typeIs_int s i t,λ_ e=>nomatch e⟩
 |ref p=>
  cases r;rcases ty with⟨rfl,xs,hq⟩|⟨rfl,o,hk,hc,hd⟩|⟨rfl,kvs,hk⟩;obtain⟨its,_,pl,_⟩:=I.list hq;refine⟨pl.isList.typeIs,λa e=>?_⟩;cases e;obtain⟨o,n,e,c,hd,_⟩:=pl;exact⟨o,e,hd⟩;refine⟨⟨o,I.kIn p o hk,hc⟩,λa e=>?_⟩;cases e;exact⟨o,I.kIn _ o hk,hd⟩;obtain⟨_,_,_,_,o,_,_,e,ex,_⟩:=I.hok p _ hk;refine⟨⟨o,e,ex.1⟩,λa e2=>?_⟩;cases e2;exact⟨o,e,ex.2.1⟩
 |_=>exact False.elim ty
def tBM(K:Z5)(T:String)(r:V->Z9 V->Hp->VK->Prop)(to:TE)(t:TA):TE:=λσ H Q=>to σ H λx H1=>tyV K T x H1/\t σ H1 λxs H2=>r x xs H2 Q
variable{o e:Expr}{es:Z9 Expr}{to:TE}{t:TA}{name:Str}{apos i_:Pos}{T id:String}{r:V->Z9 V->Hp->VK->Prop}
def qx(pa:PlainAttrs T)(slot:Slot T name id)(Py:typeOf (.builtin id)=pure (.type "method_descriptor"))(hm:MtR X id r)(ho:PE X o to)(ha:PA X (e::es) t)(mc:Mc X.env o name e es apos i_):
  PE X (.Call (.Attribute o name apos) (e::es) [] i_) (tBM X.K T r to t):=by
 intro pins s σ H Q I h;refine wpAny_Call_method_late mc.b mc.f mc.l rfl (thn (ho pins s σ H _ I h) λv s1 hz=>?_);obtain⟨x,H1,I1,r1,ty,q1⟩:=hz;obtain⟨h1,h2⟩:=Cz I1 r1 ty;refine⟨T,id,pa,slot,Py,h1,h2,?_⟩;have hA:=ha i_ pins s1 σ H1 _ I1 q1;rw[mc.s]at hA⊢;refine Calls.callWith_builtin (by show(Y||(backTo i_ (starEach es X.env)).any (·.1))=Y;rw[mc.p]<;>rfl) (Calls.evalArgs_plain ?_);exact thn hA λus s2 hz=>by obtain⟨vs,H2,I2,r2,q2⟩:=hz;exact hm pins s2 σ H2 x vs v us Q I2 r1 r2 q2
end
def MtM(X:Cx)(id:String)(r:V->Z9 V->Hp->VK->Prop):Prop:=
 ∀(pins:Z9 (ZM×Obj))(s:ZR)(σ:St)(H:Hp)(x:V)(xs:Z9 V)(v:Z3)(us:Z9 Z3)(Q:VK),Inv X pins σ H s->RelV x v->aab xs us->r x xs H Q->
  wpAny (model X.prog X.w) X.A (call (.builtin id) (v::us)) (EP X pins σ Q) X.xe s
def aab.one(h:aab [x] us):∃u,us=[u]/\RelV x u:=gE h
def aab.two(h:aab [x,y] us):∃u v,us=[u,v]/\RelV x u/\RelV y v:=by
 cases h with
 |cons r t=>
  obtain⟨u,rfl,q⟩:=gE t;exact⟨_,u,rfl,r,q⟩
section
def Inv.abL{its its':Z9 Z3}{f:Array Z3->Array Z3}{t':Nat}(I:Inv X pins σ H s)(hH:H l=U (.lst xs))(e:s.heap.get? l=U {cls:=.type "list",data:=.seq its.toArray n})(hf:f its.toArray=its'.toArray)(hv:aab ys its')(hz:ys.length<=sizeLine):
  Inv X pins σ (upd H l (.lst ys)) {s with heap:=s.heap.update l (Obj.mapSeq f),toks:=t'}:=by
 have q:=PySem.IsL.update e f;rw[hf]at q;refine I.write (x:=l) (e:=l) (by rw[hH];exact trivial) (.inl rfl) (λb' u hb hu=>(Zo s.heap (Obj.mapSeq f) (ZA hb)).trans hu) ⟨_,q⟩ ?_;exact⟨hz,its',_,hv,q⟩
def Inv.acG(I:Inv X pins σ H s)(hv:aab ys its)(hz:ys.length<=sizeLine):
  Inv X pins σ (upd H s.z (.lst ys)) {s with heap:=s.heap.push {cls:=.type "list",data:=.seq its.toArray},toks:=t'}:=
 I.laid (λ_ _ q=>Z4 _ q) (ZU _) ⟨hz,its,0,hv,ZN _ rfl⟩
theorem Inv.fresh(I:Inv X pins σ H s):H s.z=M:=I.hok.fresh (ZU _)
def Inv.ace(I:Inv X pins σ H s)(hH:H l=U (.lst xs)):xs.length<=sizeLine/\∃(its:Z9 Z3)(n:Nat),aab xs its/\xs.length=its.length/\s.heap.get? l=U {cls:=.type "list",data:=.seq its.toArray n}:=by
 obtain⟨z,its,n,r,e⟩:=I.hok l _ hH;exact⟨z,its,n,r,r.length,e⟩
def vG(h:n<=sizeLine):Builtin.List.listTooLong n=Y:=by
 unfold Builtin.List.listTooLong;exact ZE (by lia)
end
section
def acd:V->Z9 V->Hp->VK->Prop:=λx vs H Q=>∃l xs y,x=.ref l/\vs=[y]/\H l=U (.lst xs)/\xs.length<sizeLine/\Q .non (upd H l (.lst (xs++[y])))
def jV:MtM X "list.append" acd:=by
 intro pins s σ H x vs v us Q I rx rv h;obtain⟨l,xs,y,rfl,rfl,hH,hz,q⟩:=h;cases rx;obtain⟨u,rfl,ru⟩:=rv.one;obtain⟨z,its,n,r,hl,e⟩:=I.ace hH;refine Wn F.slot_list_append ⟨_,e,rfl⟩ F.entry_list_append (F.args_list_append_2 _ _) (PySem.list_append l its.toArray n u (by rw[ZT];lia)) ⟨e,?_⟩;refine⟨.non,_,I.abL (its':=its++[u]) hH e (by simp) (r.append (.cons ru .nil)) ?_,rfl,q⟩;rw[Zy,List.length_singleton];lia
def acb:V->Z9 V->Hp->VK->Prop:=λx vs H Q=>∃l b xs zs,x=.ref l/\vs=[.ref b]/\H l=U (.lst xs)/\H b=U (.lst zs)/\xs.length+zs.length<=sizeLine/\Q .non (upd H l (.lst (xs++zs)))
def tu:MtM X "list.extend" acb:=by
 intro pins s σ H x vs v us Q I rx rv h;obtain⟨l,b,xs,zs,rfl,rfl,hH,hB,hz,q⟩:=h;cases rx;obtain⟨u,rfl,ru⟩:=rv.one;cases ru;obtain⟨z,its,n,r,hl,e⟩:=I.ace hH;obtain⟨z2,ka,n2,r2,RS,e2⟩:=I.ace hB;have hsz:its.toArray.size+ka.toArray.size<=sizeLine:=by rw[ZT,ZT];lia
 have NT:¬(!its.toArray.isEmpty&&Builtin.List.listTooLong (its.toArray.size+ka.toArray.size))=L:=by
  rw[vG hsz,XC];exact Zh
 refine Wn F.slot_list_extend ⟨_,e,rfl⟩ F.entry_list_extend (F.args_list_extend_2 _ _)
  (AutoSeq1.list_extend_list_list_0 l its.toArray n b ka.toArray n2 NT (by rw[ZT];lia) (by lia)) ⟨e,e2,?_⟩
 refine⟨.non,_,I.abL (its':=its++ka) hH e (by simp) (r.append r2) ?_,rfl,q⟩;rw[Zy];lia
end
section
set_option maxRecDepth 100000 in
end
section
end
end L2
namespace Att
open PySem PySem.W PySem.Calls PyProof.Rows
def fV:∀(ns:Z9 Int)(vs:Z9 Z3),WellAll P h vs (ns.map WData.int)->IntsAre vs ns:=by
 intro ns
 induction ns with
 |nil=>
  intro vs w;rw[YO]at w;cases w;exact .nil
 |cons n ns ih=>
  intro vs w;rw[Z2]at w;cases w with
  |cons a b=>
   cases a;exact .cons _ _ (ih _ b)
def rT{l:OpenLaw}(hn:l.most=U n)(Lg:l.row.toRowW.claim.pre args=L)(Pt:WellAll P h vals args):
  ∃a vs ns,vals=[Value.ref a]/\args=[WData.list (ns.map WData.int)]/\h.get? a=U {cls:=.type "list",data:=.seq vs.toArray}/\IntsAre vs ns/\ns.length<=n:=by
 have PB:WShape.hasAll [] args [.list .int]=L:=(pre_splitW Lg).1;have hc:l.pre.holds [] {args:=args}=L:=(pre_splitW Lg).2;obtain⟨d,r,rfl,h1,h2⟩:=hasAllW_cons PB;obtain rfl:=hasAllW_nil h2;obtain⟨xs,rfl,h3⟩:=hasW_list h1;obtain⟨ns,rfl⟩:=items_int h3;have hlen:ns.length<=n:=by
  unfold OpenLaw.pre at hc;have h4:(WTm.not (.lt (.lit (.int (n:Int))) (.len (.arg 0)))).holds [] {args:=[.list (ns.map .int)]}=L:=by
   have h4:=(holds_andW hc).1;rw[hn]at h4;exact h4
  have h5:=condW_of h4 (w_not (w_lt w_lit (w_len_list (w_arg rfl))));rw[ZY]at h5;refine Nat.le_of_not_lt λq=>?_;have q':(n:Int)<((ns.length:Nat):Int):=by lia
  first
   |(rw[Zw q']at h5;exact absurd h5 (by decide))
   |(simp at h5;lia)
 cases Pt with
 |cons w1 w2=>
  cases w2;cases w1 with
  |list ho w_=>exact⟨_,_,ns,rfl,rfl,ho,fV ns _ w_,hlen⟩
def tm(l:OpenLaw)(args:Z9 WData):l.row.toRowW.claim.post args (.bool L) args=L:=
 postW_of (r:=l.row.toRowW) (X:=(L==L))
  (show WShape.has [] (.bool L) .bool=L by first|rfl|decide|simp[WShape.has,WShape.arms,WShape.armsAll])
  (show(WTm.eq .res (.lit (.bool L))).value [] {args:=args,res:=U (.bool L),after:=args}=U (.bool (L==L)) from w_eq_bool (w_res rfl) w_lit) rfl
def abG{l:OpenLaw}{YP:YK->Heap->Prop}{d:DefRec}(hn:l.most=U n)(MR:d.params.defaults=[])(call:∀(w:YK)(n_ g_:ZR)(mg mb:Str->Z7 Z3)(fa:ZM)(o:Obj)(pm cd doc:Z3)(a:ZM)(vs:Z9 Z3)(ns:Z9 Int),
   Ground q loose [] XP w n_ mg mb g_.heap->YP w g_.heap->
   g_.heap.get? fa=U o->o.data=.func (docDef d.name d.params d.body d.scope pm cd doc)->g_.heap.CodeRec cd d.name->mg d.name=U (.ref fa)->
   g_.heap.get? a=U {cls:=.type "list",data:=.seq vs.toArray}->IntsAre vs ns->ns.length<=n->g_.gens=#[]->
   codeAny (model l.prog w) callerA (.call (.ref fa) ⟨[.ref a],[]⟩) (λr s'=>r=.ok (.ret (.bool L))/\OldK g_.heap s'.heap/\s'.os=g_.os/\AllBare s'.gens) g_):
  WalkO q loose XP YP l.row.toRowW d [] (λf vs=>PySem.call f vs):=by
 intro w n_ g_ mg mb G Yq fa o pm cd doc dV kV ho hd HZ hD hmg hg args vals as Lg VU RC Pt Jx;obtain rfl:dV=.none:=Dflts.none hD MR;obtain rfl:kV=.none:=Dflts.noKw hD;obtain⟨a,vs,ns,rfl,rfl,Me,hints,hlen⟩:=rT hn Lg Pt;refine enter_call (WW (call w n_ g_ mg mb fa o pm cd doc a vs ns G Yq ho (fd_plain hd) HZ hmg Me hints hlen hg) λr s' hq=>?_);obtain⟨rfl,h2,h3,h4⟩:=hq;exact⟨.inl ⟨.bool L,.bool L,[],rfl,λ_=>rfl,.bool L,tm l _,λ_=>⟨List.Pairwise.nil,λ_ hm=>(nomatch hm)⟩⟩,h2,h3,h4⟩
section
end
end Att
namespace L2
open PySem PySem.Spec PyProof.Rows
variable[Lams]
theorem kR:∀{vs:Z9 Z3}{ns:Z9 Int},IntsAre vs ns->aab (ns.map V.int) vs
 |_,_,.nil=>.nil
 |_,_,.cons n t h=>.cons ⟨t,rfl⟩ (kR h)
def ER(H:Hp):Prop:=∀b,H b=M\/(∃o xs,H b=U (.frz o (.lst xs)))\/∃lq,H b=U (.tbl lq #[])
def d8:Hp:=λb=>match Lams.tb.find? (λq=>q.1==b)with
 |some q=>U (.tbl q.2 #[])
 |none=>M
def bG(h:d8 b=U u):∃q∈Lams.tb,b=q.1/\u=.tbl q.2 #[]:=by
 unfold d8 at h;split at h;rename_i q e;obtain rfl:=Z8 h;have h1:=List.find?_some e;exact⟨q,W6 e,(Zx.mp h1).symm,rfl⟩;trivial
def ja(LY:∀q∈Lams.tb,∀r∈Lams.tb,q.1=r.1->q=r)(hq:q∈Lams.tb):d8 q.1=U (.tbl q.2 #[]):=by
 unfold d8;cases e:Lams.tb.find? (λr=>r.1==q.1)with
 |none=>exact absurd (Xs.mp e q hq) (by simp)
 |some r=>
  have h1:=Zx.mp (List.find?_some (p:=λr:ZM×Str=>r.1==q.1) e);rw[LY r (W6 e) q hq h1]
def wN{K:Z5}{g_:ZR}{vs:Z9 Z3}(KX:K.In g_.heap)(Ou:g_.heap.Ns mainGlobals mg)(hb:g_.heap.Ns builtinsNs mb)(UT:∀x:Str,x≠"__name__"->mb x=bootBuiltins x)(E_:g_.heap.NoLimit)(hg:g_.gens=#[])(ha:g_.heap.get? a=U {cls:=.type "list",data:=.seq vs.toArray})(hi:IntsAre vs ns)(hl:ns.length<=sizeLine)(hr:aan k callerA)(F:∀base:Heap,K.In base->base.Ns mainGlobals mg->abg P w K mg base CX k fa fd [x] sp)(KO:∀(s:ZR)(u:Z3),BindsTo s fd ⟨[u],[]⟩ [(x,u)])(Lv:∀H:Hp,ER H->SqL K H a (ns.map V.int)->sp [.ref a] H (λv _=>v=.bl L) λ_ _ _=>False)(Qc:∀H e s',CX [] H g_ (λ_ _ _=>False) e s'->False)(US:∃bm ob,mg "__builtins__"=U (.ref bm)/\bm≠builtinsNs/\g_.heap.get? bm=U ob/\ob.cls=.type "module"/\ob.dict=U builtinsNs/\ob.data=.plain)(hT:∀q∈Lams.tb,g_.heap.get? q.1=U {cls:=.none,data:=.fields #[]}/\K.lookup q.1=M/\isCodeTable g_.heap q.1)(LY:∀q∈Lams.tb,∀r∈Lams.tb,q.1=r.1->q=r):
  codeAny (model P w) callerA (.call (.ref fa) ⟨[.ref a],[]⟩) (λr s'=>r=.ok (.ret (.bool L))/\OldK g_.heap s'.heap/\s'.os=g_.os/\AllBare s'.gens) g_:=by
 have rv:=kR hi;have Qw:=hi.length;have core:∀H:Hp,ER H->SqL K H a (ns.map V.int)->HOk P w H g_.heap->(∀b,H b≠M->(b=a/\K.lookup a=M)\/∃q∈Lams.tb,b=q.1)->abX H->
   codeAny (model P w) callerA (.call (.ref fa) ⟨[.ref a],[]⟩) (λr s'=>r=.ok (.ret (.bool L))/\OldK g_.heap s'.heap/\s'.os=g_.os/\AllBare s'.gens) g_:=by
  intro H hO hS hok hA U0;have Iw:∀{b:ZM}{o:Obj},g_.heap.get? b=U o->H b=M->(wI g_.heap H).get? b=U o:=λe n=>xn e n;have Nu:∀{b:ZM}{o:Obj},g_.heap.get? b=U o->o≠{cls:=.type "list",data:=.seq vs.toArray}->o≠{cls:=.none,data:=.fields #[]}->H b=M:=λ{b o} e n1 n2=>by
   cases q:H b with
   |none=>rfl
   |some u=>
    rcases hA b (by rw[q];simp)with⟨z,_⟩|⟨r,hr,z⟩;subst z;rw[ha]at e;exact absurd (Z8 e).symm n1;subst z;rw[(hT r hr).1]at e;exact absurd (Z8 e).symm n2
  have M6:∀{b:ZM}{o:Obj}{es:Array DictEntry}{ep:Nat},g_.heap.get? b=U o->o.data=.dict es ep->H b=M:=λ{b o es ep} e d=>
   Nu e (λz=>by subst z;trivial) λz=>by subst z;trivial
  have Oe:∀{b:ZM}{m:Str->Z7 Z3},g_.heap.Ns b m->(wI g_.heap H).Ns b m:=λ{b m} ⟨o,es,ep,e,d,r⟩=>⟨o,es,ep,Iw e (M6 e d),d,r⟩
  have So:K.In (wI g_.heap H):=λb o e=>Iw (KX b o e) (by
   cases q:H b with
   |none=>rfl
   |some u=>
    rcases hA b (by rw[q];simp)with⟨z,z2⟩|⟨r,hr,z⟩;subst z;rw[z2]at e;trivial;subst z;rw[(hT r hr).2.1]at e;trivial)
  have hM:Mod K mg (wI g_.heap H):=⟨So,Oe Ou,⟨mb,Oe hb,UT⟩,let ⟨mc,h1,h2⟩:=E_;⟨mc,Oe h1,h2⟩,by
   obtain⟨bm,ob,b1,b2,b3,b4,b5⟩:=US;exact⟨bm,ob,b1,b2,Iw b3 (Nu b3 (λz=>by subst z;cases b5.2) λz=>by subst z;cases b5.2),b4,b5⟩⟩
  have e0:abn P w K mg (wI g_.heap H) callerA [] g_ H:=⟨rfl,hM,λb o e=>AL e,Nat.le_of_eq (rJ _ _),trivial,λb hb=>absurd (show b∈([]:Z9 ZM) from hb) (by simp),hok,.of_eq hg,U0⟩
  refine WW ((F _ So (Oe Ou)).run callerA [] g_ H ⟨[.ref a],[]⟩ [.ref a] [.ref a] _ _ hr e0 (KO g_ (.ref a)) (.cons rfl .nil) (Lv H hO hS)) λr s' h=>?_;cases r with
  |error e=>exact(Qc H e s' h).elim
  |ok fl=>
   cases fl with
   |next=>exact False.elim h
   |brk=>exact False.elim h
   |cont=>exact False.elim h
   |ret u=>
    obtain⟨v,H',os,bare,un,NI,r',q⟩:=h;have q':v=.bl L:=q;subst q';obtain rfl:u=Value.bool L:=r';refine⟨rfl,⟨λb o e=>?_,λb o e=>un.there b o e (by simp)⟩,os,bare⟩;cases q:H b with
    |none=>exact .inl (un.keep b o e q (by intro z;exact absurd (show b∈([]:Z9 ZM) from z) (by simp)) (by simp))
    |some u=>
     rcases hO b with z|⟨ob,xs,z⟩|⟨lq,z⟩;rw[q]at z;trivial;have z2:=un.aaW b ob _ z;obtain⟨e1,_⟩:=hok b _ z;obtain⟨e2,_⟩:=NI b _ z2;rw[e]at e1;obtain rfl:=Z8 e1;exact .inl e2;obtain⟨more,z2⟩:=un.aa5 b lq _ z;obtain⟨e1,_⟩:=hok b _ z;obtain⟨e2,_⟩:=NI b _ z2;rw[e]at e1;obtain rfl:=Z8 e1;rcases hA b (by rw[q];simp)with⟨y,_⟩|⟨r,hr,y⟩;subst y;rw[ha]at e;cases e;subst y;exact .inr (.inl ⟨(hT r hr).2.2,rfl,#[],more,rfl,e2⟩)
 have S_:d8 a=M:=by
  cases q:d8 a with
  |none=>rfl
  |some u=>
   obtain⟨r,hr,e,_⟩:=bG q;have:=(hT r hr).1;rw[<-e,ha]at this;cases this
 have tok:∀(H:Hp) b u,d8 b=U u->aal P w H g_.heap b u:=λH b u z=>by
  obtain⟨r,hr,e,rfl⟩:=bG z;subst e;exact⟨(hT r hr).1,trivial,λpos cv e=>by cases e⟩
 cases hk:K.lookup a with
 |some o=>
  have e:=KX a o hk;rw[ha]at e;obtain rfl:=Z8 e;refine core d8 (λb=>?_) (.inr ⟨_,vs.toArray,_,hk,rfl,rfl,rfl,by rw[ZT,Qw];exact hl,by simpa using rv⟩) (λb u z=>tok _ b u z) (λb z=>?_) λq hq=>⟨_,ja LY hq⟩
  cases q:d8 b with
  |none=>exact .inl rfl
  |some u=>obtain⟨r,hr,e,rfl⟩:=bG q;exact .inr (.inr ⟨_,rfl⟩)
  cases q:d8 b with
  |none=>exact absurd q z
  |some u=>obtain⟨r,hr,e,_⟩:=bG q;exact .inr ⟨r,hr,e⟩
 |none=>
  refine core (λb=>if b=a then U (.frz {cls:=.type "list",data:=.seq vs.toArray} (.lst (ns.map V.int))) else d8 b) (λb=>?_) (.inl (.inr ⟨{cls:=.type "list",data:=.seq vs.toArray},ZO rfl⟩)) (λb u z=>?_) (λb z=>?_) λq hq=>⟨#[],?_⟩
  by_cases hb:b=a;exact .inr (.inl ⟨_,_,ZO hb⟩);cases q:d8 b with
  |none=>exact .inl ((ZJ hb).trans q)
  |some u=>obtain⟨r,hr,e,rfl⟩:=bG q;exact .inr (.inr ⟨_,(ZJ hb).trans q⟩)
  by_cases hb:b=a;have z':=(ZO hb).symm.trans z;obtain rfl:=Z8 z';subst hb;exact⟨ha,by rw[ZY];exact hl,vs,_,rv,ha⟩;exact tok _ b u ((ZJ hb).symm.trans z);by_cases hb:b=a;exact .inl ⟨hb,hk⟩;cases q:d8 b with
  |none=>exact absurd ((ZJ hb).trans q) z
  |some u=>obtain⟨r,hr,e,_⟩:=bG q;exact .inr ⟨r,hr,e⟩
  have t_:q.1≠a:=λz=>by rw[<-z,ja LY hq]at S_;trivial
  exact(ZJ t_).trans (ja LY hq)
abbrev CX0:CXT:=λ_ _ _ _ _ _=>False
abbrev E0:XK:=λ_ _ _=>False
def Ei:s0 CX0 X E0:=λ_ _ _ _ _ _ _ h=>h.elim
structure Fun (K:Z5)(x qual:Str)(st:Stmt)(f:ZM)(fd:FuncData):Prop where
 ex:∃(oc:Z3)(od:Z7 ZM)(kV doc pm:Z3)(an:Z7 ZM)(HM ct:Z3)(MI:Array (Z7 Z3)),
  fd=PySem.W.fnOf x qual (defArgs st) (defBody st) (defScope st) .none kV doc pm an HM ct/\K.lookup f=some ⟨oc,od,.func fd,MI⟩/\PySem.W.codeIn K HM qual=true
 kp:PySem.W.keepIn K (.ref f)=true
section
variable{P:YX}{w:YK}{K:Z5}{mg:Str->Z7 Z3}{base:Heap}
def Fun.ok{x qual:Str}{st:Stmt}{f:ZM}{fd:FuncData}{N ps:Z9 Str}{k:Nat}{sp:Sp}(F:Fun K x qual st f fd)(S:aaB N ps (defScope st))(len:∀vs H Q E,sp vs H Q E->vs.length=ps.length)
  (HR:∀(A:Za)(outer:Z9 Env)(s:ZR)(H:Hp)(vs:Z9 V)(Q:VK)(E:XK),aan k (A.deeper (envOfC qual (defScope st) s.z f fd.code))->sp vs H Q E->
   ∃t,PSs (qw CX0 P w K mg base N qual (defScope st) f fd.code A outer s H E).nox (defBody st) t/\t {nx:=λ_ H'=>Q .non H',rt:=Q} (dg N vs) H):abg P w K mg base CX0 (k+1) f fd ps sp:=by
 obtain⟨oc,od,kV,doc,pm,an,HM,ct,MI,rfl,lk,HZ⟩:=F.ex;refine Dy lk HZ S len λA outer s H vs Q E hr Lv=>?_;obtain⟨t,h,q⟩:=HR A outer s H vs Q E hr Lv;exact⟨t,h.nox,q⟩
def Fun.binds{x qual:Str}{st:Stmt}{f:ZM}{fd:FuncData}{ps:Z9 Str}(F:Fun K x qual st f fd)
  (h:∀(kV doc pm:Z3)(an:Z7 ZM)(HM ct:Z3)(us:Z9 Z3),us.length=ps.length->bindArgs (PySem.W.fnOf x qual (defArgs st) (defBody st) (defScope st) .none kV doc pm an HM ct) ⟨us,[]⟩=pure (ps.zip us)):Binds K fd ps []:=by
 obtain⟨oc,od,kV,doc,pm,an,HM,ct,MI,rfl,lk,HZ⟩:=F.ex;exact .all (h kV doc pm an HM ct)
end
section
end
def zh{A B:Prop}(h:B):if Y=L then A else B:=by
 rw[ZJ Zh];exact h
def Ar{A B:Prop}(h:A):if L=L then A else B:=by
 rw[ZO rfl];exact h
def HO.nt:HO->Bool
 |.tbl _ _=>Y
 |_=>L
abbrev HOn:={o:HO // o.nt=L}
def HOn.ok(o:HOn):HO.nt o.1=L:=o.2
structure aae (H H':Hp):Prop where
 get:∀b o,o.nt=true->H b=some o->H' b=some o
 tbl:∀b lq ps,H b=some (.tbl lq ps)->∃more,H' b=some (.tbl lq (ps++more))
theorem aae.app{H H':Hp}(s:aae H H')(b:ZM)(o:HO)(h:H b=U o)(n:o.nt=L:=by first|rfl|assumption|exact HOn.ok _):H' b=U o:=s.get b o n h
noncomputable instance aae.fn {H H':Hp}:CoeFun (aae H H') (λ_=>∀(b:ZM)(o:HO)(h:H b=U o)(n:o.nt=L:=by first|rfl|assumption|exact HOn.ok _),H' b=U o):=⟨@aae.app _ H H'⟩
def aae.refl(H:Hp):aae H H:=⟨λ_ _ _ h=>h,λb lq ps h=>⟨#[],by rw[Array.append_empty];exact h⟩⟩
def aae.trans(a:aae H H1)(b:aae H1 H2):aae H H2:=⟨λc o n h=>b.get c o n (a.get c o n h),λc lq ps h=>by
 obtain⟨m1,e1⟩:=a.tbl c lq ps h;obtain⟨m2,e2⟩:=b.tbl c lq _ e1;exact⟨m1++m2,by rw[e2,Array.append_assoc]⟩⟩
def aae.there(e:aae H H')(q:H l=U o):∃o',H' l=U o':=by
 cases n:o.nt with
 |true=>exact⟨o,e.get l o n q⟩
 |false=>
  cases o with
  |tbl lq ps=>obtain⟨m,q'⟩:=e.tbl l lq ps q;exact⟨_,q'⟩
  |_=>trivial
def aae.free(e:aae H H')(h:H' l=Option.none):H l=Option.none:=by
 cases q:H l with
 |none=>rfl
 |some o=>
  obtain⟨o',q'⟩:=e.there q;rw[q']at h;trivial
def aae.keep(e:aae Hk H)(k:∀c o o',Hk c=U o'->H c=U o->H' c=U o):aae Hk H':=
 ⟨λc o n q=>k c o o q (e.get c o n q),λc lq ps q=>by
  obtain⟨m,q'⟩:=e.tbl c lq ps q;exact⟨m,k c _ _ q q'⟩⟩
def aae.put(e:aae Hk H)(h:Hk b=M):aae Hk (upd H b o):=
 e.keep λc o' o2 q1 q2=>by rw[ai (av q1 h)];exact q2
def aae.seq{K:Z5}{H H':Hp}{a:ZM}{xs:Z9 V}(e:aae H H')(h:SqL K H a xs):SqL K H' a xs:=by
 rcases h with(h|⟨o,h⟩)|h;exact .inl (.inl (e _ _ h));exact .inl (.inr ⟨o,e _ _ h⟩);exact .inr h
section
variable{κ:Type}[DecidableEq κ]
def w8{kvs:Z9 (κ×V)}{k:κ}(h:dZ kvs k=M):¬k∈kvs.map (·.1):=by
 intro m;obtain⟨p,hp,e⟩:=ZV.mp m;have q:(kvs.any λkv=>decide (kv.1=k))=L:=XR.mpr ⟨p,hp,Zw e⟩;rw[dT,h]at q;exact absurd q (by simp)
end
noncomputable abbrev aE(X:Cx)(scope:Scope)(cl:Z9 (Str×ZM))(C:ZM)(a_:ZR)(b_:Hp)(ex:Z9 ZM)(pn:Z9 (ZM×Obj)):Cx:=
 {X with n_:=a_,J7:=b_,env:=compEnvC scope cl C X.env,outer:=X.stack,stack:=X.stack,ex:=ex,fn:=λ_=>Y,pn:=pn,xe:=λ_ _=>False}
def mask(bs:Z9 Bool)(σ:St):St:=List.zipWith (λ(b:Bool) o=>if b=L then o else M) bs σ
def dv(h:bs.length=σ.length):(mask bs σ).length=σ.length:=by
 unfold mask;rw[List.length_zipWith,h,Nat.min_self]
def wG{bs:Z9 Bool}{σ:St}{i:Nat}{v:V}(h:(mask bs σ)[i]?=U (U v)):bs[i]?=U L/\σ[i]?=U (U v):=by
 unfold mask at h;rw[Wt]at h;cases e1:bs[i]? with
 |none=>rw[e1]at h;simp at h
 |some b=>
  cases e2:σ[i]? with
  |none=>rw[e1,e2]at h;simp at h
  |some o=>
   rw[e1,e2]at h;simp only[ZF]at h;cases b with
   |false=>simp at h
   |true=>simp at h;exact⟨rfl,by rw[h]⟩
def PTs(X:Cx)(ifs:Z9 Expr)(t:TT):Prop:=
 ∀(pins:Z9 (ZM×Obj))(s:ZR)(σ:St)(H:Hp)(Q:Bool->Hp->Prop),Inv X pins σ H s->t σ H Q->
  wpAny (model X.prog X.w) X.A (forIn ifs L λc r=>if r=L then do let ok <-isTrue c X.env (eval c X.env);pure (ForInStep.yield ok) else pure (ForInStep.yield r)) (TP X pins σ Q) X.xe s
def acA:TT:=λ_ H Q=>Q L H
def zQ:PTs X [] acA:=λpins s σ H Q I h=>wpAny_tests_nil ⟨H,I,h⟩
def AZ(h:PT X c t):PTs X [c] t:=λpins s σ H Q I hq=>wpAny_tests_one (h pins s σ H Q I hq)
noncomputable def cV(env:Env):Z9 (Str×NameKind)->Z9 (Str×ZM)->Z9 (Str×ZM)
 |[],acc=>acc
 |(n,k)::r,acc=>if(k==NameKind.free)=L then cV env r ((n,(env.cells.lookup n).getD 0)::acc) else cV env r acc
theorem i9(env:Env):∀(names:Z9 (Str×NameKind))(acc:Z9 (Str×ZM)),(∀y∈names,y.2=.free->∃c,env.cells.lookup y.1=U c)->
  (forIn names acc (λ(x:Str×NameKind) (cs:Z9 (Str×ZM))=>(match x with
   |(name,kind)=>if(kind==.free)=L then(do let c <-cellOf env name;pure (ForInStep.yield ((name,c)::cs))) else pure (ForInStep.yield cs):Sem (ForInStep (Z9 (Str×ZM))))))=pure (cV env names acc)
 |[],acc,_=>rfl
 |(n,k)::r,acc,h=>by
  by_cases hk:k=.free;subst hk;obtain⟨c,e⟩:=h (n,.free) ZX rfl;have ih:=i9 env r ((n,c)::acc) λy hy=>h y (Z1 _ hy);have ec:cellOf env n=pure c:=by unfold cellOf;rw[e]
  rw[Wy];simp only[Yo,Y_,ec,pure_bind];rw[ih];simp only[cV,Yo,Y_,e,Option.getD_some]
  .have hb:(k==NameKind.free)=Y:=by simpa using hk
   have ih:=i9 env r acc λy hy=>h y (Z1 _ hy);rw[Wy];simp only[hb,ZZ,Zm,pure_bind];rw[ih]
   conv=>rhs;rw[cV.eq_def]
   simp only[hb,ZZ,Zm]
theorem cZ(env:Env):∀(names:Z9 (Str×NameKind))(acc:Z9 (Str×ZM)),(∀y∈names,y.2=.free->∃c,env.cells.lookup y.1=U c)->
  (∀x c,acc.lookup x=U c->env.cells.lookup x=U c)->∀x c,(cV env names acc).lookup x=U c->env.cells.lookup x=U c
 |[],acc,_,ha=>ha
 |(n,k)::r,acc,h,ha=>by
  have hr:∀y∈r,y.2=.free->∃c,env.cells.lookup y.1=U c:=λy hy=>h y (Z1 _ hy);unfold cV;by_cases hk:(k==NameKind.free)=L;rw[ZO hk];obtain⟨c,e⟩:=h (n,k) ZX (eq_of_beq hk);refine cZ env r _ hr λx d hx=>?_;rw[List.lookup_cons]at hx;cases q:x==n with
  |true=>
   rw[q,e]at hx;rw[eq_of_beq q,e];simpa using hx
  |false=>rw[q]at hx;exact ha x d hx
  rw[ZJ hk];exact cZ env r acc hr ha
theorem dP(env:Env)(x:Str):∀(names:Z9 (Str×NameKind))(acc:Z9 (Str×ZM)),((x,NameKind.free)∈names\/∃c,acc.lookup x=some c)->∃c,(cV env names acc).lookup x=some c
 |[],acc,h=>by
  rcases h with h|h;trivial;exact h
 |(n,k)::r,acc,h=>by
  unfold cV;by_cases hk:(k==NameKind.free)=true;rw[ZO hk];refine dP env x r _ ?_;by_cases q:(x==n)=true;exact .inr ⟨_,by rw[List.lookup_cons,q]⟩;rcases h with h|⟨c,h⟩;rcases Z0.mp h with h|h;cases h;simp at q;exact .inl h;exact .inr ⟨c,by rw[List.lookup_cons];simp[q,h]⟩;rw[ZJ hk];refine dP env x r _ ?_;rcases h with h|h;rcases Z0.mp h with h|h;cases h;simp at hk;exact .inl h;exact .inr h
def dF(h:∀y∈scope.names,y.2=.free->∃c,env.cells.lookup y.1=U c):closureFor scope env=pure (cV env scope.names []):=by
 have e:=i9 env scope.names [] h;have q:closureFor scope env=((forIn scope.names [] (λ(x:Str×NameKind) (cs:Z9 (Str×ZM))=>(match x with
   |(name,kind)=>if(kind==.free)=L then(do let c <-cellOf env name;pure (ForInStep.yield ((name,c)::cs))) else pure (ForInStep.yield cs):Sem (ForInStep (Z9 (Str×ZM)))))) >>= λcs=>pure cs):=rfl
 rw[q,e,pure_bind]
theorem bu{env:Env}:∀{names:Z9 (Str×NameKind)}{x:Str}{k:NameKind},
  (names.map λ(n,k)=>if(k==NameKind.free&&env.scope.kind==.function&&env.kindOf n==U .cell) then(n,NameKind.cell) else(n,k)).lookup x=U k->
  names.lookup x=U k\/(names.lookup x=U .free/\k=.cell)
 |[],_,_,h=>by simp at h
 |(n,k')::r,x,k,h=>by
  have ih:=@bu env r x k;have h':List.lookup x ((if(k'==NameKind.free&&env.scope.kind==.function&&env.kindOf n==U .cell)=L then(n,NameKind.cell) else(n,k'))::(r.map λ(n,k)=>if(k==NameKind.free&&env.scope.kind==.function&&env.kindOf n==U .cell) then(n,NameKind.cell) else(n,k)))=U k:=h;by_cases hc:(k'==NameKind.free&&env.scope.kind==.function&&env.kindOf n==U .cell)=L;rw[ZO hc]at h';rw[List.lookup_cons]at h'⊢;cases hx:x==n with
  |true=>
   rw[hx]at h';simp at h';have:k'=.free:=by
    have:=hc;simp only[ZK]at this;exact eq_of_beq this.1.1
   exact .inr ⟨by rw[this],h'.symm⟩
  |false=>rw[hx]at h';exact ih h'
  rw[ZJ hc]at h';rw[List.lookup_cons]at h'⊢;cases hx:x==n with
  |true=>rw[hx]at h';exact .inl h'
  |false=>rw[hx]at h';exact ih h'
noncomputable def uD(wi:TI)(bs:Z9 Bool)(g:TG)(tt:TT)(te:TE):TE:=λσ H Q=>wi σ H λJ H1=>∀acc,H1 acc=M->
 ∃W:Nat->Nat->Z9 V->St->Hp->Prop,(∃m,W 0 m [] (mask bs σ) (upd H1 acc (.lst [])))/\∀i m ys σ H,W i m ys σ H->H acc=U (.lst ys)/\
  ((J.stop i H/\Q (.ref acc) H)\/(J.go i H/\∀x H',J.yld i H x H'->g x σ H' λIo H2=>tt Io H2 λok H3=>if ok=L
   then te Io H3 λv H4=>H4 acc=U (.lst ys)/\ys.length<sizeLine/\∃m',m'<m/\W (i+1) m' (ys++[v]) Io (upd H4 acc (.lst (ys++[v])))
   else ∃m',m'<m/\W (i+1) m' ys Io H3))
section
variable{X:Cx}{scope:Scope}{bs:Z9 Bool}
structure aag (X:Cx)(scope:Scope)(bs:List Bool):Prop where
 kind:scope.kind=.function
 cell:∀y∈scope.names,y.2≠.cell
 loc:∀y∈scope.names,y.2=.local->scope.names.lookup y.1=some .local
 fre:∀y∈scope.names,y.2=.free->scope.names.lookup y.1=some .free/\(X.env.kindOf y.1=some .cell\/X.env.kindOf y.1=some .free)
 len:bs.length=X.N.length
 vis:∀(i:Nat)(x:Str),X.N[i]?=some x->bs[i]?=some true->scope.names.lookup x=some .free
theorem aag.has(S:aag X scope bs)(I:Inv X pins σ H s):∀y∈scope.names,y.2=.free->∃c,X.env.cells.lookup y.1=U c:=λy hy e=>I.ok.has y.1 (S.fre y hy e).2
def vc{h':Heap}{m:Str->Z7 Z3}(S:aag X scope bs)(I:Inv X pins σ H s)(hf:∀b∈fp,eU X pins H b)(ho:∀b∈fp,∃o,s.heap.get? b=U o)
  (Ou:h'.Ns s.z m)(hk:∀b o,s.heap.get? b=U o->h'.get? b=U o){t':Nat}:
  Inv (aE X scope (cV X.env scope.names []) s.z s H fp (X.pn++pins)) [] (mask bs σ) H {s with heap:=h',toks:=t'}:=by
 have hh:=S.has I;have cons:=cZ X.env scope.names [] hh (λx c e=>by simp at e);refine⟨⟨I.ok.mod,S.kind,I.ok.glob,I.ok.blt,ZU _,λx y c h1 h2=>I.ok.inj x y c (cons x c h1) (cons y c h2),λx hx=>?_,(λx c h=>nomatch h),I.ok.hd,I.ok.frames,.inl rfl,λb hb=>⟨?_,λx c e=>(hf b hb).2.2.2.2.1 x c (cons x c e)⟩,
  I.bs,Zn I.ok.bsz I.sz,λb o e hb=>?_,λb hb z=>?_,I.stack,I.abO,I.ok.tabs.to I.base.aa5⟩,
  rfl,I.bare,Un.kept hk,⟨m,Ou,λi x v e1 e2 e3=>?_⟩,λx c e=>?_,I.hok.fresh (ZU _),λx c e=>I.aaU x c (cons x c e),λp hp=>?_,I.hok.kept hk,?_⟩
 have I_:(relabel scope X.env).names.lookup x=U .cell\/(relabel scope X.env).names.lookup x=U .free:=hx;have key:(x,NameKind.free)∈scope.names:=by
  rcases I_ with q|q;rcases bu q with q|⟨q,_⟩;exact absurd rfl (S.cell _ (YJ q));exact YJ q;rcases bu q with q|⟨_,q⟩;exact YJ q;trivial
 exact dP X.env x scope.names [] (.inl key);obtain⟨o,e⟩:=ho b hb;exact Zv (ZQ e);rcases(hf b hb).2.2.2.1 with z|z;exact I.ok.ab5 b o e z;exact absurd (ZD (ZQ (I.ok.bs b o e).1) z) (Zd _);rcases Z0.mp (I.aba b z)with q|q;exact(hf b hb).2.1 q;exact(hf b hb).2.2.1 q;obtain⟨hb,hs⟩:=wG e2;have Kc:=S.vis i x e1 hb;obtain⟨_,RV⟩:=S.fre _ (YJ Kc) rfl;obtain⟨m0,RM,hl⟩:=I.loc;have QA:Vis X.env.scope x:=RV.elim (λz=>.inr (.inl z)) λz=>.inr (.inr z)
 obtain⟨u,ru,lk⟩:=hl i x v e1 hs QA;refine⟨u,ru,.inr ⟨?_,?_⟩⟩;rcases e3 with q|q|q;rcases bu (show(relabel scope X.env).names.lookup x=U .local from q)with q|⟨_,q⟩;rw[Kc]at q;trivial;trivial;exact .inl q;exact .inr q;rcases lk with⟨kl,_⟩|⟨_,c,ec,ic⟩;rcases RV with z|z;rw[kl]at z;trivial;rw[kl]at z;trivial;obtain⟨c',e'⟩:=dP X.env x scope.names [] (.inl (YJ Kc));have Sy:=cons x c' e';rw[ec]at Sy;obtain rfl:=Z8 Sy;obtain⟨o,q1,q2⟩:=ic;exact⟨c,e',o,hk c o q1,q2⟩;obtain⟨v,o,q1,q2⟩:=I.cell x c (cons x c e);exact⟨v,o,hk c o q1,q2⟩;have HY:p∈X.pn++pins:=by
  have q:p∈(X.pn++pins)++([]:Z9 (ZM×Obj)):=hp;rwa[Y0]at q
 obtain⟨e,n,ne,nf,d⟩:=I.pin p HY;refine⟨hk _ _ e,n,Zv (ZQ e),λz=>?_,d⟩;rcases Z0.mp (I.aba p.1 z)with q|q;exact ne q;exact nf q;rw[dv (by rw[S.len,I.len])];exact I.len
def wR(I:Inv X pins σ H s)(hf:∀b∈fp,eU X pins H b)(J:Inv (aE X scope cl C s H fp (X.pn++pins)) HQ h_ H' s'):Inv X pins σ H' s':=by
 refine I.acI (ch:=fp) J.os J.base J.hok J.bare λb hb=>?_;obtain⟨f0,f1,f2,f3,f4,f5⟩:=hf b hb;exact⟨f3,f1,f4,f5⟩
end
section
def l9(I:Nat->ZR->Prop)(turn:∀n s,I n s->wpAny (model prog w) A (pyNext it) (λr g_=>match r with
   |none=>R (.ok .next) g_
   |some v=>wpAny (model prog w) A (letOwnedTupleGo target it v) (λ_ g_=>wpAny (model prog w) A (assign target env v) (λ_ a_=>
     wpAny (model prog w) A (forIn ifs L λc r=>if r=L then do let ok <-isTrue c env (eval c env);pure (ForInStep.yield ok) else pure (ForInStep.yield r)) (λok IK=>
      if ok=L then wpAny (model prog w) A (eval elt env) (λx Le=>
       wpAny (model prog w) A (call (.builtin "list.append") [acc,x]) (λ_ Nv=>∃m,m<n/\I m Nv) (λ_ _=>False) Le) (λ_ _=>False) IK
      else ∃m,m<n/\I m IK) (λ_ _=>False) a_) (λ_ _=>False) g_) (λ_ _=>False) g_) (λ_ _=>False) s) (n:Nat) (h:I n s):
  codeAny (model prog w) A (.compLoop (.ListComp elt [⟨target,iter,ifs,0⟩] scope pos) 0 it acc env) R s:=by
 refine codeAny_loop rfl I (λn s hI=>?_) n h;show wpAny _ A ((compTurn (.ListComp elt [⟨target,iter,ifs,0⟩] scope pos) 0 it acc env).onRaise (λx=>do noteFrame x env;theTreesLotGoes x)) _ _ s;refine wpAny_noted ?_;rw[compTurn_list];refine Z_ (wpAny_standAt (Z_ (YL (turn n s hI) (λr g_ HI=>?_) λ_ _ h'=>h'.elim)));cases r with
 |none=>exact Z6 HI
 |some v=>
  refine Z_ (YL HI (λ_ SG NR=>?_) λ_ _ h'=>h'.elim);refine Z_ (YL NR (λ_ a_ Kn=>Z_ (YL Kn (λok IK Lf=>?_) λ_ _ h'=>h'.elim)) λ_ _ h'=>h'.elim);cases ok with
  |false=>exact Z6 ⟨rfl,Lf⟩
  |true=>
   exact Z_ (Z_ (YL Lf (λx Le Qz=>Z_ (YL Qz (λ_ Nv Qy=>Z6 (Z6 ⟨rfl,Qy⟩)) λ_ _ h'=>h'.elim)) λ_ _ h'=>h'.elim))
end
section
variable{X:Cx}
def ie{pins:Z9 (ZM×Obj)}{σ:St}{H:Hp}{s:ZR}{it:ZM}{fp:Z9 ZM}{tn:Nat->Heap->Prop}{J:It}{Q:VK}{E:Z3->ZR->Prop}{RR:Z3->ZM->Result->ZR->Prop}
  (hc:X.calm=L) (S:aag X scope bs)
  (hg:∀cl C a_ b_ ex pn,PG (aE X scope cl C a_ b_ ex pn) tg g) (ht:∀cl C a_ b_ ex pn,PTs (aE X scope cl C a_ b_ ex pn) ifs tt) (he:∀cl C a_ b_ ex pn,PE (aE X scope cl C a_ b_ ex pn) elt te)
  (I:Inv X pins σ H s) (T:Turn X.prog X.w X.K tg J fp it tn) (st:tn 0 s.heap) (hf:∀b∈fp,eU X pins H b)
  (hq:∀acc,H acc=M->
   ∃W:Nat->Nat->Z9 V->St->Hp->Prop,(∃m,W 0 m [] (mask bs σ) (upd H acc (.lst [])))/\∀i m ys σ H,W i m ys σ H->H acc=U (.lst ys)/\
    ((J.stop i H/\Q (.ref acc) H)\/(J.go i H/\∀x H',J.yld i H x H'->g x σ H' λIo H2=>tt Io H2 λok H3=>if ok=L
     then te Io H3 λv H4=>H4 acc=U (.lst ys)/\ys.length<sizeLine/\∃m',m'<m/\W (i+1) m' (ys++[v]) Io (upd H4 acc (.lst (ys++[v])))
     else ∃m',m'<m/\W (i+1) m' ys Io H3)))
  (U4:∀D C s' H' m',Inv X pins σ H' s'->Q (.ref D) H'->s'.heap.Ns C m'->H' C=M->C≠X.env.locals->C∉X.fs->X.n_.heap.objs.size<=C->(∀x c,X.env.cells.lookup x=U c->c≠C)->(∀p∈X.pn++pins,p.1≠C)->
   RR (.ref D) C (.ok .next) s'):
  wpAny (model X.prog X.w) X.A (newList []) (λacc IK=>wpAny (model X.prog X.w) X.A (newFunctionEnv scope X.env.globals (cV X.env scope.names []) [] X.env.qual M .none (U X.env)) (λNO Le=>
   codeAny (model X.prog X.w) X.A (.compStart (.ListComp elt [⟨tg,iter,ifs,0⟩] scope pos) 0 (.ref it) acc {NO with scope:=relabel scope X.env}) (RR acc NO.locals) Le) E IK) E s:=by
 refine Y3 ?_;have Kc:H s.heap.objs.size=M:=I.fresh;have I3:Inv X pins σ (upd H s.heap.objs.size (.lst [])) {s with heap:=s.heap.push {cls:=.type "list",dict:=M,data:=.seq ([]:Z9 Z3).toArray}}:=I.acG (its:=[]) (t':=s.toks) .nil (Zu _);have Tf:tn 0 (s.heap.push {cls:=.type "list",dict:=M,data:=.seq ([]:Z9 Z3).toArray}):=T.keep _ _ _ st λb _ o e=>Z4 _ e;have j_:∀b∈fp,b<s.heap.objs.size:=λb hb=>by
  obtain⟨o,e,_⟩:=T.obj _ _ st b hb;exact ZQ e
 have f3:∀b∈fp,eU X pins (upd H s.heap.objs.size (.lst [])) b:=λb hb=>⟨by rw[ai (Zv (j_ b hb))];exact(hf b hb).1,(hf b hb).2⟩
 obtain⟨W,⟨m0,w0⟩,turn⟩:=hq s.heap.objs.size Kc;generalize q_:s.heap.objs.size=acc at*;generalize Ue:({s with heap:=s.heap.push {cls:=.type "list",dict:=M,data:=.seq ([]:Z9 Z3).toArray}}:ZR)=s3 at*;have Nw:tn 0 s3.heap:=by rw[<-Ue];exact Tf
 refine wpAny_newFunctionEnv S.cell (λy hy=>by simp at hy) (λHI Mx Mw=>?_) S.kind;have keep:∀b o,s3.heap.get? b=U o->HI.get? b=U o:=λb o e=>(Mw.2 b (Zv (ZQ e))).trans (Z4 _ e);have Rh:∀b∈fp,∃o,s3.heap.get? b=U o:=λb hb=>by
  obtain⟨o,e,_⟩:=T.obj _ _ Nw b hb;exact⟨o,e⟩
 have I4:=vc (t':=s3.toks+([]:Z9 (Str×Z3)).length) S I3 f3 Rh Mx keep;have Q4:tn 0 HI:=T.keep _ _ _ Nw λb _ o e=>keep b o e;have Jj:∀{H':Hp}{pl:Z9 (ZM×Obj)},(∀b∈fp,H' b=M)->∀b∈fp,eU (aE X scope (cV X.env scope.names []) s3.heap.objs.size s3 (upd H acc (.lst [])) fp (X.pn++pins)) [] H' b:=λ{H' pl} hn b hb=>by
  obtain⟨_,f1,f2,f3',f4,f5⟩:=f3 b hb;obtain⟨o,e⟩:=Rh b hb;refine⟨hn b hb,Zv (ZQ e),λz=>?_,.inl hb,λx c e=>f4 x c (cZ X.env scope.names [] (S.has I3) (λx c e=>by simp at e) x c e),λp hp=>?_⟩;rcases Z0.mp (I3.aba b z)with q|q;exact f1 q;exact f2 q;have q:p∈(X.pn++pins)++([]:Z9 (ZM×Obj)):=hp;rw[Y0]at q;exact f5 p q
 let X':Cx:=aE X scope (cV X.env scope.names []) s3.heap.objs.size s3 (upd H acc (.lst [])) fp (X.pn++pins)
 have loop:∀s5:ZR,s5={s3 with heap:=HI,toks:=s3.toks+([]:Z9 (Str×Z3)).length}->
   codeAny (model X.prog X.w) X.A (.compLoop (.ListComp elt [⟨tg,iter,ifs,0⟩] scope pos) 0 (.ref it) (.ref acc) (compEnvC scope (cV X.env scope.names []) s3.heap.objs.size X.env)) (RR (.ref acc) s3.heap.objs.size) s5:=by
  rintro s5 rfl
  refine l9 (λn s'=>∃i ys h_ H',Inv (aE X scope (cV X.env scope.names []) s3.heap.objs.size s3 (upd H acc (.lst [])) fp (X.pn++pins)) [] h_ H' s'/\tn i s'.heap/\(∀b∈fp,H' b=M)/\W i n ys h_ H') ?_ m0
   ⟨0,[],mask bs σ,upd H acc (.lst []),I4,Q4,λb hb=>(f3 b hb).1,w0⟩
  intro n s6 hz;obtain⟨i,ys,MA,H6,I6,Q3,Su,w6⟩:=hz;obtain⟨hac,way⟩:=turn i n ys MA H6 w6;rcases way with⟨stop,qn⟩|⟨go,step⟩
  .refine thn (T.done X' rfl rfl rfl hc i [] s6 MA H6 (λ_ _=>False) I6 (Jj (pl:=[]) Su) Q3 stop) λr s7 hz=>?_
   obtain⟨hr,I7⟩:=hz;subst hr;obtain⟨m',K8,_⟩:=I7.loc;have IX:=wR (C:=s3.heap.objs.size) I3 f3 I7;refine U4 acc s3.heap.objs.size s7 H6 m' IX qn K8 I7.free (Nat.ne_of_gt I3.lt) (I3.acq (ZU _)) I3.sz (λx c e z=>?_) λp hp z=>?_;obtain⟨v,q⟩:=I3.cell x c e;exact absurd q.lt (by rw[z];exact Zd _);exact absurd (ZQ (I3.pin p hp).1) (by rw[z];exact Zd _)
  refine thn (T.item X' rfl rfl rfl hc i [] s6 MA H6 (λ_ _=>False) I6 (Jj (pl:=[]) Su) Q3 go) λr s7 hz=>?_;obtain⟨u,hr,h7⟩:=hz;subst hr;refine thn h7 λ_ s8 hz=>?_;obtain⟨x,H8,I8,r8,y8,OY,Vg⟩:=hz;have VH:=I8.pinned (Jj (pl:=[]) Vg) (T.obj _ _ OY);refine thn (hg _ _ _ _ _ _ _ s8 MA H8 x u _ VH r8 (step x H8 y8)) λ_ s9 hz=>?_;obtain⟨MV,H9,I9,q9⟩:=hz;refine thn (ht _ _ _ _ _ _ _ s9 MV H9 _ I9 q9) λok Ti hz=>?_;obtain⟨SF,Qo,Oa⟩:=hz;have back:∀{h_:St}{H':Hp}{s':ZR},Inv (aE X scope (cV X.env scope.names []) s3.heap.objs.size s3 (upd H acc (.lst [])) fp (X.pn++pins)) ([]++kM fp s8.heap) h_ H' s'->tn (i+1) s'.heap/\∀b∈fp,H' b=M:=λ{h_ H' s'} K=>by
   refine⟨T.keep _ _ _ OY λb hb o e=>(K.pin (b,o) (ZI _ (ZI _ (da hb e)))).1,λb hb=>?_⟩;obtain⟨o,e,d⟩:=T.obj _ _ OY b hb;exact(K.pin (b,o) (ZI _ (ZI _ (da hb e)))).2.1
  cases ok with
  |false=>
   rw[ZJ Zh]at Oa⊢;obtain⟨m',hm,w'⟩:=Oa;obtain⟨b1,b2⟩:=back Qo;exact⟨m',hm,i+1,ys,MV,SF,Qo.aaV,b1,b2,w'⟩
  |true=>
   rw[ZO rfl]at Oa⊢;refine thn (he _ _ _ _ _ _ _ Ti MV SF _ Qo Oa) λy Th hz=>?_;obtain⟨v,SE,VJ,Ts,NW,hz,m',hm,w'⟩:=hz;have ap:=jV (X:=X') _ Th MV SE (.ref acc) [v] (.ref acc) [y] (λ(z:V) (H':Hp)=>H'=upd SE acc (.lst (ys++[v]))) VJ rfl (.cons Ts .nil) ⟨acc,ys,v,rfl,rfl,NW,hz,rfl⟩;refine thn ap λ_ VY hz=>?_;obtain⟨_,H12,SD,_,VB⟩:=hz;subst VB;obtain⟨b1,b2⟩:=back SD;exact⟨m',hm,i+1,ys++[v],MV,_,SD.aaV,b1,b2,w'⟩
 exact codeAny_compStart_list (loop _ rfl) (T.self _ 0 _ _ _ Q4 (loop _ rfl))
def zX(hc:X.calm=L)(hi:PI X tg iter wi)(S:aag X scope bs)(hg:∀cl C a_ b_ ex pn,PG (aE X scope cl C a_ b_ ex pn) tg g)(ht:∀cl C a_ b_ ex pn,PTs (aE X scope cl C a_ b_ ex pn) ifs tt)(he:∀cl C a_ b_ ex pn,PE (aE X scope cl C a_ b_ ex pn) elt te)(hs:∀x,foldedSetIterable iter X.env x=pure x:=by intro _;rfl):PE X (.ListComp elt [⟨tg,iter,ifs,0⟩] scope pos) (uD wi bs g tt te):=by
 intro pins s σ H Q I h;rw[eval_ListComp];refine wpAny_comprehension_free (use:=M) rfl hs (dF (S.has I)) S.kind S.loc (thn (hi pins s σ H _ I h) λv s1 h1=>thn h1 λOh s2 h2=>?_);obtain⟨it,fp,tn,J,H2,e,I2,T,MX,f2,hq⟩:=h2;subst e;refine ie (RR:=λacc C=>compPost (model X.prog X.w) X.A X.xe M (EP X pins σ Q) acc C) hc S hg ht he I2 T MX f2 hq ?_;intro D C s' H' m' I' q' hn hC hL hF hz Jb hp;refine⟨m',hn,λVc Mb=>⟨.ref D,H',?_,rfl,q'⟩⟩;exact I'.turned (t':=s'.toks) (λb o hb e=>(Mb.2 b hb).trans e) hC hL (.inr hz) Jb hp
def uv(hc:X.calm=L)(hi:PI X tg iter wi)(S:aag X scope bs)(hg:∀cl C a_ b_ ex pn,PG (aE X scope cl C a_ b_ ex pn) tg g)(ht:∀cl C a_ b_ ex pn,PTs (aE X scope cl C a_ b_ ex pn) ifs tt)(he:∀cl C a_ b_ ex pn,PE (aE X scope cl C a_ b_ ex pn) elt te)(hN:X.N.Nodup)(PX:X.N[i]?=U y)(hy:X.env.scope.names.lookup y=U .local)(JJ:swapsWith (.ListComp elt [⟨tg,iter,ifs,0⟩] scope pos) (U (.Name y py)) Jk.line X.env=pure L:=by rfl)(hs:∀x,foldedSetIterable iter X.env x=pure x:=by intro _;rfl):PS X (.Assign [.Name y py] (.ListComp elt [⟨tg,iter,ifs,0⟩] scope pos) Jk) (zo (uD wi bs g tt te) (gF i)):=by
 intro pins s σ H D I h;rw[exec_Assign_Name_used _ _ _ _ JJ];refine Z_ (wpAny_standAt (Z_ ?_));show wpAny _ X.A (do let _ <-comprehension (.ListComp elt [⟨tg,iter,ifs,0⟩] scope pos) scope X.env _ (newList []) Y (eval iter X.env) (U (assign (.Name y py) X.env))) _ _ s;refine Z_ (YL (wpAny_comprehension_free (use:=U (assign (.Name y py) X.env)) (Q:=λ_ s'=>SP X pins D .next s') rfl hs (dF (S.has I)) S.kind S.loc
  (thn (hi pins s σ H _ I h) λv s1 h1=>thn h1 λOh s2 h2=>?_)) (λ_ s' hq=>Z6 (Z6 hq)) λ_ _ e=>e)
 obtain⟨it,fp,tn,J,H2,e,I2,T,MX,f2,hq⟩:=h2;subst e;refine ie (Q:=λx H1=>gF i x σ H1 D.nx) (RR:=λacc C=>compPost (model X.prog X.w) X.A X.xe (U (assign (.Name y py) X.env)) (λ_ s'=>SP X pins D .next s') acc C) hc S hg ht he I2 T MX f2 hq ?_;intro A C s' H' m' I' q' hn hC hL hF hz Jb hp;show wpAny _ X.A (assign (.Name y py) X.env (.ref A)) _ _ _;refine wpAny_assign_Name (lm I' hN PX (.inl hy) (v:=.ref A) rfl (λs2 I2 Jv=>?_) (.inr hy));obtain⟨a,sb,ha⟩:=Jv;have Va:C≠a:=by
  rcases ha with z|z;rw[z];exact hL;exact λq=>Jb y a z q.symm
 refine⟨m',hn.sameBut sb Va,λVc Mb=>⟨σ.set i (U (.ref A)),H',?_,q'⟩⟩;exact I2.turned (t':=s2.toks) (λb o hb e=>(Mb.2 b hb).trans e) hC hL (.inr hz) Jb hp
end
mutual
def D.flat:D->Bool
 |.non=>L|.bl _=>L|.int _=>L|.str _=>L
 |.tup ds=>D.aaH ds
 |.lst _=>Y|.dK _ _=>Y|.dD _ _=>Y
def D.aaH:Z9 D->Bool
 |[]=>L
 |d::ds=>d.flat&&D.aaH ds
end
theorem D.aa0:∀ds:Z9 D,D.aaH ds=ds.all D.flat
 |[]=>rfl
 |d::ds=>by simp only[D.aaH,mq,D.aa0 ds]
def abm(K:Z5)(B:ZM->Prop)(H:Hp)(a:ZM)(xs:Z9 V):Prop:=
 (B a/\H a=U (.lst xs))\/(∃o,H a=U (.frz o (.lst xs)))\/
  ∃(o:Obj)(its:Array Z3)(n:Nat),K.lookup a=U o/\o.cls=.type "list"/\o.dict=M/\o.data=.seq its n/\its.size<=sizeLine/\aab xs its.toList
def abm.sq{K:Z5}{B:ZM->Prop}{H:Hp}{a:ZM}{xs:Z9 V}(h:abm K B H a xs):SqL K H a xs:=by
 rcases h with⟨_,h⟩|⟨o,h⟩|h;exact .inl (.inl h);exact .inl (.inr ⟨o,h⟩);exact .inr h
def abU(B:ZM->Prop)(H:Hp)(a:ZM)(kvs:Z9 (Key×V)):Prop:=(B a/\H a=U (.dK kvs))\/∃o,H a=U (.frz o (.dK kvs))
def abV(B:ZM->Prop)(H:Hp)(a:ZM)(kvs:Z9 (D×V)):Prop:=∃ep,(B a/\H a=U (.dD kvs ep))\/∃o,H a=U (.frz o (.dD kvs ep))
mutual
def Rep(K:Z5)(B:ZM->Prop)(H:Hp):D->V->Prop
 |.non,v=>v=.non
 |.bl b,v=>v=.bl b
 |.int i,v=>v=.int i
 |.str x,v=>v=.str x
 |.tup ds,v=>∃a xs,v=.ref a/\H a=U (.tup xs)/\M1 K B H ds xs
 |.lst ds,v=>∃a xs,v=.ref a/\abm K B H a xs/\M1 K B H ds xs
 |.dK ks ds,v=>∃a kvs,v=.ref a/\abU B H a kvs/\kvs.map (·.1)=ks/\M1 K B H ds (kvs.map (·.2))
 |.dD ks ds,v=>∃a kvs,v=.ref a/\abV B H a kvs/\kvs.map (·.1)=ks/\M1 K B H ds (kvs.map (·.2))
def M1(K:Z5)(B:ZM->Prop)(H:Hp):Z9 D->Z9 V->Prop
 |[],xs=>xs=[]
 |d::ds,xs=>∃x r,xs=x::r/\Rep K B H d x/\M1 K B H ds r
end
structure Ext (B:ZM->Prop)(H H':Hp):Prop where
 aa1:∀a xs,H a=some (.tup xs)->H' a=some (.tup xs)
 aaW:∀a o u,H a=some (.frz o u)->H' a=some (.frz o u)
 abE:∀a,B a->H' a=H a
def Ext.refl:Ext B H H:=⟨λ_ _ h=>h,λ_ _ _ h=>h,λ_ _=>rfl⟩
theorem Ext.trans(a:Ext B H H1)(b:Ext B H1 H2):Ext B H H2:=
 ⟨λx y h=>b.aa1 x y (a.aa1 x y h),λx y z h=>b.aaW x y z (a.aaW x y z h),λx h=>(b.abE x h).trans (a.abE x h)⟩
section
variable{K:Z5}{B B':ZM->Prop}{H H':Hp}
def abm.ext(h:abm K B H a xs)(e:Ext B H H'):abm K B H' a xs:=by
 rcases h with⟨b,h⟩|⟨o,h⟩|h;exact .inl ⟨b,(e.abE a b).trans h⟩;exact .inr (.inl ⟨o,e.aaW _ _ _ h⟩);exact .inr (.inr h)
def abm.more(h:abm K B H a xs)(e:∀a,B a->B' a):abm K B' H a xs:=by
 rcases h with⟨b,h⟩|h|h;exact .inl ⟨e a b,h⟩;exact .inr (.inl h);exact .inr (.inr h)
def abU.ext(h:abU B H a xs)(e:Ext B H H'):abU B H' a xs:=by
 rcases h with⟨b,h⟩|⟨o,h⟩;exact .inl ⟨b,(e.abE a b).trans h⟩;exact .inr ⟨o,e.aaW _ _ _ h⟩
def abV.ext(h:abV B H a xs)(e:Ext B H H'):abV B H' a xs:=by
 obtain⟨ep,h⟩:=h;rcases h with⟨b,h⟩|⟨o,h⟩;exact⟨ep,.inl ⟨b,(e.abE a b).trans h⟩⟩;exact⟨ep,.inr ⟨o,e.aaW _ _ _ h⟩⟩
mutual
theorem Rep.ext(e:Ext B H H'):∀{d:D}{v:V},Rep K B H d v->Rep K B H' d v
 |.non,v,h=>by simpa only[Rep]using h
 |.bl b,v,h=>by simpa only[Rep]using h
 |.int i,v,h=>by simpa only[Rep]using h
 |.str x,v,h=>by simpa only[Rep]using h
 |.tup ds,v,h=>by
  simp only[Rep]at h⊢;obtain⟨a,xs,hv,hq,hr⟩:=h;exact⟨a,xs,hv,e.aa1 _ _ hq,M1.ext e hr⟩
 |.lst ds,v,h=>by
  simp only[Rep]at h⊢;obtain⟨a,xs,hv,hq,hr⟩:=h;exact⟨a,xs,hv,hq.ext e,M1.ext e hr⟩
 |.dK ks ds,v,h=>by
  simp only[Rep]at h⊢;obtain⟨a,xs,hv,hq,hk,hr⟩:=h;exact⟨a,xs,hv,hq.ext e,hk,M1.ext e hr⟩
 |.dD ks ds,v,h=>by
  simp only[Rep]at h⊢;obtain⟨a,xs,hv,hq,hk,hr⟩:=h;exact⟨a,xs,hv,hq.ext e,hk,M1.ext e hr⟩
theorem M1.ext(e:Ext B H H'):∀{ds:Z9 D}{xs:Z9 V},M1 K B H ds xs->M1 K B H' ds xs
 |[],xs,h=>by simpa only[M1]using h
 |d::ds,xs,h=>by
  simp only[M1]at h⊢;obtain⟨x,r,hx,h1,h2⟩:=h;exact⟨x,r,hx,Rep.ext e h1,M1.ext e h2⟩
end
mutual
theorem Rep.more(e:∀a,B a->B' a):∀{d:D}{v:V},Rep K B H d v->Rep K B' H d v
 |.non,v,h=>by simpa only[Rep]using h
 |.bl b,v,h=>by simpa only[Rep]using h
 |.int i,v,h=>by simpa only[Rep]using h
 |.str x,v,h=>by simpa only[Rep]using h
 |.tup ds,v,h=>by
  simp only[Rep]at h⊢;obtain⟨a,xs,hv,hq,hr⟩:=h;exact⟨a,xs,hv,hq,M1.more e hr⟩
 |.lst ds,v,h=>by
  simp only[Rep]at h⊢;obtain⟨a,xs,hv,hq,hr⟩:=h;exact⟨a,xs,hv,hq.more e,M1.more e hr⟩
 |.dK ks ds,v,h=>by
  simp only[Rep]at h⊢;obtain⟨a,xs,hv,hq,hk,hr⟩:=h;exact⟨a,xs,hv,hq.imp (λz=>⟨e a z.1,z.2⟩) λz=>z,hk,M1.more e hr⟩
 |.dD ks ds,v,h=>by
  simp only[Rep]at h⊢;obtain⟨a,xs,hv,⟨ep,hq⟩,hk,hr⟩:=h;exact⟨a,xs,hv,⟨ep,hq.imp (λz=>⟨e a z.1,z.2⟩) λz=>z⟩,hk,M1.more e hr⟩
theorem M1.more(e:∀a,B a->B' a):∀{ds:Z9 D}{xs:Z9 V},M1 K B H ds xs->M1 K B' H ds xs
 |[],xs,h=>by simpa only[M1]using h
 |d::ds,xs,h=>by
  simp only[M1]at h⊢;obtain⟨x,r,hx,h1,h2⟩:=h;exact⟨x,r,hx,Rep.more e h1,M1.more e h2⟩
end
mutual
theorem Rep.flat:∀{d:D}{v:V},d.flat=L->Rep K B H d v->Rep K B' H d v
 |.non,v,_,h=>by simpa only[Rep]using h
 |.bl b,v,_,h=>by simpa only[Rep]using h
 |.int i,v,_,h=>by simpa only[Rep]using h
 |.str x,v,_,h=>by simpa only[Rep]using h
 |.tup ds,v,f,h=>by
  simp only[Rep]at h⊢;simp only[D.flat]at f;obtain⟨a,xs,hv,hq,hr⟩:=h;exact⟨a,xs,hv,hq,M1.flat f hr⟩
 |.lst ds,v,f,_=>by simp[D.flat]at f
 |.dK _ _,v,f,_=>by simp[D.flat]at f
 |.dD _ _,v,f,_=>by simp[D.flat]at f
theorem M1.flat:∀{ds:Z9 D}{xs:Z9 V},D.aaH ds=L->M1 K B H ds xs->M1 K B' H ds xs
 |[],xs,_,h=>by simpa only[M1]using h
 |d::ds,xs,f,h=>by
  simp only[M1]at h⊢;simp only[D.aaH,ZK]at f;obtain⟨x,r,hx,h1,h2⟩:=h;exact⟨x,r,hx,Rep.flat f.1 h1,M1.flat f.2 h2⟩
end
theorem M1.length:∀{ds:Z9 D}{xs:Z9 V},M1 K B H ds xs->ds.length=xs.length
 |[],xs,h=>by simp only[M1]at h;subst h;rfl
 |d::ds,xs,h=>by
  simp only[M1]at h;obtain⟨x,r,hx,h1,h2⟩:=h;subst hx;simp only[bO,M1.length h2]
def M1.nil:M1 K B H [] []:=by simp only[M1]
theorem M1.cons{d:D}{ds:Z9 D}{x:V}{xs:Z9 V}(h:Rep K B H d x)(t:M1 K B H ds xs):M1 K B H (d::ds) (x::xs):=by
 simp only[M1];exact⟨x,xs,rfl,h,t⟩
def M1.abI(h:M1 K B H (d::ds) (x::xs)):Rep K B H d x/\M1 K B H ds xs:=by
 simp only[M1]at h;obtain⟨y,r,e,h1,h2⟩:=h;cases e;exact⟨h1,h2⟩
theorem M1.get:∀{ds:Z9 D}{xs:Z9 V}{i:Nat}{d:D},M1 K B H ds xs->ds[i]?=U d->∃x,xs[i]?=U x/\Rep K B H d x
 |[],_,_,_,_,e=>by simp at e
 |d::ds,xs,0,e,h,he=>by
  simp only[M1]at h;obtain⟨x,r,hx,h1,h2⟩:=h;subst hx;simp at he;subst he;exact⟨x,rfl,h1⟩
 |d::ds,xs,i+1,e,h,he=>by
  simp only[M1]at h;obtain⟨x,r,hx,h1,h2⟩:=h;subst hx;exact M1.get (i:=i) h2 (by simpa using he)
def M1.get':∀{ds:Z9 D}{xs:Z9 V}{i:Nat}{x:V},M1 K B H ds xs->xs[i]?=U x->∃d,ds[i]?=U d/\Rep K B H d x:=λ{ds xs i x} h e=>by
 have hl:=h.length;have hi:i<ds.length:=by rw[hl];exact(ZP.mp e).1
 obtain⟨y,hy,r⟩:=h.get (i:=i) (d:=ds[i]) (by simp[hi]);rw[e]at hy;obtain rfl:=Z8 hy;exact⟨ds[i],by simp[hi],r⟩
theorem M1.append:∀{ds es:Z9 D}{xs ys:Z9 V},M1 K B H ds xs->M1 K B H es ys->M1 K B H (ds++es) (xs++ys)
 |[],es,xs,ys,h,t=>by simp only[M1]at h;subst h;simpa using t
 |d::ds,es,xs,ys,h,t=>by
  simp only[M1]at h;obtain⟨x,r,hx,h1,h2⟩:=h;subst hx;exact M1.cons h1 (M1.append h2 t)
theorem M1.take:∀{ds:Z9 D}{xs:Z9 V}(n:Nat),M1 K B H ds xs->M1 K B H (ds.take n) (xs.take n)
 |_,_,0,_=>by simp only[List.take_zero];exact M1.nil
 |[],xs,n+1,h=>by simp only[M1]at h;subst h;exact M1.nil
 |d::ds,xs,n+1,h=>by
  simp only[M1]at h;obtain⟨x,r,hx,h1,h2⟩:=h;subst hx;exact M1.cons h1 (M1.take n h2)
theorem M1.drop:∀{ds:Z9 D}{xs:Z9 V}(n:Nat),M1 K B H ds xs->M1 K B H (ds.drop n) (xs.drop n)
 |_,_,0,h=>h
 |[],xs,n+1,h=>by simp only[M1]at h;subst h;exact M1.nil
 |d::ds,xs,n+1,h=>by
  simp only[M1]at h;obtain⟨x,r,hx,h1,h2⟩:=h;subst hx;exact M1.drop n h2
end
abbrev Mk:=Z9 (Z7 (D×Bool))
def ObR(K:Z5)(B:ZM->Prop)(H:Hp)(d:D)(a:ZM):Prop:=match d with
 |.lst ds=>∃xs,H a=U (.lst xs)/\M1 K B H ds xs
 |.dK ks ds=>∃kvs,H a=U (.dK kvs)/\kvs.map (·.1)=ks/\M1 K B H ds (kvs.map (·.2))
 |.dD ks ds=>∃kvs,(∃ep,H a=U (.dD kvs ep))/\kvs.map (·.1)=ks/\M1 K B H ds (kvs.map (·.2))
 |_=>False
structure Rel (K:Z5)(B:ZM->Prop)(Hk:Hp)(δ:Mk)(σ:St)(H:Hp):Prop where
 same:aae Hk H
 bor:∀a,B a->∃o:HOn,Hk a=some o.1
 len:δ.length=σ.length
 var:∀(i:Nat) d,δ[i]?=some (some (d,false))->∃v,σ[i]?=some (some v)/\Rep K B H d v
 own:∀(i:Nat) d,δ[i]?=some (some (d,true))->∃a,σ[i]?=some (some (.ref a))/\Hk a=none/\ObR K B H d a
 dis:∀(i j:Nat) d e a,i≠j->δ[i]?=some (some (d,true))->δ[j]?=some (some (e,true))->σ[i]?=some (some (.ref a))->σ[j]?=some (some (.ref a))->False
def BO(B:ZM->Prop)(δ:Mk)(σ:St)(a:ZM):Prop:=B a\/∃(i:Nat)(d:D),δ[i]?=U (U (d,L))/\σ[i]?=U (U (.ref a))
def aZ(m:Bool)(B:ZM->Prop)(δ:Mk)(σ:St):ZM->Prop:=if m=L then BO B δ σ else B
section
variable{K:Z5}{B B':ZM->Prop}{Hk H H':Hp}{δ:Mk}{σ:St}
def aae.ext(s:aae H H')(b:∀a,B a->∃o:HOn,H a=U o.1):Ext B H H':=
 ⟨λa xs h=>s a _ h,λa o u h=>s a _ h,λa h=>by obtain⟨o,e⟩:=b a h;rw[e,s a o e]⟩
theorem ObR.ext(h:ObR K B H d a)(e:Ext B H H')(ha:∀o:HO,H a=U o->o.nt=L->H' a=U o):ObR K B H' d a:=by
 cases d with
 |lst ds=>obtain⟨xs,h1,h2⟩:=h;exact⟨xs,ha _ h1 rfl,h2.ext e⟩
 |dK ks ds=>obtain⟨xs,h1,h0,h2⟩:=h;exact⟨xs,ha _ h1 rfl,h0,h2.ext e⟩
 |dD ks ds=>obtain⟨xs,⟨ep,h1⟩,h0,h2⟩:=h;exact⟨xs,⟨ep,ha _ h1 rfl⟩,h0,h2.ext e⟩
 |_=>exact(show False from h).elim
def ObR.there(h:ObR K B H d a):∃o:HOn,H a=U o.1:=by
 cases d with
 |lst ds=>obtain⟨xs,h1,h2⟩:=h;exact⟨⟨_,rfl⟩,h1⟩
 |dK ks ds=>obtain⟨xs,h1,h0,h2⟩:=h;exact⟨⟨_,rfl⟩,h1⟩
 |dD ks ds=>obtain⟨xs,⟨ep,h1⟩,h0,h2⟩:=h;exact⟨⟨_,rfl⟩,h1⟩
 |_=>exact(show False from h).elim
def Rel.abx(R:Rel K B Hk δ σ H):∀a,B a->∃o:HOn,H a=U o.1:=λa h=>by
 obtain⟨o,e⟩:=R.bor a h;exact⟨o,R.same a o e⟩
def Rel.boH(R:Rel K B Hk δ σ H):∀a,BO B δ σ a->∃o:HOn,H a=U o.1:=λa h=>by
 rcases h with h|⟨i,d,h1,h2⟩;exact R.abx a h;obtain⟨b,e,_,ob⟩:=R.own i d h1;rw[h2]at e;cases e;exact ob.there
def Rel.bsH(R:Rel K B Hk δ σ H)(m:Bool):∀a,aZ m B δ σ a->∃o:HOn,H a=U o.1:=by
 unfold aZ;cases m with
 |true=>exact R.boH
 |false=>exact R.abx
def Rel.to(R:Rel K B Hk δ σ H)(s:aae H H'):Rel K B Hk δ σ H':=by
 have e:Ext B H H':=s.ext R.abx;refine⟨R.same.trans s,R.bor,R.len,λi d h=>?_,λi d h=>?_,R.dis⟩;obtain⟨v,h1,h2⟩:=R.var i d h;exact⟨v,h1,h2.ext e⟩;obtain⟨a,h1,h2,h3⟩:=R.own i d h;exact⟨a,h1,h2,h3.ext e λo q n=>s.get a o n q⟩
def Rep.same(r:Rep K (aZ m B δ σ) H d v)(R:Rel K B Hk δ σ H)(s:aae H H'):Rep K (aZ m B δ σ) H' d v:=r.ext (s.ext (R.bsH m))
def M1.same(r:M1 K (aZ m B δ σ) H d v)(R:Rel K B Hk δ σ H)(s:aae H H'):M1 K (aZ m B δ σ) H' d v:=r.ext (s.ext (R.bsH m))
def jn(m:Bool):∀a,B a->aZ m B δ σ a:=λa h=>by
 unfold aZ;cases m with
 |true=>exact .inl h
 |false=>exact h
def ObR.rep(h:ObR K B H d a)(hb:B' a)(hs:∀a,B a->B' a):Rep K B' H d (.ref a):=by
 cases d with
 |lst ds=>obtain⟨xs,h1,h2⟩:=h;simp only[Rep];exact⟨a,xs,rfl,.inl ⟨hb,h1⟩,h2.more hs⟩
 |dK ks ds=>obtain⟨xs,h1,h0,h2⟩:=h;simp only[Rep];exact⟨a,xs,rfl,.inl ⟨hb,h1⟩,h0,h2.more hs⟩
 |dD ks ds=>obtain⟨xs,⟨ep,h1⟩,h0,h2⟩:=h;simp only[Rep];exact⟨a,xs,rfl,⟨ep,.inl ⟨hb,h1⟩⟩,h0,h2.more hs⟩
 |_=>exact(show False from h).elim
end
def PE.imp(h:PE X e t)(i:∀σ H Q,t' σ H Q->t σ H Q):PE X e t':=λpins s σ H Q I q=>h pins s σ H Q I (i σ H Q q)
def PT.imp(h:PT X e t)(i:∀σ H Q,t' σ H Q->t σ H Q):PT X e t':=λpins s σ H Q I q=>h pins s σ H Q I (i σ H Q q)
def PW.imp(h:PW X e t)(i:∀σ H Q,t' σ H Q->t σ H Q):PW X e t':=λwhole pins s σ H Q I q=>h whole pins s σ H Q I (i σ H Q q)
def PA.imp(h:PA X e t)(i:∀σ H Q,t' σ H Q->t σ H Q):PA X e t':=λpos pins s σ H Q I q=>h pos pins s σ H Q I (i σ H Q q)
def PI.imp(h:PI X tg e t)(i:∀σ H Q,t' σ H Q->t σ H Q):PI X tg e t':=λpins s σ H Q I q=>h pins s σ H Q I (i σ H Q q)
def PS.imp(h:PS X e t)(i:∀D σ H,t' D σ H->t D σ H):PS X e t':=λpins s σ H D I q=>h pins s σ H D I (i D σ H q)
def PSs.imp(h:PSs X e t)(i:∀D σ H,t' D σ H->t D σ H):PSs X e t':=λpins s σ H D I q=>h pins s σ H D I (i D σ H q)
noncomputable def tM(K:Z5)(m:Bool)(f:Mk->Z7 D):TE:=λσ H Q=>∃B Hk δ d,Rel K B Hk δ σ H/\f δ=U d/\∀v H',aae H H'->Rep K (aZ m B δ σ) H' d v->Q v H'
def tF(K:Z5)(f:Mk->Z7 D):TE:=λσ H Q=>∃B Hk δ d,Rel K B Hk δ σ H/\f δ=U d/\∀a H',aae H H'->H a=M->ObR K B H' d a->Q (.ref a) H'
def tMT(K:Z5)(f:Mk->Z7 Bool):TT:=λσ H Q=>∃B Hk δ d,Rel K B Hk δ σ H/\f δ=U d/\∀H',aae H H'->Q d H'
noncomputable def tMA(K:Z5)(m:Bool)(f:Mk->Z7 (Z9 D)):TA:=λσ H Q=>∃B Hk δ ds,Rel K B Hk δ σ H/\f δ=U ds/\∀vs H',aae H H'->M1 K (aZ m B δ σ) H' ds vs->Q vs H'
abbrev DE(X:Cx)(m:Bool)(e:Expr)(f:Mk->Z7 D):Prop:=PE X e (tM X.K m f)
abbrev DF(X:Cx)(e:Expr)(f:Mk->Z7 D):Prop:=PE X e (tF X.K f)
abbrev DT(X:Cx)(e:Expr)(f:Mk->Z7 Bool):Prop:=PT X e (tMT X.K f)
abbrev DA(X:Cx)(m:Bool)(es:Z9 Expr)(f:Mk->Z7 (Z9 D)):Prop:=PA X es (tMA X.K m f)
section
variable{X:Cx}{m m':Bool}{a b:Expr}{fa fb:Mk->Z7 D}{pos:Pos}
def rd(m:Bool)(i:Nat)(δ:Mk):Z7 D:=match δ[i]? with|some (some (d,o))=>if(o&&!m)=L then M else U d|_=>M
set_option tactic.hygienic true in
def An(h:rd m i δ=U d):∃o,δ[i]?=U (U (d,o))/\(o=L->m=L):=by
 unfold rd at h;split at h;rename_i d' o e;by_cases q:(o&&!m)=L;rw[ZO q]at h;trivial;rw[ZJ q]at h;obtain rfl:=Z8 h;refine⟨o,e,λz=>?_⟩;subst z;cases m with
 |true=>rfl
 |false=>simp at q
 trivial
theorem Rel.rd{K:Z5}{B:ZM->Prop}{Hk H:Hp}{δ:Mk}{σ:St}{i:Nat}{d:D}(R:Rel K B Hk δ σ H)(h:rd m i δ=U d):∃v,σ[i]?=U (U v)/\Rep K (aZ m B δ σ) H d v:=by
 obtain⟨o,e,ho⟩:=An h;cases o with
 |false=>
  obtain⟨v,h1,h2⟩:=R.var i d e;exact⟨v,h1,h2.more λa h=>jn m a h⟩
 |true=>
  obtain⟨a,h1,h2,h3⟩:=R.own i d e;obtain rfl:=ho rfl;exact⟨_,h1,h3.rep (B':=aZ L B δ σ) (by unfold aZ;rw[ZO rfl];exact .inr ⟨i,d,e,h1⟩) λa h=>jn L a h⟩
def Ck(hN:X.N[i]?=U x)(hv:Vis X.env.scope x)(hd:(x==("__debug__":Str))=Y:=by decide)(HZ:(x==("__classdict__":Str))=Y:=by decide):DE X m (.Name x pos) (rd m i):=
 (bA hN hv hd HZ).imp λσ H Q hz=>by
  obtain⟨B,Hk,δ,d,R,e,k⟩:=hz;obtain⟨v,h1,h2⟩:=R.rd e;exact⟨v,h1,k v H (aae.refl H) h2⟩
theorem jK{i:Int}{j:Nat}:DE X m (.Constant (.int i) j pos) (λ_=>U (.int i)):=sF.imp λσ H Q hz=>by obtain⟨B,Hk,δ,d,R,e,k⟩:=hz;obtain rfl:=Z8 e;exact k _ H (aae.refl H) rfl
theorem xQ:DE X m (.Constant (.str x) j pos) (λ_=>U (.str x)):=Cm.imp λσ H Q hz=>by obtain⟨B,Hk,δ,d,R,e,k⟩:=hz;obtain rfl:=Z8 e;exact k _ H (aae.refl H) rfl
theorem EI:DE X m (.Constant (.bool x) j pos) (λ_=>U (.bl x)):=Cu.imp λσ H Q hz=>by obtain⟨B,Hk,δ,d,R,e,k⟩:=hz;obtain rfl:=Z8 e;exact k _ H (aae.refl H) rfl
theorem uw:DE X m (.Constant .none j pos) (λ_=>U .non):=Cd.imp λσ H Q hz=>by obtain⟨B,Hk,δ,d,R,e,k⟩:=hz;obtain rfl:=Z8 e;exact k _ H (aae.refl H) rfl
def two{K:Z5}{σ:St}{H:Hp}{B:ZM->Prop}{Hk:Hp}{δ:Mk}{d1 d2:D}{P:V->V->Hp->Prop}(R:Rel K B Hk δ σ H)(e1:fa δ=U d1)(e2:fb δ=U d2)
  (k:∀v u H',aae H H'->Rel K B Hk δ σ H'->Rep K (aZ m B δ σ) H' d1 v->Rep K (aZ m' B δ σ) H' d2 u->P v u H'):tM K m fa σ H λx H1=>tM K m' fb σ H1 λy H2=>P x y H2:=
 ⟨B,Hk,δ,d1,R,e1,λv H1 s1 r1=>⟨B,Hk,δ,d2,R.to s1,e2,λu H2 s2 r2=>k v u H2 (s1.trans s2) (R.to (s1.trans s2)) (r1.same (R.to s1) s2) r2⟩⟩
noncomputable def bI(C:Int->Int->Bool)(g:Int->Int->D)(x y:Z7 D):Z7 D:=match x,y with|some (.int i),some (.int j)=>if C i j=L then U (g i j) else M|_,_=>M
set_option tactic.hygienic true in
def yU(h:bI C g x y=U d):∃i j,x=U (.int i)/\y=U (.int j)/\C i j=L/\d=g i j:=by
 unfold bI at h;split at h;rename_i i j;by_cases q:C i j=L;rw[ZO q]at h;obtain rfl:=Z8 h;exact⟨i,j,rfl,rfl,q,rfl⟩;rw[ZJ q]at h;trivial;trivial
def Az(h:C i j=L):bI C g (U (.int i)) (U (.int j))=U (g i j):=by unfold bI;simp only[ZO h]
def cT:Int->Int->Bool:=λ_ _=>L
def Fe:Int->Int->Bool:=λi j=>decide ((-(2 ^ 64)<i/\i<2 ^ 64)\/(-(2 ^ 64)<j/\j<2 ^ 64))
def Fi:Int->Int->Bool:=λ_ j=>decide (0<j/\j<1073741824)
def E6:Int->Int->Bool:=λ_ j=>decide (0<j)
def uF{C:Int->Int->Bool}{g:Int->Int->Int}(ho:OpR X (binaryOp op) r)(hr:∀i j H Q,C i j=L->Q (V.int (g i j)) H->r (.int i) (.int j) H Q)(ha:DE X m a fa)(hb:DE X m' b fb):
  DE X mm (.BinOp a op b pos) (λδ=>bI C (λi j=>.int (g i j)) (fa δ) (fb δ)):=
 (v8 ho ha hb).imp λσ H Q hz=>by
  obtain⟨B,Hk,δ,d,R,e,k⟩:=hz;obtain⟨i,j,e1,e2,hc,rfl⟩:=yU e;refine two R e1 e2 λv u H' s R' r1 r2=>?_;simp only[Rep]at r1 r2;subst r1 r2;exact hr i j H' Q hc (k _ H' s (by simp only[Rep]))
def ix(x y:Z7 D):Z7 D:=bI cT (λi j=>.int (i+j)) x y
def EM(x y:Z7 D):Z7 D:=bI cT (λi j=>.int (i - j)) x y
def u0(x y:Z7 D):Z7 D:=bI Fe (λi j=>.int (i*j)) x y
def A8(x y:Z7 D):Z7 D:=bI Fi (λi j=>.int (i / j)) x y
def fv(x y:Z7 D):Z7 D:=bI E6 (λi j=>.int (i%j)) x y
theorem Ch(ha:DE X m a fa)(hb:DE X m' b fb):DE X mm (.BinOp a .Add b pos) (λδ=>ix (fa δ) (fb δ)):=uF Ca (λi j H Q _ q=>⟨i,j,rfl,rfl,q⟩) ha hb
theorem CC(ha:DE X m a fa)(hb:DE X m' b fb):DE X mm (.BinOp a .Sub b pos) (λδ=>EM (fa δ) (fb δ)):=uF Bw (λi j H Q _ q=>⟨i,j,rfl,rfl,q⟩) ha hb
theorem BV(ha:DE X m a fa)(hb:DE X m' b fb):DE X mm (.BinOp a .Mult b pos) (λδ=>u0 (fa δ) (fb δ)):=uF Bn (λi j H Q c q=>⟨i,j,rfl,rfl,(show(-(2 ^ 64)<i/\i<2 ^ 64)\/(-(2 ^ 64)<j/\j<2 ^ 64) from Zj c),q⟩) ha hb
theorem CK(ha:DE X m a fa)(hb:DE X m' b fb):DE X mm (.BinOp a .FloorDiv b pos) (λδ=>A8 (fa δ) (fb δ)):=uF Aj (λi j H Q c q=>⟨i,j,rfl,rfl,(show 0<j/\j<1073741824 from Zj c),q⟩) ha hb
theorem CB(ha:DE X m a fa)(hb:DE X m' b fb):DE X mm (.BinOp a .Mod b pos) (λδ=>fv (fa δ) (fb δ)):=uF CT (λi j H Q c q=>⟨i,j,rfl,rfl,(show 0<j from Zj c),q⟩) ha hb
def tyB(x:Z7 D):Z7 Bool:=match x with|some (.bl b)=>U b|_=>M
def ofB(x:Z7 Bool):Z7 D:=match x with|some b=>U (.bl b)|none=>M
def wT(h:tyB x=U c):x=U (.bl c):=by
 unfold tyB at h;split at h;obtain rfl:=Z8 h;rfl;trivial
theorem yr(ha:DE X m a fa)(he:∀whole,isTrue a X.env whole=(do let v <-whole;standAt a.pos;holding [v] (truthy v)):=by intro _;rfl):DT X a (λδ=>tyB (fa δ)):=
 (CD ha he).imp λσ H Q ⟨B,Hk,δ,d,R,e,k⟩=>⟨B,Hk,δ,_,R,wT e,λv H' s r=>by
  simp only[Rep]at r;subst r;exact⟨d,rfl,k H' s⟩⟩
variable{fc ga gb:Mk->Z7 Bool}{ar:Z9 Expr}
def yj(x y:Z7 Bool):Z7 Bool:=match x with|some true=>y|some false=>U Y|none=>M
def orO(x y:Z7 Bool):Z7 Bool:=match x with|some true=>U L|some false=>y|none=>M
def gW(x:Z7 Bool):Z7 Bool:=match x with|some c=>U (!c)|none=>M
abbrev DW(X:Cx)(e:Expr)(f:Mk->Z7 Bool):Prop:=PW X e (tMT X.K f)
theorem zA(ha:DT X a ga):DW X (.BoolOp .And [a] pos) ga:=yJ ha
theorem BJ(ha:DT X a ga):DW X (.BoolOp .Or [a] pos) ga:=CQ ha
theorem BP(ha:DT X a ga)(hb:DW X (.BoolOp .And (b::ar) pos) gb):DW X (.BoolOp .And (a::b::ar) pos) (λδ=>yj (ga δ) (gb δ)):=
 (Cp ha hb).imp λσ H Q hz=>by
  obtain⟨B,Hk,δ,d,R,e,k⟩:=hz;unfold yj at e;dsimp only at e;split at e;rename_i q;exact⟨B,Hk,δ,L,R,q,λH1 s1=>Ar (⟨B,Hk,δ,d,R.to s1,e,λH2 s2=>k H2 (s1.trans s2)⟩)⟩;rename_i q;obtain rfl:=Z8 e;exact⟨B,Hk,δ,Y,R,q,λH1 s1=>zh (k H1 s1)⟩;trivial
theorem EE(ha:DT X a ga)(hb:DW X (.BoolOp .Or (b::ar) pos) gb):DW X (.BoolOp .Or (a::b::ar) pos) (λδ=>orO (ga δ) (gb δ)):=
 (DU ha hb).imp λσ H Q hz=>by
  obtain⟨B,Hk,δ,d,R,e,k⟩:=hz;unfold orO at e;dsimp only at e;split at e;rename_i q;obtain rfl:=Z8 e;exact⟨B,Hk,δ,L,R,q,λH1 s1=>Ar (k H1 s1)⟩;rename_i q;exact⟨B,Hk,δ,Y,R,q,λH1 s1=>zh (⟨B,Hk,δ,d,R.to s1,e,λH2 s2=>k H2 (s1.trans s2)⟩)⟩;trivial
set_option tactic.hygienic true in
theorem BG(ha:DT X a ga):DT X (.UnaryOp .Not a pos) (λδ=>gW (ga δ)):=
 (C3 ha).imp λσ H Q hz=>by
  obtain⟨B,Hk,δ,d,R,e,k⟩:=hz;dsimp only[gW]at e;split at e;rename_i c q;obtain rfl:=Z8 e;exact⟨B,Hk,δ,c,R,q,λH1 s1=>k H1 s1⟩;trivial
def af(x:Z7 D)(y:Z7 (Z9 D)):Z7 (Z9 D):=match x,y with|some d,some ds=>U (d::ds)|_,_=>M
set_option tactic.hygienic true in
def p0(h:af x y=U l):∃d ds,x=U d/\y=U ds/\l=d::ds:=by
 unfold af at h;split at h;rename_i d ds;obtain rfl:=Z8 h;exact⟨d,ds,rfl,rfl,rfl⟩;trivial
variable{e:Expr}{es:Z9 Expr}{fe:Mk->Z7 D}{fs:Mk->Z7 (Z9 D)}
theorem gw:DA X m [] (λ_=>U []):=aN.imp λσ H Q hz=>by obtain⟨B,Hk,δ,d,R,e,k⟩:=hz;obtain rfl:=Z8 e;exact k [] H (aae.refl H) M1.nil
theorem cu(ha:DE X m e fe)(hr:DA X m es fs)(hs:starEach (e::es) X.env=(Y,eval e X.env)::starEach es X.env:=by rfl):DA X m (e::es) (λδ=>af (fe δ) (fs δ)):=
 (ay ha hr hs).imp λσ H Q hz=>by
  obtain⟨B,Hk,δ,l,R,e,k⟩:=hz;obtain⟨d,ds,e1,e2,rfl⟩:=p0 e;exact⟨B,Hk,δ,d,R,e1,λv H1 s1 r1=>⟨B,Hk,δ,ds,R.to s1,e2,λvs H2 s2 r2=>k (v::vs) H2 (s1.trans s2) (M1.cons (r1.same (R.to s1) s2) r2)⟩⟩
def lim:Nat:=1000000
def aG(h:n<=lim):n<=sizeLine:=Zn h (by decide)
def eZ(x:Z7 (Z9 D)):Z7 D:=match x with|some ds=>if ds.length<=lim then U (.tup ds) else M|none=>M
def dz(x:Z7 (Z9 D)):Z7 D:=match x with|some ds=>if ds.length<=lim then U (.lst ds) else M|none=>M
def su(h:eZ x=U d):∃ds,x=U ds/\ds.length<=lim/\d=.tup ds:=by
 unfold eZ at h;split at h;rename_i ds;by_cases q:ds.length<=lim;rw[ZO q]at h;obtain rfl:=Z8 h;exact⟨ds,rfl,q,rfl⟩;rw[ZJ q]at h;trivial;trivial
def uH(h:dz x=U d):∃ds,x=U ds/\ds.length<=lim/\d=.lst ds:=by
 unfold dz at h;split at h;rename_i ds;by_cases q:ds.length<=lim;rw[ZO q]at h;obtain rfl:=Z8 h;exact⟨ds,rfl,q,rfl⟩;rw[ZJ q]at h;trivial;trivial
def au(h:H p=M):aae H (upd H p o):=(aae.refl H).put h
theorem yn{x1:Nat}(h:DA X m es fs):DE X m (.Tuple es x1 pos) (λδ=>eZ (fs δ)):=
 (Cw h).imp λσ H Q hz=>by
  obtain⟨B,Hk,δ,d,R,e,k⟩:=hz;obtain⟨ds,e1,hl,rfl⟩:=su e;refine⟨B,Hk,δ,ds,R,e1,λvs H1 s1 r1=>⟨by rw[<-r1.length];exact aG hl,λp hp=>?_⟩⟩;have s2:=au (o:=.tup vs) hp;refine k _ _ (s1.trans s2) ?_;simp only[Rep];exact⟨p,vs,rfl,ah,r1.same (R.to s1) s2⟩
theorem xD(h:DA X Y es fs):DF X (.List es pos) (λδ=>dz (fs δ)):=
 (BZ h).imp λσ H Q hz=>by
  obtain⟨B,Hk,δ,d,R,e,k⟩:=hz;obtain⟨ds,e1,hl,rfl⟩:=uH e;refine⟨B,Hk,δ,ds,R,e1,λvs H1 s1 r1=>⟨by rw[<-r1.length];exact aG hl,λp hp=>?_⟩⟩;have s2:=au (o:=.lst vs) hp;exact k p _ (s1.trans s2) (s1.free hp) ⟨vs,ah,r1.same (m:=Y) (R.to s1) s2⟩
end
def okD:Nat->D->Bool
 |_,.non=>L
 |_,.int _=>L
 |_,.str _=>L
 |n+1,.tup ds=>ds.all (okD n)
 |n+1,.lst ds=>ds.all (okD n)
 |_,_=>Y
def yS(h:okD n (.tup ds)=L):∃k,n=k+1/\ds.all (okD k)=L:=by
 cases n with
 |zero=>simp[okD]at h
 |succ k=>exact⟨k,rfl,by simpa only[okD]using h⟩
def AS(h:okD n (.lst ds)=L):∃k,n=k+1/\ds.all (okD k)=L:=by
 cases n with
 |zero=>simp[okD]at h
 |succ k=>exact⟨k,rfl,by simpa only[okD]using h⟩
section
def dr(I:Inv X pins σ H s)(h:SqL X.K H a xs)(h':SqT X.K H a ys):False:=by
 obtain⟨its,_,⟨o,n,e,hc,_,_⟩,_⟩:=I.list h;obtain⟨its',_,⟨o',e',LW,_⟩,_⟩:=I.tuple h';rw[e]at e';obtain rfl:=Z8 e';rw[hc]at LW;injection LW with z;exact absurd z (by decide)
def shp{K:Z5}{n:Nat}{d:D}{v:V}(hd:okD n d=L)(r:Rep K B H d v):(d=.non/\v=.non)\/(∃i,d=.int i/\v=.int i)\/(∃i,d=.str i/\v=.str i)\/
  (∃ds a xs k,d=.tup ds/\v=.ref a/\n=k+1/\ds.all (okD k)=L/\SqT K H a xs/\M1 K B H ds xs)\/∃ds a xs k,d=.lst ds/\v=.ref a/\n=k+1/\ds.all (okD k)=L/\SqL K H a xs/\M1 K B H ds xs:=by
 cases d with
 |non=>exact .inl ⟨rfl,r⟩
 |int i=>exact .inr (.inl ⟨_,rfl,r⟩)
 |str i=>exact .inr (.inr (.inl ⟨_,rfl,r⟩))
 |tup ds=>
  simp only[Rep]at r;obtain⟨a,xs,rfl,hq,hr⟩:=r;obtain⟨k,rfl,h⟩:=yS hd;exact .inr (.inr (.inr (.inl ⟨_,a,xs,k,rfl,rfl,rfl,h,SqT.of hq,hr⟩)))
 |lst ds=>
  simp only[Rep]at r;obtain⟨a,xs,rfl,hq,hr⟩:=r;obtain⟨k,rfl,h⟩:=AS hd;exact .inr (.inr (.inr (.inr ⟨_,a,xs,k,rfl,rfl,rfl,h,hq.sq,hr⟩)))
 |_=>simp[okD]at hd
theorem M1.acf{K:Z5}{n n':Nat}(f:∀d e v,okD n d=L->okD n' e=L->Rep K B H d v->Rep K B' H e v->d=e):∀{ds es:Z9 D}{xs:Z9 V},ds.all (okD n)=L->es.all (okD n')=L->M1 K B H ds xs->M1 K B' H es xs->ds=es
 |[],es,xs,hd,he,r,r'=>by
  simp only[M1]at r;subst r;cases es with
  |nil=>rfl
  |cons e es=>simp only[M1]at r';obtain⟨_,_,z,_⟩:=r';trivial
 |d::ds,es,xs,hd,he,r,r'=>by
  simp only[M1]at r;obtain⟨x,t,rfl,r1,r2⟩:=r;cases es with
  |nil=>simp only[M1]at r';trivial
  |cons e es=>
   obtain⟨q1,q2⟩:=r'.abI;rw[mq,ZK]at hd he;rw[f _ _ _ hd.1 he.1 r1 q1,M1.acf f hd.2 he.2 r2 q2]
def Rep.inj(I:Inv X pins σ H s):∀{n n':Nat}{d e:D}{v:V},okD n d=L->okD n' e=L->Rep X.K B H d v->Rep X.K B' H e v->d=e:=by
 intro n
 induction n using Nat.strongRecOn with
 |ind n ih=>
 intro n' d e v hd he r r';rcases shp hd r with⟨rfl,rfl⟩|⟨i,rfl,rfl⟩|⟨i,rfl,rfl⟩|⟨ds,a,xs,k,rfl,rfl,rfl,h1,q1,r1⟩|⟨ds,a,xs,k,rfl,rfl,rfl,h1,q1,r1⟩<;>rcases shp he r' with⟨rfl,z⟩|⟨j,rfl,z⟩|⟨j,rfl,z⟩|⟨es,b,ys,k',rfl,z,_,h2,q2,r2⟩|⟨es,b,ys,k',rfl,z,_,h2,q2,r2⟩<;>cases z<;>try rfl
 obtain rfl:=I.aaY q1 q2;rw[M1.acf (λ_ _ _=>ih k (Yj k)) h1 h2 r1 r2];exact(dr I q2 q1).elim;exact(dr I q1 q2).elim;obtain rfl:=I.aaN q1 q2;rw[M1.acf (λ_ _ _=>ih k (Yj k)) h1 h2 r1 r2]
theorem M1.inj(I:Inv X pins σ H s)(hd:ds.all (okD n)=L)(he:es.all (okD n')=L)(r:M1 X.K B H ds xs)(r':M1 X.K B' H es xs):ds=es:=M1.acf (λ_ _ _=>Rep.inj I) hd he r r'
def eW:∀(ds es:Z9 D),(ds.length=es.length)->((List.range ds.length).all λj=>decide (ds[j]?=es[j]?))=decide (ds=es):=by
 intro ds es hl;rw[Yx,ZW,Y8];constructor;intro h;apply WY;intro j;by_cases hj:j<ds.length;exact Zj (h j (Y4.mpr hj));rw[YI (by lia),YI (by lia)];intro h j _;subst h;exact Zw rfl
def iR:∀(ds es:Z9 D),(((List.range (min ds.length es.length)).all λj=>decide (ds[j]?=es[j]?))&&ds.length==es.length)=decide (ds=es):=by
 intro ds es;by_cases hl:ds.length=es.length;rw[hl,Nat.min_self,Yo,Yb,<-hl,eW ds es hl];have h1:(ds.length==es.length)=Y:=by simpa using hl
 have h2:¬ds=es:=λz=>hl (by rw[z]);rw[h1,XC,ZE h2]
def FF(I:Inv X pins σ H s){n:Nat}{d:D}{v:V}{u:Z3}(hd:okD n d=L)(r:Rep X.K B H d v)(ru:RelV v u):(d=.non/\u=.none)\/(∃i t,d=.int i/\u=.int i t)\/(∃i t,d=.str i/\u=.str i t)\/
  (∃ds a xs k its,d=.tup ds/\u=.ref a/\n=k+1/\ds.all (okD k)=L/\SqT X.K H a xs/\M1 X.K B H ds xs/\aab xs its/\s.heap.IsTuple a its.toArray)\/∃ds a xs k its,d=.lst ds/\u=.ref a/\n=k+1/\ds.all (okD k)=L/\SqL X.K H a xs/\M1 X.K B H ds xs/\aab xs its/\s.heap.IsList a its.toArray:=by
 rcases shp hd r with⟨rfl,rfl⟩|⟨i,rfl,rfl⟩|⟨i,rfl,rfl⟩|⟨ds,a,xs,k,rfl,rfl,rfl,h1,q1,r1⟩|⟨ds,a,xs,k,rfl,rfl,rfl,h1,q1,r1⟩;exact .inl ⟨rfl,ru⟩;obtain⟨t,rfl⟩:=ru;exact .inr (.inl ⟨i,t,rfl,rfl⟩);obtain⟨t,rfl⟩:=ru;exact .inr (.inr (.inl ⟨i,t,rfl,rfl⟩));obtain⟨its,rv,h,_⟩:=I.tuple q1;exact .inr (.inr (.inr (.inl ⟨ds,a,xs,k,its,rfl,ru,rfl,h1,q1,r1,rv,h⟩)));obtain⟨its,rv,h,_⟩:=I.list q1;exact .inr (.inr (.inr (.inr ⟨ds,a,xs,k,its,rfl,ru,rfl,h1,q1,r1,rv,h.isList⟩)))
open SeqAt in
def C5(I:Inv X pins σ H s)(ih:∀(d e:D)(x y:V)(u w:Z3),okD k d=L->okD k e=L->Rep X.K B H d x->Rep X.K B' H e y->RelV x u->RelV y w->EqAt A s u w (decide (d=e)))(hd:ds.all (okD k)=L)(he:es.all (okD k)=L)(hr:M1 X.K B H ds xs)(Jd:M1 X.K B' H es ys)(rv:aab xs its)(Lr:aab ys ka):∀j (h1:j<its.toArray.size) (h2:j<ka.toArray.size),EqAt A s its.toArray[j] ka.toArray[j] (decide (ds[j]?=es[j]?)):=λj h1 h2=>by
 have l1:=hr.length;have l2:=rv.length;have l3:=Jd.length;have l4:=Lr.length;simp only[ZT]at h1 h2;obtain⟨d',Jf⟩:∃d',ds[j]?=U d':=⟨ds[j]'(by lia),by simp⟩
 obtain⟨e',LU⟩:∃e',es[j]?=U e':=⟨es[j]'(by lia),by simp⟩
 obtain⟨x',T8,Tn⟩:=hr.get Jf;obtain⟨y',T4,Tj⟩:=Jd.get LU;obtain⟨u',JI,O0⟩:=rv.get T8;obtain⟨w',Pw,Hs⟩:=Lr.get T4;have q:=ih d' e' x' y' u' w' ((ZW.mp hd) d' (Zg Jf)) ((ZW.mp he) e' (Zg LU)) Tn Tj O0 Hs;have g1:its.toArray[j]=u':=by simpa using(ZP.mp JI).2
 have g2:ka.toArray[j]=w':=by simpa using(ZP.mp Pw).2
 rw[g1,g2,Jf,LU,show decide (U d'=U e')=decide (d'=e') by simp];exact q
open SeqAt in
def A2(I:Inv X pins σ H s):∀(n:Nat)(d e:D)(x y:V)(u w:Z3)(A:Za),okD n d=L->okD n e=L->A.units+n+1<cLine->Rep X.K B H d x->Rep X.K B' H e y->RelV x u->RelV y w->
  RcAt A s u w (decide (d=e))/\EqAt A s u w (decide (d=e))/\RcNeAt A s u w (!decide (d=e)):=by
 intro n
 induction n using Nat.strongRecOn with
 |ind n ih=>
 intro d e x y u w A hd he hA rd re rx ry;have hu:A.units<cLine:=by lia
 rcases FF I hd rd rx with⟨rfl,rfl⟩|⟨i,t',rfl,rfl⟩|⟨i,t',rfl,rfl⟩|⟨ds,a,xs,k,its,rfl,rfl,rfl,x_,hp,hr,rv,C_⟩|⟨ds,a,xs,k,its,rfl,rfl,rfl,x_,hp,hr,rv,C_⟩<;>rcases FF I he re ry with⟨rfl,rfl⟩|⟨j,t,rfl,rfl⟩|⟨j,t,rfl,rfl⟩|⟨es,b,ys,k',ka,rfl,rfl,z,K_,hq,Jd,Lr,A_⟩|⟨es,b,ys,k',ka,rfl,rfl,z,K_,hq,Jd,Lr,A_⟩
 all_goals try rw[ZE (by intro zz;trivial)]
 rw[Zw rfl];exact⟨RcAt.none_none,EqAt.same _,RcNeAt.none_none⟩;exact⟨RcAt.none_int j t,EqAt.none_int j t,RcNeAt.none_int j t⟩;exact⟨RcAt.none_str j t,EqAt.none_str j t,RcNeAt.none_str j t⟩;exact⟨RcAt.none_tuple A_ hu,EqAt.none_tuple A_ hu,RcNeAt.none_tuple A_ hu⟩;exact⟨RcAt.none_list A_ hu,EqAt.none_list A_ hu,RcNeAt.none_list A_ hu⟩;exact⟨RcAt.int_none i t',EqAt.int_none i t',RcNeAt.int_none i t'⟩;have q:decide (D.int i=D.int j)=(i==j):=by rw[Yx,Y8,Zx,D.int.injEq]
 rw[q];exact⟨RcAt.int_int i t' j t,EqAt.int_int i t' j t,RcNeAt.int_int i t' j t⟩;exact⟨RcAt.int_str i t' j t,EqAt.int_str i t' j t,RcNeAt.int_str i t' j t⟩;exact⟨RcAt.int_tuple i t' A_ hu,EqAt.int_tuple i t' A_ hu,RcNeAt.int_tuple i t' A_ hu⟩;exact⟨RcAt.int_list i t' A_ hu,EqAt.int_list i t' A_ hu,RcNeAt.int_list i t' A_ hu⟩;exact⟨RcAt.str_none i t',EqAt.str_none i t',RcNeAt.str_none i t'⟩;exact⟨RcAt.str_int i t' j t,EqAt.str_int i t' j t,RcNeAt.str_int i t' j t⟩;have q:decide (D.str i=D.str j)=(i==j):=by rw[Yx,Y8,Zx,D.str.injEq]
 rw[q];exact⟨RcAt.str_str i t' j t,EqAt.str_str i t' j t,RcNeAt.str_str i t' j t⟩;exact⟨RcAt.str_tuple i t' A_ hu,EqAt.str_tuple i t' A_ hu,RcNeAt.str_tuple i t' A_ hu⟩;exact⟨RcAt.str_list i t' A_ hu,EqAt.str_list i t' A_ hu,RcNeAt.str_list i t' A_ hu⟩;exact⟨RcAt.tuple_none C_ hu,EqAt.tuple_none C_ hu,RcNeAt.tuple_none C_ hu⟩;exact⟨RcAt.tuple_int j t C_ hu,EqAt.tuple_int j t C_ hu,RcNeAt.tuple_int j t C_ hu⟩;exact⟨RcAt.tuple_str j t C_ hu,EqAt.tuple_str j t C_ hu,RcNeAt.tuple_str j t C_ hu⟩;cases z;have el:=C5 I (A:=A.in1) (λd e x y u w h1 h2 h3 h4 h5 h6=>(ih k (Yj k) d e x y u w A.in1 h1 h2 (by show A.units+1+k+1<cLine;lia) h3 h4 h5 h6).2.1) x_ K_ hr Jd rv Lr;have l1:=hr.length;have l2:=rv.length;have l3:=Jd.length;have l4:=Lr.length;have key:((List.range (min its.toArray.size ka.toArray.size)).all (λj=>decide (ds[j]?=es[j]?))&&its.toArray.size==ka.toArray.size)=decide (D.tup ds=D.tup es):=by
  rw[ZT,ZT,<-l2,<-l4,<-l1,<-l3,iR];simp only[D.tup.injEq]
 have rc:=RcAt.tuples C_ A_ hu el;have rn:=RcNeAt.tuples C_ A_ hu el;rw[key]at rc rn;refine⟨rc,?_,rn⟩;by_cases HH:a=b;subst HH;obtain rfl:=I.aaY hp hq;have:=M1.inj I x_ K_ hr Jd;subst this;rw[Zw rfl];exact EqAt.same _;exact EqAt.of_refs HH rc;exact⟨RcAt.tuple_list C_ A_ hu,EqAt.tuple_list C_ A_ hu,RcNeAt.tuple_list C_ A_ hu⟩;exact⟨RcAt.list_none C_ hu,EqAt.list_none C_ hu,RcNeAt.list_none C_ hu⟩;exact⟨RcAt.list_int j t C_ hu,EqAt.list_int j t C_ hu,RcNeAt.list_int j t C_ hu⟩;exact⟨RcAt.list_str j t C_ hu,EqAt.list_str j t C_ hu,RcNeAt.list_str j t C_ hu⟩;exact⟨RcAt.list_tuple C_ A_ hu,EqAt.list_tuple C_ A_ hu,RcNeAt.list_tuple C_ A_ hu⟩;cases z;have el:=C5 I (A:=A.in1) (λd e x y u w h1 h2 h3 h4 h5 h6=>(ih k (Yj k) d e x y u w A.in1 h1 h2 (by show A.units+1+k+1<cLine;lia) h3 h4 h5 h6).2.1) x_ K_ hr Jd rv Lr;have l1:=hr.length;have l2:=rv.length;have l3:=Jd.length;have l4:=Lr.length;by_cases hsz:its.toArray.size=ka.toArray.size;have key:((List.range its.toArray.size).all (λj=>decide (ds[j]?=es[j]?)))=decide (D.lst ds=D.lst es):=by
  have hl:ds.length=es.length:=by simp only[ZT]at hsz;lia
  rw[ZT,<-l2,<-l1,eW _ _ hl];simp only[D.lst.injEq]
 have rc:=RcAt.lists C_ A_ hsz hu el;have rn:=RcNeAt.lists C_ A_ hsz hu el;rw[key]at rc rn;refine⟨rc,?_,rn⟩;by_cases HH:a=b;subst HH;obtain rfl:=I.aaN hp hq;have:=M1.inj I x_ K_ hr Jd;subst this;rw[Zw rfl];exact EqAt.same _;exact EqAt.of_refs HH rc;have t_:¬D.lst ds=D.lst es:=λz=>hsz (by
  cases z;simp only[ZT];lia)
 have hb:(its.toArray.size != ka.toArray.size)=L:=by simpa using hsz
 rw[ZE t_];have rc:=RcAt.lists_lengths C_ A_ hb hu;refine⟨rc,?_,RcNeAt.lists_lengths C_ A_ hb hu⟩;have HH:a≠b:=λz=>by
  subst z;obtain rfl:=I.aaN hp hq;exact hsz (by simp only[ZT];lia)
 exact EqAt.of_refs HH rc
end
section
variable{X:Cx}{a:Expr}
def ok2(x y:D):Bool:=okD 16 x&&okD 16 y
def eqO(x y:Z7 D):Z7 Bool:=match x,y with|some d,some e=>if ok2 d e=L then U (decide (d=e)) else M|_,_=>M
set_option tactic.hygienic true in
def fo(h:eqO x y=U c):∃d e,x=U d/\y=U e/\okD 16 d=L/\okD 16 e=L/\c=decide (d=e):=by
 unfold eqO at h;split at h;rename_i d e;by_cases q:ok2 d e=L;rw[ZO q]at h;obtain rfl:=Z8 h;unfold ok2 at q;rw[ZK]at q;exact⟨d,e,rfl,rfl,q.1,q.2,rfl⟩;rw[ZJ q]at h;trivial;trivial
def neO(x y:Z7 D):Z7 Bool:=gW (eqO x y)
def rD(K:Z5)(g:D->D->Bool):R2:=λx y H Q=>∃B B' d e,okD 16 d=L/\okD 16 e=L/\Rep K B H d x/\Rep K B' H e y/\Q (.bl (g d e)) H
def yi(hu:X.A.units+64<cLine):OpR X (compareOp .Eq) (rD X.K λd e=>decide (d=e)):=by
 intro pins s σ H x y v u Q I rx ry h;obtain⟨B,B',d,e,hd,he,r1,r2,q⟩:=h;exact(A2 I 16 d e x y v u X.A hd he (by lia) r1 r2 rx ry).1 X.prog X.w X.xe _ ⟨.bl _,H,I,rfl,q⟩
def xL(hu:X.A.units+64<cLine):OpR X (compareOp .NotEq) (rD X.K λd e=>!decide (d=e)):=by
 intro pins s σ H x y v u Q I rx ry h;obtain⟨B,B',d,e,hd,he,r1,r2,q⟩:=h;exact(A2 I 16 d e x y v u X.A hd he (by lia) r1 r2 rx ry).2.2 X.prog X.w X.xe _ ⟨.bl _,H,I,rfl,q⟩
theorem Ey(hu:X.A.units+64<cLine)(ha:DE X m a fa)(hb:DE X m' b fb):DE X mm (.Compare a [.Eq] [b] pos) (λδ=>ofB (eqO (fa δ) (fb δ))):=
 (sL (yi hu) ha hb (rE _)).imp λσ H Q hz=>by
  obtain⟨B,Hk,δ,d,R,e,k⟩:=hz;cases q:eqO (fa δ) (fb δ)with
  |none=>simp only[q,ofB]at e;trivial
  |some c=>
   simp only[q,ofB]at e;obtain rfl:=Z8 e;obtain⟨d1,d2,e1,e2,o1,o2,rfl⟩:=fo q;exact two R e1 e2 λv u H' s R' r1 r2=>⟨_,_,d1,d2,o1,o2,r1,r2,k _ H' s (by simp only[Rep])⟩
theorem D8(hu:X.A.units+64<cLine)(ha:DE X m a fa)(hb:DE X m' b fb):DT X (.Compare a [.Eq] [b] pos) (λδ=>eqO (fa δ) (fb δ)):=
 (dC (yi hu) ha hb (rE _)).imp λσ H Q hz=>by
  obtain⟨B,Hk,δ,d,R,q,k⟩:=hz;obtain⟨d1,d2,e1,e2,o1,o2,rfl⟩:=fo q;exact two R e1 e2 λv u H' s R' r1 r2=>⟨_,_,d1,d2,o1,o2,r1,r2,_,rfl,k H' s⟩
theorem Ea(hu:X.A.units+64<cLine)(ha:DE X m a fa)(hb:DE X m' b fb):DT X (.Compare a [.NotEq] [b] pos) (λδ=>neO (fa δ) (fb δ)):=
 (dC (xL hu) ha hb (rE _)).imp λσ H Q hz=>by
  obtain⟨B,Hk,δ,d,R,e,k⟩:=hz;cases q:eqO (fa δ) (fb δ)with
  |none=>simp only[q,neO,gW]at e;trivial
  |some c=>
   simp only[q,neO,gW]at e;obtain rfl:=Z8 e;obtain⟨d1,d2,e1,e2,o1,o2,rfl⟩:=fo q;exact two R e1 e2 λv u H' s R' r1 r2=>⟨_,_,d1,d2,o1,o2,r1,r2,_,rfl,k H' s⟩
def aQ:D->Z7 (Z9 D)
 |.lst ds=>U ds
 |.tup ds=>U ds
 |_=>M
noncomputable def inO(x y:Z7 D):Z7 Bool:=match x,y with|some d,some e=>(match aQ e with|some es=>if(okD 16 d&&es.all (okD 16))=L then U (decide (d∈es)) else M|none=>M)|_,_=>M
set_option tactic.hygienic true in
def iA(h:inO x y=U c):∃d e es,x=U d/\y=U e/\aQ e=U es/\okD 16 d=L/\es.all (okD 16)=L/\c=decide (d∈es):=by
 unfold inO at h;split at h;rename_i d e;split at h;rename_i es he;by_cases q:(okD 16 d&&es.all (okD 16))=L;rw[ZO q]at h;obtain rfl:=Z8 h;rw[ZK]at q;exact⟨d,e,es,rfl,rfl,he,q.1,q.2,rfl⟩;rw[ZJ q]at h;trivial;trivial;trivial
def bw(x y:Z7 D):Z7 Bool:=gW (inO x y)
def Rep.items{K:Z5}{B:ZM->Prop}{H:Hp}{e:D}{es:Z9 D}{y:V}(r:Rep K B H e y)(h:aQ e=U es):∃p xs,y=.ref p/\(SqL K H p xs\/SqT K H p xs)/\M1 K B H es xs:=by
 cases e with
 |lst ds=>simp only[aQ]at h;obtain rfl:=Z8 h;simp only[Rep]at r;obtain⟨a,xs,e,hq,hr⟩:=r;exact⟨a,xs,e,.inl hq.sq,hr⟩
 |tup ds=>simp only[aQ]at h;obtain rfl:=Z8 h;simp only[Rep]at r;obtain⟨a,xs,e,hq,hr⟩:=r;exact⟨a,xs,e,.inr (SqT.of hq),hr⟩
 |_=>simp[aQ]at h
open Classical in
def vh(hu:X.A.units+64<cLine)(I:Inv X pins σ H s)(hd:okD 16 d=L)(he:es.all (okD 16)=L)(r1:Rep X.K B H d x)(r2:M1 X.K B' H es xs)(rx:RelV x v)(rv:aab xs its):∃e:Z3->Bool,(∀y,y∈its.toArray->SeqAt.EqAt X.A.in1 s y v (e y))/\its.toArray.any e=decide (d∈es):=by
 have one:∀j u,its[j]?=U u->∃d' x',es[j]?=U d'/\okD 16 d'=L/\Rep X.K B' H d' x'/\RelV x' u:=λj u hj=>by
  have hl:=rv.length;have j_:j<xs.length:=by rw[hl];exact(ZP.mp hj).1
  obtain⟨u',H0,ru⟩:=rv.get (i:=j) (x:=xs[j]) (by simp[j_]);rw[hj]at H0;obtain rfl:=Z8 H0;obtain⟨d',x_,Ie⟩:=r2.get' (i:=j) (x:=xs[j]) (by simp[j_]);exact⟨d',xs[j],x_,(ZW.mp he) d' (Zg x_),Ie,ru⟩
 refine⟨λu=>decide (∃d' x',okD 16 d'=L/\Rep X.K B' H d' x'/\RelV x' u/\d'=d),λu H0=>?_,?_⟩;obtain⟨j,hj⟩:=XY (show u∈its by simpa using H0);obtain⟨d',x',_,o',Ie,ru⟩:=one j u hj;have q:=(A2 I 16 d' d x' x u v X.A.in1 o' hd (by show X.A.units+1+16+1<cLine;lia) Ie r1 ru rx).2.1;have key:decide (∃d' x',okD 16 d'=L/\Rep X.K B' H d' x'/\RelV x' u/\d'=d)=decide (d'=d):=by
  rw[Yx,Y8,Y8];constructor
  rintro⟨d2,x2,o2,M4,M0,e2⟩
  rw[<-e2];have ex:=ru.inj M0;subst ex;exact Rep.inj I o' o2 Ie M4;intro e2;exact⟨d',x',o',Ie,ru,e2⟩
 show SeqAt.EqAt X.A.in1 s u v (decide (∃d' x',okD 16 d'=L/\Rep X.K B' H d' x'/\RelV x' u/\d'=d));rw[key];exact q;rw[Yx,Y8,Array.any_eq_true];constructor
 rintro⟨j,hj,h⟩
 have h':=Zj h;obtain⟨d2,x2,o2,M4,M0,e2⟩:=h';have MQ:its[j]?=U its.toArray[j]:=by
  simp only[ZT]at hj;simp[hj]
 obtain⟨d',x',x_,o',Ie,ru⟩:=one j _ MQ;have ex:=ru.inj M0;subst ex;have:=Rep.inj I o' o2 Ie M4;subst this;rw[<-e2];exact Zg x_;intro h;obtain⟨j,hj⟩:=XY h;obtain⟨y,hy,ry⟩:=r2.get hj;obtain⟨u,H0,ru⟩:=rv.get hy;obtain⟨j_,ge⟩:=ZP.mp H0;refine⟨j,by simpa using j_,Zw ⟨d,y,hd,ry,?_,rfl⟩⟩;simpa[ge]using ru
noncomputable def Fq(K:Z5)(neg:Bool):R2:=λx y H Q=>∃B B' d e es,aQ e=U es/\okD 16 d=L/\es.all (okD 16)=L/\Rep K B H d x/\Rep K B' H e y/\Q (.bl (if neg then !decide (d∈es) else decide (d∈es))) H
def ye(hu:X.A.units+64<cLine):OpR X (compareOp .In) (Fq X.K Y):=by
 intro pins s σ H x y v u Q I rx ry h;obtain⟨B,B',d,e,es,hi,hd,he,r1,r2,q⟩:=h;obtain⟨p,xs,rfl,hq,rs⟩:=r2.items hi;cases ry;rcases hq with hq|hq;obtain⟨its,r,pl,hz⟩:=I.list hq;obtain⟨g,g1,g2⟩:=vh hu I hd he r1 rs rx r;exact SeqAt.in_listAt g pl.isList g1 ⟨.bl _,H,I,rfl,by rw[g2];exact q⟩;obtain⟨its,r,pl,hz⟩:=I.tuple hq;obtain⟨g,g1,g2⟩:=vh hu I hd he r1 rs rx r;exact SeqAt.in_tupleAt g pl g1 ⟨.bl _,H,I,rfl,by rw[g2];exact q⟩
def rS(hu:X.A.units+64<cLine):OpR X (compareOp .NotIn) (Fq X.K L):=by
 intro pins s σ H x y v u Q I rx ry h;obtain⟨B,B',d,e,es,hi,hd,he,r1,r2,q⟩:=h;obtain⟨p,xs,rfl,hq,rs⟩:=r2.items hi;cases ry;rcases hq with hq|hq;obtain⟨its,r,pl,hz⟩:=I.list hq;obtain⟨g,g1,g2⟩:=vh hu I hd he r1 rs rx r;exact SeqAt.notIn_listAt g pl.isList g1 ⟨.bl _,H,I,rfl,by rw[g2];exact q⟩;obtain⟨its,r,pl,hz⟩:=I.tuple hq;obtain⟨g,g1,g2⟩:=vh hu I hd he r1 rs rx r;exact SeqAt.notIn_tupleAt g pl g1 ⟨.bl _,H,I,rfl,by rw[g2];exact q⟩
theorem DR(hu:X.A.units+64<cLine)(ha:DE X m a fa)(hb:DE X m' b fb)(hm:behindInMarks .In b=Y:=by rfl):DT X (.Compare a [.In] [b] pos) (λδ=>inO (fa δ) (fb δ)):=
 (dC (ye hu) ha hb hm).imp λσ H Q hz=>by
  obtain⟨B,Hk,δ,d,R,q,k⟩:=hz;obtain⟨d1,d2,es,e1,e2,hi,o1,o2,rfl⟩:=iA q;exact two R e1 e2 λv u H' s R' r1 r2=>⟨_,_,d1,d2,es,hi,o1,o2,r1,r2,_,rfl,k H' s⟩
theorem vQ(hu:X.A.units+64<cLine)(ha:DE X m a fa)(hb:DE X m' b fb)(hm:behindInMarks .NotIn b=Y:=by rfl):DT X (.Compare a [.NotIn] [b] pos) (λδ=>bw (fa δ) (fb δ)):=
 (dC (rS hu) ha hb hm).imp λσ H Q hz=>by
  obtain⟨B,Hk,δ,d,R,e,k⟩:=hz;cases q:inO (fa δ) (fb δ)with
  |none=>simp only[q,bw,gW]at e;trivial
  |some c=>
   simp only[q,bw,gW]at e;obtain rfl:=Z8 e;obtain⟨d1,d2,es,e1,e2,hi,o1,o2,rfl⟩:=iA q;exact two R e1 e2 λv u H' s R' r1 r2=>⟨_,_,d1,d2,es,hi,o1,o2,r1,r2,_,rfl,k H' s⟩
theorem Es(hu:X.A.units+64<cLine)(ha:DE X m a fa)(hb:DE X m' b fb)(hm:behindInMarks .In b=Y:=by rfl):DE X mm (.Compare a [.In] [b] pos) (λδ=>ofB (inO (fa δ) (fb δ))):=
 (sL (ye hu) ha hb hm).imp λσ H Q hz=>by
  obtain⟨B,Hk,δ,d,R,e,k⟩:=hz;cases q:inO (fa δ) (fb δ)with
  |none=>simp only[q,ofB]at e;trivial
  |some c=>
   simp only[q,ofB]at e;obtain rfl:=Z8 e;obtain⟨d1,d2,es,e1,e2,hi,o1,o2,rfl⟩:=iA q;exact two R e1 e2 λv u H' s R' r1 r2=>⟨_,_,d1,d2,es,hi,o1,o2,r1,r2,k _ H' s (by simp only[Rep];rfl)⟩
end
section
variable{X:Cx}{m m':Bool}{a b:Expr}{fa fb:Mk->Z7 D}{pos:Pos}
noncomputable def ixO(x y:Z7 D):Z7 D:=match x,y with|some d,some (.int i)=>(match aQ d with|some ds=>atI ds i|none=>M)|_,_=>M
set_option tactic.hygienic true in
def vP(h:ixO x y=U d):∃e i es,x=U e/\y=U (.int i)/\aQ e=U es/\atI es i=U d:=by
 unfold ixO at h;split at h;rename_i e i;split at h;rename_i es he;exact⟨e,i,es,rfl,rfl,he,h⟩;trivial;trivial
theorem M1.atI{K:Z5}{B:ZM->Prop}{H:Hp}{ds:Z9 D}{xs:Z9 V}{i:Int}{d:D}(r:M1 K B H ds xs)(h:atI ds i=U d):∃x,atI xs i=U x/\Rep K B H d x:=by
 unfold L2.atI at h⊢;rw[r.length]at h;cases q:ixN xs.length i with
 |none=>rw[q]at h;trivial
 |some j=>
  rw[q]at h;exact r.get (i:=j) h
def wp{K:Z5}{B:ZM->Prop}{H:Hp}{e:D}{es:Z9 D}{y:V}{i:Int}{d:D}{Q:VK}(r:Rep K B H e y)(h:aQ e=U es)(hi:atI es i=U d)(k:∀v,Rep K B H d v->Q v H):rIx K y (.int i) H Q:=by
 obtain⟨p,xs,rfl,hq,rs⟩:=r.items h;obtain⟨x,hx,rx⟩:=rs.atI hi;rcases hq with hq|hq;exact .inl ⟨p,xs,i,x,rfl,rfl,hq,hx,k x rx⟩;exact .inr (.inl ⟨p,xs,i,x,rfl,rfl,hq,hx,k x rx⟩)
theorem w9(ha:DE X m a fa)(hb:DE X m' b fb)(hs:f9 b:=by exact λ_ _=>rfl):DE X m (.Subscript a b pos) (λδ=>ixO (fa δ) (fb δ)):=
 (wl BK ha hb hs).imp λσ H Q hz=>by
  obtain⟨B,Hk,δ,d,R,e,k⟩:=hz;obtain⟨d1,i,es,e1,e2,hi,hd⟩:=vP e;refine two R e1 e2 λv u H' s R' r1 r2=>?_;simp only[Rep]at r2;subst r2;exact wp r1 hi hd λv rv=>k v H' s rv
noncomputable def uX(x y:Z7 D):Z7 D:=match x,y with|some (.str z),some (.int i)=>if z.length<=lim then(match atI z.cps.toList i with|some c=>U (.str ⟨#[c]⟩)|none=>M) else M|_,_=>M
set_option tactic.hygienic true in
def sA(h:uX x y=U d):∃z i c,x=U (.str z)/\y=U (.int i)/\z.length<=lim/\atI z.cps.toList i=U c/\d=.str ⟨#[c]⟩:=by
 unfold uX at h;split at h;rename_i z i;by_cases q:z.length<=lim;rw[ZO q]at h;split at h;rename_i c hc;cases h;exact⟨z,i,c,rfl,rfl,q,hc,rfl⟩;trivial;rw[ZJ q]at h;trivial;trivial
theorem Cj(ha:DE X m a fa)(hb:DE X m' b fb)(hs:f9 b:=by exact λ_ _=>rfl):DE X mm (.Subscript a b pos) (λδ=>uX (fa δ) (fb δ)):=
 (wl xw ha hb hs).imp λσ H Q hz=>by
  obtain⟨B,Hk,δ,d,R,e,k⟩:=hz;obtain⟨z,i,c,e1,e2,hl,hc,rfl⟩:=sA e;refine two R e1 e2 λv u H' s R' r1 r2=>?_;simp only[Rep]at r1 r2;subst r1 r2;exact⟨z,i,c,rfl,rfl,aG hl,hc,k _ H' s (by simp only[Rep])⟩
noncomputable def Dj(x:Z7 D):Z7 D:=match x with|some d=>(match aQ d with|some ds=>U (.int ds.length)|none=>(match d with|.str z=>if z.length<=lim then U (.int z.length) else M|_=>M))|none=>M
def jv(x:Z7 D):Z7 D:=match x with|some d=>(match aQ d with|some ds=>U (.int ds.length)|none=>M)|none=>M
set_option tactic.hygienic true in
def tQ(h:jv x=U d):∃e es,x=U e/\aQ e=U es/\d=.int es.length:=by
 unfold jv at h;split at h;rename_i e;split at h;rename_i es he;cases h;exact⟨e,es,rfl,he,rfl⟩;trivial;trivial
def pG{K:Z5}{σ:St}{H:Hp}{B:ZM->Prop}{Hk:Hp}{δ:Mk}{d:D}{P:Z9 V->Hp->Prop}(R:Rel K B Hk δ σ H)(e:fa δ=U d)
  (k:∀v H',aae H H'->Rel K B Hk δ σ H'->Rep K (aZ m B δ σ) H' d v->P [v] H'):pI (tM K m fa) ab0 σ H P:=
 ⟨B,Hk,δ,d,R,e,λv H1 s1 r1=>k v H1 s1 (R.to s1) r1⟩
def CJ(g:Gl X "len")(hm:X.mg "len"=M)(ha:DE X m a fa)(hs:starEach [a] X.env=[(Y,eval a X.env)]:=by rfl)(Jf:((Str.ofString "len")==("__debug__":Str))=Y:=by decide):DE X mm (.Call (.Name "len" p) [a] [] pos) (λδ=>jv (fa δ)):=
 (dS kL g hm PySem.boot_len (ay ha aN hs) (he:=hs)).imp λσ H Q hz=>by
  obtain⟨B,Hk,δ,d,R,e,k⟩:=hz;obtain⟨d1,es,e1,hi,rfl⟩:=tQ e;refine pG R e1 λv H' s R' r=>?_;obtain⟨p,xs,rfl,hq,rs⟩:=r.items hi;exact⟨p,xs,rfl,hq,k _ H' s (by simp only[Rep,rs.length])⟩
theorem Inv.frz(I:Inv X pins σ H s)(h:H p=U u)(mu:Mut (U u)):∃o,Inv X pins σ (upd H p (.frz o u)) s:=by
 have MM:=I.hok p u h;have j_:=MM.lt;have Rn:Mut (H p):=by rw[h];exact mu
 have Lx:∃o,s.heap.get? p=U o:=by
  cases u with
  |lst xs=>obtain⟨_,_,_,_,e⟩:=MM;exact⟨_,e⟩
  |tup xs=>exact mu.elim
  |dK kvs=>obtain⟨_,_,_,_,o,_,_,e,_⟩:=MM;exact⟨_,e⟩
  |dD kvs ep=>obtain⟨_,_,_,_,o,_,e,_⟩:=MM;exact⟨_,e⟩
  |own y=>exact mu.elim
  |rng lo hi=>exact mu.elim
  |frz ob u=>exact mu.elim
  |tbl lq ps=>exact mu.elim
  |ext φ=>obtain⟨_,⟨_,e⟩,_⟩:=MM;exact⟨_,e⟩
 obtain⟨o,ho⟩:=Lx;refine⟨o,?_⟩;have JU:∀c y,H c=U (.own y)->c≠p:=λc y r z=>by subst z;rw[h]at r;cases r;exact mu
 have L4:∀c xs,H c=U (.tup xs)->c≠p:=λc xs r z=>by subst z;rw[h]at r;cases r;exact mu
 have new:aal X.prog X.w (upd H p (.frz o u)) s.heap p (.frz o u):=⟨ho,MM.abi (λb v _ q=>q) (λb q=>by rw[ai (JU b p q)];exact q) λb xs q=>by rw[ai (L4 b xs q)];exact q⟩
 exact I.un (t':=s.toks) (Un.write Rn (.inl rfl) (λb v _ q=>q) ⟨o,ho⟩) (I.hok.write Rn (.inl rfl) (λb v _ q=>q) ⟨o,ho⟩ new)
def ObR.mut{K:Z5}{B:ZM->Prop}{H:Hp}{d:D}{p:ZM}(h:ObR K B H d p):∃u,H p=U u/\Mut (U u):=by
 cases d with
 |lst ds=>obtain⟨xs,h1,h2⟩:=h;exact⟨_,h1,trivial⟩
 |dK ks ds=>obtain⟨xs,h1,h0,h2⟩:=h;exact⟨_,h1,trivial⟩
 |dD ks ds=>obtain⟨xs,⟨ep,h1⟩,h0,h2⟩:=h;exact⟨_,h1,trivial⟩
 |_=>exact(show False from h).elim
def bZ(h:H p=U u)(mu:Mut (U u))(hb:¬B p):Ext B H (upd H p o):=
 ⟨λc xs r=>by rw[ai (λz=>by subst z;rw[h]at r;cases r;exact mu)];exact r,λc x y r=>by rw[ai (λz=>by subst z;rw[h]at r;cases r;exact mu)];exact r,
  λc r=>by rw[ai (λz=>by subst z;exact hb r)]⟩
def ObR.frozen{K:Z5}{B B':ZM->Prop}{H:Hp}{d:D}{p:ZM}{u:HO}{o:Obj}(h:ObR K B H d p)(hu:H p=U u)(hb:¬B p)(hs:∀a,B a->B' a):Rep K B' (upd H p (.frz o u)) d (.ref p):=by
 obtain⟨u',e,mu⟩:=h.mut;rw[hu]at e;cases e;have ex:Ext B H (upd H p (.frz o u)):=bZ hu mu hb;cases d with
 |lst ds=>
  obtain⟨xs,h1,h2⟩:=h;rw[hu]at h1;cases h1;simp only[Rep];exact⟨p,xs,rfl,.inr (.inl ⟨o,ah⟩),(h2.ext ex).more hs⟩
 |dK ks ds=>
  obtain⟨xs,h1,h0,h2⟩:=h;rw[hu]at h1;cases h1;simp only[Rep];exact⟨p,xs,rfl,.inr ⟨o,ah⟩,h0,(h2.ext ex).more hs⟩
 |dD ks ds=>
  obtain⟨xs,⟨ep,h1⟩,h0,h2⟩:=h;rw[hu]at h1;cases h1;simp only[Rep];exact⟨p,xs,rfl,⟨ep,.inr ⟨o,ah⟩⟩,h0,(h2.ext ex).more hs⟩
 |_=>exact(show False from h).elim
theorem DF.share(h:DF X a fa):DE X m a fa:=by
 intro pins s σ H Q I hq;obtain⟨B,Hk,δ,d,R,e,k⟩:=hq;have h1:=h pins s σ H (λv H'=>∃p,v=.ref p/\aae H H'/\H p=M/\ObR X.K B H' d p) I ⟨B,Hk,δ,d,R,e,λp H' s n ob=>⟨p,rfl,s,n,ob⟩⟩;refine thn h1 λu s1 hz=>?_;obtain⟨v,H1,I1,rv,p,ev,sm,hn,ob⟩:=hz;subst ev;obtain⟨u',hu,mu⟩:=ob.mut;obtain⟨o,I2⟩:=I1.frz hu mu;have hb:¬B p:=λz=>by
  obtain⟨o',e'⟩:=R.abx p z;rw[hn]at e';trivial
 refine⟨.ref p,_,I2,rv,k _ _ (sm.put hn) (ob.frozen hu hb λa h=>jn m a h)⟩
end
def acv(K:Z5)(B:ZM->Prop)(Hk H:Hp)(d:D)(v:V):Prop:=match d with
 |.lst es=>∃b xs,v=.ref b/\Hk b=M/\H b=U (.lst xs)/\M1 K B H es xs
 |d=>Rep K B H d v
def abH(K:Z5)(B:ZM->Prop)(Hk H:Hp):Z9 D->Z9 V->Prop
 |[],vs=>vs=[]
 |d::ds,vs=>∃x r,vs=x::r/\acv K B Hk H d x/\abH K B Hk H ds r
def GV(K:Z5)(B:ZM->Prop)(Hk H:Hp)(d:D)(v:V):Prop:=match d with
 |.tup ds=>∃a vs,v=.ref a/\H a=U (.tup vs)/\abH K B Hk H ds vs
 |_=>False
def Fy(K:Z5)(B:ZM->Prop)(Hk H:Hp)(d:D)(v:V):Prop:=Rep K B H d v\/∃es b xs,d=.lst es/\v=.ref b/\Hk b=M/\H b=U (.lst xs)/\M1 K B H es xs
def aa7(K:Z5)(B:ZM->Prop)(Hk H:Hp):Z9 D->Z9 V->Prop
 |[],vs=>vs=[]
 |d::ds,vs=>∃x r,vs=x::r/\Fy K B Hk H d x/\aa7 K B Hk H ds r
def acv.m{K:Z5}{B:ZM->Prop}{Hk H:Hp}{d:D}{v:V}(h:acv K B Hk H d v):Fy K B Hk H d v:=by
 cases d with
 |lst es=>obtain⟨b,xs,h1,h2,h3,h4⟩:=h;exact .inr ⟨es,b,xs,rfl,h1,h2,h3,h4⟩
 |_=>exact .inl h
theorem abH.m{K:Z5}{B:ZM->Prop}{Hk H:Hp}:∀{ds:Z9 D}{vs:Z9 V},abH K B Hk H ds vs->aa7 K B Hk H ds vs
 |[],vs,h=>h
 |d::ds,vs,h=>by obtain⟨x,r,e,h1,h2⟩:=h;exact⟨x,r,e,h1.m,abH.m h2⟩
theorem aa7.ab9{K:Z5}{B:ZM->Prop}{Hk H:Hp}{b:ZM}{xs:Z9 V}{o:Obj}(hx:H b=U (.lst xs))(ex:Ext B H (upd H b (.frz o (.lst xs)))):∀{ds:Z9 D}{vs:Z9 V},aa7 K B Hk H ds vs->aa7 K B Hk (upd H b (.frz o (.lst xs))) ds vs
 |[],vs,h=>h
 |d::ds,vs,h=>by
  obtain⟨x,r,e,h1,h2⟩:=h;refine⟨x,r,e,?_,aa7.ab9 hx ex h2⟩;rcases h1 with h1|⟨es,b',xs',rfl,rfl,n,Ij,rs⟩;exact .inl (h1.ext ex);by_cases q:b'=b;subst q;rw[hx]at Ij;cases Ij;refine .inl ?_;simp only[Rep];exact⟨b',xs,rfl,.inr (.inl ⟨o,ah⟩),rs.ext ex⟩;exact .inr ⟨es,b',xs',rfl,rfl,n,by rw[ai q];exact Ij,rs.ext ex⟩
theorem D6(hB:∀a,B a->∃o:HOn,Hk a=U o.1):∀(ds:Z9 D)(vs:Z9 V)(H:Hp),Inv X pins σ H s->aa7 X.K B Hk H ds vs->
  ∃H',Inv X pins σ H' s/\Ext B H H'/\(∀c o o',Hk c=U o'->H c=U o->H' c=U o)/\M1 X.K B H' ds vs
 |[],vs,H,I,h=>⟨H,I,Ext.refl,λ_ _ _ _ q=>q,by rw[show vs=[] from h];exact M1.nil⟩
 |d::ds,vs,H,I,h=>by
  obtain⟨x,r,rfl,h1,h2⟩:=h;rcases h1 with h1|⟨es,b,xs,rfl,rfl,n,hb,rs⟩;obtain⟨H',I',e',k',r'⟩:=D6 hB ds r H I h2;exact⟨H',I',e',k',M1.cons (h1.ext e') r'⟩;obtain⟨o,I1⟩:=I.frz hb trivial;have nb:¬B b:=λz=>by obtain⟨o',q⟩:=hB b z;rw[n]at q;trivial
  have ex:Ext B H (upd H b (.frz o (.lst xs))):=bZ hb trivial nb;obtain⟨H',I',e',k',r'⟩:=D6 hB ds r _ I1 (aa7.ab9 hb ex h2);refine⟨H',I',ex.trans e',λc o' o2 q1 q2=>k' c o' o2 q1 (by rw[ai (av q1 n)];exact q2),M1.cons (Rep.ext e' ?_) r'⟩;simp only[Rep];exact⟨b,xs,rfl,.inr (.inl ⟨o,ah⟩),rs.ext ex⟩
def oE(K:Z5)(B:ZM->Prop)(Hk H':Hp)(d:D)(fr:Bool)(v:V):Prop:=if fr=L then(∃a,v=.ref a/\Hk a=M/\ObR K B H' d a)\/GV K B Hk H' d v else Rep K B H' d v
noncomputable def spM(K:Z5)(f:Z9 D->Z7 (D×Bool)):Sp:=λvs H Q _=>∃B ds r fr,(∀a,B a->∃o:HOn,H a=U o.1)/\M1 K B H ds vs/\f ds=U (r,fr)/\∀v H',aae H H'->oE K B H H' r fr v->Q v H'
structure FnM (P:YX)(w:YK)(K:Z5)(mg:Str->Z7 Z3)(base:Heap)(k:Nat)(x:Str)(f:List D->Z7 (D×Bool)):Prop where
 ex:∃(p:ZM)(fd:FuncData)(ps:List Str),abg P w K mg base CX0 k p fd ps (spM K f)/\mg x=some (.ref p)/\PySem.W.keepIn K (.ref p)=true/\Binds K fd ps []
def ae{α β:Type}(x:Z7 α)(f:α->Z7 β):Z7 β:=match x with|some a=>f a|none=>M
def ak{α β:Type}{x:Z7 α}{f:α->Z7 β}{b:β}(h:ae x f=U b):∃a,x=U a/\f a=U b:=by
 cases x with
 |none=>trivial
 |some a=>exact⟨a,rfl,h⟩
def shO(x:Z7 (D×Bool)):Z7 D:=match x with|some (d,_)=>U d|none=>M
def frO(x:Z7 (D×Bool)):Z7 D:=match x with|some (.tup _,true)=>M|some (d,true)=>U d|_=>M
def flO(x:Z7 (D×Bool)):Z7 D:=match x with|some (.lst ds,true)=>if D.aaH ds=L then U (.lst ds) else M|_=>M
section
variable{X:Cx}{a:Expr}
def mw(F:FnM X.prog X.w X.K X.mg X.base k x f)(hr:aan k X.A)(hg:Gl X x)(ha:DA X m (e::es) fs)(JQ:(x==("__debug__":Str))=Y)(he:starEach (e::es) X.env=(Y,eval e X.env)::starEach es X.env)(s_:(backTo pos (starEach es X.env)).any (·.1)=Y):
  PE X (.Call (.Name x p) (e::es) [] pos) (λσ H Q=>∃B Hk δ ds r fr,Rel X.K B Hk δ σ H/\fs δ=U ds/\f ds=U (r,fr)/\∀v H1 H',aae H H1->aae H1 H'->oE X.K (aZ m B δ σ) H1 H' r fr v->Q v H'):=by
 obtain⟨q,fd,ps,h1,h2,h3,h4⟩:=F.ex;refine(As (ds:=[]) (dvs:=[]) h1 hr hg h2 h3 h4 .nil Ei ha JQ he s_).imp λσ H Q hz=>?_;obtain⟨B,Hk,δ,ds,r,fr,R,e1,e2,kk⟩:=hz;refine⟨B,Hk,δ,ds,R,e1,λvs H1 s1 rs=>?_⟩;show spM X.K f (vs++[]) H1 Q E0;rw[Y0];exact⟨aZ m B δ σ,ds,r,fr,(R.to s1).bsH m,rs,e2,λv H' s2 rr=>kk v H1 H' s1 s2 rr⟩
def ze(F:FnM X.prog X.w X.K X.mg X.base k x f)(hr:aan k X.A)(hg:Gl X x)(ha:DA X Y (e::es) fs)(JQ:(x==("__debug__":Str))=Y:=by decide)(he:starEach (e::es) X.env=(Y,eval e X.env)::starEach es X.env:=by rfl)
  (s_:(backTo pos (starEach es X.env)).any (·.1)=Y:=by rfl):DF X (.Call (.Name x p) (e::es) [] pos) (λδ=>frO (ae (fs δ) f)):=
 (mw F hr hg ha JQ he s_).imp λσ H Q hz=>by
  obtain⟨B,Hk,δ,d,R,e,kk⟩:=hz;cases q:ae (fs δ) f with
  |none=>simp only[q,frO]at e;trivial
  |some p=>
   obtain⟨d',fr⟩:=p;obtain⟨ds,e1,e2⟩:=ak q;cases fr with
   |false=>cases d'<;>simp only[q,frO]at e<;>trivial
   |true=>
    have hd:d'=d/\∀ts,d≠.tup ts:=by
     cases d' with
     |tup ts=>simp only[q,frO]at e;trivial
     |_=>simp only[q,frO]at e;cases e;exact⟨rfl,λts z=>by cases z⟩
    obtain⟨rfl,nt⟩:=hd;refine⟨B,Hk,δ,ds,_,_,R,e1,e2,λv H1 H' s1 s2 rr=>?_⟩;unfold oE at rr;rw[ZO rfl]at rr;rcases rr with⟨a,rfl,n,ob⟩|rt;exact kk a H' (s1.trans s2) (s1.free n) ob;cases d' with
    |tup ts=>exact(nt ts rfl).elim
    |_=>exact(show False from rt).elim
set_option tactic.hygienic true in
def vM(F:FnM X.prog X.w X.K X.mg X.base k x f)(hr:aan k X.A)(hg:Gl X x)(ha:DA X L (e::es) fs)(JQ:(x==("__debug__":Str))=Y:=by decide)(he:starEach (e::es) X.env=(Y,eval e X.env)::starEach es X.env:=by rfl)
  (s_:(backTo pos (starEach es X.env)).any (·.1)=Y:=by rfl):DF X (.Call (.Name x p) (e::es) [] pos) (λδ=>flO (ae (fs δ) f)):=
 (mw F hr hg ha JQ he s_).imp λσ H Q hz=>by
  obtain⟨B,Hk,δ,d,R,e,kk⟩:=hz;unfold flO at e;dsimp only at e;split at e;rename_i ls q;by_cases fl:D.aaH ls=L;rw[ZO fl]at e;cases e;obtain⟨ds,e1,e2⟩:=ak q;refine⟨B,Hk,δ,ds,_,_,R,e1,e2,λv H1 H' s1 s2 rr=>?_⟩;unfold oE at rr;rw[ZO rfl]at rr;rcases rr with⟨a,rfl,n,xs,hx,rs⟩|rt;exact kk a H' (s1.trans s2) (s1.free n) ⟨xs,hx,M1.flat fl rs⟩;exact(show False from rt).elim;rw[ZJ fl]at e;trivial;trivial
set_option tactic.hygienic true in
def y0(F:FnM X.prog X.w X.K X.mg X.base k x f)(hr:aan k X.A)(hg:Gl X x)(ha:DA X m (e::es) fs)(JQ:(x==("__debug__":Str))=Y:=by decide)(he:starEach (e::es) X.env=(Y,eval e X.env)::starEach es X.env:=by rfl)
  (s_:(backTo pos (starEach es X.env)).any (·.1)=Y:=by rfl):DE X m (.Call (.Name x p) (e::es) [] pos) (λδ=>shO (ae (fs δ) f)):=by
 intro pins s σ H Q I hq;obtain⟨B,Hk,δ,d,R,e,kk⟩:=hq;unfold shO at e;dsimp only at e;split at e
 .rename_i d' fr q
  cases e;obtain⟨ds,e1,e2⟩:=ak q;have h1:=mw (p:=p) F hr hg ha JQ he s_ pins s σ H (λv H'=>∃H1,aae H H1/\aae H1 H'/\oE X.K (aZ m B δ σ) H1 H' d fr v) I ⟨B,Hk,δ,ds,d,fr,R,e1,e2,λv H1 H' s1 s2 rr=>⟨H1,s1,s2,rr⟩⟩;refine thn h1 λu s1 hz=>?_;obtain⟨v,H',I1,rv,H1,MZ,Lp,rr⟩:=hz;cases fr with
  |false=>
   unfold oE at rr;rw[ZJ Zh]at rr;exact⟨v,H',I1,rv,kk v H' (MZ.trans Lp) rr⟩
  |true=>
   unfold oE at rr;rw[ZO rfl]at rr;rcases rr with⟨p,rfl,n,ob⟩|rt
   rotate_left
   cases d with
   |tup ts=>
    obtain⟨a,vs,rfl,UZ,rs⟩:=rt;obtain⟨H2,I2,e2,k2,r2⟩:=D6 (B:=aZ m B δ σ) (Hk:=H1) (λc z=>by obtain⟨o',e'⟩:=R.bsH m c z;exact⟨o',MZ c o' e'⟩) ts vs H' I1 rs.m;refine⟨.ref a,H2,I2,rv,kk _ _ (MZ.trans (Lp.keep k2)) ?_⟩;simp only[Rep];exact⟨a,vs,rfl,e2.aa1 _ _ UZ,r2⟩
   |_=>exact(show False from rt).elim
   obtain⟨u',hu,mu⟩:=ob.mut;obtain⟨o,I2⟩:=I1.frz hu mu;have hb:¬aZ m B δ σ p:=λz=>by
    obtain⟨o',e'⟩:=R.bsH m p z;have:=MZ p o' e';rw[n]at this;trivial
   refine⟨.ref p,_,I2,rv,kk _ _ (MZ.trans (Lp.put n)) (ob.frozen hu hb λa h=>h)⟩
 trivial
end
inductive Out where
 |next (δ:Mk)|ret (d:D) (fr:Bool)|brk (δ:Mk)|cont (δ:Mk)
def ach(K:Z5)(B:ZM->Prop)(Hk H:Hp)(Dn:Ends):Out->Prop
 |.next δ=>∀h_ H',Ext B H H'->Rel K B Hk δ h_ H'->Dn.nx h_ H'
 |.brk δ=>∀h_ H',Ext B H H'->Rel K B Hk δ h_ H'->Dn.bk h_ H'
 |.cont δ=>∀h_ H',Ext B H H'->Rel K B Hk δ h_ H'->Dn.ct h_ H'
 |.ret d fr=>∀v H',Ext B H H'->aae Hk H'->oE K B Hk H' d fr v->Dn.rt v H'
def tD(K:Z5)(g:Mk->Z7 Out):TS:=λDn σ H=>∃B Hk δ o,Rel K B Hk δ σ H/\g δ=U o/\ach K B Hk H Dn o
abbrev DS(X:Cx)(st:Stmt)(g:Mk->Z7 Out):Prop:=PS X st (tD X.K g)
abbrev DSs(X:Cx)(OX:Z9 Stmt)(g:Mk->Z7 Out):Prop:=PSs X OX (tD X.K g)
def ach.ext{K:Z5}{B:ZM->Prop}{Hk H H1:Hp}{Dn:Ends}{o:Out}(h:ach K B Hk H Dn o)(e:Ext B H H1):ach K B Hk H1 Dn o:=by
 cases o with
 |next δ=>exact λh_ H' x r=>h h_ H' (e.trans x) r
 |brk δ=>exact λh_ H' x r=>h h_ H' (e.trans x) r
 |cont δ=>exact λh_ H' x r=>h h_ H' (e.trans x) r
 |ret d fr=>exact λv H' x r=>h v H' (e.trans x) r
def aaD(δ:Mk):Z7 Out:=U (.next δ)
def aI(x:Z7 Out)(k:Mk->Z7 Out):Z7 Out:=match x with|some (.next δ)=>k δ|o=>o
section
variable{X:Cx}{a b e:Expr}{fa:Mk->Z7 D}{pos p:Pos}{st:Stmt}{ar:Z9 Stmt}{g1 g2:Mk->Z7 Out}
theorem Ah:DSs X [] aaD:=yT.imp λDn σ H hz=>by
 obtain⟨B,Hk,δ,o,R,e,k⟩:=hz;cases e;exact k σ H Ext.refl R
theorem dW(h1:DS X st g1)(h2:DSs X ar g2):DSs X (st::ar) (λδ=>aI (g1 δ) g2):=
 (bT h1 h2).imp λDn σ H hz=>by
  obtain⟨B,Hk,δ,o,R,e,k⟩:=hz;cases q:g1 δ with
  |none=>simp only[q,aI]at e;trivial
  |some o1=>
   cases o1 with
   |next B_=>
    simp only[q,aI]at e;exact⟨B,Hk,δ,_,R,q,λh_ H' x R'=>⟨B,Hk,B_,o,R',e,k.ext x⟩⟩
   |brk B_=>simp only[q,aI]at e;cases e;exact⟨B,Hk,δ,_,R,q,k⟩
   |cont B_=>simp only[q,aI]at e;cases e;exact⟨B,Hk,δ,_,R,q,k⟩
   |ret d fr=>simp only[q,aI]at e;cases e;exact⟨B,Hk,δ,_,R,q,k⟩
theorem mR(h1:DS X st g1):DSs X [st] g1:=mP h1
def ifO(c:Z7 Bool)(x y:Z7 Out):Z7 Out:=match c with|some true=>x|some false=>y|none=>M
theorem Rel.ext{K:Z5}{B:ZM->Prop}{Hk H H':Hp}{δ:Mk}{σ:St}(R:Rel K B Hk δ σ H)(s:aae H H'):Ext B H H':=s.ext R.abx
theorem Ej(hc:DT X c fc)(ha:DSs X x g1)(hb:DSs X y g2):DS X (.If c x y pos) (λδ=>ifO (fc δ) (g1 δ) (g2 δ)):=
 (BW hc ha hb).imp λDn σ H hz=>by
  obtain⟨B,Hk,δ,o,R,e,k⟩:=hz;unfold ifO at e;dsimp only at e;split at e;rename_i q;exact⟨B,Hk,δ,L,R,q,λH1 s1=>Ar ⟨B,Hk,δ,o,R.to s1,e,k.ext (R.ext s1)⟩⟩;rename_i q;exact⟨B,Hk,δ,Y,R,q,λH1 s1=>zh ⟨B,Hk,δ,o,R.to s1,e,k.ext (R.ext s1)⟩⟩;trivial
theorem Rel.set{K:Z5}{B:ZM->Prop}{Hk H:Hp}{δ:Mk}{σ:St}{i:Nat}{d:D}{v:V}(R:Rel K B Hk δ σ H)(hi:i<σ.length)(r:Rep K B H d v):Rel K B Hk (δ.set i (U (d,Y))) (σ.set i (U v)) H:=by
 have k_:i<δ.length:=by rw[R.len];exact hi
 refine⟨R.same,R.bor,by simpa using R.len,λj e h=>?_,λj e h=>?_,λj k e f q Ka h1 h2 h3 h4=>?_⟩;by_cases hj:j=i;subst hj;rw[ZG k_]at h;cases h;exact⟨v,by rw[ZG hi],r⟩;rw[ZL (ZA hj)]at h;rw[ZL (ZA hj)];exact R.var j e h;by_cases hj:j=i;subst hj;rw[ZG k_]at h;cases h;rw[ZL (ZA hj)]at h;rw[ZL (ZA hj)];exact R.own j e h;have nj:j≠i:=λz=>by subst z;rw[ZG k_]at h1;cases h1
 have nk:k≠i:=λz=>by subst z;rw[ZG k_]at h2;cases h2
 rw[ZL (ZA nj)]at h1 h3;rw[ZL (ZA nk)]at h2 h4;exact R.dis j k e f q Ka h1 h2 h3 h4
def Rel.abK{K:Z5}{B:ZM->Prop}{Hk H:Hp}{δ:Mk}{σ:St}{i:Nat}{d:D}{a:ZM}(R:Rel K B Hk δ σ H)(hi:i<σ.length)(hk:Hk a=M)(ob:ObR K B H d a)
  (ho:∀(j:Nat) e,j≠i->δ[j]?=U (U (e,L))->σ[j]?≠U (U (.ref a))):Rel K B Hk (δ.set i (U (d,L))) (σ.set i (U (.ref a))) H:=by
 have k_:i<δ.length:=by rw[R.len];exact hi
 refine⟨R.same,R.bor,by simpa using R.len,λj e h=>?_,λj e h=>?_,λj k e f q Ka h1 h2 h3 h4=>?_⟩;by_cases hj:j=i;subst hj;rw[ZG k_]at h;cases h;rw[ZL (ZA hj)]at h;rw[ZL (ZA hj)];exact R.var j e h;by_cases hj:j=i;subst hj;rw[ZG k_]at h;cases h;exact⟨a,by rw[ZG hi],hk,ob⟩;rw[ZL (ZA hj)]at h;rw[ZL (ZA hj)];exact R.own j e h;by_cases nj:j=i;subst nj;have nk:k≠j:=λz=>Ka z.symm;rw[ZG hi]at h3;cases h3;rw[ZL (ZA nk)]at h2 h4;exact ho k f nk h2 h4;rw[ZL (ZA nj)]at h1 h3;by_cases nk:k=i;subst nk;rw[ZG hi]at h4;cases h4;exact ho j e nj h1 h3;rw[ZL (ZA nk)]at h2 h4;exact R.dis j k e f q Ka h1 h2 h3 h4
def bK(i:Nat)(x:Z7 D)(δ:Mk):Z7 Out:=match x with|some d=>if i<δ.length then U (.next (δ.set i (U (d,Y)))) else M|none=>M
def eT(i:Nat)(x:Z7 D)(δ:Mk):Z7 Out:=match x with|some d=>if i<δ.length then U (.next (δ.set i (U (d,L)))) else M|none=>M
def ro(h:bK i x δ=U o):∃d,x=U d/\i<δ.length/\o=.next (δ.set i (U (d,Y))):=by
 unfold bK at h;split at h;rename_i d;by_cases q:i<δ.length;rw[ZO q]at h;cases h;exact⟨d,rfl,q,rfl⟩;rw[ZJ q]at h;trivial;trivial
def jB(h:eT i x δ=U o):∃d,x=U d/\i<δ.length/\o=.next (δ.set i (U (d,L))):=by
 unfold eT at h;split at h;rename_i d;by_cases q:i<δ.length;rw[ZO q]at h;cases h;exact⟨d,rfl,q,rfl⟩;rw[ZJ q]at h;trivial;trivial
def Ad{i:Nat}{Dn:Ends}{σ:St}{H:Hp}(h:tD X.K (λδ=>bK i (fa δ) δ) Dn σ H):zo (tM X.K Y fa) (gF i) Dn σ H:=by
 obtain⟨B,Hk,δ,o,R,e,k⟩:=h;obtain⟨d,e1,hi,rfl⟩:=ro e;exact⟨B,Hk,δ,d,R,e1,λv H' s r=>k _ H' (R.ext s) ((R.to s).set (by rw[<-R.len];exact hi) r)⟩
def vA{i:Nat}{Dn:Ends}{σ:St}{H:Hp}(h:tD X.K (λδ=>eT i (fa δ) δ) Dn σ H):zo (tF X.K fa) (gF i) Dn σ H:=by
 obtain⟨B,Hk,δ,o,R,e,k⟩:=h;obtain⟨d,e1,hi,rfl⟩:=jB e;refine⟨B,Hk,δ,d,R,e1,λa H' s n ob=>k _ H' (R.ext s) ((R.to s).abK (by rw[<-R.len];exact hi) (R.same.free n) ob λj e hj h1 h2=>?_)⟩;obtain⟨b,h3,_,LI⟩:=R.own j e h1;rw[h2]at h3;cases h3;obtain⟨o,e'⟩:=LI.there;rw[n]at e';trivial
def BX(hN:X.N.Nodup)(ha:DE X Y a fa)(hi:X.N[i]?=U x:=by rfl)(hx:Loc X.env.scope x:=by first|exact Or.inl rfl|exact Or.inr rfl)(hs:swapsWith a (U (.Name x pos')) pos.line X.env=pure Y:=by rfl)(hf:X.fn x=L\/X.env.scope.names.lookup x=U .local:=by first|exact .inl rfl|exact .inr rfl):DS X (.Assign [.Name x pos'] a pos) (λδ=>bK i (fa δ) δ):=
 (iu hN hi hx ha hs hf).imp λDn σ H h=>Ad h
def zt(hN:X.N.Nodup)(ha:DF X a fa)(hi:X.N[i]?=U x:=by rfl)(hx:Loc X.env.scope x:=by first|exact Or.inl rfl|exact Or.inr rfl)(hs:swapsWith a (U (.Name x pos')) pos.line X.env=pure Y:=by rfl)(hf:X.fn x=L\/X.env.scope.names.lookup x=U .local:=by first|exact .inl rfl|exact .inr rfl):DS X (.Assign [.Name x pos'] a pos) (λδ=>eT i (fa δ) δ):=
 (iu hN hi hx ha hs hf).imp λDn σ H h=>vA h
def eR(x:Z7 D):Z7 Out:=match x with|some d=>U (.ret d Y)|none=>M
def eD(x:Z7 D):Z7 Out:=match x with|some d=>U (.ret d L)|none=>M
theorem BR(ha:DE X Y a fa):DS X (.Return (U a) pos) (λδ=>eR (fa δ)):=
 (mU ha).imp λDn σ H hz=>by
  obtain⟨B,Hk,δ,o,R,e,k⟩:=hz;cases q:fa δ with
  |none=>simp only[q,eR]at e;trivial
  |some d=>
   simp only[q,eR]at e;cases e;exact⟨B,Hk,δ,d,R,q,λv H' s r=>k v H' (R.ext s) (R.same.trans s) (by unfold oE;rw[ZJ Zh];exact r)⟩
theorem zS(ha:DF X a fa):DS X (.Return (U a) pos) (λδ=>eD (fa δ)):=
 (mU ha).imp λDn σ H hz=>by
  obtain⟨B,Hk,δ,o,R,e,k⟩:=hz;cases q:fa δ with
  |none=>simp only[q,eD]at e;trivial
  |some d=>
   simp only[q,eD]at e;cases e;exact⟨B,Hk,δ,d,R,q,λp H' s n ob=>k (.ref p) H' (R.ext s) (R.same.trans s) (by unfold oE;rw[ZO rfl];exact .inl ⟨p,rfl,R.same.free n,ob⟩)⟩
def bN(i:Nat)(δ:Mk):Z7 D:=match δ[i]? with|some (some (d,true))=>U d|_=>M
def cj(h:bN i δ=U d):δ[i]?=U (U (d,L)):=by
 unfold bN at h;split at h;rename_i d' e;cases h;exact e;trivial
def yO(hN:X.N[i]?=U x:=by rfl)(hv:Vis X.env.scope x:=by first|exact Or.inl rfl|exact Or.inr (Or.inl rfl)|exact Or.inr (Or.inr rfl))(hd:(x==("__debug__":Str))=Y:=by decide)(HZ:(x==("__classdict__":Str))=Y:=by decide):
  DS X (.Return (U (.Name x px)) pos) (λδ=>eD (bN i δ)):=
 (mU (bA hN hv hd HZ)).imp λDn σ H hz=>by
  obtain⟨B,Hk,δ,o,R,e,k⟩:=hz;cases q:bN i δ with
  |none=>simp only[q,eD]at e;trivial
  |some d=>
   simp only[q,eD]at e;cases e;obtain⟨p,h1,h2,h3⟩:=R.own i d (cj q);exact⟨.ref p,h1,k (.ref p) H Ext.refl R.same (by unfold oE;rw[ZO rfl];exact .inl ⟨p,rfl,h2,h3⟩)⟩
def Rel.abL{K:Z5}{B:ZM->Prop}{Hk H:Hp}{δ:Mk}{σ:St}{i:Nat}{ds ds':Z9 D}{l:ZM}{xs xs':Z9 V}(R:Rel K B Hk δ σ H)(h:δ[i]?=U (U (.lst ds,L)))(hl:σ[i]?=U (U (.ref l)))(hx:H l=U (.lst xs))(r:M1 K B H ds' xs'):
  Ext B H (upd H l (.lst xs'))/\Rel K B Hk (δ.set i (U (.lst ds',L))) σ (upd H l (.lst xs')):=by
 obtain⟨a,e1,e2,ys,e3,_⟩:=R.own i _ h;rw[hl]at e1;cases e1;have hb:¬B l:=λz=>by obtain⟨o,q⟩:=R.bor l z;rw[e2]at q;trivial
 have ex:Ext B H (upd H l (.lst xs')):=bZ hx trivial hb;have k_:i<δ.length:=(ZP.mp h).1;refine⟨ex,⟨R.same.put e2,R.bor,by simpa using R.len,λj e q=>?_,λj e q=>?_,λj k e f q Ka h1 h2 h3 h4=>?_⟩⟩;by_cases hj:j=i;subst hj;rw[ZG k_]at q;cases q;rw[ZL (ZA hj)]at q;obtain⟨v,q1,q2⟩:=R.var j e q;exact⟨v,q1,q2.ext ex⟩;by_cases hj:j=i;subst hj;rw[ZG k_]at q;cases q;exact⟨l,hl,e2,xs',ah,r.ext ex⟩;rw[ZL (ZA hj)]at q;obtain⟨c,q1,q2,q3⟩:=R.own j e q;have hc:c≠l:=λz=>by subst z;exact R.dis j i e _ c hj q h q1 hl
 exact⟨c,q1,q2,q3.ext ex λo q _=>by rw[ai hc];exact q⟩;have Kh:∃e',δ[j]?=U (U (e',L)):=by
  by_cases hj:j=i;subst hj;exact⟨_,h⟩;rw[ZL (ZA hj)]at h1;exact⟨_,h1⟩
 have Jh:∃e',δ[k]?=U (U (e',L)):=by
  by_cases hj:k=i;subst hj;exact⟨_,h⟩;rw[ZL (ZA hj)]at h2;exact⟨_,h2⟩
 obtain⟨e',Kh⟩:=Kh;obtain⟨f',Jh⟩:=Jh;exact R.dis j k e' f' q Ka Kh Jh h3 h4
noncomputable def lC(i:Nat)(x:Z7 D)(δ:Mk):Z7 Out:=match bN i δ,x with|some (.lst ds),some d=>if ds.length<lim then U (.next (δ.set i (U (.lst (ds++[d]),L)))) else M|_,_=>M
set_option tactic.hygienic true in
def rU(h:lC i x δ=U o):∃ds d,δ[i]?=U (U (.lst ds,L))/\x=U d/\ds.length<lim/\o=.next (δ.set i (U (.lst (ds++[d]),L))):=by
 unfold lC at h;split at h;rename_i ds d q;by_cases hl:ds.length<lim;rw[ZO hl]at h;cases h;exact⟨ds,d,cj q,rfl,hl,rfl⟩;rw[ZJ hl]at h;trivial;trivial
def tx{i:Nat}{x:Str}{px apos i_:Pos}(ha:DE X Y a fa)(hN:X.N[i]?=U x:=by rfl)(hv:Vis X.env.scope x:=by first|exact Or.inl rfl|exact Or.inr (Or.inl rfl)|exact Or.inr (Or.inr rfl))
  (mc:Mc X.env (.Name x px) "append" a [] apos i_)(hd:(x==("__debug__":Str))=Y:=by decide)(HZ:(x==("__classdict__":Str))=Y:=by decide)
  (JJ:swapsWith (.Call (.Attribute (.Name x px) "append" apos) [a] [] i_) M pos.line X.env=pure Y:=by rfl):DS X (.Expr (.Call (.Attribute (.Name x px) "append" apos) [a] [] i_) pos) (λδ=>lC i (fa δ) δ):=
 (me (qx Xn PySem.F.slot_list_append PySem.F.type_list_append jV (bA hN hv hd HZ) (ay ha aN mc.s) mc) JJ).imp λDn σ H hz=>by
  obtain⟨B,Hk,δ,o,R,e,k⟩:=hz;obtain⟨ds,d,h1,e1,hl,rfl⟩:=rU e;obtain⟨l,h2,h3,xs,h4,h5⟩:=R.own i _ h1;refine⟨.ref l,h2,.inl ⟨rfl,xs,SqL.of h4⟩,pG R e1 λv H' s R' r=>?_⟩;have KY:=s l _ h4;have Qd:M1 X.K B H' ds xs:=h5.ext (R.ext s);obtain⟨x1,x2⟩:=R'.abL (ds':=ds++[d]) (xs':=xs++[v]) h1 h2 KY (Qd.append (M1.cons r M1.nil));exact⟨l,xs,v,rfl,rfl,KY,by rw[<-h5.length];exact ZD hl (aG (ZU _)),k σ _ ((R.ext s).trans x1) x2⟩
def aaO(i:Nat)(δ:Mk):Mk:=match δ[i]? with|some (some (d,true))=>δ.set i (U (d,Y))|_=>δ
theorem Rel.aaO(i:Nat)(I:Inv X pins σ H s)(R:Rel X.K B Hk δ σ H):∃H',Inv X pins σ H' s/\Ext B H H'/\Rel X.K B Hk (aaO i δ) σ H':=by
 unfold L2.aaO;split;rename_i d h;obtain⟨a,e1,e2,ob⟩:=R.own i d h;obtain⟨u,hu,mu⟩:=ob.mut;obtain⟨o,I2⟩:=I.frz hu mu;have hb:¬B a:=λz=>by obtain⟨o,q⟩:=R.bor a z;rw[e2]at q;trivial
 have ex:Ext B H (upd H a (.frz o u)):=bZ hu mu hb;have k_:i<δ.length:=(ZP.mp h).1;refine⟨_,I2,ex,⟨R.same.put e2,R.bor,by simpa using R.len,λj e q=>?_,λj e q=>?_,λj k e f q Ka h1 h2 h3 h4=>?_⟩⟩;by_cases hj:j=i;subst hj;rw[ZG k_]at q;cases q;exact⟨_,e1,ob.frozen hu hb λa h=>h⟩;rw[ZL (ZA hj)]at q;obtain⟨v,q1,q2⟩:=R.var j e q;exact⟨v,q1,q2.ext ex⟩;by_cases hj:j=i;subst hj;rw[ZG k_]at q;cases q;rw[ZL (ZA hj)]at q;obtain⟨c,q1,q2,q3⟩:=R.own j e q;have hc:c≠a:=λz=>by subst z;exact R.dis j i e _ c hj q h q1 e1
 exact⟨c,q1,q2,q3.ext ex λo q _=>by rw[ai hc];exact q⟩;have nj:j≠i:=λz=>by subst z;rw[ZG k_]at h1;cases h1
 have nk:k≠i:=λz=>by subst z;rw[ZG k_]at h2;cases h2
 rw[ZL (ZA nj)]at h1;rw[ZL (ZA nk)]at h2;exact R.dis j k e f q Ka h1 h2 h3 h4;exact⟨H,I,Ext.refl,R⟩
def FS(i:Nat)(h:DS X st g):DS X st (λδ=>g (aaO i δ)):=by
 intro pins s σ H Dn I ⟨B,Hk,δ,o,R,e,k⟩;obtain⟨H',I',x,R'⟩:=R.aaO i I;exact h pins s σ H' Dn I' ⟨B,Hk,_,o,R',e,k.ext x⟩
theorem AN(i:Nat)(h:DSs X OX g):DSs X OX (λδ=>g (aaO i δ)):=by
 intro pins s σ H Dn I ⟨B,Hk,δ,o,R,e,k⟩;obtain⟨H',I',x,R'⟩:=R.aaO i I;exact h pins s σ H' Dn I' ⟨B,Hk,_,o,R',e,k.ext x⟩
end
noncomputable def tG(K:Z5)(τ:D->Mk->Z7 Mk):TG:=λv σ H Q=>∃B Hk δ d f_,Rel K B Hk δ σ H/\Rep K B H d v/\τ d δ=U f_/\∀h_,Rel K B Hk f_ h_ H->Q h_ H
noncomputable def tGs(K:Z5)(τ:Z9 D->Mk->Z7 Mk):TGs:=λvs σ H Q=>∃B Hk δ ds f_,Rel K B Hk δ σ H/\M1 K B H ds vs/\τ ds δ=U f_/\∀h_,Rel K B Hk f_ h_ H->Q h_ H
abbrev DG(X:Cx)(tg:Expr)(τ:D->Mk->Z7 Mk):Prop:=PG X tg (tG X.K τ)
abbrev DGs(X:Cx)(tg:Z9 Expr)(τ:Z9 D->Mk->Z7 Mk):Prop:=PGs X tg (tGs X.K τ)
def aa(i:Nat)(d:D)(δ:Mk):Z7 Mk:=if i<δ.length then U (δ.set i (U (d,Y))) else M
def aak(ds:Z9 D)(δ:Mk):Z7 Mk:=match ds with|[]=>U δ|_=>M
def aj(τ:D->Mk->Z7 Mk)(υ:Z9 D->Mk->Z7 Mk)(ds:Z9 D)(δ:Mk):Z7 Mk:=match ds with|d::r=>ae (τ d δ) (υ r)|[]=>M
def aO(υ:Z9 D->Mk->Z7 Mk)(d:D)(δ:Mk):Z7 Mk:=match d with|.tup ds=>υ ds δ|_=>M
def PG.imp(h:PG X tg t)(i:∀v σ H Q,t' v σ H Q->t v σ H Q):PG X tg t':=λpins s σ H v u Q I r q=>h pins s σ H v u Q I r (i v σ H Q q)
def PGs.imp(h:PGs X tg t)(i:∀v σ H Q,t' v σ H Q->t v σ H Q):PGs X tg t':=λpins s σ H v u Q I r q=>h pins s σ H v u Q I r (i v σ H Q q)
section
variable{X:Cx}
def yP(hN:X.N.Nodup)(hi:X.N[i]?=U x:=by rfl)(hx:Loc X.env.scope x:=by first|exact Or.inl rfl|exact Or.inr rfl)(hf:X.fn x=L\/X.env.scope.names.lookup x=U .local:=by first|exact .inl rfl|exact .inr rfl):DG X (.Name x pos) (aa i):=
 (mn hN hi hx hf).imp λv σ H Q hz=>by
  obtain⟨B,Hk,δ,d,f_,R,r,e,k⟩:=hz;unfold aa at e;by_cases q:i<δ.length;rw[ZO q]at e;obtain rfl:=Z8 e;exact k _ (R.set (by rw[<-R.len];exact q) r);rw[ZJ q]at e;trivial
theorem AX:DGs X [] aak:=zj.imp λv σ H Q hz=>by
 obtain⟨B,Hk,δ,ds,f_,R,r,e,k⟩:=hz;cases ds with
 |nil=>simp only[aak]at e;obtain rfl:=Z8 e;simp only[M1]at r;exact⟨r,k σ R⟩
 |cons d ds=>simp only[aak]at e;trivial
theorem vw(h1:DG X e τ)(h2:DGs X es υ)(hs:(assignEach (e::es) X.env).map (·.2)=assign e X.env::(assignEach es X.env).map (·.2):=by rfl):DGs X (e::es) (aj τ υ):=
 (wZ h1 h2 hs).imp λv σ H Q hz=>by
  obtain⟨B,Hk,δ,ds,f_,R,r,e,k⟩:=hz;cases ds with
  |nil=>simp only[aj]at e;trivial
  |cons d ds=>
   simp only[aj]at e;obtain⟨B_,e1,e2⟩:=ak e;simp only[M1]at r;obtain⟨x,xs,rfl,r1,r2⟩:=r;exact⟨x,xs,rfl,B,Hk,δ,d,B_,R,r1,e1,λKZ R1=>⟨B,Hk,B_,ds,f_,R1,r2,e2,k⟩⟩
def bH(h:∀ds δ f_,υ ds δ=U f_->ds.length=n)(ds:Z9 D)(δ f_:Mk)(e:aj τ υ ds δ=U f_):ds.length=n+1:=by
 cases ds with
 |nil=>simp only[aj]at e;trivial
 |cons d ds=>
  simp only[aj]at e;obtain⟨B_,_,e2⟩:=ak e;rw[bO,h _ _ _ e2]
def fP(ds:Z9 D)(δ f_:Mk)(e:aak ds δ=U f_):ds.length=0:=by
 cases ds with
 |nil=>rfl
 |cons d ds=>simp only[aak]at e;trivial
theorem Cc(hc:X.calm=L)(h:DGs X es υ)(hl:∀ds δ f_,υ ds δ=U f_->ds.length=n)(hn:(assignEach es X.env).length=n:=by rfl)(HG:(assignEach es X.env).findIdx? (·.1)=M:=by rfl):DG X (.Tuple es k pos) (aO υ):=
 (Bz hc h hn HG).imp λv σ H Q hz=>by
  obtain⟨B,Hk,δ,d,f_,R,r,e,k⟩:=hz;cases d with
  |tup ds=>
   simp only[aO]at e;simp only[Rep]at r;obtain⟨a,xs,rfl,hq,rs⟩:=r;exact⟨a,xs,rfl,SqT.of hq,by rw[<-rs.length];exact hl _ _ _ e,B,Hk,δ,ds,f_,R,rs,e,k⟩
  |_=>simp only[aO]at e;trivial
end
def bd(δ:Mk):Prop:=∀(i:Nat) d,δ[i]?≠U (U (d,L))
structure abh (τ:D->Mk->Z7 Mk):Prop where
 new:∀d d' δ f_,τ d δ=some f_->τ d' f_=τ d' δ
 own:∀d δ f_,τ d δ=some f_->bd δ->bd f_
def gu(h:bd δ):bd (δ.set i (U (d,Y))):=λj e q=>by
 by_cases hj:i=j;subst hj;rw[List.getElem?_set]at q;simp at q;rw[ZL hj]at q;exact h j e q
def jq(i:Nat):∀d δ f_,aa i d δ=U f_->bd δ->bd f_:=λd δ f_ h n=>by
 unfold aa at h;by_cases q:i<δ.length;rw[ZO q]at h;obtain rfl:=Z8 h;exact gu n;rw[ZJ q]at h;trivial
def AF:∀ds δ f_,aak ds δ=U f_->bd δ->bd f_:=λds δ f_ h n=>by
 cases ds with
 |nil=>simp only[aak]at h;obtain rfl:=Z8 h;exact n
 |cons d ds=>simp only[aak]at h;trivial
def nZ(h1:∀d δ f_,τ d δ=U f_->bd δ->bd f_)(h2:∀ds δ f_,υ ds δ=U f_->bd δ->bd f_):∀ds δ f_,aj τ υ ds δ=U f_->bd δ->bd f_:=λds δ f_ h n=>by
 cases ds with
 |nil=>simp only[aj]at h;trivial
 |cons d ds=>
  simp only[aj]at h;obtain⟨B_,e1,e2⟩:=ak h;exact h2 _ _ _ e2 (h1 _ _ _ e1 n)
def AA(h2:∀ds δ f_,υ ds δ=U f_->bd δ->bd f_):∀d δ f_,aO υ d δ=U f_->bd δ->bd f_:=λd δ f_ h n=>by
 cases d with
 |tup ds=>exact h2 ds δ f_ h n
 |_=>simp only[aO]at h;trivial
def f7(i:Nat):abh (aa i):=abh.mk (own:=jq i)<|λd d' δ f_ h=>by
 unfold aa at h⊢;by_cases q:i<δ.length;rw[ZO q]at h;obtain rfl:=Z8 h;rw[Zi,ZO q,ZO q,WI];rw[ZJ q]at h;trivial
def uI(i j:Nat)(Kb:i≠j):abh (aO (aj (aa i) (aj (aa j) aak))):=abh.mk (own:=AA (nZ (jq i) (nZ (jq j) AF)))<|λd d' δ f_ h=>by
 cases d with
 |tup ds=>
  cases ds with
  |nil=>simp only[aO,aj]at h;trivial
  |cons a ds=>
   cases ds with
   |nil=>simp only[aO,aj]at h;obtain⟨_,_,h⟩:=ak h;trivial
   |cons b ds=>
    cases ds with
    |cons c ds=>simp only[aO,aj]at h;obtain⟨_,_,h⟩:=ak h;obtain⟨_,_,h⟩:=ak h;simp only[aak]at h;trivial
    |nil=>
     simp only[aO,aj]at h;obtain⟨B_,h1,h⟩:=ak h;obtain⟨ON,h2,h⟩:=ak h;simp only[aak]at h;obtain rfl:=Z8 h;unfold aa at h1;by_cases qi:i<δ.length;rw[ZO qi]at h1;obtain rfl:=Z8 h1;unfold aa at h2;by_cases qj:j<(δ.set i (U (a,Y))).length;rw[ZO qj]at h2;obtain rfl:=Z8 h2;rw[Zi]at qj;cases d' with
     |tup es=>
      cases es with
      |nil=>rfl
      |cons a' es=>
       cases es with
       |nil=>
        simp only[aO,aj,aa,Zi];rw[ZO qi,ZO qi];rfl
       |cons b' es=>
        have e3:(((List.set δ i (U (a,Y))).set j (U (b,Y))).set i (U (a',Y))).set j (U (b',Y))=(List.set δ i (U (a',Y))).set j (U (b',Y)):=by
         rw[List.set_comm _ _ Kb.symm,WI,WI]
        simp only[aO,aj,aa,Zi];rw[ZO qi,ZO qi];simp only[ae,aj,aa,Zi];rw[ZO qj,ZO qj,e3]
     |_=>rfl
     rw[ZJ qj]at h2;trivial;rw[ZJ qi]at h1;trivial
 |_=>simp only[aO]at h;trivial
def ItD(K:Z5)(B:ZM->Prop)(H1:Hp)(J:It)(ds:Z9 D):Prop:=∀H',Ext B H1 H'->J.stop ds.length H'/\∀(i:Nat) d,ds[i]?=U d->J.go i H'/\∀x JT,J.yld i H' x JT->aae H' JT/\Rep K B JT d x
noncomputable def tI(K:Z5)(m:Bool)(f:Mk->Z7 (Z9 D)):TI:=λσ H R=>∃B Hk δ ds,Rel K B Hk δ σ H/\f δ=U ds/\∀J H1,aae H H1->ItD K (aZ m B δ σ) H1 J ds->R J H1
abbrev DI(X:Cx)(m:Bool)(tg iter:Expr)(f:Mk->Z7 (Z9 D)):Prop:=PI X tg iter (tI X.K m f)
def b9(x:Z7 D):Z7 (Z9 D):=match x with|some (.lst ds)=>U ds|_=>M
def u7(x:Z7 D):Z7 (Z9 D):=match x with|some (.tup ds)=>U ds|_=>M
def jR(h:b9 x=U ds):x=U (.lst ds):=by
 unfold b9 at h;split at h;obtain rfl:=Z8 h;rfl;trivial
def kW(h:u7 x=U ds):x=U (.tup ds):=by
 unfold u7 at h;split at h;obtain rfl:=Z8 h;rfl;trivial
def fg(lo:Int)(n:Nat):Z9 D:=(List.range n).map λ(i:Nat)=>.int (lo+(i:Int))
section
variable{X:Cx}{m:Bool}{a tg:Expr}{fa:Mk->Z7 D}
theorem lP(h:DE X m a fa):DI X m tg a (λδ=>b9 (fa δ)):=
 (rQ h).imp λσ H Q hz=>by
  obtain⟨B,Hk,δ,ds,R,e,k⟩:=hz;refine⟨B,Hk,δ,_,R,jR e,λv H' s r=>?_⟩;simp only[Rep]at r;obtain⟨l,xs,rfl,hq,rs⟩:=r;refine⟨l,rfl,⟨xs,hq.sq⟩,k _ H' s λH2 x=>?_⟩;have K7:=hq.ext x;have Ke:=rs.ext x;refine⟨⟨xs,K7.sq,by rw[rs.length];exact ZU _⟩,λi d hd=>?_⟩;obtain⟨y,hy,ry⟩:=Ke.get hd;refine⟨⟨xs,y,K7.sq,hy⟩,λz H3 ⟨e3,hz⟩=>⟨by rw[e3];exact aae.refl _,?_⟩⟩;rw[e3];have:=hz xs K7.sq;rw[hy]at this;obtain rfl:=Z8 this;exact ry
theorem B3(h:DE X m a fa):DI X m tg a (λδ=>u7 (fa δ)):=
 (Bx h).imp λσ H Q hz=>by
  obtain⟨B,Hk,δ,ds,R,e,k⟩:=hz;refine⟨B,Hk,δ,_,R,kW e,λv H' s r=>?_⟩;simp only[Rep]at r;obtain⟨l,xs,rfl,hq,rs⟩:=r;refine⟨l,rfl,⟨xs,SqT.of hq⟩,k _ H' s λH2 x=>?_⟩;have K7:SqT X.K H2 l xs:=SqT.of (x.aa1 _ _ hq);have Ke:=rs.ext x;refine⟨⟨xs,K7,by rw[rs.length];exact ZU _⟩,λi d hd=>?_⟩;obtain⟨y,hy,ry⟩:=Ke.get hd;refine⟨⟨xs,y,K7,hy⟩,λz H3 ⟨e3,hz⟩=>⟨by rw[e3];exact aae.refl _,?_⟩⟩;rw[e3];have:=hz xs K7;rw[hy]at this;obtain rfl:=Z8 this;exact ry
def At{K:Z5}{B:ZM->Prop}{H1:Hp}(lo:Int)(n:Nat):ItD K B H1 (Itr lo n) (fg lo n):=λH' x=>by
 refine⟨by show n<=(fg lo n).length;unfold fg;simp,λi d hd=>?_⟩;unfold fg at hd;rw[YY]at hd;cases q:(List.range n)[i]? with
 |none=>rw[q]at hd;trivial
 |some j=>
  rw[q]at hd;obtain⟨hi,ej⟩:=ZP.mp q;rw[List.getElem_range]at ej;subst ej;rw[Xj]at hi;simp only[Option.map_some,ZF]at hd;subst hd;refine⟨hi,λz H3 ⟨e3,hz⟩=>⟨by rw[e3];exact aae.refl _,?_⟩⟩;simp only[Rep];exact hz
def r6(x:Z7 D):Z7 (Z9 D):=match x with|some (.int j)=>if(decide (-(2 ^ 62)<=j/\j<2 ^ 62))=L then U (fg 0 j.toNat) else M|_=>M
theorem AE(g:Gl X "range")(hm:X.mg "range"=M)(h:DE X m a fa)(hs:starEach [a] X.env=[(Y,eval a X.env)]:=by rfl):DI X mm tg (.Call (.Name "range" p) [a] [] pos) (λδ=>r6 (fa δ)):=
 (rf g hm (ay h aN hs) hs).imp λσ H Q hz=>by
  obtain⟨B,Hk,δ,ds,R,e,k⟩:=hz;unfold r6 at e;dsimp only at e;split at e;rename_i j q;by_cases c:(decide (-(2 ^ 62)<=j/\j<2 ^ 62))=L;rw[ZO c]at e;obtain rfl:=Z8 e;have c':=Zj c;refine pG R q λv H' s R' r=>?_;simp only[Rep]at r;subst r;exact⟨j,rfl,c'.1,c'.2,k _ H' s (At 0 _)⟩;rw[ZJ c]at e;trivial;trivial
end
noncomputable def am(body:D->Mk->Z7 Out):Z9 D->Mk->Z7 Out
 |[],δ=>U (.next δ)
 |d::ds,δ=>match body d δ with
  |some (.next f_)=>am body ds f_
  |some (.cont f_)=>am body ds f_
  |some (.brk f_)=>U (.next f_)
  |some (.ret e fr)=>U (.ret e fr)
  |none=>M
section
variable{X:Cx}
theorem B4(hp:PassesOwn (model X.prog X.w) X.A X.env X.xe)(hc:X.calm=L)(hi:DI X Y tg iter fi)(hg:DG X tg τ)(hb:DSs X body gb)(hs:∀x,foldedSetIterable iter X.env x=pure x:=by intro _;rfl):
  DS X (.For tg iter body [] pos) (λδ=>ae (fi δ) λds=>am (λd δ=>ae (τ d δ) gb) ds δ):=
 (yp hp hc hi hg hb hs).imp λDn σ H hz=>by
  obtain⟨B,Hk,δ,o,R,e,k⟩:=hz;obtain⟨ds,e1,e2⟩:=ak e;refine⟨B,Hk,δ,ds,R,e1,λJ H1 s1 it=>?_⟩;have Kf:ItD X.K B H1 J ds:=it;refine⟨λi n h_ H'=>n=ds.length - i/\i<=ds.length/\Ext B H1 H'/\∃f_,Rel X.K B Hk f_ h_ H'/\am (λd δ=>ae (τ d δ) gb) (ds.drop i) f_=U o,
   ⟨ds.length,by simp,Zu _,Ext.refl,δ,R.to s1,e2⟩,?_⟩
  intro i n h_ H' hz;obtain⟨rfl,hi,x,f_,R',e'⟩:=hz;obtain⟨HG,Ng⟩:=Kf H' x;by_cases j_:i<ds.length
  .obtain⟨go,yl⟩:=Ng i ds[i] (by simp[j_])
   refine .inr ⟨go,λIo H2=>Ext B H1 H2/\∃ON,Rel X.K B Hk ON Io H2/\am (λd δ=>ae (τ d δ) gb) (ds.drop (i+1)) ON=U o,λIo H2 z=>⟨_,by lia,rfl,j_,z⟩,λv H2 hy=>?_⟩;obtain⟨sy,rv⟩:=yl v H2 hy;replace x:=x.trans (R'.ext sy);replace R':=R'.to sy;rw[Zs j_]at e';simp only[am]at e';cases q:ae (τ ds[i] f_) gb with
   |none=>rw[q]at e';trivial
   |some o1=>
    rw[q]at e';obtain⟨B_,q1,q2⟩:=ak q;refine⟨B,Hk,f_,ds[i],B_,R',rv,q1,λIm R3=>⟨B,Hk,B_,o1,R3,q2,?_⟩⟩;have kx:=k.ext (R.ext s1);cases o1 with
    |next K0=>exact λLH H4 x4 R4=>⟨x.trans x4,K0,R4,e'⟩
    |cont K0=>exact λLH H4 x4 R4=>⟨x.trans x4,K0,R4,e'⟩
    |brk K0=>simp only at e';obtain rfl:=Z8 e';exact λLH H4 x4 R4=>kx LH H4 (x.trans x4) R4
    |ret d fr=>simp only at e';obtain rfl:=Z8 e';exact λv4 H4 x4 R4=>kx v4 H4 (x.trans x4) R4
  have k_:i=ds.length:=by lia
  subst k_;rw[WN]at e';simp only[am]at e';obtain rfl:=Z8 e';exact .inl ⟨HG,k h_ H' ((R.ext s1).trans x) R'⟩
end
noncomputable def bp(h:D->Z7 (Z7 D)):Z9 D->Z7 (Z9 D)
 |[]=>U []
 |d::ds=>match h d with
  |none=>M
  |some none=>bp h ds
  |some (some y)=>match bp h ds with
   |some l=>U (y::l)
   |none=>M
noncomputable def aq(bo:Bool)(bs:Z9 Bool)(δ:Mk):Mk:=List.zipWith (λ(b:Bool) (o:Z7 (D×Bool))=>if b=L then(match o with|some (d,ow)=>if(ow&&!bo)=L then M else U (d,Y)|none=>M) else M) bs δ
def cP(h:(aq bo bs δ)[i]?=U (U (d,ow))):bs[i]?=U L/\ow=Y/\rd bo i δ=U d:=by
 unfold aq at h;rw[Wt]at h;cases e1:bs[i]? with
 |none=>rw[e1]at h;simp at h
 |some b=>
  cases e2:δ[i]? with
  |none=>rw[e1,e2]at h;simp at h
  |some o=>
   rw[e1,e2]at h;simp only[ZF]at h;cases b with
   |false=>simp at h
   |true=>
    rw[ZO rfl]at h;cases o with
    |none=>trivial
    |some q=>
     obtain⟨d',TF⟩:=q;simp only at h;by_cases c:(TF&&!bo)=L;rw[ZO c]at h;trivial;rw[ZJ c]at h;cases h;exact⟨rfl,rfl,by unfold rd;rw[e2];simp only[ZJ c]⟩
def jC{K:Z5}{B:ZM->Prop}{Hk H:Hp}{δ:Mk}{σ:St}{bo:Bool}{bs:Z9 Bool}(R:Rel K B Hk δ σ H)(hl:bs.length=σ.length):Rel K (aZ bo B δ σ) H (aq bo bs δ) (mask bs σ) H:=by
 refine⟨aae.refl H,R.bsH bo,?_,λi d h=>?_,λi d h=>?_,λi j d e a Kb h=>?_⟩;unfold aq;rw[List.length_zipWith,dv hl,R.len,hl,Nat.min_self];obtain⟨h1,_,h3⟩:=cP h;obtain⟨v,h4,h5⟩:=R.rd h3;refine⟨v,?_,h5⟩;unfold mask;rw[Wt,h1,h4];simp;obtain⟨_,h2,_⟩:=cP h;trivial;obtain⟨_,h2,_⟩:=cP h;trivial
def ax(x:Z7 (Z9 D)):Z7 D:=match x with|some ds=>U (.lst ds)|none=>M
section
variable{X:Cx}{ifs:Z9 Expr}{bo:Bool}{fi:Mk->Z7 (Z9 D)}{τ:D->Mk->Z7 Mk}{ft:Mk->Z7 Bool}{fe:Mk->Z7 D}{bs:Z9 Bool}
abbrev DTs(X:Cx)(ifs:Z9 Expr)(f:Mk->Z7 Bool):Prop:=PTs X ifs (tMT X.K f)
theorem lN{X:Cx}:DTs X [] (λ_=>U L):=λpins s σ H Q I hz=>by obtain⟨B,Hk,δ,d,R,e,k⟩:=hz;obtain rfl:=Z8 e;exact zQ pins s σ H Q I (k H (aae.refl H))
theorem uG{X:Cx}{c:Expr}{f:Mk->Z7 Bool}(h:DT X c f):DTs X [c] f:=AZ h
noncomputable def aB(τ:D->Mk->Z7 Mk)(ft:Mk->Z7 Bool)(fe:Mk->Z7 D)(δ:Mk)(d:D):Z7 (Z7 D):=ae (τ d δ) λf_=>match ft f_ with|some true=>(match fe f_ with|some y=>U (U y)|none=>M)|some false=>U M|none=>M
noncomputable def b8(bo:Bool)(bs:Z9 Bool)(τ:D->Mk->Z7 Mk)(ft:Mk->Z7 Bool)(fe:Mk->Z7 D)(δ:Mk)(ds:Z9 D):Z7 (Z9 D):=if ds.length<=lim then bp (aB τ ft fe (aq bo bs δ)) ds else M
set_option tactic.hygienic true in
def v9{K:Z5}{σ:St}{H:Hp}{Q:VK}{te:TE}{J:Hp->Hp->D->V->Prop}{Js:Hp->ZM->Hp->Z9 D->Z9 V->Prop}(Ju:abh τ)(hl:bs.length=σ.length){B:ZM->Prop}{Hk:Hp}{δ:Mk}{ds ls:Z9 D}(R:Rel K B Hk δ σ H)(e1:fi δ=U ds)(e2:b8 bo bs τ ft fe δ ds=U ls)
  (Ub:∀H1 B_ Im H3 y,Rel K (aZ bo B δ σ) H1 B_ Im H3->fe B_=U y->∀Q:VK,(∀v H4,aae H3 H4->J H3 H4 y v->Q v H4)->te Im H3 Q) (h0:∀H1 acc H',Js H1 acc H' [] [])
  (h1:∀{H1 acc H' H2 l ys},Js H1 acc H' l ys->aae H' H2->Ext (aZ bo B δ σ) H' H2->Js H1 acc H2 l ys)
  (h2:∀{H1 acc H3 H4 l ys y v},aae H1 H3->H3 acc=U (.lst ys)->Js H1 acc H4 l ys->J H3 H4 y v->Ext (aZ bo B δ σ) H4 (upd H4 acc (.lst (ys++[v])))->Js H1 acc (upd H4 acc (.lst (ys++[v]))) (l++[y]) (ys++[v]))
  (k:∀H1 a H',aae H H1->aae H1 H'->H1 a=M->(∃xs,H' a=U (.lst xs)/\Js H1 a H' ls xs)->Q (.ref a) H'):uD (tI K bo fi) bs (tG K τ) (tMT K ft) te σ H Q:=by
 unfold b8 at e2;by_cases E_:ds.length<=lim;rw[ZO E_]at e2;refine⟨B,Hk,δ,ds,R,e1,λJ H1 s1 it acc q_=>?_⟩;have R1:=R.to s1;have nb:¬aZ bo B δ σ acc:=λz=>by obtain⟨o,q⟩:=R1.bsH bo acc z;rw[q_]at q;trivial
 have R2:Rel K (aZ bo B δ σ) H1 (aq bo bs δ) (mask bs σ) (upd H1 acc (.lst [])):=(jC (bo:=bo) (bs:=bs) R1 hl).to (au q_);have Pb:bd (aq bo bs δ):=λj d h=>by obtain⟨_,h2,_⟩:=cP h;trivial
 have x0:Ext (aZ bo B δ σ) H1 (upd H1 acc (.lst [])):=(au q_).ext (R1.bsH bo);refine⟨λi n ys h_ H'=>n=ds.length - i/\i<=ds.length/\ys.length<=i/\H' acc=U (.lst ys)/\Ext (aZ bo B δ σ) H1 H'/\∃f_ l1 l2,Rel K (aZ bo B δ σ) H1 f_ h_ H'/\(∀d,τ d f_=τ d (aq bo bs δ))/\bd f_/\ls=l1++l2/\Js H1 acc H' l1 ys/\bp (aB τ ft fe (aq bo bs δ)) (ds.drop i)=U l2,
  ⟨ds.length,by simp,Zu _,ZU _,ah,x0,aq bo bs δ,[],ls,R2,λ_=>rfl,Pb,rfl,h0 ..,e2⟩,?_⟩
 intro i n ys h_ H' hz;obtain⟨rfl,hi,Pp,ha,x,f_,l1,l2,R',x_,TK,MO,rs,ec⟩:=hz;refine⟨ha,?_⟩;obtain⟨HG,Ng⟩:=it H' x;by_cases j_:i<ds.length;obtain⟨go,yl⟩:=Ng i ds[i] (by simp[j_]);refine .inr ⟨go,λv H2 hy=>?_⟩;obtain⟨sy,rv⟩:=yl v H2 hy;have xy:=R'.ext sy;replace ha:=sy acc _ ha;replace rs:=h1 rs sy xy;replace x:=x.trans xy;replace R':=R'.to sy;rw[Zs j_]at ec;simp only[bp]at ec;cases q:aB τ ft fe (aq bo bs δ) ds[i]with
 |none=>rw[q]at ec;trivial
 |some oy=>
  rw[q]at ec;obtain⟨B_,q1,q2⟩:=ak q;have O3:τ ds[i] f_=U B_:=by rw[x_];exact q1
  have Jf:∀d,τ d B_=τ d (aq bo bs δ):=λd=>by rw[Ju.new _ d _ _ O3,x_ d]
  have O_:bd B_:=Ju.own _ _ _ O3 TK;refine⟨_,H1,f_,ds[i],B_,R',rv,O3,λIm R3=>?_⟩;split at q2;rename_i qt;refine⟨_,H1,B_,L,R3,qt,λH3 s3=>Ar ?_⟩;split at q2;rename_i y qe;obtain rfl:=Z8 q2;simp only at ec;cases qc:bp (aB τ ft fe (aq bo bs δ)) (ds.drop (i+1))with
  |none=>rw[qc]at ec;trivial
  |some l3=>
   rw[qc]at ec;obtain rfl:=Z8 ec;refine Ub H1 B_ Im H3 y (R3.to s3) qe _ λv4 H4 s4 r4=>?_;have N8:=s3.trans s4;have Sk:H4 acc=U (.lst ys):=N8 acc _ ha;have x4:Ext (aZ bo B δ σ) H2 H4:=R3.ext N8;have x5:Ext (aZ bo B δ σ) H4 (upd H4 acc (.lst (ys++[v4]))):=bZ Sk trivial nb;have R5:Rel K (aZ bo B δ σ) H1 B_ Im (upd H4 acc (.lst (ys++[v4]))):=by
    have R4:=R3.to N8;refine⟨R4.same.put q_,R4.bor,R4.len,λj d h=>?_,λj d h=>(O_ j d h).elim,R4.dis⟩;obtain⟨v,h1,h2⟩:=R4.var j d h;exact⟨v,h1,h2.ext x5⟩
   exact⟨Sk,by have:=aG E_;lia,ds.length - (i+1),by lia,rfl,j_,by rw[Zy,List.length_singleton];lia,ah,x.trans (x4.trans x5),B_,l1++[y],l3,R5,Jf,O_,by rw[MO,Zc];rfl,h2 (R3.to s3).same (s3 acc _ ha) (h1 rs N8 x4) r4 x5,qc⟩
  trivial;rename_i qt;obtain rfl:=Z8 q2;refine⟨_,H1,B_,Y,R3,qt,λH3 s3=>zh ?_⟩;exact⟨ds.length - (i+1),by lia,rfl,j_,by lia,s3 acc _ ha,x.trans (R3.ext s3),B_,l1,l2,R3.to s3,Jf,O_,MO,h1 rs s3 (R3.ext s3),ec⟩;trivial
 have k_:i=ds.length:=by lia
 subst k_;rw[WN]at ec;simp only[bp]at ec;obtain rfl:=Z8 ec;rw[Y0]at MO;subst MO;exact .inl ⟨HG,k H1 acc H' s1 R'.same q_ ⟨ys,ha,rs⟩⟩;rw[ZJ E_]at e2;trivial
def k9{K:Z5}{σ:St}{H:Hp}{Q:VK}(Ju:abh τ)(hl:bs.length=σ.length){B:ZM->Prop}{Hk:Hp}{δ:Mk}{ds ls:Z9 D}(R:Rel K B Hk δ σ H)(e1:fi δ=U ds)(e2:b8 bo bs τ ft fe δ ds=U ls)
  (k:∀a H',aae H H'->H a=M->(∃xs,H' a=U (.lst xs)/\M1 K (aZ bo B δ σ) H' ls xs)->Q (.ref a) H'):uD (tI K bo fi) bs (tG K τ) (tMT K ft) (tM K Y fe) σ H Q:=
 v9 (J:=λ_ H y v=>Rep K (aZ bo B δ σ) H y v) (Js:=λ_ _ H l ys=>M1 K (aZ bo B δ σ) H l ys) Ju hl R e1 e2 (λH1 B_ Im H3 y R3 qe Q kk=>⟨_,H1,B_,y,R3,qe,kk⟩) (λ_ _ _=>M1.nil) (λr _ x=>r.ext x) (λ_ _ r r4 x=>(r.ext x).append (M1.cons (r4.ext x) M1.nil)) λH1 a H' s1 s2 n ob=>k a H' (s1.trans s2) (s1.free n) ob
end
section
variable{X:Cx}{elt tg iter:Expr}{ifs:Z9 Expr}{scope:Scope}{pos:Pos}{fi:Mk->Z7 (Z9 D)}{τ:D->Mk->Z7 Mk}{ft:Mk->Z7 Bool}{fe:Mk->Z7 D}{bs:Z9 Bool}
def r9(hc:X.calm=L)(Ju:abh τ)(hi:DI X bo tg iter fi)(S:aag X scope bs)(hg:∀cl C a_ b_ ex pn,DG (aE X scope cl C a_ b_ ex pn) tg τ)(ht:∀cl C a_ b_ ex pn,DTs (aE X scope cl C a_ b_ ex pn) ifs ft)(he:∀cl C a_ b_ ex pn,DE (aE X scope cl C a_ b_ ex pn) Y elt fe)(hs:∀x,foldedSetIterable iter X.env x=pure x):PE X (.ListComp elt [⟨tg,iter,ifs,0⟩] scope pos) (λσ H Q=>∃B Hk δ ds ls,Rel X.K B Hk δ σ H/\fi δ=U ds/\b8 bo bs τ ft fe δ ds=U ls/\
   ∀a H',aae H H'->H a=M->(∃xs,H' a=U (.lst xs)/\M1 X.K (aZ bo B δ σ) H' ls xs)->Q (.ref a) H'):=by
 intro pins s σ H Q I ⟨B,Hk,δ,ds,ls,R,e1,e2,k⟩;exact zX hc hi S hg ht he hs pins s σ H Q I (k9 Ju (by rw[S.len,I.len]) R e1 e2 k)
theorem uR(hc:X.calm=L)(Ju:abh τ)(hi:DI X Y tg iter fi)(S:aag X scope bs)
  (hg:∀cl C a_ b_ ex pn,DG (aE X scope cl C a_ b_ ex pn) tg τ) (ht:∀cl C a_ b_ ex pn,DTs (aE X scope cl C a_ b_ ex pn) ifs ft) (he:∀cl C a_ b_ ex pn,DE (aE X scope cl C a_ b_ ex pn) Y elt fe)
  (hs:∀x,foldedSetIterable iter X.env x=pure x:=by intro _;rfl):DF X (.ListComp elt [⟨tg,iter,ifs,0⟩] scope pos) (λδ=>ax (ae (fi δ) (b8 Y bs τ ft fe δ))):=
 (r9 hc Ju hi S hg ht he hs).imp λσ H Q hz=>by
  obtain⟨B,Hk,δ,d,R,e,k⟩:=hz;cases q:ae (fi δ) (b8 Y bs τ ft fe δ)with
  |none=>simp only[q,ax]at e;trivial
  |some ls=>
   simp only[q,ax]at e;obtain rfl:=Z8 e;obtain⟨ds,e1,e2⟩:=ak q;exact⟨B,Hk,δ,ds,ls,R,e1,e2,λa H' s n ob=>k a H' s n ob⟩
def dj(x:Z7 (Z9 D)):Z7 (Z9 D):=match x with|some ds=>if D.aaH ds=L then U ds else M|none=>M
def mE(h:dj x=U ds):x=U ds/\D.aaH ds=L:=by
 unfold dj at h;cases x with
 |none=>trivial
 |some e=>
  simp only at h;by_cases q:D.aaH e=L;rw[ZO q]at h;obtain rfl:=Z8 h;exact⟨rfl,q⟩;rw[ZJ q]at h;trivial
theorem nY(hc:X.calm=L)(Ju:abh τ)(hi:DI X L tg iter fi)(S:aag X scope bs)
  (hg:∀cl C a_ b_ ex pn,DG (aE X scope cl C a_ b_ ex pn) tg τ) (ht:∀cl C a_ b_ ex pn,DTs (aE X scope cl C a_ b_ ex pn) ifs ft) (he:∀cl C a_ b_ ex pn,DE (aE X scope cl C a_ b_ ex pn) Y elt fe)
  (hs:∀x,foldedSetIterable iter X.env x=pure x:=by intro _;rfl):DF X (.ListComp elt [⟨tg,iter,ifs,0⟩] scope pos) (λδ=>ax (dj (ae (fi δ) (b8 L bs τ ft fe δ)))):=
 (r9 hc Ju hi S hg ht he hs).imp λσ H Q hz=>by
  obtain⟨B,Hk,δ,d,R,e,k⟩:=hz;cases q:dj (ae (fi δ) (b8 L bs τ ft fe δ))with
  |none=>simp only[q,ax]at e;trivial
  |some ls=>
   simp only[q,ax]at e;obtain rfl:=Z8 e;obtain⟨q1,q2⟩:=mE q;obtain⟨ds,e1,e2⟩:=ak q1;exact⟨B,Hk,δ,ds,ls,R,e1,e2,λa H' s n hz=>by obtain⟨xs,h1,h2⟩:=hz;exact k a H' s n ⟨xs,h1,M1.flat q2 h2⟩⟩
def zD(hN:X.N.Nodup)(hc:X.calm=L)(Ju:abh τ)(hi:DI X Y tg iter fi)(S:aag X scope bs)(hg:∀cl C a_ b_ ex pn,DG (aE X scope cl C a_ b_ ex pn) tg τ)(ht:∀cl C a_ b_ ex pn,DTs (aE X scope cl C a_ b_ ex pn) ifs ft)(he:∀cl C a_ b_ ex pn,DE (aE X scope cl C a_ b_ ex pn) Y elt fe)(PX:X.N[i]?=U y:=by rfl)(hy:X.env.scope.names.lookup y=U .local:=by rfl)(JJ:swapsWith (.ListComp elt [⟨tg,iter,ifs,0⟩] scope pos) (U (.Name y py)) Jk.line X.env=pure L:=by rfl)(hs:∀x,foldedSetIterable iter X.env x=pure x:=by intro _;rfl):DS X (.Assign [.Name y py] (.ListComp elt [⟨tg,iter,ifs,0⟩] scope pos) Jk) (λδ=>eT i (ax (ae (fi δ) (b8 Y bs τ ft fe δ))) δ):=by
 intro pins s σ H Dn I ⟨B,Hk,δ,o,R,e,k⟩;obtain⟨d,ed,j_,rfl⟩:=jB e;cases q:ae (fi δ) (b8 Y bs τ ft fe δ)with
 |none=>simp only[q,ax]at ed;trivial
 |some ls=>
  simp only[q,ax]at ed;obtain rfl:=Z8 ed;obtain⟨ds,e1,e2⟩:=ak q;refine uv hc hi S hg ht he hN PX hy JJ hs pins s σ H Dn I (k9 (Q:=λx H1=>gF i x σ H1 Dn.nx) Ju (by rw[S.len,I.len]) R e1 e2 λa H' s n ob=>?_);refine k _ H' (R.ext s) ((R.to s).abK (by rw[<-R.len];exact j_) (R.same.free n) ob λj e hj h1 h2=>?_);obtain⟨b,h3,_,LI⟩:=R.own j e h1;rw[h2]at h3;cases h3;obtain⟨o,e'⟩:=LI.there;rw[n]at e';trivial
end
def dJ(n:Nat)(ds:Z9 D):Mk:=ds.map (λd=>U (d,Y))++List.replicate (n - ds.length) M
def xU(x:Z7 Out):Z7 (D×Bool):=match x with|some (.ret d fr)=>U (d,fr)|some (.next _)=>U (.non,Y)|_=>M
def cb(n np:Nat)(g:Mk->Z7 Out)(ds:Z9 D):Z7 (D×Bool):=if ds.length=np then xU (g (dJ n ds)) else M
def jw{K:Z5}{B:ZM->Prop}{H:Hp}{N:Z9 Str}{ds:Z9 D}{vs:Z9 V}(hb:∀a,B a->∃o:HOn,H a=U o.1)(r:M1 K B H ds vs)(hl:ds.length<=N.length):Rel K B H (dJ N.length ds) (dg N vs) H:=by
 have el:=r.length;have key:∀(i:Nat) d ow,(dJ N.length ds)[i]?=U (U (d,ow))->ow=Y/\ds[i]?=U d:=λi d ow h=>by
  unfold dJ at h;by_cases hi:i<ds.length;rw[Y2 (by simpa using hi),YY]at h;cases q:ds[i]? with
  |none=>rw[q]at h;trivial
  |some e=>rw[q]at h;simp only[Option.map_some,ZF,WU]at h;exact⟨h.2.symm,by rw[h.1]⟩
  .rw[Yl (by simpa using hi),List.getElem?_replicate]at h
   split at h<;>cases h
 refine⟨aae.refl H,hb,?_,λi d h=>?_,λi d h=>?_,λi j d e a _ h=>?_⟩;unfold dJ dg;simp only[Zy,ZY,List.length_replicate];lia;obtain⟨_,h2⟩:=key i d _ h;obtain⟨v,h3,h4⟩:=r.get h2;refine⟨v,?_,h4⟩;have hi:i<vs.length:=(ZP.mp h3).1;unfold dg;rw[Y2 (by simpa using hi),YY,h3];rfl;have:=(key i d _ h).1;trivial;have:=(key i d _ h).1;trivial
section
variable{P:YX}{w:YK}{K:Z5}{mg:Str->Z7 Z3}{base:Heap}
def xY{N ps:Z9 Str}{Dn:Ends}(hn:ps.length<=N.length)(h:spM K (cb N.length ps.length g) vs H Q E)(h1:∀v H,Q v H->Dn.rt v H)(h2:∀σ H,Q .non H->Dn.nx σ H):vs.length=ps.length/\tD K g Dn (dg N vs) H:=by
 obtain⟨B,ds,r,fr,hB,Ig,hf,kk⟩:=h;unfold cb at hf;by_cases q:ds.length=ps.length
 .rw[ZO q]at hf
  refine⟨by rw[<-Ig.length,q],B,H,dJ N.length ds,?_⟩;cases qo:g (dJ N.length ds)with
  |none=>rw[qo]at hf;trivial
  |some o=>
   rw[qo]at hf;refine⟨o,jw hB Ig (by lia),rfl,?_⟩;cases o with
   |ret d fr'=>
    simp only[xU,ZF,WU]at hf;obtain⟨rfl,rfl⟩:=hf;exact λv H' x s rr=>h1 _ _ (kk v H' s rr)
   |next δ=>
    simp only[xU,ZF,WU]at hf;obtain⟨rfl,rfl⟩:=hf;exact λh_ H' x R'=>h2 _ _ (kk .non H' R'.same (by unfold oE;rw[ZJ Zh];simp only[Rep]))
   |brk δ=>simp only[xU]at hf;trivial
   |cont δ=>simp only[xU]at hf;trivial
 rw[ZJ q]at hf;trivial
def VL:Ends:=⟨λ_ _=>True,λ_ _=>True,λ_ _=>True,λ_ _=>True⟩
def xZ{x qual:Str}{st:Stmt}{f:ZM}{fd:FuncData}{N ps:Z9 Str}{k:Nat}{g:Mk->Z7 Out}(F:Fun K x qual st f fd)(S:aaB N ps (defScope st))(hb:Binds K fd ps [])(hm:mg x=U (.ref f))(hn:ps.length<=N.length)
  (body:∀(A:Za)(outer:Z9 Env)(s:ZR)(H:Hp)(E:XK),aan k (A.deeper (envOfC qual (defScope st) s.z f fd.code))->DSs (qw CX0 P w K mg base N qual (defScope st) f fd.code A outer s H E).nox (defBody st) g):
  abg P w K mg base CX0 (k+1) f fd ps (spM K (cb N.length ps.length g))/\FnM P w K mg base (k+1) x (cb N.length ps.length g):=
 have key:=F.ok S (λvs H Q E h=>(xY (Dn:=VL) hn h (λ_ _ _=>trivial) λ_ _ _=>trivial).1) λA outer s H vs Q E hr h=>⟨_,body A outer s H E hr,(xY hn h (λ_ _ h=>h) λ_ _ h=>h).2⟩
 ⟨key,⟨f,fd,ps,key,hm,F.kp,hb⟩⟩
end
def dY{α:Type}:Z9 α->Z9 Bool->Z9 α
 |x::xs,b::bs=>if b=L then x::dY xs bs else dY xs bs
 |_,_=>[]
def iB{α:Type}(bs:Z9 Bool):dY ([]:Z9 α) bs=[]:=by unfold dY;rfl
def zU{α:Type}{xs:Z9 α}{bs:Z9 Bool}{i:Nat}(h:i<xs.length)(hb:bs[i]?=U b):dY (xs.drop i) (bs.drop i)=if b=L then xs[i]::dY (xs.drop (i+1)) (bs.drop (i+1)) else dY (xs.drop (i+1)) (bs.drop (i+1)):=by
 obtain⟨h2,e⟩:=ZP.mp hb;rw[Zs h,Zs h2,e];rw[dY]
theorem fZ{K:Z5}{B:ZM->Prop}{H:Hp}:∀{ds:Z9 D}{xs:Z9 V}{bs:Z9 Bool},M1 K B H ds xs->M1 K B H (dY ds bs) (dY xs bs)
 |[],xs,bs,h=>by simp only[M1]at h;subst h;rw[iB,iB];exact M1.nil
 |d::ds,xs,bs,h=>by
  simp only[M1]at h;obtain⟨x,r,rfl,h1,h2⟩:=h;cases bs with
  |nil=>unfold dY;exact M1.nil
  |cons b bs=>
   rw[dY,dY];cases b with
   |true=>simp only[Y_];exact M1.cons h1 (fZ h2)
   |false=>simp only[ZZ,Zm];exact fZ h2
def sP{K:Z5}{σ:St}{H:Hp}{Q:VK}{r j:Nat}{bs bl:Z9 Bool}{ft:Mk->Z7 Bool}{B:ZM->Prop}{Hk:Hp}{δ:Mk}{ds:Z9 D}(hl:bs.length=σ.length)(R:Rel K B Hk δ σ H)(hr:δ[r]?=U (U (.lst ds,L)))(hj:j<σ.length)
  (Nh:bl.length=ds.length) (E_:ds.length<=lim) (UK:∀(i:Nat) d b,ds[i]?=U d->bl[i]?=U b->ft ((aq L bs δ).set j (U (d,Y)))=U b)
  (k:∀l xs a H',σ[r]?=U (U (.ref l))->H l=U (.lst xs)->M1 K B H ds xs->aae H H'->H a=M->H' a=U (.lst (dY xs bl))->Q (.ref a) H'):
  uD (B2 K (u6 r)) bs (gF j) (tMT K ft) (u6 j) σ H Q:=by
 obtain⟨l,h1,h2,xs,h3,h4⟩:=R.own r _ hr;have hlen:=h4.length;refine⟨.ref l,h1,l,rfl,⟨xs,.inl (.inl h3)⟩,λacc q_=>?_⟩;have nb:¬aZ L B δ σ acc:=λz=>by obtain⟨o,q⟩:=R.bsH L acc z;rw[q_]at q;trivial
 have R2:Rel K (aZ L B δ σ) H (aq L bs δ) (mask bs σ) (upd H acc (.lst [])):=(jC (bo:=L) (bs:=bs) R hl).to (au q_);have Pb:bd (aq L bs δ):=λj d h=>by obtain⟨_,h2,_⟩:=cP h;trivial
 refine⟨λi n ys h_ H'=>n=xs.length - i/\i<=xs.length/\ys.length<=i/\H' acc=U (.lst ys)/\aae H H'/\dY xs bl=ys++dY (xs.drop i) (bl.drop i)/\h_.length=σ.length/\∃f_,Rel K (aZ L B δ σ) H f_ h_ H'/\bd f_/\f_.set j M=(aq L bs δ).set j M,
  ⟨xs.length,by simp,Zu _,ZU _,ah,au q_,by simp,dv hl,aq L bs δ,R2,Pb,rfl⟩,?_⟩
 intro i n ys h_ H' hz;obtain⟨rfl,hi,Pp,ha,sm,hp,ML,f_,R',nw,hd⟩:=hz;refine⟨ha,?_⟩;have hq:SqL K H' l xs:=.inl (.inl (sm l _ h3));by_cases j_:i<xs.length;refine .inr ⟨⟨xs,xs[i],hq,by simp⟩,λx H2 ⟨e2,hx⟩=>?_⟩;subst e2;obtain rfl:xs[i]=x:=by have:=hx xs hq;simpa[j_]using this
 obtain⟨d,Jf,rd⟩:=(h4.ext (sm.ext R.abx)).get' (i:=i) (x:=xs[i]) (by simp[j_]);have Ie:Rep K (aZ L B δ σ) H2 d xs[i]:=rd.more λa h=>jn L a h;have R3:=R'.set (i:=j) (by lia) Ie;have QR:∀y,f_.set j y=(aq L bs δ).set j y:=λy=>by
  have:=congrArg (λz=>z.set j y) hd;simpa only[WI]using this
 obtain⟨b,hb⟩:∃b,bl[i]?=U b:=⟨bl[i]'(by lia),by simp⟩
 have O9:bd (f_.set j (U (d,Y))):=λm e z=>by
  by_cases hm:m=j;subst hm;have MQ:m<f_.length:=by rw[R'.len];lia
  rw[ZG MQ]at z;cases z;rw[ZL (ZA hm)]at z;exact nw m e z
 have NH:(f_.set j (U (d,Y))).set j M=(aq L bs δ).set j M:=by rw[WI];exact hd
 show tMT K ft (h_.set j (U xs[i])) H2 _;refine⟨_,H,_,b,R3,by rw[QR];exact UK i d b Jf hb,λH3 s3=>?_⟩;have P8:=s3 acc _ ha;have pa:=zU j_ hb;rw[pa]at hp;cases b with
 |false=>
  rw[ZJ Zh]at hp;exact zh ⟨xs.length - (i+1),by lia,rfl,j_,by lia,P8,sm.trans s3,hp,by rw[Zi];exact ML,_,R3.to s3,O9,NH⟩
 |true=>
  rw[ZO rfl]at hp;have R4:=R3.to s3;have x5:Ext (aZ L B δ σ) H3 (upd H3 acc (.lst (ys++[xs[i]]))):=bZ P8 trivial nb;have R5:Rel K (aZ L B δ σ) H (f_.set j (U (d,Y))) (h_.set j (U xs[i])) (upd H3 acc (.lst (ys++[xs[i]]))):=by
   refine⟨R4.same.put q_,R4.bor,R4.len,λm e h=>?_,λm e h=>(O9 m e h).elim,R4.dis⟩;obtain⟨v,z1,z2⟩:=R4.var m e h;exact⟨v,z1,z2.ext x5⟩
  refine Ar ⟨xs[i],ZG (by lia),P8,by have:=aG E_;lia,xs.length - (i+1),by lia,rfl,j_,by rw[Zy,List.length_singleton];lia,ah,(sm.trans s3).put q_,by rw[hp,Zc];rfl,by rw[Zi];exact ML,_,R5,O9,NH⟩
 have k_:i=xs.length:=by lia
 subst k_;rw[WN,iB,Y0]at hp;exact .inl ⟨⟨xs,hq,ZU _⟩,k l xs acc H' h1 h3 h4 sm q_ (by rw[hp];exact ha)⟩
def qW:bootBuiltins "list"=U (.type "list"):=by decide +kernel
def nC:bootBuiltins "tuple"=U (.type "tuple"):=by decide +kernel
def Cr:bootBuiltins "sum"=U (.builtin "sum"):=by decide +kernel
def Cf:bootBuiltins "set"=U (.type "set"):=by decide +kernel
def gy:bootBuiltins "sorted"=U (.builtin "sorted"):=by decide +kernel
noncomputable def u8(x:Str)(lo hi:Z7 Int):Str:=if((Builtin.Str.strSliceIndices lo hi 1 x.length).length==x.length)=L then x else⟨((Builtin.Str.strSliceIndices lo hi 1 x.length).filterMap (x.cps[·]?)).toArray⟩
def jt(x:Str)(lo hi:Z7 Int):(u8 x lo hi).length<=x.length:=by
 unfold u8;split;exact ZU _;show((Builtin.Str.strSliceIndices lo hi 1 x.length).filterMap (x.cps[·]?)).toArray.size<=_;rw[ZT];exact Zn (List.length_filterMap_le _ _) (sliceIndices_le lo hi x.length)
section
def qM(h:IsPart v o):∃l:Z7 (Int×Tok),v=partValue l/\l.map (·.1)=o:=by
 cases h with
 |none=>exact⟨M,rfl,rfl⟩
 |int i t=>exact⟨U (i,t),rfl,rfl⟩
def B7:SlR X (λx lo hi H Q=>∃z,x=.str z/\z.length<=sizeLine/\Q (.str (u8 z lo hi)) H):=by
 intro pins s σ H x v vl vu lo hi sl Q I rx hs pl pu h;obtain⟨z,rfl,hz,q⟩:=h;obtain⟨t,rfl⟩:=rx;obtain⟨l,rfl,rfl⟩:=qM pl;obtain⟨u,rfl,rfl⟩:=qM pu;refine⟨"str",_,F.slot_str_getitem.lookup,typeIs_str s z t,wpAny_getItem_str_slice (l:=l) (u:=u) (st:=M) hs rfl ?_⟩;have key:(sliceMade z t l u M)=if((Builtin.Str.strSliceIndices (l.map (·.1)) (u.map (·.1)) 1 z.length).length==z.length)=L then Made.val (.str z t) else Made.str ⟨((Builtin.Str.strSliceIndices (l.map (·.1)) (u.map (·.1)) 1 z.length).filterMap (z.cps[·]?)).toArray⟩:=by
  unfold sliceMade slicePicked;simp
 rw[key];refine post_val_or_made (λhc=>?_) λt' k=>⟨.str (u8 z (l.map (·.1)) (u.map (·.1))),H,I.tok k,⟨t',rfl⟩,q⟩
 have hle:=jt z (l.map (·.1)) (u.map (·.1));unfold u8 at hle;rw[ZJ hc]at hle;exact Zn hle hz
end
def DO(X:Cx)(e:Z7 Expr)(f:Mk->Z7 (Z7 Int)):Prop:=PO X e (λσ H Q=>∃B Hk δ o,Rel X.K B Hk δ σ H/\f δ=U o/\∀H',aae H H'->Q o H')
def PO.imp(h:PO X e t)(i:∀σ H Q,t' σ H Q->t σ H Q):PO X e t':=λpins s σ H Q I q=>h pins s σ H Q I (i σ H Q q)
def ly(x:Z7 D):Z7 (Z7 Int):=match x with|some (.int i)=>U (U i)|_=>M
section
variable{X:Cx}{m:Bool}{a:Expr}{fa:Mk->Z7 D}{pos p:Pos}{lo hi:Z7 Expr}{fl fh:Mk->Z7 (Z7 Int)}
theorem zY:DO X M (λ_=>U M):=zW.imp λσ H Q hz=>by obtain⟨B,Hk,δ,o,R,e,k⟩:=hz;obtain rfl:=Z8 e;exact k H (aae.refl H)
set_option tactic.hygienic true in
theorem yM(h:DE X m a fa):DO X (U a) (λδ=>ly (fa δ)):=(Aq h).imp λσ H Q hz=>by
 obtain⟨B,Hk,δ,o,R,e,k⟩:=hz;unfold ly at e;dsimp only at e;split at e;rename_i i q;obtain rfl:=Z8 e;refine⟨B,Hk,δ,_,R,q,λv H' s r=>?_⟩;simp only[Rep]at r;exact⟨i,r,k H' s⟩;trivial
def Bl{K:Z5}{σ:St}{H:Hp}{B:ZM->Prop}{Hk:Hp}{δ:Mk}{d:D}{l u:Z7 Int}{r:V->Z7 Int->Z7 Int->Hp->VK->Prop}{Q:VK}(R:Rel K B Hk δ σ H)(e1:fa δ=U d)(e2:fl δ=U l)(e3:fh δ=U u)
  (k:∀v H',aae H H'->Rel K B Hk δ σ H'->Rep K (aZ m B δ σ) H' d v->r v l u H' Q):
  tSl r (tM K m fa) (λσ H Q=>∃B Hk δ o,Rel K B Hk δ σ H/\fl δ=U o/\∀H',aae H H'->Q o H') (λσ H Q=>∃B Hk δ o,Rel K B Hk δ σ H/\fh δ=U o/\∀H',aae H H'->Q o H') σ H Q:=
 ⟨B,Hk,δ,d,R,e1,λv H1 s1 r1=>⟨B,Hk,δ,l,R.to s1,e2,λH2 s2=>⟨B,Hk,δ,u,R.to (s1.trans s2),e3,λH3 s3=>k v H3 (s1.trans (s2.trans s3)) (R.to (s1.trans (s2.trans s3))) (r1.same (R.to s1) (s2.trans s3))⟩⟩⟩
noncomputable def lJ(x:Z7 D)(l u:Z7 (Z7 Int)):Z7 D:=match x,l,u with|some (.str z),some l,some u=>if z.length<=lim then U (.str (u8 z l u)) else M|_,_,_=>M
set_option tactic.hygienic true in
theorem zE(ha:DE X m a fa)(hl:DO X lo fl)(hh:DO X hi fh):DE X mm (.Subscript a (.Slice lo hi M p2) pos) (λδ=>lJ (fa δ) (fl δ) (fh δ)):=
 (o6 B7 ha hl hh).imp λσ H Q hz=>by
  obtain⟨B,Hk,δ,d,R,e,k⟩:=hz;unfold lJ at e;dsimp only at e;split at e;rename_i z l u q1 q2 q3;by_cases hz:z.length<=lim;rw[ZO hz]at e;obtain rfl:=Z8 e;refine Bl R q1 q2 q3 λv H' s R' r=>?_;simp only[Rep]at r;exact⟨z,r,aG hz,k _ H' s (by simp only[Rep])⟩;rw[ZJ hz]at e;trivial;trivial
def tN(ds:Z9 D)(lo hi:Z7 Int):Z9 D:=(ds.drop (HT.sIx ds.length 0 lo)).take (HT.sIx ds.length ds.length hi - HT.sIx ds.length 0 lo)
def M1.cut{K:Z5}{B:ZM->Prop}{H:Hp}{ds:Z9 D}{xs:Z9 V}(r:M1 K B H ds xs)(lo hi:Z7 Int):M1 K B H (tN ds lo hi) (AJ xs lo hi):=by
 unfold tN AJ;rw[r.length];exact(r.drop _).take _
noncomputable def t4(x:Z7 D)(l u:Z7 (Z7 Int)):Z7 D:=match x,l,u with|some (.lst ds),some l,some u=>U (.lst (tN ds l u))|_,_,_=>M
set_option tactic.hygienic true in
theorem Am(ha:DE X Y a fa)(hl:DO X lo fl)(hh:DO X hi fh):DF X (.Subscript a (.Slice lo hi M p2) pos) (λδ=>t4 (fa δ) (fl δ) (fh δ)):=
 (o6 Ag ha hl hh).imp λσ H Q hz=>by
  obtain⟨B,Hk,δ,d,R,e,k⟩:=hz;unfold t4 at e;dsimp only at e;split at e;rename_i ds l u q1 q2 q3;obtain rfl:=Z8 e;refine Bl R q1 q2 q3 λv H' s R' r=>?_;simp only[Rep]at r;obtain⟨c,xs,rfl,hq,rs⟩:=r;refine⟨c,xs,rfl,hq.sq,λp hp=>?_⟩;have s2:=au (o:=.lst (AJ xs l u)) hp;exact k p _ (s.trans s2) (s.free hp) ⟨_,ah,(rs.cut l u).same (m:=Y) R' s2⟩;trivial
noncomputable def AM(x y:Z7 D):Z7 D:=match x,y with|some (.str i),some (.str j)=>if i.length+j.length<=lim then U (.str (i++j)) else M|_,_=>M
set_option tactic.hygienic true in
theorem zm(ha:DE X m a fa)(hb:DE X m' b fb):DE X mm (.BinOp a .Add b pos) (λδ=>AM (fa δ) (fb δ)):=
 (v8 qC ha hb).imp λσ H Q hz=>by
  obtain⟨B,Hk,δ,d,R,e,k⟩:=hz;unfold AM at e;dsimp only at e;split at e;rename_i i j q1 q2;by_cases hz:i.length+j.length<=lim;rw[ZO hz]at e;obtain rfl:=Z8 e;refine two R q1 q2 λv u H' s R' r1 r2=>?_;simp only[Rep]at r1 r2;subst r1 r2;exact⟨i,j,rfl,rfl,aG hz,k _ H' s (by simp only[Rep])⟩;rw[ZJ hz]at e;trivial;trivial
def sf(x:Z7 D):Z7 D:=match x with|some d=>(match aQ d with|some ds=>U (.lst ds)|none=>M)|none=>M
set_option tactic.hygienic true in
def yf{g:Z9 D->D}(h:(match x with|some d=>(match aQ d with|some ds=>U (g ds)|none=>M)|none=>M)=U d):∃e es,x=U e/\aQ e=U es/\d=g es:=by
 split at h;rename_i e;split at h;rename_i es he;obtain rfl:=Z8 h;exact⟨e,es,rfl,he,rfl⟩;trivial;trivial
theorem tq(g:Gl X "list")(hm:X.mg "list"=M)(ha:DE X Y a fa)(hs:starEach [a] X.env=[(Y,eval a X.env)]:=by rfl):DF X (.Call (.Name "list" p) [a] [] pos) (λδ=>sf (fa δ)):=
 (cK ln g hm qW (ay ha aN hs) (he:=hs)).imp λσ H Q hz=>by
  obtain⟨B,Hk,δ,d,R,e,k⟩:=hz;obtain⟨d1,es,e1,hi,rfl⟩:=yf (g:=D.lst) e;refine pG R e1 λv H' s R' r=>?_;obtain⟨p,xs,rfl,hq,rs⟩:=r.items hi;refine⟨p,xs,rfl,hq,λl hl=>?_⟩;have s2:=au (o:=.lst xs) hl;exact k l _ (s.trans s2) (s.free hl) ⟨_,ah,rs.same (m:=Y) R' s2⟩
def bU(x:Z7 D):Z7 D:=match x with|some d=>(match aQ d with|some ds=>U (.tup ds)|none=>M)|none=>M
theorem wm(g:Gl X "tuple")(hm:X.mg "tuple"=M)(ha:DE X m a fa)(hs:starEach [a] X.env=[(Y,eval a X.env)]:=by rfl):DE X m (.Call (.Name "tuple" p) [a] [] pos) (λδ=>bU (fa δ)):=
 (cK iQ g hm nC (ay ha aN hs) (he:=hs)).imp λσ H Q hz=>by
  obtain⟨B,Hk,δ,d,R,e,k⟩:=hz;obtain⟨d1,es,e1,hi,rfl⟩:=yf (g:=D.tup) e;refine pG R e1 λv H' s R' r=>?_;cases d1 with
  |lst ds=>
   simp only[aQ]at hi;obtain rfl:=Z8 hi;simp only[Rep]at r;obtain⟨c,xs,rfl,hq,rs⟩:=r;refine⟨c,xs,rfl,.inl ⟨hq.sq,λl hl=>?_⟩⟩;have s2:=au (o:=.tup xs) hl;refine k _ _ (s.trans s2) ?_;simp only[Rep];exact⟨l,xs,rfl,ah,rs.same R' s2⟩
  |tup ds=>
   simp only[aQ]at hi;obtain rfl:=Z8 hi;have r':=r;simp only[Rep]at r;obtain⟨c,xs,rfl,hq,rs⟩:=r;exact⟨c,xs,rfl,.inr ⟨SqT.of hq,k _ H' s r'⟩⟩
  |_=>simp[aQ]at hi
def dx:Z9 D->Z7 (Z9 Int)
 |[]=>U []
 |.int i::ds=>(match dx ds with|some l=>U (i::l)|none=>M)
 |_=>M
theorem io:∀{ds:Z9 D}{ns:Z9 Int},dx ds=U ns->ds=ns.map D.int
 |[],ns,h=>by simp only[dx,ZF]at h;subst h;rfl
 |.int i::ds,ns,h=>by
  simp only[dx]at h;cases q:dx ds with
  |none=>rw[q]at h;trivial
  |some l=>
   rw[q]at h;simp only[ZF]at h;subst h;rw[Z2,io q]
 |.non::ds,ns,h=>by simp[dx]at h
 |.bl _::ds,ns,h=>by simp[dx]at h
 |.str _::ds,ns,h=>by simp[dx]at h
 |.tup _::ds,ns,h=>by simp[dx]at h
 |.lst _::ds,ns,h=>by simp[dx]at h
 |.dK _ _::ds,ns,h=>by simp[dx]at h
 |.dD _ _::ds,ns,h=>by simp[dx]at h
theorem M1.ints{K:Z5}{B:ZM->Prop}{H:Hp}:∀{ns:Z9 Int}{xs:Z9 V},M1 K B H (ns.map D.int) xs->xs=ns.map V.int
 |[],xs,h=>by simpa only[YO,M1]using h
 |n::ns,xs,h=>by
  simp only[Z2,M1]at h;obtain⟨x,r,rfl,h1,h2⟩:=h;simp only[Rep]at h1;rw[Z2,h1,M1.ints h2]
def vo(hc:X.calm=L):ff X (.builtin "sum") (λxs H Q=>∃(p:ZM)(ns:Z9 Int),xs=[.ref p]/\SqL X.K H p (ns.map V.int)/\Q (.int ns.sum) H):=by
 intro pins s σ H xs us Q I r h;obtain⟨p,ns,rfl,hq,q⟩:=h;obtain⟨u,rfl,rx⟩:=gE r;cases rx;obtain⟨its,rv,pl,hz⟩:=I.list hq;have hi:=pb rv;obtain⟨xs,Rv⟩:=hi.allInts.items;have hl:=pl.isList;rw[Rv]at hl;refine PySem.sum_intListG (I.ok.hd hc) hl λh' tk t' hk=>?_;have e1:preSum (numAt xs) xs.size=ns.sum:=by
  rw[preSum_eq,Yv (by simp)];have:=hi.numsOf;rw[show its=its.toArray.toList from rfl,Rv,nums_intItems]at this;rw[this]
 rw[e1];exact⟨.int ns.sum,H,I.kept hk,⟨t',rfl⟩,q⟩
noncomputable def Ct(x:Z7 D):Z7 D:=match x with|some (.lst ds)=>(match dx ds with|some ns=>U (.int ns.sum)|none=>M)|_=>M
set_option tactic.hygienic true in
theorem BM(hc:X.calm=L)(g:Gl X "sum")(hm:X.mg "sum"=M)(ha:DE X m a fa)(hs:starEach [a] X.env=[(Y,eval a X.env)]:=by rfl):DE X mm (.Call (.Name "sum" p) [a] [] pos) (λδ=>Ct (fa δ)):=
 (dS (vo hc) g hm Cr (ay ha aN hs) (he:=hs)).imp λσ H Q hz=>by
  obtain⟨B,Hk,δ,d,R,e,k⟩:=hz;unfold Ct at e;dsimp only at e;split at e;rename_i ds q;split at e;rename_i ns qn;obtain rfl:=Z8 e;obtain rfl:=io qn;refine pG R q λv H' s R' r=>?_;simp only[Rep]at r;obtain⟨c,xs,rfl,hq,rs⟩:=r;obtain rfl:=rs.ints;exact⟨c,ns,rfl,hq.sq,k _ H' s (by simp only[Rep])⟩;trivial;trivial
end
end L2
namespace SM
open PySem PyProof.Rows
structure aaJ (LT:Keyed->Keyed->Bool):Prop where
 aa9:∀x y,LT x y=true->LT y x=false
 tr:∀x y z,LT y x=false->LT z y=false->LT z x=false
def aaJ.irr{LT:Keyed->Keyed->Bool}(O:aaJ LT)(x:Keyed):LT x x=Y:=by
 cases h:LT x x with
 |false=>rfl
 |true=>exact h.symm.trans (O.aa9 x x h)
def Ans(prog:YX)(w:YK)(A:Za)(s:ZR)(κ:SortKind)(LT:Keyed->Keyed->Bool)(T:Array Keyed):Prop:=
 ∀x∈T,∀y∈T,∀C:Bool->ZR->Prop,C (LT x y) s->wpAny (model prog w) A (keyLt' κ x.1 y.1) C (λ_ _=>False) s
abbrev nK:Keyed:=(Value.none,Value.none)
def K(a:Array Keyed)(i:Nat):Keyed:=(a[i]?).getD nK
def Ee{a:Array Keyed}{i:Nat}(h:i<a.size):a[i]?=U (K a i):=by unfold K;rw[getElem?_pos a i h];rfl
def zn{a:Array Keyed}{i:Nat}(h:i<a.size):K a i∈a:=by unfold K;rw[getElem?_pos a i h];exact Array.getElem_mem h
def A7{a b:Array Keyed}{i j:Nat}(h:a[i]?=b[j]?):K a i=K b j:=by unfold K;rw[h]
def i7{a:Array Keyed}{i j:Nat}(hj:j<=a.size)(k:Nat):K (mirror a i j ((j - i) / 2)) k=if i<=k/\k<j then K a (i+j - 1 - k) else K a k:=by
 have e:=getElem?_mirror_all (i:=i) hj k;by_cases h:i<=k/\k<j;rw[ZO h]at e⊢;exact A7 e;rw[ZJ h]at e⊢;exact A7 e
def yQ{a:Array Keyed}{src d:Nat}(hs:src<a.size)(hd:d<=src)(k:Nat):K (bubble a src d) k=if k=src - d then K a src else if src - d<k/\k<=src then K a (k - 1) else K a k:=by
 have e:=getElem?_bubble hs d hd k;by_cases h:k=src - d;rw[ZO h]at e⊢;exact A7 e;rw[ZJ h]at e⊢;by_cases h2:src - d<k/\k<=src;rw[ZO h2]at e⊢;exact A7 e;rw[ZJ h2]at e⊢;exact A7 e
section
variable{LT:Keyed->Keyed->Bool}{T:Array Keyed}{st:SortSt}
def Up(LT:Keyed->Keyed->Bool)(a:Array Keyed)(i j:Nat):Prop:=∀p q,i<=p->p<=q->q<j->LT (K a q) (K a p)=Y
def Dn(LT:Keyed->Keyed->Bool)(a:Array Keyed)(i j:Nat):Prop:=∀p q,i<=p->p<=q->q<j->LT (K a p) (K a q)=Y
def Up.one(O:aaJ LT){a:Array Keyed}{i:Nat}:Up LT a i (i+1):=λp q h1 h2 h3=>by
 have e:p=q:=by lia
 rw[e];exact O.irr _
def Dn.one(O:aaJ LT){a:Array Keyed}{i:Nat}:Dn LT a i (i+1):=λp q h1 h2 h3=>by
 have e:p=q:=by lia
 rw[e];exact O.irr _
def Up.snoc(O:aaJ LT){a:Array Keyed}{i j:Nat}(h:Up LT a i j)(Kb:i<j)(hl:LT (K a j) (K a (j - 1))=Y):Up LT a i (j+1):=λp q h1 h2 h3=>by
 by_cases e:q=j;subst e;by_cases e':p=q;rw[e'];exact O.irr _;exact O.tr _ _ _ (h p (q - 1) h1 (by lia) (by lia)) hl;exact h p q h1 h2 (by lia)
def Dn.snoc(O:aaJ LT){a:Array Keyed}{i j:Nat}(h:Dn LT a i j)(Kb:i<j)(hl:LT (K a (j - 1)) (K a j)=Y):Dn LT a i (j+1):=λp q h1 h2 h3=>by
 by_cases e:q=j;subst e;by_cases e':p=q;rw[e'];exact O.irr _;exact O.tr _ _ _ hl (h p (q - 1) h1 (by lia) (by lia));exact h p q h1 h2 (by lia)
def sn(H:Ans prog w A s κ LT T)(hk:kindOf st=κ){x y:Keyed}{Q:Z7 Bool->SortSt->Prop}(hx:x∈T)(hy:y∈T)(h:Q (U (LT x y)) st):wpS (model prog w) A E s (lt' x y) Q st:=by
 rw[lt'_eq];refine ZH (Wi ?_);rw[hk];refine ZH (wpS_lift (XO (YL (H x hx y hy (λb s'=>s'=s/\wpS (model prog w) A E s (pure (U b)) Q st) ⟨rfl,Zz h⟩) (λ_ _ h=>h) λ_ _ h=>h.elim)))
def aF{a:Array Keyed}{i:Nat}{Q:Keyed->SortSt->Prop}(hi:i<a.size)(h:Q (K a i) st):wpS (model prog w) A E s (elem' a i) Q st:=by
 rw[elem'_eq,Ee hi];exact Zz h
def gx(H:Ans prog w A s κ LT T)(hk:kindOf st=κ)(hp:(arrOf st).Perm T){i j:Nat}{Q:Z7 Bool->SortSt->Prop}(hi:i<T.size)(hj:j<T.size)(h:Q (U (LT (K (arrOf st) i) (K (arrOf st) j))) st):
  wpS (model prog w) A E s (ltAt' i j) Q st:=by
 have hz:=hp.size_eq;rw[ltAt'_eq];refine ZH (Wi ?_);exact ZH (aF (by lia) (ZH (aF (by lia) (sn H hk (hp.mem_iff.mp (zn (by lia))) (hp.mem_iff.mp (zn (by lia))) h))))
structure Chg (T a:Array Keyed)(lo:Nat)(a':Array Keyed):Prop where
 perm:a'.Perm T
 keep:∀k,k<lo->K a' k=K a k
def Chg.rev{a a':Array Keyed}{lo i j:Nat}(h:Chg T a lo a')(hi:lo<=i)(hj:j<=T.size):Chg T a lo (mirror a' i j ((j - i) / 2)):=by
 have hz:=h.perm.size_eq;refine⟨(mirror_perm a' i j _).trans h.perm,λk hk=>?_⟩;rw[i7 (by lia),ZJ (by lia)];exact h.keep k hk
def Chg.bub{a a':Array Keyed}{lo src d:Nat}(h:Chg T a lo a')(hs:src<T.size)(hd:lo+d<=src):Chg T a lo (bubble a' src d):=by
 have hz:=h.perm.size_eq;refine⟨(bubble_perm a' src d).trans h.perm,λk hk=>?_⟩;rw[yQ (by lia) (by lia),ZJ (by lia),ZJ (by lia)];exact h.keep k hk
def vX{a:Array Keyed}{i j:Nat}(hj:j<=a.size)(h:Dn LT a i j):Up LT (mirror a i j ((j - i) / 2)) i j:=λp q h1 h2 h3=>by
 rw[i7 hj,i7 hj,ZO ⟨by lia,h3⟩,ZO ⟨h1,by lia⟩];exact h _ _ (by lia) (by lia) (by lia)
def rW{a:Array Keyed}{lo i j:Nat}(hj:j<=a.size)(hi:lo<=i)(h:Dn LT a lo j)(e:∀p q,i<=p->i<=q->p<j->q<j->LT (K a p) (K a q)=Y):Dn LT (mirror a i j ((j - i) / 2)) lo j:=λp q h1 h2 h3=>by
 rw[i7 hj,i7 hj];by_cases c1:i<=p/\p<j;rw[ZO c1];by_cases c2:i<=q/\q<j;rw[ZO c2];exact e _ _ (by lia) (by lia) (by lia) (by lia);lia;rw[ZJ c1];by_cases c2:i<=q/\q<j;rw[ZO c2];exact h _ _ h1 (by lia) (by lia);rw[ZJ c2];exact h _ _ h1 h2 h3
def xG(O:aaJ LT)(H:Ans prog w A s κ LT T)(hk:kindOf st=κ){a:Array Keyed}(hc:(arrOf st).Perm T){lo n m_:Nat}(hz:lo+m_<=T.size)(hn:1<=n)(Ov:n<=m_)(hu:Up LT (arrOf st) lo (lo+n))
  {β:Type}{Q:β->SortSt->Prop}{f:Z7 (Z7 Nat)×Nat->StateT SortSt Sem β}(h:∀m,n<=m->m<=m_->Up LT (arrOf st) lo (lo+m)->(m<m_->LT (K (arrOf st) (lo+m)) (K (arrOf st) (lo+m - 1))=L)->wpS (model prog w) A E s (f (M,m)) Q st):
  wpS (model prog w) A E s (forIn [n:m_] ((M,n):Z7 (Z7 Nat)×Nat) (λ_ r=>do
   let x <-ltAt' (lo+r.2) (lo+r.2 - 1)
   match x with
   |some z_=>if z_=L then pure (ForInStep.done (M,r.2)) else pure (ForInStep.yield (M,r.2+1))
   |_=>pure (ForInStep.done (U M,r.2))) >>= f) Q st:=by
 refine ZH (XH (Yt (I:=λx c e_=>c=(M,x)/\e_=st/\n<=x/\Up LT (arrOf st) lo (lo+x)) (Q:=λc e_=>∃m,c=(M,m)/\e_=st/\n<=m/\m<=m_/\Up LT (arrOf st) lo (lo+m)/\(m<m_->LT (K (arrOf st) (lo+m)) (K (arrOf st) (lo+m - 1))=L)) ?_ ?_ ⟨rfl,rfl,ZU _,hu⟩) ?_);intro x c e_ h1 h2 hz;obtain⟨rfl,rfl,h3,h4⟩:=hz;dsimp only;refine ZH (gx H hk hc (by lia) (by lia) ?_);dsimp only;cases hl:LT (K (arrOf e_) (lo+x)) (K (arrOf e_) (lo+x - 1))with
 |true=>exact Zz ⟨x,rfl,rfl,h3,by lia,h4,λ_=>hl⟩
 |false=>exact Zz ⟨rfl,rfl,by lia,h4.snoc O (by lia) hl⟩
 intro c e_ hz;obtain⟨rfl,rfl,h3,h4⟩:=hz;have e:max n m_=m_:=by lia
 rw[e]at h4⊢;exact⟨m_,rfl,rfl,Ov,ZU _,h4,λh=>absurd h (Zd _)⟩;intro c e_ hz;obtain⟨m,rfl,rfl,h1,h2,h3,h4⟩:=hz;exact h m h1 h2 h3 h4
end
end SM
namespace SM
open PySem PyProof.Rows
section
variable{LT:Keyed->Keyed->Bool}{st:SortSt}
def EA(LT:Keyed->Keyed->Bool)(a:Array Keyed)(i j:Nat):Prop:=∀p q,i<=p->i<=q->p<j->q<j->LT (K a p) (K a q)=Y
def ur(O:aaJ LT)(H:Ans prog w A s κ LT T)(hk:kindOf st=κ){lo n m_:Nat}(hC:Chg T a lo a')(hz:lo+m_<=T.size)(hn:1<=n)(Ov:n<=m_)(hd:Dn LT a' lo (lo+n))(h:∀m L0,1<=m->m<=m_->Chg T a lo L0->Up LT L0 lo (lo+m)->Q (U m) (setArr st L0)):
  wpS (model prog w) A E s (do
   let mut n:=n
   reverseSlice' lo (lo+n)
   for _ in [n:m_] do
    let some z_ <-ltAt' (lo+n) (lo+n - 1)|return M
    if z_ then break
    n:=n+1
   return U n) Q (setArr st a'):=by
 have e:=hC.perm.size_eq;dsimp only;rw[reverseSlice'_eq];refine ZH (XQ ?_);have C':=hC.rev (i:=lo) (j:=lo+n) (ZU _) (by lia);have Uq:=vX (LT:=LT) (a:=a') (i:=lo) (j:=lo+n) (by lia) hd;exact xG (st:=setArr st (mirror a' lo (lo+n) ((lo+n - lo) / 2))) (a:=a) O H hk C'.perm hz hn Ov Uq λm h1 h2 h3 _=>Zz (h m _ (by lia) h2 C' h3)
def tY(O:aaJ LT)(H:Ans prog w A s κ LT T)(hk:kindOf st=κ){lo n m_:Nat}(hC:Chg T a lo a')(hz:lo+m_<=T.size)(hn:1<=n)(Ov:n<m_)(hd:Dn LT a' lo (lo+n))(hl:LT (K a' (lo+n)) (K a' (lo+n - 1))=L)(h:∀m L0,1<=m->m<=m_->Chg T a lo L0->Up LT L0 lo (lo+m)->Q (U m) (setArr st L0)):
  wpS (model prog w) A E s (do
   let mut n:=n
   rule "list.sort.descending-run"
   n:=n+1
   let mut LJ:=0
   for _ in [n:m_] do
    let some z_ <-ltAt' (lo+n) (lo+n - 1)|return M
    if z_ then
     if LJ>0 then reverseSlice' (lo+n - (LJ+1)) (lo+n)
     LJ:=0
    else
     let some Mt <-ltAt' (lo+n - 1) (lo+n)|return M
     if Mt then break
     LJ:=LJ+1
    n:=n+1
   if LJ>0 then reverseSlice' (lo+n - (LJ+1)) (lo+n)
   reverseSlice' lo (lo+n)
   for _ in [n:m_] do
    let some z_ <-ltAt' (lo+n) (lo+n - 1)|return M
    if z_ then break
    n:=n+1
   return U n) Q (setArr st a'):=by
 refine ZH (wpS_lift (YD ⟨rfl,?_⟩));have d1:=hd.snoc O (by lia) (O.aa9 _ _ hl);refine ZH (XH (Yt (I:=λx c e_=>∃q a1,c=(M,x,q)/\e_=setArr st a1/\Chg T a lo a1/\n+1<=x/\q+1<=x/\Dn LT a1 lo (lo+x)/\EA LT a1 (lo+x - (q+1)) (lo+x))
  (Q:=λc e_=>∃x q a1,c=(M,x,q)/\e_=setArr st a1/\Chg T a lo a1/\x<=m_/\n+1<=x/\q+1<=x/\Dn LT a1 lo (lo+x)/\EA LT a1 (lo+x - (q+1)) (lo+x)) ?_ ?_ ⟨0,a',rfl,rfl,hC,ZU _,by lia,d1,λp q h1 h2 h3 h4=>by rw[show p=q by lia];exact O.irr _⟩) ?_)
 intro x c e_ h1 h2 hz;obtain⟨q,a1,rfl,rfl,C1,h3,h4,D1,L1⟩:=hz;have e:=C1.perm.size_eq;dsimp only;refine ZH (gx (st:=setArr st a1) H hk C1.perm (by lia) (by lia) ?_);dsimp only;cases hl:LT (K a1 (lo+x)) (K a1 (lo+x - 1))with
 |true=>
  have D2:=D1.snoc O (by lia) (O.aa9 _ _ hl);simp only[Y_];by_cases hq:q>0;rw[ZO hq,reverseSlice'_eq];refine ZH (XQ (Zz ⟨0,_,rfl,rfl,C1.rev (by lia) (by lia),by lia,by lia,?_,λp q h1 h2 h3 h4=>by rw[show p=q by lia];exact O.irr _⟩));have D3:=rW (LT:=LT) (a:=a1) (lo:=lo) (i:=lo+x - (q+1)) (j:=lo+x) (by lia) (by lia) D1 L1;refine D3.snoc O (by lia) ?_;rw[i7 (by lia),i7 (by lia),ZO (by lia),ZJ (by lia)];exact D2 _ _ (by lia) (by lia) (by lia);refine aM hq ?_;exact Zz ⟨0,a1,rfl,rfl,C1,by lia,by lia,D2,λp q h1 h2 h3 h4=>by rw[show p=q by lia];exact O.irr _⟩
 |false=>
  simp only[ZZ,Zm];refine ZH (gx (st:=setArr st a1) H hk C1.perm (by lia) (by lia) ?_);dsimp only;cases hg:LT (K a1 (lo+x - 1)) (K a1 (lo+x))with
  |true=>exact Zz ⟨x,q,a1,rfl,rfl,C1,by lia,h3,h4,D1,L1⟩
  |false=>
   refine Zz ⟨q+1,a1,rfl,rfl,C1,by lia,by lia,D1.snoc O (by lia) hg,λp p' h1 h2 h5 h6=>?_⟩;have key:∀p,lo+(x+1) - (q+1+1)<=p->p<lo+(x+1)->LT (K a1 p) (K a1 (lo+x - 1))=Y/\LT (K a1 (lo+x - 1)) (K a1 p)=Y:=λp h1 h2=>by
    by_cases e:p=lo+x;rw[e];exact⟨hl,hg⟩;exact⟨L1 _ _ (by lia) (by lia) (by lia) (by lia),L1 _ _ (by lia) (by lia) (by lia) (by lia)⟩
   exact O.tr _ _ _ (key p' h2 h6).2 (key p h1 h5).1
 intro c e_ hz;obtain⟨q,a1,rfl,rfl,C1,h3,h4,D1,L1⟩:=hz;rw[show max (n+1) m_=m_ by lia]at*;exact⟨m_,q,a1,rfl,rfl,C1,ZU _,h3,h4,D1,L1⟩;intro c e_ hz;obtain⟨x,q,a1,rfl,rfl,C1,h1,h3,h4,D1,L1⟩:=hz;have e:=C1.perm.size_eq;dsimp only;by_cases hq:q>0;refine aP hq ?_;refine ZH ?_;rw[reverseSlice'_eq];refine XQ ?_;exact ur O H hk (C1.rev (by lia) (by lia)) hz (by lia) h1 (rW (LT:=LT) (a:=a1) (lo:=lo) (i:=lo+x - (q+1)) (j:=lo+x) (by lia) (by lia) D1 L1) h;refine aM hq ?_;exact ur O H hk C1 hz (by lia) h1 D1 h
def lD(O:aaJ LT)(H:Ans prog w A s κ LT T)(hk:kindOf st=κ){lo m_:Nat}(hp:(arrOf st).Perm T)(hz:lo+m_<=T.size)(hn:1<=m_)(h:∀m a',1<=m->m<=m_->Chg T (arrOf st) lo a'->Up LT a' lo (lo+m)->Q (U m) (setArr st a')):wpS (model prog w) A E s (countRun' lo m_) Q st:=by
 have e:=hp.size_eq;have C0:Chg T (arrOf st) lo (arrOf st):=⟨hp,λ_ _=>rfl⟩
 rw[countRun'_eq];refine xG (a:=arrOf st) O H hk hp hz (ZU 1) hn (Up.one O) λm h1 h2 h3 h4=>?_;dsimp only;by_cases hm:m=m_;refine aP (Zx.mpr hm) ?_;exact Zz (h m (arrOf st) h1 h2 C0 h3);refine aM (λq=>hm (Zx.mp q)) ?_;have hl:=h4 (by lia);by_cases h5:m>1;refine aP h5 ?_;refine ZH (gx H hk hp (by lia) (by lia) ?_);dsimp only;cases hr:LT (K (arrOf st) lo) (K (arrOf st) (lo+m - 1))with
 |true=>
  simp only[Y_];exact Zz (h m (arrOf st) h1 h2 C0 h3)
 |false=>
  simp only[ZZ,Zm];rw[reverseSlice'_eq];refine ZH (XQ ?_);have al:EA LT (arrOf st) lo (lo+m):=λp q h1 h2 h5 h6=>O.tr _ _ _ (h3 q (lo+m - 1) h2 (by lia) (by lia)) (O.tr _ _ _ hr (h3 lo p (ZU _) h1 (by lia)));have D1:Dn LT (arrOf st) lo (lo+m):=λp q h1 h2 h5=>al p q h1 (by lia) (by lia) h5;refine tY O H hk (C0.rev (ZU _) (by lia)) hz h1 (by lia) (rW (LT:=LT) (a:=arrOf st) (lo:=lo) (i:=lo) (j:=lo+m) (by lia) (ZU _) D1 al) ?_ h;rw[i7 (by lia),i7 (by lia),ZJ (by lia),ZO (by lia)];cases hc:LT (K (arrOf st) (lo+m)) (K (arrOf st) (lo+(lo+m) - 1 - (lo+m - 1)))with
  |true=>rfl
  |false=>exact absurd (O.tr _ _ _ (al (lo+(lo+m) - 1 - (lo+m - 1)) (lo+m - 1) (by lia) (by lia) (by lia) (by lia)) hc) (by rw[hl];exact λq=>nomatch q)
 refine aM h5 ?_;have J_:m=1:=by lia
 exact tY O H hk C0 hz h1 (by lia) (by subst J_;exact Dn.one O) hl h
end
end SM
namespace SM
open PySem PyProof.Rows
section
variable{LT:Keyed->Keyed->Bool}{st:SortSt}
def BI(O:aaJ LT){lo k l:Nat}(hs:lo+k<a.size)(hl:l<=k)(hu:Up LT a lo (lo+k))(h1:∀p,p<l->LT (K a (lo+k)) (K a (lo+p))=Y)(h2:∀p,l<=p->p<k->LT (K a (lo+k)) (K a (lo+p))=L):
  Up LT (bubble a (lo+k) (lo+k - (lo+l))) lo (lo+(k+1)):=λp q g1 g2 g3=>by
 have Jh:∀p,lo+l<=p->p<lo+k->LT (K a p) (K a (lo+k))=Y:=λp a1 a2=>by
  have:=h2 (p - lo) (by lia) (by lia);rw[show lo+(p - lo)=p by lia]at this;exact O.aa9 _ _ this
 have Kh:∀p,lo<=p->p<lo+l->LT (K a (lo+k)) (K a p)=Y:=λp a1 a2=>by
  have:=h1 (p - lo) (by lia);rwa[show lo+(p - lo)=p by lia]at this
 have e:lo+k - (lo+k - (lo+l))=lo+l:=by lia
 rw[yQ hs (by lia),yQ hs (by lia),e]
 repeat' split
 all_goals first
  |exact O.irr _
  |(exfalso;lia)
  |exact Jh _ (by lia) (by lia)
  |exact Kh _ (by lia) (by lia)
  |exact hu _ _ (by lia) (by lia) (by lia)
def jj(O:aaJ LT)(H:Ans prog w A s κ LT T)(hk:kindOf st=κ){lo n ok:Nat}(hp:(arrOf st).Perm T)(hz:lo+n<=T.size)(hok:ok<=n)(hn:1<=n)(hu:Up LT (arrOf st) lo (lo+ok))(h:∀a',Chg T (arrOf st) lo a'->Up LT a' lo (lo+n)->Q L (setArr st a')):wpS (model prog w) A E s (binarySort' lo n ok) Q st:=by
 have e:=hp.size_eq;have C0:Chg T (arrOf st) lo (arrOf st):=⟨hp,λ_ _=>rfl⟩
 have JI:Up LT (arrOf st) lo (lo+max ok 1):=by
  by_cases c:ok=0;subst c;exact Up.one O;rw[show max ok 1=ok by lia];exact hu
 rw[binarySort'_eq];refine ZH (XH (Yt (I:=λx c e_=>c=(M,())/\∃a1,e_=setArr st a1/\Chg T (arrOf st) lo a1/\Up LT a1 lo (lo+x))
  (Q:=λc e_=>c=(M,())/\∃a1,e_=setArr st a1/\Chg T (arrOf st) lo a1/\Up LT a1 lo (lo+n)) ?_ ?_ ⟨rfl,arrOf st,rfl,C0,JI⟩) ?_)
 intro k c e_ h1 h2 hz;obtain⟨rfl,a1,rfl,C1,U1⟩:=hz;have e1:=C1.perm.size_eq;dsimp only;refine ZH (XH (Yt (I:=λx c e_=>∃l r,c=(M,l,r)/\e_=setArr st a1/\l<=r/\r<=k/\r - l+x<=k/\(∀p,p<l->LT (K a1 (lo+k)) (K a1 (lo+p))=Y)/\∀p,r<=p->p<k->LT (K a1 (lo+k)) (K a1 (lo+p))=L)
  (Q:=λc e_=>∃l r,c=(M,l,r)/\e_=setArr st a1/\l<=k/\(∀p,p<l->LT (K a1 (lo+k)) (K a1 (lo+p))=Y)/\∀p,l<=p->p<k->LT (K a1 (lo+k)) (K a1 (lo+p))=L) ?_ ?_ ⟨0,k,rfl,rfl,Zu _,ZU _,by lia,λp hp=>absurd hp (Xw _),λp q1 q2=>absurd q2 (by lia)⟩) ?_)
 intro x c e_ g1 g2 hz;obtain⟨l,r,rfl,rfl,g3,g4,g5,g6,g7⟩:=hz;dsimp only;by_cases Nd:l>=r;refine aP Nd ?_;have:l=r:=by lia
 exact Zz ⟨l,r,rfl,rfl,by lia,g6,by rw[this];exact g7⟩;refine aM Nd ?_;refine ZH (gx (st:=setArr st a1) H hk C1.perm (by lia) (by lia) ?_);dsimp only;cases hl:LT (K a1 (lo+k)) (K a1 (lo+(l+r) / 2))with
 |true=>
  refine Zz ⟨l,(l+r) / 2,rfl,rfl,by lia,by lia,by lia,g6,λp q1 q2=>?_⟩;cases hc:LT (K a1 (lo+k)) (K a1 (lo+p))with
  |true=>rfl
  |false=>exact absurd (O.tr _ _ _ (U1 (lo+(l+r) / 2) (lo+p) (by lia) (by lia) (by lia)) hc) (by rw[hl];exact λq=>nomatch q)
 |false=>
  refine Zz ⟨(l+r) / 2+1,r,rfl,rfl,by lia,g4,by lia,λp q1=>?_,g7⟩;exact O.tr _ _ _ (U1 (lo+p) (lo+(l+r) / 2) (by lia) (by lia) (by lia)) hl
 intro c e_ hz;obtain⟨l,r,rfl,rfl,g3,g4,g5,g6,g7⟩:=hz;have:l=r:=by lia
 exact⟨l,r,rfl,rfl,by lia,g6,by rw[this];exact g7⟩;intro c e_ hz;obtain⟨l,r,rfl,rfl,g1,g2,g3⟩:=hz;dsimp only;rw[moveDown'_eq];exact ZH (XQ (Zz ⟨rfl,_,rfl,C1.bub (by lia) (by lia),BI O (show lo+k<a1.size by lia) g1 U1 g2 g3⟩));intro c e_ hz;obtain⟨rfl,a1,rfl,C1,U1⟩:=hz;rw[show max (max ok 1) n=n by lia]at U1;exact⟨rfl,a1,rfl,C1,U1⟩;intro c e_ hz;obtain⟨rfl,a1,rfl,C1,U1⟩:=hz;exact Zz (h a1 C1 U1)
def cI:Bool->Keyed->Array Keyed->Nat->Nat->Nat->StateT SortSt Sem (Z7 Nat):=sortPriv%PySem.Builtin.gallop
noncomputable def bey(left:Bool)(key:Keyed)(arr:Array Keyed)(base i:Nat):StateT SortSt Sem (Z7 Bool):=do
 let x <-elem' arr (base+i)
 if left then lt' x key else return (<-lt' key x).map (!·)
theorem qg(left:Bool)(key:Keyed)(arr:Array Keyed)(base n hint:Nat):cI left key arr base n hint=(do
 let mut HK:=0
 let mut J9:=1
 let mut lo:=0
 let mut hi:=0
 let some right <-bey left key arr base hint|return M
 if right then
  let HW:=n - hint
  for _ in [0:n] do
   if J9>=HW then break
   let some more <-bey left key arr base (hint+J9)|return M
   if !more then break
   HK:=J9
   J9:=2*J9+1
  lo:=hint+HK+1
  hi:=hint+min J9 HW
 else
  let HW:=hint+1
  for _ in [0:n] do
   if J9>=HW then break
   let some found <-bey left key arr base (hint - J9)|return M
   if found then break
   HK:=J9
   J9:=2*J9+1
  lo:=hint+1 - min J9 HW
  hi:=hint - HK
 for _ in [0:n] do
  if lo>=hi then break
  let m:=lo+(hi - lo) / 2
  let some more <-bey left key arr base m|return M
  if more then lo:=m+1 else hi:=m
 return U hi):=rfl
noncomputable def fB(LT:Keyed->Keyed->Bool)(left:Bool)(key:Keyed)(arr:Array Keyed)(base i:Nat):Bool:=if left then LT (K arr (base+i)) key else !LT key (K arr (base+i))
def oO(H:Ans prog w A s κ LT T)(hk:kindOf st=κ)(p_:key∈T)(hi:base+i<arr.size)(hx:K arr (base+i)∈T)(h:Q (U (fB LT left key arr base i)) st):wpS (model prog w) A E s (bey left key arr base i) Q st:=by
 unfold bey;refine ZH (aF hi ?_);unfold fB at h;cases left with
 |true=>exact sn H hk hx p_ h
 |false=>
  simp only[ZZ,Zm]at h⊢;exact ZH (sn H hk p_ hx (Zz h))
def iK(O:aaJ LT)(hu:Up LT arr base (base+n))(Kb:i<=j)(hj:j<n)(h:fB LT left key arr base j=L):fB LT left key arr base i=L:=by
 have u:=hu (base+i) (base+j) (by lia) (by lia) (by lia);unfold fB at h⊢;cases left with
 |true=>
  simp only[Y_]at h⊢;cases hc:LT (K arr (base+i)) key with
  |true=>rfl
  |false=>exact absurd (O.tr _ _ _ hc u) (by rw[h];exact λq=>nomatch q)
 |false=>
  simp only[ZZ,Zm,Ys]at h⊢;exact O.tr _ _ _ u h
def yG(O:aaJ LT)(H:Ans prog w A s κ LT T)(hk:kindOf st=κ)(p_:key∈T)(hb:base+n<=arr.size)(hx:∀i,i<n->K arr (base+i)∈T)(hu:Up LT arr base (base+n)){lo hi:Nat}(h1:lo<=hi)(h2:hi<=n)(h3:∀i,i<lo->fB LT left key arr base i=L)(h4:hi<n->fB LT left key arr base hi=Y)(h:∀k,k<=n->(∀i,i<k->fB LT left key arr base i=L)->(∀i,k<=i->i<n->fB LT left key arr base i=Y)->Q (U k) st):
  wpS (model prog w) A E s (do
   let mut lo:=lo
   let mut hi:=hi
   for _ in [0:n] do
    if lo>=hi then break
    let m:=lo+(hi - lo) / 2
    let some more <-bey left key arr base m|return M
    if more then lo:=m+1 else hi:=m
   return U hi) Q st:=by
 have fin:∀k,k<=n->(∀i,i<k->fB LT left key arr base i=L)->(k<n->fB LT left key arr base k=Y)->Q (U k) st:=λk a1 a2 a3=>h k a1 a2 λi b1 b2=>by
  cases hc:fB LT left key arr base i with
  |false=>rfl
  |true=>exact absurd (iK O hu b1 b2 hc) (by rw[a3 (by lia)];exact λq=>nomatch q)
 refine ZH (XH (Yt (I:=λx c e_=>∃lo hi,c=(M,lo,hi)/\e_=st/\lo<=hi/\hi<=n/\hi - lo+x<=n/\(∀i,i<lo->fB LT left key arr base i=L)/\(hi<n->fB LT left key arr base hi=Y))
  (Q:=λc e_=>∃hi,c=(M,hi,hi)/\e_=st/\hi<=n/\(∀i,i<hi->fB LT left key arr base i=L)/\(hi<n->fB LT left key arr base hi=Y)) ?_ ?_ ⟨lo,hi,rfl,rfl,h1,h2,by lia,h3,h4⟩) ?_)
 intro x c e_ g1 g2 hz;obtain⟨lo,hi,rfl,rfl,g3,g4,g5,g6,g7⟩:=hz;dsimp only;by_cases Nd:lo>=hi;refine aP Nd ?_;obtain rfl:lo=hi:=by lia
 exact Zz ⟨lo,rfl,rfl,g4,g6,g7⟩;refine aM Nd ?_;refine ZH (oO H hk p_ (by lia) (hx _ (by lia)) ?_);dsimp only;cases hl:fB LT left key arr base (lo+(hi - lo) / 2)with
 |true=>exact Zz ⟨lo+(hi - lo) / 2+1,hi,rfl,rfl,by lia,g4,by lia,λi k_=>iK O hu (show i<=lo+(hi - lo) / 2 by lia) (by lia) hl,g7⟩
 |false=>exact Zz ⟨lo,lo+(hi - lo) / 2,rfl,rfl,by lia,by lia,by lia,g6,λ_=>hl⟩
 intro c e_ hz;obtain⟨lo,hi,rfl,rfl,g3,g4,g5,g6,g7⟩:=hz;obtain rfl:lo=hi:=by lia
 exact⟨lo,rfl,rfl,g4,g6,g7⟩;intro c e_ hz;obtain⟨hi,rfl,rfl,g4,g6,g7⟩:=hz;exact Zz (fin hi g4 g6 g7)
def ck(O:aaJ LT)(H:Ans prog w A s κ LT T)(hk:kindOf st=κ)(p_:key∈T)(hb:base+n<=arr.size)(hh:hint<n)(hx:∀i,i<n->K arr (base+i)∈T)(hu:Up LT arr base (base+n))(h:∀k,k<=n->(∀i,i<k->fB LT left key arr base i=L)->(∀i,k<=i->i<n->fB LT left key arr base i=Y)->Q (U k) st):wpS (model prog w) A E s (cI left key arr base n hint) Q st:=by
 rw[qg];dsimp only;refine ZH (oO H hk p_ (by lia) (hx _ hh) ?_);dsimp only;cases hr:fB LT left key arr base hint with
 |true=>
  simp only[Y_];refine ZH (XH (Yt (I:=λx c e_=>∃la of,c=(M,la,of)/\e_=st/\x+1<=of/\la+1<=of/\la<n - hint/\fB LT left key arr base (hint+la)=L)
   (Q:=λc e_=>∃la of,c=(M,la,of)/\e_=st/\la+1<=of/\la<n - hint/\fB LT left key arr base (hint+la)=L/\(of<n - hint->fB LT left key arr base (hint+of)=Y)) ?_ ?_ ⟨0,1,rfl,rfl,by lia,by lia,by lia,hr⟩) ?_)
  intro x c e_ g1 g2 hz;obtain⟨la,of,rfl,rfl,g3,g4,g5,g6⟩:=hz;dsimp only;by_cases ho:of>=n - hint;refine aP ho ?_;exact Zz ⟨la,of,rfl,rfl,g4,g5,g6,λq=>absurd q (by lia)⟩;refine aM ho ?_;refine ZH (oO H hk p_ (by lia) (hx _ (by lia)) ?_);dsimp only;cases hm:fB LT left key arr base (hint+of)with
  |false=>exact Zz ⟨la,of,rfl,rfl,g4,g5,g6,λ_=>hm⟩
  |true=>exact Zz ⟨of,2*of+1,rfl,rfl,by lia,by lia,by lia,hm⟩
  intro c e_ hz;obtain⟨la,of,rfl,rfl,g3,g4,g5,g6⟩:=hz;exact⟨la,of,rfl,rfl,g4,g5,g6,λq=>absurd q (by lia)⟩;intro c e_ hz;obtain⟨la,of,rfl,rfl,g4,g5,g6,g7⟩:=hz;dsimp only;refine yG O H hk p_ hb hx hu (by lia) (by lia) (λi hi=>iK O hu (show i<=hint+la by lia) (by lia) g6) (λj_=>?_) h;by_cases c:of<n - hint;rw[show min of (n - hint)=of by lia];exact g7 c;lia
 |false=>
  simp only[ZZ,Zm];refine ZH (XH (Yt (I:=λx c e_=>∃la of,c=(M,la,of)/\e_=st/\x+1<=of/\la+1<=of/\la<=hint/\fB LT left key arr base (hint - la)=Y)
   (Q:=λc e_=>∃la of,c=(M,la,of)/\e_=st/\la+1<=of/\la<=hint/\fB LT left key arr base (hint - la)=Y/\(of<hint+1->fB LT left key arr base (hint - of)=L)) ?_ ?_ ⟨0,1,rfl,rfl,by lia,by lia,by lia,hr⟩) ?_)
  intro x c e_ g1 g2 hz;obtain⟨la,of,rfl,rfl,g3,g4,g5,g6⟩:=hz;dsimp only;by_cases ho:of>=hint+1;refine aP ho ?_;exact Zz ⟨la,of,rfl,rfl,g4,g5,g6,λq=>absurd q (by lia)⟩;refine aM ho ?_;refine ZH (oO H hk p_ (by lia) (hx _ (by lia)) ?_);dsimp only;cases hm:fB LT left key arr base (hint - of)with
  |true=>exact Zz ⟨la,of,rfl,rfl,g4,g5,g6,λ_=>hm⟩
  |false=>exact Zz ⟨of,2*of+1,rfl,rfl,by lia,by lia,by lia,hm⟩
  intro c e_ hz;obtain⟨la,of,rfl,rfl,g3,g4,g5,g6⟩:=hz;exact⟨la,of,rfl,rfl,g4,g5,g6,λq=>absurd q (by lia)⟩;intro c e_ hz;obtain⟨la,of,rfl,rfl,g4,g5,g6,g7⟩:=hz;dsimp only;refine yG O H hk p_ hb hx hu (by lia) (by lia) (λi hi=>?_) (λ_=>g6) h;by_cases c:of<hint+1;exact iK O hu (show i<=hint - of by lia) (by lia) (g7 c);lia
end
end SM
namespace SM
open PySem PyProof.Rows
def bj:Nat->StateT SortSt Sem Unit:=sortPriv%PySem.Builtin.setMinGallop
abbrev ao(st:SortSt)(g:Nat):SortSt:=SortSt.mk' (kindOf st) (arrOf st) (pendingOf st) g (failedOf st)
theorem ba(g:Nat):bj g=modify λs=>ao s g:=rfl
def iF:Array Keyed->Array Keyed->StateT SortSt Sem (Array Keyed):=sortPriv%PySem.Builtin.mergeLo
def iO:Array Keyed->Array Keyed->StateT SortSt Sem (Array Keyed):=sortPriv%PySem.Builtin.mergeHi
section
variable{LT:Keyed->Keyed->Bool}
def eX(a:Array Keyed)(i:Nat):K a i=(a.toList[i]?).getD nK:=by unfold K;rw[Wq]
def fj{a:Array Keyed}{i:Nat}(h:i<a.size):a.toList.drop i=[K a i]++a.toList.drop (i+1):=by
 rw[Zs (by simpa using h),eX];simp[h]
def ce(a:Array Keyed)(i k:Nat):a.toList.drop i=(a.extract i (i+k)).toList++a.toList.drop (i+k):=by
 rw[XB,List.extract_eq_take_drop,show i+k - i=k by lia,<-List.drop_drop,X4]
def d7(a:Array Keyed)(i:Nat):(a.extract i a.size).toList=a.toList.drop i:=by
 rw[XB,List.extract_eq_take_drop];exact Yv (by simp)
def db{a:Array Keyed}{i:Nat}(h:a.size<=i):a.toList.drop i=[]:=List.drop_of_length_le (by simpa using h)
def cS{a:Array Keyed}(h:x∈a.toList.drop i):∃j,i<=j/\j<a.size/\x=K a j:=by
 obtain⟨k,hk,e⟩:=List.mem_drop_iff_getElem.mp h;simp at hk;exact⟨i+k,by lia,by lia,by rw[eX];simp[show i+k<a.size by lia,<-e]⟩
def cJ{a:Array Keyed}(h:x∈a.toList.take i):∃j,j<i/\j<a.size/\x=K a j:=by
 obtain⟨k,hk,e⟩:=List.mem_take_iff_getElem.mp h;simp at hk;exact⟨k,by lia,by lia,by rw[eX];simp[show k<a.size by lia,<-e]⟩
def aY{a:Array Keyed}(h:x∈(a.extract i j).toList):∃k,i<=k/\k<j/\k<a.size/\x=K a k:=by
 rw[XB,List.extract_eq_take_drop]at h;obtain⟨k,hk,e⟩:=List.mem_take_iff_getElem.mp h;simp at hk;exact⟨i+k,by lia,by lia,by lia,by rw[eX];simp[show i+k<a.size by lia,<-e]⟩
def fu{a:Array Keyed}{i:Nat}(h:i<a.size):(a.toList.take (i+1)).reverse=[K a i]++(a.toList.take i).reverse:=by
 rw[List.take_succ_eq_append_getElem (by simpa using h),XU,eX];simp[h]
def jT(a:Array Keyed){i k:Nat}(h:i<=k):(a.toList.take k).reverse=(a.extract i k).reverse.toList++(a.toList.take i).reverse:=by
 rw[XX,<-XU,XB,List.extract_eq_take_drop];congr 1;rw[<-X4 i (a.toList.take k),List.take_take,WA h,List.drop_take]
def c7(a:Array Keyed)(i:Nat):(a.extract 0 i).toList=a.toList.take i:=by
 rw[XB,List.extract_eq_take_drop];simp
def R(LT:Keyed->Keyed->Bool)(x y:Keyed):Prop:=LT y x=Y
structure J (LT:Keyed->Keyed->Bool)(T out ra rb:List Keyed):Prop where
 pm:(out++ra++rb).Perm T
 sa:(out++ra).Pairwise (R LT)
 sb:(out++rb).Pairwise (R LT)
structure Good (LT:Keyed->Keyed->Bool)(T l:List Keyed):Prop where
 pm:l.Perm T
 so:l.Pairwise (R LT)
def J.swap(h:J LT T out ra rb):J LT T out rb ra:=⟨by
 have:=h.pm;rw[Zc]at this⊢;exact((List.Perm.append_left out List.perm_append_comm).trans this),h.sb,h.sa⟩
def J.push(h:J LT T out (c++ra) rb)(q:∀x∈c,∀y∈rb,LT y x=Y):J LT T (out++c) ra rb:=by
 obtain⟨h1,h2,h3⟩:=h;refine⟨by rw[<-Zc]at h1;exact h1,by rw[<-Zc]at h2;exact h2,?_⟩;rw[<-Zc]at h2;rw[Yh]at h3⊢;refine⟨(Yh.mp h2).1,h3.2.1,λx hx y hy=>?_⟩;rcases Zt.mp hx with hx|hx;exact h3.2.2 x hx y hy;exact q x hx y hy
def J.done(h:J LT T out ra []):Good LT T (out++ra):=⟨by simpa using h.pm,h.sa⟩
def J.last(h:J LT T out [z] rb)(q:∀y∈rb,LT z y=Y):Good LT T (out++rb++[z]):=by
 refine⟨h.swap.pm,?_⟩;rw[Yh];refine⟨h.sb,List.pairwise_singleton _ _,λx hx y hy=>?_⟩;rw[ZC]at hy;subst hy;rcases Zt.mp hx with hx|hx;exact(Yh.mp h.sa).2.2 x hx y (.head _);exact q x hx
end
end SM
namespace SM
open PySem PyProof.Rows
abbrev LS:=Z7 (Array Keyed)×Array Keyed×Nat×Nat×Nat×Nat×Nat
abbrev dn'(a b out:Array Keyed)(ia ib:Nat):Array Keyed:=out++a.extract ia a.size++b.extract ib b.size
abbrev la'(a b out:Array Keyed)(ia ib:Nat):Array Keyed:=out++b.extract ib b.size++a.extract ia a.size
noncomputable def loC(a b out:Array Keyed)(ia ib mg ac bc:Nat):StateT SortSt Sem (ForInStep LS):=do
 let x <-elem' a ia
 if ia+1+1==a.size then pure (.done (U (la' a b (out.push x) (ia+1) ib),out.push x,ia+1,ib,mg,ac,bc))
 else if ac<7&&bc<7 then pure (.done (M,out.push x,ia+1,ib,mg,ac,bc)) else pure (.yield (M,out.push x,ia+1,ib,mg,ac,bc))
noncomputable def loB(a b out:Array Keyed)(ia ib mg ac bc:Nat):StateT SortSt Sem (ForInStep LS):=do
 let x <-elem' b ib
 if ib+1==b.size then pure (.done (U (dn' a b (out.push x) ia (ib+1)),out.push x,ia,ib+1,mg,ac,bc))
 else do
  let y <-elem' a ia
  match <-cI L y b (ib+1) (b.size - (ib+1)) 0 with
  |some k=>
   if k>0 then
    if ib+1+k==b.size then pure (.done (U (dn' a b (out.push x++b.extract (ib+1) (ib+1+k)) ia (ib+1+k)),out.push x++b.extract (ib+1) (ib+1+k),ia,ib+1+k,mg,ac,k))
    else loC a b (out.push x++b.extract (ib+1) (ib+1+k)) ia (ib+1+k) mg ac k
   else loC a b (out.push x) ia (ib+1) mg ac k
  |_=>pure (.done (U (dn' a b (out.push x) ia (ib+1)),out.push x,ia,ib+1,mg,ac,bc))
noncomputable def loA(a b out:Array Keyed)(ia ib mg ac bc:Nat):StateT SortSt Sem (ForInStep LS):=do
 bj mg
 let y <-elem' b ib
 match <-cI Y y a ia (a.size - ia) 0 with
 |some k=>
  if k>0 then
   if ia+k+1==a.size then pure (.done (U (la' a b (out++a.extract ia (ia+k)) (ia+k) ib),out++a.extract ia (ia+k),ia+k,ib,mg,k,bc))
   else if ia+k==a.size then pure (.done (U (dn' a b (out++a.extract ia (ia+k)) (ia+k) ib),out++a.extract ia (ia+k),ia+k,ib,mg,k,bc))
   else loB a b (out++a.extract ia (ia+k)) (ia+k) ib mg k bc
  else loB a b out ia ib mg k bc
 |_=>pure (.done (U (dn' a b out ia ib),out,ia,ib,mg,ac,bc))
abbrev WS:=Z7 (Array Keyed)×Array Keyed×Nat×Nat×Nat×Nat
abbrev OS:=Z7 (Array Keyed)×Array Keyed×Nat×Nat×Nat
noncomputable def Rp(a b out:Array Keyed)(ia ib mg ac bc:Nat):StateT SortSt Sem (ForInStep WS):=do
 let x <-elem' b ib
 let y <-elem' a ia
 match <-lt' x y with
 |some t=>
  if t then do
   let x <-elem' b ib
   if ib+1==b.size then pure (.done (U (dn' a b (out.push x) ia (ib+1)),out.push x,ia,ib+1,0,bc+1))
   else if bc+1>=mg then pure (.done (M,out.push x,ia,ib+1,0,bc+1)) else pure (.yield (M,out.push x,ia,ib+1,0,bc+1))
  else do
   let x <-elem' a ia
   if ia+1+1==a.size then pure (.done (U (la' a b (out.push x) (ia+1) ib),out.push x,ia+1,ib,ac+1,0))
   else if ac+1>=mg then pure (.done (M,out.push x,ia+1,ib,ac+1,0)) else pure (.yield (M,out.push x,ia+1,ib,ac+1,0))
 |_=>pure (.done (U (dn' a b out ia ib),out,ia,ib,ac,bc))
noncomputable def Ph(a b out:Array Keyed)(ia ib mg ac bc:Nat):StateT SortSt Sem (ForInStep LS):=if mg>1 then loA a b out ia ib (mg - 1) ac bc else loA a b out ia ib mg ac bc
noncomputable def Rq(a b out:Array Keyed)(ia ib mg:Nat):StateT SortSt Sem (ForInStep OS):=do
 let d <-forIn [:a.size+b.size] ((M,out,ia,ib,0,0):WS) λ_ c=>Rp a b c.2.1 c.2.2.1 c.2.2.2.1 mg c.2.2.2.2.1 c.2.2.2.2.2
 Break.runK.match_1 (λ_=>StateT SortSt Sem (ForInStep OS)) d.1 (λr=>pure (.done (U r,d.2.1,d.2.2.1,d.2.2.2.1,mg))) λ_=>do
  rule "list.sort.gallop"
  let c <-forIn [:a.size+b.size] ((M,d.2.1,d.2.2.1,d.2.2.2.1,mg+1,d.2.2.2.2.1,d.2.2.2.2.2):LS) λ_ c=>Ph a b c.2.1 c.2.2.1 c.2.2.2.1 c.2.2.2.2.1 c.2.2.2.2.2.1 c.2.2.2.2.2.2
  Break.runK.match_1 (λ_=>StateT SortSt Sem (ForInStep OS)) c.1 (λr=>pure (.done (U r,c.2.1,c.2.2.1,c.2.2.2.1,c.2.2.2.2.1))) λ_=>do
   bj (c.2.2.2.2.1+1)
   pure (.yield (M,c.2.1,c.2.2.1,c.2.2.2.1,c.2.2.2.2.1+1))
def Et(a b:Array Keyed):iF a b=(do
 rule "list.sort.merge-lo"
 let x <-elem' b 0
 if 1==b.size then pure (dn' a b #[x] 0 1)
 else if 0+1==a.size then pure (la' a b #[x] 0 1)
 else do
  let s <-get
  let c <-forIn [:a.size+b.size] ((M,#[x],0,1,gallopOf s):OS) λ_ c=>Rq a b c.2.1 c.2.2.1 c.2.2.2.1 c.2.2.2.2
  Break.runK.match_1 (λ_=>StateT SortSt Sem (Array Keyed)) c.1 pure λ_=>unsupported "internal:list.sort.merge-bound"):=rfl
section
variable{LT:Keyed->Keyed->Bool}{T:Array Keyed}{st:SortSt}{a b:Array Keyed}
structure Two (LT:Keyed->Keyed->Bool)(T a b:Array Keyed):Prop where
 ha:∀i,i<a.size->K a i∈T
 hb:∀i,i<b.size->K b i∈T
 ua:Up LT a 0 a.size
 ub:Up LT b 0 b.size
 za:0<a.size
 zb:0<b.size
 h0:∀j,j<a.size->LT (K a j) (K b 0)=false
 hl:∀j,j<b.size->LT (K a (a.size - 1)) (K b j)=false
abbrev JL(LT:Keyed->Keyed->Bool)(a b out:Array Keyed)(ia ib:Nat):Prop:=J LT (a.toList++b.toList) out.toList (a.toList.drop ia) (b.toList.drop ib)
variable{out:Array Keyed}{ia ib:Nat}
def JL.dB(j:JL LT a b out ia ib)(e:ib=b.size):Good LT (a.toList++b.toList) (dn' a b out ia ib).toList:=by
 rw[Zl,Zl,d7,d7];rw[JL,db (a:=b) (by lia)]at j;rw[db (a:=b) (by lia),Y0];exact j.done
def JL.dA(j:JL LT a b out ia ib)(e:ia=a.size):Good LT (a.toList++b.toList) (dn' a b out ia ib).toList:=by
 rw[Zl,Zl,d7,d7];rw[JL,db (a:=a) (by lia)]at j;rw[db (a:=a) (by lia),Y0];exact j.swap.done
def JL.lA(W:Two LT T a b)(j:JL LT a b out ia ib)(e:ia+1=a.size):Good LT (a.toList++b.toList) (la' a b out ia ib).toList:=by
 rw[Zl,Zl,d7,d7];rw[JL,fj (show ia<a.size by lia),db (a:=a) (show a.size<=ia+1 by lia),Y0]at j;rw[fj (show ia<a.size by lia),db (a:=a) (show a.size<=ia+1 by lia),Y0];refine j.last λy hy=>?_;obtain⟨k,_,hk,rfl⟩:=cS hy;rw[show ia=a.size - 1 by lia];exact W.hl k hk
def JL.pB(j:JL LT a b out ia ib)(e:ib<b.size)(q:∀k,ia<=k->k<a.size->LT (K a k) (K b ib)=Y):JL LT a b (out.push (K b ib)) ia (ib+1):=by
 rw[JL,YE];rw[JL,fj e]at j;refine(j.swap.push λx hx y hy=>?_).swap;obtain rfl:=ZC.mp hx;obtain⟨k,h1,h2,rfl⟩:=cS hy;exact q k h1 h2
def JL.pA(j:JL LT a b out ia ib)(e:ia<a.size)(q:∀k,ib<=k->k<b.size->LT (K b k) (K a ia)=Y):JL LT a b (out.push (K a ia)) (ia+1) ib:=by
 rw[JL,YE];rw[JL,fj e]at j;refine j.push λx hx y hy=>?_;obtain rfl:=ZC.mp hx;obtain⟨k,h1,h2,rfl⟩:=cS hy;exact q k h1 h2
def JL.cA(k:Nat)(j:JL LT a b out ia ib)(q:∀i,i<k->ia+i<a.size->∀j,ib<=j->j<b.size->LT (K b j) (K a (ia+i))=Y):JL LT a b (out++a.extract ia (ia+k)) (ia+k) ib:=by
 rw[JL,Zl];rw[JL,ce a ia k]at j;refine j.push λx hx y hy=>?_;obtain⟨i,h1,h2,h3,rfl⟩:=aY hx;obtain⟨k,h4,h5,rfl⟩:=cS hy;have:=q (i - ia) (by lia) (by lia) k h4 h5;rwa[show ia+(i - ia)=i by lia]at this
def JL.cB(k:Nat)(j:JL LT a b out ia ib)(q:∀i,i<k->ib+i<b.size->∀j,ia<=j->j<a.size->LT (K a j) (K b (ib+i))=Y):JL LT a b (out++b.extract ib (ib+k)) ia (ib+k):=by
 rw[JL,Zl];rw[JL,ce b ib k]at j;refine(j.swap.push λx hx y hy=>?_).swap;obtain⟨i,h1,h2,h3,rfl⟩:=aY hx;obtain⟨k,h4,h5,rfl⟩:=cS hy;have:=q (i - ib) (by lia) (by lia) k h4 h5;rwa[show ib+(i - ib)=i by lia]at this
def abD(u:Up LT c 0 c.size):c.toList.Pairwise (R LT):=Xx.mpr λi j hi hj Kb=>by
 simp at hi hj;have:=u i j (Zu _) (by lia) hj;unfold R;unfold K at this;simpa[hi,hj]using this
def Two.j0(W:Two LT T a b):JL LT a b #[K b 0] 0 1:=by
 have j:JL LT a b #[] 0 0:=⟨Yy _,abD W.ua,abD W.ub⟩;exact j.pB W.zb λk _ hk=>W.h0 k hk
abbrev IL(LT:Keyed->Keyed->Bool)(a b:Array Keyed)(n:Nat)(out:Array Keyed)(ia ib:Nat):Prop:=JL LT a b out ia ib/\ia+1<a.size/\ib<b.size/\n<=ia+ib
structure acj (LT:Keyed->Keyed->Bool)(a b:Array Keyed)(st:SortSt)(n0:Nat)(P:ForInStep LS->SortSt->Prop):Prop where
 good:∀m r g,Good LT (a.toList++b.toList) m.toList->P (.done (some m,r)) (ao st g)
 next:∀out ia ib mg ac bc g,IL LT a b (n0+1) out ia ib->P (.done (none,out,ia,ib,mg,ac,bc)) (ao st g)/\P (.yield (none,out,ia,ib,mg,ac,bc)) (ao st g)
variable{n0 mg ac bc:Nat}
def xE(W:Two LT T a b)(j:IL LT a b n0 out ia ib)(Z:acj LT a b st n0 P)(q:∀k,ib<=k->k<b.size->LT (K b k) (K a ia)=Y):
  wpS (model prog w) A E s (loC a b out ia ib mg ac bc) P (ao st g):=by
 obtain⟨j,h1,h2,h3⟩:=j;refine ZH (aF (by lia) ?_);have j1:=j.pA (by lia) q;by_cases e:ia+1+1=a.size;refine aP (Zx.mpr e) ?_;exact Zz (Z.good _ _ _ (j1.lA W e))
 .refine aM (λq=>e (Zx.mp q)) ?_
  have z:=λac bc=>Z.next _ _ _ mg ac bc g ⟨j1,by lia,h2,by lia⟩;by_cases c:(decide (ac<7)&&decide (bc<7))=L;refine aP c ?_;exact Zz (z ac bc).1;refine aM c ?_;exact Zz (z ac bc).2
variable(O:aaJ LT)(H:Ans prog w A s κ LT T)(hk:kindOf st=κ)(W:Two LT T a b)
include O H hk W
section
variable(j:IL LT a b n0 out ia ib)
include j
def xW(Z:acj LT a b st n0 P)(q:∀k,ia<=k->k<a.size->LT (K a k) (K b ib)=Y):
  wpS (model prog w) A E s (loB a b out ia ib mg ac bc) P (ao st g):=by
 obtain⟨j,h1,h2,h3⟩:=j;refine ZH (aF h2 ?_);have j1:=j.pB h2 q;by_cases e:ib+1=b.size;refine aP (Zx.mpr e) ?_;exact Zz (Z.good _ _ _ (j1.dB e));refine aM (λq=>e (Zx.mp q)) ?_;refine ZH (aF (by lia) ?_);refine ZH (ck (st:=ao st g) O H hk (W.ha _ (by lia)) (by lia) (by lia) (λi hi=>W.hb _ (by lia)) (λp q a1 a2 a3=>W.ub p q (Zu _) a2 (by lia)) λk k1 k2 k3=>?_);have q2:∀m,ib+1+k<=m->m<b.size->LT (K b m) (K a ia)=Y:=λm m1 m2=>by
  have:=k3 (m - (ib+1)) (by lia) (by lia);unfold fB at this;simpa only[Y_,show ib+1+(m - (ib+1))=m by lia]using this
 dsimp only;by_cases c:k>0;refine aP c ?_;have j2:=j1.cB k λi i1 i2 m m1 m2=>O.tr _ _ _ (O.aa9 _ _ (by simpa only[fB,Y_]using k2 i i1)) (W.ua ia m (Zu _) m1 m2);by_cases e2:ib+1+k=b.size;refine aP (Zx.mpr e2) ?_;exact Zz (Z.good _ _ _ (j2.dB e2));refine aM (λq=>e2 (Zx.mp q)) ?_;exact xE W ⟨j2,h1,by lia,by lia⟩ Z q2;refine aM c ?_;exact xE W ⟨j1,h1,by lia,by lia⟩ Z (by rw[show k=0 by lia]at q2;exact q2)
def Bd(Z:acj LT a b st n0 P):wpS (model prog w) A E s (loA a b out ia ib mg ac bc) P (ao st g):=by
 obtain⟨j,h1,h2,h3⟩:=j;unfold loA;rw[ba];refine ZH (XQ ?_);refine ZH (aF h2 ?_);refine ZH (ck (st:=ao st mg) O H hk (W.hb _ h2) (by lia) (by lia) (λi hi=>W.ha _ (by lia)) (λp q a1 a2 a3=>W.ua p q (Zu _) a2 (by lia)) λk k1 k2 k3=>?_);have q2:∀m,ia+k<=m->m<a.size->LT (K a m) (K b ib)=Y:=λm m1 m2=>by
  have:=k3 (m - ia) (by lia) (by lia);unfold fB at this;simp only[ZZ,Zm,Bool.not_eq_false',show ia+(m - ia)=m by lia]at this;exact O.aa9 _ _ this
 dsimp only;by_cases c:k>0;refine aP c ?_;have j2:=j.cA k λi i1 i2 m m1 m2=>O.tr _ _ _ (by simpa only[fB,ZZ,Zm,Ys]using k2 i i1) (W.ub ib m (Zu _) m1 m2);by_cases e1:ia+k+1=a.size;refine aP (Zx.mpr e1) ?_;exact Zz (Z.good _ _ _ (j2.lA W e1));refine aM (λq=>e1 (Zx.mp q)) ?_;by_cases e2:ia+k=a.size;refine aP (Zx.mpr e2) ?_;exact Zz (Z.good _ _ _ (j2.dA e2));refine aM (λq=>e2 (Zx.mp q)) ?_;exact xW O H hk W ⟨j2,by lia,h2,by lia⟩ Z q2;refine aM c ?_;exact xW O H hk W ⟨j,h1,h2,h3⟩ Z (by rw[show k=0 by lia]at q2;exact q2)
def Cl{P:ForInStep WS->SortSt->Prop}(z1:∀m r,Good LT (a.toList++b.toList) m.toList->P (.done (U m,r)) (ao st g))(z2:∀out ia ib ac bc,IL LT a b n0 out ia ib->P (.done (M,out,ia,ib,ac,bc)) (ao st g)/\P (.yield (M,out,ia,ib,ac,bc)) (ao st g)):
  wpS (model prog w) A E s (Rp a b out ia ib mg ac bc) P (ao st g):=by
 obtain⟨j,i1,i2,i3⟩:=j;refine ZH (aF i2 (ZH (aF (by lia) (ZH (sn (st:=ao st g) H hk (W.hb _ i2) (W.ha _ (by lia)) ?_)))));dsimp only;cases hw:LT (K b ib) (K a ia)with
 |true=>
  simp only[Y_];refine ZH (aF i2 ?_);have j1:=j.pB i2 λk k1 k2=>O.tr _ _ _ (O.aa9 _ _ hw) (W.ua ia k (Zu _) k1 k2);by_cases e:ib+1=b.size;refine aP (Zx.mpr e) ?_;exact Zz (z1 _ _ (j1.dB e));refine aM (λq=>e (Zx.mp q)) ?_;have z:=λac bc=>z2 _ _ _ ac bc ⟨j1,i1,by lia,by lia⟩;by_cases c:bc+1>=mg;refine aP c ?_;exact Zz (z _ _).1;refine aM c ?_;exact Zz (z _ _).2
 |false=>
  simp only[ZZ,Zm];refine ZH (aF (by lia) ?_);have j1:=j.pA (by lia) λk k1 k2=>O.tr _ _ _ hw (W.ub ib k (Zu _) k1 k2);by_cases e:ia+1+1=a.size;refine aP (Zx.mpr e) ?_;exact Zz (z1 _ _ (j1.lA W e));refine aM (λq=>e (Zx.mp q)) ?_;have z:=λac bc=>z2 _ _ _ ac bc ⟨j1,by lia,i2,by lia⟩;by_cases c:ac+1>=mg;refine aP c ?_;exact Zz (z _ _).1;refine aM c ?_;exact Zz (z _ _).2
def Cn(Z:acj LT a b st n0 P):wpS (model prog w) A E s (Ph a b out ia ib mg ac bc) P (ao st g):=by
 unfold Ph;split<;>exact Bd O H hk W j Z
def CI{P:ForInStep OS->SortSt->Prop}(z1:∀m r g,Good LT (a.toList++b.toList) m.toList->P (.done (U m,r)) (ao st g))(z2:∀out ia ib mg g,IL LT a b (n0+1) out ia ib->P (.yield (M,out,ia,ib,mg)) (ao st g)):
  wpS (model prog w) A E s (Rq a b out ia ib mg) P (ao st g):=by
 have za:=W.za;refine ZH (XH (Yt (I:=λy c e_=>∃out ia ib ac bc,c=(M,out,ia,ib,ac,bc)/\e_=ao st g/\IL LT a b n0 out ia ib)
  (Q:=λc e_=>e_=ao st g/\((∃m r,c=(U m,r)/\Good LT (a.toList++b.toList) m.toList)\/∃out ia ib ac bc,c=(M,out,ia,ib,ac,bc)/\IL LT a b n0 out ia ib)) ?_ ?_ ⟨out,ia,ib,0,0,rfl,rfl,j⟩) ?_)
 intro y c e_ _ _ hz;obtain⟨out,ia,ib,ac,bc,rfl,rfl,j⟩:=hz;exact Cl O H hk W j (λm r hm=>⟨rfl,.inl ⟨m,r,rfl,hm⟩⟩) λout ia ib ac bc j=>⟨⟨rfl,.inr ⟨_,_,_,_,_,rfl,j⟩⟩,⟨_,_,_,_,_,rfl,rfl,j⟩⟩
 intro c e_ hz;obtain⟨out,ia,ib,ac,bc,rfl,rfl,j⟩:=hz;exact⟨rfl,.inr ⟨_,_,_,_,_,rfl,j⟩⟩;intro c e_ hz;obtain⟨rfl,hz⟩:=hz;rcases hz with hz|hz;obtain⟨m,r,rfl,hm⟩:=hz;exact Zz (z1 m _ g hm);obtain⟨out,ia,ib,ac,bc,rfl,j⟩:=hz;refine ZH (wpS_lift (YD ⟨rfl,?_⟩));refine ZH (XH (Yt (I:=λy c e_=>∃out ia ib mg ac bc g,c=(M,out,ia,ib,mg,ac,bc)/\e_=ao st g/\IL LT a b n0 out ia ib/\(1<=y->n0<ia+ib))
  (Q:=λc e_=>∃g,e_=ao st g/\((∃m r,c=(U m,r)/\Good LT (a.toList++b.toList) m.toList)\/∃out ia ib mg ac bc,c=(M,out,ia,ib,mg,ac,bc)/\IL LT a b (n0+1) out ia ib)) ?_ ?_ ⟨out,ia,ib,_,ac,bc,g,rfl,rfl,j,λq=>absurd q (by lia)⟩) ?_)
 intro y c e_ _ _ hz;obtain⟨out,ia,ib,mg,ac,bc,g,rfl,rfl,j,_⟩:=hz;exact Cn O H hk W j ⟨λm r g hm=>⟨g,rfl,.inl ⟨m,r,rfl,hm⟩⟩,λout ia ib mg ac bc g j=>⟨⟨g,rfl,.inr ⟨_,_,_,_,_,_,rfl,j⟩⟩,⟨_,_,_,_,_,_,g,rfl,rfl,⟨j.1,j.2.1,j.2.2.1,by lia⟩,λ_=>j.2.2.2⟩⟩⟩;intro c e_ hz;obtain⟨out,ia,ib,mg,ac,bc,g,rfl,rfl,⟨j,i1,i2,i3⟩,i4⟩:=hz;exact⟨g,rfl,.inr ⟨_,_,_,_,_,_,rfl,j,i1,i2,i4 (by lia)⟩⟩;intro c e_ hz;obtain⟨g,rfl,hz⟩:=hz;rcases hz with hz|hz;obtain⟨m,r,rfl,hm⟩:=hz;exact Zz (z1 m _ g hm);obtain⟨out,ia,ib,mg,ac,bc,rfl,j⟩:=hz;dsimp only;rw[ba];exact ZH (XQ (Zz (z2 _ _ _ _ _ j)))
end
def pM(h:∀m g,Good LT (a.toList++b.toList) m.toList->Q m (ao st g)):wpS (model prog w) A E s (iF a b) Q st:=by
 rw[Et];refine ZH (wpS_lift (YD ⟨rfl,?_⟩));refine ZH (aF W.zb ?_);by_cases e1:1=b.size;refine aP (Zx.mpr e1) ?_;exact Zz (h _ (gallopOf st) (W.j0.dB e1));refine aM (λq=>e1 (Zx.mp q)) ?_;by_cases e2:0+1=a.size;refine aP (Zx.mpr e2) ?_;exact Zz (h _ (gallopOf st) (W.j0.lA W e2));refine aM (λq=>e2 (Zx.mp q)) ?_;have za:=W.za;have zb:=W.zb;refine ZH (Wi ?_);refine ZH (XH (Yt (I:=λx c e_=>∃out ia ib mg g,c=(M,out,ia,ib,mg)/\e_=ao st g/\IL LT a b (x+1) out ia ib)
  (Q:=λc e_=>∃m g r,c=(U m,r)/\e_=ao st g/\Good LT (a.toList++b.toList) m.toList) ?_ ?_ ⟨_,_,_,_,gallopOf st,rfl,rfl,W.j0,by lia,by lia,by lia⟩) ?_)
 intro x c e_ g1 g2 hz;obtain⟨out,ia,ib,mg,g,rfl,rfl,j⟩:=hz;exact CI O H hk W j (λm r g hm=>⟨m,g,_,rfl,rfl,hm⟩) λout ia ib mg g j=>⟨_,_,_,_,_,rfl,rfl,j⟩
 intro c e_ hz;obtain⟨out,ia,ib,mg,g,rfl,rfl,j,i1,i2,i3⟩:=hz;exfalso;lia;intro c e_ hz;obtain⟨m,g,r,rfl,rfl,hm⟩:=hz;exact Zz (h m g hm)
end
end SM
namespace SM
open PySem PyProof.Rows
abbrev HS:=Z7 (Array Keyed)×Nat×Nat×Array Keyed×Nat×Nat×Nat
abbrev dh'(a b out:Array Keyed)(na nb:Nat):Array Keyed:=a.extract 0 na++b.extract 0 nb++out.reverse
abbrev fh'(a b out:Array Keyed)(na nb:Nat):Array Keyed:=b.extract 0 nb++a.extract 0 na++out.reverse
noncomputable def hiC(a b out:Array Keyed)(na nb mg ac bc:Nat):StateT SortSt Sem (ForInStep HS):=do
 let x <-elem' a (na - 1)
 if na - 1==0 then pure (.done (U (dh' a b (out.push x) (na - 1) nb),na - 1,nb,out.push x,mg,ac,bc))
 else if ac<7&&bc<7 then pure (.done (M,na - 1,nb,out.push x,mg,ac,bc)) else pure (.yield (M,na - 1,nb,out.push x,mg,ac,bc))
noncomputable def hiB(a b out:Array Keyed)(na nb mg ac bc:Nat):StateT SortSt Sem (ForInStep HS):=do
 let x <-elem' b (nb - 1)
 if nb - 1==1 then pure (.done (U (fh' a b (out.push x) na (nb - 1)),na,nb - 1,out.push x,mg,ac,bc))
 else do
  let y <-elem' a (na - 1)
  match <-cI L y b 0 (nb - 1) (nb - 1 - 1)with
  |some t=>
   if nb - 1 - t>0 then
    if t==1 then pure (.done (U (fh' a b (out.push x++(b.extract t (nb - 1)).reverse) na t),na,t,out.push x++(b.extract t (nb - 1)).reverse,mg,ac,nb - 1 - t))
    else if t==0 then pure (.done (U (dh' a b (out.push x++(b.extract t (nb - 1)).reverse) na t),na,t,out.push x++(b.extract t (nb - 1)).reverse,mg,ac,nb - 1 - t))
    else hiC a b (out.push x++(b.extract t (nb - 1)).reverse) na t mg ac (nb - 1 - t)
   else hiC a b (out.push x) na (nb - 1) mg ac (nb - 1 - t)
  |_=>pure (.done (U (dh' a b (out.push x) na (nb - 1)),na,nb - 1,out.push x,mg,ac,bc))
noncomputable def hiA(a b out:Array Keyed)(na nb mg ac bc:Nat):StateT SortSt Sem (ForInStep HS):=do
 bj mg
 let y <-elem' b (nb - 1)
 match <-cI Y y a 0 na (na - 1)with
 |some t=>
  if na - t>0 then
   if t==0 then pure (.done (U (dh' a b (out++(a.extract t na).reverse) t nb),t,nb,out++(a.extract t na).reverse,mg,na - t,bc))
   else hiB a b (out++(a.extract t na).reverse) t nb mg (na - t) bc
  else hiB a b out na nb mg (na - t) bc
 |_=>pure (.done (U (dh' a b out na nb),na,nb,out,mg,ac,bc))
abbrev VS:=Z7 (Array Keyed)×Nat×Nat×Array Keyed×Nat×Nat
abbrev PS:=Z7 (Array Keyed)×Nat×Nat×Array Keyed×Nat
noncomputable def R_(a b out:Array Keyed)(na nb mg ac bc:Nat):StateT SortSt Sem (ForInStep VS):=do
 let x <-elem' b (nb - 1)
 let y <-elem' a (na - 1)
 match <-lt' x y with
 |some t=>
  if t then do
   let x <-elem' a (na - 1)
   if na - 1==0 then pure (.done (U (dh' a b (out.push x) (na - 1) nb),na - 1,nb,out.push x,ac+1,0))
   else if ac+1>=mg then pure (.done (M,na - 1,nb,out.push x,ac+1,0)) else pure (.yield (M,na - 1,nb,out.push x,ac+1,0))
  else do
   let x <-elem' b (nb - 1)
   if nb - 1==1 then pure (.done (U (fh' a b (out.push x) na (nb - 1)),na,nb - 1,out.push x,0,bc+1))
   else if bc+1>=mg then pure (.done (M,na,nb - 1,out.push x,0,bc+1)) else pure (.yield (M,na,nb - 1,out.push x,0,bc+1))
 |_=>pure (.done (U (dh' a b out na nb),na,nb,out,ac,bc))
noncomputable def PY(a b out:Array Keyed)(na nb mg ac bc:Nat):StateT SortSt Sem (ForInStep HS):=if mg>1 then hiA a b out na nb (mg - 1) ac bc else hiA a b out na nb mg ac bc
noncomputable def Sa(a b out:Array Keyed)(na nb mg:Nat):StateT SortSt Sem (ForInStep PS):=do
 let d <-forIn [:a.size+b.size] ((M,na,nb,out,0,0):VS) λ_ c=>R_ a b c.2.2.2.1 c.2.1 c.2.2.1 mg c.2.2.2.2.1 c.2.2.2.2.2
 Break.runK.match_1 (λ_=>StateT SortSt Sem (ForInStep PS)) d.1 (λr=>pure (.done (U r,d.2.1,d.2.2.1,d.2.2.2.1,mg))) λ_=>do
  rule "list.sort.gallop"
  let c <-forIn [:a.size+b.size] ((M,d.2.1,d.2.2.1,d.2.2.2.1,mg+1,d.2.2.2.2.1,d.2.2.2.2.2):HS) λ_ c=>PY a b c.2.2.2.1 c.2.1 c.2.2.1 c.2.2.2.2.1 c.2.2.2.2.2.1 c.2.2.2.2.2.2
  Break.runK.match_1 (λ_=>StateT SortSt Sem (ForInStep PS)) c.1 (λr=>pure (.done (U r,c.2.1,c.2.2.1,c.2.2.2.1,c.2.2.2.2.1))) λ_=>do
   bj (c.2.2.2.2.1+1)
   pure (.yield (M,c.2.1,c.2.2.1,c.2.2.2.1,c.2.2.2.2.1+1))
theorem DJ(a b:Array Keyed):iO a b=(do
 rule "list.sort.merge-hi"
 let x <-elem' a (a.size - 1)
 if a.size - 1==0 then pure (dh' a b #[x] (a.size - 1) b.size)
 else if b.size==1 then pure (fh' a b #[x] (a.size - 1) b.size)
 else do
  let s <-get
  let c <-forIn [:a.size+b.size] ((M,a.size - 1,b.size,#[x],gallopOf s):PS) λ_ c=>Sa a b c.2.2.2.1 c.2.1 c.2.2.1 c.2.2.2.2
  Break.runK.match_1 (λ_=>StateT SortSt Sem (Array Keyed)) c.1 pure λ_=>unsupported "internal:list.sort.merge-bound"):=rfl
def fl(LT:Keyed->Keyed->Bool)(x y:Keyed):Bool:=LT y x
section
variable{LT:Keyed->Keyed->Bool}{st:SortSt}{a b:Array Keyed}
abbrev JH(LT:Keyed->Keyed->Bool)(a b out:Array Keyed)(na nb:Nat):Prop:=J (fl LT) (a.toList++b.toList) out.toList (a.toList.take na).reverse (b.toList.take nb).reverse
def Good.rev{T l:Z9 Keyed}(h:Good (fl LT) T l):Good LT T l.reverse:=⟨(List.reverse_perm l).trans h.pm,List.pairwise_reverse.mpr h.so⟩
variable{out:Array Keyed}{na nb:Nat}
def JH.dA(j:JH LT a b out na nb)(e:na=0):Good LT (a.toList++b.toList) (dh' a b out na nb).toList:=by
 subst e;rw[JH,List.take_zero,List.reverse_nil]at j;have:=j.swap.done.rev;rw[XU,Xf]at this;rwa[Zl,Zl,c7,c7,XX,List.take_zero,List.nil_append]
def JH.dB(j:JH LT a b out na nb)(e:nb=0):Good LT (a.toList++b.toList) (dh' a b out na nb).toList:=by
 subst e;rw[JH,List.take_zero,List.reverse_nil]at j;have:=j.done.rev;rw[XU,Xf]at this;rwa[Zl,Zl,c7,c7,XX,List.take_zero,Y0]
def JH.fB(W:Two LT T a b)(j:JH LT a b out na nb)(e:nb=1):Good LT (a.toList++b.toList) (fh' a b out na nb).toList:=by
 subst e;rw[JH,fu (a:=b) (i:=0) W.zb,List.take_zero,List.reverse_nil,Y0]at j;have:=(j.swap.last λy hy=>?_).rev;rw[XU,XU,Xf]at this;have e:=fu (a:=b) (i:=0) W.zb;rw[List.take_zero,List.reverse_nil,Y0]at e;have e':=congrArg List.reverse e;rw[Xf]at e';rw[Zl,Zl,c7,c7,XX,e',Zc];exact this;obtain⟨k,_,hk,rfl⟩:=cJ (XS.mp hy);exact W.h0 k hk
def JH.pA(j:JH LT a b out (na+1) nb)(e:na<a.size)(q:∀k,k<nb->k<b.size->LT (K a na) (K b k)=Y):JH LT a b (out.push (K a na)) na nb:=by
 rw[JH,YE];rw[JH,fu e]at j;refine j.push λx hx y hy=>?_;obtain rfl:=ZC.mp hx;obtain⟨k,h1,h2,rfl⟩:=cJ (XS.mp hy);exact q k h1 h2
def JH.pB(j:JH LT a b out na (nb+1))(e:nb<b.size)(q:∀k,k<na->k<a.size->LT (K b nb) (K a k)=Y):JH LT a b (out.push (K b nb)) na nb:=by
 rw[JH,YE];rw[JH,fu e]at j;refine(j.swap.push λx hx y hy=>?_).swap;obtain rfl:=ZC.mp hx;obtain⟨k,h1,h2,rfl⟩:=cJ (XS.mp hy);exact q k h1 h2
def JH.cA(ht:t<=na)(j:JH LT a b out na nb)(q:∀i,t<=i->i<na->i<a.size->∀j,j<nb->j<b.size->LT (K a i) (K b j)=Y):JH LT a b (out++(a.extract t na).reverse) t nb:=by
 rw[JH,Zl];rw[JH,jT a ht]at j;refine j.push λx hx y hy=>?_;rw[XX,XS]at hx;obtain⟨i,h1,h2,h3,rfl⟩:=aY hx;obtain⟨k,h4,h5,rfl⟩:=cJ (XS.mp hy);exact q i h1 h2 h3 k h4 h5
def JH.cB(ht:t<=nb)(j:JH LT a b out na nb)(q:∀i,t<=i->i<nb->i<b.size->∀j,j<na->j<a.size->LT (K b i) (K a j)=Y):JH LT a b (out++(b.extract t nb).reverse) na t:=by
 rw[JH,Zl];rw[JH,jT b ht]at j;refine(j.swap.push λx hx y hy=>?_).swap;rw[XX,XS]at hx;obtain⟨i,h1,h2,h3,rfl⟩:=aY hx;obtain⟨k,h4,h5,rfl⟩:=cJ (XS.mp hy);exact q i h1 h2 h3 k h4 h5
def Two.k0(W:Two LT T a b):JH LT a b #[K a (a.size - 1)] (a.size - 1) b.size:=by
 have rv:∀{c:Array Keyed},Up LT c 0 c.size->(c.toList.take c.size).reverse.Pairwise (R (fl LT)):=λ{c} u=>by
  rw[Yv (by simp)];exact List.pairwise_reverse.mpr (abD u)
 have j:JH LT a b #[] a.size b.size:=⟨by
  rw[Yv (by simp),Yv (by simp)];exact((List.reverse_perm _).append (List.reverse_perm _)),rv W.ua,rv W.ub⟩
 have za:=W.za;rw[show a.size=a.size - 1+1 by lia]at j;exact j.pA (by lia) λk k1 k2=>W.hl k k2
abbrev IH(LT:Keyed->Keyed->Bool)(a b:Array Keyed)(n:Nat)(out:Array Keyed)(na nb:Nat):Prop:=JH LT a b out na nb/\1<=na/\na<=a.size/\2<=nb/\nb<=b.size/\na+nb+n<=a.size+b.size
structure ack (LT:Keyed->Keyed->Bool)(a b:Array Keyed)(st:SortSt)(n0:Nat)(P:ForInStep HS->SortSt->Prop):Prop where
 good:∀m r g,Good LT (a.toList++b.toList) m.toList->P (.done (some m,r)) (ao st g)
 next:∀out na nb mg ac bc g,IH LT a b (n0+1) out na nb->P (.done (none,na,nb,out,mg,ac,bc)) (ao st g)/\P (.yield (none,na,nb,out,mg,ac,bc)) (ao st g)
variable{n0 mg ac bc:Nat}
def xH(W:Two LT T a b)(j:IH LT a b n0 out na nb)(Z:ack LT a b st n0 P)(q:∀k,k<nb->k<b.size->LT (K a (na - 1)) (K b k)=Y):
  wpS (model prog w) A E s (hiC a b out na nb mg ac bc) P (ao st g):=by
 obtain⟨j,h1,Kh,h2,Jh,h3⟩:=j;refine ZH (aF (by lia) ?_);have j1:=JH.pA (na:=na - 1) (by rw[show na - 1+1=na by lia];exact j) (by lia) q;by_cases e:na - 1=0;refine aP (Zx.mpr e) ?_;exact Zz (Z.good _ _ _ (j1.dA e))
 .refine aM (λq=>e (Zx.mp q)) ?_
  have z:=λac bc=>Z.next _ _ _ mg ac bc g ⟨j1,by lia,by lia,h2,Jh,by lia⟩;by_cases c:(decide (ac<7)&&decide (bc<7))=L;refine aP c ?_;exact Zz (z ac bc).1;refine aM c ?_;exact Zz (z ac bc).2
variable(O:aaJ LT)(H:Ans prog w A s κ LT T)(hk:kindOf st=κ)(W:Two LT T a b)
include O H hk W
section
variable(j:IH LT a b n0 out na nb)
include j
def yx(Z:ack LT a b st n0 P)(q:∀k,k<na->k<a.size->LT (K b (nb - 1)) (K a k)=Y):
  wpS (model prog w) A E s (hiB a b out na nb mg ac bc) P (ao st g):=by
 obtain⟨j,h1,Kh,h2,Jh,h3⟩:=j;refine ZH (aF (by lia) ?_);have j1:=JH.pB (nb:=nb - 1) (by rw[show nb - 1+1=nb by lia];exact j) (by lia) q;by_cases e:nb - 1=1;refine aP (Zx.mpr e) ?_;exact Zz (Z.good _ _ _ (j1.fB W e));refine aM (λq=>e (Zx.mp q)) ?_;refine ZH (aF (by lia) ?_);refine ZH (ck (st:=ao st g) O H hk (W.ha _ (by lia)) (by lia) (by lia) (λi hi=>W.hb _ (by lia)) (λp q a1 a2 a3=>W.ub p q (Zu _) a2 (by lia)) λt k1 k2 k3=>?_);have q2:∀m,m<t->m<b.size->LT (K a (na - 1)) (K b m)=Y:=λm m1 m2=>by
  have:=k2 m m1;unfold fB at this;simp only[Y_,Yd]at this;exact O.aa9 _ _ this
 dsimp only;by_cases c:nb - 1 - t>0;refine aP c ?_;have j2:=j1.cB (t:=t) (by lia) λi i1 i2 i3 m m1 m2=>O.tr _ _ _ (W.ua m (na - 1) (Zu _) (by lia) (by lia)) (by simpa only[fB,Y_,Yd]using k3 i i1 i2);by_cases e2:t=1;refine aP (Zx.mpr e2) ?_;exact Zz (Z.good _ _ _ (j2.fB W e2));refine aM (λq=>e2 (Zx.mp q)) ?_;by_cases e3:t=0;refine aP (Zx.mpr e3) ?_;exact Zz (Z.good _ _ _ (j2.dB e3));refine aM (λq=>e3 (Zx.mp q)) ?_;exact xH W ⟨j2,h1,Kh,by lia,by lia,by lia⟩ Z q2;refine aM c ?_;exact xH W ⟨j1,h1,Kh,by lia,by lia,by lia⟩ Z (by rw[show t=nb - 1 by lia]at q2;exact q2)
def CY(Z:ack LT a b st n0 P):
  wpS (model prog w) A E s (hiA a b out na nb mg ac bc) P (ao st g):=by
 obtain⟨j,h1,Kh,h2,Jh,h3⟩:=j;unfold hiA;rw[ba];refine ZH (XQ ?_);refine ZH (aF (by lia) ?_);refine ZH (ck (st:=ao st mg) O H hk (W.hb _ (by lia)) (by lia) (by lia) (λi hi=>W.ha _ (by lia)) (λp q a1 a2 a3=>W.ua p q (Zu _) a2 (by lia)) λt k1 k2 k3=>?_);have q2:∀m,m<t->m<a.size->LT (K b (nb - 1)) (K a m)=Y:=λm m1 m2=>by
  have:=k2 m m1;unfold fB at this;simpa only[ZZ,Zm,Ys,Yd]using this
 dsimp only;by_cases c:na - t>0;refine aP c ?_;have j2:=j.cA (t:=t) (by lia) λi i1 i2 i3 m m1 m2=>O.tr _ _ _ (W.ub m (nb - 1) (Zu _) (by lia) (by lia)) (O.aa9 _ _ (by simpa only[fB,ZZ,Zm,Bool.not_eq_false',Yd]using k3 i i1 i2));by_cases e1:t=0;refine aP (Zx.mpr e1) ?_;exact Zz (Z.good _ _ _ (j2.dA e1));refine aM (λq=>e1 (Zx.mp q)) ?_;exact yx O H hk W ⟨j2,by lia,by lia,h2,Jh,by lia⟩ Z q2;refine aM c ?_;exact yx O H hk W ⟨j,h1,Kh,h2,Jh,h3⟩ Z (by rw[show t=na by lia]at q2;exact q2)
def Bo{P:ForInStep VS->SortSt->Prop}(z1:∀m r,Good LT (a.toList++b.toList) m.toList->P (.done (U m,r)) (ao st g))(z2:∀out na nb ac bc,IH LT a b n0 out na nb->P (.done (M,na,nb,out,ac,bc)) (ao st g)/\P (.yield (M,na,nb,out,ac,bc)) (ao st g)):
  wpS (model prog w) A E s (R_ a b out na nb mg ac bc) P (ao st g):=by
 obtain⟨j,i1,Oj,i2,Oi,i3⟩:=j;refine ZH (aF (by lia) (ZH (aF (by lia) (ZH (sn (st:=ao st g) H hk (W.hb _ (by lia)) (W.ha _ (by lia)) ?_)))));dsimp only;cases hw:LT (K b (nb - 1)) (K a (na - 1))with
 |true=>
  simp only[Y_];refine ZH (aF (by lia) ?_);have j1:=JH.pA (na:=na - 1) (by rw[show na - 1+1=na by lia];exact j) (by lia) λk k1 k2=>O.tr _ _ _ (W.ub k (nb - 1) (Zu _) (by lia) (by lia)) (O.aa9 _ _ hw);by_cases e:na - 1=0;refine aP (Zx.mpr e) ?_;exact Zz (z1 _ _ (j1.dA e));refine aM (λq=>e (Zx.mp q)) ?_;have z:=λac bc=>z2 _ _ _ ac bc ⟨j1,by lia,by lia,i2,Oi,by lia⟩;by_cases c:ac+1>=mg;refine aP c ?_;exact Zz (z _ _).1;refine aM c ?_;exact Zz (z _ _).2
 |false=>
  simp only[ZZ,Zm];refine ZH (aF (by lia) ?_);have j1:=JH.pB (nb:=nb - 1) (by rw[show nb - 1+1=nb by lia];exact j) (by lia) λk k1 k2=>O.tr _ _ _ (W.ua k (na - 1) (Zu _) (by lia) (by lia)) hw;by_cases e:nb - 1=1;refine aP (Zx.mpr e) ?_;exact Zz (z1 _ _ (j1.fB W e));refine aM (λq=>e (Zx.mp q)) ?_;have z:=λac bc=>z2 _ _ _ ac bc ⟨j1,i1,Oj,by lia,by lia,by lia⟩;by_cases c:bc+1>=mg;refine aP c ?_;exact Zz (z _ _).1;refine aM c ?_;exact Zz (z _ _).2
def BL(Z:ack LT a b st n0 P):wpS (model prog w) A E s (PY a b out na nb mg ac bc) P (ao st g):=by
 unfold PY;split<;>exact CY O H hk W j Z
def CH{P:ForInStep PS->SortSt->Prop}(z1:∀m r g,Good LT (a.toList++b.toList) m.toList->P (.done (U m,r)) (ao st g))(z2:∀out na nb mg g,IH LT a b (n0+1) out na nb->P (.yield (M,na,nb,out,mg)) (ao st g)):
  wpS (model prog w) A E s (Sa a b out na nb mg) P (ao st g):=by
 have za:=W.za;refine ZH (XH (Yt (I:=λy c e_=>∃na nb out ac bc,c=(M,na,nb,out,ac,bc)/\e_=ao st g/\IH LT a b n0 out na nb)
  (Q:=λc e_=>e_=ao st g/\((∃m r,c=(U m,r)/\Good LT (a.toList++b.toList) m.toList)\/∃na nb out ac bc,c=(M,na,nb,out,ac,bc)/\IH LT a b n0 out na nb)) ?_ ?_ ⟨na,nb,out,0,0,rfl,rfl,j⟩) ?_)
 intro y c e_ _ _ hz;obtain⟨na,nb,out,ac,bc,rfl,rfl,j⟩:=hz;exact Bo O H hk W j (λm r hm=>⟨rfl,.inl ⟨m,r,rfl,hm⟩⟩) λout na nb ac bc j=>⟨⟨rfl,.inr ⟨_,_,_,_,_,rfl,j⟩⟩,⟨_,_,_,_,_,rfl,rfl,j⟩⟩
 intro c e_ hz;obtain⟨na,nb,out,ac,bc,rfl,rfl,j⟩:=hz;exact⟨rfl,.inr ⟨_,_,_,_,_,rfl,j⟩⟩;intro c e_ hz;obtain⟨rfl,hz⟩:=hz;rcases hz with hz|hz;obtain⟨m,r,rfl,hm⟩:=hz;exact Zz (z1 m _ g hm);obtain⟨na,nb,out,ac,bc,rfl,j⟩:=hz;refine ZH (wpS_lift (YD ⟨rfl,?_⟩));refine ZH (XH (Yt (I:=λy c e_=>∃na nb out mg ac bc g,c=(M,na,nb,out,mg,ac,bc)/\e_=ao st g/\IH LT a b n0 out na nb/\(1<=y->na+nb+n0<a.size+b.size))
  (Q:=λc e_=>∃g,e_=ao st g/\((∃m r,c=(U m,r)/\Good LT (a.toList++b.toList) m.toList)\/∃na nb out mg ac bc,c=(M,na,nb,out,mg,ac,bc)/\IH LT a b (n0+1) out na nb)) ?_ ?_ ⟨na,nb,out,_,ac,bc,g,rfl,rfl,j,λq=>absurd q (by lia)⟩) ?_)
 intro y c e_ _ _ hz;obtain⟨na,nb,out,mg,ac,bc,g,rfl,rfl,j,_⟩:=hz;exact BL O H hk W j ⟨λm r g hm=>⟨g,rfl,.inl ⟨m,r,rfl,hm⟩⟩,λout na nb mg ac bc g j=>⟨⟨g,rfl,.inr ⟨_,_,_,_,_,_,rfl,j⟩⟩,⟨_,_,_,_,_,_,g,rfl,rfl,⟨j.1,j.2.1,j.2.2.1,j.2.2.2.1,j.2.2.2.2.1,by lia⟩,λ_=>by lia⟩⟩⟩;intro c e_ hz;obtain⟨na,nb,out,mg,ac,bc,g,rfl,rfl,⟨j,i1,Oj,i2,Oi,i3⟩,i4⟩:=hz;exact⟨g,rfl,.inr ⟨_,_,_,_,_,_,rfl,j,i1,Oj,i2,Oi,i4 (by lia)⟩⟩;intro c e_ hz;obtain⟨g,rfl,hz⟩:=hz;rcases hz with hz|hz;obtain⟨m,r,rfl,hm⟩:=hz;exact Zz (z1 m _ g hm);obtain⟨na,nb,out,mg,ac,bc,rfl,j⟩:=hz;dsimp only;rw[ba];exact ZH (XQ (Zz (z2 _ _ _ _ _ j)))
end
def pW(h:∀m g,Good LT (a.toList++b.toList) m.toList->Q m (ao st g)):wpS (model prog w) A E s (iO a b) Q st:=by
 have za:=W.za;have zb:=W.zb;rw[DJ];refine ZH (wpS_lift (YD ⟨rfl,?_⟩));refine ZH (aF (by lia) ?_);by_cases e1:a.size - 1=0;refine aP (Zx.mpr e1) ?_;exact Zz (h _ (gallopOf st) (W.k0.dA e1));refine aM (λq=>e1 (Zx.mp q)) ?_;by_cases e2:b.size=1;refine aP (Zx.mpr e2) ?_;exact Zz (h _ (gallopOf st) (W.k0.fB W e2));refine aM (λq=>e2 (Zx.mp q)) ?_;refine ZH (Wi ?_);refine ZH (XH (Yt (I:=λx c e_=>∃na nb out mg g,c=(M,na,nb,out,mg)/\e_=ao st g/\IH LT a b (x+1) out na nb)
  (Q:=λc e_=>∃m g r,c=(U m,r)/\e_=ao st g/\Good LT (a.toList++b.toList) m.toList) ?_ ?_ ⟨_,_,_,_,gallopOf st,rfl,rfl,W.k0,by lia,by lia,by lia,by lia,by lia⟩) ?_)
 intro x c e_ g1 g2 hz;obtain⟨na,nb,out,mg,g,rfl,rfl,j⟩:=hz;exact CH O H hk W j (λm r g hm=>⟨m,g,_,rfl,rfl,hm⟩) λout na nb mg g j=>⟨_,_,_,_,_,rfl,rfl,j⟩
 intro c e_ hz;obtain⟨na,nb,out,mg,g,rfl,rfl,j,i1,Oj,i2,Oi,i3⟩:=hz;exfalso;lia;intro c e_ hz;obtain⟨m,g,r,rfl,rfl,hm⟩:=hz;exact Zz (h m g hm)
end
end SM
namespace SM
open PySem PyProof.Rows
theorem l8(i:Nat):mergeAt' i=(do
 let s <-get
 let (some (sa,na,power),some (sb,nb,_)):=((pendingOf s)[i]?,(pendingOf s)[i+1]?)|unsupported "internal:list.sort.pending"
 set (setPending s (((pendingOf s).setIfInBounds i (sa,na+nb,power)).eraseIdxIfInBounds (i+1)))
 let some k <-cI false (<-elem' (arrOf s) sb) (arrOf s) sa na 0|return false
 let (sa,na):=(sa+k,na - k)
 if na==0 then return true
 let some nb <-cI true (<-elem' (arrOf s) (sa+na - 1)) (arrOf s) sb nb (nb - 1)|return false
 if nb==0 then return true
 let x:=(arrOf s).extract sa sb
 let y:=(arrOf s).extract sb (sb+nb)
 let merged <-if na<=nb then iF x y else iO x y
 modify λs=>setArr s (merged.toList.zipIdx.foldl (λa (p,j)=>a.setIfInBounds (sa+j) p) (arrOf s))
 return (failedOf (<-get)).isNone):=rfl
def eY(h:s+i<e):K (a.extract s e) i=K a (s+i):=by
 apply A7;rw[Array.getElem?_extract];split;rfl;rw[XJ];lia
def AB{P Lq L' S:Z9 Keyed}{q:Nat}(e:Lq.length=L'.length)(h:q<P.length\/P.length+Lq.length<=q):(P++Lq++S)[q]?=(P++L'++S)[q]?:=by
 rcases h with h|h;rw[Zc,Zc,Y2 h,Y2 h];rw[Yl (by rw[Zy];exact h),Yl (by rw[Zy,<-e];exact h),Zy,Zy,e]
def vN(m:Z9 Keyed):∀(mid pre post:Z9 Keyed)(a:Array Keyed)(o st:Nat),a.toList=pre++mid++post->pre.length=o+st->m.length=mid.length->
  ((m.zipIdx st).foldl (λa (p:Keyed×Nat)=>a.setIfInBounds (o+p.2) p.1) a).toList=pre++m++post:=by
 induction m with
 |nil=>intro mid pre post a o st h _ h3;rw[List.eq_nil_of_length_eq_zero h3.symm]at h;exact h
 |cons x m ih=>
  intro mid pre post a o st h h2 h3;cases mid with
  |nil=>cases h3
  |cons c mid=>
   rw[List.zipIdx_cons,List.foldl_cons];have:=ih mid (pre++[x]) post (a.setIfInBounds (o+st) x) o (st+1) (by
    rw[W9,h,<-h2,Zc,List.set_append_right _ _ (ZU _),Nat.sub_self];simp) (by simp;lia) (Nat.succ.inj h3)
   rw[this];simp
section
variable{prog:YX}{w:YK}{A:Za}{E:Z3->ZR->Prop}{s:ZR}{LT:Keyed->Keyed->Bool}{T:Array Keyed}{κ:SortKind}{a:Array Keyed}
def nX(u:Up LT a i j):(a.extract i j).toList.Pairwise (R LT):=by
 apply abD;intro p q _ h1 h2;rw[Array.size_extract]at h2;rw[eY (by lia),eY (by lia)];exact u _ _ (by lia) (by lia) (by lia)
def vp(O:aaJ LT)(h:a.toList=P++Lq++S)(hl:Lq.Pairwise (R LT)):Up LT a P.length (P.length+Lq.length):=λp q h1 h2 h3=>by
 have e:∀i (hi:i<Lq.length),K a (P.length+i)=Lq[i]:=λi hi=>by
  rw[eX,h,Zc,Yl (by lia),show P.length+i - P.length=i by lia,Y2 hi];simp[hi]
 obtain⟨p,rfl⟩:∃p',p=P.length+p':=⟨p - P.length,by lia⟩
 obtain⟨q,rfl⟩:∃p',q=P.length+p':=⟨q - P.length,by lia⟩
 rw[e p (by lia),e q (by lia)];by_cases c:p=q;subst c;exact O.irr _;exact Xx.mp hl p q (by lia) (by lia) (by lia)
def pX(O:aaJ LT)(H:Ans prog w A s κ LT T)(hT:a.Perm T)(hp:p.toList=l1++(sa,na,pw)::(sa+na,nb,O6)::l2)(hi:i=l1.length)(h1:1<=na)(h2:1<=nb)(hz:sa+na+nb<=T.size)(u1:Up LT a sa (sa+na))(u2:Up LT a (sa+na) (sa+na+nb))(h:∀a' p' g,a'.Perm T->(∀k,k<sa\/sa+na+nb<=k->K a' k=K a k)->Up LT a' sa (sa+(na+nb))->p'.toList=l1++(sa,na+nb,pw)::l2->Q L (SortSt.mk' κ a' p' g M)):
  wpS (model prog w) A E s (mergeAt' i) Q (SortSt.mk' κ a p g M):=by
 have ez:=hT.size_eq;have mT:∀k,k<T.size->K a k∈T:=λk hk=>hT.mem_iff.mp (zn (by lia));subst hi;have g1:p[l1.length]?=U (sa,na,pw):=by rw[<-Wq,hp];simp
 have g2:p[l1.length+1]?=U (sa+na,nb,O6):=by rw[<-Wq,hp];simp
 rw[l8];refine ZH (Wi ?_);have ea:∀p g,arrOf (SortSt.mk' κ a p g M)=a:=λ_ _=>rfl;simp only[ea];rw[g1,g2];dsimp only;have HY:((p.setIfInBounds l1.length (sa,na+nb,pw)).eraseIdxIfInBounds (l1.length+1)).toList=l1++(sa,na+nb,pw)::l2:=by
  rw[Array.toList_eraseIdxIfInBounds,W9,hp];simp[List.eraseIdx_append_of_length_le]
 generalize ((p.setIfInBounds l1.length (sa,na+nb,pw)).eraseIdxIfInBounds (l1.length+1))=p' at HY⊢;refine ZH (?_:wpS (model prog w) A E s (set _:StateT SortSt Sem PUnit) _ _);unfold wpS;rw[StateT.run_set];refine Z6 ⟨rfl,?_⟩;refine ZH (aF (by lia) ?_);refine ZH (ck (st:=SortSt.mk' κ a p' g M) O H rfl (mT _ (by lia)) (by lia) (by lia) (λj hj=>mT _ (by lia)) u1 λk k1 k2 k3=>?_);dsimp only;have whole:∀(e:∀q,q<na->LT (K a (sa+na)) (K a (sa+q))=Y),Up LT a sa (sa+(na+nb)):=λe x y a1 a2 a3=>by
  by_cases c1:y<sa+na;exact u1 x y a1 a2 c1;by_cases c2:x<sa+na;have:=e (x - sa) (by lia);rw[show sa+(x - sa)=x by lia]at this;exact O.tr _ _ _ this (u2 (sa+na) y (ZU _) (by lia) (by lia));exact u2 x y (by lia) a2 (by lia)
 by_cases c:na - k=0;refine aP (Zx.mpr c) ?_;exact Zz (h a p' g hT (λ_ _=>rfl) (whole λq hq=>by simpa only[fB,ZZ,Zm,Ys]using k2 q (by lia)) HY);refine aM (λq=>c (Zx.mp q)) ?_;have el:sa+k+(na - k) - 1=sa+na - 1:=by lia
 rw[el];refine ZH (aF (by lia) ?_);refine ZH (ck (st:=SortSt.mk' κ a p' g M) O H rfl (mT _ (by lia)) (by lia) (by lia) (λj hj=>mT _ (by lia)) u2 λIp n1 n2 n3=>?_);dsimp only;by_cases c':Ip=0;refine aP (Zx.mpr c') ?_;refine Zz (h a p' g hT (λ_ _=>rfl) (whole λq hq=>?_) HY);have:=n3 0 (by lia) (by lia);simp only[fB,Y_,Nat.add_zero]at this;exact O.tr _ _ _ (u1 (sa+q) (sa+na - 1) (by lia) (by lia) (by lia)) this;refine aM (λq=>c' (Zx.mp q)) ?_;have W:Two LT T (a.extract (sa+k) (sa+na)) (a.extract (sa+na) (sa+na+Ip)):=by
  have zx:(a.extract (sa+k) (sa+na)).size=na - k:=by rw[Array.size_extract];lia
  have zy:(a.extract (sa+na) (sa+na+Ip)).size=Ip:=by rw[Array.size_extract];lia
  refine⟨λi hi=>?_,λi hi=>?_,λx y a1 a2 a3=>?_,λx y a1 a2 a3=>?_,by lia,by lia,λj hj=>?_,λj hj=>?_⟩;rw[eY (by lia)];exact mT _ (by lia);rw[eY (by lia)];exact mT _ (by lia);rw[eY (by lia),eY (by lia)];exact u1 _ _ (by lia) (by lia) (by lia);rw[eY (by lia),eY (by lia)];exact u2 _ _ (by lia) (by lia) (by lia);rw[eY (by lia),eY (by lia)];have:=k3 (k+j) (by lia) (by lia);simp only[fB,ZZ,Zm,Bool.not_eq_false']at this;rw[show sa+k+j=sa+(k+j) by lia];exact O.aa9 _ _ this;rw[zx,eY (by lia),eY (by lia),show sa+k+(na - k - 1)=sa+na - 1 by lia];have:=n2 j (by lia);simp only[fB,Y_]at this;exact O.aa9 _ _ this
 have fin:∀(m:Array Keyed)(g':Nat),Good LT ((a.extract (sa+k) (sa+na)).toList++(a.extract (sa+na) (sa+na+Ip)).toList) m.toList->
   wpS (model prog w) A E s (do
    modify λs=>setArr s (m.toList.zipIdx.foldl (λa (p:Keyed×Nat)=>a.setIfInBounds (sa+k+p.2) p.1) (arrOf s))
    return (failedOf (<-get)).isNone) Q (SortSt.mk' κ a p' g' M):=λm g' hm=>by
  refine ZH (XQ (ZH (Wi (Zz ?_))));have dec:a.toList=a.toList.take sa++((a.extract sa (sa+k)).toList++((a.extract (sa+k) (sa+na)).toList++(a.extract (sa+na) (sa+na+Ip)).toList)++(a.extract (sa+na+Ip) (sa+na+nb)).toList)++a.toList.drop (sa+na+nb):=by
   have d1:=ce a sa k;have d2:=ce a (sa+k) (na - k);have d3:=ce a (sa+na) Ip;have d4:=ce a (sa+na+Ip) (nb - Ip);rw[show sa+k+(na - k)=sa+na by lia]at d2;rw[show sa+na+Ip+(nb - Ip)=sa+na+nb by lia]at d4;rw[d2,d3,d4]at d1;have:=(X4 sa a.toList).symm;rw[d1]at this
   conv=>lhs;rw[this]
   simp only[Zc]
  have ml:m.toList.length=((a.extract (sa+k) (sa+na)).toList++(a.extract (sa+na) (sa+na+Ip)).toList).length:=hm.pm.length_eq;have QW:a.toList=a.toList.take sa++(a.extract sa (sa+k)).toList++((a.extract (sa+k) (sa+na)).toList++(a.extract (sa+na) (sa+na+Ip)).toList)++((a.extract (sa+na+Ip) (sa+na+nb)).toList++a.toList.drop (sa+na+nb)):=by
   conv=>lhs;rw[dec]
   simp only[Zc]
  have res:=vN m.toList _ _ _ a (sa+k) 0 QW (by simp;lia) ml;have L3:(m.toList.zipIdx.foldl (λa (p:Keyed×Nat)=>a.setIfInBounds (sa+k+p.2) p.1) a).toList=a.toList.take sa++((a.extract sa (sa+k)).toList++m.toList++(a.extract (sa+na+Ip) (sa+na+nb)).toList)++a.toList.drop (sa+na+nb):=by
   rw[res];simp only[Zc]
  have pl:(a.toList.take sa).length=sa:=by simp;lia
  have len:((a.extract sa (sa+k)).toList++m.toList++(a.extract (sa+na+Ip) (sa+na+nb)).toList).length=na+nb:=by
   rw[Zy,Zy,ml];simp;lia
  refine h _ p' g' ?_ (λq hq=>?_) ?_ HY
  .refine Array.Perm.trans (Array.perm_iff_toList_perm.mpr ?_) hT
   rw[L3]
   conv=>rhs;rw[dec]
   exact((((Yy _).append hm.pm).append (Yy _)).append_left _).append_right _
  .rw[eX,eX,L3]
   conv=>rhs;rw[dec]
   congr 1;exact AB (by simp only[Zy]at ml⊢;lia) (by rw[pl,len];lia)
  have:=vp O L3 ?_;rw[pl,len]at this;exact this;have ux:∀v∈(a.extract (sa+k) (sa+na)).toList,LT (K a (sa+na - 1)) v=Y:=λv hv=>by
   obtain⟨i,i1,i2,_,rfl⟩:=aY hv;exact u1 i (sa+na - 1) (by lia) (by lia) (by lia)
  have uc:∀v∈(a.extract sa (sa+k)).toList,LT (K a (sa+na - 1)) v=Y:=λv hv=>by
   obtain⟨i,i1,i2,_,rfl⟩:=aY hv;exact u1 i (sa+na - 1) (by lia) (by lia) (by lia)
  have uz:∀z∈(a.extract (sa+na+Ip) (sa+na+nb)).toList,LT z (K a (sa+na - 1))=Y:=λz hz=>by
   obtain⟨i,i1,i2,_,rfl⟩:=aY hz;have:=n3 (i - (sa+na)) (by lia) (by lia);simpa only[fB,Y_,show sa+na+(i - (sa+na))=i by lia]using this
  rw[Yh,Yh];refine⟨⟨nX λx y a1 a2 a3=>u1 x y a1 a2 (by lia),hm.so,λu hu v hv=>?_⟩,nX λx y a1 a2 a3=>u2 x y (by lia) a2 a3,λv hv z hz=>?_⟩;obtain⟨i,i1,i2,_,rfl⟩:=aY hu;rcases Zt.mp (hm.pm.mem_iff.mp hv)with hv|hv;obtain⟨j,j1,j2,_,rfl⟩:=aY hv;exact u1 i j (by lia) (by lia) (by lia);obtain⟨j,j1,j2,_,rfl⟩:=aY hv;have:=k2 (i - sa) (by lia);simp only[fB,ZZ,Zm,Ys,show sa+(i - sa)=i by lia]at this;exact O.tr _ _ _ this (u2 (sa+na) j (ZU _) (by lia) (by lia));rcases Zt.mp hv with hv|hv;exact O.tr _ _ _ (uc v hv) (uz z hz);rcases Zt.mp (hm.pm.mem_iff.mp hv)with hv|hv;exact O.tr _ _ _ (ux v hv) (uz z hz);obtain⟨j,j1,j2,_,rfl⟩:=aY hv;obtain⟨i,i1,i2,_,rfl⟩:=aY hz;exact u2 j i (by lia) (by lia) (by lia)
 by_cases c3:na - k<=Ip;refine aP c3 ?_;exact ZH (pM (st:=SortSt.mk' κ a p' g M) O H rfl W λm g' hm=>fin m g' hm);refine aM c3 ?_;exact ZH (pW (st:=SortSt.mk' κ a p' g M) O H rfl W λm g' hm=>fin m g' hm)
end
end SM
namespace SM
open PySem PyProof.Rows
abbrev P3:=Nat×Nat×Nat
def aaM:Z9 P3->Nat->Nat->Prop
 |[],s,e=>s=e
 |q::r,s,e=>q.1=s/\1<=q.2.1/\aaM r (s+q.2.1) e
theorem aaM.le:∀{l:Z9 P3}{s e:Nat},aaM l s e->s+l.length<=e
 |[],_,_,h=>by simp only[aaM]at h;simp;lia
 |q::r,s,e,h=>by have:=h.2.2.le;have:=h.2.1;simp;lia
theorem aaM.app:∀{l m:Z9 P3}{s e:Nat},aaM (l++m) s e->∃t,aaM l s t/\aaM m t e
 |[],m,s,e,h=>⟨s,rfl,h⟩
 |q::r,m,s,e,h=>by
  obtain⟨t,a,b⟩:=h.2.2.app;exact⟨t,⟨h.1,h.2.1,a⟩,b⟩
theorem aaM.join:∀{l m:Z9 P3}{s t e:Nat},aaM l s t->aaM m t e->aaM (l++m) s e
 |[],m,s,t,e,h,h'=>by simp only[aaM]at h;subst h;exact h'
 |q::r,m,s,t,e,h,h'=>⟨h.1,h.2.1,h.2.2.join h'⟩
theorem aaM.bound:∀{l:Z9 P3}{s e:Nat},aaM l s e->∀q∈l,s<=q.1/\q.1+q.2.1<=e
 |p::r,s,e,h,q,hq=>by
  have:=h.2.2.le;rcases Z0.mp hq with rfl|hq;have:=h.1;lia;have:=h.2.2.bound q hq;lia
section
variable{LT:Keyed->Keyed->Bool}{T:Array Keyed}{a:Array Keyed}
structure Wait (LT:Keyed->Keyed->Bool)(T a:Array Keyed)(p:Array P3)(lo:Nat):Prop where
 pm:a.Perm T
 ti:aaM p.toList 0 lo
 up:∀q∈p.toList,Up LT a q.1 (q.1+q.2.1)
def Wait.merge(O:aaJ LT)(H:Ans prog w A s κ LT T){lo g i:Nat}(hz:lo<=T.size)(h:Wait LT T a p lo)(hi:i+1<p.size)(hQ:∀a' p' g,Wait LT T a' p' lo->p'.size+1=p.size->(∀k,lo<=k->K a' k=K a k)->Q L (SortSt.mk' κ a' p' g M)):wpS (model prog w) A E s (mergeAt' i) Q (SortSt.mk' κ a p g M):=by
 obtain⟨l1,l2,x,y,e,hl⟩:∃l1 l2 x y,p.toList=l1++x::y::l2/\l1.length=i:=by
  have k_:i+1<p.toList.length:=by simpa using hi
  refine⟨p.toList.take i,p.toList.drop (i+2),p.toList[i],p.toList[i+1],?_,by simp;lia⟩;rw[<-Zs k_,<-Zs (by lia),X4]
 obtain⟨sa,na,pw⟩:=x;obtain⟨sb,nb,O6⟩:=y;have ti:=h.ti;rw[e]at ti;obtain⟨t,t1,t2⟩:=ti.app;obtain⟨r1,r2,r3,r4,r5⟩:=t2;dsimp only at r1 r2 r3 r4 r5;subst r1 r3;have b1:=r5.le;have u1:=h.up (sa,na,pw) (by rw[e];simp);have u2:=h.up (sa+na,nb,O6) (by rw[e];simp);refine pX O H h.pm e hl.symm r2 r4 (by lia) u1 u2 λa' p' g hp hk hu he=>hQ a' p' g ⟨hp,?_,λq hq=>?_⟩ ?_ λk JM=>hk k (by lia);rw[he];exact t1.join ⟨rfl,by dsimp only;lia,by dsimp only;rw[<-Nat.add_assoc];exact r5⟩;rw[he]at hq;have cg:∀q∈p.toList,q.1+q.2.1<=sa\/sa+na+nb<=q.1->Up LT a' q.1 (q.1+q.2.1):=λq hq hd x y a1 a2 a3=>by
  rw[hk x (by lia),hk y (by lia)];exact h.up q hq x y a1 a2 a3
 rcases Zt.mp hq with hq|hq;exact cg q (by rw[e];exact YA _ hq) (.inl (t1.bound q hq).2);rcases Z0.mp hq with rfl|hq;exact hu;exact cg q (by rw[e];exact ZI _ (.tail _ (.tail _ hq))) (.inr (r5.bound q hq).1);have l1:=congrArg List.length he;have l2:=congrArg List.length e;simp at l1 l2;lia
theorem Wait.push{lo n z:Nat}(h:Wait LT T a p lo)(hn:1<=n)(hu:Up LT a lo (lo+n)):Wait LT T a (p.push (lo,n,z)) (lo+n):=by
 refine⟨h.pm,by rw[YE];exact h.ti.join ⟨rfl,hn,rfl⟩,λq hq=>?_⟩;rw[YE]at hq;rcases Zt.mp hq with hq|hq;exact h.up q hq;obtain rfl:=ZC.mp hq;exact hu
theorem oD(hf:∀q,(f q).1=q.1/\(f q).2.1=q.2.1):∀{l:Z9 P3}{i s e:Nat},aaM l s e->aaM (l.modify i f) s e
 |[],i,s,e,h=>by simpa using h
 |q::r,0,s,e,h=>by
  simp only[List.modify_zero_cons,aaM,(hf q).1,(hf q).2];exact h
 |q::r,i+1,s,e,h=>by
  simp only[List.modify_succ_cons];exact⟨h.1,h.2.1,oD hf h.2.2⟩
theorem gM:∀{l:Z9 P3}{i:Nat}{q:P3},q∈l.modify i f->q∈l\/∃r∈l,q=f r
 |[],i,q,h=>by simp at h
 |p::r,0,q,h=>by
  simp only[List.modify_zero_cons]at h;rcases Z0.mp h with rfl|h;exact .inr ⟨p,.head _,rfl⟩;exact .inl (.tail _ h)
 |p::r,i+1,q,h=>by
  simp only[List.modify_succ_cons]at h;rcases Z0.mp h with rfl|h;exact .inl (.head _);rcases gM h with h|⟨x,h,e⟩;exact .inl (.tail _ h);exact .inr ⟨x,.tail _ h,e⟩
def Wait.mod{lo i z:Nat}(h:Wait LT T a p lo):Wait LT T a (p.modify i λ(st,len,_)=>(st,len,z)) lo:=by
 refine⟨h.pm,by rw[Array.toList_modify];exact oD (f:=λ(st,len,_)=>(st,len,z)) (λq=>⟨rfl,rfl⟩) h.ti,λq hq=>?_⟩;rw[Array.toList_modify]at hq;rcases gM hq with hq|⟨r,hr,rfl⟩;exact h.up q hq;exact h.up r hr
def abz(O:aaJ LT)(H:Ans prog w A s κ LT T)(h2:2<=T.size)(hQ:∀a p g,a.Perm T->Up LT a 0 T.size->Q () (SortSt.mk' κ a p g M)):wpS (model prog w) A E s sortRuns' Q (SortSt.mk' κ T #[] g M):=by
 rw[sortRuns'_eq];refine ZH (Wi ?_);have ea:∀a p g,arrOf (SortSt.mk' κ a p g M)=a:=λ_ _ _=>rfl;have ep:∀a p g,pendingOf (SortSt.mk' κ a p g M)=p:=λ_ _ _=>rfl;simp only[ea];generalize minRun' T.size T.size 0=mr;refine ZH (XH (Yt (I:=λx c e_=>∃a p g lo,c=(M,lo)/\e_=SortSt.mk' κ a p g M/\Wait LT T a p lo/\lo<=T.size/\x<=lo)
  (Q:=λc e_=>∃a p g,c=(M,T.size)/\e_=SortSt.mk' κ a p g M/\Wait LT T a p T.size) ?_ ?_ ⟨T,#[],g,0,rfl,rfl,⟨Array.Perm.refl _,rfl,λq hq=>nomatch hq⟩,Zu _,ZU _⟩) ?_)
 .intro x c e_ _ hx hz;obtain⟨a,p,g,lo,rfl,rfl,hw,Jx,Ol⟩:=hz
  dsimp only;by_cases c1:lo>=T.size;rw[ZO c1];have:lo=T.size:=by lia
  exact Zz ⟨a,p,g,by rw[this],rfl,by rw[<-this];exact hw⟩;rw[ZJ c1];refine ZH (lD (st:=SortSt.mk' κ a p g M) O H rfl hw.pm (by lia) (by lia) λm a1 m1 m2 C1 U1=>?_);have wt:∀a2,Chg T a lo a2->Wait LT T a2 p lo:=λa2 C=>⟨C.perm,hw.ti,λq hq x y h1 h2 h3=>by
   have:=(hw.ti.bound q hq).2;rw[C.keep x (by lia),C.keep y (by lia)];exact hw.up q hq x y h1 h2 h3⟩
  dsimp only;by_cases c2:m<mr
  all_goals first
   |rw[ZJ c2]
   |(rw[ZO c2]
     refine ZH (wpS_lift (YD ⟨rfl,?_⟩));have C0:=C1;have n0:1<=min (T.size - lo) mr/\min (T.size - lo) mr<=T.size - lo:=by lia
     refine ZH (jj (st:=SortSt.mk' κ a1 p g M) O H rfl C1.perm (by lia) (by lia) (by lia) U1 λa1 C2 U1=>?_);have C1:Chg T a lo a1:=⟨C2.perm,λk hk=>(C2.keep k hk).trans (C0.keep k hk)⟩
     simp only[YR,ZZ,Zm];obtain⟨m1,m2⟩:=n0;generalize min (T.size - lo) mr=m at U1 m1 m2⊢)
  all_goals
   have W1:=wt a1 C1;clear wt C1;refine ZH (Wi ?_);have e0:pendingOf (setArr (SortSt.mk' κ a p g M) a1)=p:=rfl;cases hb:(pendingOf (SortSt.mk' κ a1 p g M)).back? with
   |none=>
    have Ij:p.back?=M:=hb;simp only[ep,Ij];exact ZH (XQ (Zz ⟨_,_,_,_,rfl,rfl,W1.push m1 U1,by lia,by lia⟩))
   |some q=>
    obtain⟨s1,n1,z⟩:=q;have Ij:p.back?=U (s1,n1,z):=hb;simp only[ep,Ij];generalize power' T.size (2*s1+n1) (2*s1+n1+n1+m) T.size=pw;refine ZH (XH (Yt (I:=λ_ c e_=>c=(M,())/\∃a' p' g',e_=SortSt.mk' κ a' p' g' M/\Wait LT T a' p' lo/\∀k,lo<=k->K a' k=K a1 k)
     (Q:=λc e_=>c=(M,())/\∃a' p' g',e_=SortSt.mk' κ a' p' g' M/\Wait LT T a' p' lo/\∀k,lo<=k->K a' k=K a1 k) ?_ (λ_ _ h=>h) ⟨rfl,a1,p,g,rfl,W1,λ_ _=>rfl⟩) ?_)
    intro x c e_ _ _ hz;obtain⟨rfl,a',p',g',rfl,M9,JM⟩:=hz;refine ZH (Wi ?_);simp only[ep];by_cases c:p'.size>1;rw[ZO c,getElem?_pos p' (p'.size - 2) (by lia)];generalize p'[p'.size - 2]=q;obtain⟨u1,u2,old⟩:=q;dsimp only;by_cases c2:old<=pw;rw[ZO c2];exact Zz ⟨rfl,a',p',g',rfl,M9,JM⟩;rw[ZJ c2];refine ZH (M9.merge O H (by lia) (by lia) λa2 p2 g2 Pu _ K9=>?_);exact Zz ⟨rfl,a2,p2,g2,rfl,Pu,λk hk=>(K9 k hk).trans (JM k hk)⟩;rw[ZJ c];exact Zz ⟨rfl,a',p',g',rfl,M9,JM⟩;intro c e_ hz;obtain⟨rfl,a',p',g',rfl,M9,JM⟩:=hz;have H0:Up LT a' lo (lo+m):=λx y h1 h2 h3=>by rw[JM x h1,JM y (by lia)];exact U1 x y h1 h2 h3
    exact ZH (XQ (ZH (XQ (Zz ⟨_,_,_,_,rfl,rfl,M9.mod.push m1 H0,by lia,by lia⟩))))
 intro c e_ hz;obtain⟨a,p,g,lo,rfl,rfl,hw,Jx,Ol⟩:=hz;have:lo=T.size:=by lia
 exact⟨a,p,g,by rw[this],rfl,by rw[<-this];exact hw⟩
 .intro c e_ hz;obtain⟨a,p,g,rfl,rfl,hw⟩:=hz
  dsimp only;have hl:=hw.ti.le;refine ZH (XH (Yt (I:=λx c e_=>c=(M,())/\∃a p g,e_=SortSt.mk' κ a p g M/\Wait LT T a p T.size/\p.size+x<=T.size)
   (Q:=λc e_=>c=(M,())/\∃a p g,e_=SortSt.mk' κ a p g M/\Wait LT T a p T.size/\p.size<=1) ?_ ?_ ⟨rfl,a,p,g,rfl,hw,by simp at hl;lia⟩) ?_)
  .intro x c e_ _ _ hz;obtain⟨rfl,a,p,g,rfl,hw,hx⟩:=hz
   refine ZH (Wi ?_);simp only[ep];by_cases c:p.size<=1;rw[ZO c];exact Zz ⟨rfl,a,p,g,rfl,hw,c⟩
   .rw[ZJ c]
    refine ZH (hw.merge O H (ZU _) ?_ λa2 p2 g2 Pu hs _=>?_)
    .have:∀b:Bool,(if b=L then p.size - 2 - 1 else p.size - 2)+1<p.size:=λb=>by cases b<;>simp<;>lia
     exact this _
    exact Zz ⟨rfl,a2,p2,g2,rfl,Pu,by lia⟩
  intro c e_ hz;obtain⟨rfl,a,p,g,rfl,hw,hx⟩:=hz;exact⟨rfl,a,p,g,rfl,hw,by lia⟩;intro c e_ hz;obtain⟨rfl,a,p,g,rfl,hw,hx⟩:=hz;refine Zz (hQ a p g hw.pm ?_);have ti:=hw.ti;have up:=hw.up;have I_:p.toList.length<=1:=by simpa using hx
  rcases hp:p.toList with _|⟨q,_|⟨r,l⟩⟩;rw[hp]at ti;simp only[aaM]at ti;lia;rw[hp]at ti up;obtain⟨t1,t2,t3⟩:=ti;simp only[aaM]at t3;have:=up q (.head _);rw[t1,t3]at this;exact this;rw[hp]at I_;simp at I_
end
end SM
namespace L2
open PySem PySem.Spec PyProof.Rows PySem.W
variable[Lams]
section
variable{vs:Z9 Z3}
def vR{n:Nat}{P:PySem.Fin->ZR->Prop}{κ:SortKind}{LT:Z3->Z3->Bool}(ho:s.heap.get? a=U (seqObj "list" vs.toArray n))(hz:vs.length<=sizeLine)(O:SM.aaJ λx y=>LT x.1 y.1)
  (hk:2<=vs.length->∀h',(∀b o,b≠a->s.heap.get? b=U o->h'.get? b=U o)->∀Q:SortKind->ZR->Prop,Q κ {s with heap:=h'}->wpAny (model prog w) A (keyKind' vs.toArray) Q (λ_ _=>False) {s with heap:=h'})
  (j_:2<=vs.length->∀h',(∀b o,b≠a->s.heap.get? b=U o->h'.get? b=U o)->∀(u v:Z3)(C:Bool->ZR->Prop),u∈vs->v∈vs->C (LT u v) {s with heap:=h'}->wpAny (model prog w) A (keyLt' κ u v) C (λ_ _=>False) {s with heap:=h'})
  (h:∀us:Z9 Z3,us.Perm vs->us.Pairwise (λu v=>LT v u=Y)->∀h' c,(∀b o,b≠a->s.heap.get? b=U o->h'.get? b=U o)->h'.get? a=U (seqObj "list" us.toArray c)->P (.done (.ret .none)) {s with heap:=h'}):
  wpAny (model prog w) A (Builtin.«list.sort» ⟨[.ref a],[]⟩) P E s:=by
 have ha:a<s.z:=ZQ ho;rw[list_sort_plain];refine Z_ (Wb ho rfl (Z_ (Xd ho rfl ?_ (by rw[ZT];exact hz) (Zu _))));obtain⟨e1,g1⟩:∃e1,(s.heap.update a (Obj.mapSeq λ_=>(#[]:Array Z3))).get? a=U (seqObj "list" #[] e1):=⟨_,WB ho λ_=>#[]⟩
 refine Z_ (seqEpoch_at g1 rfl (Z_ (Wf ?_ hz)));refine Z_ (wpAny_newList ?_ (Zu _));refine Y6 ?_;have keep:∀b o,b≠a->s.heap.get? b=U o->(((s.heap.update a (Obj.mapSeq λ_=>(#[]:Array Z3))).push (seqObj "tuple" vs.toArray 0)).push (seqObj "list" #[] 0)).get? b=U o:=λb o hb e=>
  Z4 _ (Z4 _ ((Zo s.heap _ (ZA hb)).trans e))
 have g3:(((s.heap.update a (Obj.mapSeq λ_=>(#[]:Array Z3))).push (seqObj "tuple" vs.toArray 0)).push (seqObj "list" #[] 0)).get? a=U (seqObj "list" #[] e1):=Z4 _ (Z4 _ g1);show wpAny (model prog w) A _ P E {s with heap:=((s.heap.update a (Obj.mapSeq λ_=>(#[]:Array Z3))).push (seqObj "tuple" vs.toArray 0)).push (seqObj "list" #[] 0)};generalize hH:(((s.heap.update a (Obj.mapSeq λ_=>(#[]:Array Z3))).push (seqObj "tuple" vs.toArray 0)).push (seqObj "list" #[] 0))=H1 at*;dsimp only;have fin:∀st:SortSt,((arrOf st).map (·.2)).toList.Perm vs->((arrOf st).map (·.2)).toList.Pairwise (λu v=>LT v u=Y)->failedOf st=M->
   wpAny (model prog w) A (do
    let touched:=(<-seqEpoch a) != e1
    Builtin.List.listUpdate (.ref a) λ_=>(arrOf st).map (·.2)
    if let some e:=failedOf st then rule "list.sort.comparison-raised";throw e
    if touched then rule "list.sort.modified";raiseError "ValueError" "list modified during sort"
    ret .none) P E {s with heap:=H1}:=λst hp hs hf=>by
  rw[hf];refine Z_ (seqEpoch_at g3 rfl (Z_ (Xd g3 rfl ?_ (Zu _) ?_)));simp only[bne_self_eq_false,ZZ,Zm];obtain⟨c,g4⟩:∃c,(H1.update a (Obj.mapSeq λ_=>(arrOf st).map (·.2))).get? a=U (seqObj "list" ((arrOf st).map (·.2)) c):=⟨_,WB g3 λ_=>(arrOf st).map (·.2)⟩
  exact Z6 (h _ hp hs _ c (λb o hb e=>(Zo H1 _ (ZA hb)).trans (keep b o hb e)) (by rw[Array.toArray_toList];exact g4));have:=hp.length_eq;rw[Array.length_toList]at this;lia
 have zs:∀l:Z9 Z3,(l.toArray.zip l.toArray).map (·.2)=l.toArray:=λl=>by
  rw[show l.toArray.zip l.toArray=(l.zip l).toArray by simp];simp[List.map_snd_zip]
 by_cases h2:vs.toArray.size<2;rw[ZO h2,ZO h2];refine Z_ (Z6 ?_);rw[StateT.run_pure];refine Z_ (Z6 ?_);rw[ZT]at h2;have e0:(arrOf (SortSt.mk' general' (vs.toArray.zip vs.toArray) #[] 7 M)).map (·.2)=vs.toArray:=zs vs;refine fin (SortSt.mk' general' (vs.toArray.zip vs.toArray) #[] 7 M) (by rw[e0]) ?_ rfl;rw[e0];show vs.Pairwise _;clear fin j_ hk h ho keep hH g3 g1 e0;rcases vs with _|⟨v,_|⟨v',r⟩⟩;exact .nil;exact List.pairwise_singleton _ _;exact absurd h2 (by simp);rw[ZJ h2,ZJ h2];rw[ZT]at h2;refine Z_ (YL (hk (by lia) H1 keep _ ?_) (λ_ _ q=>q) λ_ _ x=>x.elim);have mz:∀x∈vs.toArray.zip vs.toArray,x.1=x.2/\x.1∈vs:=λx hx=>mem_zip_self (by simpa using hx)
 have sz:(vs.toArray.zip vs.toArray).size=vs.length:=by simp
 have run:=SM.abz (prog:=prog) (w:=w) (A:=A) (E:=E) (s:={s with heap:=H1}) (κ:=κ) (T:=vs.toArray.zip vs.toArray) (g:=7) (LT:=λx y=>LT x.1 y.1) O
  (λx hx y hy C hC=>j_ (by lia) H1 keep x.1 y.1 C (mz x hx).2 (mz y hy).2 hC) (by lia)
  (Q:=λ_ st=>((arrOf st).map (·.2)).toList.Perm vs/\((arrOf st).map (·.2)).toList.Pairwise (λu v=>LT v u=Y)/\failedOf st=M) (λb p g hp hu=>by
   have he:∀x∈b,x.1=x.2:=λx hx=>(mz x (hp.mem_iff.mp hx)).1;refine⟨?_,?_,rfl⟩;show(b.map (·.2)).toList.Perm vs;have:=(Array.perm_iff_toList_perm.mp hp).map (·.2);rw[<-Array.toList_map,<-Array.toList_map,zs]at this;exact this;show(b.map (·.2)).toList.Pairwise _;rw[Array.toList_map,XF];have bz:b.size=vs.length:=by rw[hp.size_eq,sz]
   rw[sz,<-bz]at hu;refine(SM.abD hu).imp_of_mem λ{x y} hx hy q=>?_;rw[<-he x (by simpa using hx),<-he y (by simpa using hy)];exact q)
 refine Z_ (YL run ?_ λ_ _ e=>e)
 rintro⟨⟨⟩,e_⟩ s' ⟨rfl,hp,hs,hf⟩
 exact fin e_ hp hs hf
end
noncomputable def bX(lt:D->D->Z7 Bool):Z9 D->Z9 D->Z7 Bool
 |[],[]=>U Y
 |[],_::_=>U L
 |_::_,[]=>U Y
 |x::xs,y::ys=>if x=y then bX lt xs ys else lt x y
noncomputable def ltD:Nat->D->D->Z7 Bool
 |_,.int i,.int j=>U (decide (i<j))
 |_,.str x,.str y=>U (decide (x.cps.toList<y.cps.toList))
 |n+1,.tup xs,.tup ys=>bX (ltD n) xs ys
 |n+1,.lst xs,.lst ys=>bX (ltD n) xs ys
 |_,_,_=>M
def uJ{x y:Str}(h:x.cps.toList=y.cps.toList):x=y:=by
 obtain⟨a⟩:=x;obtain⟨b⟩:=y;simp only at h;rw[Array.toList_inj.mp h]
section
variable{lt:D->D->Z7 Bool}
theorem mD(h:∀x y z,lt x y=U L->lt y z=U L->lt x z=U L)(hi:∀x y,lt x y=U L->lt y x≠U L):∀xs ys zs,bX lt xs ys=U L->bX lt ys zs=U L->bX lt xs zs=U L
 |[],[],_,a,_=>by simp[bX]at a
 |[],_::_,[],_,b=>by simp[bX]at b
 |[],_::_,_::_,_,_=>by simp[bX]
 |_::_,[],_,a,_=>by simp[bX]at a
 |_::_,_::_,[],_,b=>by simp[bX]at b
 |x::xs,y::ys,z::zs,a,b=>by
  simp only[bX]at a b⊢;by_cases e1:x=y;subst e1;rw[ZO rfl]at a;by_cases e2:x=z;subst e2;rw[ZO rfl]at b⊢;exact mD h hi xs ys zs a b;rw[ZJ e2]at b⊢;exact b;rw[ZJ e1]at a;by_cases e2:y=z;subst e2;rw[ZJ e1];exact a;rw[ZJ e2]at b;by_cases e3:x=z;subst e3;exact absurd b (hi _ _ a);rw[ZJ e3];exact h _ _ _ a b
theorem lM(hi:∀x y,lt x y=U L->lt y x≠U L):∀xs ys,bX lt xs ys=U L->bX lt ys xs≠U L
 |[],[],a=>by simp[bX]at a
 |[],_::_,_=>by simp[bX]
 |_::_,[],a=>by simp[bX]at a
 |x::xs,y::ys,a=>by
  simp only[bX]at a⊢;by_cases e1:x=y;subst e1;rw[ZO rfl]at a⊢;exact lM hi xs ys a;rw[ZJ e1]at a;rw[ZJ (ZA e1)];exact hi _ _ a
theorem iD(h:∀x y,lt x y=U Y->x=y\/lt y x=U L):∀xs ys,bX lt xs ys=U Y->xs=ys\/bX lt ys xs=U L
 |[],[],_=>.inl rfl
 |[],_::_,a=>by simp[bX]at a
 |_::_,[],_=>.inr (by simp[bX])
 |x::xs,y::ys,a=>by
  simp only[bX]at a⊢;by_cases e1:x=y;subst e1;rw[ZO rfl]at a⊢;rcases iD h xs ys a with q|q;exact .inl (by rw[q]);exact .inr q;rw[ZJ e1]at a;rcases h x y a with q|q;exact absurd q e1;rw[ZJ (ZA e1)];exact .inr q
end
def km:∀(n:Nat)(x y:D),ltD n x y=U L->ltD n y x≠U L:=by
 intro n
 induction n with
 |zero=>
  intro x y h;cases x<;>cases y<;>simp only[ltD,ZF,Zf,reduceCtorEq]at h<;>simp only[ltD,ne_eq,ZF,Zf];lia;exact List.lt_asymm h
 |succ n ih=>
  intro x y h;cases x<;>cases y<;>simp only[ltD,ZF,Zf,reduceCtorEq]at h<;>simp only[ltD,ne_eq,ZF,Zf];lia;exact List.lt_asymm h;exact lM ih _ _ h;exact lM ih _ _ h
def CM:∀(n:Nat)(x y z:D),ltD n x y=U L->ltD n y z=U L->ltD n x z=U L:=by
 intro n
 induction n with
 |zero=>
  intro x y z h h';cases x<;>cases y<;>simp only[ltD,ZF,Zf,reduceCtorEq]at h<;>cases z<;>simp only[ltD,ZF,Zf,reduceCtorEq]at h'<;>simp only[ltD,ZF,Zf];lia;exact List.lt_trans h h'
 |succ n ih=>
  intro x y z h h';cases x<;>cases y<;>simp only[ltD,ZF,Zf,reduceCtorEq]at h<;>cases z<;>simp only[ltD,ZF,Zf,reduceCtorEq]at h'<;>simp only[ltD,ZF,Zf];lia;exact List.lt_trans h h';exact mD ih (km n) _ _ _ h h';exact mD ih (km n) _ _ _ h h'
set_option tactic.hygienic true in
def mA:∀(n:Nat)(x y:D),ltD n x y=U Y->x=y\/ltD n y x=U L:=by
 intro n
 induction n with
 |zero=>
  intro x y h;cases x<;>cases y<;>simp only[ltD,ZF,Xo,reduceCtorEq]at h<;>simp only[ltD,ZF,Zf,D.int.injEq,D.str.injEq];lia;rename_i x y;by_cases q:y.cps.toList<x.cps.toList;exact .inr q;exact .inl (uJ (List.le_antisymm (List.not_lt.mp q) (List.not_lt.mp h)))
 |succ n ih=>
  intro x y h;cases x<;>cases y<;>simp only[ltD,ZF,Xo,reduceCtorEq]at h<;>simp only[ltD,ZF,Zf,D.int.injEq,D.str.injEq,D.tup.injEq,D.lst.injEq];lia;rename_i x y;by_cases q:y.cps.toList<x.cps.toList;exact .inr q;exact .inl (uJ (List.le_antisymm (List.not_lt.mp q) (List.not_lt.mp h)));exact iD ih _ _ h;exact iD ih _ _ h
def abl(A:Za)(s:ZR)(y x:Z3)(b:Bool):Prop:=
 ∀(prog:YX)(w:YK)(E:Z3->ZR->Prop)(Q:Z3->ZR->Prop),Q (.bool b) s->wpAny (model prog w) A (richCompare .Lt y x) Q E s
inductive aaK (A:Za)(s:ZR):List Z3->List Z3->Bool->Prop
 |none:aaK A s [] [] false
 |less {w:Z3}{ws:List Z3}:aaK A s [] (w::ws) true
 |more {v:Z3}{vs:List Z3}:aaK A s (v::vs) [] false
 |eq {v w:Z3}{vs ws:List Z3}{b:Bool}:SeqAt.EqAt A s v w true->aaK A s vs ws b->aaK A s (v::vs) (w::ws) b
 |ne {v w:Z3}{vs ws:List Z3}{b:Bool}:SeqAt.EqAt A s v w false->abl A s v w b->aaK A s (v::vs) (w::ws) b
section
open PySem.SeqAt
open PySem.AutoSeq1 (wpAny_loadPart')
open PySem.MeetsSeq PySem.MeetsSeq2 PySem.MeetsSeq3
def uo(l b:ZM)(items d_:Array Z3)(n n2:Nat)(dd Ik:Z7 ZM)(sl Ic:Array (Z7 Z3))(r:Bool):
  Meets (Builtin.«tuple.__lt__» ⟨[.ref l,.ref b],[]⟩)
   (λA R s=>s.heap.get? l=U {cls:=.type "tuple",dict:=dd,data:=.seq items n,slots:=sl}/\s.heap.get? b=U {cls:=.type "tuple",dict:=Ik,data:=.seq d_ n2,slots:=Ic}/\
    aaK A.in1 s items.toList d_.toList r/\R (.ok (.ret (.bool r))) s):=
 .of_wp λprog w A R s h=>by
  obtain⟨hp,g,d,tk,os⟩:=s;obtain⟨hl,hb,hx,h⟩:=h;have f2:=Wr
  wp_walk using wpAny_loadPart' hl,wpAny_loadPart' hb,X2 _ (λar b s'=>b.1=M/\s'=⟨hp,g,d,tk,os⟩/\∃(vs ws:Z9 Z3),ar=vs.zip ws/\
   aaK A.in1 ⟨hp,g,d,tk,os⟩ vs ws r/\vs.length+d_.size=ws.length+items.size) _
  case turn=>
   rintro⟨y,x⟩ ar b s' ⟨Ij,rfl,vs,ws,hz,Mf,hlen⟩
   cases Mf with
   |none=>rw[List.zip_nil_left]at hz;trivial
   |less=>rw[List.zip_nil_left]at hz;trivial
   |more=>rw[List.zip_nil_right]at hz;trivial
   |eq he ht=>
    rw[List.zip_cons_cons]at hz;injection hz with M8 IV;injection M8 with hy I_;subst hy I_;simp only[bO]at hlen;refine Z_ (he prog w _ _ ?_)
    wp_walk
    exact⟨rfl,rfl,_,_,IV,ht,by lia⟩
   |ne he j_=>
    rw[List.zip_cons_cons]at hz;injection hz with M8 IV;injection M8 with hy I_;subst hy I_;refine Z_ (he prog w _ _ ?_);have PF:=j_ prog w
    wp_walk using PF
    exact⟨_,rfl,by simpa using h⟩
  case fin=>
   rintro⟨b1,b2⟩ s' ⟨Ij,rfl,vs,ws,hz,Mf,hlen⟩
   simp only at Ij;subst Ij;have hv:r=decide (items.size<d_.size):=by
    cases Mf with
    |none=>simp only[gC]at hlen;exact(ZE (by lia)).symm
    |less=>simp only[gC,bO]at hlen;exact(Zw (by lia)).symm
    |more=>simp only[gC,bO]at hlen;exact(ZE (by lia)).symm
    |eq _ _=>rw[List.zip_cons_cons]at hz;trivial
    |ne _ _=>rw[List.zip_cons_cons]at hz;trivial
   rw[hv]at h
   wp_walk
   exact⟨_,rfl,by simpa[Builtin.Tuple.tupleCompareSizes]using h⟩
  case h=>exact⟨rfl,rfl,items.toList,d_.toList,rfl,hx,by simp only[Array.length_toList];lia⟩
end
def abl.tuples(hl:s.heap.IsTuple l items)(hb:s.heap.IsTuple b d_)(hu:A.units<cLine)(hx:aaK A.in1 s items.toList d_.toList r):abl A s (.ref l) (.ref b) r:=λprog w E Q h=>by
 obtain⟨⟨cls,dd,data,sl⟩,ho,hc,n,hd⟩:=id hl;obtain⟨⟨Lm,Ik,data2,Ic⟩,IC,Ir,n2,hd2⟩:=id hb;simp only at hc hd Ir hd2;subst hc hd Ir hd2;exact Wo (op:=.Lt) ⟨_,ho,rfl⟩ ⟨_,IC,rfl⟩ PySem.F.slot_tuple_lt PySem.F.entry_tuple_lt (PySem.F.args_tuple_lt_2 _ _) (uo l b items d_ n n2 dd Ik sl Ic r)
  ⟨ho,IC,hx,show Value.bool r≠Value.notImplemented/\Q (.bool r) s from⟨(λx=>nomatch x),h⟩⟩ hu
section
open PySem.SeqAt
open PySem.AutoSeq1 (wpAny_loadPart')
open PySem.MeetsSeq PySem.MeetsSeq2 PySem.MeetsSeq3
def uU(l b:ZM)(items d_:Array Z3)(n n2:Nat)(dd Ik:Z7 ZM)(sl Ic:Array (Z7 Z3))(r:Bool)(k:Nat):
  ∀i:Nat,i<=items.size->i<=d_.size->items.size - i=k->Meets (Builtin.«list.__eq__.loop» ⟨[.ref l,.ref b,rawInt i,rawInt 0],[]⟩)
   (λA R s=>s.heap.get? l=U {cls:=.type "list",dict:=dd,data:=.seq items n,slots:=sl}/\s.heap.get? b=U {cls:=.type "list",dict:=Ik,data:=.seq d_ n2,slots:=Ic}/\
    aaK A.in1 s (items.toList.drop i) (d_.toList.drop i) r/\R (.ok (.ret (.bool r))) s):=by
 induction k with
 |zero=>
  intro i hi hj hk prog w A R s h;obtain⟨hp,g,d,tk,os⟩:=s;obtain⟨hl,hb,hx,h⟩:=h
  wp_walk using wpAny_loadPart' hl,wpAny_loadPart' hb
  have LP:items[((i:Nat):Int).toNat]?=M:=by simp;lia
  have e1:items.toList.drop i=[]:=WH (by rw[Array.length_toList];lia);rw[e1]at hx;have hr:r=decide (items.size<d_.size):=by
   generalize e2:d_.toList.drop i=ws at hx;have hz:=congrArg List.length e2;rw[List.length_drop,Array.length_toList]at hz;cases hx with
   |none=>simp at hz;exact(ZE (by lia)).symm
   |less=>simp at hz;exact(Zw (by lia)).symm
  rw[LP]
  wp_walk using wpAny_loadPart' hl,wpAny_loadPart' hb
  show R (.ok (.ret (.bool (decide (items.size<d_.size))))) _;rw[<-hr];exact h
 |succ k ih=>
  intro i hi hj hk prog w A R s h;obtain⟨hp,g,d,tk,os⟩:=s;obtain⟨hl,hb,hx,h⟩:=h
  wp_walk using wpAny_loadPart' hl,wpAny_loadPart' hb
  have j_:i<items.size:=by lia
  have LP:items[((i:Nat):Int).toNat]?=U items[i]:=by simp[j_]
  have d1:items.toList.drop i=items[i]::items.toList.drop (i+1):=by rw[Zs (by simpa using j_)];simp
  have hc:((i:Int)+1)=((i+1:Nat):Int):=by push_cast;rfl
  rw[d1]at hx;by_cases NK:i<d_.size
  .have JO:d_[((i:Nat):Int).toNat]?=U d_[i]:=by simp[NK]
   have d2:d_.toList.drop i=d_[i]::d_.toList.drop (i+1):=by rw[Zs (by simpa using NK)];simp
   rw[d2]at hx;rw[LP,JO];cases hx with
   |eq he ht=>
    refine Z_ (he prog w _ _ ?_)
    wp_walk
    rw[hc];exact⟨Yp plain_eq_loop _,YQ entry_eq_loop (by
     rw[Y9 plain_eq_loop _];exact ih (i+1) (by lia) (by lia) (by lia) prog w A R _ ⟨hl,hb,ht,h⟩)⟩
   |ne he ht=>
    refine Z_ (he prog w _ _ ?_);have PF:=ht prog w
    wp_walk using wpAny_loadPart' hl,wpAny_loadPart' hb
    rw[LP,JO]
    wp_walk using PF
    exact h
  .have JO:d_[((i:Nat):Int).toNat]?=M:=by simp;lia
   have e2:d_.toList.drop i=[]:=WH (by rw[Array.length_toList];lia);rw[e2]at hx;cases hx;rw[LP,JO]
   wp_walk using wpAny_loadPart' hl,wpAny_loadPart' hb
   show R (.ok (.ret (.bool (decide (items.size<d_.size))))) _;rw[ZE (by lia)];exact h
def nh(l b:ZM)(items d_:Array Z3)(n n2:Nat)(dd Ik:Z7 ZM)(sl Ic:Array (Z7 Z3))(r:Bool):
  Meets (Builtin.«list.__lt__» ⟨[.ref l,.ref b],[]⟩)
   (λA R s=>s.heap.get? l=U {cls:=.type "list",dict:=dd,data:=.seq items n,slots:=sl}/\s.heap.get? b=U {cls:=.type "list",dict:=Ik,data:=.seq d_ n2,slots:=Ic}/\
    aaK A.in1 s items.toList d_.toList r/\R (.ok (.ret (.bool r))) s):=by
 intro prog w A R s h;obtain⟨hp,g,d,tk,os⟩:=s;obtain⟨hl,hb,hx,h⟩:=h;have f3:=AutoSeq1.sub_list_list
 wp_walk using wpAny_loadPart' hl,wpAny_loadPart' hb
 exact⟨Yp plain_eq_loop _,YQ entry_eq_loop (by
  rw[Y9 plain_eq_loop _];exact uU l b items d_ n n2 dd Ik sl Ic r _ 0 (Zu _) (Zu _) rfl prog w A R _ ⟨hl,hb,hx,h⟩)⟩
end
def abl.lists(hl:s.heap.IsList l items)(hb:s.heap.IsList b d_)(hu:A.units<cLine)(hx:aaK A.in1 s items.toList d_.toList r):abl A s (.ref l) (.ref b) r:=λprog w E Q h=>by
 obtain⟨⟨cls,dd,data,sl⟩,ho,hc,n,hd⟩:=id hl;obtain⟨⟨Lm,Ik,data2,Ic⟩,IC,Ir,n2,hd2⟩:=id hb;simp only at hc hd Ir hd2;subst hc hd Ir hd2;exact Wo (op:=.Lt) ⟨_,ho,rfl⟩ ⟨_,IC,rfl⟩ Wp PySem.F.entry_list_lt (PySem.F.args_list_lt_2 _ _) (nh l b items d_ n n2 dd Ik sl Ic r)
  ⟨ho,IC,hx,show Value.bool r≠Value.notImplemented/\Q (.bool r) s from⟨(λx=>nomatch x),h⟩⟩ hu
def qE(hl:s.heap.IsList l items)(hb:s.heap.IsList b d_)(hu:A.units<cLine)(hx:aaK A.in1 s items.toList d_.toList r)(h:Q r s):
  wpAny (model prog w) A (oneLt' L (.ref l) (.ref b)) Q E s:=by
 obtain⟨⟨cls,dd,data,sl⟩,ho,hc,n,hd⟩:=id hl;obtain⟨⟨Lm,Ik,data2,Ic⟩,IC,Ir,n2,hd2⟩:=id hb;simp only at hc hd Ir hd2;subst hc hd Ir hd2;rw[oneLt'_eq];simp only[Y_];refine Z_ (wpAny_cRoomFor hu ?_);refine Z_ (wpAny_callSpecialIfBound?_slot ⟨_,ho,rfl⟩ Wp (Wn Wp ⟨_,ho,rfl⟩ PySem.F.entry_list_lt (PySem.F.args_list_lt_2 _ _) (nh l b items d_ n n2 dd Ik sl Ic r) ⟨ho,IC,hx,?_⟩));exact Xy h
section
theorem pj(I:Inv X pins σ H s)(hA:A.units+n+1<cLine)(ih:∀(d e:D)(x y:V)(u w:Z3)(r:Bool),okD n d=L->okD n e=L->Rep X.K B H d x->Rep X.K B' H e y->RelV x u->RelV y w->ltD n d e=U r->abl A s u w r):
  ∀(ds es:Z9 D)(xs ys:Z9 V)(us ws:Z9 Z3)(r:Bool),ds.all (okD n)=L->es.all (okD n)=L->M1 X.K B H ds xs->M1 X.K B' H es ys->aab xs us->aab ys ws->bX (ltD n) ds es=U r->aaK A s us ws r
 |[],[],xs,ys,us,ws,r,hd,he,r1,r2,v1,v2,h=>by
  simp only[M1]at r1 r2;subst r1 r2;cases v1;cases v2;simp only[bX,ZF]at h;subst h;exact .none
 |[],e::es,xs,ys,us,ws,r,hd,he,r1,r2,v1,v2,h=>by
  simp only[M1]at r1 r2;subst r1;obtain⟨y,t,rfl,_,_⟩:=r2;cases v1;cases v2;simp only[bX,ZF]at h;subst h;exact .less
 |d::ds,[],xs,ys,us,ws,r,hd,he,r1,r2,v1,v2,h=>by
  simp only[M1]at r1 r2;subst r2;obtain⟨y,t,rfl,_,_⟩:=r1;cases v1;cases v2;simp only[bX,ZF]at h;subst h;exact .more
 |d::ds,e::es,xs,ys,us,ws,r,hd,he,r1,r2,v1,v2,h=>by
  simp only[M1]at r1 r2;obtain⟨x,xt,rfl,M5,O2⟩:=r1;obtain⟨y,yt,rfl,M3,O1⟩:=r2;cases v1 with
  |cons va vb=>
   cases v2 with
   |cons wa wb=>
    rw[mq,ZK]at hd he;have q:=(A2 I n d e x y _ _ A hd.1 he.1 hA M5 M3 va wa).2.1;simp only[bX]at h;by_cases c:d=e;rw[ZO c]at h;rw[Zw c]at q;exact .eq q (pj I hA ih ds es xt yt _ _ r hd.2 he.2 O2 O1 vb wb h);rw[ZJ c]at h;rw[ZE c]at q;exact .ne q (ih d e x y _ _ r hd.1 he.1 M5 M3 va wa h)
def D4(I:Inv X pins σ H s):∀(n:Nat)(d e:D)(x y:V)(u w:Z3)(r:Bool)(A:Za),okD n d=L->okD n e=L->A.units+n+1<cLine->Rep X.K B H d x->Rep X.K B' H e y->RelV x u->RelV y w->ltD n d e=U r->abl A s u w r:=by
 intro n;have flat:∀(d e:D)(x y:V)(u w:Z3)(r:Bool)(A:Za),Rep X.K B H d x->Rep X.K B' H e y->RelV x u->RelV y w->ltD 0 d e=U r->abl A s u w r:=λd e x y u w r A rd re rx ry h=>by
  cases d with
  |int i=>
   cases e with
   |int j=>
    simp only[Rep]at rd re;subst rd re;obtain⟨t,rfl⟩:=rx;obtain⟨t',rfl⟩:=ry;simp only[ltD,ZF]at h;subst h;exact λprog w E Q hq=>HT.ab4 A s i t j t' prog w E Q hq
   |_=>simp[ltD]at h
  |str i=>
   cases e with
   |str j=>
    simp only[Rep]at rd re;subst rd re;obtain⟨t,rfl⟩:=rx;obtain⟨t',rfl⟩:=ry;simp only[ltD,ZF]at h;subst h;exact λprog w E Q hq=>(lt_str hq:wpAny (model prog w) A (compareOp .Lt (.str i t) (.str j t')) Q E s)
   |_=>simp[ltD]at h
  |_=>simp[ltD]at h
 induction n with
 |zero=>exact λd e x y u w r A _ _ _ rd re rx ry h=>flat d e x y u w r A rd re rx ry h
 |succ n ih=>
  intro d e x y u w r A hd he hA rd re rx ry h;cases d with
  |tup ds=>
   cases e with
   |tup es=>
    simp only[Rep]at rd re;obtain⟨a,xs,rfl,hq,r1⟩:=rd;obtain⟨b,ys,rfl,JK,r2⟩:=re;cases rx;cases ry;obtain⟨its,v1,t1,_⟩:=I.tuple (SqT.of hq);obtain⟨ka,v2,t2,_⟩:=I.tuple (SqT.of JK);simp only[okD]at hd he;simp only[ltD]at h;have Jy:A.in1.units+n+1<cLine:=by show A.units+1+n+1<cLine;lia
    exact abl.tuples t1 t2 (by lia) (by simpa using pj I Jy (λd e x y u w r o1 o2 r1 r2 v1 v2 hl=>ih d e x y u w r A.in1 o1 o2 Jy r1 r2 v1 v2 hl) ds es xs ys its ka r hd he r1 r2 v1 v2 h)
   |_=>simp[ltD]at h
  |lst ds=>
   cases e with
   |lst es=>
    simp only[Rep]at rd re;obtain⟨a,xs,rfl,hq,r1⟩:=rd;obtain⟨b,ys,rfl,JK,r2⟩:=re;cases rx;cases ry;obtain⟨its,v1,t1,_⟩:=I.list hq.sq;obtain⟨ka,v2,t2,_⟩:=I.list JK.sq;simp only[okD]at hd he;simp only[ltD]at h;have Jy:A.in1.units+n+1<cLine:=by show A.units+1+n+1<cLine;lia
    exact abl.lists t1.isList t2.isList (by lia) (by simpa using pj I Jy (λd e x y u w r o1 o2 r1 r2 v1 v2 hl=>ih d e x y u w r A.in1 o1 o2 Jy r1 r2 v1 v2 hl) ds es xs ys its ka r hd he r1 r2 v1 v2 h)
   |_=>simp[ltD]at h
  |int i=>cases e<;>first|(simp[ltD]at h;done)|exact flat _ _ x y u w r A rd re rx ry (by simpa only[ltD]using h)
  |str i=>cases e<;>first|(simp[ltD]at h;done)|exact flat _ _ x y u w r A rd re rx ry (by simpa only[ltD]using h)
  |_=>simp[ltD]at h
end
def leD(x y:D):Prop:=ltD 15 y x≠U L
def mi(x:D):Z9 D->Z9 D
 |[]=>[x]
 |y::ys=>if ltD 15 y x=U L then y::mi x ys else x::y::ys
def b7(ds:Z9 D):Z9 D:=ds.foldr mi []
def cG(ds:Z9 D):Bool:=ds.all λx=>okD 15 x&&ds.all λy=>(ltD 15 x y).isSome
def d6(h:cG ds=L)(hx:x∈ds)(hy:y∈ds):∃b,ltD 15 x y=U b:=by
 unfold cG at h;have h1:=ZW.mp h x hx;rw[ZK]at h1;exact Option.isSome_iff_exists.mp (ZW.mp h1.2 y hy)
def eB(h:cG ds=L)(hx:x∈ds):okD 15 x=L:=by
 unfold cG at h;have h1:=ZW.mp h x hx;rw[ZK]at h1;exact h1.1
theorem fG(x:D):∀l:Z9 D,(mi x l).Perm (x::l)
 |[]=>Yy _
 |y::ys=>by
  unfold mi;split
  .exact((fG x ys).cons y).trans (List.Perm.swap x y ys)
  exact Yy _
theorem aD:∀ds:Z9 D,(b7 ds).Perm ds
 |[]=>Yy _
 |d::ds=>by
  show(mi d (b7 ds)).Perm (d::ds);exact(fG d _).trans ((aD ds).cons d)
def xB(h:cG ds=L)(hx:x∈ds)(hy:y∈ds)(hz:z∈ds)(a:leD x y)(b:leD y z):leD x z:=by
 unfold leD at*;intro c;obtain⟨r1,e1⟩:=d6 h hy hx;obtain⟨r2,e2⟩:=d6 h hz hy;cases r1 with
 |true=>exact a e1
 |false=>
  cases r2 with
  |true=>exact b e2
  |false=>
   rcases mA 15 _ _ e1 with q1|q1;subst q1;exact b c;rcases mA 15 _ _ e2 with q2|q2;subst q2;exact a c;exact km 15 _ _ (CM 15 _ _ _ q1 q2) c
def BB(h:cG ds=L)(hx:x∈ds)(hy:y∈ds)(a:leD x y)(b:leD y x):x=y:=by
 unfold leD at*;obtain⟨r1,e1⟩:=d6 h hx hy;cases r1 with
 |true=>exact absurd e1 b
 |false=>
  rcases mA 15 _ _ e1 with q|q;exact q;exact absurd q a
theorem f8(h:cG ds=L)(hx:x∈ds):∀l:Z9 D,(∀y∈l,y∈ds)->l.Pairwise leD->(mi x l).Pairwise leD
 |[],_,_=>by simp[mi]
 |y::ys,hm,hp=>by
  unfold mi;obtain⟨h1,h2⟩:=XN.mp hp;have hy:=hm y ZX;split;rename_i c;refine XN.mpr ⟨λz hz=>?_,f8 h hx ys (λz hz=>hm z (Z1 _ hz)) h2⟩;rcases Z0.mp ((fG x ys).mem_iff.mp hz)with q|q;subst q;exact km 15 _ _ c;exact h1 z q;rename_i c;refine XN.mpr ⟨λz hz=>?_,hp⟩;rcases Z0.mp hz with q|q;subst q;exact c;exact xB h hx hy (hm z hz) c (h1 z q)
def bx(h:cG ds=L):(b7 ds).Pairwise leD:=by
 have key:∀l:Z9 D,(∀y∈l,y∈ds)->(b7 l).Pairwise leD:=by
  intro l
  induction l with
  |nil=>intro _;exact List.Pairwise.nil
  |cons y l ih=>
   intro hm;exact f8 h (hm y ZX) _ (λz hz=>hm z (Z1 _ ((aD l).mem_iff.mp hz))) (ih λz hz=>hm z (Z1 _ hz))
 exact key ds λ_ h=>h
theorem c8(h:cG ds=L):∀(l1 l2:Z9 D),(∀y∈l1,y∈ds)->l1.Perm l2->l1.Pairwise leD->l2.Pairwise leD->l1=l2
 |[],l2,_,hp,_,_=>(List.nil_perm.mp hp).symm
 |a::l1,[],_,hp,_,_=>(List.perm_nil.mp hp)
 |a::l1,b::l2,hm,hp,h1,h2=>by
  obtain⟨p1,q1⟩:=XN.mp h1;obtain⟨p2,q2⟩:=XN.mp h2;have Nc:∀y∈b::l2,y∈ds:=λy hy=>hm y (hp.mem_iff.mpr hy);have ab:a=b:=by
   have ha:a∈b::l2:=hp.mem_iff.mp ZX;have hb:b∈a::l1:=hp.mem_iff.mpr ZX;rcases Z0.mp ha with z|z;exact z;rcases Z0.mp hb with y|y;exact y.symm;exact BB h (hm a ZX) (Nc b ZX) (p1 b y) (p2 a z)
  subst ab;rw[c8 h l1 l2 (λy hy=>hm y (Z1 _ hy)) (List.perm_cons a |>.mp hp) q1 q2]
inductive KD|st|it|ts|tt|ls
def de:KD->D->Bool
 |.st,.str _=>L
 |.it,.int _=>L
 |.ts,.tup (.str _::_)=>L
 |.tt,.tup (.tup _::_)=>L
 |.ls,.lst _=>L
 |_,_=>Y
def mt(h:de .ts d=L):∃x ds,d=.tup (.str x::ds):=by
 unfold de at h;split at h;trivial;trivial;exact⟨_,_,rfl⟩;trivial;trivial;trivial
def ma(h:de .tt d=L):∃x ds,d=.tup (.tup x::ds):=by
 unfold de at h;split at h;trivial;trivial;trivial;exact⟨_,_,rfl⟩;trivial;trivial
def yZ:KD->SortKind
 |.st=>oneType'
 |.it=>oneType'
 |.ts=>tuples' L
 |.tt=>tuples' Y
 |.ls=>oneType'
section
def gY:∀{vs ws:Z9 Z3}{i:Nat},aaK A s vs ws r->(b=Y\/1<=i)->(fin=decide (vs.length<ws.length))->Q r s->KatLex prog w A b fin Q (vs.zip ws) i s:=by
 intro vs ws i h
 induction h generalizing i with
 |none=>
  intro hb hf q;subst hf;exact kat_nil (by simpa using q)
 |less=>
  intro hb hf q;rw[List.zip_nil_left];subst hf;exact kat_nil (by simpa using q)
 |more=>
  intro hb hf q;rw[List.zip_nil_right];subst hf;exact kat_nil (by simpa using q)
 |eq he ht ih=>
  intro hb hf q;rw[List.zip_cons_cons];refine kat_cons (he prog w _ _ (kat_yes ?_));exact ih (.inr (by lia)) (by rw[hf];simp) q
 |ne he hl=>
  intro hb hf q;rw[List.zip_cons_cons];refine kat_cons (he prog w _ _ (kat_no ?_));have hz:(b&&i==0)=Y:=by
   rcases hb with z|z;rw[z,Bool.false_and];have:(i==0)=Y:=by simp;lia
   rw[this,XC]
  rw[hz];exact kat_one _ _ (hl prog w _ _ q)
end
section
def Cv(I:Inv X pins σ H s)(hA:A.units+20<cLine)(hd:okD 15 d=L)(he:okD 15 e=L)(kd:de c d=L)(ke:de c e=L)(rd:Rep X.K B H d x)(re:Rep X.K B' H e y)(rx:RelV x u)(ry:RelV y w')(h:ltD 15 d e=U r)(q:C r s):wpAny (model X.prog X.w) A (keyLt' (yZ c) u w') C (λ_ _=>False) s:=by
 cases c with
 |st=>
  cases d<;>simp only[de,ZZ]at kd;cases e<;>simp only[de,ZZ]at ke;simp only[Rep]at rd re;subst rd re;obtain⟨t,rfl⟩:=rx;obtain⟨t',rfl⟩:=ry;simp only[ltD,ZF]at h;subst h;show wpAny _ _ (keyLt' oneType' _ _) _ _ _;rw[keyLt'_oneType];exact oneLt_str q
 |it=>
  cases d<;>simp only[de,ZZ]at kd;cases e<;>simp only[de,ZZ]at ke;simp only[Rep]at rd re;subst rd re;obtain⟨t,rfl⟩:=rx;obtain⟨t',rfl⟩:=ry;simp only[ltD,ZF]at h;subst h;show wpAny _ _ (keyLt' oneType' _ _) _ _ _;rw[keyLt'_oneType];exact oneLt_int q
 |ts=>
  obtain⟨i,ds,rfl⟩:=mt kd;obtain⟨j,es,rfl⟩:=mt ke;simp only[Rep]at rd re;obtain⟨a,xs,rfl,hq,r1⟩:=rd;obtain⟨b,ys,rfl,JK,r2⟩:=re;cases rx;cases ry;obtain⟨its,v1,⟨o1,g1,c1,n1,d1⟩,_⟩:=I.tuple (SqT.of hq);obtain⟨ka,v2,⟨o2,g2,c2,n2,d2⟩,_⟩:=I.tuple (SqT.of JK);refine kat_lt g1 d1 g2 d2 ?_;simp only[M1]at r1 r2;obtain⟨x,xt,rfl,M5,O2⟩:=r1;obtain⟨y,yt,rfl,M3,O1⟩:=r2;simp only[Rep]at M5 M3;subst M5 M3;simp only[okD,mq,ZK]at hd he;simp only[ltD,bX,D.str.injEq]at h;cases v1 with
  |cons va vb=>
   cases v2 with
   |cons wa wb=>
    obtain⟨t,rfl⟩:=va;obtain⟨t',rfl⟩:=wa;show KatLex _ _ _ _ _ _ ((Value.str i t::_).zip (Value.str j t'::_)) 0 s;rw[List.zip_cons_cons];by_cases Qn:i=j;subst Qn;rw[ZO rfl]at h;have q1:=SeqAt.EqAt.str_str (A:=A) (s:=s) i t i t';rw[Yo]at q1;refine kat_cons (q1 _ _ _ _ (kat_yes ?_));have lx:=pj (B:=B) (B':=B') I (n:=14) (A:=A) (by lia) (λd e x y u w r o1 o2 r1 r2 v1 v2 hl=>D4 I 14 d e x y u w r A o1 o2 (by lia) r1 r2 v1 v2 hl) ds es xt yt _ _ r
     hd.2 he.2 O2 O1 vb wb h
    exact gY lx (.inr (ZU _)) (by simp) q;rw[ZJ Qn]at h;have q1:=SeqAt.EqAt.str_str (A:=A) (s:=s) i t j t';have eb:(i==j)=Y:=by simpa using Qn
    rw[eb]at q1;refine kat_cons (q1 _ _ _ _ (kat_no ?_));simp only[ZF]at h;subst h;exact oneLt_str q
 |tt=>
  obtain⟨i,ds,rfl⟩:=ma kd;obtain⟨j,es,rfl⟩:=ma ke;have Ie:=rd;have VZ:=re;simp only[Rep]at rd re;obtain⟨a,xs,rfl,hq,r1⟩:=rd;obtain⟨b,ys,rfl,JK,r2⟩:=re;cases rx;cases ry;obtain⟨its,v1,⟨o1,g1,c1,n1,d1⟩,_⟩:=I.tuple (SqT.of hq);obtain⟨ka,v2,⟨o2,g2,c2,n2,d2⟩,_⟩:=I.tuple (SqT.of JK);refine kat_lt g1 d1 g2 d2 ?_;have x_:(D.tup i::ds).all (okD 14)=L:=by simpa only[okD]using hd
  have K_:(D.tup j::es).all (okD 14)=L:=by simpa only[okD]using he
  simp only[ltD]at h;have lx:=pj (B:=B) (B':=B') I (n:=14) (A:=A) (by lia) (λd e x y u w r o1 o2 r1 r2 v1 v2 hl=>D4 I 14 d e x y u w r A o1 o2 (by lia) r1 r2 v1 v2 hl) _ _ xs ys _ _ r x_ K_ (by simpa only[M1]using r1) (by simpa only[M1]using r2) v1 v2 h;exact gY lx (.inl rfl) (by simp) q
 |ls=>
  cases d<;>simp only[de,ZZ]at kd;cases e<;>simp only[de,ZZ]at ke;simp only[Rep]at rd re;obtain⟨a,xs,rfl,hq,r1⟩:=rd;obtain⟨b,ys,rfl,JK,r2⟩:=re;cases rx;cases ry;obtain⟨its,v1,t1,_⟩:=I.list hq.sq;obtain⟨ka,v2,t2,_⟩:=I.list JK.sq;simp only[okD]at hd he;simp only[ltD]at h;have Jy:A.in1.units+14+1<cLine:=by show A.units+1+14+1<cLine;lia
  show wpAny _ _ (keyLt' oneType' _ _) _ _ _;rw[keyLt'_oneType];exact qE t1.isList t2.isList (by lia) (by simpa using pj I Jy (λd e x y u w r o1 o2 r1 r2 v1 v2 hl=>D4 I 14 d e x y u w r A.in1 o1 o2 Jy r1 r2 v1 v2 hl) _ _ xs ys its ka r hd he r1 r2 v1 v2 h) q
def vj(I:Inv X pins σ H s)(h2:2<=us.length)(hk:ds.all (de c)=L)(r:M1 X.K B H ds xs)(v:aab xs us)(q:Q (yZ c) s):
  wpAny (model X.prog X.w) A (keyKind' us.toArray) Q (λ_ _=>False) s:=by
 have each:∀u∈us,∃d x,de c d=L/\Rep X.K B H d x/\RelV x u:=λu hu=>by
  obtain⟨j,hj⟩:=XY hu;have hl:=v.length;have j_:j<xs.length:=by rw[hl];exact(ZP.mp hj).1
  obtain⟨u',H0,ru⟩:=v.get (i:=j) (x:=xs[j]) (by simp[j_]);rw[hj]at H0;obtain rfl:=Z8 H0;obtain⟨d,hd,rd⟩:=r.get' (i:=j) (x:=xs[j]) (by simp[j_]);exact⟨d,xs[j],ZW.mp hk d (Zg hd),rd,ru⟩
 cases c with
 |st=>
  refine kas_kind (T:=.type "str") h2 (λu hu=>?_) (by decide) (by decide) q;obtain⟨d,x,k1,rd,ru⟩:=each u hu;cases d<;>simp only[de,ZZ]at k1;simp only[Rep]at rd;subst rd;obtain⟨t,rfl⟩:=ru;exact .now
 |it=>
  refine kas_kind (T:=.type "int") h2 (λu hu=>?_) (by decide) (by decide) q;obtain⟨d,x,k1,rd,ru⟩:=each u hu;cases d<;>simp only[de,ZZ]at k1;simp only[Rep]at rd;subst rd;obtain⟨t,rfl⟩:=ru;exact .now
 |ls=>
  refine kas_kind (T:=.type "list") h2 (λu hu=>?_) (by decide) (by decide) q;obtain⟨d,x,k1,rd,ru⟩:=each u hu;cases d<;>simp only[de,ZZ]at k1;simp only[Rep]at rd;obtain⟨a,xs,rfl,hq,r1⟩:=rd;cases ru;obtain⟨its,v1,t1,_⟩:=I.list hq.sq;obtain⟨o,ho,hc,_⟩:=t1.isList;have:=(show Looks (model X.prog X.w) s.heap (typeOf (.ref a)) o.cls from(Looks.ld ho).andThen .now)
  rw[hc]at this;exact this
 |ts=>
  have mk:∀(ds:Z9 D)(xs:Z9 V)(us:Z9 Z3),ds.all (de .ts)=L->M1 X.K B H ds xs->aab xs us->∃fs,KatTups s.heap us fs/\fs.length=us.length/\∀f∈fs,∃z t,f=.str z t:=by
   intro ds
   induction ds with
   |nil=>intro xs us _ r v;simp only[M1]at r;subst r;cases v;exact⟨[],.nil,rfl,λ_ h=>by cases h⟩
   |cons d ds ih=>
    intro xs us hk r v;simp only[M1]at r;obtain⟨x,xt,rfl,ra,rb⟩:=r;cases v with
    |cons va vb=>
     rw[mq,ZK]at hk;obtain⟨fs,f1,f2,f3⟩:=ih xt _ hk.2 rb vb;obtain⟨z,es,rfl⟩:=mt hk.1;simp only[Rep]at ra;obtain⟨a,ys,rfl,hq,rs⟩:=ra;cases va;obtain⟨its,v1,⟨o1,g1,c1,n1,d1⟩,_⟩:=I.tuple (SqT.of hq);simp only[M1]at rs;obtain⟨y,yt,rfl,ry,_⟩:=rs;simp only[Rep]at ry;subst ry;cases v1 with
     |cons w1 w2=>
      obtain⟨t,rfl⟩:=w1;exact⟨.str z t::fs,.cons g1 c1 d1 (by simp) f1,by simp[f2],λf hf=>by
       rcases Z0.mp hf with q|q;exact⟨z,t,q⟩;exact f3 f q⟩
  obtain⟨fs,f1,f2,f3⟩:=mk ds xs us hk r v;refine kat_kind (T:=.type "str") f1 (by lia) (λf hf=>?_) (by decide) q;obtain⟨z,t,rfl⟩:=f3 f hf;exact .now
 |tt=>
  have mk:∀(ds:Z9 D)(xs:Z9 V)(us:Z9 Z3),ds.all (de .tt)=L->M1 X.K B H ds xs->aab xs us->∃fs,KatTups s.heap us fs/\fs.length=us.length/\∀f∈fs,∃b o,f=.ref b/\s.heap.get? b=U o/\o.cls=.type "tuple":=by
   intro ds
   induction ds with
   |nil=>intro xs us _ r v;simp only[M1]at r;subst r;cases v;exact⟨[],.nil,rfl,λ_ h=>by cases h⟩
   |cons d ds ih=>
    intro xs us hk r v;simp only[M1]at r;obtain⟨x,xt,rfl,ra,rb⟩:=r;cases v with
    |cons va vb=>
     rw[mq,ZK]at hk;obtain⟨fs,f1,f2,f3⟩:=ih xt _ hk.2 rb vb;obtain⟨z,es,rfl⟩:=ma hk.1;simp only[Rep]at ra;obtain⟨a,ys,rfl,hq,rs⟩:=ra;cases va;obtain⟨its,v1,⟨o1,g1,c1,n1,d1⟩,_⟩:=I.tuple (SqT.of hq);simp only[M1]at rs;obtain⟨y,yt,rfl,ry,_⟩:=rs;simp only[Rep]at ry;obtain⟨b,zs,rfl,Ui,_⟩:=ry;cases v1 with
     |cons w1 w2=>
      cases w1;obtain⟨_,_,⟨o2,g2,c2,_⟩,_⟩:=I.tuple (SqT.of Ui);exact⟨.ref b::fs,.cons g1 c1 d1 (by simp) f1,by simp[f2],λf hf=>by
       rcases Z0.mp hf with q|q;exact⟨b,o2,q,g2,c2⟩;exact f3 f q⟩
  obtain⟨fs,f1,f2,f3⟩:=mk ds xs us hk r v;refine kat_kind (T:=.type "tuple") f1 (by lia) (λf hf=>?_) (by decide) q;obtain⟨b,o,rfl,g,hc⟩:=f3 f hf;rw[<-hc];exact(Looks.ld g).andThen .now
end
def DC(h:cG ds=L){f:Z3->D}(hf:ds≠[]->∀u,f u∈ds)(h0:ds=[]->∀u,f u=.non):SM.aaJ λx y=>decide (ltD 15 (f x.1) (f y.1)=U L):=by
 by_cases hn:ds=[];have e:=h0 hn;exact⟨λi j q=>by simp only[e,ltD]at q;simp at q,λi j k _ _=>by simp[e,ltD]⟩;exact⟨λi j q=>ZE (km 15 _ _ (Zj q)),λi j k a b=>ZE (xB h (hf hn _) (hf hn _) (hf hn _) (X6 a) (X6 b))⟩
section
variable{X:Cx}
def Bc(I:Inv X pins σ H s)(r:M1 X.K B H ds ys)(v:aab ys us)(hc:cG ds=L):
  ∃f:Z3->D,(ds≠[]->∀u,f u∈ds)/\(ds=[]->∀u,f u=.non)/\us.map f=ds/\∀u∈us,∃y,Rep X.K B H (f u) y/\RelV y u:=by
 refine⟨λu=>open Classical in if h:∃d,d∈ds/\∃y,Rep X.K B H d y/\RelV y u then h.choose else ds.headD .non,λhn u=>?_,λhn u=>?_,?_⟩;dsimp only;split;rename_i h;exact h.choose_spec.1;cases ds with
 |nil=>exact absurd rfl hn
 |cons d ds=>exact .head _
 subst hn;dsimp only;split;rename_i h;exact nomatch h.choose_spec.1;rfl;have key:∀i,i<us.length->∃d y u,ds[i]?=U d/\us[i]?=U u/\Rep X.K B H d y/\RelV y u:=λi hi=>by
  have l1:=r.length;have l2:=v.length;have k_:i<ds.length:=by lia
  obtain⟨x,hx,rx⟩:=r.get (i:=i) (d:=ds[i]) (by simp[k_]);obtain⟨u,hu,ru⟩:=v.get hx;exact⟨ds[i],x,u,by simp[k_],hu,rx,ru⟩
 have val:∀d y u,d∈ds->Rep X.K B H d y->RelV y u->(open Classical in if h:∃d,d∈ds/\∃y,Rep X.K B H d y/\RelV y u then h.choose else ds.headD .non)=d:=λd y u hd hr hv=>by
  rw[dif_pos ⟨d,hd,y,hr,hv⟩];have h:∃d,d∈ds/\∃y,Rep X.K B H d y/\RelV y u:=⟨d,hd,y,hr,hv⟩;obtain⟨h1,y',h2,h3⟩:=h.choose_spec;cases RelV.inj h3 hv;exact Rep.inj I (eB hc h1) (eB hc hd) h2 hr
 constructor;refine WY λi=>?_;rw[YY];by_cases hi:i<us.length;obtain⟨d,y,u,h1,h2,h3,h4⟩:=key i hi;rw[h1,h2,Option.map_some,val d y u (Zg h1) h3 h4];have l1:=r.length;have l2:=v.length;rw[YI (by lia),YI (by lia)];rfl;intro u hu;obtain⟨i,hi⟩:=XY hu;obtain⟨d,y,u',h1,h2,h3,h4⟩:=key i (ZP.mp hi).1;cases hi.symm.trans h2;exact⟨y,by dsimp only;rw[val d y u (Zg h1) h3 h4];exact h3,h4⟩
theorem sv:∀{us:Z9 Z3},(∀u∈us,∃y,Rep X.K B H (f u) y/\RelV y u)->∃zs,M1 X.K B H (us.map f) zs/\aab zs us
 |[],_=>⟨[],M1.nil,.nil⟩
 |u::us,h=>by
  obtain⟨y,r,v⟩:=h u (.head _);obtain⟨zs,rs,vs⟩:=sv (us:=us) λu hu=>h u (.tail _ hu);exact⟨y::zs,M1.cons r rs,.cons v vs⟩
end
section
variable{X:Cx}{m:Bool}{a b:Expr}
def fQ(hu:X.A.units+64<cLine)(I:Inv X pins σ H s)(k1:∀b o,s.heap.get? b=U o->h1.get? b=U o)(hsz:s.z<=h1.objs.size)(r:M1 X.K B H ds ys)(v:aab ys us)(hz:us.length<=sizeLine)(hc:cG ds=L)(hk:(decide (ds.length<2)||ds.all (de c))=L)(q:∀l zs,H l=M->M1 X.K B H (b7 ds) zs->Q (.ref l) (upd H l (.lst zs))):
  wpAny (model X.prog X.w) X.A.in1 (do
   let l <-newList us
   let _ <-holding [l] (call (.builtin "list.sort") [l] [])
   ret l) (λfin s'=>∃w,fin=.done (.ret w)/\EP X pins σ Q w s') X.xe {s with heap:=h1,toks:=t1}:=by
 obtain⟨f,f1,f0,f2,f3⟩:=Bc I r v hc;have JM:2<=us.length->ds.all (de c)=L:=λh=>by
  rw[Bool.or_eq_true]at hk;rcases hk with hk|hk;have:=Zj hk;have l1:=r.length;have l2:=v.length;lia;exact hk
 refine Z_ (wpAny_newList ?_ hz);have g0:(h1.push (seqObj "list" us.toArray 0)).get? h1.objs.size=U (seqObj "list" us.toArray 0):=ZN _ rfl;have k2:∀b o,s.heap.get? b=U o->b≠h1.objs.size/\(h1.push (seqObj "list" us.toArray 0)).get? b=U o:=λb o e=>⟨Zv (ZQ (k1 b o e)),Z4 _ (k1 b o e)⟩
 refine Z_ (Y6 (YW slot_list_sort ⟨_,g0,rfl⟩ entry_list_sort ?_ (args_list_sort _)));have hA:X.A.in1.in1.units+20<cLine:=by show X.A.units+1+1+20<cLine;lia
 refine vR (s:={s with heap:=h1.push (seqObj "list" us.toArray 0),toks:=t1}) (vs:=us) (κ:=yZ c) (LT:=λu v=>decide (ltD 15 (f u) (f v)=U L)) g0 hz (DC hc f1 f0) (λh2 h' kp Q' q'=>?_) (λh2 h' kp u u' C hu H0 hC=>?_) (λOP hp hs h' cc kp g=>?_);have I1:Inv X pins σ H {s with heap:=h',toks:=t1}:=I.kept λb o e=>kp b o (k2 b o e).1 (k2 b o e).2;exact vj I1 h2 (JM h2) r v q';have I1:Inv X pins σ H {s with heap:=h',toks:=t1}:=I.kept λb o e=>kp b o (k2 b o e).1 (k2 b o e).2;obtain⟨x,rx,vx⟩:=f3 u hu;obtain⟨y,ry,vy⟩:=f3 u' H0;have m1:f u∈ds:=by rw[<-f2];exact XT hu
 have m2:f u'∈ds:=by rw[<-f2];exact XT H0
 obtain⟨rr,er⟩:=d6 hc m1 m2;refine Cv I1 hA (eB hc m1) (eB hc m2) (ZW.mp (JM h2) _ m1) (ZW.mp (JM h2) _ m2) rx ry vx vy er ?_;simp only[er]at hC;cases rr with
 |true=>simpa using hC
 |false=>simpa using hC
 have es:OP.map f=b7 ds:=by
  have perm:(OP.map f).Perm ds:=by rw[<-f2];exact hp.map f
  refine c8 hc _ _ (λy hy=>perm.mem_iff.mp hy) (perm.trans (aD ds).symm) ?_ (bx hc);rw[XF];exact hs.imp λq=>X6 q
 obtain⟨zs,rz,vz⟩:=sv (us:=OP) λu hu=>f3 u (hp.mem_iff.mp hu);rw[es]at rz;have hlen:zs.length<=sizeLine:=by rw[vz.length,hp.length_eq];exact hz
 have Kc:H h1.objs.size=M:=I.hok.fresh hsz;refine⟨_,rfl,Z6 ⟨_,rfl,.ref h1.objs.size,_,I.laid (a:=h1.objs.size) (o:=.lst zs) (h':=h') (t':=t1) (λb o e=>kp b o (k2 b o e).1 (k2 b o e).2) hsz ?_,rfl,q _ _ Kc rz⟩⟩;exact⟨hlen,_,cc,vz,g⟩
def lH(hu:X.A.units+64<cLine):ff X (.builtin "sorted") (λxs H Q=>∃B p ds ys,xs=[.ref p]/\SqL X.K H p ys/\M1 X.K B H ds ys/\cG ds=L/\(decide (ds.length<2)||ds.all (de c))=L/\
  ∀l zs,H l=M->M1 X.K B H (b7 ds) zs->Q (.ref l) (upd H l (.lst zs))):=by
 intro pins s σ H xs us Q I r h;obtain⟨B,p,ds,ys,rfl,hq,rs,hc,hk,q⟩:=h;obtain⟨u,rfl,rx⟩:=gE r;cases rx;obtain⟨its,rv,pl,hz⟩:=I.list hq;have l1:=rs.length;have l2:=rv.length;refine Calls.call_function_entry kind_sorted plain_sorted entry_sorted (args_sorted1 _) ?_;unfold Builtin.«sorted»;refine Z_ (m:=checkCount "sorted" 1 1 _) (Z6 (Z_ (collect_list pl.isList ?_ (by lia))));have hsz:((s.heap.push (seqObj "list" #[] 0)).update s.z (Obj.mapSeq (· ++its.toArray))).objs.size=s.z+1:=by
  rw[Xr,size_push']
 refine fQ (t1:=s.toks) hu I (λb o e=>?_) (by rw[hsz];lia) rs rv (by lia) hc hk q;exact(Zo _ _ (Nat.ne_of_gt (ZQ e))).trans (Z4 _ e)
noncomputable def jx(c:KD)(x:Z7 D):Z7 D:=match x with|some (.lst ds)=>if(cG ds&&(decide (ds.length<2)||ds.all (de c)))=L then U (.lst (b7 ds)) else M|_=>M
def nV(h2:cG ds=L)(h3:ds.length<2\/ds.all (de c)=L):jx c (U (.lst ds))=U (.lst (b7 ds)):=by
 unfold jx;have:(cG ds&&(decide (ds.length<2)||ds.all (de c)))=L:=by rcases h3 with h3|h3<;>simp[h2,h3]
 simp only[this,Y_]
theorem sK(hu:X.A.units+64<cLine)(g:Gl X "sorted")(hm:X.mg "sorted"=M)(ha:DE X Y a fa)(hs:starEach [a] X.env=[(Y,eval a X.env)]:=by rfl):DF X (.Call (.Name "sorted" p) [a] [] pos) (λδ=>jx c (fa δ)):=
 (dS (lH (c:=c) hu) g hm gy (ay ha aN hs) (he:=hs)).imp λσ H Q hz=>by
  obtain⟨B,Hk,δ,d,R,e,k⟩:=hz;unfold jx at e;dsimp only at e;split at e;rename_i ds qd;by_cases cc:(cG ds&&(decide (ds.length<2)||ds.all (de c)))=L;rw[ZO cc]at e;obtain rfl:=Z8 e;rw[ZK]at cc;obtain⟨c2,c3⟩:=cc;refine pG R qd λv H' s R' r=>?_;simp only[Rep]at r;obtain⟨l,xs,rfl,hq,rs⟩:=r;refine⟨_,l,ds,xs,rfl,hq.sq,rs,c2,c3,λl' zs hl rz=>?_⟩;have s2:=au (o:=.lst zs) hl;exact k l' _ (s.trans s2) (s.free hl) ⟨_,ah,rz.same (m:=Y) R' s2⟩;rw[ZJ cc]at e;trivial;trivial
end
def dm:entryFor table "dict.update.loop"=U Builtin.«dict.update.loop»:=entryFor_of_tree (by kernel_rfl)
def bv:plainId "dict.update.loop"=L:=by decide +kernel
def uM:typeLookup (.type "list") "keys"=pure M:=by rw[W8,XA];kernel_rfl
def AV(hx:s.heap.get? a=U o)(hc:o.cls=.type "list")(o_:o.data=.seq xs k)(hd:o.dict=M)(hA:A.handled=M)(h:∀h' tk,(∀b o,s.heap.get? b=U o->h'.get? b=U o)->Q M {s with heap:=h',toks:=tk}):wpAny (model prog w) A (getAttr? (.ref a) "keys") Q E s:=by
 obtain⟨c,dct,dat,sl⟩:=o;simp only at hc o_ hd;subst hc o_ hd;obtain⟨hp,g,d,tk,os⟩:=s;have hT:∀Lo,(⟨hp,g,d,Lo,os⟩:ZR).TypeIs (.ref a) "list":=λ_=>⟨_,hx,rfl⟩
 have f1:=sub_AttributeError;have f3:=Ws.lookup;have f4:=Ws.bind (.ref a);have f5:=am_list_getattr_none;unfold getAttr? getAttrBy? getAttrBy
 repeat (any_goals (first|assumption|exact hT _|((with_reducible show wpAny _ _ (call (Value.builtin "list.__getattribute__") _ _) _ _ _);refine Wn Ws (hT _) am_entry_list_getattribute (F.args_list_getattribute_2 _ _) (meets_getattribute_miss_list a xs k sl _ _ uM (by decide) (by decide)) ⟨hx,hA,λh' Lo e I_=>?_⟩)|wp_step))
 obtain⟨t',u',he⟩:=I_.there;show wpAny _ _ (getattributeRaised _ _ _ _ _ _ _) _ _ _;unfold getattributeRaised
 repeat (any_goals (first|assumption|wp_step))
 exact h _ _ I_.keeps
section
end
section
end
def gZ:D->Z7 Key
 |.int i=>U (.inl i)
 |.str x=>U (.inr x)
 |_=>M
section
end
def du:Z9 D->Z7 (Z9 Str)
 |[]=>U []
 |.str i::ds=>(match du ds with|some l=>U (i::l)|none=>M)
 |_=>M
def rG(ns:Z9 Str):du (ns.map D.str)=U ns:=by
 induction ns with
 |nil=>rfl
 |cons n ns ih=>simp only[Z2,du,ih]
theorem hZ:∀{ds:Z9 D}{ns:Z9 Str},du ds=U ns->ds=ns.map D.str
 |[],ns,h=>by simp only[du,ZF]at h;subst h;rfl
 |.str i::ds,ns,h=>by
  simp only[du]at h;cases q:du ds with
  |none=>rw[q]at h;trivial
  |some l=>
   rw[q]at h;simp only[ZF]at h;subst h;rw[Z2,hZ q]
 |.non::ds,ns,h=>by simp[du]at h
 |.bl _::ds,ns,h=>by simp[du]at h
 |.int _::ds,ns,h=>by simp[du]at h
 |.tup _::ds,ns,h=>by simp[du]at h
 |.lst _::ds,ns,h=>by simp[du]at h
 |.dK _ _::ds,ns,h=>by simp[du]at h
 |.dD _ _::ds,ns,h=>by simp[du]at h
theorem M1.strs{K:Z5}{B:ZM->Prop}{H:Hp}:∀{ns:Z9 Str}{xs:Z9 V},M1 K B H (ns.map D.str) xs->xs=ns.map V.str
 |[],xs,h=>by simpa only[YO,M1]using h
 |n::ns,xs,h=>by
  simp only[Z2,M1]at h;obtain⟨x,r,rfl,h1,h2⟩:=h;simp only[Rep]at h1;rw[Z2,h1,M1.strs h2]
def pH:∀{us:Z9 Z3},aab (ns.map V.str) us->StrsAre us ns:=by
 induction ns with
 |nil=>intro us r;rw[YO]at r;cases r;exact .nil
 |cons n ns ih=>
  intro us r;rw[Z2]at r;cases r with
  |cons r1 r2=>
   obtain⟨t,e⟩:=r1;subst e;exact .cons n t (ih r2)
section
variable{X:Cx}{m:Bool}{a b:Expr}{fa fb:Mk->Z7 D}{pos p:Pos}
def yR:MtM X "str.join" (λx vs H Q=>∃(z:Str)(p:ZM)(ys:Z9 Str),x=.str z/\vs=[.ref p]/\SqL X.K H p (ys.map V.str)/\(ys.map (·.length)).sum+ys.length*z.length<=16777216/\Q (.str (Txt.join z ys)) H):=by
 intro pins s σ H x vs v us Q I rx rv h;obtain⟨z,p,ys,rfl,rfl,hq,hl,q⟩:=h;obtain⟨t,rfl⟩:=rx;obtain⟨u,rfl,ru⟩:=rv.one;cases ru;obtain⟨its,r,pl,hz⟩:=I.list hq;exact join_list pl.isList (by simpa using pH r) hl λt' k=>⟨.str _,H,I.tok k,⟨t',rfl⟩,q⟩
noncomputable def qV(x y:Z7 D):Z7 D:=match x,y with|some (.str z),some (.lst ds)=>(match du ds with|some ys=>if(ys.map (·.length)).sum+ys.length*z.length<=16777216 then U (.str (Txt.join z ys)) else M|none=>M)|_,_=>M
set_option tactic.hygienic true in
theorem Av(ha:DE X m a fa)(hb:DE X m' b fb)(mc:Mc X.env a "join" b [] apos i_):DE X mm (.Call (.Attribute a "join" apos) [b] [] i_) (λδ=>qV (fa δ) (fb δ)):=
 (qx PySem.F.plainAttrs_str PySem.F.slot_str_join PySem.F.type_str_join yR ha (ay hb aN mc.s) mc).imp λσ H Q hz=>by
  obtain⟨B,Hk,δ,d,R,e,k⟩:=hz;unfold qV at e;dsimp only at e;split at e;rename_i z ds q1 q2;split at e;rename_i ys qs;obtain rfl:=hZ qs;by_cases c:(ys.map (·.length)).sum+ys.length*z.length<=16777216;rw[ZO c]at e;obtain rfl:=Z8 e;refine⟨B,Hk,δ,_,R,q1,λv H1 s1 r1=>?_⟩;simp only[Rep]at r1;subst r1;refine⟨rfl,pG (R.to s1) q2 λw H2 s2 R2 r2=>?_⟩;simp only[Rep]at r2;obtain⟨l,xs,rfl,hq,rs⟩:=r2;obtain rfl:=rs.strs;exact⟨z,l,ys,rfl,rfl,hq.sq,c,k _ H2 (s1.trans s2) (by simp only[Rep])⟩;rw[ZJ c]at e;trivial;trivial;trivial
def Ax:MtM X "str.find" (λx vs H Q=>∃(z y:Str),x=.str z/\vs=[.str y]/\Q (.int (Txt.find z y)) H):=by
 intro pins s σ H x vs v us Q I rx rv h;obtain⟨z,y,rfl,rfl,q⟩:=h;obtain⟨t,rfl⟩:=rx;obtain⟨u,rfl,ru⟩:=rv.one;obtain⟨t',rfl⟩:=ru;exact SC.find ⟨.int _,H,I.tok _,⟨_,rfl⟩,q⟩
def vY(x y:Z7 D):Z7 D:=match x,y with|some (.str z),some (.str w)=>U (.int (Txt.find z w))|_,_=>M
set_option tactic.hygienic true in
theorem Al(ha:DE X m a fa)(hb:DE X m' b fb)(mc:Mc X.env a "find" b [] apos i_):DE X mm (.Call (.Attribute a "find" apos) [b] [] i_) (λδ=>vY (fa δ) (fb δ)):=
 (qx PySem.F.plainAttrs_str PySem.F.slot_str_find PySem.F.type_str_find Ax ha (ay hb aN mc.s) mc).imp λσ H Q hz=>by
  obtain⟨B,Hk,δ,d,R,e,k⟩:=hz;unfold vY at e;dsimp only at e;split at e;rename_i z y q1 q2;obtain rfl:=Z8 e;refine⟨B,Hk,δ,_,R,q1,λv H1 s1 r1=>?_⟩;simp only[Rep]at r1;subst r1;refine⟨rfl,pG (R.to s1) q2 λw H2 s2 R2 r2=>?_⟩;simp only[Rep]at r2;subst r2;exact⟨z,y,rfl,rfl,k _ H2 (s1.trans s2) (by simp only[Rep])⟩;trivial
def uV(l:ZM)(items:Array Z3)(n:Nat)(b:ZM)(d_:Array Z3)(n2:Nat)(s1 s2:Array (Z7 Z3))(LV:items.size+d_.size<=sizeLine):
  Meets (Builtin.«list.__add__» ⟨[.ref l,.ref b],[]⟩) (λ_ R s=>s.heap.get? l=U ⟨.type "list",M,.seq items n,s1⟩/\s.heap.get? b=U ⟨.type "list",M,.seq d_ n2,s2⟩/\R (.ok (.ret (Value.ref s.z))) {s with heap:=s.heap.push {cls:=Value.type "list",data:=Data.seq (items++d_)}}):=
 .of_wp λprog w A R s h=>by
  obtain⟨hp,g,d,tk,os⟩:=s;obtain⟨hl,hb,h⟩:=h;have f1:=AutoSeq1.idx_int;have f2:=Wr;have f3:=AutoSeq1.sub_list_list;have f4:=AutoSeq1.sub_tuple_list;have f5:=AutoSeq1.sub_list_tuple
  wp_walk using AutoSeq1.wpAny_loadPart' hl,AutoSeq1.wpAny_loadPart' hb
  exact⟨_,rfl,h⟩
def rR{l b:ZM}(hl:PlainL s.heap l its)(hb:PlainL s.heap b ka)(h:Q (.ref s.z) {s with heap:=s.heap.push {cls:=.type "list",data:=.seq (its++ka)}})(hsz:its.size+ka.size<=sizeLine):wpAny (model P w) A (binaryOp .Add (.ref l) (.ref b)) Q E s:=by
 obtain⟨⟨c1,d1,a1,s1⟩,n1,e1,rfl,rfl,rfl⟩:=hl;obtain⟨⟨c2,d2,a2,s2⟩,n2,e2,rfl,rfl,rfl⟩:=hb;exact concat_meets ⟨_,e1,rfl⟩ ⟨_,e2,rfl⟩ noFill_list_add seq_list_add F.slot_list_add F.entry_list_add (F.args_list_add_2 _ _) (uV l its n1 b ka n2 s1 s2 hsz) ⟨e1,e2,h⟩
def zJ:OpR X (binaryOp .Add) (λx y H Q=>∃l b xs zs,x=.ref l/\y=.ref b/\SqL X.K H l xs/\SqL X.K H b zs/\xs.length+zs.length<=sizeLine/\∀p,H p=M->Q (.ref p) (upd H p (.lst (xs++zs)))):=by
 intro pins s σ H x y v u Q I rx ry h;obtain⟨l,b,xs,zs,rfl,rfl,hH,hB,hz,q⟩:=h;cases rx;cases ry;obtain⟨its,r,pl,_⟩:=I.list hH;obtain⟨ka,r2,MG,_⟩:=I.list hB;have hl:=r.length;have RS:=r2.length;refine rR pl MG ?_ (by rw[ZT,ZT];lia);have ea:its.toArray++ka.toArray=(its++ka).toArray:=by simp
 rw[ea];exact⟨.ref _,_,I.acG (t':=s.toks) (r.append r2) (by rw[Zy];lia),rfl,q _ I.fresh⟩
noncomputable def vL(x y:Z7 D):Z7 D:=match x,y with|some (.lst i),some (.lst j)=>if i.length+j.length<=lim then U (.lst (i++j)) else M|_,_=>M
set_option tactic.hygienic true in
theorem xF(ha:DE X Y a fa)(hb:DE X Y b fb):DF X (.BinOp a .Add b pos) (λδ=>vL (fa δ) (fb δ)):=
 (v8 zJ ha hb).imp λσ H Q hz=>by
  obtain⟨B,Hk,δ,d,R,e,k⟩:=hz;unfold vL at e;dsimp only at e;split at e;rename_i i j q1 q2;by_cases hz:i.length+j.length<=lim;rw[ZO hz]at e;obtain rfl:=Z8 e;refine two R q1 q2 λv u H' s R' r1 r2=>?_;simp only[Rep]at r1 r2;obtain⟨c,xs,rfl,hq,rs⟩:=r1;obtain⟨c2,Q1,rfl,K7,Ke⟩:=r2;refine⟨c,c2,xs,Q1,rfl,rfl,hq.sq,K7.sq,by rw[<-rs.length,<-Ke.length];exact aG hz,λp hp=>?_⟩;have s2:=au (o:=.lst (xs++Q1)) hp;exact k p _ (s.trans s2) (s.free hp) ⟨_,ah,(rs.append Ke).same (m:=Y) R' s2⟩;rw[ZJ hz]at e;trivial;trivial
noncomputable def uY(i:Nat)(x:Z7 D)(δ:Mk):Z7 Out:=match bN i δ,x with|some (.lst ds),some (.lst es)=>if ds.length+es.length<=lim then U (.next (δ.set i (U (.lst (ds++es),L)))) else M|_,_=>M
set_option tactic.hygienic true in
def sH(h:uY i x δ=U o):∃ds es,δ[i]?=U (U (.lst ds,L))/\x=U (.lst es)/\ds.length+es.length<=lim/\o=.next (δ.set i (U (.lst (ds++es),L))):=by
 unfold uY at h;split at h;rename_i ds d q;by_cases hl:ds.length+d.length<=lim;rw[ZO hl]at h;obtain rfl:=Z8 h;exact⟨ds,d,cj q,rfl,hl,rfl⟩;rw[ZJ hl]at h;trivial;trivial
def tZ(ha:DF X a fa)(hN:X.N[i]?=U x:=by rfl)(hv:Vis X.env.scope x:=by first|exact Or.inl rfl|exact Or.inr (Or.inl rfl)|exact Or.inr (Or.inr rfl))(mc:Mc X.env (.Name x px) "extend" a [] apos i_)(hd:(x==("__debug__":Str))=Y:=by decide)(HZ:(x==("__classdict__":Str))=Y:=by decide)(JJ:swapsWith (.Call (.Attribute (.Name x px) "extend" apos) [a] [] i_) M pos.line X.env=pure Y:=by rfl):DS X (.Expr (.Call (.Attribute (.Name x px) "extend" apos) [a] [] i_) pos) (λδ=>uY i (fa δ) δ):=
 (me (qx Xn PySem.F.slot_list_extend PySem.F.type_list_extend tu (bA hN hv hd HZ) (ay ha aN mc.s) mc) JJ).imp λDn σ H hz=>by
  obtain⟨B,Hk,δ,o,R,e,k⟩:=hz;obtain⟨ds,es,h1,e1,hl,rfl⟩:=sH e;obtain⟨l,h2,h3,xs,h4,h5⟩:=R.own i _ h1;refine⟨.ref l,h2,.inl ⟨rfl,xs,SqL.of h4⟩,B,Hk,δ,_,R,e1,λp H' s hp ob=>?_⟩;have R':=R.to s;have KY:=s l _ h4;have Qd:M1 X.K B H' ds xs:=h5.ext (R.ext s);obtain⟨zs,h6,h7⟩:=ob;obtain⟨x1,x2⟩:=R'.abL (ds':=ds++es) (xs':=xs++zs) h1 h2 KY (Qd.append h7);exact⟨l,p,xs,zs,rfl,rfl,KY,h6,by rw[<-h5.length,<-h7.length];exact aG hl,k σ _ ((R.ext s).trans x1) x2⟩
end
end L2
namespace L2
open PySem PySem.Spec PyProof.Rows
variable[Lams]
noncomputable def mK(Ob:Scope)(scope:Scope)(N:Z9 Str)(bs:Z9 Bool):Bool:=
 decide (scope.kind=.function)&&scope.names.all (λy=>!decide (y.2=.cell))&&scope.names.all (λy=>!decide (y.2=.local)||decide (scope.names.lookup y.1=U .local))&&
 scope.names.all (λy=>!decide (y.2=.free)||(decide (scope.names.lookup y.1=U .free)&&(decide (Ob.names.lookup y.1=U .cell)||decide (Ob.names.lookup y.1=U .free))))&&
 decide (bs.length=N.length)&&(N.zip bs).all (λp=>!p.2||decide (scope.names.lookup p.1=U .free))
def kQ(h1:X.env.scope=Ob)(h2:X.N=N)(h:mK Ob scope N bs=L):aag X scope bs:=by
 unfold mK at h;simp only[ZK,Zf]at h;obtain⟨⟨⟨⟨⟨a,b⟩,c⟩,d⟩,e⟩,f⟩:=h;refine⟨a,λy hy z=>?_,λy hy z=>?_,λy hy z=>?_,by rw[h2];exact e,λi x hx hb=>?_⟩;have:=ZW.mp b y hy;rw[Zw z]at this;trivial;have:=ZW.mp c y hy;rw[Zw z]at this;simpa using this;have:=ZW.mp d y hy;rw[Zw z]at this;simp only[YR,Bool.false_or,ZK,Bool.or_eq_true,Zf]at this;refine⟨this.1,?_⟩;unfold Env.kindOf;rw[h1];exact this.2;rw[h2]at hx;have hz:(N.zip bs)[i]?=U (x,L):=by rw[List.getElem?_zip_eq_some];exact⟨hx,hb⟩
 have:=ZW.mp f _ (Zg hz);simpa using this
structure Nm (X:Cx)(i:Nat)(x:Str):Prop where
 at':X.N[i]?=some x
 vis:Vis X.env.scope x
 d1:(x==("__debug__":Str))=false
 d2:(x==("__classdict__":Str))=false
structure Lc (X:Cx)(i:Nat)(x:Str):Prop where
 at':X.N[i]?=some x
 loc:Loc X.env.scope x
 fnl:X.fn x=true\/X.env.scope.names.lookup x=some .local
structure Gb (X:Cx)(x:Str):Prop where
 gl:Gl X x
 d1:(x==("__debug__":Str))=false
def EU:Z7 NameKind->Bool
 |some .local=>L|some .cell=>L|some .free=>L|_=>Y
def D0:Z7 NameKind->Bool
 |some .local=>L|some .cell=>L|_=>Y
noncomputable def nmB(N:Z9 Str)(sc:Scope)(i:Nat)(x:Str):Bool:=decide (N[i]?=U x)&&EU (sc.names.lookup x)&&!(x==("__debug__":Str))&&!(x==("__classdict__":Str))
def lcB(N:Z9 Str)(sc:Scope)(i:Nat)(x:Str):Bool:=decide (N[i]?=U x)&&D0 (sc.names.lookup x)
def FO(N:Z9 Str)(sc:Scope)(i:Nat)(x:Str):Bool:=decide (N[i]?=U x)&&decide (sc.names.lookup x=U .local)
def gbB(sc:Scope)(x:Str):Bool:=decide (sc.names.lookup x=U .globalImplicit)&&!(x==("__debug__":Str))
def wJ(h:EU (sc.names.lookup x)=L):Vis sc x:=by
 unfold EU at h;split at h;rename_i e;exact .inl e;rename_i e;exact .inr (.inl e);rename_i e;exact .inr (.inr e);trivial
def vm(h:D0 (sc.names.lookup x)=L):Loc sc x:=by
 unfold D0 at h;split at h;rename_i e;exact .inl e;rename_i e;exact .inr e;trivial
structure Has (X:Cx)(N:List Str)(sc:Scope):Prop where
 n:X.N=N
 sc:X.env.scope=sc
 calm:X.calm=true
 nd:X.N.Nodup
def Has.nm{X:Cx}{N:Z9 Str}{sc:Scope}{i:Nat}{x:Str}(h:Has X N sc)(b:nmB N sc i x=L):Nm X i x:=by
 unfold nmB at b;simp only[ZK,Zf,Ys]at b;exact⟨by rw[h.n];exact b.1.1.1,by rw[h.sc];exact wJ b.1.1.2,b.1.2,b.2⟩
def Has.lc{X:Cx}{N:Z9 Str}{sc:Scope}{i:Nat}{x:Str}(h:Has X N sc)(hf:∀x,X.fn x=L)(b:lcB N sc i x=L):Lc X i x:=by
 unfold lcB at b;simp only[ZK,Zf]at b;exact⟨by rw[h.n];exact b.1,by rw[h.sc];exact vm b.2,.inl (hf x)⟩
def Has.lcl{X:Cx}{N:Z9 Str}{sc:Scope}{i:Nat}{x:Str}(h:Has X N sc)(b:FO N sc i x=L):Lc X i x:=by
 unfold FO at b;simp only[ZK,Zf]at b;exact⟨by rw[h.n];exact b.1,by rw[h.sc];exact .inl b.2,.inr (by rw[h.sc];exact b.2)⟩
def Has.gb{X:Cx}{N:Z9 Str}{sc:Scope}{x:Str}(h:Has X N sc)(b:gbB sc x=L):Gb X x:=by
 unfold gbB at b;simp only[ZK,Zf,Ys]at b;refine⟨?_,b.2⟩;unfold Gl Env.kindOf;rw[h.sc];exact b.1
noncomputable def E9(scope sc:Scope):Scope:=
 {scope with names:=scope.names.map λ(n,k)=>if(k==.free&&sc.kind==.function&&sc.names.lookup n==U .cell) then(n,.cell) else(n,k)}
def Ak(h:env.scope=sc):relabel scope env=E9 scope sc:=by subst h;rfl
def Has.comp{X:Cx}{N:Z9 Str}{sc:Scope}(h:Has X N sc)(scope:Scope)(cl:Z9 (Str×ZM))(C:ZM)(a_:ZR)(b_:Hp)(ex:Z9 ZM)(pn:Z9 (ZM×Obj)):Has (aE X scope cl C a_ b_ ex pn) N (E9 scope sc):=
 ⟨h.n,Ak h.sc,h.calm,h.nd⟩
def aag.of'(h:Has X N sc)(b:mK sc scope N bs=L):aag X scope bs:=kQ h.sc h.n b
section
variable{X:Cx}{m mm:Bool}{a e:Expr}{es:Z9 Expr}{fa:Mk->Z7 D}{fs:Mk->Z7 (Z9 D)}{pos p:Pos}{k:Nat}{x:Str}{f:Z9 D->Z7 (D×Bool)}{i:Nat}
theorem nv(m:Bool)(n:Nm X i x):DE X m (.Name x pos) (rd m i):=Ck n.at' n.vis n.d1 n.d2
theorem ug{pos':Pos}(n:X.N.Nodup)(l:Lc X i x)(ha:DE X Y a fa)(hs:swapsWith a (U (.Name x pos')) pos.line X.env=pure Y:=by rfl):DS X (.Assign [.Name x pos'] a pos) (λδ=>bK i (fa δ) δ):=BX (i:=i) (x:=x) (pos:=pos) (pos':=pos') n ha l.at' l.loc hs l.fnl
theorem iM{pos':Pos}(n:X.N.Nodup)(l:Lc X i x)(ha:DF X a fa)(hs:swapsWith a (U (.Name x pos')) pos.line X.env=pure Y:=by rfl):DS X (.Assign [.Name x pos'] a pos) (λδ=>eT i (fa δ) δ):=zt (i:=i) (x:=x) (pos:=pos) (pos':=pos') n ha l.at' l.loc hs l.fnl
theorem jd(n:X.N.Nodup)(l:Lc X i x):DG X (.Name x pos) (aa i):=yP n l.at' l.loc l.fnl
theorem oR{px:Pos}(n:Nm X i x):DS X (.Return (U (.Name x px)) pos) (λδ=>eD (bN i δ)):=yO (i:=i) (x:=x) (px:=px) (pos:=pos) n.at' n.vis n.d1 n.d2
theorem nA(F:FnM X.prog X.w X.K X.mg X.base k x f)(hr:aan k X.A)(g:Gb X x)(ha:DA X m (e::es) fs)(he:starEach (e::es) X.env=(Y,eval e X.env)::starEach es X.env:=by rfl)
  (s_:(backTo pos (starEach es X.env)).any (·.1)=Y:=by rfl):DE X m (.Call (.Name x p) (e::es) [] pos) (λδ=>shO (ae (fs δ) f)):=y0 F hr g.gl ha g.d1 he s_
theorem nL(F:FnM X.prog X.w X.K X.mg X.base k x f)(hr:aan k X.A)(g:Gb X x)(ha:DA X Y (e::es) fs)(he:starEach (e::es) X.env=(Y,eval e X.env)::starEach es X.env:=by rfl)
  (s_:(backTo pos (starEach es X.env)).any (·.1)=Y:=by rfl):DF X (.Call (.Name x p) (e::es) [] pos) (λδ=>frO (ae (fs δ) f)):=ze (p:=p) F hr g.gl ha g.d1 he s_
theorem jI(F:FnM X.prog X.w X.K X.mg X.base k x f)(hr:aan k X.A)(g:Gb X x)(ha:DA X L (e::es) fs)(he:starEach (e::es) X.env=(Y,eval e X.env)::starEach es X.env:=by rfl)
  (s_:(backTo pos (starEach es X.env)).any (·.1)=Y:=by rfl):DF X (.Call (.Name x p) (e::es) [] pos) (λδ=>flO (ae (fs δ) f)):=vM (p:=p) F hr g.gl ha g.d1 he s_
theorem rL{p:Pos}(g:Gb X "len")(hm:X.mg "len"=M)(ha:DE X m a fa)(hs:starEach [a] X.env=[(Y,eval a X.env)]:=by rfl):DE X mm (.Call (.Name "len" p) [a] [] pos) (λδ=>jv (fa δ)):=CJ g.gl hm ha hs g.d1
variable{apos i_ px:Pos}
theorem iw(n:Nm X i x)(ha:DE X Y a fa)
  (mc:Mc X.env (.Name x px) "append" a [] apos i_)
  (JJ:swapsWith (.Call (.Attribute (.Name x px) "append" apos) [a] [] i_) M pos.line X.env=pure Y:=by rfl):DS X (.Expr (.Call (.Attribute (.Name x px) "append" apos) [a] [] i_) pos) (λδ=>lC i (fa δ) δ):=
 tx ha n.at' n.vis mc n.d1 n.d2 JJ
theorem pv(n:Nm X i x)(ha:DF X a fa)(mc:Mc X.env (.Name x px) "extend" a [] apos i_)(JJ:swapsWith (.Call (.Attribute (.Name x px) "extend" apos) [a] [] i_) M pos.line X.env=pure Y:=by rfl):DS X (.Expr (.Call (.Attribute (.Name x px) "extend" apos) [a] [] i_) pos) (λδ=>uY i (fa δ) δ):=
 tZ ha n.at' n.vis mc n.d1 n.d2 JJ
noncomputable def swB(sc scope:Scope)(t:Str)(l1 l2:Nat):Bool:=
 ((if sc.kind.isAnnotationScope then ScopeKind.function else sc.kind)==.function)&&sc.names.lookup t==U .local&&l1==l2&&!(scope.names.any λ(n,k)=>n==t&&(k==.local||k==.cell))
def eA(h:Has X N sc)(q:swB sc scope x pos'.line pos.line=c):
  swapsWith (.ListComp elt gens scope pos) (U (.Name x pos')) l X.env=pure c:=by
 subst q;unfold swB;rw[<-h.sc];rfl
def lj(h:Has X N sc)(b:decide (sc.names.lookup y=U .local)=L):X.env.scope.names.lookup y=U .local:=by rw[h.sc];exact Zj b
theorem vU(h:Has X N sc)(l:Lc X i y)(Ju:abh τ)(hi:DI X Y tg iter fi)(S:aag X scope bs)(hg:∀cl C a_ b_ ex pn,DG (aE X scope cl C a_ b_ ex pn) tg τ)(ht:∀cl C a_ b_ ex pn,DTs (aE X scope cl C a_ b_ ex pn) ifs ft)(he:∀cl C a_ b_ ex pn,DE (aE X scope cl C a_ b_ ex pn) Y elt fe)(b1:decide (sc.names.lookup y=U .local)=L)(b2:swB sc scope y py.line pos.line=L)(hs:∀x,foldedSetIterable iter X.env x=pure x:=by intro _;rfl):DS X (.Assign [.Name y py] (.ListComp elt [⟨tg,iter,ifs,0⟩] scope pos) Jk) (λδ=>eT i (ax (ae (fi δ) (b8 Y bs τ ft fe δ))) δ):=
 zD h.nd h.calm Ju hi S hg ht he l.at' (lj h b1) (eA h b2) hs
end
def Dk{P:YX}{w:YK}{K:Z5}{mg:Str->Z7 Z3}{base:Heap}{f:ZM}{HM:Z3}{A:Za}{outer:Z9 Env}{s:ZR}{H:Hp}{E:XK}{N:Z9 Str}{q:Str}{sc:Scope}(nd:N.Nodup):
  Has (qw CX0 P w K mg base N q sc f HM A outer s H E).nox N sc:=⟨rfl,rfl,rfl,nd⟩
def spM_law{K:Z5}{H:Hp}{a:ZM}{ns:Z9 Int}{f:Z9 D->Z7 (D×Bool)}(hS:SqL K H a (ns.map V.int))(h:f [.lst (ns.map D.int)]=U (.bl L,Y)):
  spM K f [.ref a] H (λv _=>v=.bl L) λ_ _ _=>False:=by
 have hr:M1 K (λb=>∃o:HOn,H b=U o.1) H (ns.map D.int) (ns.map V.int):=by
  clear hS h
  induction ns with
  |nil=>exact M1.nil
  |cons n ns ih=>exact M1.cons (by simp only[Rep]) ih
 refine⟨λb=>∃o:HOn,H b=U o.1,[.lst (ns.map D.int)],.bl L,Y,λ_ h=>h,M1.cons ?_ M1.nil,h,λv H' _ r=>?_⟩;simp only[Rep];refine⟨a,_,rfl,?_,hr⟩;rcases hS with(h1|⟨o,h1⟩)|h1;exact .inl ⟨⟨⟨_,rfl⟩,h1⟩,h1⟩;exact .inr (.inl ⟨o,h1⟩);exact .inr (.inr h1);unfold oE at r;rw[ZJ Zh]at r;simpa only[Rep]using r
def pN{pos pos':Pos}(l:Z9 Z3)(ht:TriplesOk l)(h:codeAmong pos' (l++[rawInt pos.line,rawInt pos.col,c])=U cv):codeAmong pos' l=U cv\/cv=c:=by
 fun_induction TriplesOk l with
 |case1=>
  simp only[List.nil_append,rawInt,codeAmong]at h;split at h;obtain rfl:=Z8 h;exact .inr rfl;trivial
 |case2 a t b u x ar ih=>
  simp only[List.cons_append,codeAmong]at h⊢;split at h;rename_i hc;rw[ZO hc];exact .inl h;rename_i hc;rw[ZJ hc];exact ih ht h
 |case3 l h1 h2=>exact ht.elim
section
def Inv.grow{pos:Pos}{t':Nat}(I:Inv X pins σ H s)(hP:H P=U (.tbl lq ps))(hx:Heap.ExtBut P s.heap h')(LQ:s.z<=c')(j_:c'<h'.objs.size)(Md:h'.CodeRec (.ref c') lq)(A_:h'.get? P=U (PySem.W.tabObj (ps++#[rawInt pos.line,rawInt pos.col,.ref c']))):
  Inv X pins σ (upd (upd H P (.tbl lq (ps++#[rawInt pos.line,rawInt pos.col,.ref c']))) c' (.own P)) {s with heap:=h',toks:=t'}/\
  aae H (upd (upd H P (.tbl lq (ps++#[rawInt pos.line,rawInt pos.col,.ref c']))) c' (.own P)):=by
 have hc:H c'=M:=I.hok.fresh LQ;have P5:P≠c':=λz=>by rw[z,hc]at hP;trivial
 have up:∀b,b≠P->b≠c'->(upd (upd H P (.tbl lq (ps++#[rawInt pos.line,rawInt pos.col,.ref c']))) c' (.own P)) b=H b:=λb h1 h2=>by rw[ai h2,ai h1]
 have OQ:(upd (upd H P (.tbl lq (ps++#[rawInt pos.line,rawInt pos.col,.ref c']))) c' (.own P)) P=U (.tbl lq (ps++#[rawInt pos.line,rawInt pos.col,.ref c'])):=by rw[ai P5,ah]
 have nP:∀{b u},H b=U u->(∀l p,u≠.tbl l p)->b≠P:=λ{b u} e n z=>by rw[z,hP]at e;obtain rfl:=Z8 e;exact n _ _ rfl
 have nc:∀{b u},H b=U u->b≠c':=λ{b u} e z=>by rw[z,hc]at e;trivial
 have n0:∀{b},H b=M->b≠P:=λ{b} e z=>by rw[z,hP]at e;trivial
 obtain⟨Ll,oc,vs,t,e2,Na,hd,hv⟩:=Md;cases e2;refine⟨I.un ⟨λb o e n _ _=>hx b o (n0 n) e,λb o e n _ _=>⟨o.slots,hx b o (n0 n) e⟩,λb o e n _=>?_,λb o e _=>?_,λb xs e=>?_,λb o u e=>?_,λb l p e=>?_⟩ λb u q=>?_,λb o n e=>?_,λb l p e=>?_⟩;rw[up b (n0 n) (Zv (ZD (ZQ e) LQ))];exact n;by_cases hb:b=P;subst hb;exact⟨_,A_⟩;exact⟨o,hx b o hb e⟩;rw[up b (nP e λl p z=>by trivial) (nc e)];exact e;rw[up b (nP e λl p z=>by trivial) (nc e)];exact e;by_cases hb:b=P;subst hb;rw[hP]at e;cases e;exact⟨_,OQ⟩;exact⟨#[],by rw[up b hb (nc e),Array.append_empty];exact e⟩;by_cases Sg:b=c';subst Sg;rw[ah]at q;obtain rfl:=Z8 q;exact⟨oc,Na⟩;by_cases hb:b=P;subst hb;rw[OQ]at q;obtain rfl:=Z8 q;obtain⟨e1,tr,rc⟩:=I.hok b _ hP;refine⟨A_,by rw[Zl];exact TriplesOk_snoc _ _ _ _ tr,λpos' cv e=>?_⟩;rw[Zl]at e;rcases pN _ tr e with e|e;obtain⟨c2,o2,v2,t2,z1,z2,z3,z4⟩:=rc pos' cv e;have m1:=nP z2 λl p z=>by trivial
 exact⟨c2,o2,v2,t2,z1,by rw[up c2 m1 (nc z2)];exact z2,hx _ _ m1 z3,z4⟩;subst e;exact⟨c',oc,vs,t,rfl,ah,Na,hd,hv⟩;rw[up b hb Sg]at q;refine(I.hok b u q).abi (λd v hd r=>hx d v ?_ r) (λd r=>by rw[up d (nP r λl p z=>by trivial) (nc r)];exact r) λd xs r=>by rw[up d (nP r λl p z=>by trivial) (nc r)];exact r
 rcases hd with z|z;rw[z];exact hb;exact nP z λl p z=>by trivial
 rw[up b (nP e λl p z=>by subst z;trivial) (nc e)];exact e;by_cases hb:b=P;subst hb;rw[hP]at e;cases e;exact⟨_,OQ⟩;exact⟨#[],by rw[up b hb (nc e),Array.append_empty];exact e⟩
def wL(I:Inv X pins σ H s)(hP:(P,lq)∈Lams.tb)(hq:X.env.qual++"<lambda>"=lq)(hC:PySem.W.CodeHd X.base c P)(HZ:X.env.code=.ref c)(Jb:closureFor scope X.env=pure [])(Mh:defaultsOf params X.env=([],[]))(h:∀f c' pm Jz h' tk H' ps,Inv X ((f,PySem.W.kla_obj "<lambda>" lq params body scope [] pm c' Jz)::pins) σ H' {s with heap:=h',toks:=tk}->aae H H'->H' P=U (.tbl lq ps)->codeAmong pos ps.toList=U (.ref c')->
   Q (.ref f) {s with heap:=h',toks:=tk}):wpAny (model X.prog X.w) X.A (eval (.Lambda params body scope pos) X.env) Q E s:=by
 refine PySem.W.kla_eval Mh ?_;rw[hq];obtain⟨ps,Ih⟩:=(I.ok.tabs.to I.base.aa5) (P,lq) hP;obtain⟨e1,tr,rc⟩:=I.hok P _ Ih;have hg:s.heap.Ns mainGlobals X.mg:=I.mod.glob.keeps I.bk;have UI:mainGlobals≠P:=λz=>by
  obtain⟨o,es,ep,e,d,_⟩:=hg;rw[z,e1]at e;obtain rfl:=Z8 e;trivial
 obtain⟨bm,ob,b1,b2,b3,b4,b5,b6⟩:=I.mod.bmain;have MT:=I.bk _ _ b3;have Sh:bm≠P:=λz=>by rw[z,e1]at MT;obtain rfl:=Z8 MT;trivial
 have Sj:bm≠mainGlobals:=λz=>by
  obtain⟨o,es,ep,e,d,_⟩:=hg;rw[z,e]at MT;obtain rfl:=Z8 MT;rw[d]at b6;trivial
 have fin:∀{H':Hp}{h1:Heap}{tk:Nat}{o:Obj},Inv X pins σ H' {s with heap:=h1,toks:=tk}->(∀v,o.data≠.cell v)->o.isFreed=Y->Inv X ((h1.objs.size,o)::pins) σ H' {s with heap:=h1.push o,toks:=tk}:=λ{H' h1 tk o} I1 Ur Uo=>by
  have I2:Inv X pins σ H' {s with heap:=h1.push o,toks:=tk}:=I1.kept (h':=h1.push o) λb u e=>Z4 _ e;refine I2.aaL λp hp=>?_;rcases Z0.mp hp with rfl|hp
  exact⟨ZN _ Uo,I1.hok.fresh (ZU _),Nat.ne_of_gt I1.lt,I1.acq (ZU _),Ur⟩;exact I2.pin p (ZI _ hp)
 cases hf:codeAmong pos ps.toList with
 |none=>
  refine PySem.W.kla_makeFunction (mg:=X.mg) Jb I.ok.glob hg HZ (hC.keeps I.bk) e1 tr hf UI ⟨bm,ob,b1,b2,Sj,Sh,MT,b4,b5,b6⟩ λc' Jz h' tk hx LQ j_ Md A_=>?_;obtain⟨I1,s1⟩:=I.grow (t':=tk) Ih hx LQ j_ Md A_;have hc:H c'=M:=I.hok.fresh LQ;have P5:P≠c':=λz=>by rw[z,hc]at Ih;trivial
  exact h _ c' _ Jz _ tk _ _ (fin I1 (λv z=>by trivial) rfl) s1 (by rw[ai P5,ah]) (by rw[Zl];exact codeAmong_snoc _ tr hf)
 |some cv=>
  obtain⟨c',oc,vs,t,rfl,o1,o2,o3,o4⟩:=rc pos cv hf;refine PySem.W.kla_makeFunctionHit (mg:=X.mg) Jb I.ok.glob hg HZ (hC.keeps I.bk) e1 tr hf ⟨bm,ob,b1,b2,Sj,Sh,MT,b4,b5,b6⟩ λJz h' tk hk hsz=>?_;exact h _ c' _ Jz _ tk _ _ (fin (I.kept (h':=h') (t':=tk) hk) (λv z=>by trivial) rfl) (aae.refl H) Ih hf
end
def zF{CX:CXT}{P:YX}{w:YK}{K:Z5}{mg:Str->Z7 Z3}{base:Heap}{k:Nat}{f c':ZM}{name qual:Str}{params:Arguments}{body:Expr}{scope:Scope}{pm Jz:Z3}{N ps:Z9 Str}{A:Za}{outer:Z9 Env}{s:ZR}{H:Hp}
  {args:Args}{us:Z9 Z3}{vs:Z9 V}{Q:VK}{E:XK}(hr:aan (k+1) A) (e0:abn P w K mg base A outer s H) (hf:s.heap.get? f=U (PySem.W.kla_obj name qual params body scope [] pm c' Jz)) (hc:s.heap.CodeRec (.ref c') qual) (S:aaB N ps scope)
  (hb:BindsTo s (PySem.W.kla_fn name qual params body scope [] pm (.ref c') Jz) args (ps.zip us)) (r:aab vs us) (hl:vs.length=ps.length)
  (HR:aan k (A.deeper (envOfC qual scope s.z f (.ref c')))->∃t,PE (qw CX P w K mg base N qual scope f (.ref c') A outer s H E) body t/\t (dg N vs) H Q):
  codeAny (model P w) A (.call (.ref f) args) (CR CX outer P w H s Q E) s:=by
 have lim:s.heap.NoLimit:=e0.mod.nolimit.keeps λb o e=>(e0.bs b o e).1;have KN:∀y∈ps.zip us,scope.names.lookup y.1=U .local\/(scope.names.lookup y.1=U .cell/\((cellsFrom (s.z+1) scope.names []).lookup y.1).isSome=L):=λ⟨n,v⟩ hy=>by
  rcases S.par n (Wz hy).1 with q|q;exact .inl q;exact .inr ⟨q,WM _ _ _ (.inl q)⟩
 refine PySem.W.kla_callFunE hr.depth hf rfl S.co S.gen rfl hc (hb _ _ _ _ ?_);refine wpAny_newFunctionEnv_cells S.kind KN λenv he s1 x=>?_;subst he;refine⟨lim.keeps x.toInCall.keep,PySem.W.kla_codeExpr ?_⟩;obtain⟨t,ht,hq⟩:=HR (hr.deeper _);have I:Inv (qw CX P w K mg base N qual scope f (.ref c') A outer s H E) [] (dg N vs) H s1:=lw S hr.hd e0 hl r x;exact YL (ht [] s1 (dg N vs) H _ I hq) (λu s' hz=>by obtain⟨v,H',J,rv,q⟩:=hz;exact⟨v,H',J.os,J.bare,J.base,J.hok,rv,q⟩) λe s' hs=>hs
section
def v7{k:Nat}{f c' P:ZM}{lq:Str}{OV:Array Z3}{params:Arguments}{body:Expr}{scope:Scope}{pos:Pos}{pm Jz:Z3}{N ps:Z9 Str}{us:Z9 Z3}{vs:Z9 V}{Q:VK}{A:Za}{E:Z3->ZR->Prop}
  (I:Inv X pins σ H s) (hA:aan (k+1) A) (hE:abn X.prog X.w X.K X.mg X.base X.A X.stack s H->abn X.prog X.w X.K X.mg X.base A X.stack s H) (hf:(f,PySem.W.kla_obj "<lambda>" lq params body scope [] pm c' Jz)∈pins) (hP:H P=U (.tbl lq OV)) (P4:codeAmong pos OV.toList=U (.ref c')) (S:aaB N ps scope)
  (hb:BindsTo s (PySem.W.kla_fn "<lambda>" lq params body scope [] pm (.ref c') Jz) ⟨us,[]⟩ (ps.zip us)) (r:aab vs us) (hl:vs.length=ps.length)
  (HR:aan k (A.deeper (envOfC lq scope s.z f (.ref c')))->∃t,PE (qw CX0 X.prog X.w X.K X.mg X.base N lq scope f (.ref c') A X.stack s H (λ_ _ _=>False)) body t/\t (dg N vs) H Q):
  wpAny (model X.prog X.w) A (call (.ref f) us) (EP X pins σ Q) E s:=by
 obtain⟨e1,tr,rc⟩:=I.hok P _ hP;obtain⟨c2,oc,S5,t2,z1,z2,z3,z4,z5⟩:=rc pos _ P4;cases z1;refine wpAny_call (WW (zF (CX:=CX0) hA (hE I.acH) (I.pin _ (ZI _ hf)).1 ⟨c',oc,S5,t2,rfl,z3,z4,z5⟩ S hb r hl HR) λr s' hq=>?_);cases r with
 |error e=>exact False.elim hq
 |ok fl=>
  cases fl with
  |ret u=>exact I.after hq
  |next=>exact False.elim hq
  |brk=>exact False.elim hq
  |cont=>exact False.elim hq
end
section
def Inv.abZ(I:Inv X pins σ H s)(f:eU X pins H a)(hs:X.n_.z<=a)(new:aal X.prog X.w (upd H a o) s.heap a o):Inv X pins σ (upd H a o) s:=by
 have hn:=f.1;refine⟨I.ok,I.os,I.bare,⟨I.base.keep,I.base.slot,λb ob e n hx=>?_,I.base.there,λb xs e=>?_,λb ob u e=>?_,λb lq ps e=>?_⟩,I.loc,I.cell,?_,λx c e=>?_,λp hp=>?_,λb u q=>?_,I.len⟩;rw[ai (Zv (ZD (ZQ e) hs))];exact I.base.free b ob e n hx;have z:=I.base.aa1 b xs e;rw[ai (av z hn)];exact z;have z:=I.base.aaW b ob u e;rw[ai (av z hn)];exact z;obtain⟨m,z⟩:=I.base.aa5 b lq ps e;exact⟨m,by rw[ai (av z hn)];exact z⟩;rw[ai (ZA f.2.1)];exact I.free;rw[ai (f.2.2.2.2.1 x c e)];exact I.aaU x c e;obtain⟨p1,p2,p3⟩:=I.pin p hp;exact⟨p1,by rw[ai (f.2.2.2.2.2 p hp)];exact p2,p3⟩;by_cases hb:b=a;subst hb;rw[ah]at q;obtain rfl:=Z8 q;exact new;rw[ai hb]at q;exact(I.hok b u q).abi (λ_ _ _ r=>r) (λd r=>by rw[ai (av r hn)];exact r) λd xs r=>by rw[ai (av r hn)];exact r
def zK(kA vs:Array Z3)(h:kA.size=vs.size):(kA.zip vs).map (·.2)=vs:=by
 apply Array.ext;simp[h];intro i h1 h2;simp
noncomputable def fU(h:Heap)(vs:Z9 Z3):Heap:=Heap.push (Heap.update (h.push (seqObj "list" #[] 0)) h.objs.size (Obj.mapSeq (· ++vs.toArray))) (seqObj "list" vs.toArray 0)
def uN(h:Heap)(vs:Z9 Z3):(Heap.update (h.push (seqObj "list" #[] 0)) h.objs.size (Obj.mapSeq (· ++vs.toArray))).objs.size=h.objs.size+1/\(fU h vs).objs.size=h.objs.size+2/\
  (fU h vs).get? (h.objs.size+1)=U (seqObj "list" vs.toArray 0)/\∀b o,h.get? b=U o->(fU h vs).get? b=U o:=by
 have e:(Heap.update (h.push (seqObj "list" #[] 0)) h.objs.size (Obj.mapSeq (· ++vs.toArray))).objs.size=h.objs.size+1:=by
  rw[Xr,size_push']
 refine⟨e,by unfold fU;rw[size_push',e],?_,λb o q=>?_⟩;unfold fU;rw[<-e];exact ZN _ rfl;exact Z4 _ ((Heap.get?_update_ne _ _ _ _ (Zv (ZQ q))).trans (Z4 _ q))
end
end L2
namespace L2
open PySem PySem.Spec PyProof.Rows PySem.W
def A3{α:Type}(lt:Nat->Nat->Bool):KasT α->α
 |.ret a=>a
 |.ask i j k=>A3 lt (k (lt i j))
def zi(n:Nat):KasT (Array Nat)->Bool
 |.ret a=>a.toList.isPerm (List.range n)
 |.ask i j k=>decide (i<n)&&decide (j<n)&&(zi n (k L)&&zi n (k Y))
theorem gg(lt:Nat->Nat->Bool):∀t:KasT (Array Nat),zi n t=L->(A3 lt t).toList.Perm (List.range n)
 |.ret a,h=>List.isPerm_iff.mp h
 |.ask i j k,h=>by
  simp only[zi,ZK]at h;unfold A3;cases lt i j with
  |true=>exact gg lt _ h.2.1
  |false=>exact gg lt _ h.2.2
theorem xC(hc:∀i j C,i<n->j<n->C (lt i j) s->cmp i j C s):∀t:KasT (Array Nat),zi n t=L->Q (A3 lt t) s->t.kasWp cmp Q s
 |.ret a,_,h=>h
 |.ask i j k,h,h'=>by
  simp only[zi,ZK,Zf]at h;refine hc i j _ h.1.1 h.1.2 (xC hc (k (lt i j)) ?_ h');cases lt i j with
  |true=>exact h.2.1
  |false=>exact h.2.2
def m4:∀{n:Nat},n<5->zi n (kas_sort n)=L
 |0,_=>by kernel_rfl
 |1,_=>by kernel_rfl
 |2,_=>by kernel_rfl
 |3,_=>by kernel_rfl
 |4,_=>by kernel_rfl
 |n+5,h=>absurd h (by lia)
end L2
namespace L2
open PySem PySem.Spec PyProof.Rows PySem.W
variable[Lams]
def ltK(ks:Z9 Int)(i j:Nat):Bool:=decide (ks.getD i 0<ks.getD j 0)
def iZ(ks:Z9 Int):Z9 Nat:=if ks.length<2 then List.range ks.length else(A3 (ltK ks) (kas_sort ks.length)).toList
def fH(h:ks.length<5):(iZ ks).Perm (List.range ks.length):=by
 unfold iZ;split;exact Yy _;exact gg _ _ (m4 h)
def bq(vs:Z9 Z3)(p:Z9 Nat):Z9 Z3:=p.map λi=>vs.getD i Value.none
section
theorem cq(m:Z9 Z3):∀(l:Z9 Z3),codeAmong pos l=U c->codeAmong pos (l++m)=U c
 |.int line t::.int col u::x::ar,h=>by
  simp only[List.cons_append,codeAmong]at h⊢;split at h;rename_i q;rw[ZO q];exact h;rename_i q;rw[ZJ q];exact cq m ar h
 |[],h=>by simp[codeAmong]at h
 |[_],h=>by simp[codeAmong]at h
 |[_,_],h=>by simp[codeAmong]at h
 |a::b::x::ar,h=>by
  unfold codeAmong at h;split at h;rename_i q;cases q;show codeAmong pos (_::_::_::(ar++m))=_;unfold codeAmong;split at h;rename_i q;rw[ZO q];exact h;rename_i q;rw[ZJ q];exact cq m ar h;trivial
theorem cX:∀{us:Z9 Z3}{ks:Z9 Int}{i:Nat},IntsAre us ks->i<us.length->∃t,us.getD i Value.none=.int (ks.getD i 0) t
 |_,_,i,.nil,h=>by simp at h
 |_,_,0,.cons n t h,_=>⟨t,rfl⟩
 |_,_,i+1,.cons n t h,hi=>by simpa using cX (i:=i) h (by simpa using hi)
def ue{A:Za}{E:Z3->ZR->Prop}{kS D:ZM}{kA:Array Z3}{e e1:Nat}{vs:Z9 Z3}{ks:Z9 Int}{P:PySem.Fin->ZR->Prop}(J:Inv X ((kS,seqObj "list" kA e)::(D,seqObj "list" #[] e1)::pins) σ H s)
  (fk:eU X pins H kS) (fD:eU X pins H D) (sk:X.n_.z<=kS) (sD:X.n_.z<=D) (Ox:kS≠D) (hk:IntsAre kA.toList ks) (hl:vs.length=ks.length) (Nn:vs.length<5) {ys:Z9 V}(rv:aab ys (bq vs (iZ ks)))
  (h:∀h' tk,Inv X pins σ (upd H D (.lst ys)) {s with heap:=h',toks:=tk}->P (.done (.ret .none)) {s with heap:=h',toks:=tk}):
  wpAny (model X.prog X.w) A (ksk_end D Y vs.toArray e1 (.ref kS) kA) P E s:=by
 have nk:=J.pin (kS,seqObj "list" kA e) (ZI _ (.head _));have nD:=J.pin (D,seqObj "list" #[] e1) (ZI _ (.tail _ (.head _)));have hz:(64:Nat)<=sizeLine:=by rw[Yi];lia
 have Lw:kA.size=vs.length:=by have:=hk.length;rw[Array.length_toList]at this;lia
 have I0:Inv X pins σ H s:=J.aaL λp hp=>J.pin p (ZI _ (.tail _ (.tail _ hp)));have s1:=Ze s.heap kS (Obj.mapSeq λ_=>(#[]:Array Z3));have Pf:(s.heap.update kS (Obj.mapSeq λ_=>(#[]:Array Z3))).get? D=U (seqObj "list" #[] e1):=(s1.2 D (ZA Ox)).trans nD.1;have Dj:(bq vs (iZ ks)).length=vs.length:=by unfold bq;rw[ZY,(fH (ks:=ks) (by lia)).length_eq,Xj];lia
 have tail:∀st:SortSt,(arrOf st).map (·.2)=(bq vs (iZ ks)).toArray->failedOf st=M->wpAny (model X.prog X.w) A (ksk_tail D Y e1 (.ref kS) st) P E s:=by
  intro st es hf;unfold ksk_tail
  try dsimp only
  refine Z_ (Xd nk.1 rfl ?_ (by rw[Lw];lia) (Zu _));refine Z_ (We ?_);refine Z_ (seqEpoch_at Pf rfl ?_);rw[es,hf];refine Z_ (Xd Pf rfl ?_ (Zu _) (by simp only[ZZ,Zm];rw[ZT,Dj];lia));simp only[bne_self_eq_false,ZZ,Zm];refine Z6 (h _ s.toks ?_);have I1:Inv X pins σ H {s with heap:=s.heap.update kS (Obj.mapSeq λ_=>(#[]:Array Z3)),toks:=s.toks}:=I0.turned (it:=kS) (λb o hb q=>(s1.2 b hb).trans q) fk.1 fk.2.1 (.inr sk) fk.2.2.2.2.1 fk.2.2.2.2.2;have s2:=Ze (s.heap.update kS (Obj.mapSeq λ_=>(#[]:Array Z3))) D (Obj.mapSeq λ_=>(bq vs (iZ ks)).toArray);have I2:Inv X pins σ H {s with heap:=(s.heap.update kS (Obj.mapSeq λ_=>(#[]:Array Z3))).update D (Obj.mapSeq λ_=>(bq vs (iZ ks)).toArray),toks:=s.toks}:=Inv.turned (s:={s with heap:=s.heap.update kS (Obj.mapSeq λ_=>(#[]:Array Z3)),toks:=s.toks}) (it:=D) I1 (λb o hb q=>(s2.2 b hb).trans q) fD.1 fD.2.1 (.inr sD) fD.2.2.2.2.1 fD.2.2.2.2.2;exact I2.abZ fD sD ⟨by rw[rv.length,Dj];lia,_,_,rv,WB Pf λ_=>(bq vs (iZ ks)).toArray⟩
 unfold ksk_end
 try dsimp only
 simp only[ZZ,Zm];by_cases h2:vs.toArray.size<2
 .rw[ZO h2,ZO h2]
  refine Z_ (Z6 ?_);rw[StateT.run_pure];refine Z_ (Z6 ?_)
  try dsimp only
  refine tail _ ?_ rfl;rw[ZT]at h2;have e0:(arrOf (SortSt.mk' general' (kA.zip vs.toArray) #[] 7 M)).map (·.2)=vs.toArray:=zK kA vs.toArray (by rw[Lw,ZT]);rw[e0];unfold iZ;rw[ZO (by lia),<-hl];clear tail h rv Dj e0 J
  match vs,h2 with
  |[],_=>simp[bq]
  |[v],_=>simp[bq,List.range_succ]
 rw[ZJ h2,ZJ h2];rw[ZT]at h2;have Jh:2<=vs.length:=by lia
 have Nf:keyKind' kA=pure oneType':=by
  have e0:kA=kA.toList.toArray:=by simp
  rw[e0];have lk:2<=kA.toList.length:=by rw[Array.length_toList];lia
  generalize kA.toList=us at hk lk
  match us,hk,lk with
  |v1::v2::r,hk,_=>exact keyKind_ints hk
 rw[Nf];refine Z_ (Z6 ?_);have Tg:=m4 Nn;have RU:kA.toList.length=vs.length:=by rw[Array.length_toList];exact Lw
 have run:=kat_run (prog:=X.prog) (w:=X.w) (A:=A) (E:=E) (s:=s) (κ:=oneType') (vs:=vs) (ks:=kA.toList) (Q:=λe_ s'=>s'=s/\(arrOf e_).map (·.2)=(bq vs (iZ ks)).toArray/\failedOf e_=M)
  (G:=λp s'=>s'=s/\p=A3 (ltK ks) (kas_sort vs.length)) RU Jh (by lia) (λp e_ s' hp P7 hf ⟨e1,e2⟩=>⟨e1,by
   rw[kat_snds RU P7,e2];unfold iZ bq;rw[ZJ (by lia),<-hl],hf⟩)
  (xC (λi j C hi hj hC=>by
   obtain⟨t1,q1⟩:=cX hk (i:=i) (by lia);obtain⟨t2,q2⟩:=cX hk (i:=j) (by lia);unfold kas_ask;rw[q1,q2,keyLt'_oneType];exact oneLt_int hC) _ Tg ⟨rfl,rfl⟩)
 have ez:kA.toList.toArray.zip vs.toArray=kA.zip vs.toArray:=by simp
 rw[ez]at run;refine Z_ (YL run ?_ λ_ _ e=>e)
 rintro⟨⟨⟩,e_⟩ s' ⟨rfl,P7,hf⟩
 exact tail e_ P7 hf
def my{A:Za}{E:Z3->ZR->Prop}{l f:ZM}{vs:Z9 Z3}{xs ys:Z9 V}{ks:Z9 Int}{Q:Z3->ZR->Prop}{T:Hp->Prop}(I:Inv X pins σ H s)(hl:s.heap.IsList l vs.toArray)(rv:aab xs vs)(Nn:vs.length<5)(Lw:vs.length=ks.length)(t0:T H)
  (turn:∀(HQ:Z9 (ZM×Obj))(s':ZR)(H':Hp)(i:Nat)(u:Z3)(v:V)(k:Int),vs[i]?=U u->xs[i]?=U v->ks[i]?=U k->(∀p∈pins,p∈HQ)->T H'->Inv X HQ σ H' s'->wpAny (model X.prog X.w) A.in1.in1 (call (.ref f) [u]) (EP X HQ σ λy JT=>y=V.int k/\T JT) (λ_ _=>False) s')
  (Pp:aab ys (bq vs (iZ ks)))
  (h:∀D H' s',Inv X pins σ (upd H' D (.lst ys)) s'->T H'->H' D=M->Q (.ref D) s'):
  wpAny (model X.prog X.w) A (call (.builtin "sorted") [.ref l] [(Str.ofString "key",.ref f)]) Q E s:=by
 have hz:(64:Nat)<=sizeLine:=by rw[Yi];lia
 refine call_function_entry_kw kind_sorted plain_sorted entry_sorted (ksk_s1 _ _) ?_;unfold Builtin.«sorted»;refine Z_ (m:=checkCount "sorted" 1 1 _) (Z6 ?_);refine Z_ (collect_list hl ?_ (by lia));refine Z_ (wpAny_newList ?_ (by lia));obtain⟨n1,n2,n3,n4⟩:=uN s.heap vs;rw[n1];show wpAny _ _ _ _ _ {s with heap:=fU s.heap vs};generalize fU s.heap vs=g at n2 n3 n4⊢;have LM:=n3;have keep:=n4;have UH:g.objs.size=s.z+2:=n2;generalize hD:s.z+1=D at LM⊢;have OK:s.z<=D:=by lia
 refine Z_ (Y6 (wpAny_call_entry_kw slot_list_sort ⟨_,LM,rfl⟩ entry_list_sort ?body (ksk_l1 _ _)));show wpAny (model X.prog X.w) A.in1.in1 (Builtin.«list.sort» ⟨[.ref D],[(Str.ofString "key",.ref f)]⟩) _ _ _;rw[ksk_t1];have s1:=Ze g D (Obj.mapSeq λ_=>(#[]:Array Z3));obtain⟨e1,Nb⟩:∃e1,(g.update D (Obj.mapSeq λ_=>(#[]:Array Z3))).get? D=U (seqObj "list" #[] e1):=⟨_,WB LM λ_=>#[]⟩
 unfold ksk_tree;refine Z_ (Wb LM rfl ?_);refine Z_ (Xd LM rfl ?_ (by rw[ZT];lia) (Zu _));refine Z_ (seqEpoch_at Nb rfl ?_);refine Z_ (Wf ?_ (by show vs.length<=_;lia));refine Z_ (wpAny_newList ?_ (Zu _));refine Y6 ?_;have UJ:(g.update D (Obj.mapSeq λ_=>(#[]:Array Z3))).objs.size=s.z+2:=by rw[Xr,UH]
 have UA:((g.update D (Obj.mapSeq λ_=>(#[]:Array Z3))).push (seqObj "tuple" vs.toArray 0)).objs.size=s.z+3:=by rw[size_push',UJ]
 generalize Uz:((g.update D (Obj.mapSeq λ_=>(#[]:Array Z3))).push (seqObj "tuple" vs.toArray 0)).objs.size=kS at UA;have gk:(((g.update D (Obj.mapSeq λ_=>(#[]:Array Z3))).push (seqObj "tuple" vs.toArray 0)).push (seqObj "list" #[] 0)).get? kS=U (seqObj "list" #[] 0):=by rw[<-Uz];exact ZN _ rfl
 have gD:(((g.update D (Obj.mapSeq λ_=>(#[]:Array Z3))).push (seqObj "tuple" vs.toArray 0)).push (seqObj "list" #[] 0)).get? D=U (seqObj "list" #[] e1):=Z4 _ (Z4 _ Nb);have JD:∀b o,s.heap.get? b=U o->(((g.update D (Obj.mapSeq λ_=>(#[]:Array Z3))).push (seqObj "tuple" vs.toArray 0)).push (seqObj "list" #[] 0)).get? b=U o:=λb o q=>
  Z4 _ (Z4 _ ((s1.2 b (Zv (ZD (ZQ q) OK))).trans (keep b o q)))
 generalize hg2:((g.update D (Obj.mapSeq λ_=>(#[]:Array Z3))).push (seqObj "tuple" vs.toArray 0)).push (seqObj "list" #[] 0)=g2 at gk gD JD;have fk:eU X pins H kS:=I.abj (by lia) (I.hok.fresh (by lia));have fD:eU X pins H D:=I.abj OK (I.hok.fresh OK);have sk:X.n_.z<=kS:=Zn I.sz (by lia);have sD:X.n_.z<=D:=Zn I.sz OK;have Ox:kS≠D:=by lia
 have I1:Inv X pins σ H {s with heap:=g2,toks:=s.toks}:=I.kept (h':=g2) JD;have I2:Inv X ((kS,seqObj "list" #[] 0)::(D,seqObj "list" #[] e1)::pins) σ H {s with heap:=g2,toks:=s.toks}:=I1.aaL λp hp=>by
  rcases Z0.mp hp with rfl|hp;exact⟨gk,fk.1,fk.2.1,fk.2.2.1,λv z=>by cases z⟩;rcases Z0.mp hp with rfl|hp;exact⟨gD,fD.1,fD.2.1,fD.2.2.1,λv z=>by cases z⟩;exact I1.pin p (ZI _ hp)
 show wpAny (model X.prog X.w) A.in1.in1 (ksk_rest D (.ref f) Y vs.toArray e1 _) _ _ {s with heap:=_,toks:=s.toks};unfold ksk_rest;refine Z_ (YD ?_);rw[List.forIn_toArray];have hP:∀h' tk H',Inv X pins σ (upd H' D (.lst ys)) {s with heap:=h',toks:=tk}->True:=λ_ _ _ _=>trivial;refine Z_ (X2 _
  (λar _ s'=>∃(i:Nat)(kA:Array Z3)(c:Nat)(H':Hp),ar=vs.drop i/\i<=vs.length/\IntsAre kA.toList (ks.take i)/\T H'/\eU X pins H' kS/\eU X pins H' D/\Inv X ((kS,seqObj "list" kA c)::(D,seqObj "list" #[] e1)::pins) σ H' s') _ ?step ?fin _ _ ⟨0,#[],0,H,by simp,Zu _,by simpa using IntsAre.nil,t0,fk,fD,I2⟩)
 case step=>
  rintro u ar b s' ⟨i,kA,c,H',hr,hi,LO,tH,Sw,Qg,J⟩
  have j_:i<vs.length:=by
   rcases Nat.lt_or_ge i vs.length with q|q;exact q;rw[WH q]at hr;trivial
  rw[Zs j_]at hr;obtain⟨rfl,rfl⟩:=List.cons.inj hr;have hu:vs[i]?=U vs[i]:=by simp[j_]
  obtain⟨v,hv⟩:∃v,xs[i]?=U v:=⟨xs[i]'(by rw[rv.length];exact j_),by simp[rv.length,j_]⟩
  have RT:i<ks.length:=by lia
  refine Z_ (XO (YL (turn _ s' H' i vs[i] v ks[i] hu hv (by simp[RT]) (λp hp=>.tail _ (.tail _ hp)) tH J) (λy JF he=>?_) λ_ _ hF=>hF.elim));obtain⟨yv,JT,J',ry,rfl,Ta⟩:=he;obtain⟨t,rfl⟩:=ry;have nk:=J'.pin (kS,seqObj "list" kA c) (ZI _ (.head _));have nD:=J'.pin (D,seqObj "list" #[] e1) (ZI _ (.tail _ (.head _)));have IQ:eU X pins JT kS:=⟨nk.2.1,fk.2⟩;have Lk:eU X pins JT D:=⟨nD.2.1,fD.2⟩;have J0:Inv X pins σ JT JF:=J'.aaL λp hp=>J'.pin p (ZI _ (.tail _ (.tail _ hp)));have s3:=Ze JF.heap kS (Obj.mapSeq (·.push (.int ks[i] t)));obtain⟨c2,Ir⟩:∃c2,(JF.heap.update kS (Obj.mapSeq (·.push (.int ks[i] t)))).get? kS=U (seqObj "list" (kA.push (.int ks[i] t)) c2):=⟨_,WB nk.1 (·.push (.int ks[i] t))⟩
  have J1:Inv X pins σ JT {JF with heap:=JF.heap.update kS (Obj.mapSeq (·.push (.int ks[i] t))),toks:=JF.toks}:=J0.turned (it:=kS) (λb o hb q=>(s3.2 b hb).trans q) IQ.1 IQ.2.1 (.inr sk) IQ.2.2.2.2.1 IQ.2.2.2.2.2;have J2:Inv X ((kS,seqObj "list" (kA.push (.int ks[i] t)) c2)::(D,seqObj "list" #[] e1)::pins) σ JT {JF with heap:=JF.heap.update kS (Obj.mapSeq (·.push (.int ks[i] t))),toks:=JF.toks}:=J1.aaL λp hp=>by
   rcases Z0.mp hp with rfl|hp;exact⟨Ir,IQ.1,IQ.2.1,IQ.2.2.1,λv z=>by cases z⟩;rcases Z0.mp hp with rfl|hp;exact⟨(s3.2 D (ZA Ox)).trans nD.1,Lk.1,Lk.2.1,Lk.2.2.1,λv z=>by cases z⟩;exact J1.pin p (ZI _ hp)
  have hsz:kA.size=i:=by have:=LO.length;rw[Array.length_toList,X7]at this;lia
  refine Z_ (Xd nk.1 rfl ?_ (by rw[hsz];lia) (by show(kA.push _).size<=_;rw[Array.size_push,hsz];lia));refine Z6 ⟨i+1,kA.push (.int ks[i] t),c2,JT,rfl,j_,?_,Ta,IQ,Lk,J2⟩;rw[YE,List.take_succ_eq_append_getElem RT];exact LO.append (.cons _ _ .nil)
 case fin=>
  rintro b s' ⟨i,kA,c,H',hr,hi,LO,tH,Sw,Qg,J⟩
  have Ja:i=vs.length:=by
   rcases Nat.lt_or_ge i vs.length with q|q;rw[Zs q]at hr;trivial;lia
  subst Ja;have nk:=J.pin (kS,seqObj "list" kA c) (ZI _ (.head _));refine Z_ (Wb nk.1 rfl ?_);rw[Lw,List.take_length]at LO;exact ue J Sw Qg sk sD Ox LO Lw Nn Pp λh' tk J3=>⟨_,rfl,Z6 ⟨_,rfl,h D H' _ J3 tH Qg.1⟩⟩
end
noncomputable def gG(fk:D->Z7 D):Z9 D->Z7 (Z9 Int)
 |[]=>U []
 |d::ds=>match fk d,gG fk ds with|some (.int i),some l=>U (i::l)|_,_=>M
set_option tactic.hygienic true in
theorem k6:∀{ds:Z9 D}{ks:Z9 Int},gG fk ds=U ks->ds.length=ks.length
 |[],ks,h=>by simp only[gG,ZF]at h;subst h;rfl
 |d::ds,ks,h=>by
  simp only[gG]at h;split at h;rename_i i l q1 q2;obtain rfl:=Z8 h;simp[k6 q2];trivial
set_option tactic.hygienic true in
theorem ki:∀{ds:Z9 D}{ks:Z9 Int}{i:Nat}{d:D}{k:Int},gG fk ds=U ks->ds[i]?=U d->ks[i]?=U k->fk d=U (.int k)
 |[],ks,i,d,k,h,hd,hk=>by simp at hd
 |d'::ds,ks,i,d,k,h,hd,hk=>by
  simp only[gG]at h;split at h;rename_i i' l q1 q2;obtain rfl:=Z8 h;cases i with
  |zero=>simp at hd hk;subst hd;subst hk;exact q1
  |succ i=>simp at hd hk;exact ki q2 hd hk
  trivial
def mV(ds:Z9 D)(ks:Z9 Int):Z9 D:=(iZ ks).map λi=>ds.getD i .non
noncomputable def gT(x:Z7 D)(fk:D->Z7 D):Z7 D:=match x with
 |some (.lst ds)=>if ds.length<5 then(match gG fk ds with|some ks=>U (.lst (mV ds ks))|none=>M) else M
 |_=>M
set_option tactic.hygienic true in
def lU(h:gT x fk=U d):∃ds ks,x=U (.lst ds)/\ds.length<5/\gG fk ds=U ks/\d=.lst (mV ds ks):=by
 unfold gT at h;split at h;rename_i ds;split at h;rename_i hl;split at h;rename_i ks q;obtain rfl:=Z8 h;exact⟨ds,ks,rfl,hl,q,rfl⟩;trivial;trivial;trivial
theorem M1.order{K:Z5}{B:ZM->Prop}{H:Hp}{ds:Z9 D}{xs:Z9 V}(r:M1 K B H ds xs):∀(p:Z9 Nat),(∀i∈p,i<ds.length)->M1 K B H (p.map λi=>ds.getD i .non) (p.map λi=>xs.getD i .non)
 |[],_=>M1.nil
 |i::p,h=>by
  have hi:=h i (ZX ..);have hd:ds[i]?=U ds[i]:=by simp[hi]
  obtain⟨x,hx,rx⟩:=r.get hd;refine M1.cons ?_ (M1.order r p λj hj=>h j (Z1 _ hj));dsimp only;rw[Yz,Yz,hd,hx];exact rx
theorem aab.order(r:aab xs us):∀(p:Z9 Nat),(∀i∈p,i<xs.length)->aab (p.map λi=>xs.getD i .non) (bq us p)
 |[],_=>.nil
 |i::p,h=>by
  have hi:=h i (ZX ..);have hx:xs[i]?=U xs[i]:=by simp[hi]
  obtain⟨u,hu,ru⟩:=r.get hx;refine .cons ?_ (aab.order r p λj hj=>h j (Z1 _ hj));dsimp only;rw[Yz,Yz,hx,hu];exact ru
section
variable{X:Cx}{a JC:Expr}{fa fb:Mk->Z7 D}{params:Arguments}{Hw:Scope}{ND kp pos p:Pos}{c P:ZM}{lq x:Str}{k:Nat}
theorem mM(hr:aan (k+3) X.A)(g:Gl X "sorted")(hm:X.mg "sorted"=M)(hP:(P,lq)∈Lams.tb)(hq:X.env.qual++"<lambda>"=lq)(hC:PySem.W.CodeHd X.base c P)(HZ:X.env.code=.ref c)(Jb:closureFor Hw X.env=pure [])(Mh:defaultsOf params X.env=([],[]))
  (S:aaB [x] [x] Hw) (KO:∀(s:ZR)(u pm Jz:Z3)(c':ZM),BindsTo s (PySem.W.kla_fn "<lambda>" lq params JC Hw [] pm (.ref c') Jz) ⟨[u],[]⟩ [(x,u)])
  (hb:∀(f c':ZM)(A:Za)(s:ZR)(H:Hp),aan k (A.deeper (envOfC lq Hw s.z f (.ref c')))->DE (qw CX0 X.prog X.w X.K X.mg X.base [x] lq Hw f (.ref c') A X.stack s H (λ_ _ _=>False)).nox Y JC fb)
  (ha:DE X Y a fa)(hs:starEach [a] X.env=(Y,eval a X.env)::starEach [] X.env:=by rfl):
  DF X (.Call (.Name "sorted" p) [a] [⟨U "key",.Lambda params JC Hw ND,kp⟩] pos) (λδ=>gT (fa δ) λd=>fb [U (d,Y)]):=by
 intro pins s σ H Q I Uj;obtain⟨B,Hk,δ,d,R,e,kk⟩:=Uj;obtain⟨ds,ks,OB,hlen,p_,rfl⟩:=lU e;refine XE (eQ I g hm gy ?_ (by decide) (by decide));refine callWith_kw (thn ((ay ha aN hs) pos pins s σ H (λvs H1=>∃v,vs=[v]/\aae H H1/\Rep X.K B H1 (.lst ds) v) I ⟨B,Hk,δ,_,R,OB,λv H1 s1 r1=>⟨v,rfl,s1,r1⟩⟩) λus s1 ⟨vs,H1,I1,r1,v,hv,sm,rp⟩=>?_) ?_ ?_ rfl rfl;subst hv;obtain⟨u,rfl,ru⟩:=gE r1;show wpAny _ _ (evalAll [do let v <-eval (.Lambda params JC Hw ND) X.env;standAt pos;pure v]) _ _ _;unfold evalAll;refine Z_ (Z_ (wL I1 hP hq hC HZ Jb Mh λf c' pm Jz h' tk H2 OV I2 Lp U_ P4=>Z_ (wpAny_standAt (Z6 ?_))));unfold evalAll;refine Z_ (Y6 (Z6 (Z6 ?_)));have R1:Rel X.K B Hk δ σ H1:=R.to sm;have MF:Rep X.K B H2 (.lst ds) v:=rp.ext (Lp.ext R1.abx);simp only[Rep]at MF;obtain⟨l,xs,rfl,MO,rs⟩:=MF;cases ru;obtain⟨its,hv,hp,hz⟩:=I2.list MO.sq;have l1:=rs.length;have l2:=hv.length;have l3:=k6 p_;have s_:∀i∈iZ ks,i<ds.length:=λi hi=>by
  have:=(fH (ks:=ks) (by lia)).mem_iff.mp hi;rw[Y4]at this;lia
 show wpAny (model X.prog X.w) X.A (call (.builtin "sorted") [.ref l] [(Str.ofString "key",.ref f)]) _ _ _;have R2:Rel X.K B Hk δ σ H2:=R1.to Lp;refine my (ks:=ks) (T:=λH'=>aae H2 H') I2 (let ⟨o,n,ho,hc,_,hd⟩:=hp;⟨o,ho,hc,n,hd⟩) hv (by lia) (by lia) (aae.refl H2) (λHQ s' H' i u' v' k' e1 e2 e3 sub tH I'=>?_) (hv.order (iZ ks) λi hi=>by have:=s_ i hi;lia) λD H' s' J tH hD=>?_;have hi:i<ds.length:=by have:=(ZP.mp e2).1;lia
 have hd:ds[i]?=U ds[i]:=by simp[hi]
 obtain⟨y,hy,ry⟩:=rs.get hd;rw[e2]at hy;obtain rfl:=Z8 hy;obtain⟨w',hw,Hs⟩:=hv.get e2;rw[e1]at hw;obtain rfl:=Z8 hw;have k_:=ki p_ hd e3;have bo:∀a,B a->∃o:HOn,H' a=U o.1:=(R2.to tH).abx;obtain⟨more,U9⟩:=tH.tbl _ _ _ U_;refine v7 I' hr.in1.in1 (λe=>e.in1.in1) (sub _ (.head _)) U9 (by rw[Zl];exact cq _ _ P4) S (KO _ _ _ _ _) (.cons Hs .nil) rfl λhR=>⟨_,(hb f c' _ _ _ hR).nox,B,H',[U (ds[i],Y)],.int k',jw (N:=[x]) (ds:=[ds[i]]) bo (M1.cons (ry.ext (R2.ext tH)) M1.nil) (ZU _),k_,λv JT s r=>⟨?_,tH.trans s⟩⟩
 simp only[Rep]at r;exact r;have tD:H D=M:=(sm.trans (Lp.trans tH)).free hD;refine⟨.ref D,_,J.aaL λp hp=>J.pin p (ZI _ (.tail _ hp)),rfl,kk D _ ((sm.trans (Lp.trans tH)).trans (au hD)) tD ⟨_,ah,(rs.order (iZ ks) s_).ext ((R2.ext tH).trans ((R2.to tH).ext (au hD)))⟩⟩;rw[hs];rfl;rw[hs];rfl
end
end L2
namespace L2
open PySem PySem.Spec PyProof.Rows
variable[Lams]
section
open PySem.SeqAt
open PySem.AutoSeq1 (wpAny_loadPart')
open PySem.MeetsSeq PySem.MeetsSeq2 PySem.MeetsSeq3
def uQ(l b:ZM)(v w:Z3)(vs ws:Z9 Z3)(n n2:Nat)(dd Ik:Z7 ZM)(sl Ic:Array (Z7 Z3)):
  Meets (Builtin.«tuple.__eq__» ⟨[.ref l,.ref b],[]⟩)
   (λA R s=>s.heap.get? l=U {cls:=.type "tuple",dict:=dd,data:=.seq (v::vs).toArray n,slots:=sl}/\s.heap.get? b=U {cls:=.type "tuple",dict:=Ik,data:=.seq (w::ws).toArray n2,slots:=Ic}/\
    EqAt A.in1 s v w Y/\R (.ok (.ret (.bool Y))) s):=
 .of_wp λprog w' A R s h=>by
  obtain⟨hp,g,d,tk,os⟩:=s;obtain⟨hl,hb,he,h⟩:=h;have f2:=Wr
  wp_walk using wpAny_loadPart' hl,wpAny_loadPart' hb,X2 _ (λar b s'=>b.1=M/\s'=⟨hp,g,d,tk,os⟩/\ar=(v::vs).zip (w::ws)) _
  case turn=>
   rintro⟨y,x⟩ ar b s' ⟨Ij,rfl,hz⟩
   rw[List.zip_cons_cons]at hz;injection hz with M8 IV;injection M8 with hy I_;subst hy I_;refine Z_ (he prog w' _ _ ?_)
   wp_walk
   exact⟨_,rfl,by simpa using h⟩
  case fin=>
   rintro⟨b1,b2⟩ s' ⟨Ij,rfl,hz⟩
   rw[List.zip_cons_cons]at hz;trivial
  case h=>exact⟨rfl,rfl,rfl⟩
end
def EqAt.acs(t_:l≠b)(hl:s.heap.IsTuple l (v::vs).toArray)(hb:s.heap.IsTuple b (w::ws).toArray)(hu:A.units<cLine)(he:SeqAt.EqAt A.in1 s v w Y):SeqAt.EqAt A s (.ref l) (.ref b) Y:=by
 refine SeqAt.EqAt.of_refs t_ λprog w' E Q h=>?_;obtain⟨⟨cls,dd,data,sl⟩,ho,hc,n,hd⟩:=id hl;obtain⟨⟨Lm,Ik,data2,Ic⟩,IC,Ir,n2,hd2⟩:=id hb;simp only at hc hd Ir hd2;subst hc hd Ir hd2;exact Wo (op:=.Eq) ⟨_,ho,rfl⟩ ⟨_,IC,rfl⟩ PySem.F.slot_tuple_eq PySem.F.entry_tuple_eq (PySem.F.args_tuple_eq_2 _ _) (uQ l b v w vs ws n n2 dd Ik sl Ic)
  ⟨ho,IC,he,show Value.bool Y≠Value.notImplemented/\Q (.bool Y) s from⟨(λx=>nomatch x),h⟩⟩ hu
section
variable{A:Za}
def mJ(hj:j<items.size)(hz:items.size<=sizeLine)(hl:s.heap.get? l=U (seqObj "list" items n))(hit:SeqAt.EqAt A.in1 s items[j] x L)(h:R (.ok (.ret .none)) {s with heap:=s.heap.update l (Obj.mapSeq λxs=>xs.eraseIdxIfInBounds j)}):∀(k i:Nat),j - i=k->i<=j->(∀m (hm:m<items.size),i<=m->m<j->SeqAt.EqAt A.in1 s items[m] x Y)->
  codeAny (model prog w) A (.builtin "list.remove.loop" ⟨[.ref l,x,rawInt i],[]⟩) R s:=by
 intro k
 induction k with
 |zero=>
  intro i hk hi Ii;have e:i=j:=by lia
  subst e;refine YQ PySem.MeetsSeq.entry_remove_loop ?_;rw[Y9 X0 _];show wpAny _ A.in1 (Builtin.List.listItems (.ref l) >>= _) _ _ s;refine Z_ (Wb hl rfl ?_);simp only[Int.toNat_natCast];rw[Zb hj];refine Z_ (hit prog w _ _ ?_);simp only[Y_];refine Z_ (Xd hl rfl (Z6 h) hz (by show(items.eraseIdxIfInBounds i).size<=_;exact Zn (by unfold Array.eraseIdxIfInBounds;split<;>simp[Array.size_eraseIdx]) (Nat.le_succ_of_le hz)))
 |succ k ih=>
  intro i hk hi Ii;refine YQ PySem.MeetsSeq.entry_remove_loop ?_;rw[Y9 X0 _];show wpAny _ A.in1 (Builtin.List.listItems (.ref l) >>= _) _ _ s;refine Z_ (Wb hl rfl ?_);simp only[Int.toNat_natCast];have k_:i<items.size:=by lia
  rw[Zb k_];refine Z_ (Ii i k_ (ZU _) (by lia) prog w _ _ ?_);simp only[ZZ,Zm];exact Z6 ⟨Yp X0 _,ih (i+1) (by lia) (by lia) λm hm h1 h2=>Ii m hm (by lia) h2⟩
def mf(hj:j<items.size)(hz:items.size<=sizeLine)(hl:s.heap.get? l=U (seqObj "list" items n))(hit:SeqAt.EqAt A.in1 s items[j] x L)(Ii:∀m (hm:m<items.size),m<j->SeqAt.EqAt A.in1 s items[m] x Y)(h:Q .none {s with heap:=s.heap.update l (Obj.mapSeq λxs=>xs.eraseIdxIfInBounds j)}):wpAny (model prog w) A (call (.builtin "list.remove") [.ref l,x]) Q E s:=by
 refine Wn (S:=λA' R s'=>s'=s/\A'=A/\R (.ok (.ret .none)) {s with heap:=s.heap.update l (Obj.mapSeq λxs=>xs.eraseIdxIfInBounds j)}) PySem.F.slot_list_remove (show s.TypeIs (.ref l) "list" from⟨_,hl,rfl⟩) PySem.F.entry_list_remove (PySem.F.args_list_remove_2 _ _) ?_ ⟨rfl,rfl,h⟩
 rintro prog w A' R s' ⟨rfl,rfl,hR⟩
 show wpAny _ _ (pure _) _ _ _;exact Z6 ⟨Yp X0 _,mJ hj hz hl hit hR _ 0 rfl (Zu _) λm hm _ h2=>Ii m hm h2⟩
end
noncomputable def cQ(f:D->Z7 Bool):Z9 D->Z7 (Z9 Bool)
 |[]=>U []
 |d::ds=>match f d,cQ f ds with|some b,some bl=>U (b::bl)|_,_=>M
set_option tactic.hygienic true in
theorem g9:∀{ds:Z9 D}{bl:Z9 Bool},cQ f ds=U bl->bl.length=ds.length
 |[],bl,h=>by simp only[cQ,ZF]at h;subst h;rfl
 |d::ds,bl,h=>by
  simp only[cQ]at h;split at h;rename_i b l q1 q2;obtain rfl:=Z8 h;simp[g9 q2];trivial
set_option tactic.hygienic true in
theorem g8:∀{ds:Z9 D}{bl:Z9 Bool}{i:Nat}{d:D}{b:Bool},cQ f ds=U bl->ds[i]?=U d->bl[i]?=U b->f d=U b
 |[],bl,i,d,b,h,hd,hb=>by simp at hd
 |d'::ds,bl,i,d,b,h,hd,hb=>by
  simp only[cQ]at h;split at h;rename_i b' l q1 q2;obtain rfl:=Z8 h;cases i with
  |zero=>simp at hd hb;subst hd;subst hb;exact q1
  |succ i=>simp at hd hb;exact g8 q2 hd hb
  trivial
def aH(bl:Z9 Bool):Nat:=if L∈bl then bl.idxOf L else 0
def eE(d e:D):Bool:=match d,e with|.tup (a::_),.tup (b::_)=>okD 15 a&&okD 15 b&&decide (a≠b)|_,_=>Y
def qX:D->Bool
 |.tup _=>L
 |_=>Y
noncomputable def qY(r iL iT j:Nat)(bs:Z9 Bool)(ft:Mk->Z7 Bool)(δ:Mk)(gr:Mk->Z7 Out):Z7 Out:=match δ[r]? with
 |some (some (.lst ds,true))=>(match cQ (λd=>ft ((aq L bs δ).set j (U (d,Y)))) ds,ds[0]? with
  |some bl,some _=>if(iL<δ.length/\iT<δ.length/\j<δ.length/\ds.length<=lim)/\(ds.all qX&&(ds.take (aH bl)).all λd=>eE d (ds.getD (aH bl) .non))=L then
    gr (((δ.set iL (U (.lst (dY ds bl),L))).set iT (U (ds.getD (aH bl) .non,Y))).set r (U (.lst (ds.eraseIdx (aH bl)),L))) else M
  |_,_=>M)
 |_=>M
set_option tactic.hygienic true in
def qf(h:qY r iL iT j bs ft δ gr=U o):∃ds bl,δ[r]?=U (U (.lst ds,L))/\cQ (λd=>ft ((aq L bs δ).set j (U (d,Y)))) ds=U bl/\0<ds.length/\(iL<δ.length/\iT<δ.length/\j<δ.length/\ds.length<=lim)/\
  ds.all qX=L/\((ds.take (aH bl)).all λd=>eE d (ds.getD (aH bl) .non))=L/\
  gr (((δ.set iL (U (.lst (dY ds bl),L))).set iT (U (ds.getD (aH bl) .non,Y))).set r (U (.lst (ds.eraseIdx (aH bl)),L)))=U o:=by
 unfold qY at h;split at h;rename_i ds e;split at h;rename_i bl x eb ex;split at h;rename_i c;rw[ZK]at c;exact⟨ds,bl,e,eb,(ZP.mp ex).1,c.1,c.2.1,c.2.2,h⟩;trivial;trivial;trivial
theorem M1.erase{K:Z5}{B:ZM->Prop}{H:Hp}:∀{ds:Z9 D}{xs:Z9 V}(i:Nat),M1 K B H ds xs->M1 K B H (ds.eraseIdx i) (xs.eraseIdx i)
 |[],xs,i,r=>by simp only[M1]at r;subst r;exact M1.nil
 |d::ds,xs,0,r=>by simp only[M1]at r;obtain⟨x,q,rfl,r1,r2⟩:=r;exact r2
 |d::ds,xs,i+1,r=>by simp only[M1]at r;obtain⟨x,q,rfl,r1,r2⟩:=r;exact M1.cons r1 (M1.erase i r2)
theorem aab.erase:∀{xs:Z9 V}{us:Z9 Z3}(i:Nat),aab xs us->aab (xs.eraseIdx i) (us.eraseIdx i)
 |_,_,i,.nil=>by simpa using Paired.nil
 |_,_,0,.cons a b=>b
 |_,_,i+1,.cons a b=>.cons a (aab.erase i b)
theorem j7{α:Type}:∀{xs:Z9 α}{bl:Z9 Bool},bl.length=xs.length->(L∈bl->(dY xs bl)[0]?=xs[aH bl]?)/\(L∉bl->dY xs bl=[])
 |[],bl,h=>by cases bl with
  |nil=>exact⟨λh=>(by trivial),λ_=>rfl⟩
  |cons _ _=>simp at h
 |x::xs,bl,h=>by
  cases bl with
  |nil=>simp at h
  |cons b bl=>
   have ih:=j7 (xs:=xs) (bl:=bl) (by simpa using h);cases b with
   |true=>exact⟨λ_=>by unfold dY aH;simp,λn=>absurd (ZX ..) n⟩
   |false=>
    refine⟨λm=>?_,λn=>?_⟩;have m':L∈bl:=by simpa using m
    have:=ih.1 m';unfold dY;simp only[ZZ,Zm];rw[this];unfold aH;rw[ZO m',ZO m,List.idxOf_cons];simp;unfold dY;simp only[ZZ,Zm];exact ih.2 (λz=>n (Z1 _ z))
def mX{α:Type}{xs:Z9 α}{x:α}(h:xs[0]?=U x):atI xs 0=U x:=by
 have hl:=(ZP.mp h).1;have:=(ZP.mp h).2;simpa[atI,ixN,hl]using this
section
variable{X:Cx}
set_option tactic.hygienic true in
def pZ(hu:X.A.units+64<cLine):MtR X "list.remove" (λx vs H Q=>∃B l p ds xs j,x=.ref l/\vs=[.ref p]/\H l=U (.lst xs)/\M1 X.K B H ds xs/\xs[j]?=U (.ref p)/\ds.all qX=L/\((ds.take j).all λd=>eE d (ds.getD j .non))=L/\Q .non (upd H l (.lst (xs.eraseIdx j)))):=by
 intro pins s σ H x vs v us Q I rx rv h;obtain⟨B,l,p,ds,xs,j,rfl,rfl,hH,rs,hj,hT,Px,q⟩:=h;cases rx;obtain⟨u,rfl,ru⟩:=rv.one;cases ru;obtain⟨z,its,n,r,hl,e⟩:=I.ace hH;have l1:=r.length;have l2:=rs.length;have hjx:j<xs.length:=(ZP.mp hj).1;have RW:j<its.length:=by lia
 have RX:j<ds.length:=by lia
 obtain⟨w,hw,Hs⟩:=r.get hj;cases Hs;have ej:its[j]=Value.ref p:=by have:=ZP.mp hw;exact this.2
 refine mf (j:=j) (items:=its.toArray) (n:=n) (by simpa using RW) (by rw[ZT];lia) e ?_ (λm hm Ut=>?_) ?_;rw[List.getElem_toArray,ej];exact SeqAt.EqAt.same _;rw[List.getElem_toArray];have hmi:m<its.length:=by simpa using hm
 have RO:m<ds.length:=by lia
 have JI:=(ZW.mp Px) ds[m] (by
  rw[List.mem_iff_getElem?];exact⟨m,by rw[List.getElem?_take,ZO Ut];simp[RO]⟩)
 have Oz:ds.getD j .non=ds[j]:=by rw[Yz];simp[RX]
 rw[Oz]at JI;obtain⟨xm,T7,rm⟩:=rs.get (i:=m) (d:=ds[m]) (by simp[RO]);obtain⟨xj,Rw,rj⟩:=rs.get (i:=j) (d:=ds[j]) (by simp[RX]);rw[hj]at Rw;obtain rfl:=Z8 Rw;unfold eE at JI;split at JI;rename_i d1 d2 a as b bs e1 e2;rw[ZK,ZK]at JI;obtain⟨⟨oa,ob⟩,ne⟩:=JI;rw[e1]at rm;rw[e2]at rj;simp only[Rep]at rm rj;obtain⟨t1,y1,rfl,g1,q1⟩:=rm;obtain⟨t2,y2,z2,g2,q2⟩:=rj;cases z2;obtain⟨um,Ua,Tp⟩:=r.get T7;cases Tp;have em:its[m]=Value.ref t1:=by have:=ZP.mp Ua;exact this.2
 rw[em];simp only[M1]at q1 q2;obtain⟨v1,r1,rfl,ra,_⟩:=q1;obtain⟨v2,r2,rfl,rb,_⟩:=q2;obtain⟨i1,w1,S8,_⟩:=I.tuple (SqT.of g1);obtain⟨i2,w2,S7,_⟩:=I.tuple (SqT.of g2);cases w1 with
 |cons a1 a2=>cases w2 with
  |cons b1 b2=>
   have t_:t1≠p:=λz=>by
    subst z;rw[g1]at g2;cases g2;exact(Zj ne) (Rep.inj I oa ob ra rb)
   have q:=(A2 I 15 a b v1 v2 _ _ (X.A.in1.in1) oa ob (by show X.A.units+1+1+15+1<cLine;lia) ra rb a1 b1).2.1;rw[ZE (Zj ne)]at q;exact EqAt.acs t_ S8 S7 (by show X.A.units+1<cLine;lia) q
 trivial;refine⟨.non,_,I.abL (its':=its.eraseIdx j) (ys:=xs.eraseIdx j) hH e ?_ (aab.erase j r) ?_,rfl,q⟩;simp[Array.eraseIdxIfInBounds,RW];have:=List.length_eraseIdx_le xs j;lia
variable{r j iL iT:Nat}{xr xl xt xp:Str}{bs:Z9 Bool}{ifs:Z9 Expr}{scope:Scope}{ft:Mk->Z7 Bool}{ar:Z9 Stmt}{gr:Mk->Z7 Out}{pe pp pr LG py Jk Q8 HA MH MG Ra O5 O4 Rb Q_ apos i_ pt Ny pf O7:Pos}{k1 k2:Nat}
theorem tT(hu:X.A.units+64<cLine)(hN:X.N.Nodup)(hc:X.calm=L)(nr:Nm X r xr)(nl:Nm X iL xl)(nt:Nm X iT xt)(lt:Lc X iT xt)(hy:X.env.scope.names.lookup xl=U .local)(PD:r≠iL)(RB:r≠iT)(j_:iL≠iT)(S:aag X scope bs)
  (hg:∀cl C a_ b_ ex pn,PG (aE X scope cl C a_ b_ ex pn) (.Name xp pp) (gF j)) (ht:∀cl C a_ b_ ex pn,DTs (aE X scope cl C a_ b_ ex pn) ifs ft) (he:∀cl C a_ b_ ex pn,PE (aE X scope cl C a_ b_ ex pn) (.Name xp pe) (u6 j))
  (IV:DSs X ar gr)
  (JJ:swapsWith (.ListComp (.Name xp pe) [⟨.Name xp pp,.Name xr pr,ifs,0⟩] scope LG) (U (.Name xl py)) Jk.line X.env=pure L)
  (hs:∀x,foldedSetIterable (.Name xr pr) X.env x=pure x)
  (Ma:swapsWith (.IfExp (.Name xl MH) (.Subscript (.Name xl MG) (.Constant (.int 0) k1 O5) Rb) (.Subscript (.Name xr Ra) (.Constant (.int 0) k2 O4) Q_) pf) (U (.Name xt Q8)) HA.line X.env=pure Y)
  (QB:∀whole,isTrue (.Name xl MH) X.env whole=(do let v <-whole;standAt (Expr.pos (.Name xl MH));holding [v] (truthy v)))
  (LP:f9 (.Constant (.int 0) k1 O5)) (JO:f9 (.Constant (.int 0) k2 O4))
  (mc:Mc X.env (.Name xr O7) "remove" (.Name xt pt) [] apos i_)
  (L_:swapsWith (.Call (.Attribute (.Name xr O7) "remove" apos) [.Name xt pt] [] i_) M Ny.line X.env=pure Y):
  DSs X (.Assign [.Name xl py] (.ListComp (.Name xp pe) [⟨.Name xp pp,.Name xr pr,ifs,0⟩] scope LG) Jk::
   .Assign [.Name xt Q8] (.IfExp (.Name xl MH) (.Subscript (.Name xl MG) (.Constant (.int 0) k1 O5) Rb) (.Subscript (.Name xr Ra) (.Constant (.int 0) k2 O4) Q_) pf) HA::
   .Expr (.Call (.Attribute (.Name xr O7) "remove" apos) [.Name xt pt] [] i_) Ny::ar) (λδ=>qY r iL iT j bs ft δ gr):=by
 intro pins s σ H Dn I hq;obtain⟨B,Hk,δ,o,R,e,kk⟩:=hq;obtain⟨ds,bl,hr,hb,h0,⟨q1,q2,q3,q4⟩,hT,Px,e'⟩:=qf e;have Po:=R.len;have Rt:=g9 hb;refine bT (uv (tt:=tMT X.K ft) hc (rQ (bA nr.at' nr.vis nr.d1 nr.d2)) S hg ht he hN nl.at' hy JJ hs)
  (bT (iu hN lt.at' lt.loc (wX (oQ (bA nl.at' nl.vis nl.d1 nl.d2) QB) (wl lI (bA nl.at' nl.vis nl.d1 nl.d2) sF LP) (wl lI (bA nr.at' nr.vis nr.d1 nr.d2) sF JO)) Ma lt.fnl)
   (bT (me (qx Xn PySem.F.slot_list_remove PySem.F.type_list_remove (pZ hu) (bA nr.at' nr.vis nr.d1 nr.d2) (ay (bA nt.at' nt.vis nt.d1 nt.d2) aN mc.s) mc) L_) IV)) pins s σ H Dn I ?_
 unfold DP zo;refine sP (bl:=bl) (by rw[S.len,<-I.len]) R hr (by lia) Rt q4 (λi d c h1 h2=>g8 hb h1 h2) λl xs a H' h1 h3 h4 sm RK ha=>?_;have lx:=h4.length;have My:aH bl<ds.length:=by
  unfold aH;split;rename_i m;rw[<-Rt];exact YG m;exact h0
 have IA:H' l=U (.lst xs):=sm l _ h3;have R0:=R.to sm;have KY:M1 X.K B H' ds xs:=h4.ext (R.ext sm);have MR:ds[aH bl]?=U (ds.getD (aH bl) .non):=by rw[Yz];simp[My]
 obtain⟨w,hw,Nx⟩:=KY.get MR;obtain⟨ts,Vm⟩:∃ts,ds.getD (aH bl) .non=.tup ts:=by
  have:=(ZW.mp hT) _ (Zg MR);cases q:ds.getD (aH bl) .non with
  |tup ts=>exact⟨ts,rfl⟩
  |_=>rw[q]at this;simp[qX]at this
 have MF:=Nx;rw[Vm]at MF;simp only[Rep]at MF;obtain⟨p,ws,rfl,hp,rws⟩:=MF;have OM:(σ.set iL (U (.ref a)))[iL]?=U (U (.ref a)):=ZG (by lia);have QX:(σ.set iL (U (.ref a)))[r]?=U (U (.ref l)):=by rw[ZL (ZA PD)];exact h1
 have Uy:Hk a=M:=R.same.free RK;have R1:Rel X.K B Hk (δ.set iL (U (.lst (dY ds bl),L))) (σ.set iL (U (.ref a))) H':=R0.abK (by lia) Uy ⟨_,ha,fZ KY⟩ (λm f hm z1 z2=>by
  obtain⟨c,y1,_,y3⟩:=R.own m f z1;rw[z2]at y1;cases y1;obtain⟨u,hu⟩:=y3.there;rw[RK]at hu;trivial)
 have R2:=R1.set (i:=iT) (by rw[Zi];lia) Nx;have Jd:((δ.set iL (U (.lst (dY ds bl),L))).set iT (U (ds.getD (aH bl) .non,Y)))[r]?=U (U (.lst ds,L)):=by
  rw[ZL (ZA RB),ZL (ZA PD)];exact hr
 have Np:((σ.set iL (U (.ref a))).set iT (U (.ref p)))[r]?=U (U (.ref l)):=by rw[ZL (ZA RB)];exact QX
 have Qp:((σ.set iL (U (.ref a))).set iT (U (.ref p)))[iT]?=U (U (.ref p)):=ZG (by rw[Zi];lia);obtain⟨x5,R3⟩:=R2.abL (ds':=ds.eraseIdx (aH bl)) (xs':=xs.eraseIdx (aH bl)) Jd Np IA (KY.erase _);have fin:Co (tBM X.K "list" (λx vs H Q=>∃B l p ds xs j,x=.ref l/\vs=[.ref p]/\H l=U (.lst xs)/\M1 X.K B H ds xs/\xs[j]?=U (.ref p)/\ds.all qX=L/\((ds.take j).all λd=>eE d (ds.getD j .non))=L/\Q .non (upd H l (.lst (xs.eraseIdx j)))) (u6 r) (pI (u6 iT) ab0)) {Dn with nx:=tD X.K gr Dn} ((σ.set iL (U (.ref a))).set iT (U (.ref p))) H':=
  ⟨.ref l,Np,.inl ⟨rfl,_,SqL.of IA⟩,.ref p,Qp,B,l,p,ds,xs,aH bl,rfl,rfl,IA,KY,hw,hT,Px,B,Hk,_,o,R3,e',kk.ext ((R.ext sm).trans x5)⟩
 have ph:=j7 (xs:=xs) (bl:=bl) (by lia);by_cases m:L∈bl;have t_:(dY xs bl)[0]?=U (.ref p):=(ph.1 m).trans hw;refine⟨.ref a,OM,L,.inl ⟨_,SqL.of ha,?_⟩,?_⟩;cases q:dY xs bl with
 |nil=>rw[q]at t_;trivial
 |cons _ _=>simp
 exact Ar ⟨.ref a,OM,a,_,0,.ref p,rfl,rfl,SqL.of ha,mX t_,fin⟩;have QJ:=ph.2 m;have f0:aH bl=0:=by unfold aH;rw[ZJ m]
 refine⟨.ref a,OM,Y,.inl ⟨_,SqL.of ha,by rw[QJ];rfl⟩,?_⟩;rw[f0]at hw;exact zh ⟨.ref l,QX,l,xs,0,.ref p,rfl,rfl,SqL.of IA,mX hw,fin⟩
end
section
end
section
end
inductive acS where
 |o (x:Out)|rai
section
end
section
end
end L2
namespace L2
open PySem
def abf(t:Bool)(h:Heap)(c q:ZM)(n:Nat):Prop:=if t=L then h.IsTupleIter c q n else h.IsListIter c q n
def aat(t:Bool)(h:Heap)(q:ZM)(vs:Array Z3):Prop:=if t=L then h.IsTuple q vs else h.IsList q vs
def abf.obj(x:abf t h c q n):∃o,h.get? c=U o/\o.cls=.type (if t=L then "tuple_iterator" else "list_iterator")/\o.data=.fields #[.ref q,.int n 0]:=by
 cases t<;>exact x
def abf.to(x:abf t h c q n)(k:∀o,h.get? c=U o->h'.get? c=U o):abf t h' c q n:=by
 cases t<;>(obtain⟨o,e,r⟩:=x;exact⟨o,k o e,r⟩)
def aat.to(x:aat t h q vs)(k:∀o,h.get? q=U o->h'.get? q=U o):aat t h' q vs:=by
 cases t<;>(obtain⟨o,e,r⟩:=x;exact⟨o,k o e,r⟩)
section
variable{A:Za}{E:Z3->ZR->Prop}
def wx(hh:A.handled=M)(hc:s.heap.IsTupleIter c q n)(hq:s.heap.IsTuple q vs)(JA:∀v,vs[n]?=U v->∀h',h'.IsTupleIter c q (n+1)->Heap.SameBut c s.heap h'->Q v {s with heap:=h'})(JB:vs[n]?=M->∀h' e,Heap.ExtBut c s.heap h'->(∃o,h'.get? e=U o/\o.cls=.type "StopIteration")->E (.ref e) {s with heap:=h'}):
  wpAny (model prog w) A (Builtin.SmallTypes.nextOf (.ref c)) Q E s:=by
 have ty:=hc.typeIs;obtain⟨oc,gc,kc,dc⟩:=hc;obtain⟨oq,gq,_,m,dq⟩:=hq;unfold Builtin.SmallTypes.nextOf;refine Z_ (Yw (name:=Str.ofString "__next__") ty F.slot_tuple_iterator_next (YW F.slot_tuple_iterator_next ty F.entry_tuple_iterator_next ?body (F.args_tuple_iterator_next_1 _)));change wpAny _ _ (field (.ref c) 0 >>= _) _ E s;refine Z_ (XG gc dc (x:=.ref q) rfl ?_);change wpAny _ _ (if(Value.ref q==Value.none)=L then _ else _) _ E s;refine dy (by exact Zh) ?_;change wpAny _ _ (field (.ref c) 1 >>= _) _ E s;refine Z_ (XG gc dc (x:=.int n 0) rfl (Z_ (Yu gq dq ?_)));simp only[Int.toNat_natCast];rcases hv:vs[n]? with _|v
 .simp only[newExc,newTuple,raiseNew]
  refine Z_ (YD (Z_ (Ye gc dc (by simp) (Z_ (Z_ (Y3 ?_ (by size_fits)))))));refine Z_ (m:=firstArgMember _ _) (Wg (a:=Value.none) (by first|rfl|(simp only[firstArgMember];rfl)) (Y3 ?_ (by size_fits)));refine Z_ (wpAny_handled ?_);rw[show A.in1.handled=M from hh];exact Z_ (Z6 (wpAny_throw (JB hv _ _ (((Ze ..).extBut.push _).push _) ⟨_,ZN _ rfl,rfl⟩)))
 refine Z_ (Ye gc dc (by simp) (Z6 ⟨v,rfl,Z6 (JA v hv _ ⟨_,Zk _ gc (XW (Y5 dc _)),?_,?_⟩ (Ze ..))⟩));rw[Xg];exact kc;rw[Y5 dc];simp[rawInt]
def Dp(hh:A.handled=M)(hc:abf t s.heap c q n)(hq:aat t s.heap q vs)(JA:∀v,vs[n]?=U v->∀h',abf t h' c q (n+1)->Heap.SameBut c s.heap h'->Q v {s with heap:=h'})(JB:vs[n]?=M->∀h' e,Heap.ExtBut c s.heap h'->(∃o,h'.get? e=U o/\o.cls=.type "StopIteration")->E (.ref e) {s with heap:=h'}):
  wpAny (model prog w) A (Builtin.SmallTypes.nextOf (.ref c)) Q E s:=by
 cases t with
 |true=>exact wx hh hc hq JA JB
 |false=>
  rcases hv:vs[n]? with _|v;exact wpAny_nextOf_list_end hh hc hq hv (JB hv);exact wpAny_nextOf_list_item hc hq hv (JA v hv)
end
structure Zp (t u:Bool)(h:Heap)(z P O c d p q:ZM)(n:Nat)(f:Z3):Prop where
 zz:IsZip h z P O f
 pp:IsPair h P (.ref c) (.ref d)
 oo:∃a b,IsPair h O a b
 cc:abf t h c p n
 dd:abf u h d q n
structure Ap (z P O c d p q:ZM):Prop where
 nd:[z,P,O,c,d].Nodup
 p:p∉[z,P,O,c,d]
 q:q∉[z,P,O,c,d]
def ag(k:Heap.SameBut a h h')(n:b≠a)(e:h.get? b=U o):h'.get? b=U o:=(k.2 b n).trans e
section
variable{prog:YX}{w:YK}{A:Za}{E:Z3->ZR->Prop}{s:ZR}
def wB{Q:Z3->ZR->Prop}(hh:A.handled=M)(ap:Ap z P O c d p q)(Z:Zp t u s.heap z P O c d p q n .none)(hp:aat t s.heap p xs)(hq:aat u s.heap q ys)(item:∀x y,xs[n]?=U x->ys[n]?=U y->∀h',Zp t u h' z P O c d p q (n+1) (rawInt s.z)->IsPair h' s.z x y->h'.objs.size=s.z+1->
   (∀b o,b∉[z,P,O,c,d]->s.heap.get? b=U o->h'.get? b=U o)->Q (.ref s.z) {s with heap:=h'}) (stop:(xs[n]?=M\/ys[n]?=M)->∀h' e,(∀b o,b∉[z,P,O,c,d]->s.heap.get? b=U o->h'.get? b=U o)->(∃o,h'.get? e=U o/\o.cls=.type "StopIteration")->E (.ref e) {s with heap:=h'}):
  wpAny (model prog w) A (Builtin.«zip.__next__» ⟨[.ref z],[]⟩) (λr s'=>∃v,r=.done (.ret v)/\Q v s') E s:=by
 obtain⟨zz,pp,⟨a,b,oo⟩,cc,dd⟩:=Z;have nd:=ap.nd;have np:=ap.p;have nq:=ap.q;simp only[YM,Z0,Zr,YB,Xl,Yr,and_true,W4]at nd np nq;obtain⟨⟨zP,zO,zc,zd⟩,⟨PO,Pc,Pd⟩,⟨Oc,Od⟩,cd⟩:=nd;obtain⟨pz,pP,pO,pc,pd⟩:=np;obtain⟨qz,qP,qO,qc,qd⟩:=nq;change wpAny _ _ (field (.ref z) 2 >>= _) _ E s;refine Z_ (XG zz rfl (x:=.bool Y) rfl ?_);change wpAny _ _ (field (.ref z) 3 >>= _) _ E s;refine Z_ (XG zz rfl (x:=.ref P) rfl (Z_ (Yu pp rfl ?_)));change wpAny _ _ (Builtin.SmallTypes.ownedTupleIsFree (.ref z) >>= _) _ E s;unfold Builtin.SmallTypes.ownedTupleIsFree;refine Z_ (Z_ (XG zz rfl (x:=.none) rfl (Z6 ?_)));simp only[Y_];refine Z_ (YD (Z_ (XG zz rfl (x:=.ref O) rfl (Z_ (X1 zz (by simp) λIP Mj v_=>Z_ ?_)))));have Kk:IsZip IP z P O .ellipsis:=Mj;simp only[List.zipIdx_cons,List.zipIdx_nil,Wy,List.forIn_nil];refine Z_ (Z_ (wpAny_onRaise ?_));change wpAny _ _ (Builtin.SmallTypes.nextOf (.ref c) >>= _) _ _ _;refine Z_ (Dp (t:=t) hh (cc.to λo e=>ag v_ (ZA zc) e) (hp.to λo e=>ag v_ pz e) (λx hx JW Ll u_=>Z6 ?_) λhx JW e u_ he=>?_);have NB:IsPair JW O a b:=ag u_ Oc (ag v_ (ZA zO) oo);refine Z_ (Yu NB rfl (Z_ (wpAny_updateSeq_pair NB λL7 QQ HN=>Z_ (We (Z6 ?_)))));have Qt:IsPair L7 O x b:=QQ;refine Z_ (Z_ (wpAny_onRaise ?_));change wpAny _ _ (Builtin.SmallTypes.nextOf (.ref d) >>= _) _ _ _;refine Z_ (Dp (t:=u) hh (dd.to λo e=>ag HN (ZA Od) (ag u_ (ZA cd) (ag v_ (ZA zd) e))) (hq.to λo e=>ag HN qO (ag u_ qc (ag v_ qz e))) (λy hy D_ Ml Hu=>Z6 ?_) λhy D_ e Hu he=>?_);have NA:IsPair D_ O x b:=ag Hu Od Qt;refine Z_ (Yu NA rfl (Z_ (wpAny_updateSeq_pair NA λHB QP IM=>Z_ (We (Z6 (Z6 ?_))))));have Nz:IsPair HB O x y:=QP;have old:∀f o,f≠z->f≠O->f≠c->f≠d->s.heap.get? f=U o->HB.get? f=U o:=λf o n1 n2 n3 n4 e=>ag IM n2 (ag Hu n4 (ag HN n2 (ag u_ n3 (ag v_ n1 e))));have sz:HB.objs.size=s.z:=by rw[IM.1,Hu.1,HN.1,u_.1,v_.1]
 have Nr:IsZip HB z P O .ellipsis:=ag IM zO (ag Hu zd (ag HN zO (ag u_ zc Kk)));refine Z_ (Yu Nz rfl (Z_ (Wf ?_)));have Qr:IsZip (HB.push {cls:=.type "tuple",data:=.seq #[x,y]}) z P O .ellipsis:=Z4 _ Nr;change wpAny _ _ (Builtin.SmallTypes.ownedTupleHandOut (.ref z) (.ref HB.objs.size) >>= _) _ E _;unfold Builtin.SmallTypes.ownedTupleHandOut;refine Z_ (Z_ (X1 Qr (by simp) λQx QO L6=>?_));have Qq:IsZip Qx z P O (rawInt HB.objs.size):=QO;refine X1 Qq (by simp) λKm QN L5=>Z6 ⟨_,rfl,?_⟩;have Nq:IsZip Km z P O (rawInt HB.objs.size):=QN;have up:∀f o,f≠z->HB.get? f=U o->Km.get? f=U o:=λf o n1 e=>ag L5 n1 (ag L6 n1 (Z4 _ e));have lz:=ZQ Nr;have new:IsPair Km HB.objs.size x y:=ag L5 (Nat.ne_of_gt lz) (ag L6 (Nat.ne_of_gt lz) (ZN _ rfl));have MW:Km.objs.size=HB.objs.size+1:=by rw[L5.1,L6.1,YF]
 change Q (.ref HB.objs.size) _;rw[sz]at Nq new MW⊢;refine item x y hx hy Km ⟨Nq,up _ _ (ZA zP) (old _ _ (ZA zP) PO Pc Pd pp),⟨x,y,up _ _ (ZA zO) Nz⟩,?_,?_⟩ new MW λf o hf e=>?_;exact Ll.to λo e=>up _ o (ZA zc) (ag IM (ZA Oc) (ag Hu cd (ag HN (ZA Oc) e)));exact Ml.to λo e=>up _ o (ZA zd) (ag IM (ZA Od) e);simp only[Z0,Zr,YB,Xl]at hf;exact up f o hf.1 (old f o hf.1 hf.2.2.1 hf.2.2.2.1 hf.2.2.2.2 e);obtain⟨oe,ge,ke⟩:=he;have Ld:IsZip D_ z P O .ellipsis:=Hu _ _ zd (ag HN zO (ag u_ zc Kk));have ez:e≠z:=λr=>by rw[r]at ge;rw[Ld]at ge;obtain rfl:=Z8 ge;simp at ke
 refine X1 Ld (by simp) λHB _ IM=>stop (.inr hy) HB e (λf o hf g=>?_) ⟨oe,ag IM ez ge,ke⟩;simp only[Z0,Zr,YB,Xl]at hf;obtain⟨n1,_,n2,n3,n4⟩:=hf;exact ag IM n1 (Hu _ _ n4 (ag HN n2 (ag u_ n3 (ag v_ n1 g))));obtain⟨oe,ge,ke⟩:=he;have Nt:IsZip JW z P O .ellipsis:=u_ _ _ zc Kk;have ez:e≠z:=λr=>by rw[r]at ge;rw[Nt]at ge;obtain rfl:=Z8 ge;simp at ke
 refine X1 Nt (by simp) λL7 _ HN=>stop (.inl hx) L7 e (λf o hf g=>?_) ⟨oe,ag HN ez ge,ke⟩;simp only[Z0,Zr,YB,Xl]at hf;exact ag HN hf.1 (u_ _ _ hf.2.2.2.1 (ag v_ hf.1 g))
end
end L2
namespace L2
open PySem
variable[Lams]
section
variable{h':Heap}
def Inv.abN{t':Nat}{fp:Z9 ZM}{T:ZM}{o:HO}(I:Inv X pins σ H s)(k:∀b u,b∉fp->s.heap.get? b=U u->h'.get? b=U u)(hf:∀b∈fp,eU X pins H b)
  (hT:s.z<=T)(new:aal X.prog X.w (upd H T o) h' T o):Inv X pins σ (upd H T o) {s with heap:=h',toks:=t'}:=by
 have hn:H T=M:=I.hok.fresh hT;have IE:∀b u,H b=U u->b∉fp:=λb u e z=>by rw[(hf b z).1]at e;trivial
 have lo:∀b u,s.heap.get? b=U u->b≠T:=λb u e=>Zv (ZD (ZQ e) hT);refine I.step (g':=s.gens) (d':=s.drawn) (ch:=fp) (λb hb=>?_) (λb u _ _ hc e _=>k b u hc e) (λb u _ _ hc e _=>⟨u.slots,k b u hc e⟩) (λb u _ e n=>by rw[ai (lo b u e)];exact n)
  (λb u hc e=>⟨u,k b u hc e⟩) (λb xs e=>by rw[ai (av e hn)];exact e) (λb u v e=>by rw[ai (av e hn)];exact e) (λb lq ps e=>⟨#[],by rw[ai (av e hn),e];simp⟩) (λm hm=>?_) (λb u e=>?_) I.bare
 obtain⟨_,f1,_,f3,f4,f5⟩:=hf b hb;exact⟨f3,f1,f4,f5⟩;obtain⟨ob,es,ep,ho,r⟩:=hm;exact⟨ob,es,ep,k _ ob (λz=>(hf _ z).2.1 rfl) ho,r⟩;by_cases hb:b=T;subst hb;rw[ah]at e;obtain rfl:=Z8 e;exact new;rw[ai hb]at e;refine(I.hok b u e).abi (λc v hc q=>k c v ?_ q) (λc q=>by rw[ai (av q hn)];exact q) λc xs q=>by rw[ai (av q hn)];exact q
 rcases hc with z|z;rw[z];exact IE b u e;exact IE c _ z
def Inv.turns{t':Nat}{fp:Z9 ZM}(I:Inv X pins σ H s)(k:∀b u,b∉fp->s.heap.get? b=U u->h'.get? b=U u)(hf:∀b∈fp,eU X pins H b):Inv X pins σ H {s with heap:=h',toks:=t'}:=by
 have IE:∀b u,H b=U u->b∉fp:=λb u e z=>by rw[(hf b z).1]at e;trivial
 refine I.step (g':=s.gens) (d':=s.drawn) (ch:=fp) (λb hb=>?_) (λb u _ _ hc e _=>k b u hc e) (λb u _ _ hc e _=>⟨u.slots,k b u hc e⟩) (λb u _ e n=>n)
  (λb u hc e=>⟨u,k b u hc e⟩) (λb xs e=>e) (λb u v e=>e) (λb lq ps e=>⟨#[],by rw[e];simp⟩) (λm hm=>?_) (λb u e=>?_) I.bare
 obtain⟨_,f1,_,f3,f4,f5⟩:=hf b hb;exact⟨f3,f1,f4,f5⟩;obtain⟨ob,es,ep,ho,r⟩:=hm;exact⟨ob,es,ep,k _ ob (λz=>(hf _ z).2.1 rfl) ho,r⟩;refine(I.hok b u e).abi (λc v hc q=>k c v ?_ q) (λ_ q=>q) λ_ _ q=>q;rcases hc with z|z
 rw[z];exact IE b u e;exact IE c _ z
end
def SqV(t:Bool)(K:Z5)(H:Hp)(a:ZM)(xs:Z9 V):Prop:=if t=L then SqT K H a xs else SqL K H a xs
section
variable{A:Za}
def iJ(hh:A.handled=M)(ap:Ap z P O c d p q)(Z:Zp t u s.heap z P O c d p q n .none)(hp:aat t s.heap p xs)(hq:aat u s.heap q ys)(item:∀x y,xs[n]?=U x->ys[n]?=U y->∀h',Zp t u h' z P O c d p q (n+1) (rawInt s.z)->IsPair h' s.z x y->h'.objs.size=s.z+1->
   (∀b o,b∉[z,P,O,c,d]->s.heap.get? b=U o->h'.get? b=U o)->Q (U (.ref s.z)) {s with heap:=h'}) (stop:(xs[n]?=M\/ys[n]?=M)->∀h',(∀b o,b∉[z,P,O,c,d]->s.heap.get? b=U o->h'.get? b=U o)->Q M {s with heap:=h'}):
  wpAny (model prog w) A (pyNext (.ref z)) Q E s:=by
 have ty:s.TypeIs (.ref z) "zip":=⟨_,Z.zz,rfl⟩;unfold pyNext;refine Z_ (XO (Yw (name:=Str.ofString "__next__") ty Wj (YW Wj ty F.entry_zip_next (wB hh ap Z hp hq (λx y hx hy h' b1 b2 b3 b4=>Z6 (item x y hx hy h' b1 b2 b3 b4)) λhn h' e k he=>?_) (F.args_zip_next_1 _))));obtain⟨o,ho,hc⟩:=he;exact Z_ (X3 (T:="StopIteration") (b:=L) ⟨o,ho,hc⟩ WR (Z6 (stop hn h' k)))
end
section
def Inv.abB(I:Inv X pins σ H s)(h:SqV t X.K H a xs):∃its,aab xs its/\aat t s.heap a its.toArray:=by
 cases t with
 |true=>obtain⟨its,rv,p,_⟩:=I.tuple h;exact⟨its,rv,p⟩
 |false=>obtain⟨its,rv,p,_⟩:=I.list h;exact⟨its,rv,p.isList⟩
def Inv.abA(I:Inv X pins σ H s)(h:SqV t X.K H a xs)(h':SqV t X.K H a ys):xs=ys:=by
 cases t with
 |true=>exact I.aaY h h'
 |false=>exact I.aaN h h'
end
noncomputable def Itz(t u:Bool)(K:Z5)(p q:ZM):It:=
 ⟨λi H=>∃xs ys x y,SqV t K H p xs/\SqV u K H q ys/\xs[i]?=U x/\ys[i]?=U y,
  λi H v H'=>∃T x y,H T=M/\v=.ref T/\H'=upd H T (.tup [x,y])/\(∀xs,SqV t K H p xs->xs[i]?=U x)/\∀ys,SqV u K H q ys->ys[i]?=U y,
  λi H=>∃xs ys,SqV t K H p xs/\SqV u K H q ys/\(xs.length<=i\/ys.length<=i)⟩
def ww{x1}(ap:Ap z Pr O c d p q):
  Turn P w K (.Tuple elts x1 pos) (Itz t u K p q) [z,Pr,O,c,d] z (λn h=>Zp t u h z Pr O c d p q n .none) where
 mem:=by simp
 obj:=λi h st b hb=>by
  obtain⟨zz,pp,⟨a,a',oo⟩,cc,dd⟩:=st;simp only[Z0,Zr,YB]at hb;rcases hb with rfl|rfl|rfl|rfl|rfl;exact⟨_,zz,λv e=>by cases e⟩;exact⟨_,pp,λv e=>by cases e⟩;exact⟨_,oo,λv e=>by cases e⟩;obtain⟨o,e,_,hd⟩:=cc.obj;exact⟨o,e,λv e'=>by rw[hd]at e';cases e'⟩;obtain⟨o,e,_,hd⟩:=dd.obj;exact⟨o,e,λv e'=>by rw[hd]at e';cases e'⟩
 keep:=λi h h' st k=>by
  obtain⟨zz,pp,⟨a,a',oo⟩,cc,dd⟩:=st;exact⟨k z (by simp) _ zz,k Pr (by simp) _ pp,⟨a,a',k O (by simp) _ oo⟩,cc.to λo e=>k c (by simp) o e,dd.to λo e=>k d (by simp) o e⟩
 item:=by
  intro X hP hw hK hc i pins s σ H E I hf st hg;subst hP hw hK;obtain⟨xs,ys,x,y,h1,h2,hx,hy⟩:=hg;obtain⟨is,ri,sp⟩:=I.abB h1;obtain⟨js,rj,sq⟩:=I.abB h2;obtain⟨ux,e1,r1⟩:=ri.get hx;obtain⟨uy,e2,r2⟩:=rj.get hy;refine iJ (I.ok.hd hc) ap st sp sq (λvx vy MK MJ h' Z' new sz k=>?_) λhn=>?_;have ex:vx=ux:=by simp at MK;rw[e1]at MK;exact(Z8 MK).symm
  have ey:vy=uy:=by simp at MJ;rw[e2]at MJ;exact(Z8 MJ).symm
  subst ex ey;refine⟨_,rfl,?_⟩;have hT:H s.z=M:=I.hok.fresh (ZU _);have nT:∀b∈[z,Pr,O,c,d],b≠s.z:=λb hb e=>by
   obtain⟨o,g,_⟩:=(show ∀b∈[z,Pr,O,c,d],∃o,s.heap.get? b=U o/\∀v,o.data≠.cell v from λb hb=>by
    obtain⟨zz,pp,⟨a,a',oo⟩,cc,dd⟩:=st;simp only[Z0,Zr,YB]at hb;rcases hb with rfl|rfl|rfl|rfl|rfl;exact⟨_,zz,λv e=>by cases e⟩;exact⟨_,pp,λv e=>by cases e⟩;exact⟨_,oo,λv e=>by cases e⟩;obtain⟨o,e,_,hd⟩:=cc.obj;exact⟨o,e,λv e'=>by rw[hd]at e';cases e'⟩;obtain⟨o,e,_,hd⟩:=dd.obj;exact⟨o,e,λv e'=>by rw[hd]at e';cases e'⟩) b hb
   rw[e]at g;exact absurd (ZQ g) (Zd _)
  have I1:Inv X pins σ (upd H s.z (.tup [x,y])) {s with heap:=h'}:=I.abN (t':=s.toks) k hf (ZU _) ⟨by show 2<=sizeLine;decide,[vx,vy],.cons r1 (.cons r2 .nil),⟨_,new,rfl,_,rfl⟩⟩;obtain⟨zz,pp,oo,cc,dd⟩:=Z';have nd:=ap.nd;simp only[YM,Z0,Zr,YB,Xl,Yr,and_true,W4]at nd;refine wpAny_letOwnedTupleGo_zip zz λg2 z2 m2=>?_;have hz:=hf z (by simp);refine⟨.ref s.z,upd H s.z (.tup [x,y]),I1.turned (t':=s.toks) (λb o hb e=>ag m2 hb e) (by rw[ai (nT z (by simp))];exact hz.1) hz.2.1 hz.2.2.2.1 hz.2.2.2.2.1 hz.2.2.2.2.2,rfl,
   ⟨s.z,x,y,hT,rfl,rfl,λxs' h=>by rw[I.abA h h1];exact hx,λS3 h=>by rw[I.abA h h2];exact hy⟩,?_,λb hb=>by rw[ai (nT b hb)];exact(hf b hb).1⟩
  obtain⟨a,a',oo⟩:=oo;exact⟨z2,ag m2 (ZA nd.1.1) pp,⟨a,a',ag m2 (ZA nd.1.2.1) oo⟩,cc.to λo e=>ag m2 (ZA nd.1.2.2.1) e,dd.to λo e=>ag m2 (ZA nd.1.2.2.2) e⟩;exfalso;rcases hn with hn|hn;simp at hn;have:=(ZP.mp e1).1;lia;simp at hn;have:=(ZP.mp e2).1;lia
 done:=by
  intro X hP hw hK hc i pins s σ H E I hf st hg;subst hP hw hK;obtain⟨xs,ys,h1,h2,hl⟩:=hg;obtain⟨is,ri,sp⟩:=I.abB h1;obtain⟨js,rj,sq⟩:=I.abB h2;have l1:=ri.length;have l2:=rj.length;refine iJ (I.ok.hd hc) ap st sp sq (λvx vy MK MJ h' Z' new sz k=>?_) λhn h' k=>⟨rfl,I.turns (t':=s.toks) k hf⟩
  exfalso;simp at MK MJ;have a1:=(ZP.mp MK).1;have a2:=(ZP.mp MJ).1;lia
 self:=λ_ _ _ _ _ st h=>wpAny_pyIter_zip st.zz h
end L2
namespace L2
open PySem PySem.Spec PyProof.Rows
variable[Lams]
def itO(t:Bool)(p:ZM):Obj:={cls:=.type (if t=L then "tuple_iterator" else "list_iterator"),data:=.fields #[.ref p,.int 0 0]}
def dM(hp:aat t s.heap p xs)(h:Q (.ref s.z) {s with heap:=s.heap.push (itO t p)}):wpAny (model prog w) A (pyIter (.ref p)) Q E s:=by
 cases t with
 |true=>exact wpAny_pyIter_tuple hp h
 |false=>exact Xh hp h
def zO(a b:Z3):Obj:={cls:=.type "tuple",data:=.seq #[a,b]}
noncomputable def xa(t u:Bool)(h:Heap)(p q:ZM):Heap:=
 ((((h.push (itO t p)).push (itO u q)).push (zO (.ref h.objs.size) (.ref (h.push (itO t p)).objs.size))).push (zO .none .none)).push
  {cls:=.type "zip",data:=.fields #[.none,.bool Y,.bool Y,.ref ((h.push (itO t p)).push (itO u q)).objs.size,.ref (((h.push (itO t p)).push (itO u q)).push (zO (.ref h.objs.size) (.ref (h.push (itO t p)).objs.size))).objs.size]}
def AU(t u:Bool)(p q:ZM)(xs ys:Array Z3):
  Meets (Builtin.«zip.__new__» ⟨[.type "zip",.ref p,.ref q],[]⟩) (λ_ R s=>aat t s.heap p xs/\aat u s.heap q ys/\
   R (.ok (.ret (.ref (((((s.heap.push (itO t p)).push (itO u q)).push (zO (.ref s.z) (.ref (s.heap.push (itO t p)).objs.size))).push (zO .none .none)).objs.size)))) {s with heap:=xa t u s.heap p q}):=
 .of_wp λprog w A R s h=>by
  obtain⟨hp,g,d,tk,os⟩:=s;obtain⟨h1,h2,h⟩:=h;have Ko:=sub_zip;have k1:aat t (Shared.heap ⟨hp,g,d,tk,os⟩) p xs:=h1;have k2:aat u (Shared.heap ⟨hp.push (itO t p),g,d,tk,os⟩) q ys:=h2.to λo e=>Z4 _ e
  wp_walk using dM k1,dM k2
  exact⟨_,rfl,h⟩
def nQ(hp:aat t s.heap p xs)(hq:aat u s.heap q ys)(h:∀z P O c d h',Ap z P O c d p q->Zp t u h' z P O c d p q 0 .none->(∀b∈[z,P,O,c,d],s.z<=b)->(∀b o,s.heap.get? b=U o->h'.get? b=U o)->Q (.ref z) {s with heap:=h'}):
  wpAny (model prog w) A (call (.type "zip") [.ref p,.ref q]) Q E s:=by
 refine callType_new F.called_zip (by decide) (F.typeCall_zip_2 _ _) (F.newCall_zip_2 _ _) (λobj=>F.args_object_init_3 obj _ _) F.entry_zip_new (AU t u p q xs ys) ⟨hp,hq,?_⟩;have lp:p<s.z:=by cases t<;>(obtain⟨o,e,_⟩:=hp;exact ZQ e)
 have lq:q<s.z:=by cases u<;>(obtain⟨o,e,_⟩:=hq;exact ZQ e)
 generalize e1:s.heap.push (itO t p)=k1;generalize e2:k1.push (itO u q)=k2;generalize e3:k2.push (zO (.ref s.z) (.ref k1.objs.size))=k3;generalize e4:k3.push (zO .none .none)=k4;have hL:xa t u s.heap p q=k4.push {cls:=.type "zip",data:=.fields #[.none,.bool Y,.bool Y,.ref k2.objs.size,.ref k3.objs.size]}:=by unfold xa;rw[e1,e2,e3,e4]
 have s1:k1.objs.size=s.z+1:=by rw[<-e1];exact YF ..
 have s2:k2.objs.size=s.z+2:=by rw[<-e2,YF,s1]
 have s3:k3.objs.size=s.z+3:=by rw[<-e3,YF,s2]
 have s4:k4.objs.size=s.z+4:=by rw[<-e4,YF,s3]
 have u1:∀{b o},s.heap.get? b=U o->k1.get? b=U o:=λe=>by rw[<-e1];exact Z4 _ e
 have u2:∀{b o},k1.get? b=U o->k2.get? b=U o:=λe=>by rw[<-e2];exact Z4 _ e
 have u3:∀{b o},k2.get? b=U o->k3.get? b=U o:=λe=>by rw[<-e3];exact Z4 _ e
 have u4:∀{b o},k3.get? b=U o->k4.get? b=U o:=λe=>by rw[<-e4];exact Z4 _ e
 have u5:∀{b o},k4.get? b=U o->(xa t u s.heap p q).get? b=U o:=λe=>by rw[hL];exact Z4 _ e
 have z5:IsZip (xa t u s.heap p q) k4.objs.size k2.objs.size k3.objs.size .none:=by rw[hL];exact ZN _ rfl
 have o5:IsPair (xa t u s.heap p q) k3.objs.size .none .none:=u5 (by rw[<-e4];exact ZN _ rfl);have p5:IsPair (xa t u s.heap p q) k2.objs.size (.ref s.z) (.ref k1.objs.size):=u5 (u4 (by rw[<-e3];exact ZN _ rfl));have d5:(xa t u s.heap p q).get? k1.objs.size=U (itO u q):=u5 (u4 (u3 (by rw[<-e2];exact ZN _ rfl)));have c5:(xa t u s.heap p q).get? s.z=U (itO t p):=u5 (u4 (u3 (u2 (by rw[<-e1];exact ZN _ rfl))));refine⟨⟨_,z5,rfl⟩,h k4.objs.size k2.objs.size k3.objs.size s.z k1.objs.size _ ⟨?_,?_,?_⟩ ⟨z5,p5,⟨_,_,o5⟩,?_,?_⟩ ?_ λb o e=>u5 (u4 (u3 (u2 (u1 e))))⟩
 .rw[s1,s2,s3,s4]
  simp only[YM,Z0,Zr,YB,Xl,Yr,and_true,W4];refine⟨⟨?_,?_,?_,?_⟩,⟨?_,?_,?_⟩,⟨?_,?_⟩,?_⟩<;>(intro e;have e':(_:Nat)=_:=e;lia)
 rw[s1,s2,s3,s4];simp only[Z0,Zr,YB,Xl];have IE:∀k:Nat,p≠s.z+k:=λk=>Zv (ZD lp (Nat.le_add_right _ k));exact⟨IE 4,IE 2,IE 3,IE 0,IE 1⟩;rw[s1,s2,s3,s4];simp only[Z0,Zr,YB,Xl];have IE:∀k:Nat,q≠s.z+k:=λk=>Zv (ZD lq (Nat.le_add_right _ k));exact⟨IE 4,IE 2,IE 3,IE 0,IE 1⟩
 .cases t<;>exact⟨_,c5,rfl,rfl⟩
 .cases u<;>exact⟨_,d5,rfl,rfl⟩
 .rw[s1,s2,s3,s4]
  intro b hb;simp only[Z0,Zr,YB]at hb;have:(s.z:Nat)<=(b:Nat):=by rcases hb with rfl|rfl|rfl|rfl|rfl<;>lia
  exact this
section
noncomputable def F7(t u:Bool)(K:Z5)(ta:TA):TI:=λσ H R=>ta σ H λvs H1=>∃p q,vs=[.ref p,.ref q]/\(∃xs,SqV t K H1 p xs)/\(∃ys,SqV u K H1 q ys)/\R (Itz t u K p q) H1
def Db(hg:Gl X "zip")(hm:X.mg "zip"=M)(ha:PA X [a,b] ta)(hs:starEach [a,b] X.env=[(Y,eval a X.env),(Y,eval b X.env)]:=by rfl)(Iq:starEach [b] X.env=[(Y,eval b X.env)]:=by rfl):
  PI X (.Tuple elts x1 tp) (.Call (.Name "zip" p) [a,b] [] pos) (F7 t u X.K ta):=by
 intro pins s σ H R I h;refine Call_ (eQ I hg hm boot_zip (Yn (thn (ha pos pins s σ H _ I h) λus s1 ⟨vs,H1,I1,r1,q1⟩=>?_) (by rw[hs,Iq]) (by rw[Iq];rfl)));obtain⟨l1,l2,e,⟨xs,h1⟩,⟨ys,h2⟩,q⟩:=q1;subst e;cases r1 with
 |cons r rr=>
  cases rr with
  |cons r' rr=>
   cases rr;cases r;cases r';obtain⟨is,ri,sp⟩:=I1.abB h1;obtain⟨js,rj,sq⟩:=I1.abB h2;refine nQ sp sq λz P O c d h' ap Z hi k=>?_;have I2:Inv X pins σ H1 {s1 with heap:=h'}:=I1.kept (t':=s1.toks) k;refine wpAny_pyIter_zip (s:={s1 with heap:=h'}) Z.zz ⟨z,[z,P,O,c,d],_,_,H1,rfl,I2,ww ap,Z,λb hb=>?_,q⟩;have hn:H1 b=M:=I1.hok.fresh (hi b hb);obtain⟨f0,f1,f2,f3,f4,f5⟩:=I1.abj (hi b hb) hn;exact⟨f0,f1,f2,f3,f4,f5⟩
def cy:Z9 D->Z9 D->Z9 D
 |d::ds,e::es=>.tup [d,e]::cy ds es
 |_,_=>[]
theorem jZ:∀(ds es:Z9 D)(i:Nat)(x:D),(cy ds es)[i]?=U x->∃d e,ds[i]?=U d/\es[i]?=U e/\x=.tup [d,e]
 |[],_,i,x,h=>by simp[cy]at h
 |d::ds,[],i,x,h=>by simp[cy]at h
 |d::ds,e::es,0,x,h=>by simp[cy]at h;exact⟨d,e,rfl,rfl,h.symm⟩
 |d::ds,e::es,i+1,x,h=>by simp[cy]at h;simpa using jZ ds es i x h
theorem gj:∀ds es:Z9 D,(cy ds es).length=min ds.length es.length
 |[],_=>by simp[cy]
 |d::ds,[]=>by simp[cy]
 |d::ds,e::es=>by simp[cy,gj ds es]
def Dl(t:Bool)(x:Z7 D):Z7 (Z9 D):=if t=L then u7 x else b9 x
def CZ(t u:Bool)(x y:Z7 D):Z7 (Z9 D):=ae (Dl t x) λds=>ae (Dl u y) λes=>U (cy ds es)
def fw{K:Z5}{B:ZM->Prop}{H:Hp}{t:Bool}{x:Z7 D}{ds:Z9 D}{v:V}{d:D}(h:Dl t x=U ds)(e:x=U d)(r:Rep K B H d v):∃l xs,v=.ref l/\M1 K B H ds xs/\∀H',Ext B H H'->SqV t K H' l xs:=by
 cases t with
 |true=>
  have:=kW h;rw[e]at this;obtain rfl:=Z8 this;simp only[Rep]at r;obtain⟨l,xs,rfl,hq,rs⟩:=r;exact⟨l,xs,rfl,rs,λH' x=>SqT.of (x.aa1 _ _ hq)⟩
 |false=>
  have:=jR h;rw[e]at this;obtain rfl:=Z8 this;simp only[Rep]at r;obtain⟨l,xs,rfl,hq,rs⟩:=r;exact⟨l,xs,rfl,rs,λH' x=>(hq.ext x).sq⟩
theorem BY{t u m:Bool}{a b:Expr}{fa fb:Mk->Z7 D}{p pos:Pos}(g:Gl X "zip")(hm:X.mg "zip"=M)(h:DE X m a fa)(h':DE X m b fb)(hs:starEach [a,b] X.env=[(Y,eval a X.env),(Y,eval b X.env)]:=by rfl)(Iq:starEach [b] X.env=[(Y,eval b X.env)]:=by rfl):
  DI X m (.Tuple elts x1 tp) (.Call (.Name "zip" p) [a,b] [] pos) (λδ=>CZ t u (fa δ) (fb δ)):=
 (Db (t:=t) (u:=u) g hm (ay h (ay h' aN Iq) (by rw[hs,Iq])) hs Iq).imp λσ H Q hz=>by
  obtain⟨B,Hk,δ,ds,R,e,k⟩:=hz;obtain⟨as,q1,e⟩:=ak e;obtain⟨bs,q2,e⟩:=ak e;obtain rfl:=Z8 e;obtain⟨d1,e1⟩:∃d,fa δ=U d:=by
   cases q:fa δ with
   |none=>rw[q]at q1;cases t<;>trivial
   |some d=>exact⟨d,rfl⟩
  obtain⟨d2,e2⟩:∃d,fb δ=U d:=by
   cases q:fb δ with
   |none=>rw[q]at q2;cases u<;>trivial
   |some d=>exact⟨d,rfl⟩
  refine two R e1 e2 λv w H' s R' r1 r2=>?_;obtain⟨l1,xs,rfl,N_,N7⟩:=fw q1 e1 r1;obtain⟨l2,ys,rfl,Ke,N6⟩:=fw q2 e2 r2;refine⟨l1,l2,rfl,⟨xs,N7 _ Ext.refl⟩,⟨ys,N6 _ Ext.refl⟩,k _ H' s λH2 x=>?_⟩;have hx:=N7 H2 x;have hy:=N6 H2 x;have rx:=N_.ext x;have ry:=Ke.ext x;refine⟨⟨xs,ys,hx,hy,?_⟩,λi d hd=>?_⟩;rw[gj,<-rx.length,<-ry.length];lia;obtain⟨d1,d2,g1,g2,rfl⟩:=jZ _ _ _ _ hd;obtain⟨y1,w1,z1⟩:=rx.get g1;obtain⟨y2,w2,z2⟩:=ry.get g2;refine⟨⟨xs,ys,y1,y2,hx,hy,w1,w2⟩,λv H3 ⟨T,v1,v2,hT,ev,e3,n1,n2⟩=>?_⟩;have:=n1 xs hx;rw[w1]at this;obtain rfl:=Z8 this;have:=n2 ys hy;rw[w2]at this;obtain rfl:=Z8 this;have sm:aae H2 (upd H2 T (.tup [y1,y2])):=au hT;have bo:∀a,aZ m B δ σ a->∃o:HOn,H2 a=U o.1:=λa ha=>by
   obtain⟨o,ho⟩:=R'.bsH m a ha;exact⟨o,(x.abE a ha).trans ho⟩
  have ex:=sm.ext bo;rw[e3,ev];refine⟨sm,?_⟩;simp only[Rep];exact⟨T,[y1,y2],rfl,ah,M1.cons (z1.ext ex) (M1.cons (z2.ext ex) M1.nil)⟩
end
end L2
namespace L2
open PySem PySem.Spec PyProof.Rows
def uS:Z9 Str->Z9 Str
 |[]=>[]
 |x::l=>if x∈l then uS l else x::uS l
theorem gK(x:Str):∀l:Z9 Str,x∈uS l↔x∈l
 |[]=>Iff.rfl
 |d::l=>by
  unfold uS;split;rename_i h;rw[gK x l,Z0];exact⟨.inr,λz=>z.elim (λe=>e▸h) id⟩;rw[Z0,Z0,gK x l]
theorem dQ:∀l:Z9 Str,(uS l).Nodup
 |[]=>Yr
 |d::l=>by
  unfold uS;split;exact dQ l;rename_i h;exact YM.mpr ⟨λz=>h ((gK d l).mp z),dQ l⟩
theorem sX:∀l:Z9 Str,(uS l).length<=l.length
 |[]=>ZU _
 |d::l=>by
  have:=sX l;unfold uS;split<;>simp<;>lia
section
end
end L2
namespace L2
open PySem PySem.Spec PyProof.Rows
variable[Lams]
theorem Inv.drawn(I:Inv X pins σ H s)(d:Drawn):Inv X pins σ H {s with drawn:=d}:=
 ⟨I.ok,I.os,I.bare,I.base,I.loc,I.cell,I.free,I.aaU,I.pin,I.hok,I.len⟩
end L2
namespace L2
open PySem
variable[Lams]
@[simp] theorem aam:lim=1000000:=by decide
@[simp] theorem PK {α β:Type}(a:α)(f:α->Z7 β):ae (U a) f=f a:=(rfl)
@[simp] theorem aar (d:D)(b:Bool):shO (U (d,b))=U d:=(rfl)
@[simp] theorem aao (ds:Z9 D):frO (U (.lst ds,L))=U (.lst ds):=(rfl)
@[simp] theorem Vc (a:D)(l:Z9 D):af (U a) (U l)=U (a::l):=(rfl)
@[simp] theorem WC (δ:Mk)(k:Mk->Z7 Out):aI (U (.next δ)) k=k δ:=(rfl)
@[simp] theorem acp (d:D)(b:Bool)(k:Mk->Z7 Out):aI (U (.ret d b)) k=U (.ret d b):=(rfl)
@[simp] theorem abo (x y:Z7 Out):ifO (U L) x y=x:=(rfl)
@[simp] theorem aa2 (x y:Z7 Out):ifO (U Y) x y=y:=(rfl)
@[simp] theorem aa3 (d:D):eR (U d)=U (.ret d Y):=(rfl)
@[simp] theorem aa6 (d:D):eD (U d)=U (.ret d L):=(rfl)
@[simp] theorem aaG (d:D)(b:Bool):xU (U (.ret d b))=U (d,b):=(rfl)
@[simp] theorem aay (δ:Mk):aaD δ=U (.next δ):=(rfl)
@[simp] theorem aai (i:Nat)(d:D)(δ:Mk)(h:i<δ.length):bK i (U d) δ=U (.next (δ.set i (U (d,Y)))):=by unfold bK;simp only[ZO h]
@[simp] theorem aaA (i:Nat)(d:D)(δ:Mk)(h:i<δ.length):eT i (U d) δ=U (.next (δ.set i (U (d,L)))):=by unfold eT;simp only[ZO h]
@[simp] theorem aad (i:Nat)(d:D)(δ:Mk)(h:i<δ.length):aa i d δ=U (δ.set i (U (d,Y))):=by unfold aa;simp only[ZO h]
@[simp] theorem aaE (υ:Z9 D->Mk->Z7 Mk)(ds:Z9 D)(δ:Mk):aO υ (.tup ds) δ=υ ds δ:=(rfl)
@[simp] theorem aaw (τ:D->Mk->Z7 Mk)(υ:Z9 D->Mk->Z7 Mk)(d:D)(ds:Z9 D)(δ:Mk):aj τ υ (d::ds) δ=ae (τ d δ) (υ ds):=(rfl)
@[simp] theorem aaF (δ:Mk):aak [] δ=U δ:=(rfl)
@[simp] theorem aaS (i j:Int):ix (U (.int i)) (U (.int j))=U (.int (i+j)):=(rfl)
@[simp] theorem acM (i j:Int):EM (U (.int i)) (U (.int j))=U (.int (i - j)):=(rfl)
@[simp] theorem abb (i j:Int)(h:(-(2 ^ 64)<i/\i<2 ^ 64)\/(-(2 ^ 64)<j/\j<2 ^ 64)):u0 (U (.int i)) (U (.int j))=U (.int (i*j)):=Az (by unfold Fe;exact Zw h)
@[simp] theorem aas (i j:Int)(h:0<j):fv (U (.int i)) (U (.int j))=U (.int (i%j)):=Az (by unfold E6;exact Zw h)
@[simp] theorem ab_ (i j:Int)(h:0<j/\j<1073741824):A8 (U (.int i)) (U (.int j))=U (.int (i / j)):=Az (by unfold Fi;exact Zw h)
@[simp] theorem aaz (ds:Z9 D)(h:ds.length<=lim):eZ (U ds)=U (.tup ds):=by unfold eZ;simp only[ZO h]
@[simp] theorem aaq (ds:Z9 D)(h:ds.length<=lim):dz (U ds)=U (.lst ds):=by unfold dz;simp only[ZO h]
@[simp] theorem aah (ds:Z9 D):ax (U ds)=U (.lst ds):=(rfl)
@[simp] theorem aaj (ds:Z9 D):b9 (U (.lst ds))=U ds:=(rfl)
@[simp] theorem abJ (ds:Z9 D):u7 (U (.tup ds))=U ds:=(rfl)
@[simp] theorem aa4 (ds:Z9 D):bU (U (.lst ds))=U (.tup ds):=(rfl)
@[simp] theorem abS (ds:Z9 D):sf (U (.lst ds))=U (.lst ds):=(rfl)
@[simp] theorem abr (ds:Z9 D):jv (U (.lst ds))=U (.int ds.length):=(rfl)
@[simp] theorem ab7 (ds:Z9 D):jv (U (.tup ds))=U (.int ds.length):=(rfl)
@[simp] theorem abF (ds:Z9 D)(i:Int):ixO (U (.lst ds)) (U (.int i))=atI ds i:=(rfl)
@[simp] theorem ab8 (ds:Z9 D)(i:Int):ixO (U (.tup ds)) (U (.int i))=atI ds i:=(rfl)
@[simp] theorem abR (i:Int):ly (U (.int i))=U (U i):=(rfl)
@[simp] theorem abT (ds:Z9 D)(l u:Z7 Int):t4 (U (.lst ds)) (U l) (U u)=U (.lst (tN ds l u)):=(rfl)
@[simp] theorem abv (z:Str)(l u:Z7 Int)(h:z.length<=lim):lJ (U (.str z)) (U l) (U u)=U (.str (u8 z l u)):=by unfold lJ;simp only[ZO h]
@[simp] theorem abM (x y:Str)(h:x.length+y.length<=lim):AM (U (.str x)) (U (.str y))=U (.str (x++y)):=by unfold AM;simp only[ZO h]
@[simp] theorem acK (x y:Str):vY (U (.str x)) (U (.str y))=U (.int (Txt.find x y)):=(rfl)
@[simp] theorem abw (x y:Z9 D)(h:x.length+y.length<=lim):vL (U (.lst x)) (U (.lst y))=U (.lst (x++y)):=by unfold vL;simp only[ZO h]
@[simp] theorem abq (b:Bool):gW (U b)=U (!b):=(rfl)
@[simp] theorem acm (b:Bool):tyB (U (.bl b))=U b:=(rfl)
@[simp] theorem acF (b:Bool):ofB (U b)=U (.bl b):=(rfl)
@[simp] theorem acQ (y:Z7 Bool):orO (U L) y=U L:=(rfl)
@[simp] theorem acR (y:Z7 Bool):orO (U Y) y=y:=(rfl)
@[simp] theorem acu (y:Z7 Bool):yj (U L) y=y:=(rfl)
@[simp] theorem acP (y:Z7 Bool):yj (U Y) y=U Y:=(rfl)
def pD(x y:D)(h:ok2 x y=L):eqO (U x) (U y)=U (decide (x=y)):=by unfold eqO;simp only[ZO h]
@[simp] theorem abt (i j:Int):eqO (U (.int i)) (U (.int j))=U (decide (i=j)):=by
 rw[pD _ _ (by rfl)];simp only[D.int.injEq]
def BH(x y:D)(h:ok2 x y=L):neO (U x) (U y)=U (!decide (x=y)):=by unfold neO;rw[pD _ _ h];rfl
def gv(j:Int)(h: -(2 ^ 62)<=j/\j<2 ^ 62):r6 (U (.int j))=U (fg 0 j.toNat):=by unfold r6;simp only[Zw h,Y_]
def B1(ns:Z9 Int):Ct (U (.lst (ns.map D.int)))=U (.int ns.sum):=by
 have:dx (ns.map D.int)=U ns:=by
  induction ns with
  |nil=>rfl
  |cons n ns ih=>simp only[Z2,dx,ih]
 unfold Ct;simp only[this]
def jz(d:D)(h:δ[i]?=U (U (.lst ds,L)))(hl:ds.length<lim):lC i (U d) δ=U (.next (δ.set i (U (.lst (ds++[d]),L)))):=by
 unfold lC bN;simp only[h,ZO hl]
def C4(h:δ[i]?=U (U (.lst ds,L)))(hl:ds.length+es.length<=lim):uY i (U (.lst es)) δ=U (.next (δ.set i (U (.lst (ds++es),L)))):=by
 unfold uY bN;simp only[h,ZO hl]
@[simp] theorem aac (m:Bool)(d:D)(δ:Mk):rd m 0 (U (d,Y)::δ)=U d:=(rfl)
@[simp] theorem ab3 (d:D)(δ:Mk):rd L 0 (U (d,L)::δ)=U d:=(rfl)
@[simp] theorem aaf (m:Bool)(i:Nat)(x:Z7 (D×Bool))(δ:Mk):rd m (i+1) (x::δ)=rd m i δ:=(rfl)
@[simp] theorem aaR (d:D)(δ:Mk):bN 0 (U (d,L)::δ)=U d:=(rfl)
@[simp] theorem aaQ (i:Nat)(x:Z7 (D×Bool))(δ:Mk):bN (i+1) (x::δ)=bN i δ:=(rfl)
@[simp] theorem abd (d:D)(b:Bool)(δ:Mk):aaO 0 (U (d,b)::δ)=U (d,Y)::δ:=by cases b<;>rfl
@[simp] theorem abc (i:Nat)(x:Z7 (D×Bool))(δ:Mk):aaO (i+1) (x::δ)=x::aaO i δ:=by
 unfold aaO;rw[List.getElem?_cons_succ];split<;>simp_all
set_option tactic.hygienic true in
def CU(i:Nat)(d:D)(δ:Mk):lC i (U d) δ=(match bN i δ with|some (.lst ds)=>if ds.length<lim then U (.next (δ.set i (U (.lst (ds++[d]),L)))) else M|_=>M):=by
 unfold lC;split;rename_i e1 e2;obtain rfl:=Z8 e2;rw[e1];rename_i h;split;rename_i ds e;exact absurd rfl (h ds d e);rfl
set_option tactic.hygienic true in
def Bm(i:Nat)(es:Z9 D)(δ:Mk):uY i (U (.lst es)) δ=(match bN i δ with|some (.lst ds)=>if ds.length+es.length<=lim then U (.next (δ.set i (U (.lst (ds++es),L)))) else M|_=>M):=by
 unfold uY;split;rename_i e1 e2;cases e2;rw[e1];rename_i h;split;rename_i ds e;exact absurd rfl (h ds es e);rfl
def Bu(h:ds.length=np):cb n np g ds=xU (g (dJ n ds)):=by unfold cb;rw[ZO h]
def aw(hf:f=cb n np g)(hl:ds.length=np)(hs:dJ n ds=δ):f ds=xU (g δ):=by subst hf hs;exact Bu hl
def ox{α:Type}{xs:Z9 α}{i:Int}(h0:0<=i)(h1:i<xs.length):∃v,v∈xs/\xs[i.toNat]?=U v/\atI xs i=U v:=by
 have hi:i.toNat<xs.length:=by lia
 refine⟨xs[i.toNat],Xz hi,by simp[hi],?_⟩;have:=qT (xs:=xs) (j:=i.toNat) (v:=xs[i.toNat]) (by simp[hi]);rwa[Int.toNat_of_nonneg h0]at this
def oU{α:Type}{xs:Z9 α}{i:Int}{v:α}(h0:0<=i)(h:xs[i.toNat]?=U v):atI xs i=U v:=by
 have:=qT h;rwa[Int.toNat_of_nonneg h0]at this
theorem gB:∀{ds:Z9 D},(∀d∈ds,h d=U (U (g d)))->bp h ds=U (ds.map g)
 |[],_=>rfl
 |d::ds,e=>by
  unfold bp;rw[e d (ZX ..),gB λx hx=>e x (Z1 _ hx)];rfl
theorem cY{h:D->Z7 (Z7 D)}{P:D->D->Prop}:∀{ds:Z9 D},(∀d∈ds,∃y,h d=U (U y)/\P d y)->∃g:Z9 D,bp h ds=U g/\g.length=ds.length/\∀(i:Nat) d,ds[i]?=U d->∃y,g[i]?=U y/\P d y
 |[],_=>⟨[],rfl,rfl,λi d h=>by simp at h⟩
 |d::ds,e=>by
  obtain⟨y,e1,p⟩:=e d (ZX ..);obtain⟨g,e2,hl,hp⟩:=cY λx hx=>e x (Z1 _ hx);refine⟨y::g,?_,by simp[hl],λi z hz=>?_⟩;unfold bp;rw[e1,e2];cases i with
  |zero=>simp at hz;subst hz;exact⟨y,rfl,p⟩
  |succ i=>simpa using hp i z (by simpa using hz)
def aJ(h:ds.length<=lim):b8 bo bs τ ft fe δ ds=bp (aB τ ft fe (aq bo bs δ)) ds:=by unfold b8;rw[ZO h]
theorem cO(I:Z9 D->Mk->Prop):∀(post pre:Z9 D)(δ:Mk),I pre δ->(∀p d q δ,p++d::q=pre++post->I p δ->∃f_,(body d δ=U (.next f_)\/body d δ=U (.cont f_))/\I (p++[d]) f_)->
  ∃f_,am body post δ=U (.next f_)/\I (pre++post) f_
 |[],pre,δ,h,_=>⟨δ,rfl,by simpa using h⟩
 |d::post,pre,δ,h,st=>by
  obtain⟨B_,e1,i1⟩:=st pre d post δ rfl h;obtain⟨f_,e',i'⟩:=cO I post (pre++[d]) B_ i1 λp d' q δ e i=>st p d' q δ (by simpa using e) i;refine⟨f_,?_,by simpa using i'⟩;unfold am;rcases e1 with e1|e1<;>rw[e1]<;>exact e'
def c6{lo:Int}(h:d∈fg lo n):∃i:Nat,i<n/\d=.int (lo+i):=by
 unfold fg at h;obtain⟨i,hi,e⟩:=ZV.mp h;exact⟨i,Y4.mp hi,e.symm⟩
def bb(lo:Int)(n:Nat):(fg lo n).length=n:=by unfold fg;simp
def tJ:∀(ts:Z9 Str),(Txt.join "" ts).length=(ts.map (·.length)).sum:=by
 intro ts;show(Builtin.Str.glued "" ts).length=_;rw[StrLaws.glued_eq_join]
 induction ts with
 |nil=>rfl
 |cons x r ih=>
  cases r with
  |nil=>show x.length=_;simp
  |cons y r=>
   show(x++("":Str)++Str.join "" (y::r)).length=_;rw[Str.length_append,Str.length_append,ih];have:Str.length ""=0:=by decide +kernel
   simp only[Z2,List.sum_cons];lia
def qN{P:D->D->Prop}{ds g:Z9 D}{Q:Str->Prop}(hl:g.length=ds.length)(h:∀(i:Nat) d,ds[i]?=U d->∃y,g[i]?=U y/\P d y)(hP:∀d y,P d y->∃x,y=.str x/\Q x):∃ss:Z9 Str,g=ss.map D.str/\∀x∈ss,Q x:=by
 have hy:∀y∈g,∃x,y=.str x/\Q x:=λy hy=>by
  obtain⟨i,hi,e⟩:=YZ.mp hy;obtain⟨z,ez,p⟩:=h i (ds[i]'(by lia)) (by simp[show i<ds.length by lia]);rw[YV hi]at ez;obtain rfl:=Z8 ez;rw[<-e];exact hP _ _ p
 clear h hl
 induction g with
 |nil=>exact⟨[],rfl,by simp⟩
 |cons y g ih=>
  obtain⟨x,e,q⟩:=hy y (ZX ..);obtain⟨ss,e2,q2⟩:=ih λz hz=>hy z (Z1 _ hz);refine⟨x::ss,by rw[e,e2];rfl,λz hz=>?_⟩;rcases Z0.mp hz with hz|hz
  rw[hz];exact q;exact q2 z hz
def AO(z:Str)(ys:Z9 Str)(h:(ys.map (·.length)).sum+ys.length*z.length<=16777216):qV (U (.str z)) (U (.lst (ys.map D.str)))=U (.str (Txt.join z ys)):=by
 unfold qV;simp only[rG,ZO h]
def nz{ss:Z9 Str}(h:∀x∈ss,x.length=1):(ss.map (·.length)).sum=ss.length:=by
 induction ss with
 |nil=>rfl
 |cons x r ih=>
  have h1:=h x (ZX ..);have h2:=ih λy hy=>h y (Z1 _ hy);simp only[Z2,List.sum_cons,bO,h1,h2];lia
def fz(z:Str)(i:Int)(hz:z.length<=lim)(h0:0<=i)(h1:i<z.length):∃x:Str,x.length=1/\uX (U (.str z)) (U (.int i))=U (.str x):=by
 obtain⟨c,_,_,e⟩:=ox (xs:=z.cps.toList) (i:=i) h0 (by simpa[Str.length]using h1);refine⟨⟨#[c]⟩,rfl,?_⟩;unfold uX;simp only[ZO hz,e]
end L2
namespace L2
open PySem PySem.Spec PyProof.Rows
variable[Lams]
def xI(x:Z7 D)(τ:D->Mk->Z7 Mk)(δ:Mk):Z7 Out:=match x with|some d=>(match τ d δ with|some f_=>U (.next f_)|none=>M)|none=>M
theorem uE(ha:DE X Y a fa)(hg:DG X tg τ)(hs:swapsWithSole [tg] a pos.line X.env=pure Y:=by rfl)(hw:swappedStores [tg] a X.env=pure M:=by rfl)(h1:(assignEach [tg] X.env).map (·.2)=[assign tg X.env]:=by rfl):
  DS X (.Assign [tg] a pos) (λδ=>xI (fa δ) τ δ):=
 (Bf ha hg hs hw h1).imp λDn σ H hz=>by
  obtain⟨B,Hk,δ,o,R,e,k⟩:=hz;unfold xI at e;dsimp only at e;split at e;rename_i d qd;split at e;rename_i f_ Tt;obtain rfl:=Z8 e;refine⟨B,Hk,δ,d,R,qd,λv H1 s1 r1=>?_⟩;exact⟨B,Hk,δ,d,f_,R.to s1,r1,Tt,λh_ R'=>k h_ H1 (s1.ext R.abx) R'⟩;trivial;trivial
@[simp] theorem acL (d:D)(τ:D->Mk->Z7 Mk)(δ:Mk):xI (U d) τ δ=ae (τ d δ) λf_=>U (.next f_):=by
 unfold xI ae;dsimp only;cases τ d δ<;>rfl
noncomputable def dl(t:Mk->Z7 Bool)(b:Mk->Z7 Out):Nat->Mk->Z7 Out
 |0,_=>M
 |n+1,δ=>match t δ with
  |none=>M
  |some false=>U (.next δ)
  |some true=>match b δ with
   |some (.next f_)=>dl t b n f_
   |some (.cont f_)=>dl t b n f_
   |some (.brk f_)=>U (.next f_)
   |some (.ret e fr)=>U (.ret e fr)
   |none=>M
section
variable{X:Cx}{c a b:Expr}{body:Z9 Stmt}{ft:Mk->Z7 Bool}{gb:Mk->Z7 Out}{pos:Pos}{fa fb:Mk->Z7 D}{m:Bool}
theorem nF(n:Nat)(hp:PassesOwn (model X.prog X.w) X.A X.env X.xe)(hc:DT X c ft)(hb:DSs X body gb):DS X (.While c body [] pos) (λδ=>dl ft gb n δ):=
 (wY hp hc hb).imp λDn σ H hz=>by
  obtain⟨B,Hk,δ,o,R,e,k⟩:=hz;refine⟨λj h_ H'=>∃f_,Ext B H H'/\Rel X.K B Hk f_ h_ H'/\dl ft gb j f_=U o,⟨n,δ,Ext.refl,R,e⟩,?_⟩
  rintro j KZ H1 ⟨B_,x1,R1,e1⟩
  cases j with
  |zero=>trivial
  |succ j=>
   unfold dl at e1;cases q:ft B_ with
   |none=>rw[q]at e1;trivial
   |some t=>
    refine⟨B,Hk,B_,t,R1,q,λH2 s2=>?_⟩;rw[q]at e1;have x2:=x1.trans (R1.ext s2);have R2:=R1.to s2;cases t with
    |false=>
     obtain rfl:=Z8 e1;rw[ZJ Zh];exact k KZ H2 x2 R2
    |true=>
     rw[ZO rfl];simp only at e1;cases q2:gb B_ with
     |none=>rw[q2]at e1;trivial
     |some o1=>
      rw[q2]at e1;refine⟨λh_ H'=>∃f_,Ext B H H'/\Rel X.K B Hk f_ h_ H'/\dl ft gb j f_=U o,λh_ H' z=>⟨j,Yj j,z⟩,B,Hk,B_,o1,R2,q2,?_⟩;cases o1 with
      |next K0=>exact λLH H4 x4 R4=>⟨K0,x2.trans x4,R4,e1⟩
      |cont K0=>exact λLH H4 x4 R4=>⟨K0,x2.trans x4,R4,e1⟩
      |brk K0=>simp only at e1;obtain rfl:=Z8 e1;exact λLH H4 x4 R4=>k LH H4 (x2.trans x4) R4
      |ret d fr=>simp only at e1;obtain rfl:=Z8 e1;exact λv4 H4 x4 R4=>k v4 H4 (x2.trans x4) R4
noncomputable def uZ(x:Z7 D):Z7 Bool:=match x with
 |some .non=>U Y
 |some (.bl b)=>U b
 |some (.int i)=>U (i != 0)
 |some (.str y)=>if y.length<=lim then U ((y.length:Int) != 0) else M
 |some (.lst ds)=>U (!ds.isEmpty)
 |some (.tup ds)=>U (!ds.isEmpty)
 |_=>M
def M1.empty{K:Z5}{B:ZM->Prop}{H:Hp}{ds:Z9 D}{xs:Z9 V}(r:M1 K B H ds xs):ds.isEmpty=xs.isEmpty:=by
 have:=r.length;cases ds<;>cases xs<;>simp at this<;>rfl
theorem xx(ha:DE X m a fa)(he:∀whole,isTrue a X.env whole=(do let v <-whole;standAt a.pos;holding [v] (truthy v)):=by intro _;rfl):DT X a (λδ=>uZ (fa δ)):=
 (oQ ha he).imp λσ H Q hz=>by
  obtain⟨B,Hk,δ,d,R,e,k⟩:=hz;dsimp only at e;cases q:fa δ with
  |none=>rw[q]at e;trivial
  |some z=>
   rw[q]at e;refine⟨B,Hk,δ,z,R,q,λv H' s r=>⟨d,?_,k H' s⟩⟩;cases z with
   |non=>simp only[Rep]at r;subst r;simp only[uZ]at e;obtain rfl:=Z8 e;rfl
   |bl b=>simp only[Rep]at r;subst r;simp only[uZ]at e;obtain rfl:=Z8 e;rfl
   |int i=>simp only[Rep]at r;subst r;simp only[uZ]at e;obtain rfl:=Z8 e;rfl
   |str y=>
    simp only[Rep]at r;subst r;simp only[uZ]at e;by_cases hl:y.length<=lim;rw[ZO hl]at e;obtain rfl:=Z8 e;exact⟨aG hl,rfl⟩;rw[ZJ hl]at e;trivial
   |lst ds=>
    simp only[Rep]at r;obtain⟨p,xs,rfl,hq,rs⟩:=r;simp only[uZ]at e;obtain rfl:=Z8 e;exact .inl ⟨xs,hq.sq,by rw[rs.empty]⟩
   |tup ds=>
    simp only[Rep]at r;obtain⟨p,xs,rfl,hq,rs⟩:=r;simp only[uZ]at e;obtain rfl:=Z8 e;exact .inr (.inl ⟨xs,SqT.of hq,by rw[rs.empty]⟩)
   |dK ks vs=>simp only[uZ]at e;trivial
   |dD ks vs=>simp only[uZ]at e;trivial
def yE(x:Z7 D):Z7 Bool:=match x with|some d=>U (decide (d=.non))|none=>M
theorem Rep.non{K:Z5}{B:ZM->Prop}{H:Hp}{d:D}{v:V}(r:Rep K B H d v):(v=.non)=(d=.non):=by
 cases d
 all_goals simp only[Rep]at r
 case non=>simp[r]
 all_goals first
  |(subst r;simp)
  |(obtain⟨p,xs,rfl,_⟩:=r;simp)
def zL{K:Z5}{B:ZM->Prop}{H:Hp}{d:D}{v:V}(r:Rep K B H d v):decide (v=.non)=decide (d=.non):=by
 by_cases h:d=.non;rw[Zw h,Zw (by rw[r.non];exact h)];rw[ZE h,ZE (by rw[r.non];exact h)]
def rF{c:Bool}(h:yE x=U c):∃d,x=U d/\c=decide (d=.non):=by
 unfold yE at h;split at h;obtain rfl:=Z8 h;exact⟨_,rfl,rfl⟩;trivial
theorem zf{tk:Nat}{p:Pos}(ha:DE X m a fa)(hm:behindInMarks .IsNot (.Constant .none tk p)=Y:=by rfl):DT X (.Compare a [.IsNot] [.Constant .none tk p] pos) (λδ=>gW (yE (fa δ))):=
 (dC zM ha (uw (m:=Y)) hm).imp λσ H Q hz=>by
  obtain⟨B,Hk,δ,d,R,e,k⟩:=hz;cases h:yE (fa δ)with
  |none=>simp only[h,gW]at e;trivial
  |some c=>
   simp only[h,gW]at e;obtain rfl:=Z8 e;obtain⟨z,q,rfl⟩:=rF h;refine two (fb:=λ_=>U .non) R q rfl λv u H' s R' r1 r2=>?_;simp only[Rep]at r2;exact⟨r2,_,rfl,by rw[zL r1];exact k H' s⟩
end
noncomputable def Ite(K:Z5)(p:ZM):It:=
 ⟨λi H=>∃xs x,SqL K H p xs/\xs[i]?=U x,
  λi H v H'=>∃T x,H T=M/\v=.ref T/\H'=upd H T (.tup [.int i,x])/\∀xs,SqL K H p xs->xs[i]?=U x,
  λi H=>∃xs,SqL K H p xs/\xs.length<=i⟩
structure En (h:Heap)(e c p:ZM)(n:Nat):Prop where
 ee:∃old,IsEnum h e c n old
 cc:h.IsListIter c p n
def zV{x1}(he:IsEnumOut s.heap e c i x T)(hQ:∀h',IsEnum h' e c i x->Heap.SameBut e s.heap h'->Q () {s with heap:=h'}):wpAny (model prog w) A (letOwnedTupleGo (.Tuple elts x1 pos) (.ref e) (.ref T)) Q E s:=by
 unfold letOwnedTupleGo;refine Z_ (wpAny_load he ?_);change wpAny _ _ (if(["enumerate","zip","dict_itemiterator","dict_reverseitemiterator","odict_iterator","itertools.zip_longest","itertools.pairwise"].contains "enumerate"&&(#[rawInt T,.bool Y,.ref c,rawInt i,.none,x]:Array Z3)[0]?==U (rawInt T))=L then _ else _) Q E s;refine eL (by simp) ?_;refine Z_ (YD (X1 he (by simp) λh' g' m'=>hQ h' g' m'))
def sN{P:YX}{w:YK}{K:Z5}{elts:Z9 Expr}{x1}{pos:Pos}{e c p:ZM}(ne:e≠c):
  Turn P w K (.Tuple elts x1 pos) (Ite K p) [e,c] e (λn h=>En h e c p n) where
 mem:=by simp
 obj:=λi h st b hb=>by
  obtain⟨⟨old,ee⟩,cc⟩:=st;simp only[Z0,Zr,YB]at hb;rcases hb with rfl|rfl;exact⟨_,ee,λv e=>by cases e⟩;obtain⟨o,g,_,hd⟩:=cc;exact⟨o,g,λv e'=>by rw[hd]at e';cases e'⟩
 keep:=λi h h' st k=>by
  obtain⟨⟨old,ee⟩,cc⟩:=st;exact⟨⟨old,k e (by simp) _ ee⟩,cc.at λo g=>k c (by simp) o g⟩
 item:=by
  intro X hP hw hK hc i pins s σ H E I hf st hg;subst hP hw hK;obtain⟨xs,x,h1,hx⟩:=hg;obtain⟨is,ri,sp,_⟩:=I.list h1;obtain⟨ux,e1,r1⟩:=ri.get hx;obtain⟨⟨old,ee⟩,cc⟩:=st;refine wpAny_pyNext_enum_item ee cc sp.isList (x:=ux) (by simpa using e1) ne λh' out VD new sz k=>⟨_,rfl,?_⟩
  have hT:H s.z=M:=I.hok.fresh (ZU _);have nT:∀b∈[e,c],b≠s.z:=λb hb q=>by
   simp only[Z0,Zr,YB]at hb;rcases hb with rfl|rfl;rw[q]at ee;exact absurd (ZQ ee) (Zd _);obtain⟨o,g,_⟩:=cc;rw[q]at g;exact absurd (ZQ g) (Zd _)
  have I1:Inv X pins σ (upd H s.z (.tup [.int i,x])) {s with heap:=h',toks:=s.toks+1}:=I.abN (fp:=[e,c]) (λb o hb q=>k b o (λz=>hb (by simp[z])) (λz=>hb (by simp[z])) q) hf (ZU _)
   ⟨by show 2<=sizeLine;decide,[.int i s.toks,ux],.cons ⟨_,rfl⟩ (.cons r1 .nil),⟨_,new,rfl,_,rfl⟩⟩
  refine zV (s:={s with heap:=h',toks:=s.toks+1}) out λg2 e2 m2=>?_;have hz:=hf e (by simp);refine⟨.ref s.z,upd H s.z (.tup [.int i,x]),I1.turned (t':=s.toks+1) (λb o hb q=>ag m2 hb q) (by rw[ai (nT e (by simp))];exact hz.1) hz.2.1 hz.2.2.2.1 hz.2.2.2.2.1 hz.2.2.2.2.2,rfl,
   ⟨s.z,x,hT,rfl,rfl,λxs' h=>by rw[I.aaN h h1];exact hx⟩,⟨⟨_,e2⟩,VD.at λo g=>ag m2 (ZA ne) g⟩,λb hb=>by rw[ai (nT b hb)];exact(hf b hb).1⟩
 done:=by
  intro X hP hw hK hc i pins s σ H E I hf st hg;subst hP hw hK;obtain⟨xs,h1,hl⟩:=hg;obtain⟨is,ri,sp,_⟩:=I.list h1;have l1:=ri.length;obtain⟨⟨old,ee⟩,cc⟩:=st;exact wpAny_pyNext_enum_end (I.ok.hd hc) ee cc sp.isList (by simp;lia) λh' k=>⟨rfl,I.turns (t':=s.toks) (fp:=[e,c]) (λb o hb q=>k b o (λz=>hb (by simp[z])) q) hf⟩
 self:=λ_ _ _ _ _ st h=>by obtain⟨⟨old,ee⟩,cc⟩:=st;exact wpAny_pyIter_enum ee h
noncomputable def enL(h:Heap)(p:ZM):Heap:=(h.push (itO Y p)).push {cls:=.type "enumerate",data:=.fields #[.none,.bool Y,.ref h.objs.size,rawInt 0,.none,.none]}
set_option tactic.hygienic true in
def xh(p:ZM)(xs:Array Z3):Meets (Builtin.«enumerate.__new__» ⟨[.type "enumerate",.ref p],[]⟩) (λ_ R s=>aat Y s.heap p xs/\R (.ok (.ret (.ref (s.heap.push (itO Y p)).objs.size))) {s with heap:=enL s.heap p}):=
 .of_wp λprog w A R s h=>by
  obtain⟨hp,g,d,tk,os⟩:=s;obtain⟨h1,h⟩:=h;have Ko:=sub_enumerate;have k1:aat Y (Shared.heap ⟨hp,g,d,tk,os⟩) p xs:=h1
  wp_walk using dM k1
  refine wpAny_stack_any λst=>Z6 ?_;split
  .rename_i c0 _ _ _ _ _
   cases (c0==Value.type "enumerate")<;>(wp_walk using dM k1;exact⟨_,rfl,h⟩)
  .wp_walk using dM k1
   exact⟨_,rfl,h⟩
def rg(hp:aat Y s.heap p xs)(h:∀h',IsEnum h' (s.z+1) s.z 0 .none->h'.IsListIter s.z p 0->(∀b o,s.heap.get? b=U o->h'.get? b=U o)->Q (.ref (s.z+1)) {s with heap:=h'}):
  wpAny (model prog w) A (call (.type "enumerate") [.ref p]) Q E s:=by
 refine callType_new F.called_enumerate (by decide) (F.typeCall_enumerate_1 _) (F.newCall_enumerate_1 _) (λobj=>F.args_object_init_2 obj _) F.entry_enumerate_new (xh p xs) ⟨hp,?_⟩;have s1:(s.heap.push (itO Y p)).objs.size=s.z+1:=YF ..;have e5:(enL s.heap p).get? (s.heap.push (itO Y p)).objs.size=U {cls:=.type "enumerate",data:=.fields #[.none,.bool Y,.ref s.z,rawInt 0,.none,.none]}:=ZN _ rfl;have c5:(enL s.heap p).get? s.z=U (itO Y p):=Z4 _ (ZN _ rfl);rw[s1]at e5;refine⟨⟨_,by rw[s1];exact e5,rfl⟩,?_⟩;rw[s1];exact h _ e5 ⟨_,c5,rfl,rfl⟩ λb o e=>Z4 _ (Z4 _ e)
section
variable{p:Pos}
def EQ(K:Z5)(ta:TA):TI:=λσ H R=>ta σ H λvs H1=>∃p,vs=[.ref p]/\(∃xs,SqL K H1 p xs)/\R (Ite K p) H1
def AH{ta:TA}(hg:Gl X "enumerate")(hm:X.mg "enumerate"=M)(ha:PA X [a] ta)(hs:starEach [a] X.env=[(Y,eval a X.env)]:=by rfl):
  PI X (.Tuple elts x1 tp) (.Call (.Name "enumerate" p) [a] [] pos) (EQ X.K ta):=by
 intro pins s σ H R I h;refine Call_ (eQ I hg hm boot_enumerate (Yn (thn (ha pos pins s σ H _ I h) λus s1 ⟨vs,H1,I1,r1,q1⟩=>?_) hs rfl));obtain⟨l1,e,⟨xs,h1⟩,q⟩:=q1;subst e;cases r1 with
 |cons r rr=>
  cases rr;cases r;obtain⟨is,ri,sp,_⟩:=I1.list h1;refine rg (p:=l1) sp.isList λh' ee cc k=>?_;have I2:Inv X pins σ H1 {s1 with heap:=h'}:=I1.kept (t':=s1.toks) k;refine wpAny_pyIter_enum (s:={s1 with heap:=h'}) ee ⟨s1.z+1,[s1.z+1,s1.z],_,_,H1,rfl,I2,sN (Nat.ne_of_gt (Yj _)),⟨⟨_,ee⟩,cc⟩,λb hb=>?_,q⟩;have Ij:s1.z<=b:=by
   simp only[Z0,Zr,YB]at hb;rcases hb with rfl|rfl;exact W0 _;exact ZU _
  obtain⟨f0,f1,f2,f3,f4,f5⟩:=I1.abj Ij (I1.hok.fresh Ij);exact⟨f0,f1,f2,f3,f4,f5⟩
def gH(i:Nat):Z9 D->Z9 D
 |[]=>[]
 |d::ds=>.tup [.int i,d]::gH (i+1) ds
theorem jQ:∀(ds:Z9 D)(j i:Nat)(x:D),(gH j ds)[i]?=U x->∃d,ds[i]?=U d/\x=.tup [.int ((j+i:Nat):Int),d]
 |[],j,i,x,h=>by simp[gH]at h
 |d::ds,j,0,x,h=>by simp[gH]at h;exact⟨d,rfl,by rw[<-h];simp⟩
 |d::ds,j,i+1,x,h=>by
  simp[gH]at h;obtain⟨e,h1,h2⟩:=jQ ds (j+1) i x h;exact⟨e,by simpa using h1,by rw[h2,show j+1+i=j+(i+1) by lia]⟩
theorem jU:∀(j:Nat)(ds:Z9 D),(gH j ds).length=ds.length
 |_,[]=>rfl
 |j,d::ds=>by simp[gH,jU (j+1) ds]
def wW(x:Z7 D):Z7 (Z9 D):=match x with|some (.lst ds)=>U (gH 0 ds)|_=>M
theorem zR(g:Gl X "enumerate")(hm:X.mg "enumerate"=M)(h:DE X m a fa)(hs:starEach [a] X.env=[(Y,eval a X.env)]:=by rfl):
  DI X m (.Tuple elts x1 tp) (.Call (.Name "enumerate" p) [a] [] pos) (λδ=>wW (fa δ)):=
 (AH g hm (ay h aN hs) hs).imp λσ H Q hz=>by
  obtain⟨B,Hk,δ,ds,R,e,k⟩:=hz;dsimp only at e;unfold wW at e;split at e;rename_i as q1;obtain rfl:=Z8 e;refine pG R q1 λv H' s R' r1=>?_;simp only[Rep]at r1;obtain⟨l1,xs,rfl,hq,rs⟩:=r1;refine⟨l1,rfl,⟨xs,hq.sq⟩,k _ H' s λH2 x=>?_⟩;have hx:=(hq.ext x).sq;have rx:=rs.ext x;refine⟨⟨xs,hx,by rw[jU,rx.length];exact ZU _⟩,λi d hd=>?_⟩;obtain⟨d1,g1,rfl⟩:=jQ _ _ _ _ hd;obtain⟨y1,w1,z1⟩:=rx.get g1;refine⟨⟨xs,y1,hx,w1⟩,λv H3 ⟨T,v1,hT,ev,e3,n1⟩=>?_⟩;have:=n1 xs hx;rw[w1]at this;obtain rfl:=Z8 this;have sm:aae H2 (upd H2 T (.tup [.int i,y1])):=au hT;have bo:∀a,aZ m B δ σ a->∃o:HOn,H2 a=U o.1:=λa ha=>by
   obtain⟨o,ho⟩:=R'.bsH m a ha;exact⟨o,(x.abE a ha).trans ho⟩
  have ex:=sm.ext bo;rw[e3,ev];refine⟨sm,?_⟩;simp only[Rep];refine⟨T,[.int i,y1],rfl,ah,M1.cons ?_ (M1.cons (z1.ext ex) M1.nil)⟩;simp only[Rep,Yd];trivial
end
mutual
theorem KR.raw(ok:HOk P w H h):∀{d:D}{v:V}{u:Z3},KR H d v->RelV v u->RH h d u
 |.int i,v,u,r,q=>by simp only[KR]at r;subst r;obtain⟨t,rfl⟩:=q;simp only[RH];exact⟨t,rfl⟩
 |.str i,v,u,r,q=>by simp only[KR]at r;subst r;obtain⟨t,rfl⟩:=q;simp only[RH];exact⟨t,rfl⟩
 |.tup ds,v,u,r,q=>by
  simp only[KR]at r;obtain⟨a,xs,rfl,g,rs⟩:=r;cases q;obtain⟨_,its,rv,ht⟩:=(show aal P w H h a (.tup xs) from ok a _ g)
  simp only[RH];exact⟨a,its,rfl,ht,KRs.raw ok rs rv⟩
 |.non,v,u,r,_=>by simp only[KR]at r
 |.bl _,v,u,r,_=>by simp only[KR]at r
 |.lst _,v,u,r,_=>by simp only[KR]at r
 |.dK _ _,v,u,r,_=>by simp only[KR]at r
 |.dD _ _,v,u,r,_=>by simp only[KR]at r
theorem KRs.raw(ok:HOk P w H h):∀{ds:Z9 D}{xs:Z9 V}{us:Z9 Z3},KRs H ds xs->aab xs us->RHs h ds us
 |[],xs,us,r,q=>by simp only[KRs]at r;subst r;cases q;simp only[RHs]
 |d::ds,xs,us,r,q=>by
  simp only[KRs]at r;obtain⟨x,t,rfl,r1,r2⟩:=r;cases q with
  |cons q1 q2=>simp only[RHs];exact⟨_,_,rfl,KR.raw ok r1 q1,KRs.raw ok r2 q2⟩
end
mutual
theorem Rep.key{K:Z5}{B:ZM->Prop}{H:Hp}:∀{n:Nat}{d:D}{v:V},aR n d=L->Rep K B H d v->KR H d v
 |n,.int i,v,_,r=>by simp only[Rep]at r;simp only[KR];exact r
 |n,.str i,v,_,r=>by simp only[Rep]at r;simp only[KR];exact r
 |n,.tup ds,v,h,r=>by
  simp only[Rep]at r;obtain⟨a,xs,rfl,g,rs⟩:=r;obtain⟨k,_,hd⟩:=cC h;simp only[KR];exact⟨a,xs,rfl,g,M1.key hd rs⟩
 |n,.non,v,h,_=>by cases n<;>simp[aR]at h
 |n,.bl _,v,h,_=>by cases n<;>simp[aR]at h
 |n,.lst _,v,h,_=>by cases n<;>simp[aR]at h
 |n,.dK _ _,v,h,_=>by cases n<;>simp[aR]at h
 |n,.dD _ _,v,h,_=>by cases n<;>simp[aR]at h
theorem M1.key{K:Z5}{B:ZM->Prop}{H:Hp}:∀{n:Nat}{ds:Z9 D}{xs:Z9 V},ds.all (aR n)=L->M1 K B H ds xs->KRs H ds xs
 |n,[],xs,_,r=>by simp only[M1]at r;simp only[KRs];exact r
 |n,d::ds,xs,h,r=>by
  rw[mq,ZK]at h;simp only[M1]at r;obtain⟨x,t,rfl,r1,r2⟩:=r;simp only[KRs];exact⟨x,t,rfl,Rep.key h.1 r1,M1.key h.2 r2⟩
end
mutual
theorem KR.rep{K:Z5}{B:ZM->Prop}{H:Hp}:∀{d:D}{v:V},KR H d v->Rep K B H d v
 |.int i,v,r=>by simp only[KR]at r;simp only[Rep];exact r
 |.str i,v,r=>by simp only[KR]at r;simp only[Rep];exact r
 |.tup ds,v,r=>by
  simp only[KR]at r;obtain⟨a,xs,rfl,g,rs⟩:=r;simp only[Rep];exact⟨a,xs,rfl,g,KRs.rep rs⟩
 |.non,v,r=>by simp only[KR]at r
 |.bl _,v,r=>by simp only[KR]at r
 |.lst _,v,r=>by simp only[KR]at r
 |.dK _ _,v,r=>by simp only[KR]at r
 |.dD _ _,v,r=>by simp only[KR]at r
theorem KRs.rep{K:Z5}{B:ZM->Prop}{H:Hp}:∀{ds:Z9 D}{xs:Z9 V},KRs H ds xs->M1 K B H ds xs
 |[],xs,r=>by simp only[KRs]at r;simp only[M1];exact r
 |d::ds,xs,r=>by
  simp only[KRs]at r;obtain⟨x,t,rfl,r1,r2⟩:=r;simp only[M1];exact⟨x,t,rfl,KR.rep r1,KRs.rep r2⟩
end
def aap.val(r:aap H kvs xs)(k:D):aaX (dZ kvs k) ((atKey xs k).map (·.2)):=by
 induction r with
 |nil=>exact True.intro
 | @cons p q ps qs h t ih=>
  by_cases e:p.1=k;rw[bR e,show atKey (q::qs) k=U q.2 by simp[atKey,List.find?_cons,h.1.symm.trans e]];exact h.2.2.2;have e':¬q.1=k:=λz=>e (h.1.trans z);rw[bQ e,show atKey (q::qs) k=atKey qs k by simp[atKey,List.find?_cons,e']];exact ih
def aap.ab2(r:aap H kvs xs)(k:D)(ry:RelV y u):aap H (kvs.map λkv=>if kv.1=k then(kv.1,y) else kv) (xs.map (putAt k u)):=by
 induction r with
 |nil=>exact .nil
 | @cons p q ps qs h t ih=>
  refine .cons ?_ ih;dsimp only;by_cases e:p.1=k;rw[ZO e,putAt,ZO (h.1.symm.trans e)];exact⟨h.1,h.2.1,h.2.2.1,ry⟩;rw[ZJ e,putAt,ZJ λz=>e (h.1.trans z)];exact h
def aap.put(r:aap H kvs xs)(k:D)(hk:aR 8 k=L)(hb:KR H k (.ref b))(ry:RelV y u):aap H (dh kvs k y) (storedH xs k b u):=by
 have e:(kvs.any λkv=>decide (kv.1=k))=(atKey xs k).isSome:=by rw[dT,(r.val k).aaZ,Option.isSome_map]
 unfold dh storedH;rw[e];by_cases q:(atKey xs k).isSome=L;rw[ZO q,ZO q];exact r.ab2 k ry;rw[ZJ q,ZJ q];exact Paired.snoc r ⟨rfl,hk,hb,ry⟩
section
variable{h:Heap}
def iG(ok:HOk P w H h)(e:Rd H a (.dD kvs ep)):kvs.length<=sizeLine/\(a==sysModules)=Y/\∃xs,aap H kvs xs/\h.DictOfH (bh P w) a xs:=by
 obtain⟨z,y,xs,r,o,es,h1,h2,h3,h4,h5⟩:=(show aal P w H h a (.dD kvs ep) from qG ok e)
 refine⟨z,y,xs,r,o,es,ep,h1,h2,h3,h4,?_,h5⟩;have all:∀{l:Z9 (D×V)}{m:Z9 (D×ZM×Z3)},aap H l m->∀x∈m,(bh P w).is h x.1 x.2.1:=by
  intro l m q
  induction q with
  |nil=>intro x hx;exact nomatch hx
  | @cons p q ps qs hq t ih=>
   intro x hx;rcases Z0.mp hx with rfl|hx;exact⟨by rw[<-hq.1];exact hq.2.1,by rw[<-hq.1];exact KR.raw ok hq.2.2.1 rfl⟩;exact ih x hx
 exact all r
def ot(hb:sysModules<h.objs.size):aal P w H (h.push {cls:=.type "dict",data:=.dict #[]}) h.objs.size (.dD [] 0):=
 ⟨Zu _,by simpa using Nat.ne_of_gt hb,[],.nil,_,#[],ZN _ rfl,⟨rfl,rfl,rfl⟩,rfl,rfl,Yr⟩
end
section
variable{A:Za}
def cx(I:Inv X pins σ H s)(hk:aR 8 k=L)(kb:KR H k (.ref b)):(bh X.prog X.w).is s.heap k b:=⟨hk,KR.raw I.hok kb rfl⟩
def pi(hu:A.units+40<cLine)(I:Inv X pins σ H s)(e:Rd H a (.dD kvs ep))(hk:aR 8 k=L)(kb:KR H k (.ref b))(l:dZ kvs k=U v)(h:∀w' s',Inv X pins σ H s'->RelV v w'->Q w' s'):
  wpAny (model X.prog X.w) A (getItem (.ref a) (.ref b)) Q E s:=by
 obtain⟨z,hd,xs,rel,dd⟩:=iG I.hok e;obtain⟨w',hw,Hs⟩:=aaX.some_of (v:=v) (o:=(atKey xs k).map (·.2)) (by rw[<-l];exact rel.val k);obtain⟨p,hp,Kg⟩:=Xk.mp hw;refine wpAny_getItem_heap (knd:=bh X.prog X.w) (by show A.units+1+30<cLine;lia) (cx I hk kb) dd hp ?_;rw[Kg];exact h w' _ (I.tok _) Hs
def vn(hu:A.units+40<cLine)(I:Inv X pins σ H s)(e:Rd H a (.dD kvs ep))(hk:aR 8 k=L)(kb:KR H k (.ref b))(h:∀s',Inv X pins σ H s'->Q (.bool (!(dZ kvs k).isSome)) s'):
  wpAny (model X.prog X.w) A (compareOp .NotIn (.ref b) (.ref a)) Q E s:=by
 obtain⟨z,hd,xs,rel,dd⟩:=iG I.hok e;refine wpAny_notIn_heap (knd:=bh X.prog X.w) (by show A.units+1+30<cLine;lia) (cx I hk kb) hd dd ?_;have q:=(rel.val k).aaZ;rw[Option.isSome_map]at q;rw[<-q];exact h _ (I.tok _)
def pY(hu:A.units+40<cLine)(I:Inv X pins σ H s)(e:H a=U (.dD kvs ep))(hk:aR 8 k=L)(kb:KR H k (.ref b))(l:kvs.length<sizeLine)(rv:RelV v r)(h:∀y_ s',Inv X pins σ (upd H a (.dD (dh kvs k v) y_)) s'->Q () s'):
  wpAny (model X.prog X.w) A (setItem (.ref a) (.ref b) r) Q E s:=by
 obtain⟨z,hd,xs,rel,dd⟩:=iG I.hok (.inl e);have hl:(dh kvs k v).length<=sizeLine:=by have:=bt kvs k v;lia
 refine wpAny_setItem_heap (knd:=bh X.prog X.w) (hsz:=by rw[<-Yk rel];exact z) (by show A.units+1+30<cLine;lia) (cx I hk kb) dd λh' JS hs=>?_;obtain⟨q,es,y_,hq,h2,h3,h4,_,h5⟩:=JS;refine h y_ _ (fC I (by rw[e];exact True.intro) hs ⟨q,hq⟩ ⟨hl,hd,_,Paired.abW (rel.put k hk kb rv) λp q z=>⟨z.1,z.2.1,KR.to (λc ys ec=>?_) z.2.2.1,z.2.2.2⟩,q,es,hq,h2,h3,h4,h5⟩);rw[ai (lW ec e (λz=>nomatch z))];exact ec
end
def Rel.oset{K:Z5}{B:ZM->Prop}{Hk H:Hp}{δ:Mk}{σ:St}{i:Nat}{d d':D}{l:ZM}{o:HO}(R:Rel K B Hk δ σ H)(h:δ[i]?=U (U (d,L)))(hl:σ[i]?=U (U (.ref l)))(new:Ext B H (upd H l o)->ObR K B (upd H l o) d' l):
  Ext B H (upd H l o)/\Rel K B Hk (δ.set i (U (d',L))) σ (upd H l o):=by
 obtain⟨a,e1,e2,ob⟩:=R.own i _ h;rw[hl]at e1;cases e1;obtain⟨u,hx,mu⟩:=ob.mut;have hb:¬B l:=λz=>by obtain⟨o,q⟩:=R.bor l z;rw[e2]at q;trivial
 have ex:Ext B H (upd H l o):=bZ hx mu hb;have k_:i<δ.length:=(ZP.mp h).1;have Q2:∀j e,(δ.set i (U (d',L)))[j]?=U (U (e,L))->∃e',δ[j]?=U (U (e',L)):=λj e q=>by
  by_cases hj:j=i;subst hj;exact⟨_,h⟩;rw[ZL (ZA hj)]at q;exact⟨_,q⟩
 refine⟨ex,⟨R.same.put e2,R.bor,by simpa using R.len,λj e q=>?_,λj e q=>?_,λj k e f q Ka h1 h2 h3 h4=>?_⟩⟩;by_cases hj:j=i;subst hj;rw[ZG k_]at q;cases q;rw[ZL (ZA hj)]at q;obtain⟨v,q1,q2⟩:=R.var j e q;exact⟨v,q1,q2.ext ex⟩;by_cases hj:j=i;subst hj;rw[ZG k_]at q;cases q;exact⟨l,hl,e2,new ex⟩;rw[ZL (ZA hj)]at q;obtain⟨c,q1,q2,q3⟩:=R.own j e q;have hc:c≠l:=λz=>by subst z;exact R.dis j i e _ c hj q h q1 hl
 exact⟨c,q1,q2,q3.ext ex λo q _=>by rw[ai hc];exact q⟩;obtain⟨e',z1⟩:=Q2 j e h1;obtain⟨f',z2⟩:=Q2 k f h2;exact R.dis j k e' f' q Ka z1 z2 h3 h4
def jr:D->Bool
 |.tup _=>L
 |_=>Y
def bL{κ:Type}[DecidableEq κ](k:κ):Z9 κ->Z9 D->Z7 D
 |x::ks,d::ds=>if x=k then U d else bL k ks ds
 |_,_=>M
def jW{κ:Type}[DecidableEq κ](k:κ)(v:D):Z9 κ->Z9 D->Z9 D
 |x::ks,d::ds=>(if x=k then v else d)::jW k v ks ds
 |_,_=>[]
def wo{κ:Type}[DecidableEq κ](k:κ)(v:D)(ks:Z9 κ)(ds:Z9 D):Z9 D:=if k∈ks then jW k v ks ds else ds++[v]
def cR{κ:Type}[DecidableEq κ](k:κ)(ks:Z9 κ):Z9 κ:=if k∈ks then ks else ks++[k]
section
variable{K:Z5}{B:ZM->Prop}{H:Hp}{κ:Type}[DecidableEq κ]
theorem cL(k:κ):∀{kvs:Z9 (κ×V)}{ds:Z9 D},M1 K B H ds (kvs.map (·.2))->(bL k (kvs.map (·.1)) ds=M->dZ kvs k=M)/\∀d,bL k (kvs.map (·.1)) ds=U d->∃v,dZ kvs k=U v/\Rep K B H d v
 |[],ds,r=>⟨λ_=>rfl,λd h=>by cases ds<;>simp[bL]at h⟩
 |p::kvs,ds,r=>by
  cases ds with
  |nil=>simp only[Z2,M1]at r;trivial
  |cons d ds=>
   rw[Z2]at r;obtain⟨r1,r2⟩:=r.abI;rw[Z2];unfold bL;by_cases e:p.1=k;rw[ZO e];exact⟨λz=>(by trivial),λd2 z=>(by obtain rfl:=Z8 z;exact⟨p.2,bR e,r1⟩)⟩;rw[ZJ e,bQ e];exact cL k r2
def tw(k:κ)(kvs:Z9 (κ×V)):(kvs.any λkv=>decide (kv.1=k))=decide (k∈kvs.map (·.1)):=by
 rw[Yx,XR,Y8,ZV];constructor
 rintro⟨x,h1,h2⟩;exact⟨x,h1,Zj h2⟩
 rintro⟨x,h1,h2⟩;exact⟨x,h1,Zw h2⟩
def dG(k:κ)(v:V)(kvs:Z9 (κ×V)):(dh kvs k v).map (·.1)=cR k (kvs.map (·.1)):=by
 unfold dh cR;rw[tw];by_cases hk:k∈kvs.map (·.1)
 .rw[Zw hk,ZO rfl,ZO hk,YN]
  refine Y7 λx _=>?_;simp only[Function.comp];split<;>rfl
 rw[ZE hk,ZJ Zh,ZJ hk];simp
theorem kF(r:Rep K B H d v)(k:κ):∀{kvs:Z9 (κ×V)}{ds:Z9 D},M1 K B H ds (kvs.map (·.2))->M1 K B H (jW k d (kvs.map (·.1)) ds) ((kvs.map λkv=>if kv.1=k then(kv.1,v) else kv).map (·.2))
 |[],ds,q=>by
  cases ds with
  |nil=>exact M1.nil
  |cons _ _=>simp only[YO,M1]at q;obtain⟨_,_,z,_⟩:=q;trivial
 |p::kvs,ds,q=>by
  cases ds with
  |nil=>simp only[Z2,M1]at q;trivial
  |cons d0 ds=>
   rw[Z2]at q;obtain⟨r1,r2⟩:=q.abI;have ih:=kF r k r2;rw[Z2,Z2,Z2];unfold jW;by_cases e:p.1=k;rw[ZO e,ZO e];exact M1.cons r ih;rw[ZJ e,ZJ e];exact M1.cons r1 ih
def iC(r:Rep K B H d v)(k:κ)(q:M1 K B H ds (kvs.map (·.2))):M1 K B H (wo k d (kvs.map (·.1)) ds) ((dh kvs k v).map (·.2)):=by
 unfold dh wo;rw[tw];by_cases hk:k∈kvs.map (·.1);rw[Zw hk,ZO rfl,ZO hk];exact kF r k q;rw[ZE hk,ZJ Zh,ZJ hk,YU];exact q.append (M1.cons r M1.nil)
end
def DGA(H:Hp)(a:ZM)(y:V)(r:Z7 V):Prop:=Ba H a y r\/∃kvs ep k b,Rd H a (.dD kvs ep)/\y=.ref b/\aR 8 k=L/\KR H k (.ref b)/\r=dZ kvs k
def DPA(H:Hp)(a:ZM)(y v:V)(N:Hp->Prop):Prop:=(∃H',FT H a y v H'/\N H')\/∃kvs ep k b,H a=U (.dD kvs ep)/\y=.ref b/\aR 8 k=L/\KR H k (.ref b)/\kvs.length<sizeLine/\∀y_,N (upd H a (.dD (dh kvs k v) y_))
section
variable{A:Za}
def pL(hu:A.units+40<cLine)(I:Inv X pins σ H s)(g:DGA H a y (U v))(ry:RelV y u)(h:∀w' s',Inv X pins σ H s'->RelV v w'->Q w' s'):wpAny (model X.prog X.w) A (getItem (.ref a) u) Q E s:=by
 rcases g with g|⟨kvs,ep,k,b,e,rfl,hk,kb,l⟩;exact sW (by lia) I g ry h;cases (show u=Value.ref b from ry);exact pi hu I e hk kb l.symm h
def v5(hu:A.units+40<cLine)(I:Inv X pins σ H s)(g:DGA H a y o)(ry:RelV y u)(h:∀s',Inv X pins σ H s'->Q (.bool (!o.isSome)) s'):wpAny (model X.prog X.w) A (compareOp .NotIn u (.ref a)) Q E s:=by
 rcases g with g|⟨kvs,ep,k,b,e,rfl,hk,kb,rfl⟩;exact zH (by lia) I g ry h;cases (show u=Value.ref b from ry);exact vn hu I e hk kb h
def qD(hu:A.units+40<cLine)(I:Inv X pins σ H s)(g:DPA H a y v N)(ry:RelV y u)(rv:RelV v r)(h:∀H' s',Inv X pins σ H' s'->N H'->Q () s'):wpAny (model X.prog X.w) A (setItem (.ref a) u r) Q E s:=by
 rcases g with⟨H',g,n⟩|⟨kvs,ep,k,b,e,rfl,hk,kb,l,n⟩;exact t8 (by lia) I g ry rv λs' I'=>h H' s' I' n
 cases (show u=Value.ref b from ry);exact pY hu I e hk kb l rv λy_ s' I'=>h _ s' I' (n y_)
def kB(I:Inv X pins σ H s)(g:DGA H a y o):s.TypeIs (.ref a) "dict":=by
 rcases g with g|⟨kvs,ep,k,b,e,_⟩;exact mB I g;obtain⟨_,_,xs,_,dd⟩:=iG I.hok e;exact dd.typeIs
end
def tGA(td ty:TE):TE:=λσ H Q=>td σ H λx H1=>ty σ H1 λy H2=>∃a v,x=.ref a/\DGA H2 a y (U v)/\Q v H2
def rIA(neg:Bool):R2:=λy x H Q=>∃a o,x=.ref a/\DGA H a y o/\Q (.bl (if neg then !o.isSome else o.isSome)) H
def sPA(td ty tv:TE):TS:=λD σ H=>tv σ H λv H1=>td σ H1 λx H2=>ty σ H2 λy H3=>∃a,x=.ref a/\DPA H3 a y v λH4=>D.nx σ H4
section
variable{X:Cx}{o:Expr}{pos:Pos}
def wM(hu:X.A.units+64<cLine)(ho:PE X o td)(hi:PE X i ty)(hs:Eu i):PE X (.Subscript o i pos) (tGA td ty):=by
 intro pins s σ H Q I h;refine AR PySem.F.slot_dict_getitem.lookup hs (thn (ho pins s σ H _ I h) λu s1 ⟨x,H1,I1,rx,q1⟩=>thn (hi pins s1 σ H1 _ I1 q1) λiv s2 hz=>?_);obtain⟨y,H2,I2,ry,a,v,ex,g,q2⟩:=hz;subst ex;obtain rfl:u=Value.ref a:=rx;exact⟨kB I2 g,pL (by lia) I2 g ry λw' s3 I3 Hs=>⟨v,H2,I3,Hs,q2⟩⟩
def sw(hu:X.A.units+64<cLine):OpR X (compareOp .NotIn) (rIA L):=by
 intro pins s σ H y x v u Q I ry rx ⟨a,o,ex,g,q⟩;subst ex;obtain rfl:u=Value.ref a:=rx;exact v5 (by lia) I g ry λs3 I3=>⟨.bl (!o.isSome),H,I3,rfl,q⟩
def nI(hu:X.A.units+64<cLine)(ho:PE X o td)(hi:PE X i ty)(hv:PE X value tv)(hs:swapsWith value (U (.Subscript o i pos')) pos.line X.env=pure Y):PS X (.Assign [.Subscript o i pos'] value pos) (sPA td ty tv):=by
 intro pins s σ H D I h;refine wpAny_Assign_Subscript (thn (hv pins s σ H _ I h) λr s1 ⟨v,H1,I1,rv,q1⟩=>thn (ho pins s1 σ H1 _ I1 q1) λu s2 ⟨x,H2,I2,rx,q2⟩=>thn (hi pins s2 σ H2 _ I2 q2) λiv s3 ⟨y,H3,I3,ry,a,ex,g⟩=>?_) hs;subst ex;obtain rfl:u=Value.ref a:=rx;exact qD (by lia) I3 g ry rv λH4 s4 I4 q3=>⟨σ,H4,I4,q3⟩
end
noncomputable def bM(x k:Z7 D):Z7 (Z7 D):=match x,k with
 |some (.dK ks vs),some d=>(match gZ d with|some kk=>U (bL kk ks vs)|none=>M)
 |some (.dD ks vs),some d=>if(aR 8 d&&jr d)=L then U (bL d ks vs) else M
 |_,_=>M
def eF{K:Z5}{B:ZM->Prop}{H:Hp}{d:D}{k:Key}{v:V}(h:gZ d=U k)(r:Rep K B H d v):v=kV k:=by
 cases d<;>simp only[gZ]at h<;>first
  |(cases h;simp only[Rep]at r;exact r)
  |trivial
def c9{K:Z5}{B:ZM->Prop}{H:Hp}{d:D}{v:V}(h:jr d=L)(r:Rep K B H d v):∃b,v=.ref b:=by
 cases d<;>simp only[jr]at h<;>first
  |(simp only[Rep]at r;obtain⟨a,xs,e,_⟩:=r;exact⟨a,e⟩)
  |trivial
set_option tactic.hygienic true in
def cN{K:Z5}{B B':ZM->Prop}{H:Hp}{x k:Z7 D}{o:Z7 D}(h:bM x k=U o):∃d e,x=U d/\k=U e/\∀{v u:V},Rep K B H d v->Rep K B' H e u->∃a r,v=.ref a/\DGA H a u r/\r.isSome=o.isSome/\∀z,o=U z->∃w,r=U w/\Rep K B H z w:=by
 unfold bM at h;split at h;rename_i ks vs d;split at h;rename_i kk hk;obtain rfl:=Z8 h;refine⟨_,_,rfl,rfl,λ{v u} r1 r2=>?_⟩;simp only[Rep]at r1;obtain⟨a,kvs,rfl,hq,rfl,rs⟩:=r1;have hu:=eF hk r2;obtain⟨n1,n2⟩:=cL kk rs;refine⟨a,dZ kvs kk,rfl,.inl ⟨kvs,kk,hq.imp And.right id,hu,rfl⟩,?_,λz hz=>n2 z hz⟩;cases q:bL kk (kvs.map (·.1)) vs with
 |none=>rw[n1 q];rfl
 |some z=>obtain⟨w,e,_⟩:=n2 z q;rw[e];rfl
 trivial;rename_i ks vs d;split at h;rename_i hk;obtain rfl:=Z8 h;rw[ZK]at hk;refine⟨_,_,rfl,rfl,λ{v u} r1 r2=>?_⟩;simp only[Rep]at r1;obtain⟨a,kvs,rfl,⟨ep,hq⟩,rfl,rs⟩:=r1;obtain⟨b,rfl⟩:=c9 hk.2 r2;obtain⟨n1,n2⟩:=cL d rs;refine⟨a,dZ kvs d,rfl,.inr ⟨kvs,ep,d,b,hq.imp And.right id,rfl,hk.1,r2.key hk.1,rfl⟩,?_,λz hz=>n2 z hz⟩;cases q:bL d (kvs.map (·.1)) vs with
 |none=>rw[n1 q];rfl
 |some z=>obtain⟨w,e,_⟩:=n2 z q;rw[e];rfl
 trivial;trivial
def A5(x k:Z7 D):Z7 D:=match bM x k with|some (some d)=>U d|_=>M
def yo(k x:Z7 D):Z7 Bool:=match bM x k with|some o=>U o.isSome|none=>M
section
variable{X:Cx}{a b:Expr}{fa fb:Mk->Z7 D}{m m' mm:Bool}{pos:Pos}
theorem CL(hu:X.A.units+64<cLine)(ha:DE X m a fa)(hb:DE X m' b fb)(hs:Eu b:=by intro _ _;rfl):DE X m (.Subscript a b pos) (λδ=>A5 (fa δ) (fb δ)):=
 (wM hu ha hb hs).imp λσ H Q hz=>by
  obtain⟨B,Hk,δ,d,R,e,k⟩:=hz;dsimp only at e;unfold A5 at e;cases q:bM (fa δ) (fb δ)with
  |none=>rw[q]at e;trivial
  |some o=>
   rw[q]at e;cases o with
   |none=>trivial
   |some z=>
    obtain rfl:=Z8 e;obtain⟨d1,d2,e1,e2,_⟩:=cN (K:=X.K) (B:=aZ m B δ σ) (B':=aZ m' B δ σ) (H:=H) q;refine two R e1 e2 λv u H' s R' r1 r2=>?_;obtain⟨SA,Sz,LA,Lz,go⟩:=cN (K:=X.K) (B:=aZ m B δ σ) (B':=aZ m' B δ σ) (H:=H') q;rw[e1]at LA;obtain rfl:=Z8 LA;rw[e2]at Lz;obtain rfl:=Z8 Lz;obtain⟨c,r,ev,g,_,hz⟩:=go r1 r2;obtain⟨w,rfl,Hs⟩:=hz _ rfl;exact⟨c,w,ev,g,k w H' s Hs⟩
def tK{K:Z5}{B B':ZM->Prop}{H:Hp}{x y:Z7 D}{c:Bool}(h:yo y x=U c):∃d e,x=U d/\y=U e/\∀{v u:V},Rep K B H d v->Rep K B' H e u->∃a r,v=.ref a/\DGA H a u r/\r.isSome=c:=by
 unfold yo at h;cases q:bM x y with
 |none=>rw[q]at h;trivial
 |some o=>
  rw[q]at h;obtain rfl:=Z8 h;obtain⟨d,e,e1,e2,go⟩:=cN (K:=K) (B:=B) (B':=B') (H:=H) q;exact⟨d,e,e1,e2,λr1 r2=>by obtain⟨a,r,ev,g,hs,_⟩:=go r1 r2;exact⟨a,r,ev,g,hs⟩⟩
theorem rN(hu:X.A.units+64<cLine)(ha:DE X m a fa)(hb:DE X m' b fb)(hm:behindInMarks .NotIn b=Y:=by rfl):DT X (.Compare a [.NotIn] [b] pos) (λδ=>gW (yo (fa δ) (fb δ))):=
 (dC (sw hu) ha hb hm).imp λσ H Q hz=>by
  obtain⟨B,Hk,δ,d,R,e,k⟩:=hz;cases q:yo (fa δ) (fb δ)with
  |none=>simp only[q,gW]at e;trivial
  |some c=>
   simp only[q,gW]at e;obtain rfl:=Z8 e;obtain⟨d1,d2,e1,e2,_⟩:=tK (K:=X.K) (B:=aZ m' B δ σ) (B':=aZ m B δ σ) (H:=H) q;refine two R e2 e1 λv u H' s R' r1 r2=>?_;obtain⟨SA,Sz,LA,Lz,go⟩:=tK (K:=X.K) (B:=aZ m' B δ σ) (B':=aZ m B δ σ) (H:=H') q;rw[e1]at LA;obtain rfl:=Z8 LA;rw[e2]at Lz;obtain rfl:=Z8 Lz;obtain⟨p,r,ev,g,rfl⟩:=go r2 r1;exact⟨p,r,ev,g,_,rfl,k H' s⟩
end
section
def mY{κ:Type}[DecidableEq κ]{knd:PySem.KeyKind prog w κ}{d:ZM}{kvs:Z9 (κ×Z3)}{k:κ}{key dflt:Z3}{Q:Z3->ZR->Prop}(p_:knd.is k key=true)(hm:s.heap.DictOf knd d kvs)(hsz:kvs.length<=sizeLine)
  (old:∀v,valueAt kvs k=some v->Q v {s with toks:=s.toks+1})(new:valueAt kvs k=none->∀h',h'.DictOf knd d (stored kvs k dflt)->Heap.SameBut d s.heap h'->Q dflt {s with heap:=h',toks:=s.toks+1}):
  wpAny (model prog w) A (dictSetDefault d key dflt) Q E s:=by
 obtain⟨o,es,ep,ho,hc,hd,hk,hp,hn⟩:=hm;have OC:es.size<=sizeLine:=by
  have e1:=hp.length;rw[Array.length_toList]at e1;lia
 have UC:(es.findIdx? λe=>knd.is k e.key)=kvs.findIdx? λkv=>decide (kv.1=k):=by rw[<-hp.findIdx k];obtain⟨l⟩:=es;simp
 have NF:=hp.find k;unfold dictSetDefault
 try with_reducible refine Y6 ?_
 refine Z_ (knd.pyHash p_ (Z_ (wpAny_dictFind_of (s:={s with toks:=s.toks+1}) p_ ho hd hk ?_)));rcases hi:(es.findIdx? λe=>knd.is k e.key)with _|i<;>rw[hi];have Lh:k∉kvs.map (·.1):=not_mem_of_findIdx_none (UC▸hi);have Mi:¬(kvs.any λkv=>decide (kv.1=k))=true:=by
  rw[XR]
  rintro⟨kv,Uv,he⟩
  exact Lh (ZV.mpr ⟨kv,Uv,Zj he⟩)
 have hv:valueAt kvs k=none:=by
  unfold valueAt;rw[Option.map_eq_none_iff,Xs];exact λx hx he=>Mi (XR.mpr ⟨x,hx,he⟩)
 refine Z_ (YD (Z_ (wpAny_updateDictKeys (hz:=OC) (s:={s with toks:=s.toks+1}) ho hd (Z6 (new hv _ ⟨_,_,ep+1,Zk _ ho (Obj.isFreed_of_dict (W_ hd _)),hc.mapDictKeys _,W_ hd _,hk.push p_ _,?_,?_⟩ (Ze ..))))));rw[stored,ZJ Mi];have q:=hp.append p_ (knd.hash k) dflt;obtain⟨l⟩:=es;simpa using q;rw[stored,ZJ Mi,YU,XZ];refine⟨hn,by simp,λa ha b hb=>?_⟩;have Ij:b=k:=by simpa using hb
 exact λe=>Lh (by rw[<-Ij,<-e];exact ha);obtain⟨j_,_⟩:=Array.findIdx?_eq_some_iff_findIdx_eq.mp hi;have hv:valueAt kvs k=some es[i].val:=by
  have q:=hp.find k;rw[<-q];have hf:(es.toList.findIdx? λe=>knd.is k e.key)=some i:=by rw[<-hi];obtain⟨l⟩:=es;simp
  obtain⟨h1,h2,h3⟩:=List.findIdx?_eq_some_iff_getElem.mp hf;have:es.toList.find? (λe=>knd.is k e.key)=some es.toList[i]:=by
   rw[List.find?_eq_some_iff_getElem];exact⟨h2,i,h1,rfl,λj hj=>by simpa using h3 j hj⟩
  rw[this];simp
 refine Z_ (WD (s:={s with toks:=s.toks+1}) ho hd ?_);rw[Zb j_];exact Z_ (YD (Z6 (old _ hv)))
def rh{κ:Type}[DecidableEq κ]{knd:HeapKind prog w κ}{d a:ZM}{xs:Z9 (κ×ZM×Z3)}{k:κ}{dflt:Z3}{Q:Z3->ZR->Prop}(hu:knd.room A)(p_:knd.is s.heap k a)(hm:s.heap.DictOfH knd d xs)(hsz:xs.length<=sizeLine)
  (old:∀p,atKey xs k=U p->Q p.2 {s with toks:=s.toks+knd.draws k})(new:atKey xs k=M->∀h',h'.DictOfH knd d (storedH xs k a dflt)->Heap.SameBut d s.heap h'->Q dflt {s with heap:=h',toks:=s.toks+knd.draws k}):
  wpAny (model prog w) A (dictSetDefault d (.ref a) dflt) Q E s:=by
 obtain⟨o,es,ep,ho,hc,hd,he,RZ,hn⟩:=hm;unfold dictSetDefault
 try with_reducible refine Y6 ?_
 refine Z_ (knd.pyHash hu p_ (Z_ (wpAny_dictFind_heap (s:={s with toks:=s.toks+knd.draws k}) hu p_ ho hd he RZ hn (λIi=>?_) λj p hj=>?_)));have Jg:=atKey_none_of_get Ii;have Lh:=not_mem_keys_of_get Ii;refine Z_ (YD (Z_ (wpAny_updateDictKeys (hz:=by have e:=W7 he;lia) (s:={s with toks:=s.toks+knd.draws k}) ho hd (Z6 (new Jg _ ⟨_,_,ep+1,Zk _ ho (Obj.isFreed_of_dict (W_ hd _)),hc.mapDictKeys _,W_ hd _,?_,?_,?_⟩ (Ze ..))))));rw[storedH_new Jg];simp[he,entryOfKey];rw[storedH_new Jg];intro x hx;rcases Zt.mp hx with hx|hx;exact knd.keeps (RZ x hx) ho hd (Ze ..);rw[ZC.mp hx];exact knd.keeps p_ ho hd (Ze ..);rw[storedH_new Jg,YU,XZ];refine⟨hn,by simp,λx hx y hy=>?_⟩;have T5:y=k:=by simpa using hy
 exact λe=>Lh (by rw[<-T5,<-e];exact hx);have Jg:=atKey_of_get hn hj;refine Z_ (WD (s:={s with toks:=s.toks+knd.draws k}) ho hd ?_);rw[entry_at he j,hj];exact Z_ (YD (Z6 (old p Jg)))
end
section
variable{s:ZR}{v:V}{A:Za}
def iz{Q:Z3->ZR->Prop}{P:YX}{w:YK}{d:ZM}{key dflt:Z3}(ty:s.TypeIs (.ref d) "dict")(hd:(d==sysModules)=Y)(h:wpAny (model P w) A.in1 (dictSetDefault d key dflt) Q E s):
  wpAny (model P w) A (call (.builtin "dict.setdefault") [.ref d,key,dflt]) Q E s:=by
 refine YW F.slot_dict_setdefault ty F.entry_dict_setdefault ?_ (F.args_dict_setdefault_3 _ _ _);unfold Builtin.«dict.setdefault»;refine Z_ ?_;unfold Builtin.Dict.keyAndDefault;refine Z_ (Wh ty (Z6 ?_));change wpAny _ _ (if(d==sysModules)=L then _ else(dictSetDefault d key dflt >>= _)) _ _ s;refine dy (by rw[hd];exact Zh) ?_;refine Z_ (YL h (λv s' q=>Z6 ⟨v,rfl,q⟩) λ_ _ q=>q)
end
def DSd(H:Hp)(a:ZM)(y z v:V)(N:Hp->Prop):Prop:=(DGA H a y (U v)/\N H/\((∃kvs,H a=U (.dK kvs))\/∃kvs ep,H a=U (.dD kvs ep)))\/(DGA H a y M/\v=z/\DPA H a y z N)
section
variable{A:Za}
def rH{Q:Z3->ZR->Prop}(hu:A.units+40<cLine)(I:Inv X pins σ H s)(g:DSd H a y z v N)(ry:RelV y u)(rz:RelV z r)(h:∀w' H' s',Inv X pins σ H' s'->N H'->RelV v w'->Q w' s'):
  wpAny (model X.prog X.w) A (call (.builtin "dict.setdefault") [.ref a,u,r]) Q E s:=by
 have ty:s.TypeIs (.ref a) "dict":=by rcases g with⟨g,_⟩|⟨g,_⟩<;>exact kB I g
 rcases g with⟨g,nn,own⟩|⟨g,rfl,p⟩;rcases g with⟨kvs,k,e,ey,l⟩|⟨kvs,ep,k,b,e,ey,hk,kb,l⟩;subst ey;obtain⟨z1,hd,vs,rel,dd⟩:=lF I.hok e;obtain⟨w',hw,Hs⟩:=aaX.some_of (v:=v) (o:=valueAt vs k) (by rw[l];exact rel.val k);refine iz ty hd (mY (lE ry) dd (by rw[<-rel.length];exact z1) (λv' Iz=>?_) λhn=>?_);rw[hw]at Iz;obtain rfl:=Z8 Iz;exact h w' _ _ (I.tok _) nn Hs;rw[hw]at hn;trivial;subst ey;cases (show u=Value.ref b from ry);obtain⟨z1,hd,xs,rel,dd⟩:=iG I.hok e;obtain⟨w',hw,Hs⟩:=aaX.some_of (v:=v) (o:=(atKey xs k).map (·.2)) (by rw[l];exact rel.val k);obtain⟨p,hp,Kg⟩:=Xk.mp hw;refine iz ty hd (rh (knd:=bh X.prog X.w) (by show A.units+1+30<cLine;lia) (cx I hk kb) dd (by rw[<-Yk rel];exact z1) (λp' HY=>?_) λhn=>?_);rw[hp]at HY;obtain rfl:=Z8 HY;rw[Kg];exact h w' _ _ (I.tok _) nn Hs;rw[hp]at hn;trivial
 .rcases p with⟨H',⟨kvs,k,e,ey,l,eH⟩,nn⟩|⟨kvs,ep,k,b,e,ey,hk,kb,l,nn⟩
  .subst ey eH
   obtain⟨z1,hd,vs,rel,dd⟩:=CO I.hok e;have hn:valueAt vs k=M:=by
    rcases g with⟨L8,k',e',MS,l'⟩|⟨L8,y_,k',b',e',MS,_,_,l'⟩
    .have Nf:k'=k:=by cases k<;>cases k'<;>simp[kV]at MS<;>rw[MS]
     subst Nf;rcases e' with e'|⟨o,e'⟩;rw[e]at e';cases e';exact aaX.none_of (by rw[l'];exact rel.val k');rw[e]at e';cases e'
    .rcases e' with e'|⟨o,e'⟩<;>(rw[e]at e';cases e')
   refine iz ty hd (mY (lE ry) dd (by rw[<-rel.length];exact z1) (λv' Iz=>?_) λ_ h' JS hs=>?_);rw[hn]at Iz;trivial;have hl:(dh kvs k v).length<=sizeLine:=by have:=bt kvs k v;lia
   have he:∃q,h'.get? a=U q:=let ⟨q,_,_,hq,_⟩:=JS;⟨q,hq⟩
   exact h r _ _ (fC I (by rw[e];exact True.intro) hs he (xS hl hd (rel.put k rz) JS)) nn rz
  .subst ey
   cases (show u=Value.ref b from ry);obtain⟨z1,hd,xs,rel,dd⟩:=iG I.hok (.inl e);have hn:(atKey xs k).map (·.2)=M:=by
    rcases g with⟨L8,k',e',MS,l'⟩|⟨L8,y_,k',b',e',MS,JM,T2,l'⟩
    .rcases e' with e'|⟨o,e'⟩<;>(rw[e]at e';cases e')
    cases MS;have Nf:k'=k:=RH.inj (cx I JM T2).2 (cx I hk kb).2;subst Nf;rcases e' with e'|⟨o,e'⟩;rw[e]at e';cases e';exact aaX.none_of (by rw[l'];exact rel.val k');rw[e]at e';cases e'
   refine iz ty hd (rh (knd:=bh X.prog X.w) (by show A.units+1+30<cLine;lia) (cx I hk kb) dd (by rw[<-Yk rel];exact z1) (λp' HY=>?_) λ_ h' JS hs=>?_);rw[HY]at hn;trivial;have hl:(dh kvs k v).length<=sizeLine:=by have:=bt kvs k v;lia
   obtain⟨q,es,y_,hq,h2,h3,h4,_,h5⟩:=JS;refine h r (upd H a (.dD (dh kvs k v) y_)) _ (fC I (by rw[e];exact True.intro) hs ⟨q,hq⟩ ⟨hl,hd,_,Paired.abW (rel.put k hk kb rz) λp q z=>⟨z.1,z.2.1,KR.to (λc ys ec=>?_) z.2.2.1,z.2.2.2⟩,q,es,hq,h2,h3,h4,h5⟩) (nn y_) rz;rw[ai (lW ec e (λz=>nomatch z))];exact ec
end
def ab1:TE:=λ_ H Q=>∀p,H p=M->Q (.ref p) (upd H p (.dD [] 0))
section
variable{X:Cx}{pos:Pos}{a b:Expr}{i:Nat}{x:Str}
def iP:PE X (.Dict [] [] pos) ab1:=λpins s σ H Q I h=>
 wpAny_Dict_empty ⟨.ref s.z,_,I.laid (a:=s.z) (o:=.dD [] 0) (t':=s.toks) (λ_ _ q=>Z4 _ q) (ZU _) (ot I.big),rfl,h _ (I.hok.fresh (ZU _))⟩
theorem we:DF X (.Dict [] [] pos) (λ_=>U (.dK [] [])):=vT.imp λσ H Q hz=>by
 obtain⟨B,Hk,δ,d,R,e,k⟩:=hz;obtain rfl:=Z8 e;intro p hp;exact k p _ (au hp) hp ⟨[],ah,rfl,M1.nil⟩
theorem vC:DF X (.Dict [] [] pos) (λ_=>U (.dD [] [])):=iP.imp λσ H Q hz=>by
 obtain⟨B,Hk,δ,d,R,e,k⟩:=hz;obtain rfl:=Z8 e;intro p hp;exact k p _ (au hp) hp ⟨[],⟨0,ah⟩,rfl,M1.nil⟩
noncomputable def gI(x:D)(k v:D):Z7 D:=match x with
 |.dK ks vs=>(match gZ k with|some kk=>if ks.length<lim then U (.dK (cR kk ks) (wo kk v ks vs)) else M|none=>M)
 |.dD ks vs=>if(aR 8 k&&jr k&&decide (ks.length<lim))=L then U (.dD (cR k ks) (wo k v ks vs)) else M
 |_=>M
noncomputable def jO(i:Nat)(k v:Z7 D)(δ:Mk):Z7 Out:=match bN i δ,k,v with
 |some x,some k,some v=>(match gI x k v with|some y=>U (.next (δ.set i (U (y,L))))|none=>M)
 |_,_,_=>M
set_option tactic.hygienic true in
def m7{K:Z5}{B B':ZM->Prop}{H:Hp}{x k v y:D}{l:ZM}{u z:V}(h:gI x k v=U y)(ob:ObR K B H x l)(rk:Rep K B' H k u)(rz:Rep K B H v z):
  ∀{N:Hp->Prop},(∀o,(Ext B H (upd H l o)->ObR K B (upd H l o) y l)->N (upd H l o))->DPA H l u z N:=by
 intro N go;unfold gI at h;split at h;rename_i ks vs;obtain⟨kvs,e,rfl,rs⟩:=ob;split at h;rename_i kk hk;split at h;rename_i hl;obtain rfl:=Z8 h;rw[ZY]at hl;exact .inl ⟨_,⟨kvs,kk,e,eF hk rk,ZD hl (aG (ZU _)),rfl⟩,go _ λex=>⟨_,ah,dG kk z kvs,(iC rz kk rs).ext ex⟩⟩;trivial;trivial;rename_i ks vs;obtain⟨kvs,⟨ep,e⟩,rfl,rs⟩:=ob;split at h;rename_i hc;obtain rfl:=Z8 h;rw[ZK,ZK,Y8,ZY]at hc;obtain⟨⟨h1,h2⟩,h3⟩:=hc;obtain⟨b,rfl⟩:=c9 h2 rk;exact .inr ⟨kvs,ep,k,b,e,rfl,h1,rk.key h1,ZD h3 (aG (ZU _)),λy_=>go _ λex=>⟨_,⟨y_,ah⟩,dG k z kvs,(iC rz k rs).ext ex⟩⟩;trivial;trivial
set_option tactic.hygienic true in
theorem yV(hu:X.A.units+64<cLine)(n:Nm X i x)(hb:DE X m b fb)(hv:DE X Y c fc)(hs:swapsWith c (U (.Subscript (.Name x px) b pos')) pos.line X.env=pure Y:=by rfl):
  DS X (.Assign [.Subscript (.Name x px) b pos'] c pos) (λδ=>jO i (fb δ) (fc δ) δ):=
 (nI hu (bA n.at' n.vis n.d1 n.d2) hb hv hs).imp λDn σ H hz=>by
  obtain⟨B,Hk,δ,o,R,e,k⟩:=hz;dsimp only at e;unfold jO at e;split at e;rename_i d0 kd vd q0 q1 q2;split at e;rename_i y qy;obtain rfl:=Z8 e;have h1:=cj q0;refine⟨B,Hk,δ,vd,R,q2,λz H1 s1 rz=>?_⟩;have R1:=R.to s1;obtain⟨l,h2,h3,ob⟩:=R1.own i _ h1;refine⟨.ref l,h2,B,Hk,δ,kd,R1,q1,λu H2 s2 rk=>?_⟩;have R2:=R1.to s2;have TJ:=ob.ext (R1.ext s2) λo q n=>s2.get l o n q;refine⟨l,rfl,m7 qy TJ rk (rz.ext (R1.ext s2)) λho new=>?_⟩;obtain⟨x1,x2⟩:=R2.oset h1 h2 new;exact k σ _ ((R.ext (s1.trans s2)).trans x1) x2;trivial;trivial
end
def n9(x:V)(H:Hp):Prop:=∃a,x=.ref a/\((∃kvs,Rd H a (.dK kvs))\/∃kvs ep,Rd H a (.dD kvs ep))
section
variable{X:Cx}{pos i_ apos px:Pos}{m m' mm:Bool}{o a b c e:Expr}{es:Z9 Expr}{fa fb fc:Mk->Z7 D}{i:Nat}{x:Str}{to:TE}{t:TA}{name:Str}{id:String}{r:V->Z9 V->Hp->VK->Prop}
def q8(I:Inv X pins σ H s)(rv:RelV v u)(d:n9 v H):s.TypeIs u "dict"/\∀a,u=.ref a->∃ob,s.heap.get? a=U ob/\ob.dict=M:=by
 obtain⟨a,rfl,d⟩:=d;obtain rfl:u=Value.ref a:=rv;rcases d with⟨kvs,e⟩|⟨kvs,ep,e⟩;obtain⟨_,_,vs,_,dd⟩:=lF I.hok e;refine⟨dd.typeIs,λb q=>?_⟩;cases q;obtain⟨ob,_,_,h1,h2,_⟩:=dd;exact⟨ob,h1,h2.2.1⟩;obtain⟨_,_,xs,_,dd⟩:=iG I.hok e;refine⟨dd.typeIs,λb q=>?_⟩;cases q;obtain⟨ob,_,_,h1,h2,_⟩:=dd;exact⟨ob,h1,h2.2.1⟩
def FN(r:V->Z9 V->Hp->VK->Prop)(to:TE)(t:TA):TE:=λσ H Q=>to σ H λx H1=>n9 x H1/\t σ H1 λxs H2=>r x xs H2 Q
def qQ(slot:Slot "dict" name id)(Py:typeOf (.builtin id)=pure (.type "method_descriptor"))(hm:MtM X id r)(ho:PE X o to)(ha:PA X (e::es) t)(base:attributeBase o name X.env (eval o X.env)=eval o X.env:=by rfl)(few:((backTo i_ (starEach (e::es) X.env)).all (λx=>!x.1)&&(backToKw i_ (keywordEach [] X.env)).all (λx=>x.1.isSome)&&decide ((e::es).length+([]:Z9 Keyword).length+(if([]:Z9 Keyword).isEmpty then 0 else 1)<30))=L:=by rfl)(line:(apos.endLine==i_.line)=L:=by rfl)(G_:starEach (e::es) X.env=(Y,eval e X.env)::starEach es X.env:=by rfl)(plain:(backTo i_ (starEach es X.env)).any (·.1)=Y:=by rfl):
  PE X (.Call (.Attribute o name apos) (e::es) [] i_) (FN r to t):=by
 intro pins s σ H Q I h;refine wpAny_Call_method_late base few line rfl (thn (ho pins s σ H _ I h) λv s1 hz=>?_);obtain⟨x,H1,I1,r1,d1,q1⟩:=hz;obtain⟨h1,h2⟩:=q8 I1 r1 d1;have hA:=ha i_ pins s1 σ H1 _ I1 q1;refine⟨"dict",id,PySem.F.plainAttrs_dict,slot,Py,h1,h2,?_⟩;rw[G_]at hA⊢;exact Calls.callWith_builtin (by show(Y||(backTo i_ (starEach es X.env)).any (·.1))=Y;rw[plain]<;>rfl) (Calls.evalArgs_plain (thn hA λus s2 hz=>by obtain⟨vs,H2,I2,r2,q2⟩:=hz;exact hm pins s2 σ H2 x vs v us Q I2 r1 r2 q2))
def abQ:V->Z9 V->Hp->VK->Prop:=λx vs H Q=>∃l y z v,x=.ref l/\vs=[y,z]/\DSd H l y z v λH'=>Q v H'
def jG(hu:X.A.units+64<cLine):MtM X "dict.setdefault" abQ:=by
 intro pins s σ H x vs v us Q I rx rv h;obtain⟨l,y,z,w,rfl,rfl,g⟩:=h;cases rx;obtain⟨u1,u2,rfl,r1,r2⟩:=rv.two;exact rH (by lia) I g r1 r2 λw' H' s' I' q Hs=>⟨w,H',I',Hs,q⟩
noncomputable def tMX(K:Z5)(g:Mk->Z7 (D×Mk)):TE:=λσ H Q=>∃B Hk δ d f_,Rel K B Hk δ σ H/\g δ=U (d,f_)/\∀v H',Ext B H H'->Rel K B Hk f_ σ H'->Rep K B H' d v->Q v H'
noncomputable def GG(K:Z5)(g:Mk->Z7 (Bool×Mk)):TT:=λσ H Q=>∃B Hk δ b f_,Rel K B Hk δ σ H/\g δ=U (b,f_)/\∀H',Ext B H H'->Rel K B Hk f_ σ H'->Q b H'
abbrev DX(X:Cx)(e:Expr)(g:Mk->Z7 (D×Mk)):Prop:=PE X e (tMX X.K g)
abbrev DTX(X:Cx)(e:Expr)(g:Mk->Z7 (Bool×Mk)):Prop:=PT X e (GG X.K g)
noncomputable def sdO(i:Nat)(k v:Z7 D)(δ:Mk):Z7 (D×Mk):=match bN i δ,k,v with
 |some x,some kd,some vd=>(match bM (U x) (U kd)with
  |some (some d)=>U (d,δ)
  |some none=>(match gI x kd vd with|some y=>U (vd,δ.set i (U (y,L)))|none=>M)
  |none=>M)
 |_,_,_=>M
def ObR.dictAt{K:Z5}{B:ZM->Prop}{H:Hp}{x k v y:D}{l:ZM}{o:Z7 D}(ob:ObR K B H x l)(h:bM (U x) (U k)=U o):n9 (.ref l) H/\((∃kvs,H l=U (.dK kvs))\/∃kvs ep,H l=U (.dD kvs ep)):=by
 cases x with
 |dK ks vs=>obtain⟨kvs,e,_⟩:=ob;exact⟨⟨l,rfl,.inl ⟨kvs,.inl e⟩⟩,.inl ⟨kvs,e⟩⟩
 |dD ks vs=>obtain⟨kvs,⟨ep,e⟩,_⟩:=ob;exact⟨⟨l,rfl,.inr ⟨kvs,ep,.inl e⟩⟩,.inr ⟨kvs,ep,e⟩⟩
 |_=>simp only[bM]at h;trivial
def ObR.get{K:Z5}{B B':ZM->Prop}{H:Hp}{x k:D}{l:ZM}{o:Z7 D}{u:V}(ob:ObR K B H x l)(h:bM (U x) (U k)=U o)(rk:Rep K B' H k u):
  ∃r,DGA H l u r/\r.isSome=o.isSome/\∀z,o=U z->∃w,r=U w/\Rep K B H z w:=by
 cases x with
 |dK ks vs=>
  obtain⟨kvs,e,rfl,rs⟩:=ob;simp only[bM]at h;split at h;rename_i kk hk;obtain⟨n1,n2⟩:=cL kk rs;have h':bL kk (kvs.map (·.1)) vs=o:=Z8 h;refine⟨dZ kvs kk,.inl ⟨kvs,kk,.inl e,eF hk rk,rfl⟩,?_,λz hz=>n2 z (h'.trans hz)⟩;rw[<-h'];cases q:bL kk (kvs.map (·.1)) vs with
  |none=>rw[n1 q];rfl
  |some z=>obtain⟨w,e,_⟩:=n2 z q;rw[e];rfl
  trivial
 |dD ks vs=>
  obtain⟨kvs,⟨ep,e⟩,rfl,rs⟩:=ob;simp only[bM]at h;split at h;rename_i hk;rw[ZK]at hk;obtain⟨b,rfl⟩:=c9 hk.2 rk;obtain⟨n1,n2⟩:=cL k rs;have h':bL k (kvs.map (·.1)) vs=o:=Z8 h;refine⟨dZ kvs k,.inr ⟨kvs,ep,k,b,.inl e,rfl,hk.1,rk.key hk.1,rfl⟩,?_,λz hz=>n2 z (h'.trans hz)⟩;rw[<-h'];cases q:bL k (kvs.map (·.1)) vs with
  |none=>rw[n1 q];rfl
  |some z=>obtain⟨w,e,_⟩:=n2 z q;rw[e];rfl
  trivial
 |_=>simp only[bM]at h;trivial
set_option tactic.hygienic true in
theorem tE(hu:X.A.units+64<cLine)(n:Nm X i x)(hb:DE X Y b fb)(hc:DE X Y c fc)(base:attributeBase (.Name x px) "setdefault" X.env (eval (.Name x px) X.env)=eval (.Name x px) X.env:=by rfl)(few:((backTo i_ (starEach [b,c] X.env)).all (λx=>!x.1)&&(backToKw i_ (keywordEach [] X.env)).all (λx=>x.1.isSome)&&decide (([b,c]).length+([]:Z9 Keyword).length+(if([]:Z9 Keyword).isEmpty then 0 else 1)<30))=L:=by rfl)(line:(apos.endLine==i_.line)=L:=by rfl)(G_:starEach [b,c] X.env=(Y,eval b X.env)::starEach [c] X.env:=by rfl)(HV:starEach [c] X.env=[(Y,eval c X.env)]:=by rfl)(plain:(backTo i_ (starEach [c] X.env)).any (·.1)=Y:=by rfl):
  DX X (.Call (.Attribute (.Name x px) "setdefault" apos) [b,c] [] i_) (λδ=>sdO i (fb δ) (fc δ) δ):=
 (qQ PySem.F.slot_dict_setdefault PySem.F.type_dict_setdefault (jG hu) (bA n.at' n.vis n.d1 n.d2) (ay hb (ay hc aN HV) G_) base few line G_ plain).imp λσ H Q hz=>by
  obtain⟨B,Hk,δ,d,f_,R,e,k⟩:=hz;dsimp only at e;unfold sdO at e;split at e;rename_i d0 kd vd q0 q1 q2;have h1:=cj q0;obtain⟨l,h2,h3,ob⟩:=R.own i _ h1;obtain⟨og,Ot⟩:∃o,bM (U d0) (U kd)=U o:=by
   cases q:bM (U d0) (U kd)with
   |none=>rw[q]at e;trivial
   |some o=>exact⟨o,rfl⟩
  refine⟨.ref l,h2,(ob.dictAt (v:=vd) (y:=d0) Ot).1,two (m:=Y) (m':=Y) R q1 q2 λu z H' s R' r1 r2=>?_⟩;have LI:=ob.ext (R.ext s) λo q n=>s.get l o n q;have ow:=(LI.dictAt (v:=vd) (y:=d0) Ot).2;obtain⟨rr,g,gs,gz⟩:=LI.get Ot r1;rw[Ot]at e;cases og with
  |some dd=>
   simp only at e;cases e;obtain⟨w,rfl,Hs⟩:=gz _ rfl;exact⟨l,u,z,w,rfl,rfl,.inl ⟨g,k w H' (R.ext s) R' Hs,ow⟩⟩
  |none=>
   simp only at e;split at e;rename_i y qy;cases e;have hr:rr=M:=by cases rr with
    |none=>rfl
    |some _=>simp at gs
   subst hr;refine⟨l,u,z,z,rfl,rfl,.inr ⟨g,rfl,m7 qy LI r1 r2 λho new=>?_⟩⟩;obtain⟨x1,x2⟩:=R'.oset h1 h2 new;exact k z _ ((R.ext s).trans x1) x2 (r2.ext x1);trivial
  trivial
def C8(hu:X.A.units+64<cLine)(ha:DX X a ga)(hb:DE X Y b fb)(hm:behindInMarks .NotEq b=Y:=by rfl):
  DTX X (.Compare a [.NotEq] [b] pos) (λδ=>ae (ga δ) λp=>match neO (U p.1) (fb p.2)with|some c=>U (c,p.2)|none=>M):=
 (dC (xL hu) ha hb hm).imp λσ H Q hz=>by
  obtain⟨B,Hk,δ,t,f_,R,e,k⟩:=hz;obtain⟨⟨d1,B_⟩,e1,e2⟩:=ak e;simp only at e2;split at e2;rename_i cc qc;cases e2;refine⟨B,Hk,δ,d1,_,R,e1,λv H1 x1 R1 r1=>?_⟩;unfold neO gW at qc;cases q:eqO (U d1) (fb f_)with
  |none=>rw[q]at qc;trivial
  |some c0=>
   rw[q]at qc;obtain rfl:=Z8 qc;obtain⟨d,d2,z1,z2,h1,h2,rfl⟩:=fo q;obtain rfl:=Z8 z1;refine⟨B,Hk,f_,d2,R1,z2,λu H2 s2 r2=>⟨B,_,d1,d2,h1,h2,r1.ext (R1.ext s2),r2,_,rfl,k H2 (x1.trans (R1.ext s2)) (R1.to s2)⟩⟩
  trivial
noncomputable def ifX(t:Z7 (Bool×Mk))(g1 g2:Mk->Z7 Out):Z7 Out:=match t with
 |some (true,δ)=>g1 δ
 |some (false,δ)=>g2 δ
 |none=>M
set_option tactic.hygienic true in
theorem Da{x y:Z9 Stmt}(hc:DTX X c gt)(ha:DSs X x g1)(hb:DSs X y g2):DS X (.If c x y pos) (λδ=>ifX (gt δ) g1 g2):=
 (BW hc ha hb).imp λDn σ H hz=>by
  obtain⟨B,Hk,δ,o,R,e,k⟩:=hz;dsimp only at e;unfold ifX at e;split at e;rename_i f_ q;exact⟨B,Hk,δ,L,f_,R,q,λH1 x1 R1=>Ar ⟨B,Hk,f_,o,R1,e,k.ext x1⟩⟩;rename_i f_ q;exact⟨B,Hk,δ,Y,f_,R,q,λH1 x1 R1=>zh ⟨B,Hk,f_,o,R1,e,k.ext x1⟩⟩;trivial
end
section
variable{A:Za}
def kC(hd:(d==sysModules)=Y)(ho:s.heap.get? d=U o)(hc:o.ExactDict)(o_:o.data=.dict es ep)(hQ:Q (.ref s.z) {s with heap:=s.heap.push {cls:=.type "dict_keyiterator",data:=.fields #[.ref d,.int 0 0,.int es.size 0,.int ep 0]}}):wpAny (model prog w) A (pyIter (.ref d)) Q E s:=by
 have ty:s.TypeIs (.ref d) "dict":=⟨o,ho,hc.1⟩;refine wpAny_pyIter_slot ty F.slot_dict_iter (YW F.slot_dict_iter ty F.entry_dict_iter ?_ (F.args_dict_iter_1 _));unfold Builtin.«dict.__iter__»;refine Z_ ?_;unfold Builtin.Dict.dictSlotNone;refine Z_ (Wh ty (Z6 ?_));change wpAny _ _ (Builtin.Dict.showsAll d >>= _) _ E s;unfold Builtin.Dict.showsAll;rw[ZJ (by rw[hd];exact Zh)];refine Z_ (Z6 (Z_ (WD ho o_ (Z_ (wpAny_dictEpoch ho o_ (Z_ (Y3 (Z6 ⟨_,rfl,"dict_keyiterator",_,⟨_,ZN _ rfl,rfl⟩,W5.lookup,?_⟩))))))));simpa[rawInt]using hQ
def dH(hh:A.handled=M)(hit:s.heap.IsKeyIter it d i es.size ep)(ho:s.heap.get? d=U o)(o_:o.data=.dict es ep)(item:∀e,es[i]?=U e->∀h',h'.IsKeyIter it d (i+1) es.size ep->Heap.SameBut it s.heap h'->Q (U e.key) {s with heap:=h'})(stop:es[i]?=M->∀h',Heap.ExtBut it s.heap h'->Q M {s with heap:=h'}):wpAny (model prog w) A (pyNext (.ref it)) Q E s:=by
 obtain⟨oi,gi,ci,di⟩:=id hit;unfold pyNext;refine Z_ (XO (Yw (name:=Str.ofString "__next__") hit.typeIs W5 (YW W5 hit.typeIs F.entry_dict_keyiterator_next ?_ (F.args_dict_keyiterator_next_1 _))));refine Z_ (Z6 (Z_ (Z_ ?_)))
 first|refine Z_ (Xa hit.typeIs (Z6 ?_))|refine Z_ (Wx hit.typeIs (Z6 ?_))
 refine Z_ (WT gi di ?_);simp only[show Builtin.Dict_items.ownsTuple "dict_keyiterator"=Y by decide,ZZ,Zm];change wpAny _ _ (if(Value.ref d==Value.none)=L then _ else _) _ _ s;refine dy (by exact Zh) ?_;refine Z_ (Z6 (Z_ (WD ho o_ ?_)));refine dy (by simp) ?_;refine Z_ (Z6 (Z_ (wpAny_dictEpoch ho o_ ?_)));refine dy (by simp) ?_;refine Z6 ?_;by_cases j_:i<es.size
 .have hx:=Zb j_
  simp only[show ¬((i:Int)<0) from by lia,Zm,Int.toNat_natCast,hx];refine Z_ ?_
  first|refine Z_ (Xa hit.typeIs (Z6 ?_))|refine Z_ (Wx hit.typeIs (Z6 ?_))
  refine Z_ (wpAny_isOneOf_keyiter hit.typeIs ?_);change wpAny _ _ (setField (.ref it) 1 (rawInt ((i:Int)+1)) >>= _) _ _ s;have nx:(s.heap.update it (Obj.mapFields (·.setIfInBounds 1 (rawInt ((i:Int)+1))))).IsKeyIter it d (i+1) es.size ep:=⟨_,Zk _ gi (XW (Y5 di _)),(Xg ..).trans ci,by rw[Y5 di];simp[rawInt]⟩
  refine Z_ (Ye gi di (by simp) (Z_ (Y6 (Z_ (wpAny_isOneOf_keyiter (s:={s with heap:=s.heap.update it (Obj.mapFields (·.setIfInBounds 1 (rawInt ((i:Int)+1))))}) nx.typeIs ?_)))));change wpAny _ _ (pure es[i].key) _ _ _;exact Z6 (Z6 ⟨_,rfl,Z6 (item _ hx _ nx (Ze ..))⟩)
 .have hx:es[i]?=M:=XJ (by lia)
  simp only[show ¬((i:Int)<0) from by lia,Zm,Int.toNat_natCast,hx];refine Z_ ?_
  first|refine Z_ (Xa hit.typeIs (Z6 ?_))|refine Z_ (Wx hit.typeIs (Z6 ?_))
  change wpAny _ _ (setField (.ref it) 0 .none >>= _) _ _ s;refine Z_ (Ye gi di (by simp) ?_);change wpAny _ _ (newExc (.type "StopIteration") [] >>= _) _ _ _;simp only[newExc,newTuple,raiseNew];refine Z_ (Z_ (Y3 ?_ (by size_fits)));refine Z_ (m:=firstArgMember _ _) (Wg (a:=Value.none) (by first|rfl|(simp only[firstArgMember];rfl)) (Y3 ?_ (by size_fits)));refine Z_ (wpAny_handled ?_);rw[show A.in1.handled=M from hh];refine Z_ (Z6 (wpAny_throw ?_));refine Z_ (X3 (T:="StopIteration") (b:=L) ⟨_,ZN _ rfl,rfl⟩ WR ?_);exact Z6 (stop hx _ (((Ze ..).extBut.push _).push _))
end
noncomputable def Itk(a:ZM)(kvs:Z9 (D×V))(ep:Nat):It:=
 ⟨λi H=>Rd H a (.dD kvs ep)/\i<kvs.length,λi H v H'=>H'=H/\∃p,kvs[i]?=U p/\KR H p.1 v,λi H=>Rd H a (.dD kvs ep)/\kvs.length<=i⟩
theorem aap.get:∀{kvs:Z9 (D×V)}{xs:Z9 (D×ZM×Z3)}{i:Nat}{p:D×V},aap H kvs xs->kvs[i]?=U p->∃q,xs[i]?=U q/\KR H p.1 (.ref q.2.1)
 |_,_,_,_,.nil,h=>by simp at h
 |_,_,0,_,.cons r _,h=>by simp at h;subst h;exact⟨_,rfl,r.2.2.1⟩
 |_,_,i+1,p,.cons _ t,h=>by
  obtain⟨q,h1,h2⟩:=aap.get (i:=i) (p:=p) t (by simpa using h);exact⟨q,by simpa using h1,h2⟩
def sj{P:YX}{w:YK}{K:Z5}{tg:Expr}{a it:ZM}{kvs:Z9 (D×V)}{ep:Nat}:Turn P w K tg (Itk a kvs ep) [it] it (λi h=>h.IsKeyIter it a i kvs.length ep) where
 mem:=by simp
 obj:=λi h st b hb=>by
  have e:b=it:=by simpa using hb
  subst e;obtain⟨o,e,c,d⟩:=st;exact⟨o,e,λv z=>by rw[d]at z;cases z⟩
 keep:=λi h h' st k=>st.at λo e=>k it (by simp) o e
 item:=by
  intro X hP hw hK hc i pins s σ H E I hf st hg;subst hP hw hK;obtain⟨rd,hi⟩:=hg;obtain⟨z,y,xs,r,o,es,h1,h2,h3,h4,h5⟩:=(show aal X.prog X.w H s.heap a (.dD kvs ep) from qG I.hok rd)
  have hsz:es.size=kvs.length:=by rw[W7 h4,<-Yk r]
  have hp:kvs[i]?=U kvs[i]:=by simp[hi]
  obtain⟨q,hq,kr⟩:=r.get hp;obtain⟨f0,f1,f2,f3,f4,f5⟩:=hf it (by simp);rw[<-hsz]at st;refine dH (I.ok.hd hc) st h1 h3 (λe he h' e_ sb=>?_) λhn=>?_;have ek:e.key=.ref q.2.1:=by
   rw[entry_at h4 i,hq]at he;have:=Z8 he;rw[<-this];rfl
  have I1:Inv X pins σ H {s with heap:=h'}:=I.turned (t':=s.toks) (λb o hb e=>(sb.2 b hb).trans e) f0 f1 f3 f4 f5;rw[hsz]at e_;obtain⟨o',e',c',d'⟩:=id e_;rw[ek];exact⟨_,rfl,vW (s:={s with heap:=h'}) e' c' d' (by decide) ⟨.ref q.2.1,H,I1,rfl,⟨rfl,kvs[i],hp,kr⟩,e_,λb hb=>(hf b hb).1⟩⟩;exfalso;rw[Zb (by lia)]at hn;trivial
 done:=by
  intro X hP hw hK hc i pins s σ H E I hf st hg;subst hP hw hK;obtain⟨rd,hi⟩:=hg;obtain⟨z,y,xs,r,o,es,h1,h2,h3,h4,h5⟩:=(show aal X.prog X.w H s.heap a (.dD kvs ep) from qG I.hok rd)
  have hsz:es.size=kvs.length:=by rw[W7 h4,<-Yk r]
  obtain⟨f0,f1,f2,f3,f4,f5⟩:=hf it (by simp);rw[<-hsz]at st;refine dH (I.ok.hd hc) st h1 h3 (λe he h' e_ sb=>?_) λhn h' eb=>⟨rfl,I.turned (t':=s.toks) (λb o hb e=>eb b o hb e) f0 f1 f3 f4 f5⟩
  exfalso;rw[XJ (by lia)]at he;trivial
 self:=λ_ _ _ _ _ st h=>wpAny_pyIter_keyiter st h
section
variable{a:Expr}
def Em(te:TE):TI:=λσ H R=>te σ H λx H1=>∃a kvs ep,x=.ref a/\Rd H1 a (.dD kvs ep)/\R (Itk a kvs ep) H1
def yK{te:TE}(h:PE X a te):PI X tg a (Em te):=by
 intro pins s σ H R I hq;refine thn (h pins s σ H _ I hq) λv s1 hz=>?_;obtain⟨x,H1,I1,r1,l,kvs,ep,e,rd,q⟩:=hz;subst e;cases r1;obtain⟨z,y,xs,r,o,es,h1,h2,h3,h4,h5⟩:=(show aal X.prog X.w H1 s1.heap l (.dD kvs ep) from qG I1.hok rd)
 have hsz:es.size=kvs.length:=by rw[W7 h4,<-Yk r]
 refine kC y h1 h2 h3 ?_;rw[hsz];refine⟨s1.z,[s1.z],_,_,H1,rfl,I1.kept (t':=s1.toks) λb o e=>Z4 _ e,sj,⟨_,ZN _ rfl,rfl,rfl⟩,λb hb=>?_,q⟩;have e:b=s1.z:=by simpa using hb
 subst e;exact I1.abj (ZU _) (I1.hok.fresh (ZU _))
def wq(x:Z7 D):Z7 (Z9 D):=match x with|some (.dD ks vs)=>U ks|_=>M
set_option tactic.hygienic true in
theorem Ai(h:DE X m a fa):DI X m tg a (λδ=>wq (fa δ)):=
 (yK h).imp λσ H Q hz=>by
  obtain⟨B,Hk,δ,ds,R,e,k⟩:=hz;dsimp only at e;unfold wq at e;split at e;rename_i ks vs q1;obtain rfl:=Z8 e;refine⟨B,Hk,δ,_,R,q1,λv H' s r=>?_⟩;simp only[Rep]at r;obtain⟨l,kvs,rfl,⟨ep,hq⟩,rfl,rs⟩:=r;have rd:∀{H2:Hp},Ext (aZ m B δ σ) H' H2->Rd H2 l (.dD kvs ep):=λ{H2} x=>by
   rcases hq with⟨b,hq⟩|⟨o,hq⟩;exact .inl ((x.abE l b).trans hq);exact .inr ⟨o,x.aaW _ _ _ hq⟩
  refine⟨l,kvs,ep,rfl,rd Ext.refl,k _ H' s λH2 x=>?_⟩;refine⟨⟨rd x,by simp⟩,λi d hd=>?_⟩;rw[YY]at hd;cases hp:kvs[i]? with
  |none=>rw[hp]at hd;trivial
  |some p=>
   rw[hp]at hd;have x_:p.1=d:=Z8 hd;refine⟨⟨rd x,(ZP.mp hp).1⟩,λz H3 ⟨e3,p',HY,kr⟩=>?_⟩;rw[hp]at HY;obtain rfl:=Z8 HY;rw[e3];exact⟨aae.refl _,by rw[<-x_];exact kr.rep⟩
  trivial
end
section
variable{X:Cx}{apos p:Pos}{m':Bool}{a b c:Expr}
noncomputable def BU(K:Z5):R2:=λx y H Q=>∃a b xs ys,x=.ref a/\y=.ref b/\SqT K H a xs/\SqT K H b ys/\xs.length+ys.length<=sizeLine/\(xs=[]->Q (.ref b) H)/\(ys=[]->Q (.ref a) H)/\∀p,H p=M->Q (.ref p) (upd H p (.tup (xs++ys)))
def vZ:OpR X (binaryOp .Add) (BU X.K):=by
 intro pins s σ H x y v u Q I rx ry h;obtain⟨t,b,xs,ys,rfl,rfl,ht,hb,hz,q0,q1,q2⟩:=h;cases rx;cases ry;obtain⟨vs,r1,p1,_⟩:=I.tuple ht;obtain⟨ws,r2,p2,_⟩:=I.tuple hb;have l1:=r1.length;have l2:=r2.length;obtain⟨⟨cls,dd,data,sl⟩,ho,hc,n,hd⟩:=id p1;obtain⟨⟨Lm,Ik,data2,Ic⟩,IC,Ir,n2,hd2⟩:=id p2;simp only at hc hd Ir hd2;subst hc hd Ir hd2;by_cases hv:vs=[];have hx:xs=[]:=by cases xs with
  |nil=>rfl
  |cons _ _=>rw[hv]at l1;simp at l1
 exact concat_meets ⟨_,ho,rfl⟩ ⟨_,IC,rfl⟩ noFill_tuple_add seq_tuple_add WL WO (WV _ _) (tuple_addW0 t b vs.toArray ws.toArray n n2 dd Ik sl Ic (by simp[hv])) ⟨ho,IC,.ref b,H,I,rfl,q0 hx⟩;by_cases hw:ws=[];have hy:ys=[]:=by cases ys with
  |nil=>rfl
  |cons _ _=>rw[hw]at l2;simp at l2
 exact concat_meets ⟨_,ho,rfl⟩ ⟨_,IC,rfl⟩ noFill_tuple_add seq_tuple_add WL WO (WV _ _) (tuple_addW1 t b vs.toArray ws.toArray n n2 dd Ik sl Ic (by simpa using hv) (by simp[hw])) ⟨ho,IC,.ref t,H,I,rfl,q1 hy⟩;refine concat_meets ⟨_,ho,rfl⟩ ⟨_,IC,rfl⟩ noFill_tuple_add seq_tuple_add WL WO (WV _ _) (tuple_addW2 t b vs.toArray ws.toArray n n2 dd Ik sl Ic (by simpa using hv) (by simpa using hw) (by rw[ZT,ZT];lia)) ⟨ho,IC,.ref s.z,_,?_,rfl,q2 _ (I.hok.fresh (ZU _))⟩;refine I.laid (t':=s.toks) (λb u e=>Z4 _ e) (ZU _) ⟨by rw[Zy];exact hz,vs++ws,r1.append r2,⟨_,ZN _ rfl,rfl,0,?_⟩⟩;simp
noncomputable def sr(x y:Z7 D):Z7 D:=match x,y with|some (.tup xs),some (.tup ys)=>if xs.length+ys.length<=lim then U (.tup (xs++ys)) else M|_,_=>M
set_option tactic.hygienic true in
theorem wS(ha:DE X m a fa)(hb:DE X m b fb):DE X m (.BinOp a .Add b pos) (λδ=>sr (fa δ) (fb δ)):=
 (v8 vZ ha hb).imp λσ H Q hz=>by
  obtain⟨B,Hk,δ,d,R,e,k⟩:=hz;dsimp only at e;unfold sr at e;split at e;rename_i ds es q1 q2;split at e;rename_i hl;obtain rfl:=Z8 e;refine two R q1 q2 λv u H' s R' r1 r2=>?_;simp only[Rep]at r1 r2;obtain⟨t,xs,rfl,ht,rx⟩:=r1;obtain⟨b,ys,rfl,hb,ry⟩:=r2;have l1:=rx.length;have l2:=ry.length;refine⟨t,b,xs,ys,rfl,rfl,SqT.of ht,SqT.of hb,by rw[<-l1,<-l2];exact aG hl,λhx=>?_,λhy=>?_,λp hp=>?_⟩;have:ds=[]:=by cases ds with
   |nil=>rfl
   |cons _ _=>rw[hx]at l1;simp at l1
  subst this;exact k _ H' s (by simp only[Rep,List.nil_append];exact⟨b,ys,rfl,hb,ry⟩);have:es=[]:=by cases es with
   |nil=>rfl
   |cons _ _=>rw[hy]at l2;simp at l2
  subst this;exact k _ H' s (by simp only[Rep,Y0];exact⟨t,xs,rfl,ht,rx⟩);have s2:=au (o:=.tup (xs++ys)) hp;exact k _ _ (s.trans s2) (by simp only[Rep];exact⟨p,xs++ys,rfl,ah,(rx.append ry).same R' s2⟩);trivial;trivial
def d9:Z9 D->Z7 (Z9 Bool)
 |[]=>U []
 |.bl b::ds=>(match d9 ds with|some bs=>U (b::bs)|none=>M)
 |_=>M
theorem ip:∀{ds:Z9 D}{bs:Z9 Bool},d9 ds=U bs->ds=bs.map D.bl
 |[],bs,h=>by obtain rfl:=Z8 h;rfl
 |.bl b::ds,bs,h=>by
  simp only[d9]at h;split at h;rename_i bs' q;obtain rfl:=Z8 h;rw[ip q];rfl;trivial
 |.non::ds,bs,h=>by simp[d9]at h
 |.int _::ds,bs,h=>by simp[d9]at h
 |.str _::ds,bs,h=>by simp[d9]at h
 |.tup _::ds,bs,h=>by simp[d9]at h
 |.lst _::ds,bs,h=>by simp[d9]at h
 |.dK _ _::ds,bs,h=>by simp[d9]at h
 |.dD _ _::ds,bs,h=>by simp[d9]at h
def rq(hc:X.calm=L):ff X (.builtin "any") (λxs H Q=>∃(q:ZM)(bs:Z9 Bool),xs=[.ref q]/\SqL X.K H q (bs.map V.bl)/\Q (.bl (bs.any id)) H):=by
 intro pins s σ H xs us Q I rv h;obtain⟨q,bs,rfl,hq,k⟩:=h;obtain⟨u,rfl,ru⟩:=rv.one;cases ru;obtain⟨its,r,pl,hz⟩:=I.list hq;have hl:=r.length;rw[ZY]at hl;have t_:q≠s.z:=Zv (by obtain⟨o,e,_⟩:=pl.isList;exact ZQ e);refine call_any_walk (Xh pl.isList ⟨s.z,_,_,its.toArray.size,_,_,λi=>bs.getD i Y,rfl,Walks.list (A:=X.A.in1) (show X.A.in1.handled=M from I.ok.hd hc) s.z q t_ its.toArray,⟨⟨_,ZN _ rfl,rfl,rfl⟩,pl.isList.push _⟩,λi v s' Q' E' hv Qb=>?_,λh' tk hk=>?_⟩);have Iz:its[i]?=U v:=by simpa using hv
 have hi:i<bs.length:=by have:=(ZP.mp Iz).1;lia
 obtain⟨v',e1,e2⟩:=r.get (i:=i) (x:=.bl bs[i]) (by simp[hi]);rw[Iz]at e1;obtain rfl:=Z8 e1;cases e2;refine Xy ?_;rw[show bs[i]=bs.getD i Y by simp[hi]];exact Qb;have e:(List.range its.toArray.size).any (λi=>bs.getD i Y)=bs.any id:=by
  rw[ZT,<-hl,Yx,XR,XR];constructor
  rintro⟨i,hi,h1⟩
  have k_:=Y4.mp hi;exact⟨bs[i],Xz k_,by simpa[k_]using h1⟩
  rintro⟨x,hx,h1⟩
  obtain⟨i,hi,rfl⟩:=YZ.mp hx;exact⟨i,Y4.mpr hi,by simpa[hi]using h1⟩
 rw[e];refine⟨.bl (bs.any id),H,?_,rfl,k⟩;exact(I.kept (t':=tk) λb o eb=>hk b o (λz=>by
  have:b=s.z:=by simpa using z
  rw[this]at eb;exact absurd (ZQ eb) (Zd _)) (Z4 _ eb))
def Dg(x:Z7 D):Z7 D:=match x with|some (.lst ds)=>(match d9 ds with|some bs=>U (.bl (bs.any id))|none=>M)|_=>M
theorem M1.acJ{K:Z5}{B:ZM->Prop}{H:Hp}:∀{bs:Z9 Bool}{xs:Z9 V},M1 K B H (bs.map D.bl) xs->xs=bs.map V.bl
 |[],xs,r=>r
 |b::bs,xs,r=>by
  rw[Z2]at r;simp only[M1]at r;obtain⟨x,t,rfl,r1,r2⟩:=r;simp only[Rep]at r1;rw[r1,M1.acJ r2];rfl
theorem Bk(hc:X.calm=L)(g:Gl X "any")(hm:X.mg "any"=M)(ha:DE X m a fa)(hs:starEach [a] X.env=[(Y,eval a X.env)]:=by rfl):DE X mm (.Call (.Name "any" p) [a] [] pos) (λδ=>Dg (fa δ)):=
 (dS (rq hc) g hm boot_any (ay ha aN hs) (he:=hs)).imp λσ H Q hz=>by
  obtain⟨B,Hk,δ,d,R,e,k⟩:=hz;unfold Dg at e;dsimp only at e;split at e;rename_i ds q;split at e;rename_i bs qn;obtain rfl:=Z8 e;obtain rfl:=ip qn;refine pG R q λv H' s R' r=>?_;simp only[Rep]at r;obtain⟨c,xs,rfl,hq,rs⟩:=r;obtain rfl:=rs.acJ;exact⟨c,bs,rfl,hq.sq,k _ H' s (by simp only[Rep])⟩;trivial;trivial
def acE:V->Z9 V->Hp->VK->Prop:=λx vs H Q=>∃l y z o,x=.ref l/\vs=[y,z]/\DGA H l y o/\Q (o.getD z) H
def zC(hu:X.A.units+64<cLine):MtM X "dict.get" acE:=by
 intro pins s σ H x vs v us Q I rx rv h;obtain⟨l,y,z,o,rfl,rfl,g,q⟩:=h;cases rx;obtain⟨u1,u2,rfl,r1,r2⟩:=rv.two;rcases g with g|⟨kvs,ep,k,b,e,rfl,hk,kb,rfl⟩;exact Bs (by lia) I g r1 r2 λw' s' I' Hs=>⟨_,H,I',Hs,q⟩
 cases (show u1=Value.ref b from r1);obtain⟨z1,hd,xs,rel,dd⟩:=iG I.hok e;refine call_meetsIn Wv dd.typeIs PySem.F.entry_dict_get (PySem.F.args_dict_get_3 _ _ _) (meetsH_dict_get_default (bh X.prog X.w) l b hd u2) ⟨by show X.A.units+1+30<cLine;lia,k,xs,cx I hk kb,dd,⟨_,H,I.tok _,?_,q⟩⟩;exact(rel.val k).getD r2
def bY(x k y:Z7 D):Z7 D:=match bM x k,y with|some o,some z=>U (o.getD z)|_,_=>M
set_option tactic.hygienic true in
theorem Ay(hu:X.A.units+64<cLine)(ha:DE X m a fa)(hb:DE X m b fb)(hc:DE X m c fc)(base:attributeBase a "get" X.env (eval a X.env)=eval a X.env:=by rfl)(few:((backTo i_ (starEach [b,c] X.env)).all (λx=>!x.1)&&(backToKw i_ (keywordEach [] X.env)).all (λx=>x.1.isSome)&&decide (([b,c]).length+([]:Z9 Keyword).length+(if([]:Z9 Keyword).isEmpty then 0 else 1)<30))=L:=by rfl)(line:(apos.endLine==i_.line)=L:=by rfl)(G_:starEach [b,c] X.env=(Y,eval b X.env)::starEach [c] X.env:=by rfl)(HV:starEach [c] X.env=[(Y,eval c X.env)]:=by rfl)(plain:(backTo i_ (starEach [c] X.env)).any (·.1)=Y:=by rfl):
  DE X m (.Call (.Attribute a "get" apos) [b,c] [] i_) (λδ=>bY (fa δ) (fb δ) (fc δ)):=
 (qQ Wv PySem.F.type_dict_get (zC hu) ha (ay hb (ay hc aN HV) G_) base few line G_ plain).imp λσ H Q hz=>by
  obtain⟨B,Hk,δ,d,R,e,k⟩:=hz;dsimp only at e;unfold bY at e;split at e;rename_i o z q1 q2;obtain rfl:=Z8 e;obtain⟨d1,d2,e1,e2,_⟩:=cN (K:=X.K) (B:=aZ m B δ σ) (B':=aZ m B δ σ) (H:=H) q1;refine⟨B,Hk,δ,d1,R,e1,λv H1 s1 r1=>?_⟩;have R1:=R.to s1;have UQ:n9 v H1:=by
   unfold bM at q1;rw[e1,e2]at q1;cases d1 with
   |dK ks vs=>simp only[Rep]at r1;obtain⟨a,kvs,rfl,hq,_⟩:=r1;exact⟨a,rfl,.inl ⟨kvs,hq.imp And.right id⟩⟩
   |dD ks vs=>simp only[Rep]at r1;obtain⟨a,kvs,rfl,⟨ep,hq⟩,_⟩:=r1;exact⟨a,rfl,.inr ⟨kvs,ep,hq.imp And.right id⟩⟩
   |_=>simp at q1
  refine⟨UQ,two (m:=m) (m':=m) R1 e2 q2 λu w H' s R' r2 r3=>?_⟩;obtain⟨SA,Sz,LA,Lz,go⟩:=cN (K:=X.K) (B:=aZ m B δ σ) (B':=aZ m B δ σ) (H:=H') q1;rw[e1]at LA;obtain rfl:=Z8 LA;rw[e2]at Lz;obtain rfl:=Z8 Lz;obtain⟨c',r,ev,g,gs,gz⟩:=go (r1.same R1 s) r2;refine⟨c',u,w,r,ev,rfl,g,?_⟩;cases o with
  |none=>
   cases r with
   |none=>exact k w H' (s1.trans s) r3
   |some _=>simp at gs
  |some dd=>
   obtain⟨w',rfl,Hs⟩:=gz _ rfl;exact k w' H' (s1.trans s) Hs
  trivial
end
section
variable{A:Za}{E:Z3->ZR->Prop}{s:ZR}
def pR(hh:A.handled=M)(I d:ZM)(t_:d≠I)(o_:o.data=.dict es ep):
  Walks prog w A I [I,d] [I] es.size (λi v=>∃e,es[i]?=U e/\v=e.key) (λi h=>h.IsKeyIter I d i es.size ep/\h.get? d=U o) where
 sub:=λb hb=>by simp at hb;simp[hb]
 frame:=λ_ _ _ st hk=>⟨st.1.at λo e=>hk I (by simp) o e,hk d (by simp) _ st.2⟩
 item:=λi s Q E hi st hQ=>dH hh st.1 st.2 o_ (λe he h' Kf sb=>hQ _ h' s.toks ⟨e,he,rfl⟩ ⟨Kf,(sb.2 d t_).trans st.2⟩ λb o hb e=>(sb.2 b (λz=>hb (by simp[z]))).trans e) λhn=>by
  rw[Zb hi]at hn;trivial
 done:=λs Q E st hQ=>dH hh st.1 st.2 o_ (λe he=>by rw[XJ (ZU _)]at he;trivial) λ_ h' eb=>hQ h' s.toks λb o hb e=>eb b o (λz=>hb (by simp[z])) e
 self:=λ_ _ _ _ st hQ=>wpAny_pyIter_keyiter st.1 hQ
def lZ(hh:A.handled=M)(hd:(d==sysModules)=Y)(ho:s.heap.get? d=U o)(hc:o.ExactDict)(o_:o.data=.dict es ep)(hn:es.size<=sizeLine)(res:Z3)(hS:s.heap.get? S=U {cls:=.type "list",data:=.seq #[] Mm})(hR:∀h' tk l_ c',(∀b o,b≠S->s.heap.get? b=U o->h'.get? b=U o)->h'.get? S=U {cls:=.type "list",dict:=M,data:=.seq l_ c',slots:=#[]}->ItemsOf (λi v=>∃e,es[i]?=U e/\v=e.key) l_ es.size->R (.ok (.ret res)) {s with heap:=h',toks:=tk}):
  wpAny (model prog w) A.in1 (Builtin.List.listExtendWith (.ref S) (.ref d) res)
   (λfin s'=>match fin with|.done f=>R (.ok f) s'|.again c'=>c'.quiet=L/\codeAny (model prog w) A c' R s') (λe s'=>R (.error e) s') s:=by
 have ty:s.TypeIs (.ref d) "dict":=⟨o,ho,hc.1⟩;have Pe:S≠d:=λe=>by rw[e,ho]at hS;have:=Z8 hS;rw[this]at o_;trivial
 have Rm:S≠s.z:=Zv (ZQ hS);have TQ:d≠s.z:=Zv (ZQ ho);have TU:S∉[s.z,d]:=λhm=>by
  rcases Z0.mp hm with e|hm;exact Rm e;exact Pe (ZC.mp hm)
 unfold Builtin.List.listExtendWith;refine Z_ (Xv ty ?_);simp only[show Builtin.List.listSameRef (.ref S) (.ref d)=Y by simp[Builtin.List.listSameRef,Pe],show(Value.type "dict"==Value.type "list")=Y by decide,show(Value.type "dict"==Value.type "tuple")=Y by decide,Bool.or_false,ZZ,Zm];refine Z_ (kC hd ho hc o_ (Z_ (Y6 ?_)));have Nb:(s.heap.push {cls:=.type "dict_keyiterator",data:=.fields #[.ref d,.int 0 0,.int es.size 0,.int ep 0]}).get? d=U o:=Z4 _ ho;have OR:Shared.TypeIs {s with heap:=s.heap.push {cls:=.type "dict_keyiterator",data:=.fields #[.ref d,.int 0 0,.int es.size 0,.int ep 0]}} (.ref d) "dict":=⟨o,Nb,hc.1⟩
 unfold Builtin.List.listLengthHint;refine Z_ (X9 OR F.slot_dict_len.lookup ?_)
 wp_delta
 refine Z_ (X3 OR (b:=L) (by rw[Wd];kernel_rfl) ?_);change wpAny _ _ (typeOf (Value.ref d) >>= _) _ _ _;refine Z_ (Xv OR (Z6 ?_));refine eL (by decide) ?_;have Ni:(s.heap.push {cls:=.type "dict_keyiterator",data:=.fields #[.ref d,.int 0 0,.int es.size 0,.int ep 0]}).get? S=U {cls:=.type "list",data:=.seq #[] Mm}:=Z4 _ hS;refine Z_ (YD (Z_ ?_));change wpAny _ A.in1 (updateSeq S (·.push .none) >>= λ_=>updateSeq S (·.pop)) _ _ _;have La:=Zk (Obj.mapSeq (·.push Value.none)) Ni rfl;refine Z_ (X_ Ni rfl (X_ (hz:=by seq_fits) La rfl ?_));have LZ:=Zk (Obj.mapSeq (·.pop)) La rfl;have Iy:∀b o,b≠S->(s.heap.push {cls:=.type "dict_keyiterator",data:=.fields #[.ref d,.int 0 0,.int es.size 0,.int ep 0]}).get? b=U o->(((s.heap.push {cls:=.type "dict_keyiterator",data:=.fields #[.ref d,.int 0 0,.int es.size 0,.int ep 0]}).update S (Obj.mapSeq (·.push Value.none))).update S (Obj.mapSeq (·.pop))).get? b=U o:=
  λb o hb e=>(Zo _ _ (ZA hb)).trans ((Zo _ _ (ZA hb)).trans e)
 refine Z6 ⟨Yp XI _,codeAny_extend_loopS (pR (A:=A.in1) (show A.in1.handled=M from hh) s.z d TQ o_).toS hn _ TU _ es.size 0 _ _ _ rfl (Zu _) ⟨⟨_,Iy _ _ (ZA Rm) (ZN _ rfl),rfl,rfl⟩,Iy _ _ (ZA Pe) Nb⟩ LZ (ItemsOf.nil _) λs' l_ c' hm Lb q_=>?_⟩;rw[Moved.eq_with hm];refine hR s'.heap s'.toks l_ c' (λb ob hb e=>hm.heap b ob (λHJ=>?_) (Iy b ob hb (Z4 _ e))) Lb q_;rcases Z0.mp HJ with e'|HJ;exact hb e';rw[ZC.mp HJ]at e;exact absurd (ZQ e) (Zd _)
def gJ(hh:A.handled=M)(hd:(d==sysModules)=Y)(ho:s.heap.get? d=U o)(hc:o.ExactDict)(o_:o.data=.dict es ep)(hn:es.size<=sizeLine)(hQ:∀h' tk l_ c',(∀b o,s.heap.get? b=U o->h'.get? b=U o)->h'.get? s.z=U {cls:=.type "list",dict:=M,data:=.seq l_ c',slots:=#[]}->ItemsOf (λi v=>∃e,es[i]?=U e/\v=e.key) l_ es.size->Q (.ref s.z) {s with heap:=h',toks:=tk}):
  wpAny (model prog w) A (call (.type "list") [.ref d]) Q E s:=by
 refine callType_codes (Q₁:=λobj g_=>obj=.ref s.z/\g_={s with heap:=s.heap.push {cls:=.type "list",data:=.seq #[]}}) F.called_list (F.typeCall_list_1 _) F.entry_list_init (code_list_new _ ⟨rfl,rfl⟩) λobj g_ HI=>?_;obtain⟨rfl,rfl⟩:=HI;have hS:(s.heap.push {cls:=.type "list",data:=.seq #[]}).get? s.z=U {cls:=.type "list",data:=.seq #[]}:=ZN _ rfl;refine⟨⟨_,hS,rfl⟩,F.args_list_init_2 _ _,?_⟩;change wpAny _ _ (do let old <-Builtin.List.listItems (.ref s.z);Builtin.List.listUpdate (.ref s.z) (λ_=>#[]);letGo old.toList.reverse;Builtin.List.listExtendWith (.ref s.z) (.ref d) .none) _ _ _;refine Z_ ?_;unfold Builtin.List.listItems;refine Z_ (Yu hS rfl (Z6 ?_));change wpAny _ _ (updateSeq s.z (λ_=>#[]) >>= λ_=>letGo (#[]:Array Z3).toList.reverse >>= λ_=>Builtin.List.listExtendWith (.ref s.z) (.ref d) .none) _ _ _;have La:=Zk (Obj.mapSeq (λ_=>(#[]:Array Z3))) hS rfl;have up:∀b ob,s.heap.get? b=U ob->((s.heap.push {cls:=.type "list",data:=.seq #[]}).update s.z (Obj.mapSeq (λ_=>(#[]:Array Z3)))).get? b=U ob:=λb ob e=>(Zo _ _ (ZA (Zv (ZQ e)))).trans (Z4 _ e);refine Z_ (X_ hS rfl (Z_ (We ?_)));exact lZ (A:=A.in1) hh hd (up d o ho) hc o_ hn .none La λh' tk l_ c' hk Lb q_=>⟨rfl,hQ h' tk l_ c' (λb ob e=>hk b ob (Zv (ZQ e)) (up b ob e)) Lb q_⟩
end
section
variable{X:Cx}{m:Bool}
theorem aap.keys:∀{kvs:Z9 (D×V)}{xs:Z9 (D×ZM×Z3)},aap H kvs xs->KRs H (kvs.map (·.1)) (xs.map λq=>V.ref q.2.1)
 |_,_,.nil=>by simp only[YO,KRs]
 |_,_,.cons r t=>by
  simp only[Z2,KRs];exact⟨_,_,rfl,r.2.2.1,aap.keys t⟩
def ql(hc:X.calm=L):ff X (.type "list") (λxs H Q=>∃d kvs ep,xs=[.ref d]/\Rd H d (.dD kvs ep)/\∀ks p,KRs H (kvs.map (·.1)) ks->H p=M->Q (.ref p) (upd H p (.lst ks))):=by
 intro pins s σ H xs us Q I rv h;obtain⟨d,kvs,ep,rfl,rd,k⟩:=h;obtain⟨u,rfl,ru⟩:=rv.one;cases ru;obtain⟨z,y,xs,r,o,es,h1,h2,h3,h4,h5⟩:=(show aal X.prog X.w H s.heap d (.dD kvs ep) from qG I.hok rd)
 have hsz:es.size=kvs.length:=by rw[W7 h4,<-Yk r]
 refine gJ (I.ok.hd hc) y h1 h2 h3 (by rw[hsz];exact z) λh' tk acc c' hk hS q_=>?_;have hf:H s.z=M:=I.hok.fresh (ZU _);have Ol:xs.length=kvs.length:=(Yk r).symm;have hv:aab (xs.map λq=>V.ref q.2.1) acc.toList:=by
  have hlen:acc.toList.length=xs.length:=by rw[Array.length_toList,q_.1,hsz,Ol]
  have key:∀(l:Z9 (D×ZM×Z3))(m:Z9 Z3),m.length=l.length->(∀(i:Nat) q v,l[i]?=U q->m[i]?=U v->v=.ref q.2.1)->aab (l.map λq=>V.ref q.2.1) m:=by
   intro l
   induction l with
   |nil=>intro m hm _;cases m with
    |nil=>exact .nil
    |cons _ _=>simp at hm
   |cons q l ih=>intro m hm hp;cases m with
    |nil=>simp at hm
    |cons v m=>exact .cons (hp 0 q v rfl rfl) (ih m (by simpa using hm) λi q' v' a1 a2=>hp (i+1) q' v' (by simpa using a1) (by simpa using a2))
  refine key xs acc.toList hlen λi q v a1 a2=>?_;obtain⟨e,he,rfl⟩:=q_.2 i v (by simpa using a2);rw[entry_at h4 i,a1]at he;rw[<-Z8 he];rfl
 refine⟨.ref s.z,_,I.laid (t':=tk) (o:=.lst (xs.map λq=>V.ref q.2.1)) hk (ZU _) ⟨by rw[ZY,Ol];exact z,acc.toList,c',hv,by rw[hS]⟩,rfl,k _ _ r.keys hf⟩
def m6(x:Z7 D):Z7 D:=match x with|some (.dD ks vs)=>U (.lst ks)|_=>M
def nJ:bootBuiltins "list"=U (.type "list"):=by decide +kernel
set_option tactic.hygienic true in
theorem v3(hc:X.calm=L)(g:Gl X "list")(hm:X.mg "list"=M)(ha:DE X Y a fa)(hs:starEach [a] X.env=[(Y,eval a X.env)]:=by rfl):DF X (.Call (.Name "list" p) [a] [] pos) (λδ=>m6 (fa δ)):=
 (cK (ql hc) g hm nJ (ay ha aN hs) (he:=hs)).imp λσ H Q hz=>by
  obtain⟨B,Hk,δ,d,R,e,k⟩:=hz;dsimp only at e;unfold m6 at e;split at e;rename_i ks vs q;obtain rfl:=Z8 e;refine pG R q λv H' s R' r=>?_;simp only[Rep]at r;obtain⟨c,kvs,rfl,⟨ep,hq⟩,rfl,rs⟩:=r;refine⟨c,kvs,ep,rfl,hq.imp And.right id,λks p kr hp=>?_⟩;have s2:=au (o:=.lst ks) hp;exact k p _ (s.trans s2) (s.free hp) ⟨_,ah,(KRs.rep kr).same (m:=Y) R' s2⟩;trivial
end
end L2
namespace L2
open PySem PySem.Spec PyProof.Rows PySem.W
variable[Lams]
section
variable{X:Cx}{pins:Z9 (ZM×Obj)}{σ:St}{H:Hp}{s:ZR}{A:Za}{E:Z3->ZR->Prop}
def pC(hu:A.units+30<cLine)(I:Inv X pins σ H s)(e:H d=U (.dD kvs ep))(hk:aR 8 k=L)(kb:KR H k (.ref b))(l:kvs.length<sizeLine)(rv:RelV v r)(h:∀y_ h' tk,Heap.SameBut d s.heap h'->Inv X pins σ (upd H d (.dD (dh kvs k v) y_)) {s with heap:=h',toks:=tk}->Q () {s with heap:=h',toks:=tk}):wpAny (model X.prog X.w) A (dictSet d (.ref b) r) Q E s:=by
 obtain⟨z,hd,xs,rel,dd⟩:=iG I.hok (.inl e);have hl:(dh kvs k v).length<=sizeLine:=by have:=bt kvs k v;lia
 refine wpAny_dictSet_heap (knd:=bh X.prog X.w) (hsz:=by rw[<-Yk rel];exact z) (show A.units+30<cLine from hu) (cx I hk kb) dd λh' JS hs=>?_;obtain⟨q,es,y_,hq,h2,h3,h4,_,h5⟩:=JS;refine h y_ h' _ hs (fC I (by rw[e];exact True.intro) hs ⟨q,hq⟩ ⟨hl,hd,_,Paired.abW (rel.put k hk kb rv) λp q z=>⟨z.1,z.2.1,KR.to (λc ys ec=>?_) z.2.2.1,z.2.2.2⟩,q,es,hq,h2,h3,h4,h5⟩);rw[ai (lW ec e (λz=>nomatch z))];exact ec
def abp(H:Hp)(y:V)(p:D×V):Prop:=∃b kb,y=.ref b/\H b=U (.tup [.ref kb,p.2])/\aR 8 p.1=L/\KR H p.1 (.ref kb)
theorem abp.upd(h:abp H y p)(e:H d=U (.dD kvs ep)):abp (L2.upd H d o) y p:=by
 obtain⟨b,kb,h1,h2,h3,h4⟩:=h;exact⟨b,kb,h1,by rw[ai (lW h2 e (λz=>nomatch z))];exact h2,h3,h4.to λc ys ec=>by rw[ai (lW ec e (λz=>nomatch z))];exact ec⟩
def fI(kvs:Z9 (D×V))(ps:Z9 (D×V)):Z9 (D×V):=ps.foldl (λm p=>dh m p.1 p.2) kvs
def SqL.acz{K:Z5}{l d:ZM}{ys:Z9 V}{kvs:Z9 (D×V)}{ep:Nat}{o:HO}(h:SqL K H l ys)(e:H d=U (.dD kvs ep)):SqL K (upd H d o) l ys:=by
 rcases h with(h|⟨ob,h⟩)|h;exact .inl (.inl (by rw[ai (lW h e (λz=>nomatch z))];exact h));exact .inl (.inr ⟨ob,by rw[ai (lW h e (λz=>nomatch z))];exact h⟩);exact .inr h
def qh(hu:A.units+40<cLine)(hh:A.handled=M)(ps:Z9 (D×V))(ys:Z9 V)(hlen:ys.length=ps.length):
  ∀(n i:Nat)(t:Tok)(H:Hp)(s:ZR)(kvs:Z9 (D×V))(ep:Nat),i+n=ps.length->Inv X pins σ H s->H d=U (.dD kvs ep)->kvs.length+n<lim->SqL X.K H l ys->(∀(j:Nat) y p,ys[j]?=U y->ps[j]?=U p->abp H y p)->s.heap.IsListIter it l i->eU X pins H it->it≠d->
   (∀H' s',Inv X pins σ H' s'->(∃y_,H'=upd H d (.dD (fI kvs (ps.drop i)) y_))->R (.ok (.ret .none)) s')->
   codeAny (model X.prog X.w) A (.builtin "dict.update.loop" ⟨[.ref d,.ref it,.int i t,.none],[]⟩) R s:=by
 intro n
 induction n with
 |zero=>
  intro i t H s kvs ep hi I e hl hq hp st hf t_ hR;refine YQ dm ?_;rw[Y9 bv _];obtain⟨its,rv,pl,hz⟩:=I.list hq;have PM:=rv.length;show wpAny _ A.in1 (pyNext (.ref it) >>= _) _ _ s;obtain⟨f0,f1,f2,f3,f4,f5⟩:=hf;refine Z_ (wpAny_pyNext_list_end hh st pl.isList (by simp;lia) λh' eb=>?_);show wpAny _ A.in1 (Builtin.Dict.addKeywords d [] >>= λ_=>ret .none) _ _ _;refine Z_ (Z6 (Z6 (hR H _ (I.turned (t':=s.toks) (λb o hb e=>eb b o hb e) f0 f1 f3 f4 f5) ⟨ep,?_⟩)));rw[List.drop_of_length_le (by lia)];show H=upd H d (.dD kvs ep)
  funext b
  by_cases hb:b=d;subst hb;rw[ah];exact e;rw[ai hb]
 |succ n ih=>
  intro i t H s kvs ep hi I e hl hq hp st hf t_ hR;refine YQ dm ?_;rw[Y9 bv _];obtain⟨its,rv,pl,hz⟩:=I.list hq;have JN:i<ps.length:=by lia
  have RY:i<ys.length:=by lia
  obtain⟨b,kb,ey,hb,Oy,Ux⟩:=hp i ys[i] ps[i] (by simp[RY]) (by simp[JN]);obtain⟨u,JI,ru⟩:=rv.get (i:=i) (x:=ys[i]) (by simp[RY]);rw[ey]at ru;cases ru;show wpAny _ A.in1 (pyNext (.ref it) >>= _) _ _ s;obtain⟨f0,f1,f2,f3,f4,f5⟩:=id hf;refine Z_ (wpAny_pyNext_list_item st pl.isList (x:=.ref b) (by simpa using JI) λh' e_ sb=>?_);have I1:Inv X pins σ H {s with heap:=h'}:=I.turned (t':=s.toks) (λb o hb e=>(sb.2 b hb).trans e) f0 f1 f3 f4 f5;obtain⟨tz,VW,tv,⟨to,tg,tc,tn,td⟩⟩:=(show aal X.prog X.w H h' b (.tup [.ref kb,ps[i].2]) from I1.hok b _ hb)
  obtain⟨ku,vu,rfl,rk,To⟩:=aab.two tv;cases rk;refine Z_ (Y6 (Z_ (wpAny_tryCatch ?_)));unfold Builtin.Dict.pairItems;refine Z_ (Xv (show Shared.TypeIs {s with heap:=h'} (.ref b) "tuple" from⟨_,tg,tc⟩) ?_);refine eL (by decide) ?_;unfold seqItems?;refine Z_ (Z_ (wpAny_load tg ?_));rw[td];refine Z6 (Z6 ?_);show wpAny _ A.in1 (holding [Value.ref kb,vu] (dictSet d (.ref kb) vu)) _ _ _;refine Y6 (pC (by show A.units+1+30<cLine;lia) I1 e Oy Ux (by have:=aG (ZU lim);lia) To λy_ h2 OW Iq I2=>?_);refine Z6 ⟨Yp bv _,?_⟩;have SK:=bt kvs ps[i].1 ps[i].2;refine ih (i+1) 0 (upd H d (.dD (dh kvs ps[i].1 ps[i].2) y_)) _ (dh kvs ps[i].1 ps[i].2) y_ (by lia) I2 ah (by lia) (hq.acz e) (λj y p h1 h2=>(hp j y p h1 h2).upd e) ?_ ?_ t_ ?_;obtain⟨o,ho,hc,x_⟩:=e_;exact⟨o,(Iq.2 it t_).trans ho,hc,x_⟩;exact⟨by rw[ai t_];exact f0,f1,f2,f3,f4,f5⟩
  rintro H' s' I' ⟨Jc,eH⟩
  refine hR H' s' I' ⟨Jc,?_⟩;rw[eH,uK,Zs JN];rfl
def pV(hc:X.calm=L)(hu:X.A.units+64<cLine):ff X (.type "dict") (λxs H Q=>∃(l:ZM)(ys:Z9 V)(ps:Z9 (D×V)),xs=[.ref l]/\SqL X.K H l ys/\ys.length=ps.length/\ps.length<lim/\
  (∀(j:Nat) y p,ys[j]?=U y->ps[j]?=U p->abp H y p)/\∀d ep,H d=M->Q (.ref d) (upd H d (.dD (fI [] ps) ep))):=by
 intro pins s σ H xs us Q I r h;obtain⟨l,ys,ps,rfl,hq,hl,E_,hp,q⟩:=h;obtain⟨u,rfl,rx⟩:=r.one;cases rx;have hh:X.A.handled=M:=I.ok.hd hc;refine callType_codes (Q₁:=λobj g_=>obj=.ref s.z/\g_={s with heap:=s.heap.push {cls:=.type "dict",data:=.dict #[]}}) F.kt_called_dict (F.kt_typeCall_dict_1 _) F.entry_dict_init (kt_code_dict_new _ ⟨rfl,rfl⟩) ?_
 rintro obj g_ ⟨rfl,rfl⟩
 have Kc:H s.z=M:=I.fresh;have I1:Inv X pins σ (upd H s.z (.dD [] 0)) {s with heap:=s.heap.push {cls:=.type "dict",data:=.dict #[]}}:=
  I.laid (t':=s.toks) (λ_ _ q=>Z4 _ q) (ZU _) (ot I.big)
 have hT:Shared.TypeIs {s with heap:=s.heap.push {cls:=.type "dict",data:=.dict #[]}} (.ref s.z) "dict":=⟨_,ZN _ rfl,rfl⟩
 have sm:aae H (upd H s.z (.dD [] 0)):=au Kc;have RG:SqL X.K (upd H s.z (.dD [] 0)) l ys:=sm.seq hq;obtain⟨its,rv,⟨ol,nl,LL,Jb,OG,ML⟩,hz⟩:=I1.list RG;refine⟨hT,F.args_dict_init_2 _ _,?_⟩;unfold Builtin.«dict.__init__»;refine Z_ ?_;unfold Builtin.Dict.selfAndRest;refine Z_ (Wh hT ?_);show wpAny _ _ (pure (s.z,[Value.ref l])) _ _ _;refine Z6 ?_;show wpAny _ _ (Builtin.Dict.updateFrom "dict.__init__" s.z (.ref l) [] .none) _ _ _;unfold Builtin.Dict.updateFrom;refine Z_ (Xv (show Shared.TypeIs {s with heap:=s.heap.push {cls:=.type "dict",data:=.dict #[]}} (.ref l) "list" from⟨_,LL,Jb⟩) ?_);refine eL (by decide) ?_;refine Z_ (AV LL Jb ML OG (by simp[hh]) λh2 OW Pk=>?_);have I2:Inv X pins σ (upd H s.z (.dD [] 0)) {s with heap:=h2,toks:=OW}:=I1.kept Pk;refine eL (by decide) ?_;refine Z_ (YD ?_);have MG:h2.IsList l its.toArray:=⟨ol,Pk _ _ LL,Jb,nl,ML⟩;refine Z_ (Xh MG ?_);refine Z6 ⟨Yp bv _,?_⟩;have I3:Inv X pins σ (upd H s.z (.dD [] 0)) {s with heap:=h2.push {cls:=.type "list_iterator",data:=.fields #[.ref l,.int 0 0]},toks:=OW}:=I2.kept λb o e=>Z4 _ e;have j_:s.z<h2.objs.size:=ZQ (Pk _ _ (ZN (h:=s.heap) (o:={cls:=.type "dict",data:=.dict #[]}) rfl));have fp:eU X pins (upd H s.z (.dD [] 0)) h2.objs.size:=I2.abj (ZU _) (I2.hok.fresh (ZU _));refine qh (X:=X) (A:=X.A.in1) (by show X.A.units+1+40<cLine;lia) (by simp[hh]) ps ys hl ps.length 0 0 (upd H s.z (.dD [] 0)) _ [] 0 (by lia) I3 ah (by simpa using E_) RG (λj y p h1 Jh=>?_) ⟨_,ZN _ rfl,rfl,rfl⟩ fp (Nat.ne_of_gt j_) ?_;obtain⟨b,kb,e1,e2,e3,e4⟩:=hp j y p h1 Jh;exact⟨b,kb,e1,sm _ _ e2,e3,e4.to λc ys ec=>sm _ _ ec⟩
 rintro H' s' I' ⟨ep,eH⟩
 rw[uK,List.drop_zero]at eH;subst eH;exact⟨rfl,⟨.ref s.z,_,I',rfl,q _ ep Kc⟩⟩
end
def tV:D->Z7 (D×D)
 |.tup [k,v]=>if(aR 8 k&&jr k)=L then U (k,v) else M
 |_=>M
def eI:Z9 D->Z7 (Z9 (D×D))
 |[]=>U []
 |d::ds=>match tV d,eI ds with|some p,some ps=>U (p::ps)|_,_=>M
def iU:Z9 D->Z9 D->Z9 (D×D)->Z9 D×Z9 D
 |ks,vs,[]=>(ks,vs)
 |ks,vs,p::ps=>iU (cR p.1 ks) (wo p.1 p.2 ks vs) ps
noncomputable def gX(x:Z7 D):Z7 D:=match x with|some (.lst ds)=>(match eI ds with|some ps=>if ds.length<lim then U (.dD (iU [] [] ps).1 (iU [] [] ps).2) else M|none=>M)|_=>M
section
variable{K:Z5}{B:ZM->Prop}{H:Hp}
def PQ(K:Z5)(B:ZM->Prop)(H:Hp):Z9 (D×D)->Z9 (D×V)->Prop:=Paired λp q=>p.1=q.1/\Rep K B H p.2 q.2
theorem kh:∀{ps:Z9 (D×D)}{qs:Z9 (D×V)}{kvs:Z9 (D×V)}{vs:Z9 D},PQ K B H ps qs->M1 K B H vs (kvs.map (·.2))->(fI kvs qs).map (·.1)=(iU (kvs.map (·.1)) vs ps).1/\M1 K B H (iU (kvs.map (·.1)) vs ps).2 ((fI kvs qs).map (·.2))
 |_,_,kvs,vs,.nil,r=>⟨rfl,r⟩
 |_,_,kvs,vs,@Paired.cons _ _ _ p q ps qs h t,r=>by
  have h1:=dG q.1 q.2 kvs;have h2:=iC h.2 q.1 r;have ih:=kh (kvs:=dh kvs q.1 q.2) t h2;rw[h1]at ih;unfold iU;rw[h.1];exact ih
set_option tactic.hygienic true in
theorem fR:∀{ds:Z9 D}{ps:Z9 (D×D)}{ys:Z9 V},eI ds=U ps->M1 K B H ds ys->∃qs,PQ K B H ps qs/\ys.length=qs.length/\∀(j:Nat) y q,ys[j]?=U y->qs[j]?=U q->abp H y q
 |[],ps,ys,h,r=>by
  obtain rfl:=Z8 h;have:ys=[]:=r;subst this;exact⟨[],.nil,rfl,λj y q h=>by simp at h⟩
 |d::ds,ps,ys,h,r=>by
  simp only[eI]at h;split at h;rename_i p V0 q1 q2;obtain rfl:=Z8 h;obtain⟨y,S3,rfl,r1,r2⟩:=r;obtain⟨qs,h1,h2,h3⟩:=fR q2 r2;unfold tV at q1;split at q1;rename_i k v;split at q1;rename_i hc;obtain rfl:=Z8 q1;rw[ZK]at hc;simp only[Rep]at r1;obtain⟨b,xs,rfl,hb,rr⟩:=r1;obtain⟨ku,r3,rfl,rk,Q7⟩:=rr;simp only[M1]at Q7;obtain⟨vu,r4,rfl,rv,rfl⟩:=Q7;obtain⟨kb,rfl⟩:=c9 hc.2 rk;refine⟨(k,vu)::qs,.cons ⟨rfl,rv⟩ h1,by simp[h2],λj y q e1 e2=>?_⟩;cases j with
  |zero=>
   simp at e1 e2;subst e1 e2;exact⟨b,kb,rfl,hb,hc.1,rk.key hc.1⟩
  |succ j=>exact h3 j y q (by simpa using e1) (by simpa using e2)
  trivial;trivial;trivial
end
section
variable{X:Cx}
def vD:bootBuiltins "dict"=U (.type "dict"):=by decide +kernel
theorem vS(hc:X.calm=L)(hu:X.A.units+64<cLine)(g:Gl X "dict")(hm:X.mg "dict"=M)(ha:DE X Y a fa)(hs:starEach [a] X.env=[(Y,eval a X.env)]:=by rfl):DF X (.Call (.Name "dict" p) [a] [] pos) (λδ=>gX (fa δ)):=
 (cK (pV hc hu) g hm vD (ay ha aN hs) (he:=hs)).imp λσ H Q hz=>by
  obtain⟨B,Hk,δ,d,R,e,k⟩:=hz;dsimp only at e;unfold gX at e;split at e;rename_i ds q;split at e;rename_i ps qp;split at e;rename_i hl;obtain rfl:=Z8 e;refine pG R q λv H' s R' r=>?_;simp only[Rep]at r;obtain⟨l,ys,rfl,hq,rs⟩:=r;obtain⟨qs,h1,h2,h3⟩:=fR qp rs;have hlen:qs.length=ds.length:=by rw[<-h2,rs.length]
  refine⟨l,ys,qs,rfl,hq.sq,h2,by rw[hlen];exact hl,h3,λd ep hd=>?_⟩;have s2:=au (o:=.dD (fI [] qs) ep) hd;obtain⟨g1,g2⟩:=kh (kvs:=[]) (vs:=[]) h1 M1.nil;exact k d _ (s.trans s2) (s.free hd) ⟨_,⟨ep,ah⟩,g1,M1.same (m:=Y) g2 R' s2⟩;trivial;trivial;trivial
end
end L2
namespace L2
open PySem PySem.Spec PyProof.Rows
variable[Lams]
section
variable{K:Z5}{B:ZM->Prop}{Hk H H' H1:Hp}
def Rel.unset(R:Rel K B Hk δ σ H)(hi:i<σ.length):Rel K B Hk (δ.set i M) (σ.set i (U v)) H:=by
 have k_:i<δ.length:=by rw[R.len];exact hi
 have key:∀(j:Nat) p,(δ.set i M)[j]?=U (U p)->j≠i/\δ[j]?=U (U p)/\(σ.set i (U v))[j]?=σ[j]?:=λj p q=>by
  by_cases hj:j=i;subst hj;rw[ZG k_]at q;cases q;rw[ZL (ZA hj)]at q;exact⟨hj,q,by rw[ZL (ZA hj)]⟩
 refine⟨R.same,R.bor,by simpa using R.len,λj e q=>?_,λj e q=>?_,λj k e f q Ka h1 h2 h3 h4=>?_⟩;obtain⟨_,q1,q2⟩:=key j _ q;obtain⟨u,q3,q4⟩:=R.var j e q1;exact⟨u,by rw[q2];exact q3,q4⟩;obtain⟨_,q1,q2⟩:=key j _ q;obtain⟨a,q3,q4⟩:=R.own j e q1;exact⟨a,by rw[q2];exact q3,q4⟩;obtain⟨_,q1,q2⟩:=key j _ h1;obtain⟨_,q3,q4⟩:=key k _ h2;rw[q2]at h3;rw[q4]at h4;exact R.dis j k e f q Ka q1 q3 h3 h4
end
section
end
section
end
section
variable{X:Cx}
open Classical in
def Dd(hu:X.A.units+64<cLine)(I:Inv X pins σ H s)(hd:okD 16 d=L)(he:es.all (okD 16)=L)(r1:Rep X.K B H d x)(r2:M1 X.K B' H es xs)(rx:RelV x v)(rv:aab xs its):∃e:Z3->Bool,(∀y,y∈its.toArray->SeqAt.EqAt X.A.in1 s y v (e y))/\∀(j:Nat) u d',its[j]?=U u->es[j]?=U d'->e u=decide (d'=d):=by
 have one:∀j u,its[j]?=U u->∃d' x',es[j]?=U d'/\okD 16 d'=L/\Rep X.K B' H d' x'/\RelV x' u:=λj u hj=>by
  have hl:=rv.length;have j_:j<xs.length:=by rw[hl];exact(ZP.mp hj).1
  obtain⟨u',H0,ru⟩:=rv.get (i:=j) (x:=xs[j]) (by simp[j_]);rw[hj]at H0;obtain rfl:=Z8 H0;obtain⟨d',x_,Ie⟩:=r2.get' (i:=j) (x:=xs[j]) (by simp[j_]);exact⟨d',xs[j],x_,(ZW.mp he) d' (Zg x_),Ie,ru⟩
 have key:∀u d' x',okD 16 d'=L->Rep X.K B' H d' x'->RelV x' u->decide (∃d' x',okD 16 d'=L/\Rep X.K B' H d' x'/\RelV x' u/\d'=d)=decide (d'=d):=λu d' x' o' Ie ru=>by
  rw[Yx,Y8,Y8];constructor
  rintro⟨d2,x2,o2,M4,M0,e2⟩
  rw[<-e2];have ex:=ru.inj M0;subst ex;exact Rep.inj I o' o2 Ie M4;intro e2;exact⟨d',x',o',Ie,ru,e2⟩
 refine⟨λu=>decide (∃d' x',okD 16 d'=L/\Rep X.K B' H d' x'/\RelV x' u/\d'=d),λu H0=>?_,λj u d' hj x_=>?_⟩;obtain⟨j,hj⟩:=XY (show u∈its by simpa using H0);obtain⟨d',x',_,o',Ie,ru⟩:=one j u hj;have q:=(A2 I 16 d' d x' x u v X.A.in1 o' hd (by show X.A.units+1+16+1<cLine;lia) Ie r1 ru rx).2.1;show SeqAt.EqAt X.A.in1 s u v (decide (∃d' x',okD 16 d'=L/\Rep X.K B' H d' x'/\RelV x' u/\d'=d));rw[key u d' x' o' Ie ru];exact q;obtain⟨d2,x',e2,o',Ie,ru⟩:=one j u hj;rw[x_]at e2;obtain rfl:=Z8 e2;exact(key u d' x' o' Ie ru).trans (by congr)
noncomputable def A4(x y:Z7 D):Z7 D:=match x,y with
 |some (.lst ds),some d=>if okD 16 d=L/\ds.all (okD 16)=L/\ds.idxOf d<ds.length/\ds.length<=lim then U (.int (ds.idxOf d)) else M
 |_,_=>M
def vg(hu:X.A.units+64<cLine):MtR X "list.index" (λx vs H Q=>∃B B' l y ds d,x=.ref l/\vs=[y]/\Rep X.K B H (.lst ds) x/\Rep X.K B' H d y/\okD 16 d=L/\ds.all (okD 16)=L/\ds.idxOf d<ds.length/\ds.length<=lim/\Q (.int (ds.idxOf d)) H):=by
 intro pins s σ H x vs v us Q I rx rv h;obtain⟨B,B',l,y,ds,d,rfl,rfl,r1,r2,o1,o2,hj,hz,q⟩:=h;cases rx;obtain⟨u,rfl,ru⟩:=rv.one;simp only[Rep]at r1;obtain⟨l',xs,e,hq,rs⟩:=r1;cases e;obtain⟨its,r,pl,_⟩:=I.list hq.sq;obtain⟨e,g1,g2⟩:=Dd hu I o1 o2 r2 rs ru r;obtain⟨⟨cl,dd,dt,sl⟩,n,e1,e2,e3,e4⟩:=pl;simp only at e2 e3 e4;subst e2;subst e3;subst e4;have Je:=r.length;have RS:=rs.length;have hsz:ds.idxOf d<its.toArray.size:=by rw[ZT];lia
 have at1:∀(i:Nat)(hi:i<its.length),e its[i]=decide (ds[i]'(by lia)=d):=λi hi=>g2 i its[i] (ds[i]'(by lia)) (by simp) (by simp);refine Wn F.slot_list_index ⟨_,e1,rfl⟩ F.entry_list_index (F.args_list_index_2 _ _) (SeqAt.list_indexAt l its.toArray n M sl u e (ds.idxOf d) hsz ?_ ?_ ?_) ⟨e1,g1,?_⟩;have:lim<2 ^ 63 - 1:=by decide +kernel
 lia;rw[List.getElem_toArray,at1];simp;intro i hi j_;rw[List.getElem_toArray,at1 i (by simpa using hi)];have:=List.not_of_lt_findIdx (p:=λz=>z==d) (xs:=ds) (i:=i) j_;simpa using this;exact⟨.int _,H,I.tok _,⟨_,rfl⟩,q⟩
set_option tactic.hygienic true in
def sd(h:A4 x y=U z):∃ds d,x=U (.lst ds)/\y=U d/\okD 16 d=L/\ds.all (okD 16)=L/\ds.idxOf d<ds.length/\ds.length<=lim/\z=.int (ds.idxOf d):=by
 unfold A4 at h;split at h;rename_i ds d;split at h;rename_i c;obtain rfl:=Z8 h;exact⟨ds,d,rfl,rfl,c.1,c.2.1,c.2.2.1,c.2.2.2,rfl⟩;trivial;trivial
theorem wz(hu:X.A.units+64<cLine)(ha:DE X m a fa)(hb:DE X m' b fb)(mc:Mc X.env a "index" b [] apos i_):DE X mm (.Call (.Attribute a "index" apos) [b] [] i_) (λδ=>A4 (fa δ) (fb δ)):=
 (qx Xn PySem.F.slot_list_index PySem.F.type_list_index (vg hu) ha (ay hb aN mc.s) mc).imp λσ H Q hz=>by
  obtain⟨B,Hk,δ,d,R,e,k⟩:=hz;obtain⟨ds,d0,e1,e2,o1,o2,h1,h2,rfl⟩:=sd e;refine⟨B,Hk,δ,_,R,e1,λv H1 s1 r1=>?_⟩;have R1:=R.to s1;obtain⟨l,xs,ev,hq,rs⟩:∃l xs,v=.ref l/\abm X.K (aZ m B δ σ) H1 l xs/\M1 X.K (aZ m B δ σ) H1 ds xs:=by simpa only[Rep]using r1
  subst ev;refine⟨.inl ⟨rfl,xs,hq.sq⟩,B,Hk,δ,_,R1,e2,λy H2 s2 r2=>?_⟩;exact⟨_,_,l,y,ds,d0,rfl,rfl,r1.same R1 s2,r2,o1,o2,h1,h2,k _ H2 (s1.trans s2) (by simp only[Rep])⟩
end
end L2
namespace L2
open PySem
def be:Z9 (D×Z9 D)->D->D->Z9 (D×Z9 D)
 |[],k,e=>[(k,[e])]
 |p::r,k,e=>if p.1=k then(p.1,if e∈p.2 then p.2 else p.2++[e])::r else p::be r k e
def nU(g:Z9 (D×Z9 D)):D:=.dD (g.map (·.1)) (g.map λp=>.dD p.2 (p.2.map λ_=>.bl L))
end L2
namespace L2
open PySem PySem.Spec PyProof.Rows
variable[Lams]
def aby(Hk H:Hp)(l:ZM)(v:V)(es:Z9 D):Prop:=∃a ks ep,v=.ref a/\a≠l/\Hk a=M/\H a=U (.dD ks ep)/\ks.map (·.1)=es/\∀x∈ks,x.2=.bl L
def GL(Hk H:Hp)(l:ZM):Z9 (D×V)->Z9 (D×Z9 D)->Prop
 |[],g=>g=[]
 |p::r,g=>∃q g',g=q::g'/\p.1=q.1/\aby Hk H l p.2 q.2/\GL Hk H l r g'
def aby.to(h:aby Hk H l v es)(k:∀a ks ep,v=.ref a->H a=U (.dD ks ep)->H' a=U (.dD ks ep)):aby Hk H' l v es:=by
 obtain⟨a,ks,ep,h1,h2,h3,h4,h5⟩:=h;exact⟨a,ks,ep,h1,h2,h3,k a ks ep h1 h4,h5⟩
theorem GL.to:∀{kvs:Z9 (D×V)}{g:Z9 (D×Z9 D)},GL Hk H l kvs g->(∀p∈kvs,∀a ks ep,p.2=.ref a->H a=U (.dD ks ep)->H' a=U (.dD ks ep))->GL Hk H' l kvs g
 |[],g,h,k=>h
 |p::r,g,h,k=>by
  obtain⟨q,g',h1,h2,h3,h4⟩:=h;exact⟨q,g',h1,h2,h3.to (k p (ZX ..)),GL.to h4 λp' hp=>k p' (Z1 _ hp)⟩
theorem GL.length:∀{kvs:Z9 (D×V)}{g:Z9 (D×Z9 D)},GL Hk H l kvs g->kvs.length=g.length
 |[],g,h=>by rw[show g=[] from h];rfl
 |p::r,g,h=>by obtain⟨q,g',rfl,_,_,h4⟩:=h;simp[GL.length h4]
theorem GL.mem:∀{kvs:Z9 (D×V)}{g:Z9 (D×Z9 D)}{p:D×V},GL Hk H l kvs g->p∈kvs->∃es,aby Hk H l p.2 es/\∃q∈g,q.2=es
 |[],g,p,h,hp=>by trivial
 |p'::r,g,p,h,hp=>by
  obtain⟨q,g',rfl,h2,h3,h4⟩:=h;rcases Z0.mp hp with rfl|hp;exact⟨q.2,h3,q,ZX ..,rfl⟩;obtain⟨es,h5,q',h6,h7⟩:=GL.mem h4 hp;exact⟨es,h5,q',Z1 _ h6,h7⟩
def je{kvs:Z9 (D×V)}{k:D}{v:V}(h:dZ kvs k=U v):∃p∈kvs,p.2=v/\p.1=k:=by
 unfold dZ at h;obtain⟨p,h1,h2⟩:=Xk.mp h;exact⟨p,W6 h1,h2,by simpa using List.find?_some h1⟩
theorem GL.add{Hk H:Hp}{l a:ZM}{ks:Z9 (D×V)}{k e:D}{ep:Nat}:∀{kvs:Z9 (D×V)}{g:Z9 (D×Z9 D)},GL Hk H l kvs g->(kvs.map (·.2)).Nodup->dZ kvs k=U (.ref a)->H a=U (.dD ks ep)->∀y_,GL Hk (upd H a (.dD (dh ks e (.bl L)) y_)) l kvs (be g k e)
 |[],g,h,nd,hv,ha=>by trivial
 |p::r,g,h,nd,hv,ha=>by
  intro y_;obtain⟨q,g',rfl,h2,h3,h4⟩:=h;rw[Z2,YM]at nd;unfold be;by_cases c:p.1=k;rw[bR c]at hv;rw[ZO (by rw[<-h2];exact c)];refine⟨_,_,rfl,h2,?_,h4.to λp' HY a' JG Jc e1 e2=>?_⟩;obtain⟨a',JG,Jc,e1,e2,e3,e4,e5,e6⟩:=h3;have Iz:p.2=.ref a:=Z8 hv;rw[e1]at Iz;cases Iz;rw[ha]at e4;cases e4;refine⟨a,_,y_,e1,e2,e3,ah,?_,λx hx=>?_⟩;rw[dG];unfold cR;rw[e5];unfold dh at hx;split at hx;obtain⟨y,hy,rfl⟩:=ZV.mp hx;split;rfl;exact e6 y hy;rcases Zt.mp hx with hx|hx;exact e6 x hx;rw[ZC.mp hx];have:a'≠a:=λz=>by
   subst z;exact nd.1 (ZV.mpr ⟨p',HY,by rw[e1];exact(Z8 hv).symm⟩)
  rw[ai this];exact e2;rw[bQ c]at hv;rw[ZJ (by rw[<-h2];exact c)];refine⟨_,_,rfl,h2,h3.to λa' JG Jc e1 e2=>?_,GL.add h4 nd.2 hv ha y_⟩;obtain⟨p',HY,e3,_⟩:=je hv;have:a'≠a:=λz=>by
   subst z;exact nd.1 (ZV.mpr ⟨p',HY,by rw[e3,e1]⟩)
  rw[ai this];exact e2
theorem GL.keys:∀{kvs:Z9 (D×V)}{g:Z9 (D×Z9 D)},GL Hk H l kvs g->kvs.map (·.1)=g.map (·.1)
 |[],g,h=>by rw[show g=[] from h];rfl
 |p::r,g,h=>by obtain⟨q,g',rfl,h2,_,h4⟩:=h;simp[GL.keys h4,h2]
theorem GL.snoc:∀{kvs:Z9 (D×V)}{g:Z9 (D×Z9 D)},GL Hk H l kvs g->aby Hk H l (.ref a) es->GL Hk H l (kvs++[(k,.ref a)]) (g++[(k,es)])
 |[],g,h,i=>by rw[show g=[] from h];exact⟨_,_,rfl,rfl,i,rfl⟩
 |p::r,g,h,i=>by obtain⟨q,g',rfl,h2,h3,h4⟩:=h;exact⟨_,_,rfl,h2,h3,GL.snoc h4 i⟩
theorem GL.ab6{n:Nat}{Hk H:Hp}{l:ZM}:∀{g:Z9 (D×Z9 D)},(∀q∈g,q.2.length<=n)->∀q∈be g k e,q.2.length<=n+1
 |[],h,q,hq=>by unfold be at hq;rw[ZC.mp hq];simp
 |p::r,h,q,hq=>by
  unfold be at hq;split at hq;rcases Z0.mp hq with rfl|hq;have:=h p (ZX ..);dsimp only;split;lia;rw[Zy,List.length_singleton];lia;have:=h q (Z1 _ hq);lia;rcases Z0.mp hq with rfl|hq;have:=h q (ZX ..);lia;exact GL.ab6 (Hk:=Hk) (H:=H) (l:=l) (λq' JK=>h q' (Z1 _ JK)) q hq
theorem gV:∀(g:Z9 (D×Z9 D))(k e:D),(be g k e).length<=g.length+1
 |[],k,e=>by simp[be]
 |p::r,k,e=>by
  unfold be;split;simp;have:=gV r k e;simp only[bO];lia
def InM(K:Z5)(B:ZM->Prop)(Hk H:Hp)(l:ZM)(v:V)(es:Z9 D):Prop:=Rep K B H (.dD es (es.map λ_=>.bl L)) v\/aby Hk H l v es
def GM(K:Z5)(B:ZM->Prop)(Hk H:Hp)(l:ZM):Z9 (D×V)->Z9 (D×Z9 D)->Prop
 |[],g=>g=[]
 |p::r,g=>∃q g',g=q::g'/\p.1=q.1/\InM K B Hk H l p.2 q.2/\GM K B Hk H l r g'
theorem GL.m{K:Z5}{B:ZM->Prop}{Hk H:Hp}{l:ZM}:∀{kvs:Z9 (D×V)}{g:Z9 (D×Z9 D)},GL Hk H l kvs g->GM K B Hk H l kvs g
 |[],g,h=>h
 |p::r,g,h=>by obtain⟨q,g',h1,h2,h3,h4⟩:=h;exact⟨q,g',h1,h2,.inr h3,GL.m h4⟩
theorem C9{K:Z5}{B:ZM->Prop}{H:Hp}:∀{ks:Z9 (D×V)},(∀x∈ks,x.2=.bl L)->M1 K B H ((ks.map (·.1)).map λ_=>.bl L) (ks.map (·.2))
 |[],h=>M1.nil
 |p::r,h=>M1.cons (by simp only[Rep];exact h p (ZX ..)) (C9 λx hx=>h x (Z1 _ hx))
def aby.obR{K:Z5}{B:ZM->Prop}{Hk H:Hp}{l:ZM}{v:V}{es:Z9 D}(h:aby Hk H l v es):∃a,v=.ref a/\a≠l/\Hk a=M/\ObR K B H (.dD es (es.map λ_=>.bl L)) a:=by
 obtain⟨a,ks,ep,h1,h2,h3,h4,rfl,h6⟩:=h;exact⟨a,h1,h2,h3,ks,⟨ep,h4⟩,rfl,C9 h6⟩
theorem GM.ab9{K:Z5}{B:ZM->Prop}{Hk H:Hp}{l b:ZM}{u:HO}{o:Obj}(hx:H b=U u)(mu:Mut (U u))(nb:¬B b):∀{kvs:Z9 (D×V)}{g:Z9 (D×Z9 D)},GM K B Hk H l kvs g->GM K B Hk (upd H b (.frz o u)) l kvs g
 |[],g,h=>h
 |p::r,g,h=>by
  obtain⟨q,g',h1,h2,h3,h4⟩:=h;refine⟨q,g',h1,h2,?_,GM.ab9 hx mu nb h4⟩;rcases h3 with h3|h3;exact .inl (h3.ext (bZ hx mu nb));by_cases c:p.2=.ref b;obtain⟨a,e1,e2,e3,ob⟩:=h3.obR (K:=K) (B:=B);rw[c]at e1;cases e1;rw[c];exact .inl (ob.frozen hx nb λ_ z=>z);exact .inr (h3.to λa ks ep e1 e2=>by rw[ai (λz=>c (by rw[e1,z]))];exact e2)
theorem EN{X:Cx}{pins:Z9 (ZM×Obj)}{σ:St}{s:ZR}{B:ZM->Prop}{Hk:Hp}{l:ZM}{ol:HO}(hB:∀a,B a->∃o:HOn,Hk a=U o.1):∀(kvs:Z9 (D×V))(g:Z9 (D×Z9 D))(H:Hp),Inv X pins σ H s->GM X.K B Hk H l kvs g->H l=U ol->
  ∃H',Inv X pins σ H' s/\Ext B H H'/\(∀c o o',Hk c=U o'->H c=U o->H' c=U o)/\H' l=U ol/\M1 X.K B H' (g.map λp=>.dD p.2 (p.2.map λ_=>.bl L)) (kvs.map (·.2))
 |[],g,H,I,h,hl=>⟨H,I,Ext.refl,λ_ _ _ _ q=>q,hl,by rw[show g=[] from h];exact M1.nil⟩
 |p::r,g,H,I,h,hl=>by
  obtain⟨q,g',rfl,h2,h3,h4⟩:=h;rcases h3 with h3|h3;obtain⟨H',I',e',k',l',r'⟩:=EN hB r g' H I h4 hl;exact⟨H',I',e',k',l',M1.cons (h3.ext e') r'⟩;obtain⟨a,e1,e2,e3,ob⟩:=h3.obR (K:=X.K) (B:=B);obtain⟨u,hu,mu⟩:=ob.mut;obtain⟨o,I1⟩:=I.frz hu mu;have nb:¬B a:=λz=>by obtain⟨o',w⟩:=hB a z;rw[e3]at w;trivial
  have ex:Ext B H (upd H a (.frz o u)):=bZ hu mu nb;obtain⟨H',I',e',k',l',r'⟩:=EN hB r g' _ I1 (GM.ab9 hu mu nb h4) (by rw[ai (ZA e2)];exact hl);refine⟨H',I',ex.trans e',λc o' o2 q1 q2=>k' c o' o2 q1 (by rw[ai (av q1 e3)];exact q2),l',M1.cons ?_ r'⟩;dsimp only;rw[e1];exact(ob.frozen hu nb λ_ z=>z).ext e'
def yD(δ:Mk):Bool:=δ.all λo=>match o with|some (_,true)=>Y|_=>L
def sR(h:yD δ=L):bd δ:=λi d e=>by
 have:=(ZW.mp h) _ (Zg e);simp at this
def eC(h:bd δ):bd (δ.set i M):=λj e q=>by
 by_cases hj:i=j
 .subst hj
  rw[List.getElem?_set]at q;split at q
  .split at q<;>cases q
  exact h i e q
 rw[ZL hj]at q;exact h j e q
def Rel.acy{K:Z5}{B:ZM->Prop}{Hk H:Hp}{δ:Mk}{σ:St}{l:ZM}{u o:HO}(R:Rel K B Hk δ σ H)(no:bd δ)(hk:Hk l=M)(hl:H l=U u)(mu:Mut (U u)):Ext B H (upd H l o)/\Rel K B Hk δ σ (upd H l o):=by
 have nb:¬B l:=λz=>by obtain⟨o,q⟩:=R.bor l z;rw[hk]at q;trivial
 have ex:Ext B H (upd H l o):=bZ hl mu nb;refine⟨ex,R.same.put hk,R.bor,R.len,λj e q=>?_,λj e q=>(no j e q).elim,R.dis⟩;obtain⟨v,q1,q2⟩:=R.var j e q;exact⟨v,q1,q2.ext ex⟩
noncomputable def cz(ib ik ir:Nat)(fk fe:Mk->Z7 D):Z9 D->Mk->Z9 (D×Z9 D)->Z7 (Z9 (D×Z9 D))
 |[],_,g=>U g
 |d::ds,δ,g=>match fk (δ.set ib (U (d,Y)))with
  |some k=>(match fe (((δ.set ib (U (d,Y))).set ik (U (k,Y))).set ir M)with
   |some e=>if(aR 8 k&&jr k&&(aR 8 e&&jr e))=L then cz ib ik ir fk fe ds (((δ.set ib (U (d,Y))).set ik (U (k,Y))).set ir M) (be g k e) else M
   |none=>M)
  |none=>M
noncomputable def BF(ig ib ik ir:Nat)(fi:Mk->Z7 (Z9 D))(fk fe:Mk->Z7 D)(δ:Mk):Z7 Out:=
 if yD δ=L/\ig<δ.length/\ib<δ.length/\ik<δ.length/\ir<δ.length then
  (match fi (δ.set ig M)with
  |some ds=>if ds.length<lim then(match cz ib ik ir fk fe ds (δ.set ig M) []with|some g=>U (.ret (nU g) L)|none=>M) else M
  |none=>M) else M
def sZ(h:BF ig ib ik ir fi fk fe δ=U o):bd δ/\(ig<δ.length/\ib<δ.length/\ik<δ.length/\ir<δ.length)/\∃ds g,fi (δ.set ig M)=U ds/\ds.length<lim/\cz ib ik ir fk fe ds (δ.set ig M) []=U g/\o=.ret (nU g) L:=by
 unfold BF at h;split at h;rename_i c;split at h;rename_i ds q1;split at h;rename_i hl;split at h;rename_i g q2;cases h;exact⟨sR c.1,c.2,ds,g,q1,hl,q2,rfl⟩;trivial;trivial;trivial;trivial
theorem fA:∀{g:Z9 (D×Z9 D)}{k e:D},¬k∈g.map (·.1)->be (g++[(k,[])]) k e=be g k e
 |[],k,e,_=>by simp[be]
 |p::r,k,e,h=>by
  simp only[Z2,Z0,Xl]at h;show be (p::(r++[(k,[])])) k e=_;unfold be;rw[ZJ (λz=>h.1 z.symm),ZJ (λz=>h.1 z.symm),fA h.2]
def wK{kvs:Z9 (D×V)}{k:D}{v:V}(h:dZ kvs k=M):dZ (kvs++[(k,v)]) k=U v:=by
 induction kvs with
 |nil=>exact bR rfl
 |cons p r ih=>
  by_cases c:p.1=k;rw[bR c]at h;trivial;rw[bQ c]at h;rw[List.cons_append,bQ c];exact ih h
structure aci (K:Z5)(B:ZM->Prop)(Hk:Hp)(ig l n:Nat)(δ:Mk)(σ:St)(H:Hp)(g:List (D×List D)):Prop where
 rel:Rel K B Hk δ σ H
 no:bd δ
 at':σ[ig]?=some (some (.ref l))
 new:Hk l=none
 dict:∃kvs ep,H l=some (.dD kvs ep)/\GL Hk H l kvs g/\(kvs.map (·.2)).Nodup
 len:g.length<=n
 ab6:∀q∈g,q.2.length<=n
section
variable{X:Cx}{ig ib ik ir:Nat}{fk fe:Mk->Z7 D}{p3 Rg Rf:Pos}
noncomputable def tGR(K:Z5)(ig:Nat):TS:=λDn σ H=>∃B Hk l kvs ep g,(∀a,B a->∃o:HOn,Hk a=U o.1)/\σ[ig]?=U (U (.ref l))/\H l=U (.dD kvs ep)/\GL Hk H l kvs g/\
 ∀H',Ext B H H'->(∀c o o',Hk c=U o'->H c=U o->H' c=U o)->ObR K B H' (nU g) l->Dn.rt (.ref l) H'
def A1(ng:Nm X ig xg):PS X (.Return (U (.Name xg Tw)) Tv) (tGR X.K ig):=by
 intro pins s σ H Dn I ⟨B,Hk,l,kvs,ep,g,hB,Po,hl,gl,k⟩;obtain⟨H',I',e',k',l',r'⟩:=EN hB kvs g H I gl.m hl;exact mU (bA ng.at' ng.vis ng.d1 ng.d2) pins s σ H' Dn I' ⟨.ref l,Po,k H' e' k' ⟨kvs,⟨ep,l'⟩,gl.keys,r'⟩⟩
def vI{K:Z5}{B:ZM->Prop}{Hk:Hp}{l n:Nat}{δ:Mk}{σ:St}{H H3 H4:Hp}{g:Z9 (D×Z9 D)}{d k e:D}{v vk:V}{N:St->Hp->Prop}{Dn:Ends}
  (j_:ig<σ.length/\ib<σ.length/\ik<σ.length/\ir<σ.length) (h1:ig≠ib) (h2:ig≠ik) (h3:ig≠ir) (h5:ik≠ir) (hn:n<lim)
  (G:aci K B Hk ig l n δ σ H g) (sy:aae H H3) (rv:Rep K B H3 d v) (qk:fk (δ.set ib (U (d,Y)))=U k) (s4:aae H3 H4) (rk:Rep K B H4 k vk)
  (qe:fe (((δ.set ib (U (d,Y))).set ik (U (k,Y))).set ir M)=U e) (Oy:(aR 8 k&&jr k&&(aR 8 e&&jr e))=L)
  (fin:∀h_ H',Ext B H H'->aci K B Hk ig l (n+1) (((δ.set ib (U (d,Y))).set ik (U (k,Y))).set ir M) h_ H' (be g k e)->N h_ H'):
  DP (zo (FN abQ (u6 ig) (pI (u6 ik) (pI ab1 ab0))) (gF ir)) (sPA (u6 ir) (tM K Y fe) (tC (.bl L))) {Dn with nx:=N} ((σ.set ib (U v)).set ik (U vk)) H4:=by
 simp only[ZK]at Oy;obtain⟨⟨k8,kt⟩,e8,et⟩:=Oy;obtain⟨lg,lb,lk,lr⟩:=j_;have R3:=(G.rel.to sy).set (i:=ib) lb rv;have R4:=(R3.to s4).set (i:=ik) (by rw[Zi];exact lk) rk;have Pa:bd ((δ.set ib (U (d,Y))).set ik (U (k,Y))):=gu (gu G.no);obtain⟨kvs,ep,hl,gl,nd⟩:=G.dict;have N9:=sy.trans s4;have PN:H4 l=U (.dD kvs ep):=N9 l _ hl;have Sr:GL Hk H4 l kvs g:=gl.to λp hp a ks Jc e1 e2=>N9 a _ e2;obtain⟨b,rfl⟩:=c9 kt rk;have kr:KR H4 k (.ref b):=rk.key k8;have QY:((σ.set ib (U v)).set ik (U (.ref b)))[ig]?=U (U (.ref l)):=by
  rw[ZL (ZA h2),ZL (ZA h1)];exact G.at'
 have SN:((σ.set ib (U v)).set ik (U (.ref b)))[ik]?=U (U (.ref b)):=ZG (by rw[Zi];exact lk);refine⟨.ref l,QY,⟨l,rfl,.inr ⟨kvs,ep,.inl PN⟩⟩,.ref b,SN,λc hc=>?_⟩;have cl:c≠l:=λz=>by subst z;rw[PN]at hc;trivial
 have sc:=au (o:=.dD [] 0) hc;have MP:upd H4 c (.dD [] 0) l=U (.dD kvs ep):=sc l _ PN;have OL:GL Hk (upd H4 c (.dD [] 0)) l kvs g:=Sr.to λp hp a ks Jc e1 e2=>sc a _ e2;have Pj:KR (upd H4 c (.dD [] 0)) k (.ref b):=(rk.ext (R4.ext sc)).key k8;have Rc:=R4.to sc;have xc:Ext B H (upd H4 c (.dD [] 0)):=G.rel.ext (N9.trans sc);have ar:∀(H5:Hp)(a:ZM)(Jl:Z9 (D×V))(Kj:Nat)(g1:Z9 (D×Z9 D)),Ext B H H5->Rel K B Hk ((δ.set ib (U (d,Y))).set ik (U (k,Y))) ((σ.set ib (U v)).set ik (U (.ref b))) H5->H5 l=U (.dD Jl Kj)->GL Hk H5 l Jl g1->(Jl.map (·.2)).Nodup->
   dZ Jl k=U (.ref a)->be g1 k e=be g k e->(∀q∈g1,q.2.length<=n)->
   sPA (u6 ir) (tM K Y fe) (tC (.bl L)) {Dn with nx:=N} (((σ.set ib (U v)).set ik (U (.ref b))).set ir (U (.ref a))) H5:=by
  intro H5 a Jl Kj g1 x5 R5 Uu Sq Rl RA Sx Rr;have R6:=R5.unset (i:=ir) (v:=.ref a) (by rw[Zi,Zi];exact lr);refine⟨.ref a,ZG (by rw[Zi,Zi];exact lr),B,Hk,_,e,R6,qe,λy H6 s6 ry=>?_⟩;obtain⟨b2,rfl⟩:=c9 et ry;obtain⟨p,hp,e1,e2⟩:=je RA;obtain⟨es,⟨a',ks,Jc,f1,f2,f3,f4,f5,f6⟩,q,hq,RF⟩:=Sq.mem hp;rw[e1]at f1;cases f1;have Qh:H6 a=U (.dD ks Jc):=s6 a _ f4;have Lw:ks.length<=n:=by
   have:=Rr q hq;rw[RF,<-f5,ZY]at this;exact this
  refine⟨a,rfl,.inr ⟨ks,Jc,e,b2,Qh,rfl,e8,ry.key e8,?_,λy_=>?_⟩⟩;exact ZD (Nat.lt_of_le_of_lt Lw hn) (aG (ZU _));have R7:=R6.to s6;have Ve:GL Hk H6 l Jl g1:=Sq.to λp hp a ks Jc e1 e2=>s6 a _ e2;obtain⟨x8,R8⟩:=R7.acy (o:=.dD (dh ks e (.bl L)) y_) (eC Pa) f3 Qh trivial;refine fin _ _ ((x5.trans (R5.ext s6)).trans x8) ⟨R8,eC Pa,?_,G.new,⟨Jl,Kj,?_,?_,Rl⟩,?_,?_⟩;rw[ZL (ZA h3)];exact QY;rw[ai (ZA f2)];exact s6 l _ Uu;rw[<-Sx];exact Ve.add Rl RA Qh y_;have:=gV g k e;have:=G.len;lia;rw[<-Sx];exact GL.ab6 (Hk:=Hk) (H:=H) (l:=l) Rr
 cases hv:dZ kvs k with
 |some w=>
  obtain⟨p,hp,e1,e2⟩:=je hv;obtain⟨es,⟨a,ks,Jc,f1,f2,f3,f4,f5,f6⟩,q,hq,RF⟩:=OL.mem hp;have ew:w=.ref a:=by rw[<-e1,f1]
  subst ew;refine⟨l,.ref b,.ref c,.ref a,rfl,rfl,.inl ⟨.inr ⟨kvs,ep,k,b,.inl MP,rfl,k8,Pj,hv.symm⟩,?_,.inr ⟨kvs,ep,MP⟩⟩⟩;exact ar _ a kvs ep g xc Rc MP OL nd hv rfl G.ab6
 |none=>
  refine⟨l,.ref b,.ref c,.ref c,rfl,rfl,.inr ⟨.inr ⟨kvs,ep,k,b,.inl MP,rfl,k8,Pj,hv.symm⟩,rfl,.inr ⟨kvs,ep,k,b,MP,rfl,k8,Pj,?_,λy_=>?_⟩⟩⟩;rw[gl.length];exact ZD (Nat.lt_of_le_of_lt G.len hn) (aG (ZU _));have Uw:Hk c=M:=G.rel.same.free ((N9.free hc));obtain⟨x5,R5⟩:=Rc.acy (o:=.dD (dh kvs k (.ref c)) y_) Pa G.new MP trivial;have ek:¬k∈g.map (·.1):=by rw[<-gl.keys];exact w8 hv
  refine ar _ c (dh kvs k (.ref c)) y_ (g++[(k,[])]) (xc.trans x5) R5 ah ?_ ?_ ?_ (fA ek) ?_;rw[jg _ hv];refine GL.snoc (OL.to λp hp a ks Jc e1 e2=>?_) ⟨c,[],0,rfl,cl,Uw,?_,rfl,λx hx=>by cases hx⟩;have:a≠l:=λz=>by
   obtain⟨es,⟨a2,Og,Vs,z1,z2,_⟩,_⟩:=OL.mem hp;rw[e1]at z1;cases z1;exact z2 z
  rw[ai this];exact e2;rw[ai cl];exact ah;rw[jg _ hv,YU];refine XZ.mpr ⟨nd,by simp,λx hx y hy z=>?_⟩;obtain rfl:y=.ref c:=by simpa using hy
  subst z;obtain⟨p,hp,e1⟩:=ZV.mp hx;obtain⟨es,⟨a2,Og,Vs,z1,z2,z3,z4,_⟩,_⟩:=Sr.mem hp;rw[e1]at z1;cases z1;rw[hc]at z4;trivial;rw[jg _ hv];exact wK hv;intro q hq;rcases Zt.mp hq with hq|hq;exact G.ab6 q hq;rw[ZC.mp hq];exact Zu _
set_option tactic.hygienic true in
theorem uf(hp:PassesOwn (model X.prog X.w) X.A X.env X.xe)(hc:X.calm=L)(hu:X.A.units+64<cLine)(hN:X.N.Nodup)(ng:Nm X ig xg)(lg:Lc X ig xg)(lb:Lc X ib xb)(nk:Nm X ik xk)(lk:Lc X ik xk)(nr:Nm X ir xr)(lr:Lc X ir xr)
  (h1:ig≠ib) (h2:ig≠ik) (h3:ig≠ir) (h5:ik≠ir) (hi:DI X Y (.Name xb p4) iter fi) (hk:DE X Y ke fk) (he:DE X Y ve fe)
  (hs:∀x,foldedSetIterable iter X.env x=pure x)
  (QE:swapsWith (.Dict [] [] p2) (U (.Name xg p1)) p3.line X.env=pure Y)
  (Ma:swapsWith ke (U (.Name xk p5)) p6.line X.env=pure Y)
  (L_:swapsWith (.Call (.Attribute (.Name xg p8) "setdefault" ap) [.Name xk p9,.Dict [] [] Lu] [] cp) (U (.Name xr p7)) Rg.line X.env=pure Y)
  (QD:swapsWith (.Constant (.bool L) kk Tx) (U (.Subscript (.Name xr TC) ve TB)) Rf.line X.env=pure Y)
  (base:attributeBase (.Name xg p8) "setdefault" X.env (eval (.Name xg p8) X.env)=eval (.Name xg p8) X.env)
  (few:((backTo cp (starEach [.Name xk p9,.Dict [] [] Lu] X.env)).all (λx=>!x.1)&&(backToKw cp (keywordEach [] X.env)).all (λx=>x.1.isSome)&&decide (([Expr.Name xk p9,.Dict [] [] Lu]).length+([]:Z9 Keyword).length+(if([]:Z9 Keyword).isEmpty then 0 else 1)<30))=L)
  (line:(ap.endLine==cp.line)=L)(G_:starEach [.Name xk p9,.Dict [] [] Lu] X.env=(Y,eval (.Name xk p9) X.env)::starEach [.Dict [] [] Lu] X.env)(HV:starEach [.Dict [] [] Lu] X.env=[(Y,eval (.Dict [] [] Lu) X.env)])(plain:(backTo cp (starEach [.Dict [] [] Lu] X.env)).any (·.1)=Y):
  DSs X (.Assign [.Name xg p1] (.Dict [] [] p2) p3::
   .For (.Name xb p4) iter (.Assign [.Name xk p5] ke p6::
    .Assign [.Name xr p7] (.Call (.Attribute (.Name xg p8) "setdefault" ap) [.Name xk p9,.Dict [] [] Lu] [] cp) Rg::
    .Assign [.Subscript (.Name xr TC) ve TB] (.Constant (.bool L) kk Tx) Rf::[]) [] V1::
   .Return (U (.Name xg Tw)) Tv::[]) (BF ig ib ik ir fi fk fe):=by
 intro pins s σ H Dn I hq;obtain⟨B,Hk,δ,o,R,e,TZ⟩:=hq;obtain⟨no,⟨q1,q2,q3,q4⟩,ds,g,H_,hl,hg,rfl⟩:=sZ e;have Po:=R.len;refine bT (iu hN lg.at' lg.loc iP QE lg.fnl)
  (bT (yp hp hc hi (mn hN lb.at' lb.loc lb.fnl)
   (bT (iu hN lk.at' lk.loc hk Ma lk.fnl)
    (bT (iu hN lr.at' lr.loc (qQ PySem.F.slot_dict_setdefault PySem.F.type_dict_setdefault (jG hu) (bA ng.at' ng.vis ng.d1 ng.d2) (ay (bA nk.at' nk.vis nk.d1 nk.d2) (ay iP aN HV) G_) base few line G_ plain) L_ lr.fnl)
     (mP (nI hu (bA nr.at' nr.vis nr.d1 nr.d2) he Cu QD)))) hs)
   (mP (A1 ng))) pins s σ H Dn I ?_
 intro p RJ;have s1:=au (o:=.dD [] 0) RJ;have R1:=(R.to s1).unset (i:=ig) (v:=.ref p) (by lia);have Ow:Hk p=M:=R.same.free RJ;refine⟨B,Hk,_,ds,R1,H_,λJ H2 s2 it=>?_⟩;have Kf:ItD X.K B H2 J ds:=it;refine⟨λi n h_ H'=>n=ds.length - i/\i<=ds.length/\Ext B H2 H'/\∃f_ g',aci X.K B Hk ig p i f_ h_ H' g'/\h_.length=σ.length/\cz ib ik ir fk fe (ds.drop i) f_ g'=U g,
  ⟨ds.length,by simp,Zu _,Ext.refl,_,[],⟨R1.to s2,eC no,ZG (by lia),Ow,⟨[],0,s2 p _ ah,rfl,Yr⟩,Zu _,λq hq=>by cases hq⟩,by rw[Zi],by simpa using hg⟩,?_⟩
 intro i n h_ H' hz;obtain⟨rfl,k_,x,f_,g',G,hlen,e'⟩:=hz;obtain⟨HG,Ng⟩:=Kf H' x;by_cases j_:i<ds.length;obtain⟨go,yl⟩:=Ng i ds[i] (by simp[j_]);refine .inr ⟨go,λIo H3=>Ext B H2 H3/\∃f_ g',aci X.K B Hk ig p (i+1) f_ Io H3 g'/\Io.length=σ.length/\cz ib ik ir fk fe (ds.drop (i+1)) f_ g'=U g,λIo H3 z=>⟨_,by lia,rfl,j_,z⟩,λv H3 hy=>?_⟩;obtain⟨sy,rv⟩:=yl v H3 hy;rw[Zs j_]at e';simp only[cz]at e';split at e';rename_i k qk;split at e';rename_i e2 qe;split at e';rename_i h8;refine⟨B,Hk,_,k,(G.rel.to sy).set (i:=ib) (by lia) rv,qk,λvk H4 s4 rk=>?_⟩;refine vI (Dn:=Dn) ⟨by lia,by lia,by lia,by lia⟩ h1 h2 h3 h5 (by lia) G sy rv qk s4 rk qe h8 λIo H5 x5 G5=>⟨x.trans x5,_,_,G5,?_,e'⟩
 have r1:=G5.rel.len;have r2:=G.rel.len;simp only[Zi]at r1;lia;trivial;trivial;trivial;have JO:i=ds.length:=by lia
 subst JO;rw[WN]at e';simp only[cz]at e';cases e';obtain⟨kvs,ep,Je,gl,nd⟩:=G.dict;refine .inl ⟨HG,B,Hk,p,kvs,ep,g,R.bor,G.at',Je,gl,λH' x' k' ob=>?_⟩;have same:aae Hk H':=G.rel.same.keep k';exact TZ (.ref p) H' (((R.ext s1).trans (R1.ext s2)).trans (x.trans x')) same (by unfold oE;rw[ZO rfl];exact .inl ⟨p,rfl,Ow,ob⟩)
end
abbrev IsZ(h:Heap)(z P O:ZM)(f:Z3)(b:Bool):Prop:=
 h.get? z=U {cls:=.type "zip",dict:=M,data:=.fields #[f,.bool b,.bool Y,.ref P,.ref O],slots:=#[]}
structure Zq (t u:Bool)(h:Heap)(z P O c d p q:ZM)(n:Nat)(T:ZM)(b:Bool):Prop where
 zz:IsZ h z P O (rawInt T) b
 al:∃o,h.get? T=some o
 pp:IsPair h P (.ref c) (.ref d)
 oo:∃a b,IsPair h O a b
 cc:abf t h c p n
 dd:abf u h d q n
section
variable{A:Za}{E:Z3->ZR->Prop}{s:ZR}
def eM(h:Q (s.heap.get? a) s):wpAny Mq A (loadIfAlive a) Q E s:=λΓ p _=>by
 unfold loadIfAlive;rw[Sem.wp_loadIfAlive];exact(Sem.wp_pure ..).mpr h
def wc{bo:Bool}{z P O T:ZM}{oT:Obj}{Q:Bool->ZR->Prop}(zz:IsZ s.heap z P O (rawInt T) bo)(al:s.heap.get? T=U oT)(h:∀IP,IsZ IP z P O (rawInt T) L->Heap.SameBut z s.heap IP->Q Y {s with heap:=IP}):
  wpAny (model prog w) A (Builtin.SmallTypes.ownedTupleIsFree (.ref z)) Q E s:=by
 unfold Builtin.SmallTypes.ownedTupleIsFree;have UW:s.heap.get? (Int.toNat (T:Int))=U oT:=by rw[Int.toNat_natCast];exact al
 refine Z_ (XG zz rfl (x:=rawInt T) rfl ?_);unfold rawInt;dsimp only;refine Z_ (eM ?_);rw[UW];simp only[Option.isNone_some,ZZ,Zm];refine Z_ (XG zz rfl (x:=.bool bo) rfl ?_);cases bo with
 |true=>
  refine dy (by decide) ?_;exact Z6 (h _ zz ⟨rfl,λ_ _=>rfl⟩)
 |false=>
  refine eL (by decide) ?_;exact Z_ (X1 zz (by simp) λIP Mj v_=>Z6 (h IP Mj v_))
def rZ{t u bo:Bool}{z P O c d p q T:ZM}{n:Nat}{xs ys:Array Z3}{Q:Z3->ZR->Prop}(hh:A.handled=M)(ap:Ap z P O c d p q)(hT:T∉[z,P,O,c,d])(Z:Zq t u s.heap z P O c d p q n T bo)
  (hp:aat t s.heap p xs) (hq:aat u s.heap q ys)
  (item:∀x y,xs[n]?=U x->ys[n]?=U y->∀h',Zq t u h' z P O c d p q (n+1) T L->IsPair h' s.z x y->h'.objs.size=s.z+1->
   (∀b o,b∉[z,P,O,c,d]->s.heap.get? b=U o->h'.get? b=U o)->Q (.ref s.z) {s with heap:=h'})
  (stop:(xs[n]?=M\/ys[n]?=M)->∀h' e,(∀b o,b∉[z,P,O,c,d]->s.heap.get? b=U o->h'.get? b=U o)->(∃o,h'.get? e=U o/\o.cls=.type "StopIteration")->E (.ref e) {s with heap:=h'}):
  wpAny (model prog w) A (Builtin.«zip.__next__» ⟨[.ref z],[]⟩) (λr s'=>∃v,r=.done (.ret v)/\Q v s') E s:=by
 obtain⟨zz,⟨oT,al⟩,pp,⟨a,b,oo⟩,cc,dd⟩:=Z;have nd:=ap.nd;have np:=ap.p;have nq:=ap.q;simp only[YM,Z0,Zr,YB,Xl,Yr,and_true,W4]at nd np nq hT;obtain⟨⟨zP,zO,zc,zd⟩,⟨PO,Pc,Pd⟩,⟨Oc,Od⟩,cd⟩:=nd;obtain⟨pz,pP,pO,pc,pd⟩:=np;obtain⟨qz,qP,qO,qc,qd⟩:=nq;obtain⟨Tz,TP,TO,Tc,Td⟩:=hT;change wpAny _ _ (field (.ref z) 2 >>= _) _ E s;refine Z_ (XG zz rfl (x:=.bool Y) rfl ?_);change wpAny _ _ (field (.ref z) 3 >>= _) _ E s;refine Z_ (XG zz rfl (x:=.ref P) rfl (Z_ (Yu pp rfl ?_)));change wpAny _ _ (Builtin.SmallTypes.ownedTupleIsFree (.ref z) >>= _) _ E s;refine Z_ (wc zz al λIP Kk v_=>?_);simp only[ZZ,Zm];rw[<-Xp];simp only[Wy,List.forIn_nil];refine Z_ (Z_ (Z_ (Y6 ?_)));change wpAny _ _ (Builtin.SmallTypes.nextOf (.ref c) >>= _) _ _ _;refine Z_ (Dp (t:=t) hh (cc.to λo e=>ag v_ (ZA zc) e) (hp.to λo e=>ag v_ pz e) (λx hx JW Ll u_=>Z6 ?_) λhx JW e u_ he=>?_);dsimp only;refine Z6 ?_;dsimp only;refine Z_ (Z_ (Y6 ?_));change wpAny _ _ (Builtin.SmallTypes.nextOf (.ref d) >>= _) _ _ _;refine Z_ (Dp (t:=u) hh (dd.to λo e=>ag u_ (ZA cd) (ag v_ (ZA zd) e)) (hq.to λo e=>ag u_ qc (ag v_ qz e)) (λy hy D_ Ml Hu=>Z6 ?_) λhy D_ e Hu he=>?_);dsimp only;refine Z6 (Z6 ?_);dsimp only;refine Z_ (Wf (Z6 ⟨_,rfl,?_⟩) (by show 2<=sizeLine;rw[Yi];lia));have sz:D_.objs.size=s.z:=by rw[Hu.1,u_.1,v_.1]
 have old:∀f o,f≠z->f≠c->f≠d->s.heap.get? f=U o->D_.get? f=U o:=λf o n1 n3 n4 e=>ag Hu n4 (ag u_ n3 (ag v_ n1 e));have Ld:IsZ D_ z P O (rawInt T) L:=ag Hu zd (ag u_ zc Kk);have up:∀f o,D_.get? f=U o->(D_.push {cls:=.type "tuple",data:=.seq #[x,y]}).get? f=U o:=λf o e=>Z4 _ e;have new:IsPair (D_.push {cls:=.type "tuple",data:=.seq #[x,y]}) D_.objs.size x y:=ZN _ rfl;have MW:(D_.push {cls:=.type "tuple",data:=.seq #[x,y]}).objs.size=D_.objs.size+1:=YF ..;show Q (.ref D_.objs.size) _;rw[sz]at new MW⊢;refine item x y hx hy _ ⟨up _ _ Ld,⟨oT,up _ _ (old _ _ Tz Tc Td al)⟩,up _ _ (old _ _ (ZA zP) Pc Pd pp),⟨a,b,up _ _ (old _ _ (ZA zO) Oc Od oo)⟩,?_,?_⟩ new MW λf o hf e=>?_;exact Ll.to λo e=>up _ o (ag Hu cd e);exact Ml.to λo e=>up _ o e;simp only[Z0,Zr,YB,Xl]at hf;exact up f o (old f o hf.1 hf.2.2.2.1 hf.2.2.2.2 e);refine stop (.inr hy) D_ e (λf o hf g=>?_) he;simp only[Z0,Zr,YB,Xl]at hf;obtain⟨n1,_,n2,n3,n4⟩:=hf;exact Hu _ _ n4 (ag u_ n3 (ag v_ n1 g));refine stop (.inl hx) JW e (λf o hf g=>?_) he;simp only[Z0,Zr,YB,Xl]at hf;exact u_ _ _ hf.2.2.2.1 (ag v_ hf.1 g)
def ZS(t u:Bool)(h:Heap)(z P O c d p q:ZM)(n:Nat):Prop:=Zp t u h z P O c d p q n .none\/∃T b,T∉[z,P,O,c,d]/\Zq t u h z P O c d p q n T b
theorem ZS.to(Z:ZS t u h z P O c d p q n)(k:∀b o,b≠S->h.get? b=U o->h'.get? b=U o)(hS:S∉[z,P,O,c,d])(he:∃o,h'.get? S=U o):ZS t u h' z P O c d p q n:=by
 have ne:∀b∈[z,P,O,c,d],b≠S:=λb hb e=>hS (by rw[<-e];exact hb);rcases Z with⟨zz,pp,⟨a,b,oo⟩,cc,dd⟩|⟨T,bo,nT,⟨zz,⟨o,al⟩,pp,⟨a,b,oo⟩,cc,dd⟩⟩
 exact .inl ⟨k _ _ (ne z (by simp)) zz,k _ _ (ne P (by simp)) pp,⟨a,b,k _ _ (ne O (by simp)) oo⟩,cc.to λo e=>k _ o (ne c (by simp)) e,dd.to λo e=>k _ o (ne d (by simp)) e⟩;refine .inr ⟨T,bo,nT,k _ _ (ne z (by simp)) zz,?_,k _ _ (ne P (by simp)) pp,⟨a,b,k _ _ (ne O (by simp)) oo⟩,cc.to λo e=>k _ o (ne c (by simp)) e,dd.to λo e=>k _ o (ne d (by simp)) e⟩;by_cases e:T=S;rw[e];exact he;exact⟨o,k _ _ e al⟩
def jS(hh:A.handled=M)(ap:Ap z P O c d p q)(Z:ZS t u s.heap z P O c d p q n)(hp:aat t s.heap p xs)(hq:aat u s.heap q ys)(item:∀x y,xs[n]?=U x->ys[n]?=U y->∀h',ZS t u h' z P O c d p q (n+1)->IsPair h' s.z x y->h'.objs.size=s.z+1->
   (∀b o,b∉[z,P,O,c,d]->s.heap.get? b=U o->h'.get? b=U o)->Q (U (.ref s.z)) {s with heap:=h'}) (stop:(xs[n]?=M\/ys[n]?=M)->∀h',(∀b o,b∉[z,P,O,c,d]->s.heap.get? b=U o->h'.get? b=U o)->Q M {s with heap:=h'}):
  wpAny (model prog w) A (pyNext (.ref z)) Q E s:=by
 have Pg:∀b∈[z,P,O,c,d],b<s.z:=λb hb=>by
  rcases Z with⟨zz,pp,⟨a,b',oo⟩,cc,dd⟩|⟨T,bo,nT,⟨zz,⟨o,al⟩,pp,⟨a,b',oo⟩,cc,dd⟩⟩<;>
   (simp only[Z0,Zr,YB]at hb
    rcases hb with rfl|rfl|rfl|rfl|rfl;exact ZQ zz;exact ZQ pp;exact ZQ oo;obtain⟨o,e,_⟩:=cc.obj;exact ZQ e;obtain⟨o,e,_⟩:=dd.obj;exact ZQ e)
 rcases Z with Z|⟨T,bo,nT,Z⟩;refine iJ hh ap Z hp hq (λx y hx hy h' Z' new sz k=>item x y hx hy h' (.inr ⟨s.z,Y,λhm=>Zd _ (Pg _ hm),?_⟩) new sz k) stop;obtain⟨zz,pp,oo,cc,dd⟩:=Z';exact⟨zz,⟨_,new⟩,pp,oo,cc,dd⟩;have ty:s.TypeIs (.ref z) "zip":=⟨_,Z.zz,rfl⟩
 unfold pyNext;refine Z_ (XO (Yw (name:=Str.ofString "__next__") ty Wj (YW Wj ty F.entry_zip_next (rZ hh ap nT Z hp hq (λx y hx hy h' b1 b2 b3 b4=>Z6 (item x y hx hy h' (.inr ⟨T,L,nT,b1⟩) b2 b3 b4)) λhn h' e k he=>?_) (F.args_zip_next_1 _))));obtain⟨o,ho,hc⟩:=he;exact Z_ (X3 (T:="StopIteration") (b:=L) ⟨o,ho,hc⟩ WR (Z6 (stop hn h' k)))
def Made(h:Heap)(lo:ZM)(xs ys:Array Z3):Nat->Z9 Z3->Prop
 |_,[]=>True
 |i,v::r=>∃T x y,v=.ref T/\lo<=T/\xs[i]?=U x/\ys[i]?=U y/\IsPair h T x y/\(∀v'∈r,v'≠v)/\Made h lo xs ys (i+1) r
theorem Made.to{h h':Heap}{lo:ZM}{xs ys:Array Z3}:∀{i:Nat}{l:Z9 Z3},Made h lo xs ys i l->(∀T,.ref T∈l->∀o,h.get? T=U o->h'.get? T=U o)->Made h' lo xs ys i l
 |_,[],_,_=>trivial
 |i,v::r,hz,k=>by obtain⟨T,x,y,h1,h2,h3,h4,h5,h6,h7⟩:=hz;exact⟨T,x,y,h1,h2,h3,h4,k T (by rw[h1];simp) _ h5,h6,h7.to λT' hT=>k T' (Z1 _ hT)⟩
theorem Made.snoc{h:Heap}{lo T:ZM}{xs ys:Array Z3}{x y:Z3}:∀{i:Nat}{l:Z9 Z3},Made h lo xs ys i l->lo<=T->xs[i+l.length]?=U x->ys[i+l.length]?=U y->IsPair h T x y->(∀v∈l,v≠.ref T)->Made h lo xs ys i (l++[.ref T])
 |i,[],_,a1,a2,a3,a4,_=>⟨T,x,y,rfl,a1,a2,a3,a4,λv hv=>(by trivial),trivial⟩
 |i,v::r,hz,a1,a2,a3,a4,a5=>by
  obtain⟨T',x',y',h1,h2,h3,h4,h5,h6,h7⟩:=hz;refine⟨T',x',y',h1,h2,h3,h4,h5,λv' Iz=>?_,h7.snoc a1 (by rw[bO]at a2;rw[show i+1+r.length=i+(r.length+1) by lia];exact a2) (by rw[bO]at a3;rw[show i+1+r.length=i+(r.length+1) by lia];exact a3) a4 λv' Iz=>a5 v' (Z1 _ Iz)⟩;rcases Zt.mp Iz with Iz|Iz;exact h6 v' Iz;rw[ZC.mp Iz];exact ZA (a5 v (ZX ..))
theorem Made.lt{h:Heap}{lo:ZM}{xs ys:Array Z3}:∀{i:Nat}{l:Z9 Z3},Made h lo xs ys i l->∀v∈l,∃T,v=.ref T/\T<h.objs.size/\lo<=T
 |_,[],_,v,hv=>by trivial
 |i,v::r,hz,v',hv=>by
  obtain⟨T,x,y,h1,h2,h3,h4,h5,h6,h7⟩:=hz;rcases Z0.mp hv with rfl|hv;exact⟨T,h1,ZQ h5,h2⟩;exact h7.lt v' hv
def lX{R:Result->ZR->Prop}{t u:Bool}{z P O c d p q S lo:ZM}{xs ys:Array Z3}{res:Z3}{n:Nat}(hh:A.handled=M)(ap:Ap z P O c d p q)(hS:S∉[z,P,O,c,d])(pS:p≠S)(qS:q≠S)(NJ:n=min xs.size ys.size)(hn:n<=sizeLine)(bl:∀b∈[z,P,O,c,d],lo<=b)(bS:lo<=S):
  ∀(k i:Nat)(s:ZR)(acc:Array Z3)(e:Nat),n - i=k->i<=n->ZS t u s.heap z P O c d p q i->aat t s.heap p xs->aat u s.heap q ys->s.heap.get? S=U {cls:=.type "list",dict:=M,data:=.seq acc e,slots:=#[]}->acc.size=i->Made s.heap lo xs ys 0 acc.toList->lo<=s.z->(∀T,.ref T∈acc.toList->T∉S::[z,P,O,c,d])->
  (∀s' l_ e',(∀b o,b∉S::[z,P,O,c,d]->s.heap.get? b=U o->s'.heap.get? b=U o)->s'.heap.get? S=U {cls:=.type "list",dict:=M,data:=.seq l_ e',slots:=#[]}->l_.size=n->Made s'.heap lo xs ys 0 l_.toList->(∃h' tk,s'={s with heap:=h',toks:=tk})->R (.ok (.ret res)) s')->
  codeAny (model prog w) A (.builtin "list.extend.loop" ⟨[.ref S,.ref z,res],[]⟩) R s:=by
 intro k
 induction k with
 |zero=>
  intro i s acc e hk hi Z hp hq hL ha hm Jx hT hR;have Ja:i=n:=by lia
  subst Ja;refine YQ F.entry_extend_loop ?_;rw[Y9 XI _];show wpAny _ A.in1 (pyNext (.ref z) >>= _) _ _ s;refine Z_ (jS (show A.in1.handled=M from hh) ap Z hp hq (λx y hx hy=>?_) λ_ h' kp=>?_);exfalso;have a1:=(YS.mp hx).1;have a2:=(YS.mp hy).1;lia;refine Z6 (hR _ acc e (λb o hb g=>kp b o (λz=>hb (Z1 _ z)) g) (kp S _ hS hL) ha (hm.to λT ID o g=>kp T o (λz=>hT T ID (Z1 _ z)) g) ⟨h',s.toks,rfl⟩)
 |succ k ih=>
  intro i s acc e hk hi Z hp hq hL ha hm Jx hT hR;have j_:i<n:=by lia
  refine YQ F.entry_extend_loop ?_;rw[Y9 XI _];show wpAny _ A.in1 (pyNext (.ref z) >>= _) _ _ s;refine Z_ (jS (show A.in1.handled=M from hh) ap Z hp hq (λx y hx hy h' Z' new sz kp=>?_) λK8 h' kp=>?_)
  .have Sn:=kp S _ hS hL
   have QZ:∀b∈S::[z,P,O,c,d],b≠s.z:=λb hb e'=>by
    rcases Z0.mp hb with rfl|hb;exact absurd (ZQ hL) (by rw[e'];exact Zd _)
    .have:b<s.z:=by
      rcases Z with⟨zz,pp,⟨a,b',oo⟩,cc,dd⟩|⟨T,bo,nT,⟨zz,⟨o,al⟩,pp,⟨a,b',oo⟩,cc,dd⟩⟩<;>
       (simp only[Z0,Zr,YB]at hb
        rcases hb with rfl|rfl|rfl|rfl|rfl;exact ZQ zz;exact ZQ pp;exact ZQ oo;obtain⟨o,e,_⟩:=cc.obj;exact ZQ e;obtain⟨o,e,_⟩:=dd.obj;exact ZQ e)
     rw[e']at this;exact Zd _ this
   show wpAny _ A.in1 (updateSeq S (·.push (.ref s.z)) >>= _) _ _ _;refine Z_ (X_ Sn rfl (Z6 ⟨Yp XI _,?_⟩) (by rw[ha];lia) (by show(acc.push _).size<=sizeLine+1;rw[Array.size_push,ha];lia));have sb:=Ze h' S (Obj.mapSeq (·.push (.ref s.z)));have Iy:∀b o,b≠S->h'.get? b=U o->(h'.update S (Obj.mapSeq (·.push (.ref s.z)))).get? b=U o:=λb o hb g=>(sb.2 b hb).trans g;have gS:=Zk (Obj.mapSeq (·.push (Value.ref s.z))) Sn rfl;refine ih (i+1) _ (acc.push (.ref s.z)) _ (by lia) j_ (Z'.to Iy hS ⟨_,gS⟩) (hp.to λo g=>Iy _ o pS (kp _ o ap.p g)) (hq.to λo g=>Iy _ o qS (kp _ o ap.q g)) gS (by rw[Array.size_push,ha]) ?_ ?_ ?_ λs' l_ e' k1 k2 k3 k4 k5=>?_;rw[YE];refine(hm.to λT ID o g=>Iy _ o (λz=>hT T ID (by rw[z];exact ZX ..)) (kp T o (λz=>hT T ID (Z1 _ z)) g)).snoc Jx ?_ ?_ (Iy _ _ (ZA (QZ S (ZX ..))) new) λv hv z=>?_;rw[Array.length_toList,ha,Yd];exact hx;rw[Array.length_toList,ha,Yd];exact hy;obtain⟨T,rfl,lt,_⟩:=hm.lt v hv;cases z;exact Zd _ lt;show lo<=(Heap.update h' S _).objs.size;rw[sb.1,sz];exact Zn Jx (W0 _);intro T ID;rw[YE]at ID;rcases Zt.mp ID with ID|ID
   exact hT T ID;have:T=s.z:=by simpa using ID
   intro KU;exact QZ T KU this;refine hR s' l_ e' (λb o hb g=>k1 b o hb (Iy b o (λz=>hb (by rw[z];exact ZX ..)) (kp b o (λz=>hb (Z1 _ z)) g))) k2 k3 k4 ?_;obtain⟨h2,tk,e2⟩:=k5;exact⟨h2,tk,e2⟩
  exfalso;rcases K8 with K8|K8;rw[Array.getElem?_eq_none_iff]at K8;lia;rw[Array.getElem?_eq_none_iff]at K8;lia
def kI:typeLookup (.type "zip") "__len__"=pure M:=by rw[W8,XA];kernel_rfl
def ju:typeLookup (.type "zip") "__length_hint__"=pure M:=by rw[W8,XA];kernel_rfl
def pE{R:Result->ZR->Prop}(hh:A.handled=M){t u:Bool}{z P O c d p q S lo:ZM}{xs ys:Array Z3}{Mm:Nat}(ap:Ap z P O c d p q)(hS:S∉[z,P,O,c,d])(pS:p≠S)(qS:q≠S)(hn:min xs.size ys.size<=sizeLine)(bl:∀b∈[z,P,O,c,d],lo<=b)(bS:lo<=S)(res:Z3)
  (Z:Zp t u s.heap z P O c d p q 0 .none) (hp:aat t s.heap p xs) (hq:aat u s.heap q ys) (Jx:lo<=s.z)
  (hL:s.heap.get? S=U {cls:=.type "list",data:=.seq #[] Mm})
  (hR:∀s' l_ e',(∀b o,b∉S::[z,P,O,c,d]->s.heap.get? b=U o->s'.heap.get? b=U o)->s'.heap.get? S=U {cls:=.type "list",dict:=M,data:=.seq l_ e',slots:=#[]}->l_.size=min xs.size ys.size->Made s'.heap lo xs ys 0 l_.toList->(∃h' tk,s'={s with heap:=h',toks:=tk})->R (.ok (.ret res)) s'):
  wpAny (model prog w) A.in1 (Builtin.List.listExtendWith (.ref S) (.ref z) res)
   (λfin s'=>match fin with|.done f=>R (.ok f) s'|.again c'=>c'.quiet=L/\codeAny (model prog w) A c' R s') (λe s'=>R (.error e) s') s:=by
 have ty:s.TypeIs (.ref z) "zip":=⟨_,Z.zz,rfl⟩;have TR:S≠z:=λe=>hS (by rw[e];simp);unfold Builtin.List.listExtendWith;refine Z_ (Xv ty ?_);simp only[show Builtin.List.listSameRef (.ref S) (.ref z)=Y by simp[Builtin.List.listSameRef,TR],show(Value.type "zip"==Value.type "list")=Y by decide,show(Value.type "zip"==Value.type "tuple")=Y by decide,Bool.or_false,ZZ,Zm];refine Z_ (wpAny_pyIter_zip Z.zz (Z_ (Y6 ?_)));unfold Builtin.List.listLengthHint;refine Z_ (X9 ty kI ?_);dsimp only;change wpAny _ _ (specialOf (.ref z) "__length_hint__" >>= _) _ _ _;refine Z_ (X9 ty ju (Z6 ?_));refine eL (by simp) ?_;refine Z_ (YD (Z_ ?_));change wpAny _ A.in1 (updateSeq S (·.push .none) >>= λ_=>updateSeq S (·.pop)) _ _ _;have La:=Zk (Obj.mapSeq (·.push Value.none)) hL rfl;refine Z_ (X_ hL rfl (X_ (hz:=by seq_fits) La rfl ?_));have LZ:=Zk (Obj.mapSeq (·.pop)) La rfl;have Iy:∀b o,b≠S->s.heap.get? b=U o->((s.heap.update S (Obj.mapSeq (·.push Value.none))).update S (Obj.mapSeq (·.pop))).get? b=U o:=
  λb o hb e=>(Zo _ _ (ZA hb)).trans ((Zo _ _ (ZA hb)).trans e)
 refine Z6 ⟨Yp XI _,lX hh ap hS pS qS rfl hn bl bS _ 0 _ _ _ rfl (Zu _) ((show ZS t u s.heap z P O c d p q 0 from .inl Z).to Iy hS ⟨_,LZ⟩) (hp.to λo e=>Iy _ o pS e) (hq.to λo e=>Iy _ o qS e) LZ (by simp) (by simp[Made]) ?_ (by simp) λs' l_ e' k1 k2 k3 k4 k5=>?_⟩;show lo<=(Heap.update (Heap.update s.heap S _) S _).objs.size;rw[Xr,Xr];exact Jx;obtain⟨h',tk,e2⟩:=k5;exact hR s' l_ e' (λb o hb e=>k1 b o hb (Iy b o (λz=>hb (by rw[z];exact ZX ..)) e)) k2 k3 k4 ⟨h',tk,e2⟩
def iX{Q:Z3->ZR->Prop}(hh:A.handled=M){t u:Bool}{z P O c d p q:ZM}{xs ys:Array Z3}(ap:Ap z P O c d p q)(hn:min xs.size ys.size<=sizeLine){lo:ZM}(bl:∀b∈[z,P,O,c,d],lo<=b)(Jx:lo<=s.z)
  (Z:Zp t u s.heap z P O c d p q 0 .none) (hp:aat t s.heap p xs) (hq:aat u s.heap q ys)
  (hQ:∀h' tk l_ e',(∀b o,b∉[z,P,O,c,d]->s.heap.get? b=U o->h'.get? b=U o)->h'.get? s.z=U {cls:=.type "list",dict:=M,data:=.seq l_ e',slots:=#[]}->l_.size=min xs.size ys.size->Made h' lo xs ys 0 l_.toList->Q (.ref s.z) {s with heap:=h',toks:=tk}):
  wpAny (model prog w) A (call (.type "list") [.ref z]) Q E s:=by
 refine callType_codes (Q₁:=λobj g_=>obj=.ref s.z/\g_={s with heap:=s.heap.push {cls:=.type "list",data:=.seq #[]}}) F.called_list (F.typeCall_list_1 _) F.entry_list_init (code_list_new _ ⟨rfl,rfl⟩) λobj g_ HI=>?_;obtain⟨rfl,rfl⟩:=HI;have hS:(s.heap.push {cls:=.type "list",data:=.seq #[]}).get? s.z=U {cls:=.type "list",data:=.seq #[]}:=ZN _ rfl;refine⟨⟨_,hS,rfl⟩,F.args_list_init_2 _ _,?_⟩;change wpAny _ _ (do let old <-Builtin.List.listItems (.ref s.z);Builtin.List.listUpdate (.ref s.z) (λ_=>#[]);letGo old.toList.reverse;Builtin.List.listExtendWith (.ref s.z) (.ref z) .none) _ _ _;refine Z_ ?_;unfold Builtin.List.listItems;refine Z_ (Yu hS rfl (Z6 ?_));change wpAny _ _ (updateSeq s.z (λ_=>#[]) >>= λ_=>letGo (#[]:Array Z3).toList.reverse >>= λ_=>Builtin.List.listExtendWith (.ref s.z) (.ref z) .none) _ _ _;have La:=Zk (Obj.mapSeq (λ_=>(#[]:Array Z3))) hS rfl;have up:∀b ob,s.heap.get? b=U ob->((s.heap.push {cls:=.type "list",data:=.seq #[]}).update s.z (Obj.mapSeq (λ_=>(#[]:Array Z3)))).get? b=U ob:=λb ob e=>(Zo _ _ (ZA (Zv (ZQ e)))).trans (Z4 _ e);have Pg:∀b∈[z,P,O,c,d],b<s.z:=λb hb=>by
  obtain⟨zz,pp,⟨a,b',oo⟩,cc,dd⟩:=Z;simp only[Z0,Zr,YB]at hb;rcases hb with rfl|rfl|rfl|rfl|rfl;exact ZQ zz;exact ZQ pp;exact ZQ oo;obtain⟨o,e,_⟩:=cc.obj;exact ZQ e;obtain⟨o,e,_⟩:=dd.obj;exact ZQ e
 have lp:p<s.z:=by cases t<;>(obtain⟨o,e,_⟩:=hp;exact ZQ e)
 have lq:q<s.z:=by cases u<;>(obtain⟨o,e,_⟩:=hq;exact ZQ e)
 refine Z_ (X_ hS rfl (Z_ (We ?_)));obtain⟨zz,pp,⟨a,b',oo⟩,cc,dd⟩:=Z;refine pE (A:=A.in1) hh ap (λhm=>Zd _ (Pg _ hm)) (Zv lp) (Zv lq) hn bl Jx .none ⟨up _ _ zz,up _ _ pp,⟨a,b',up _ _ oo⟩,cc.to λo e=>up _ o e,dd.to λo e=>up _ o e⟩ (hp.to λo e=>up _ o e) (hq.to λo e=>up _ o e) ?_ La λs' l_ e' k1 k2 k3 k4 k5=>?_;show lo<=(Heap.update (Heap.push s.heap _) _ _).objs.size;rw[Xr,YF];exact Zn Jx (W0 _);obtain⟨h',tk,rfl⟩:=k5;exact⟨rfl,hQ h' tk l_ e' (λb ob hb e=>k1 b ob (λhm=>(Z0.mp hm).elim (λz=>Zv (ZQ e) z) hb) (up b ob e)) k2 k3 k4⟩
end
def abk(H:Hp):Z9 V->Z9 V->Z9 V->Prop
 |x::xs,y::ys,vs=>∃T r,vs=.ref T::r/\H T=U (.tup [x,y])/\abk H xs ys r
 |_,_,vs=>vs=[]
section
variable{X:Cx}{pins:Z9 (ZM×Obj)}{σ:St}{s:ZR}
theorem il{lo:ZM}{is js:Z9 Z3}(Jx:X.n_.z<=lo):∀(l:Z9 Z3)(i:Nat)(H:Hp)(xs ys:Z9 V),Inv X pins σ H s->Made s.heap lo is.toArray js.toArray i l->(∀T,.ref T∈l->eU X pins H T)->aab xs (is.drop i)->aab ys (js.drop i)->l.length=min xs.length ys.length->
  ∃H' vs,Inv X pins σ H' s/\aae H H'/\(∀c,.ref c∉l->H' c=H c)/\abk H' xs ys vs/\aab vs l
 |[],i,H,xs,ys,I,m,f,vx,vy,hl=>by
  refine⟨H,[],I,aae.refl H,λ_ _=>rfl,?_,.nil⟩;cases xs with
  |nil=>exact rfl
  |cons x xs=>cases ys with
   |nil=>exact rfl
   |cons y ys=>simp at hl
 |v::r,i,H,xs,ys,I,hz,f,vx,vy,hl=>by
  obtain⟨T,x,y,e1,e2,e3,e4,e5,e6,e7⟩:=hz;subst e1;cases xs with
  |nil=>simp at hl
  |cons x' xs=>cases ys with
   |nil=>simp at hl
   |cons y' ys=>
    have hi:i<is.length:=by simpa using(YS.mp e3).1
    have hj:i<js.length:=by simpa using(YS.mp e4).1
    rw[Zs hi]at vx;rw[Zs hj]at vy;cases vx with
    |cons a1 a2=>cases vy with
     |cons b1 b2=>
      have ex:is[i]=x:=by simpa[hi]using e3
      have ey:js[i]=y:=by simpa[hj]using e4
      rw[ex]at a1;rw[ey]at b1;have fT:=f T (ZX ..);have I1:=I.abZ (o:=.tup [x',y']) fT (Zn Jx e2) ⟨by show 2<=sizeLine;rw[Yi];lia,[x,y],.cons a1 (.cons b1 .nil),⟨_,e5,rfl,_,rfl⟩⟩;have ne:∀T',Value.ref T'∈r->T'≠T:=λT' ID z=>e6 _ ID (by rw[z]);obtain⟨H',vs,i1,i2,i3,i4,i5⟩:=il Jx r (i+1) (upd H T (.tup [x',y'])) xs ys I1 e7 (λT' ID=>⟨by rw[ai (ne T' ID)];exact(f T' (Z1 _ ID)).1,(f T' (Z1 _ ID)).2⟩) a2 b2 (by simp at hl;lia);have sT:=au (o:=.tup [x',y']) fT.1;refine⟨H',.ref T::vs,i1,sT.trans i2,λc hc=>?_,⟨T,vs,rfl,i2 T _ ah,i4⟩,.cons rfl i5⟩;rw[i3 c (λz=>hc (Z1 _ z)),ai (λz=>hc (by rw[z];exact ZX ..))]
variable{t u:Bool}{ta:TA}{p:Pos}
noncomputable def tLZ(t u:Bool)(K:Z5)(ta:TA):TE:=λσ H Q=>ta σ H λvs H1=>∃p q xs ys,vs=[.ref p,.ref q]/\SqV t K H1 p xs/\SqV u K H1 q ys/\min xs.length ys.length<=sizeLine/\∀S H2,aae H1 H2->H1 S=M->(∃vs,H2 S=U (.lst vs)/\abk H2 xs ys vs)->Q (.ref S) H2
theorem abk.to(s:∀T xs,H T=U (.tup xs)->H' T=U (.tup xs)):∀{xs ys vs:Z9 V},abk H xs ys vs->abk H' xs ys vs
 |[],ys,vs,h=>by cases ys<;>exact h
 |x::xs,[],vs,h=>h
 |x::xs,y::ys,vs,hz=>by obtain⟨T,r,h1,h2,h3⟩:=hz;exact⟨T,r,h1,s _ _ h2,h3.to s⟩
def qq(hc:X.calm=L)(gl:Gl X "list")(hl:X.mg "list"=M)(gz:Gl X "zip")(hz:X.mg "zip"=M)(ha:PA X [a,b] ta)(hs:starEach [a,b] X.env=[(Y,eval a X.env),(Y,eval b X.env)]:=by rfl)(Iq:starEach [b] X.env=[(Y,eval b X.env)]:=by rfl)
  (M_:starEach [.Call (.Name "zip" p2) [a,b] [] HA] X.env=[(Y,eval (.Call (.Name "zip" p2) [a,b] [] HA) X.env)]:=by rfl):
  PE X (.Call (.Name "list" p) [.Call (.Name "zip" p2) [a,b] [] HA] [] pos) (tLZ t u X.K ta):=by
 intro pins s σ H Q I h;refine XE (eQ I gl hl nJ (Yn ?_ M_ (by rfl)) (by decide) (by decide));rw[M_];show wpAny _ _ (spliced ((Y,eval (.Call (.Name "zip" p2) [a,b] [] HA) X.env)::backTo pos (starEach [] X.env))) _ _ s;refine Calls.spliced_cons (XE (eQ I gz hz boot_zip (Yn (thn (ha HA pins s σ H _ I h) λus s1 ⟨vs,H1,I1,r1,q1⟩=>?_) (by rw[hs,Iq]) (by rw[Iq];rfl)) (by decide) (by decide)));obtain⟨l1,l2,xs,ys,e,h1,h2,hm,q⟩:=q1;subst e;cases r1 with
 |cons r rr=>
  cases rr with
  |cons r' rr=>
   cases rr;cases r;cases r';obtain⟨is,ri,sp⟩:=I1.abB h1;obtain⟨js,rj,sq⟩:=I1.abB h2;refine nQ sp sq λz P O c d h' ap Z hi k=>Calls.spliced_nil ?_;have up1:aat t h' l1 is.toArray:=sp.to λo e=>k _ o e;have S6:aat u h' l2 js.toArray:=sq.to λo e=>k _ o e;have hsz:s1.z<=h'.objs.size:=Zn (hi z (by simp)) (WJ (ZQ Z.zz));refine iX (s:={s1 with heap:=h'}) (I1.ok.hd hc) ap (by rw[ZT,ZT,<-ri.length,<-rj.length];exact hm) (lo:=s1.z) hi hsz Z up1 S6 λh2 tk acc e' k1 k2 k3 k4=>?_;have kk:∀b o,s1.heap.get? b=U o->h2.get? b=U o:=λb o e=>k1 b o (λhm=>absurd (ZD (ZQ e) (hi b hm)) (Zd _)) (k b o e);have I2:Inv X pins σ H1 {s1 with heap:=h2,toks:=tk}:=I1.kept kk;have nw:∀T,s1.z<=T->eU X pins H1 T:=λT hT=>I1.abj hT (I1.hok.fresh hT);obtain⟨H3,vs,i1,i2,i3,i4,i5⟩:=il (lo:=s1.z) (is:=is) (js:=js) (X:=X) I1.sz acc.toList 0 H1 xs ys I2 k4 (λT hT=>by
    obtain⟨T',e,_,lo⟩:=k4.lt _ hT;cases e;exact nw T lo) (by simpa using ri) (by simpa using rj) (by rw[Array.length_toList,k3,ZT,ZT,<-ri.length,<-rj.length])
   have fS:=nw h'.objs.size hsz;have nS:Value.ref h'.objs.size∉acc.toList:=λhm=>by
    have key:∀(l:Z9 Z3)(i:Nat),Made h2 s1.z is.toArray js.toArray i l->∀T,.ref T∈l->∃x y,IsPair h2 T x y:=by
     intro l
     induction l with
     |nil=>intro i _ T hT;trivial
     |cons v l ih=>
      rintro i ⟨T',x,y,e1,e2,e3,e4,e5,e6,e7⟩ T hT
      rcases Z0.mp hT with e|hT;rw[e1]at e;cases e;exact⟨x,y,e5⟩;exact ih _ e7 T hT
    obtain⟨x,y,g⟩:=key _ _ k4 _ hm;have g':=Eq.trans (Eq.symm (show h2.get? h'.objs.size=_ from k2)) g;have g2:=congrArg (λo:Z7 Obj=>o.map (·.cls)) g';simp at g2
   have LZ:H3 h'.objs.size=M:=by rw[i3 _ nS];exact fS.1
   have lv:=i5.length;have I4:=i1.abZ (a:=h'.objs.size) (o:=.lst vs) ⟨LZ,fS.2⟩ (Zn I1.sz hsz) ⟨by rw[lv,Array.length_toList,k3,ZT,ZT,<-ri.length,<-rj.length];exact hm,acc.toList,e',i5,by simpa using k2⟩;have s4:=au (o:=.lst vs) LZ;exact⟨.ref h'.objs.size,_,I4,rfl,q _ _ (i2.trans s4) fS.1 ⟨vs,ah,i4.to λT xs e=>s4 T _ e⟩⟩
end
section
variable{X:Cx}{t u:Bool}
def sS(t u:Bool)(x y:Z7 D):Z7 D:=match CZ t u x y with|some ds=>if ds.length<=lim then U (.lst ds) else M|none=>M
theorem abk.acC{K:Z5}{B:ZM->Prop}{H:Hp}:∀{ds es:Z9 D}{xs ys vs:Z9 V},M1 K B H ds xs->M1 K B H es ys->abk H xs ys vs->M1 K B H (cy ds es) vs
 |[],es,xs,ys,vs,r1,r2,h=>by
  simp only[M1]at r1;subst r1;cases ys<;>(rw[show vs=[] from h];exact M1.nil)
 |d::ds,[],xs,ys,vs,r1,r2,h=>by
  simp only[M1]at r1 r2;obtain⟨x,r,rfl,_⟩:=r1;subst r2;rw[show vs=[] from h];exact M1.nil
 |d::ds,e::es,xs,ys,vs,r1,r2,h=>by
  simp only[M1]at r1 r2;obtain⟨x,r,rfl,q1,q2⟩:=r1;obtain⟨y,r',rfl,q3,q4⟩:=r2;obtain⟨T,w,rfl,hT,z⟩:=h;exact M1.cons (by simp only[Rep];exact⟨T,[x,y],rfl,hT,M1.cons q1 (M1.cons q3 M1.nil)⟩) (abk.acC q2 q4 z)
theorem pJ(t u:Bool)(hc:X.calm=L)(gl:Gl X "list")(hl:X.mg "list"=M)(gz:Gl X "zip")(hz:X.mg "zip"=M)(h:DE X Y a fa)(h':DE X Y b fb)(hs:starEach [a,b] X.env=[(Y,eval a X.env),(Y,eval b X.env)]:=by rfl)(Iq:starEach [b] X.env=[(Y,eval b X.env)]:=by rfl)(M_:starEach [.Call (.Name "zip" p2) [a,b] [] HA] X.env=[(Y,eval (.Call (.Name "zip" p2) [a,b] [] HA) X.env)]:=by rfl):
  DF X (.Call (.Name "list" p) [.Call (.Name "zip" p2) [a,b] [] HA] [] pos) (λδ=>sS t u (fa δ) (fb δ)):=
 (qq (t:=t) (u:=u) hc gl hl gz hz (ay h (ay h' aN Iq) (by rw[hs,Iq])) hs Iq M_).imp λσ H Q hz=>by
  obtain⟨B,Hk,δ,d,R,e,k⟩:=hz;dsimp only at e;unfold sS at e;split at e
  .rename_i ds e0
   split at e
   .rename_i E_
    obtain rfl:=Z8 e;obtain⟨as,q1,e⟩:=ak e0;obtain⟨bs,q2,e⟩:=ak e;obtain rfl:=Z8 e;obtain⟨d1,e1⟩:∃d,fa δ=U d:=by
     cases q:fa δ with
     |none=>rw[q]at q1;cases t<;>trivial
     |some d=>exact⟨d,rfl⟩
    obtain⟨d2,e2⟩:∃d,fb δ=U d:=by
     cases q:fb δ with
     |none=>rw[q]at q2;cases u<;>trivial
     |some d=>exact⟨d,rfl⟩
    refine two R e1 e2 λv w H' s R' r1 r2=>?_;obtain⟨l1,xs,rfl,N_,N7⟩:=fw q1 e1 r1;obtain⟨l2,ys,rfl,Ke,N6⟩:=fw q2 e2 r2;refine⟨l1,l2,xs,ys,rfl,N7 _ Ext.refl,N6 _ Ext.refl,?_,λS H2 s2 hS ⟨vs,T_,zv⟩=>?_⟩;rw[gj,N_.length,Ke.length]at E_;exact aG E_;exact k S H2 (s.trans s2) (s.free hS) ⟨vs,T_,abk.acC (N_.same (m:=Y) R' s2) (Ke.same (m:=Y) R' s2) zv⟩
   trivial
  trivial
end
def lB:Expr->Z7 D
 |.Constant (.int i) _ _=>U (.int i)
 |.Constant (.str x) _ _=>U (.str x)
 |.Constant .none _ _=>U .non
 |_=>M
section
def wE(h:lB e=U d):DE X m e (λ_=>U d):=by
 unfold lB at h;split at h;obtain rfl:=Z8 h;exact jK;obtain rfl:=Z8 h;exact xQ;obtain rfl:=Z8 h;exact uw;trivial
def pK(h:lB e=U d):starEach (e::es) env=(Y,eval e env)::starEach es env:=by
 unfold lB at h;split at h;rfl;rfl;rfl;trivial
theorem jY:∀{es:Z9 Expr}{ds:Z9 D},es.map lB=ds.map U->DA X m es (λ_=>U ds)
 |[],[],_=>gw
 |[],_::_,h=>by simp at h
 |_::_,[],h=>by simp at h
 |e::es,d::ds,h=>by
  rw[Z2,Z2,Yg]at h;exact cu (wE h.1) (jY h.2) (pK h.1)
end
def leT(a b:Str):Bool:=!decide (b.cps.toList<a.cps.toList)
def kz(a b c:Str)(h1:leT a b=L)(h2:leT b c=L):leT a c=L:=by
 unfold leT at*;simp only[Ys,Xo]at*;exact List.le_trans h1 h2
def jX(a b:Str):(leT a b||leT b a)=L:=by
 unfold leT;by_cases h:b.cps.toList<a.cps.toList;have:¬a.cps.toList<b.cps.toList:=λh'=>absurd (List.lt_trans h h') (List.lt_irrefl _);simp[this];simp[h]
def xq(a b:Str)(h1:leT a b=L)(h2:leT b a=L):a=b:=by
 unfold leT at*;simp only[Ys,Xo]at*;exact Str.ext' (Array.toList_inj.mp (List.le_antisymm h1 h2))
def wd(ss:Z9 Str):Z9 Str:=ss.mergeSort leT
def bF(ss:Z9 Str):(wd ss).Perm ss:=List.mergeSort_perm ss leT
section
end
end L2
namespace L2
open PySem PySem.StrLaws
variable[Lams]
def sU(ss:Z9 Str):Z9 D:=(wd (uS ss)).map D.str
def A9:x∈sU ss↔x∈ss.map D.str:=by
 unfold sU;rw[((bF (uS ss)).map D.str).mem_iff];simp[gK]
def bJ(x y:Str):eqO (U (.str x)) (U (.str y))=U (decide (x=y)):=by
 rw[pD _ _ rfl];congr 1;simp
end L2
namespace L2
open PySem
variable[Lams]
def neX(x:Z7 (D×Mk))(fb:Mk->Z7 D):Z7 (Bool×Mk):=ae x λp=>match neO (U p.1) (fb p.2)with|some c=>U (c,p.2)|none=>M
section
variable{X:Cx}{m mm:Bool}{a b c:Expr}{ar:Z9 Expr}{fa fb:Mk->Z7 D}{fc:Mk->Z7 Bool}{pos:Pos}
theorem zG(hu:X.A.units+64<cLine)(ha:DX X a ga)(hb:DE X Y b fb)(hm:behindInMarks .NotEq b=Y:=by rfl):DTX X (.Compare a [.NotEq] [b] pos) (λδ=>neX (ga δ) fb):=C8 hu ha hb hm
end
end L2
namespace L2.G
open PySem
def Ris(xs:Z9 Nat):Prop:=xs.Pairwise (· < ·)
def Ris.at(h:Ris xs)(Kb:i<j)(hj:j<xs.length):xs[i]'(Nat.lt_trans Kb hj)<xs[j]:=(Xx.mp h) i j (Nat.lt_trans Kb hj) hj Kb
theorem iH(h:Ris xs.toList)(j:Nat):∀(fuel lo hi:Nat),hi - lo<=fuel->lo<=hi->hi<=xs.size->(∀i (k_:i<xs.size),i<lo->xs[i]<j)->(∀i (k_:i<xs.size),hi<=i->j<=xs[i])->
  (∀i (k_:i<xs.size),i<SetTable.below.go xs j fuel lo hi->xs[i]<j)/\(∀i (k_:i<xs.size),SetTable.below.go xs j fuel lo hi<=i->j<=xs[i])/\SetTable.below.go xs j fuel lo hi<=xs.size
 |0,lo,hi,h1,h2,h3,h4,h5=>by
  have:lo=hi:=by lia
  subst this;exact⟨λi k_ q=>h4 i k_ q,λi k_ q=>h5 i k_ q,h3⟩
 |fuel+1,lo,hi,h1,h2,h3,h4,h5=>by
  unfold SetTable.below.go;by_cases hl:lo<hi;rw[ZO hl];have J_:(lo+hi) / 2<hi:=by lia
  have Nc:lo<=(lo+hi) / 2:=by lia
  have hm:(lo+hi) / 2<xs.size:=by lia
  have hg:xs.getD ((lo+hi) / 2) j=xs[(lo+hi) / 2]:=by simp[Array.getD,hm]
  dsimp only;rw[hg];have mono:∀a b (ha:a<xs.size) (hb:b<xs.size),a<=b->xs[a]<=xs[b]:=λa b ha hb HH=>by
   rcases Nat.lt_or_eq_of_le HH with q|q;have:=Ris.at h q (by simpa using hb);simp only[Array.getElem_toList]at this;lia;subst q;exact ZU _
  by_cases hq:xs[(lo+hi) / 2]<j;rw[ZO hq];refine iH h j fuel ((lo+hi) / 2+1) hi (by lia) (by lia) h3 (λi k_ q=>?_) h5;exact Nat.lt_of_le_of_lt (mono i ((lo+hi) / 2) k_ hm (by lia)) hq;rw[ZJ hq];refine iH h j fuel lo ((lo+hi) / 2) (by lia) Nc (by lia) h4 (λi k_ q=>?_);exact Zn (by lia) (mono ((lo+hi) / 2) i hm k_ q);rw[ZJ hl];have:lo=hi:=by lia
  subst this;exact⟨λi k_ q=>h4 i k_ q,λi k_ q=>h5 i k_ q,h3⟩
def dO(h:Ris xs.toList)(j:Nat):(∀i (k_:i<xs.size),i<SetTable.below xs j->xs[i]<j)/\(∀i (k_:i<xs.size),SetTable.below xs j<=i->j<=xs[i])/\SetTable.below xs j<=xs.size:=
 iH h j xs.size 0 xs.size (by lia) (Zu _) (ZU _) (λi _ q=>absurd q (Xw i)) λi k_ q=>absurd q (by lia)
def wO(h:Ris xs.toList)(hi:i<xs.size):SetTable.below xs xs[i]=i:=by
 obtain⟨h1,h2,h3⟩:=dO h xs[i];rcases W2 (SetTable.below xs xs[i]) i with q|q|q;have hb:SetTable.below xs xs[i]<xs.size:=by lia
 have:=h2 _ hb (ZU _);have q2:=Ris.at h q (by simpa using hi);simp only[Array.getElem_toList]at q2;lia;exact q;have:=h1 i hi q;lia
def qr(h:Ris xs.toList)(hi:i<xs.size):SetTable.below xs (xs[i]+1)=i+1:=by
 obtain⟨h1,h2,h3⟩:=dO h (xs[i]+1);rcases W2 (SetTable.below xs (xs[i]+1)) (i+1)with q|q|q;have:=h2 i hi (by lia);lia;exact q;have hb:i+1<xs.size:=by lia
 have:=h1 (i+1) hb q;have q2:=Ris.at h (show i<i+1 by lia) (by simpa using hb);simp only[Array.getElem_toList]at q2;lia
def qv(h:Ris xs.toList)(hj:∀i (hi:i<xs.size),xs[i]≠j):Ris (SetTable.insertAt xs (SetTable.below xs j) j).toList:=by
 obtain⟨h1,h2,h3⟩:=dO h j;rw[Ww];generalize SetTable.below xs j=p at h1 h2 h3⊢;unfold Ris;rw[Yh,XN];have hx:=Xx.mp h;have ht:∀a∈xs.toList.take p,a<j:=λa ha=>by
  obtain⟨i,hi,rfl⟩:=YZ.mp ha;rw[X7]at hi;rw[List.getElem_take];have JO:i<xs.size:=by have:xs.toList.length=xs.size:=Array.length_toList;lia
  have:=h1 i JO (by lia);simpa using this
 have hd:∀a∈xs.toList.drop p,j<a:=λa ha=>by
  obtain⟨i,hi,rfl⟩:=YZ.mp ha;rw[List.length_drop]at hi;rw[List.getElem_drop];have JO:p+i<xs.size:=by have:xs.toList.length=xs.size:=Array.length_toList;lia
  have:=h2 (p+i) JO (by lia);have:=hj (p+i) JO;simp only[Array.getElem_toList];lia
 refine⟨h.sublist (List.take_sublist _ _),⟨hd,h.sublist (List.drop_sublist _ _)⟩,λa ha b hb=>?_⟩;rcases Z0.mp hb with rfl|hb;exact ht a ha;exact Nat.lt_trans (ht a ha) (hd b hb)
def cW{t:SetTable}(h:Ris t.place.toList){i:Nat}(hi:i<t.place.size):t.slot t.place[i]=.live i:=by
 unfold SetTable.slot;dsimp only;rw[wO h hi];simp[hi]
def m8{t:SetTable}(h:Ris t.place.toList)(hd:t.dummies=#[])(hj:∀i (hi:i<t.place.size),t.place[i]≠j):t.slot j=.empty:=by
 unfold SetTable.slot;dsimp only;have:(t.place[SetTable.below t.place j]?==U j)=Y:=by
  cases q:t.place[SetTable.below t.place j]? with
  |none=>rfl
  |some v=>
   obtain⟨hi,e⟩:=YS.mp q;have:=hj _ hi;rw[e]at this;simpa using this
 rw[this,hd];simp[SetTable.has]
def ll{t:SetTable}{j i:Nat}(h:t.slot j=.live i):∃hi:i<t.place.size,t.place[i]=j:=by
 unfold SetTable.slot at h;dsimp only at h;split at h;rename_i q;cases h;obtain⟨hi,e⟩:=YS.mp (Zx.mp q);exact⟨hi,e⟩
 .split at h<;>cases h
end L2.G
namespace L2.G
open PySem
def bE(t:SetTable):Nat->SetTable.Probe->SetTable.Probe
 |0,p=>p
 |n+1,p=>bE t n (t.advance p)
def fF(t:SetTable)(n:Nat)(p:SetTable.Probe):bE t (n+1) p=t.advance (bE t n p):=by
 induction n generalizing p with
 |zero=>rfl
 |succ n ih=>show bE t (n+1) (t.advance p)=_;rw[ih];rfl
def dI(t:SetTable)(m n:Nat)(p:SetTable.Probe):bE t (m+n) p=bE t n (bE t m p):=by
 induction m generalizing p with
 |zero=>rw[Yd];rfl
 |succ m ih=>rw[Nat.succ_add];show bE t (m+n) (t.advance p)=_;rw[ih];rfl
def tL(t:SetTable)(p:SetTable.Probe):(t.advance p).dummy=p.dummy:=by
 unfold SetTable.advance;split<;>rfl
def eK(t:SetTable)(n:Nat)(p:SetTable.Probe):(bE t n p).dummy=p.dummy:=by
 induction n generalizing p with
 |zero=>rfl
 |succ n ih=>show(bE t n (t.advance p)).dummy=_;rw[ih,tL]
def wF{t u:SetTable}(h:t.mask=u.mask)(p:SetTable.Probe):t.advance p=u.advance p:=by
 unfold SetTable.advance;rw[h]
def rP(h:t.mask=u.mask)(n:Nat)(p:SetTable.Probe):bE t n p=bE u n p:=by
 induction n generalizing p with
 |zero=>rfl
 |succ n ih=>show bE t n (t.advance p)=bE u n (u.advance p);rw[wF h,ih]
def qF{t u:SetTable}(h:t.mask=u.mask)(x:Int):t.probeStart x=u.probeStart x:=by
 unfold SetTable.probeStart;rw[h]
def az(mask:Nat)(h:Int):Nat->Nat×Nat
 |0=>(SetTable.bits h%(mask+1),SetTable.bits h)
 |m+1=>SetTable.leap mask (az mask h m).1 (az mask h m).2
def dN(mask:Nat)(b:Nat×Nat):SetTable.Probe:={j:=b.1,more:=SetTable.runEnd mask b.1 - b.1,i:=b.1,perturb:=b.2,dummy:=M}
def yH(mask i:Nat):SetTable.runEnd mask i - i<=9:=by unfold SetTable.runEnd;split<;>lia
theorem jo(t:SetTable):∀(k:Nat)(p:SetTable.Probe),k<=p.more->bE t k p={p with j:=p.j+k,more:=p.more - k}
 |0,p,_=>rfl
 |k+1,p,h=>by
  show bE t k (t.advance p)=_;have:t.advance p={p with j:=p.j+1,more:=p.more - 1}:=by unfold SetTable.advance;rw[ZO (by lia)]
  rw[this,jo t k _ (show k<=p.more - 1 by lia)];show SetTable.Probe.mk _ _ _ _ _=SetTable.Probe.mk _ _ _ _ _;congr 1<;>(dsimp only;lia)
def tW(t:SetTable)(b:Nat×Nat):bE t (SetTable.runEnd t.mask b.1 - b.1+1) (dN t.mask b)=dN t.mask (SetTable.leap t.mask b.1 b.2):=by
 rw[fF,jo t (SetTable.runEnd t.mask b.1 - b.1) _ (show SetTable.runEnd t.mask b.1 - b.1<=(dN t.mask b).more from ZU _)];unfold SetTable.advance dN;rw[ZJ (by dsimp only;lia)]
theorem qL(t:SetTable)(h:Int):∀m:Nat,∃n,n<=10*m/\bE t n (t.probeStart h)=dN t.mask (az t.mask h m)
 |0=>⟨0,ZU _,rfl⟩
 |m+1=>by
  obtain⟨n,hn,e⟩:=qL t h m;have hr:=yH t.mask (az t.mask h m).1;refine⟨n+(SetTable.runEnd t.mask (az t.mask h m).1 - (az t.mask h m).1+1),by lia,?_⟩;rw[dI,e,tW];rfl
theorem E3(mask:Nat)(h:Int):∀m,(az mask h m).2=SetTable.bits h / 32 ^ m
 |0=>by simp[az]
 |m+1=>by
  show(az mask h m).2 / 32=_;rw[E3 mask h m,Nat.div_div_eq_div_mul,Nat.pow_succ]
def Ab(h:Int):SetTable.bits h<2 ^ 64:=by unfold SetTable.bits;lia
def Eo(mask:Nat)(h:Int)(m:Nat):(az mask h (13+m)).2=0:=by
 rw[E3];apply Nat.div_eq_of_lt;refine ZD (Ab h) ?_;rw[Nat.pow_add];exact Zn (by decide:2 ^ 64<=32 ^ 13) (Nat.le_mul_of_pos_right _ (Nat.pow_pos (by decide)))
def lcg(mask:Nat):Nat->Nat->Nat
 |0,x=>x
 |n+1,x=>(lcg mask n x*5+1)%(mask+1)
def oW(mask:Nat)(h:Int)(m:Nat):(az mask h (13+m)).1=lcg mask m (az mask h 13).1:=by
 induction m with
 |zero=>rfl
 |succ m ih=>
  show(SetTable.leap mask (az mask h (13+m)).1 (az mask h (13+m)).2).1=(lcg mask m _*5+1)%(mask+1);rw[Eo,ih];rfl
def mj(mask:Nat)(h:Int):∀m,(az mask h m).1<mask+1
 |0=>WK _ (Xb _)
 |m+1=>WK _ (Xb _)
def Do(mask:Nat):Nat->Nat->Z9 Nat
 |0,_=>[]
 |n+1,x=>x::Do mask n ((x*5+1)%(mask+1))
theorem jE(mask:Nat):∀n x,lcg mask n ((x*5+1)%(mask+1))=lcg mask (n+1) x
 |0,x=>rfl
 |n+1,x=>by
  show(lcg mask n ((x*5+1)%(mask+1))*5+1)%(mask+1)=(lcg mask (n+1) x*5+1)%(mask+1);rw[jE mask n x]
theorem ou{mask j:Nat}:∀{n x:Nat},j∈Do mask n x->∃k,k<n/\lcg mask k x=j
 |0,x,h=>by simp[Do]at h
 |n+1,x,h=>by
  rcases Z0.mp h with rfl|h;exact⟨0,Xb _,rfl⟩;obtain⟨k,hk,e⟩:=ou h;exact⟨k+1,Nat.succ_lt_succ hk,by rw[<-jE];exact e⟩
def lS(mask:Nat)(m n x:Nat):lcg mask (m+n) x=lcg mask m (lcg mask n x):=by
 induction m with
 |zero=>rw[Yd];rfl
 |succ m ih=>rw[Nat.succ_add];show(lcg mask (m+n) x*5+1)%(mask+1)=(lcg mask m (lcg mask n x)*5+1)%(mask+1);rw[ih]
def fE(mask:Nat):Bool:=let l:=Do mask (mask+1) 0;((List.range (mask+1)).all λj=>l.contains j)&&lcg mask (mask+1) 0==0
def GO:fE 7=L:=by decide +kernel
def EB:fE 31=L:=by decide +kernel
def B5:fE 127=L:=by decide +kernel
def Msk(mask:Nat):Prop:=mask=7\/mask=31\/mask=127
def Msk.cov{mask:Nat}(h:Msk mask):fE mask=L:=by
 rcases h with rfl|rfl|rfl;exact GO;exact EB;exact B5
def uW{mask x j:Nat}(h:Msk mask)(hx:x<mask+1)(hj:j<mask+1):∃n,n<mask+1/\lcg mask n x=j:=by
 have hc:=h.cov;unfold fE at hc;dsimp only at hc;rw[ZK,Zx]at hc;have at0:∀y,y<mask+1->∃k,k<mask+1/\lcg mask k 0=y:=λy hy=>ou (List.contains_iff_mem.mp (ZW.mp hc.1 y (Y4.mpr hy)));obtain⟨k0,h0,e0⟩:=at0 x hx;obtain⟨k1,h1,e1⟩:=at0 j hj;by_cases hk:k0<=k1;refine⟨k1 - k0,by lia,?_⟩;rw[<-e0,<-lS,Nat.sub_add_cancel hk,e1];refine⟨k1+(mask+1) - k0,by lia,?_⟩;rw[<-e0,<-lS,Nat.sub_add_cancel (by lia),lS,hc.2,e1]
def yX{t:SetTable}(hm:Msk t.mask)(h:Int){j:Nat}(hj:j<t.mask+1):∃n,n<10*SetTable.turns t.mask/\(bE t n (t.probeStart h)).j=j:=by
 obtain⟨k,hk,e⟩:=uW hm (mj t.mask h 13) hj;obtain⟨n,hn,en⟩:=qL t h (13+k);refine⟨n,by unfold SetTable.turns;lia,?_⟩;rw[en];show(az t.mask h (13+k)).1=j;rw[oW,e]
theorem i6:∀(n fuel:Nat)(p:SetTable.Probe),n<fuel->(∀m,m<n->∃i,t.slot (bE t m p).j=.live i/\(hashAt i==h)=Y)->
  (t.slot (bE t n p).j=.empty->SetTable.probe.go t hashAt h fuel p=U (.empty (bE t n p).j (bE t n p).dummy))/\
  (∀i,t.slot (bE t n p).j=.live i->(hashAt i==h)=L->SetTable.probe.go t hashAt h fuel p=U (.candidate (bE t n p).j i (t.advance (bE t n p))))
 |0,fuel+1,p,_,_=>by
  refine⟨λe=>?_,λi e q=>?_⟩;unfold SetTable.probe.go;rw[show t.slot p.j=.empty from e];rfl;unfold SetTable.probe.go;rw[show t.slot p.j=.live i from e];dsimp only;rw[ZO q];rfl
 |n+1,fuel+1,p,hn,hm=>by
  obtain⟨i,e,q⟩:=hm 0 (Xb _);have ih:=i6 (hashAt:=hashAt) (h:=h) n fuel (t.advance p) (by lia) λm KU=>hm (m+1) (by lia);have e0:SetTable.probe.go t hashAt h (fuel+1) p=SetTable.probe.go t hashAt h fuel (t.advance p):=by
   conv=>lhs;unfold SetTable.probe.go
   rw[show t.slot p.j=.live i from e];dsimp only;rw[ZJ (by rw[q];exact Zh)]
  rw[e0];exact ih
end L2.G
namespace L2.G
open PySem
abbrev way(t:SetTable)(h:Int)(n:Nat):Nat:=(bE t n (t.probeStart h)).j
structure Tab (t:SetTable)(hs:List Int):Prop where
 msk:Msk t.mask
 dum:t.dummies=#[]
 len:t.place.size=hs.length
 ris:Ris t.place.toList
 le:∀j∈t.place.toList,j<=t.mask
 rch:∀(i:Nat) h j,hs[i]?=some h->t.place.toList[i]?=some j->∃n,n<10*SetTable.turns t.mask/\way t h n=j/\∀m,m<n->∃k,t.slot (way t h m)=.live k
theorem Tab.fresh(f m:Nat)(l:Bool):Tab (SetTable.fresh f m l) []:=by
 refine⟨.inl rfl,rfl,rfl,List.Pairwise.nil,λj hj=>absurd hj (by simp[SetTable.fresh]),λi h j e=>absurd e (by simp)⟩
def Tab.slots(T:Tab t hs)(j:Nat):t.slot j=.empty\/∃k,t.slot j=.live k:=by
 by_cases h:∃i,∃hi:i<t.place.size,t.place[i]=j;obtain⟨i,hi,e⟩:=h;exact .inr ⟨i,by rw[<-e];exact cW T.ris hi⟩;exact .inl (m8 T.ris T.dum λi hi e=>h ⟨i,hi,e⟩)
def gap:∀(n:Nat)(xs:Z9 Nat),Ris xs->xs.length=n->∃j,j<=n/\j∉xs
 |n,xs,h,hl=>by
  by_cases q:∀i (hi:i<xs.length),xs[i]=i;refine⟨n,ZU _,λm=>?_⟩;obtain⟨i,hi,e⟩:=YZ.mp m;rw[q i hi]at e;lia;have hex:∃i,∃hi:i<xs.length,xs[i]≠i:=by
   obtain⟨i,hi⟩:=Classical.not_forall.mp q;obtain⟨hi,ne⟩:=Classical.not_forall.mp hi;exact⟨i,hi,ne⟩
  obtain⟨i,⟨hi,ne⟩,NJ⟩:∃i,(∃hi:i<xs.length,xs[i]≠i)/\∀k,k<i->¬∃hk:k<xs.length,xs[k]≠k:=by
   obtain⟨i,hi⟩:=hex
   induction i using Nat.strongRecOn with
   |_ i ih=>
    by_cases z:∃k,k<i/\∃hk:k<xs.length,xs[k]≠k;obtain⟨k,hk,K9⟩:=z;exact ih k hk K9;exact⟨i,hi,λk hk hh=>z ⟨k,hk,hh⟩⟩
  have Li:∀k (hk:k<xs.length),k<i->xs[k]=k:=λk hk LO=>Classical.byContradiction λz=>NJ k LO ⟨hk,z⟩;have hgt:i<xs[i]:=by
   rcases W2 i xs[i]with z|z|z;exact z;exact absurd z.symm ne;have e1:=Li xs[i] (by lia) z;have e2:=Ris.at h z hi;rw[e1]at e2;lia
  refine⟨i,by lia,λm=>?_⟩;obtain⟨k,hk,e⟩:=YZ.mp m;rcases W2 k i with z|z|z;have:=Li k hk z;lia;subst z;lia;have:=Ris.at h z hk;lia
def Bh{P:Nat->Prop}(h:P n):∃m,m<=n/\P m/\∀k,k<m->¬P k:=by
 induction n using Nat.strongRecOn with
 |_ n ih=>
  by_cases z:∃k,k<n/\P k;obtain⟨k,hk,pk⟩:=z;obtain⟨m,hm,r⟩:=ih k hk pk;exact⟨m,by lia,r⟩;exact⟨n,ZU _,h,λk hk pk=>z ⟨k,hk,pk⟩⟩
def Tab.free(T:Tab t hs)(hf:t.place.size<=t.mask)(h:Int):∃n,n<10*SetTable.turns t.mask/\t.slot (way t h n)=.empty/\∀m,m<n->∃k,t.slot (way t h m)=.live k:=by
 obtain⟨j,hj,nj⟩:=gap t.place.size t.place.toList T.ris (by simp);obtain⟨n,hn,e⟩:=yX T.msk h (show j<t.mask+1 by lia);have:t.slot (way t h n)=.empty:=by
  show t.slot (bE t n (t.probeStart h)).j=.empty;rw[e];exact m8 T.ris T.dum λi hi q=>nj (by rw[<-q];simp)
 obtain⟨m,hm,e1,e2⟩:=Bh (P:=λn=>t.slot (way t h n)=.empty) this;refine⟨m,by lia,e1,λk hk=>?_⟩;rcases T.slots (way t h k)with q|q;exact absurd q (e2 k hk);exact q
def bP(h:t.mask=u.mask)(x:Int)(n:Nat):way t x n=way u x n:=by
 unfold way;rw[qF h,rP h]
def ky{α:Type}(xs:Array α)(p:Nat)(x:α):(SetTable.insertAt xs p x).size=xs.size+1:=by
 have:=(Wl xs p x).length_eq;simpa using this
def jP{α:Type}(l:Z9 α)(x:α)(hp:p<=l.length)(i:Nat):(l.take p++x::l.drop p)[i]?=if i<p then l[i]? else if i=p then U x else l[i - 1]?:=by
 by_cases h1:i<p;rw[ZO h1,Y2 (by rw[X7];lia),List.getElem?_take_of_lt h1];rw[ZJ h1,Yl (by rw[X7];lia),X7,WA hp];by_cases h2:i=p;rw[ZO h2,h2,Nat.sub_self];rfl;rw[ZJ h2];obtain⟨d,rfl⟩:∃d,i=p+1+d:=⟨i - p - 1,by lia⟩
 rw[show p+1+d - p=d+1 by lia,List.getElem?_cons_succ,List.getElem?_drop];congr 1;lia
theorem Tab.put(T:Tab t hs)(hn:n<10*SetTable.turns t.mask)(he:t.slot (way t h n)=.empty)(hw:∀m,m<n->∃k,t.slot (way t h m)=.live k)(hj:way t h n<=t.mask):
  Tab (t.put (way t h n)).1 (hs.take (t.put (way t h n)).2++h::hs.drop (t.put (way t h n)).2)/\(t.put (way t h n)).2<=hs.length:=by
 generalize hJ:way t h n=J at he hj⊢;have TM:∀i (hi:i<t.place.size),t.place[i]≠J:=λi hi q=>by
  rw[<-q,cW T.ris hi]at he;cases he
 have hp:(t.put J).1.place=SetTable.insertAt t.place (SetTable.below t.place J) J:=rfl;have h2:(t.put J).2=SetTable.below t.place J:=rfl;have s_:(t.put J).1.place.toList=t.place.toList.take (SetTable.below t.place J)++J::t.place.toList.drop (SetTable.below t.place J):=by rw[hp,Ww]
 have hd:(t.put J).1.dummies=#[]:=by
  show(if SetTable.has t.dummies J then SetTable.eraseAt t.dummies (SetTable.below t.dummies J) else t.dummies)=#[];rw[T.dum];simp[SetTable.has]
 have hr:Ris (t.put J).1.place.toList:=by rw[hp];exact qv T.ris TM
 have ble:=(dO T.ris J).2.2;have keep:∀j,(∃k,t.slot j=.live k)->∃k,(t.put J).1.slot j=.live k:=λj ⟨k,hk⟩=>by
  obtain⟨hi,e⟩:=ll hk;have:j∈(t.put J).1.place.toList:=by
   rw[hp];exact(Wl _ _ _).mem_iff.mpr (by rw[<-e];simp)
  obtain⟨i,hi,e⟩:=YZ.mp this;have k_:i<(t.put J).1.place.size:=by simpa using hi
  exact⟨i,by rw[<-e];simpa using cW hr k_⟩
 have em:(t.put J).1.mask=t.mask:=rfl;have PM:=T.len;rw[h2];refine⟨⟨T.msk,hd,?_,hr,?_,?_⟩,by lia⟩;rw[hp,ky];simp;lia;intro j MQ;rw[hp]at MQ;have:=(Wl _ _ _).mem_iff.mp MQ;simp only[YE,Zt,ZC]at this;rcases this with q|q;exact T.le j q;rw[q];exact hj;intro i h' j' e1 e2;rw[s_]at e2;rw[jP _ _ (by rw[<-PM];exact ble)]at e1;rw[jP _ _ (by simpa using ble)]at e2;have old:∀k,hs[k]?=U h'->t.place.toList[k]?=U j'->∃n,n<10*SetTable.turns (t.put J).1.mask/\way (t.put J).1 h' n=j'/\∀m,m<n->∃q,(t.put J).1.slot (way (t.put J).1 h' m)=.live q:=λk q1 q2=>by
  obtain⟨n,a1,a2,a3⟩:=T.rch k h' j' q1 q2;refine⟨n,a1,by rw[bP em];exact a2,λm hm=>?_⟩;rw[bP em];exact keep _ (a3 m hm)
 by_cases z1:i<SetTable.below t.place J;rw[ZO z1]at e1 e2;exact old i e1 e2;rw[ZJ z1]at e1 e2;by_cases z2:i=SetTable.below t.place J;rw[ZO z2]at e1 e2;cases e1;cases e2;refine⟨n,hn,by rw[bP em];exact hJ,λm hm=>?_⟩;rw[bP em];exact keep _ (hw m hm);rw[ZJ z2]at e1 e2;exact old (i - 1) e1 e2
end L2.G
namespace L2.G
open PySem
abbrev cf(mask:Nat):SetTable:={mask:=mask,place:=#[],dummies:=#[],finger:=0,led:=L,moves:=0,plain:=L}
abbrev xo(mask:Nat)(h:Int)(n:Nat):Nat:=way (cf mask) h n
def Own(o:Array (Z7 Nat))(j:Nat):Prop:=∃k,o[j]?=U (U k)
def tP{mask i:Nat}(h:i<mask+1):SetTable.runEnd mask i<mask+1:=by unfold SetTable.runEnd;split<;>lia
def tS(mask i:Nat):i<=SetTable.runEnd mask i:=by unfold SetTable.runEnd;split<;>lia
def B6(mask:Nat)(b:Nat×Nat)(k:Nat)(hk:k<=SetTable.runEnd mask b.1 - b.1):(bE (cf mask) k (dN mask b)).j=b.1+k:=by
 rw[jo (cf mask) k (dN mask b) hk];rfl
theorem si{mask:Nat}{o:Array (Z7 Nat)}(hs:o.size=mask+1)(h:Int):∀(fuel m n:Nat),n<=10*m->bE (cf mask) n ((cf mask).probeStart h)=dN mask (az mask h m)->(∀q,q<n->Own o (xo mask h q))->
  (∃j n',SetTable.layClean.free mask o fuel (az mask h m).1 (az mask h m).2=U j/\n'<10*(m+fuel)/\xo mask h n'=j/\o[j]?=U M/\∀q,q<n'->Own o (xo mask h q))\/
  (SetTable.layClean.free mask o fuel (az mask h m).1 (az mask h m).2=M/\∀k,k<fuel->Own o (az mask h (m+k)).1)
 |0,m,n,_,_,_=>.inr ⟨rfl,λk hk=>absurd hk (Xw k)⟩
 |fuel+1,m,n,hn,e,hq=>by
  have hb:=mj mask h m;have hr:=tP hb;have hg:=tS mask (az mask h m).1;have h9:=yH mask (az mask h m).1;have Pl:∀k,k<=SetTable.runEnd mask (az mask h m).1 - (az mask h m).1->xo mask h (n+k)=(az mask h m).1+k:=λk hk=>by
   show(bE (cf mask) (n+k) ((cf mask).probeStart h)).j=_;rw[dI,e,B6 mask _ k hk]
  have own:∀k,k<=SetTable.runEnd mask (az mask h m).1 - (az mask h m).1->(o.getD ((az mask h m).1+k) (U 0)).isNone=Y->Own o ((az mask h m).1+k):=λk hk q=>by
   have j_:(az mask h m).1+k<o.size:=by lia
   have:o.getD ((az mask h m).1+k) (U 0)=o[(az mask h m).1+k]:=by simp[Array.getD,j_]
   rw[this]at q;cases z:o[(az mask h m).1+k]with
   |none=>rw[z]at q;cases q
   |some v=>exact⟨v,by rw[Zb j_,z]⟩
  unfold SetTable.layClean.free;cases hf:(List.range (SetTable.runEnd mask (az mask h m).1+1 - (az mask h m).1)).find? λk=>(o.getD ((az mask h m).1+k) (U 0)).isNone with
  |some k=>
   obtain⟨pk,as,bs,Qm,w_⟩:=List.find?_eq_some_iff_append.mp hf;have hkr:k<SetTable.runEnd mask (az mask h m).1+1 - (az mask h m).1:=Y4.mp (by rw[Qm];simp);have has:as.length=k:=by
    have h1:(List.range (SetTable.runEnd mask (az mask h m).1+1 - (az mask h m).1))[as.length]?=U k:=by rw[Qm];simp
    have h2:=(ZP.mp h1)
    obtain⟨hl,e2⟩:=h2;simpa using e2
   have Li:∀q,q<k->(o.getD ((az mask h m).1+q) (U 0)).isNone=Y:=λq Wa=>by
    have:q∈as:=by
     have h1:(List.range (SetTable.runEnd mask (az mask h m).1+1 - (az mask h m).1))[q]?=U q:=by rw[List.getElem?_range (by lia)]
     rw[Qm,Y2 (by lia)]at h1;exact Zg h1
    have:=w_ q this;rwa[Ys]at this
   refine .inl ⟨(az mask h m).1+k,n+k,rfl,by lia,Pl k (by lia),?_,λq Uh=>?_⟩;have j_:(az mask h m).1+k<o.size:=by lia
   have e3:o.getD ((az mask h m).1+k) (U 0)=o[(az mask h m).1+k]:=by simp[Array.getD,j_]
   rw[e3]at pk;rw[Zb j_];cases z:o[(az mask h m).1+k]with
   |none=>rfl
   |some v=>rw[z]at pk;cases pk
   by_cases z:q<n;exact hq q z;obtain⟨d,rfl⟩:∃d,q=n+d:=⟨q - n,by lia⟩
   rw[Pl d (by lia)];exact own d (by lia) (Li d (by lia))
  |none=>
   dsimp only;have w_:=Xs.mp hf;have Ib:∀k,k<=SetTable.runEnd mask (az mask h m).1 - (az mask h m).1->Own o ((az mask h m).1+k):=λk hk=>own k hk (by
    have:=w_ k (Y4.mpr (by lia));exact Bool.not_eq_true _▸this)
   have NS:bE (cf mask) (n+(SetTable.runEnd mask (az mask h m).1 - (az mask h m).1+1)) ((cf mask).probeStart h)=dN mask (az mask h (m+1)):=by
    rw[dI,e];exact tW (cf mask) _
   have ih:=si hs h fuel (m+1) (n+(SetTable.runEnd mask (az mask h m).1 - (az mask h m).1+1)) (by lia) NS λq Uh=>by
    by_cases z:q<n;exact hq q z;obtain⟨d,rfl⟩:∃d,q=n+d:=⟨q - n,by lia⟩
    rw[Pl d (by lia)];exact Ib d (by lia)
   rcases ih with⟨j,n',a1,a2,a3,a4,a5⟩|⟨a1,a2⟩;exact .inl ⟨j,n',a1,by lia,a3,a4,a5⟩;refine .inr ⟨a1,λk hk=>?_⟩;cases k with
   |zero=>exact Ib 0 (by lia)
   |succ k=>
    have:=a2 k (by lia);rwa[show m+(k+1)=m+1+k by lia]
def zk{mask:Nat}{o:Array (Z7 Nat)}(hm:Msk mask)(hs:o.size=mask+1)(h:Int){j:Nat}(hj:j<mask+1)(JE:o[j]?=U M):
  ∃J n,SetTable.layClean.free mask o (SetTable.turns mask) (SetTable.bits h%(mask+1)) (SetTable.bits h)=U J/\n<10*SetTable.turns mask/\xo mask h n=J/\o[J]?=U M/\∀q,q<n->Own o (xo mask h q):=by
 rcases si hs h (SetTable.turns mask) 0 0 (ZU _) rfl (λq hq=>absurd hq (Xw q))with⟨J,n,a1,a2,a3⟩|⟨a1,a2⟩;exact⟨J,n,a1,by lia,a3⟩;obtain⟨k,hk,e⟩:=uW hm (mj mask h 13) hj;obtain⟨v,hv⟩:=a2 (13+k) (by unfold SetTable.turns;lia);rw[Yd,oW,e,JE]at hv;cases hv
end L2.G
namespace L2.G
open PySem
structure abe (mask:Nat)(hs:List Int)(o:Array (Z7 Nat)):Prop where
 sz:o.size=mask+1
 cnt:o.toList.countP (·.isSome)=hs.length
 lt:∀(j:Nat) v,o[j]?=some (some v)->v<hs.length
 inj:∀(j j':Nat) v,o[j]?=some (some v)->o[j']?=some (some v)->j=j'
 at':∀(v:Nat) h,hs[v]?=some h->∃j n,o[j]?=some (some v)/\n<10*SetTable.turns mask/\xo mask h n=j/\∀q,q<n->Own o (xo mask h q)
def abe.nil(mask:Nat):abe mask [] (Array.replicate (mask+1) M):=by
 refine⟨by simp,?_,λj v e=>?_,λj j' v e=>?_,λv h e=>by simp at e⟩;simp
 .rw[Array.getElem?_replicate]at e;split at e<;>cases e
 .rw[Array.getElem?_replicate]at e;split at e<;>cases e
def abe.hole{mask:Nat}{hs:Z9 Int}{o:Array (Z7 Nat)}(Lq:abe mask hs o)(h:hs.length<=mask):∃j,j<mask+1/\o[j]?=U M:=by
 apply Classical.byContradiction;intro hn;have:∀x∈o.toList,x.isSome=L:=λx hx=>by
  obtain⟨i,hi,e⟩:=YZ.mp hx;have k_:i<o.size:=by simpa using hi
  cases x with
  |some v=>rfl
  |none=>exact absurd ⟨i,by rw[<-Lq.sz];exact k_,by rw[Zb k_];simpa using e⟩ hn
 have e:=List.countP_eq_length.mpr this;have e2:=Lq.cnt;have e3:=Lq.sz;rw[e]at e2;simp only[Array.length_toList]at e2;lia
def abe.step{mask:Nat}{hs:Z9 Int}{o:Array (Z7 Nat)}(hm:Msk mask)(Lq:abe mask hs o)(h:Int)(hl:hs.length<=mask):
  ∃J,SetTable.layClean.free mask o (SetTable.turns mask) (SetTable.bits h%(mask+1)) (SetTable.bits h)=U J/\abe mask (hs++[h]) (o.setIfInBounds J (U hs.length)):=by
 obtain⟨j,hj,hf⟩:=Lq.hole hl;obtain⟨J,n,a1,a2,a3,a4,a5⟩:=zk hm Lq.sz h hj hf;obtain⟨hJ,eJ⟩:=YS.mp a4;have keep:∀(i:Nat),Own o i->Own (o.setIfInBounds J (U hs.length)) i:=λi ⟨v,hv⟩=>by
  refine⟨v,?_⟩;rw[Xc,ZJ (by intro e;rw[e,hv]at a4;cases a4)];exact hv
 have at0:(o.setIfInBounds J (U hs.length))[J]?=U (U hs.length):=by rw[Xc,ZO rfl,ZO hJ]
 have MU:∀i,i≠J->(o.setIfInBounds J (U hs.length))[i]?=o[i]?:=λi hi=>by rw[Xc,ZJ (λe=>hi e.symm)]
 refine⟨J,a1,⟨by simp[Lq.sz],?_,λi v e=>?_,λi i' v e e'=>?_,λv h' e=>?_⟩⟩;rw[W9,List.countP_set (by simpa using hJ),Lq.cnt];have:o.toList[J]'(by simpa using hJ)=M:=by simpa using eJ
 rw[this];simp;rw[Zy];by_cases z:i=J;rw[z,at0]at e;cases e;simp;rw[MU i z]at e;have:=Lq.lt i v e;simp;lia
 .by_cases z:i=J<;>by_cases z':i'=J
  rw[z,z'];rw[z,at0]at e;cases e;rw[MU i' z']at e';exact absurd (Lq.lt i' _ e') (Zd _);rw[z',at0]at e';cases e';rw[MU i z]at e;exact absurd (Lq.lt i _ e) (Zd _);rw[MU i z]at e;rw[MU i' z']at e';exact Lq.inj i i' v e e'
 by_cases z:v<hs.length;rw[Y2 z]at e;obtain⟨j,n,b1,b2,b3,b4⟩:=Lq.at' v h' e;refine⟨j,n,?_,b2,b3,λq hq=>keep _ (b4 q hq)⟩;rw[MU j (by intro e;rw[e,a4]at b1;cases b1)];exact b1;have hv:v=hs.length:=by
  have:=(ZP.mp e).1;simp at this;lia
 subst hv;simp at e;subst e;exact⟨J,n,at0,a2,a3,λq hq=>keep _ (a5 q hq)⟩
theorem nN{mask:Nat}(hm:Msk mask):∀(post pre:Z9 Int)(o:Array (Z7 Nat)),abe mask pre o->(pre++post).length<=mask->
  ∃o',post.foldl (λ(acc:Z7 (Array (Z7 Nat)×Nat)) h=>do
   let (owner,k) <-acc
   let j <-SetTable.layClean.free mask owner (SetTable.turns mask) (SetTable.bits h%(mask+1)) (SetTable.bits h)
   pure (owner.setIfInBounds j (U k),k+1)) (U (o,pre.length))=U (o',(pre++post).length)/\abe mask (pre++post) o'
 |[],pre,o,Lq,_=>⟨o,by simp,by simpa using Lq⟩
 |h::post,pre,o,Lq,hl=>by
  rw[Zy,bO]at hl;obtain⟨J,e,L1⟩:=Lq.step hm h (by lia);obtain⟨o',e',L'⟩:=nN hm post (pre++[h]) _ L1 (by simp;lia);refine⟨o',?_,by simpa using L'⟩;rw[List.foldl_cons];have:(do
   let (owner,k) <-U (o,pre.length)
   let j <-SetTable.layClean.free mask owner (SetTable.turns mask) (SetTable.bits h%(mask+1)) (SetTable.bits h)
   pure (owner.setIfInBounds j (U k),k+1))=U (o.setIfInBounds J (U pre.length),(pre++[h]).length):=by
   show(SetTable.layClean.free mask o (SetTable.turns mask) (SetTable.bits h%(mask+1)) (SetTable.bits h)).bind _=_;rw[e];simp
  rw[this,e'];simp
def Dc{mask:Nat}(hm:Msk mask)(hs:Z9 Int)(hl:hs.length<=mask):∃o,SetTable.layClean mask hs.toArray=some o/\abe mask hs o:=by
 obtain⟨o,e,Lq⟩:=nN hm hs [] _ (abe.nil mask) (by simpa using hl);refine⟨o,?_,by simpa using Lq⟩;unfold SetTable.layClean;rw[List.foldl_toArray];rw[show(some (Array.replicate (mask+1) (none:Z7 Nat),0))=some (Array.replicate (mask+1) none,([]:Z9 Int).length) from rfl];rw[e];rfl
theorem ji{β:Type}(g:Nat->Z7 β):∀l:Z9 Nat,(l.filterMap λj=>(g j).map (j,·)).map (·.1)=l.filter λj=>(g j).isSome
 |[]=>rfl
 |x::l=>by
  rw[List.filterMap_cons,List.filter_cons];cases e:g x with
  |none=>simpa using ji g l
  |some v=>simpa using ji g l
theorem iI{β:Type}(g:Nat->Z7 β):∀l:Z9 Nat,(l.filterMap λj=>(g j).map (j,·)).map (·.2)=l.filterMap g
 |[]=>rfl
 |x::l=>by
  rw[List.filterMap_cons,List.filterMap_cons];cases e:g x with
  |none=>simpa using iI g l
  |some v=>simpa using iI g l
def A0{mask:Nat}(hm:Msk mask)(hs:Z9 Int)(hl:hs.length<=mask)(finger moves:Nat)(led plain:Bool):∃t order,SetTable.laid mask finger moves led plain hs.toArray=U (t,order)/\
  order.toList.Perm (List.range hs.length)/\Tab t (order.toList.map λi=>hs.getD i 0)/\t.mask=mask/\t.led=led/\t.plain=plain/\t.place.size=hs.length:=by
 obtain⟨o,e,Lq⟩:=Dc hm hs hl;unfold SetTable.laid;rw[e];refine⟨_,_,rfl,?_⟩;dsimp only;have gd:∀j v,o.getD j M=U v↔o[j]?=U (U v):=λj v=>by
  unfold Array.getD;by_cases h:j<o.size;simp[h];simp[h]
 generalize KL:((List.range (mask+1)).filterMap λj=>(o.getD j M).map (j,·))=live;have hf:live.map (·.1)=(List.range (mask+1)).filter λj=>(o.getD j M).isSome:=by rw[<-KL];exact ji (λj=>o.getD j M) _
 have Ud:live.map (·.2)=(List.range (mask+1)).filterMap λj=>o.getD j M:=by rw[<-KL];exact iI (λj=>o.getD j M) _
 have mem:∀j v,(j,v)∈live↔o[j]?=U (U v):=λj v=>by
  rw[<-KL,XM];constructor
  rintro⟨i,_,h⟩
  cases q:o.getD i M with
  |none=>rw[q]at h;cases h
  |some u=>rw[q]at h;simp at h;rw[<-h.1,<-h.2];exact(gd i u).mp q
  intro h;refine⟨j,Y4.mpr ?_,by rw[(gd j v).mpr h];rfl⟩;have:=(YS.mp h).1;rw[Lq.sz]at this;exact this
 have nd:(live.map (·.2)).Nodup:=by
  rw[Ud];unfold List.Nodup;rw[List.pairwise_filterMap];refine List.Pairwise.imp ?_ (List.nodup_range (n:=mask+1));intro a b HH x hx y hy T6;subst T6;exact HH (Lq.inj a b x ((gd a x).mp hx) ((gd b x).mp hy))
 have perm:(live.map (·.2)).Perm (List.range hs.length):=by
  refine(Ym nd List.nodup_range).mpr λv=>?_;rw[Y4];constructor;intro h;obtain⟨⟨j,u⟩,hp,rfl⟩:=ZV.mp h;exact Lq.lt j u ((mem j u).mp hp);intro h;obtain⟨j,n,a1,_⟩:=Lq.at' v hs[v] (by simp[h]);exact ZV.mpr ⟨(j,v),(mem j v).mpr a1,rfl⟩
 have ris:Ris (live.map (·.1)):=by
  rw[hf];exact List.Pairwise.filter _ (List.pairwise_lt_range (n:=mask+1))
 have Qv:live.length=hs.length:=by have:=perm.length_eq;simpa using this
 refine⟨by simpa using perm,⟨hm,rfl,?_,by simpa using ris,?_,?_⟩,rfl,rfl,rfl,by simpa using Qv⟩;simp;intro j hj;have:j∈live.map (·.1):=by simpa using hj
 rw[hf]at this;have:=Y4.mp (Y1.mp this).1;show j<=mask;lia;intro i h j e1 e2;have e2:(live.map (·.1))[i]?=U j:=by simpa using e2
 have e1:((live.map (·.2)).map λi=>hs.getD i 0)[i]?=U h:=by simpa using e1
 obtain⟨⟨j',v⟩,hp,rfl⟩:∃p,live[i]?=U p/\p.1=j:=by
  rw[YY]at e2;cases q:live[i]? with
  |none=>rw[q]at e2;cases e2
  |some p=>rw[q]at e2;cases e2;exact⟨p,rfl,rfl⟩
 have ho:=(mem j' v).mp (Zg hp);have hv:=Lq.lt j' v ho;have eh:h=hs[v]:=by
  rw[YY,YY,hp]at e1;simp[hv]at e1;exact e1.symm
 subst eh;obtain⟨j2,n,b1,b2,b3,b4⟩:=Lq.at' v hs[v] (by simp[hv]);have:j2=j':=Lq.inj j2 j' v b1 ho;subst this;refine⟨n,b2,?_,λm KU=>?_⟩;exact(bP (t:={mask:=mask,place:=(live.map (·.1)).toArray,dummies:=#[],finger:=finger,led:=led,moves:=moves,plain:=plain}) (u:=cf mask) rfl _ _).trans b3;rw[bP (t:={mask:=mask,place:=(live.map (·.1)).toArray,dummies:=#[],finger:=finger,led:=led,moves:=moves,plain:=plain}) (u:=cf mask) rfl];obtain⟨u,hu⟩:=b4 m KU;have HJ:xo mask hs[v] m∈live.map (·.1):=ZV.mpr ⟨(_,u),(mem _ u).mpr hu,rfl⟩;obtain⟨k,hk,ek⟩:=YZ.mp HJ;refine⟨k,?_⟩;have K9:k<((live.map (·.1)).toArray).size:=by simpa using hk
 have:=cW (t:={mask:=mask,place:=(live.map (·.1)).toArray,dummies:=#[],finger:=finger,led:=led,moves:=moves,plain:=plain}) (by simpa using ris) K9;have Vw:((live.map (·.1)).toArray)[k]=way (cf mask) hs[v] m:=by simpa using ek
 rw[<-Vw];exact this
end L2.G
namespace L2.G
open PySem PySem.Spec PyProof.Rows
variable[Lams]
def sG:∀(n:Nat)(d:D)(u:Z3)(A:Za)(Q:Bool->ZR->Prop)(E:Z3->ZR->Prop),aR n d=L->RH s.heap d u->Q Y s->wpAny (model P w) A (ofAClassStatement n u) Q E s:=by
 intro n
 induction n using Nat.strongRecOn with
 |ind n ih=>
 intro d u A Q E hd rd hQ;cases d with
 |int i=>simp only[RH]at rd;obtain⟨t,rfl⟩:=rd;unfold ofAClassStatement;exact Z6 hQ
 |str i=>simp only[RH]at rd;obtain⟨t,rfl⟩:=rd;unfold ofAClassStatement;exact Z6 hQ
 |tup ds=>
  simp only[RH]at rd;obtain⟨a,its,rfl,⟨o,ho,hc,m,o_⟩,hr⟩:=rd;obtain⟨k,rfl,x_⟩:=cC hd;unfold ofAClassStatement;refine Z_ (Xv ⟨o,ho,hc⟩ ?_);dsimp only;refine eL (by decide) ?_;refine Z_ (Z6 ?_);simp only[YR,ZZ,Zm];refine Z_ (Yu ho o_ ?_);dsimp only;rw[<-Xp];refine Z_ (X2 _ (λar b s'=>b.1=M/\s'=s/\∃left,left.all (aR k)=L/\RHs s.heap left ar) _ ?_ ?_ _ _ ⟨rfl,rfl,ds,x_,by simpa using hr⟩);intro v ar b s' hz;obtain⟨hb,rfl,left,w_,hl⟩:=hz;cases left with
  |nil=>simp only[RHs]at hl;trivial
  |cons d' HF=>
   simp only[RHs]at hl;obtain⟨v',r',e',r1,r2⟩:=hl;cases e';rw[mq,ZK]at w_;refine Z_ (ih k (by lia) d' v _ _ _ w_.1 r1 ?_);simp only[ZZ,Zm];exact Z6 ⟨rfl,rfl,HF,w_.2,r2⟩
  rintro⟨b1,b2⟩ s' ⟨hb,rfl,_⟩
  simp only at hb;subst hb;exact Z6 hQ
 |_=>simp[aR]at hd
def z0:∀(n:Nat)(d:D)(u:Z3)(A:Za)(Q:Bool->ZR->Prop)(E:Z3->ZR->Prop),aR n d=L->RH s.heap d u->(∀b,Q b s)->wpAny (model P w) A (hashByValue n u) Q E s:=by
 intro n
 induction n using Nat.strongRecOn with
 |ind n ih=>
 intro d u A Q E hd rd hQ;cases d with
 |int i=>simp only[RH]at rd;obtain⟨t,rfl⟩:=rd;unfold hashByValue;exact Z6 (hQ _)
 |str i=>simp only[RH]at rd;obtain⟨t,rfl⟩:=rd;unfold hashByValue;exact Z6 (hQ _)
 |tup ds=>
  simp only[RH]at rd;obtain⟨a,its,rfl,⟨o,ho,hc,m,o_⟩,hr⟩:=rd;obtain⟨k,rfl,x_⟩:=cC hd;unfold hashByValue;refine Z_ (X9 ⟨o,ho,hc⟩ Xe.lookup ?_);dsimp only;refine Z_ (Yu ho o_ (Z_ ?_));simp only[Option.getD_some];rw[<-Xp];refine X2 _ (λar b s'=>s'=s/\∃left,left.all (aR k)=L/\RHs s.heap left ar) _ ?_ ?_ _ _ ⟨rfl,ds,x_,by simpa using hr⟩
  .intro v ar b s' hz;obtain⟨rfl,left,w_,hl⟩:=hz
   cases left with
   |nil=>simp only[RHs]at hl;trivial
   |cons d' HF=>
    simp only[RHs]at hl;obtain⟨v',r',e',r1,r2⟩:=hl;cases e';rw[mq,ZK]at w_;refine Z_ (ih k (by lia) d' v _ _ _ w_.1 r1 λb=>?_);cases b with
    |true=>
     simp only[YR,ZZ,Zm];exact Z6 ⟨rfl,HF,w_.2,r2⟩
    |false=>
     simp only[X5,Y_];exact Z6 (by first|exact Z6 (hQ _)|exact hQ _|exact rfl)
  .rintro⟨b1,b2⟩ s' ⟨rfl,_⟩
   cases b1<;>exact Z6 (hQ _)
 |_=>simp[aR]at hd
end L2.G
namespace L2.G
open PySem PySem.Spec PyProof.Rows
variable[Lams]
theorem Tab.fits(T:Tab t hs)(hf:t.place.size<=t.mask):t.fits hs.length=L:=by
 unfold SetTable.fits SetTable.fill;rw[T.dum,T.len];rw[T.len]at hf;simp[hf]
def Tab.odd(T:Tab t hs):t.gaveWay=Y:=by
 unfold SetTable.gaveWay;rcases T.msk with h|h|h<;>rw[h]<;>rfl
section
variable{s:ZR}{es:Z9 (Int×Z3)}{hx:Int}
def fY(ho:s.heap.get? a=U o)(hd:o.data=.set es.toArray ep t)(T:Tab t (es.map (·.1)))(hf:t.place.size<=t.mask)(Ji:Z3->Bool)(hrefs:∀e∈es,∃b,e.2=.ref b)(heq:∀e∈es,e.1=hx->SeqAt.EqAt A s e.2 x (Ji e.2))(Iu:∀l:Z9 Z3,(∀y∈l,∃e∈es,e.2=y)->∀Q:Bool->ZR->Prop,Q Y s->wpAny (model prog w) A (searchCouldBeSeen x l) Q E s)(hN:N<10*SetTable.turns t.mask)(hw:∀m,m<N->∃k,t.slot (way t hx m)=.live k)(Mg:(t.slot (way t hx N)=.empty/\(∀e∈es,e.1=hx->Ji e.2=Y)/\Q (.free (way t hx N) Y) s)\/(∃i e,t.slot (way t hx N)=.live i/\es[i]?=U e/\e.1=hx/\Ji e.2=L)/\Q (.there M) s)(Mu:(∃e∈es,e.1=hx/\Ji e.2=L)->Q (.there M) s):
  ∀(fuel m:Nat)(st:Z7 SetTable.Probe),m<=N->N - m<fuel->st.getD (t.probeStart hx)=bE t m (t.probeStart hx)->wpAny (model prog w) A (setSearchFrom a x hx L fuel st) Q E s:=by
 intro fuel
 induction fuel with
 |zero=>intro m st _ h;exact absurd h (Xw _)
 |succ fuel ih=>
  intro m st hm hfu HG;have Jm:t.fits es.toArray.size=L:=by simpa using T.fits hf
  unfold setSearchFrom;refine Z_ (YC ho hd Jm ?_);dsimp only;rw[T.odd];simp only[ZZ,Zm];rw[HG]
  let hashAt:Nat->Int:=λi=>(es.toArray[i]?.map (·.1)).getD 0
  have Jg:∀i e,es[i]?=U e->hashAt i=e.1:=λi e h=>by show(es.toArray[i]?.map (·.1)).getD 0=_;simp[h]
  have Mr:t.slot (way t hx N)=.empty\/∃i,t.slot (way t hx N)=.live i/\(hashAt i==hx)=L:=by
   rcases Mg with⟨h,_⟩|⟨⟨i,e,h1,h2,h3,_⟩,_⟩;exact .inl h;exact .inr ⟨i,h1,by rw[Jg i e h2,h3];exact Yo _⟩
  obtain⟨n,hn,tell,before⟩:=Bh (P:=λk=>t.slot (way t hx (m+k))=.empty\/∃i,t.slot (way t hx (m+k))=.live i/\(hashAt i==hx)=L) (n:=N - m) (by rw[show m+(N - m)=N by lia];exact Mr);have NN:∀k,(bE t k (bE t m (t.probeStart hx))).j=way t hx (m+k):=λk=>by rw[<-dI]
  have live:∀k,k<n->∃i,t.slot (way t hx (m+k))=.live i:=λk hk=>hw (m+k) (by lia);obtain⟨Qf,go2⟩:=i6 (t:=t) (hashAt:=hashAt) (h:=hx) n (10*SetTable.turns t.mask) (bE t m (t.probeStart hx)) (by lia) λk hk=>by
   obtain⟨i,hi⟩:=live k hk;refine⟨i,by rw[NN];exact hi,?_⟩;cases q:(hashAt i==hx)with
   |false=>rfl
   |true=>exact absurd (.inr ⟨i,hi,q⟩) (before k hk)
  rw[NN]at Qf go2;have QV:(bE t n (bE t m (t.probeStart hx))).dummy=M:=by rw[eK,eK];rfl
  rw[QV]at Qf;rcases tell with te|⟨i,ti,hi⟩
  .-- an empty one:it is VX last
   have RL:m+n=N:=by
    rcases Nat.lt_or_ge (m+n) N with z|z;obtain⟨k,hk⟩:=hw (m+n) z;rw[te]at hk;cases hk;lia
   have hp:∀f:Nat->Int,f=hashAt->t.probe f hx (bE t m (t.probeStart hx))=U (.empty (way t hx (m+n)) M):=λf e=>by rw[e];exact Qf te
   rw[hp]
   rotate_left
   rfl;dsimp only;rcases Mg with⟨_,_,h⟩|⟨⟨i,e,h1,_⟩,_⟩;rw[RL];exact Z6 h;rw[<-RL,te]at h1;cases h1
  .have hp:∀f:Nat->Int,f=hashAt->t.probe f hx (bE t m (t.probeStart hx))=U (.candidate (way t hx (m+n)) i (t.advance (bE t n (bE t m (t.probeStart hx))))):=λf e=>by rw[e];exact go2 i ti hi
   rw[hp]
   rotate_left
   rfl;dsimp only;obtain⟨PU,s_⟩:=ll ti;have PV:i<es.length:=by have:=T.len;simp at this;lia
   have OC:es[i]?=U es[i]:=by simp[PV]
   have hh:es[i].1=hx:=by
    have:=Jg i _ OC;rw[this]at hi;exact Zx.mp hi
   have HJ:es[i]∈es:=Xz PV;obtain⟨b,hb⟩:=hrefs _ HJ;have tail:wpAny (model prog w) A (do
     let some (_,y):=es.toArray[i]?|unsupported "internal:set-entry"
     let equal <-holding [y] (eqBool y x)
     let (es',_,t') <-setState a
     if L&&equal then return .there M
     let some same:=t'.sameMemory t.moves t.mask|unsupported "set.changed-during-lookup:is-the-new-block-at-the-old-address"
     let NP <-match(if same then t'.slot (way t hx (m+n)) else .empty)with
      |.live i'=>match es'[i']? with
       |some (_,y')=>do pure (if <-isSame y' y then U i' else M)
       |none=>pure M
      |_=>pure M
     match NP with
     |none=>rule "set.search.anew";setSearchFrom a x hx L fuel M
     |some i'=>if equal then return .there (U i') else setSearchFrom a x hx L fuel (U (t.advance (bE t n (bE t m (t.probeStart hx)))))) Q E s:=by
    have e1:es.toArray[i]?=U es[i]:=by simp[PV]
    rw[e1];dsimp only;refine Z_ (Y6 (heq _ HJ hh _ _ _ _ ?_));refine Z_ (YC ho hd Jm ?_);dsimp only;cases hq:Ji es[i].2 with
    |true=>
     simp only[Yb,Y_];exact Z6 (Mu ⟨_,HJ,hh,hq⟩)
    |false=>
     simp only[XC,ZZ,Zm];have sm:t.sameMemory t.moves t.mask=U L:=by unfold SetTable.sameMemory;rw[ZO (Yo _)]
     rw[sm];dsimp only;simp only[Y_];rw[ti];dsimp only;rw[e1];dsimp only;rw[hb];have e3:isSame (.ref b) (.ref b)=pure L:=by unfold isSame;dsimp only;rw[ZO (Yo _)]
     rw[e3];refine Z_ (Z6 (Z_ (Z6 ?_)));simp only[Y_,ZZ,Zm];have h1:m+n+1<=N:=by
      rcases Nat.lt_or_ge (m+n) N with z|z;lia;have zN:m+n=N:=by lia
      rcases Mg with⟨h,_⟩|⟨⟨i',e,h1,h2,h3,h4⟩,_⟩;rw[<-zN,ti]at h;cases h;rw[<-zN,ti]at h1;cases h1;rw[OC]at h2;cases h2;rw[hq]at h4;cases h4
     refine ih (m+n+1) _ h1 (by lia) ?_;show t.advance (bE t n (bE t m (t.probeStart hx)))=_;rw[<-dI,fF]
   cases F_:t.led with
   |true=>
    simp only[YR,ZZ,Zm];exact tail
   |false=>
    simp only[X5,Y_];refine Z_ (Iu _ (λy hy=>?_) _ ?_);obtain⟨e,he,rfl⟩:=ZV.mp hy;refine⟨e,?_,rfl⟩;have:e∈(es.toArray.filter λz=>z.1==hx).toList:=he;simp at this;exact this.1;simp only[ZZ,Zm];exact tail
end
end L2.G
namespace L2.G
open PySem PySem.Spec PyProof.Rows
variable[Lams]
def aaI(h:Heap)(a:ZM)(es:Z9 (Int×Z3))(led:Bool):Prop:=
 ∃o ep t,h.get? a=U o/\o.ExactSet/\o.data=.set es.toArray ep t/\Tab t (es.map (·.1))/\t.place.size*5<t.mask*3/\t.led=led
theorem Tab.plain(T:Tab t hs)(b:Bool):Tab {t with plain:=b} hs:=by
 refine⟨T.msk,T.dum,T.len,T.ris,T.le,λi h j e1 e2=>?_⟩;obtain⟨n,a1,a2,a3⟩:=T.rch i h j e1 e2;refine⟨n,a1,(bP (t:={t with plain:=b}) (u:=t) rfl _ _).trans a2,λm hm=>?_⟩;rw[bP (t:={t with plain:=b}) (u:=t) rfl];exact a3 m hm
def o7{es:Z9 (Int×Z3)}{order:Z9 Nat}(h:order.Perm (List.range es.length)):(order.filterMap (es[·]?)).Perm es/\(order.filterMap (es[·]?)).map (·.1)=order.map λi=>(es.map (·.1)).getD i 0:=by
 refine⟨?_,?_⟩;have h1:=h.filterMap (es[·]?);rw[List.filterMap_getElem?_range_length]at h1;exact h1;have hl:∀i∈order,i<es.length:=λi hi=>Y4.mp (h.mem_iff.mp hi);clear h
 induction order with
 |nil=>rfl
 |cons i order ih=>
  have hi:=hl i (ZX ..);rw[List.filterMap_cons,Z2];simp only[YV hi,Z2];rw[ih λk hk=>hl k (Z1 _ hk)];simp[hi]
section
variable{prog:YX}{w:YK}{A:Za}{E:Z3->ZR->Prop}{s:ZR}{a:ZM}
theorem wH(a:ZM)(wanted:Nat):setRelay a wanted=(do
  let (es,_,t) <-setState a
  if SetTable.sizeAbove wanted>sizeLine then unsupported "set:memory"
  let (es,t) <-(do
   let some (t,order):=t.relaid (es.map (·.1)) wanted|unsupported "internal:set-table-without-room"
   let es':=order.filterMap (es[·]?)
   if es'.size != es.size then unsupported "internal:set-table-lost-an-element"
   pure (es',t))
  storeSet a es t):=rfl
def dL{h:Heap}(ho:h.get? a=U o)(hd:o.data=.set es ep t):(h.update a (Obj.putSet es' t')).get? a=U {o with data:=.set es' (ep+1) t'}:=by
 have:=Zk (Obj.putSet es' t') ho (by rw[putSet_of es' t' hd];rfl);rw[putSet_of es' t' hd]at this;exact this
def BS{t:SetTable}{p:SetTable.Probe}(h:p.j+p.more<=t.mask):(t.advance p).j+(t.advance p).more<=t.mask:=by
 unfold SetTable.advance;split;dsimp only;lia;unfold SetTable.leap;dsimp only;have h1:(p.i*5+1+p.perturb / 32)%(t.mask+1)<t.mask+1:=WK _ (Xb _);have:=tP h1;have:=tS t.mask ((p.i*5+1+p.perturb / 32)%(t.mask+1));lia
def B8(t:SetTable)(hx:Int)(n:Nat):∃m,m<=t.mask/\way t hx n=m:=by
 have:∀n,(bE t n (t.probeStart hx)).j+(bE t n (t.probeStart hx)).more<=t.mask:=λn=>by
  induction n with
  |zero=>
   show(t.probeStart hx).j+(t.probeStart hx).more<=t.mask;unfold SetTable.probeStart;dsimp only;have h1:SetTable.bits hx%(t.mask+1)<t.mask+1:=WK _ (Xb _);have:=tP h1;have:=tS t.mask (SetTable.bits hx%(t.mask+1));lia
  |succ n ih=>rw[fF];exact BS ih
 exact⟨_,by have:=this n;show(bE t n (t.probeStart hx)).j<=t.mask;lia,rfl⟩
def oJ(T:Tab t (es.map (·.1)))(hg:t.mask*3<=es.length*5)(hl:es.length*5<t.mask*3+5)(Nl:es.length<=76):∃(Ki:Z9 (Int×Z3))(t2:SetTable)(order:Array Nat),t.relaid (es.toArray.map (·.1)) (SetTable.grown es.length)=U (t2,order)/\SetTable.sizeAbove (SetTable.grown es.length)<=128/\
  order.filterMap (es.toArray[·]?)=Ki.toArray/\order.toList.Perm (List.range es.length)/\Ki.Perm es/\Tab t2 (Ki.map (·.1))/\t2.place.size*5<t2.mask*3/\t2.led=t.led:=by
 obtain⟨m,e2,e3,e4⟩:∃m,SetTable.sizeAbove (SetTable.grown es.length)=m+1/\Msk m/\es.length*5<m*3:=by
  rcases T.msk with z|z|z;have h5:es.length=5:=by lia
  exact⟨31,by rw[h5];decide,.inr (.inl rfl),by lia⟩;have h5:es.length=19:=by lia
  exact⟨127,by rw[h5];decide,.inr (.inr rfl),by lia⟩;lia
 obtain⟨t',order,q1,q2,q3,q4,q5,q6,q7⟩:=A0 e3 (es.map (·.1)) (by simp;lia) t.finger (t.movedTo m) t.led t.plain;rw[ZY]at q2 q7;obtain⟨p1,p2⟩:=o7 q2;refine⟨order.toList.filterMap (es[·]?),t',order,?_,by rcases e3 with h|h|h<;>lia,by apply Array.ext';simp,q2,p1,by rw[p2];exact q3,by rw[q7,q4];exact e4,q5⟩;unfold SetTable.relaid;rw[List.map_toArray,e2,Nat.add_sub_cancel];exact q1
def xd(ho:s.heap.get? a=U o)(hex:o.ExactSet)(hd:o.data=.set es.toArray ep t)(T:Tab t (es.map (·.1)))(hf:t.place.size<=t.mask)(hg:t.mask*3<=es.length*5)(hl:es.length*5<t.mask*3+5)(Nl:es.length<=76)(h:∀es' t',es'.Perm es->aaI (s.heap.update a (Obj.putSet es'.toArray t')) a es' t.led->Q () {s with heap:=s.heap.update a (Obj.putSet es'.toArray t')}):
  wpAny (model prog w) A (setRelay a (SetTable.grown es.length)) Q E s:=by
 obtain⟨Ki,t2,order,e1,e2,e3,e4,p1,e5,e6,e7⟩:=oJ T hg hl Nl;have hlen:=p1.length_eq;rw[wH];refine Z_ (YC ho hd (by simpa using T.fits hf) ?_);dsimp only;rw[ZJ (by rw[Yi];lia),e1];dsimp only;rw[e3,show(Ki.toArray.size != es.toArray.size)=Y by simp[hlen]];simp only[ZZ,Zm];exact Z_ (Z6 (WE ho hd (h _ t2 p1 ⟨_,ep+1,t2,dL ho hd,hex,rfl,e5,e6,e7⟩) (by rw[Yi];simp[hlen];lia)))
def rB(T:Tab t (es.map (·.1)))(hn:n<10*SetTable.turns t.mask)(he:t.slot (way t hx n)=.empty)(hw:∀m,m<n->∃k,t.slot (way t hx m)=.live k)(x:Z3):∃(t1:SetTable)(p:Nat)(Ht:Z9 (Int×Z3)),t.put (way t hx n)=(t1,p)/\t1.mask=t.mask/\t1.led=t.led/\
  SetTable.insertAt es.toArray p (hx,x)=Ht.toArray/\Ht.Perm ((hx,x)::es)/\Tab t1 (Ht.map (·.1)):=by
 obtain⟨m,hm,e⟩:=B8 t hx n;refine⟨_,_,es.take _++(hx,x)::es.drop _,rfl,rfl,rfl,Array.ext' (by rw[Ww]),?_,?_⟩;have:=List.perm_middle (a:=(hx,x)) (l₁:=es.take (t.put (way t hx n)).2) (l₂:=es.drop (t.put (way t hx n)).2);rwa[X4]at this;rw[YU,Z2,List.map_take,List.map_drop];exact(T.put hn he hw (by lia)).1
def Tab.full(T:Tab t hs):t.tooFull=decide (t.place.size*5>=t.mask*3):=by
 unfold SetTable.tooFull SetTable.fill;rw[T.dum];rfl
def vq{es:Z9 (Int×Z3)}{n:Nat}{Q:Bool->ZR->Prop}(ho:s.heap.get? a=U o)(hex:o.ExactSet)(hd:o.data=.set es.toArray ep t)(T:Tab t (es.map (·.1)))(hf:t.place.size*5<t.mask*3)(Ly:es.length<=75)(hn:n<10*SetTable.turns t.mask)(he:t.slot (way t hx n)=.empty)(hw:∀m,m<n->∃k,t.slot (way t hx m)=.live k)(P6:∀R:Bool->ZR->Prop,(∀b,R b s)->wpAny (model prog w) A (hashByValue 8 x) R E s){J:Nat}(hJ:way t hx n=J)(h:∀h' es',Heap.SameBut a s.heap h'->es'.Perm ((hx,x)::es)->aaI h' a es' t.led->Q L {s with heap:=h'}):
  wpAny (model prog w) A (do
   let (es,_,t) <-setState a
   let (t,p):=t.put J
   let byValue <-if t.plain then hashByValue 8 x else pure L
   let t:=if byValue then t else{t with plain:=Y}
   storeSet a (SetTable.insertAt es p (hx,x)) t
   if !Y&&t.tooFull then setRelay a (SetTable.grown (es.size+1))
   return L) Q E s:=by
 subst hJ;have hl:=T.len;rw[ZY]at hl;refine Z_ (YC ho hd (by simpa using T.fits (by lia)) ?_);dsimp only;obtain⟨t1,p,Ht,Kj,J_,Je,ei,HU,T1⟩:=rB T hn he hw x;have Jt:=HU.length_eq;rw[bO]at Jt;rw[Kj];dsimp only;rw[ei];have core:∀tb:SetTable,Tab tb (Ht.map (·.1))->tb.mask=t.mask->tb.led=t.led->wpAny (model prog w) A (do
   storeSet a Ht.toArray tb
   if(!Y&&tb.tooFull)=L then do
     setRelay a (SetTable.grown (es.toArray.size+1))
     pure L
    else pure L) Q E s:=λtb Tb mb lb=>by
  have O8:=Tb.len;rw[ZY]at O8;refine Z_ (WE ho hd ?_ (by rw[Yi];simp[Jt];lia));have HG:=dL (es':=Ht.toArray) (t':=tb) ho hd;have Jv:Heap.SameBut a s.heap (s.heap.update a (Obj.putSet Ht.toArray tb)):=Ze s.heap a _;have tf:=Tb.full;cases IY:tb.tooFull with
  |false=>
   simp only[X5,XC,ZZ,Zm];rw[IY]at tf;have:=X6 tf.symm;exact Z6 (h _ Ht Jv HU ⟨_,ep+1,tb,HG,hex,rfl,Tb,by lia,lb⟩)
  |true=>
   simp only[X5,Yb,Y_];rw[IY]at tf;have LQ:=Zj tf.symm;rw[ZT,<-Jt];refine Z_ (xd (s:={s with heap:=s.heap.update a (Obj.putSet Ht.toArray tb)}) (o:={o with data:=.set Ht.toArray (ep+1) tb}) HG hex rfl Tb (by lia) (by lia) (by lia) (by lia) λKi t2 p2 S2=>?_);rw[lb]at S2;exact Z6 (h _ Ki (Jv.trans (Ze _ a _)) (p2.trans HU) S2)
 cases s_:t1.plain with
 |true=>
  simp only[Y_];exact Z_ (P6 _ λb=>by cases b;exact core _ (T1.plain Y) J_ Je;exact core _ T1 J_ Je)
 |false=>
  simp only[ZZ,Zm];exact Z_ (Z6 (core _ T1 J_ Je))
end
end L2.G
namespace L2.G
open PySem PySem.Spec PyProof.Rows
variable[Lams]
section
def AC(S:aaI s.heap a es led)(Ly:es.length<=75)(Ji:Z3->Bool)(hrefs:∀e∈es,∃b,e.2=.ref b)(heq:∀e∈es,e.1=hx->SeqAt.EqAt A s e.2 (.ref b) (Ji e.2))(himp:∀e∈es,Ji e.2=L->e.1=hx)(Iu:∀l:Z9 Z3,(∀y∈l,∃e∈es,e.2=y)->∀Q:Bool->ZR->Prop,Q Y s->wpAny (model prog w) A (searchCouldBeSeen (.ref b) l) Q E s)(P6:∀R:Bool->ZR->Prop,(∀b,R b s)->wpAny (model prog w) A (hashByValue 8 (.ref b)) R E s)(h1:(∃e∈es,Ji e.2=L)->Q Y s)(h2:(∀e∈es,Ji e.2=Y)->∀h' es',Heap.SameBut a s.heap h'->es'.Perm ((hx,.ref b)::es)->aaI h' a es' led->Q L {s with heap:=h'}):
  wpAny (model prog w) A (setAddHashed a (.ref b) hx) Q E s:=by
 obtain⟨o,ep,t,ho,hex,hd,T,hf,F_⟩:=S;have hl:=T.len;rw[ZY]at hl;have LR:t.place.size<=t.mask:=by lia
 have Jm:t.fits es.toArray.size=L:=by simpa using T.fits LR
 unfold setAddHashed setAddHashedIn;refine Y6 (Z_ (YC ho hd Jm ?_));dsimp only;have UR:byScan (.ref b) es.toArray=Y:=by unfold byScan Value.scannable;rfl
 rw[UR];simp only[ZZ,Zm];unfold setSearch;by_cases L9:∃e∈es,Ji e.2=L
 .obtain⟨e,OD,OE⟩:=L9
  obtain⟨i,hi,rfl⟩:=YZ.mp OD;have hh:=himp _ OD OE;have JN:i<t.place.size:=by lia
  obtain⟨N,n1,n2,n3⟩:=T.rch i es[i].1 t.place[i] (by simp[hi]) (by simp[JN]);rw[hh]at n2 n3;refine Z_ (fY ho hd T LR Ji hrefs heq Iu n1 n3 (.inr ⟨⟨i,es[i],by rw[n2];exact cW T.ris JN,by simp[hi],hh,OE⟩,?_⟩) (λ_=>?_) 100000 0 M (Zu _) ?_ rfl);exact Z6 (h1 ⟨_,OD,OE⟩);exact Z6 (h1 ⟨_,OD,OE⟩)
  .have:SetTable.turns t.mask<=142:=by unfold SetTable.turns;rcases T.msk with z|z|z<;>lia
   lia
 .have Ii:∀e∈es,Ji e.2=Y:=λe he=>by
   cases q:Ji e.2 with
   |false=>rfl
   |true=>exact absurd ⟨e,he,q⟩ L9
  obtain⟨N,n1,n2,n3⟩:=T.free LR hx;refine Z_ (fY ho hd T LR Ji hrefs heq Iu n1 n3 (.inl ⟨n2,λe he _=>Ii e he,?_⟩) (λ⟨e,he,_,q⟩=>absurd ⟨e,he,q⟩ L9) 100000 0 M (Zu _) ?_ rfl);exact vq ho hex hd T hf Ly n1 n2 n3 P6 rfl λh' es' k p S'=>h2 Ii h' es' k p (F_▸S')
  .have:SetTable.turns t.mask<=142:=by unfold SetTable.turns;rcases T.msk with z|z|z<;>lia
   lia
def mG(T:Tab t hs)(hn:n<10*SetTable.turns t.mask)(he:t.slot (way t hx n)=.empty)(hw:∀m,m<n->∃k,t.slot (way t hx m)=.live k):
  t.freeSlot hx=U (way t hx n,Y):=by
 unfold SetTable.freeSlot;have:=(i6 (t:=t) (hashAt:=λ_=>hx+1) (h:=hx) n (10*SetTable.turns t.mask) (t.probeStart hx) hn λm hm=>by
  obtain⟨k,hk⟩:=hw m hm;refine⟨k,hk,?_⟩;simp only[Wm,ne_eq];lia).1 he
 have e:t.probe (λ_=>hx+1) hx (t.probeStart hx)=U (.empty (way t hx n) M):=by
  unfold SetTable.probe;rw[this,eK];rfl
 rw[e];rfl
def xi(S:aaI s.heap a es led)(Ly:es.length<=75)(p_:(aA prog w).is k x=L)(Oo:x.scannable=L)(P0:ElemsOf (aA prog w) es)(h1:(∃e∈es,(aA prog w).is k e.2=L)->Q Y s)(h2:(∀e∈es,(aA prog w).is k e.2=Y)->∀h' es',Heap.SameBut a s.heap h'->es'.Perm (((aA prog w).hash k,x)::es)->aaI h' a es' led->Q L {s with heap:=h'}):
  wpAny (model prog w) A (setAddHashed a x ((aA prog w).hash k)) Q E s:=by
 obtain⟨o,ep,t,ho,hex,hd,T,hf,F_⟩:=S;have hl:=T.len;rw[ZY]at hl;have LR:t.place.size<=t.mask:=by lia
 have Jm:t.fits es.toArray.size=L:=by simpa using T.fits LR
 have NM:ElemsOf (aA prog w) es.toArray.toList:=by simpa using P0
 unfold setAddHashed setAddHashedIn;refine Y6 (Z_ (YC ho hd Jm ?_));dsimp only;rw[byScan_of Oo (by unfold scanBound;simp;lia) NM];simp only[↓reduceIte];unfold setAddByScan;refine Z_ ?_;refine Z_ (YD ?_);refine Z_ (wpAny_setScan_of p_ ho hd Jm NM ?_);cases hr:List.findIdx? (λe=>(aA prog w).is k e.2) es.toArray.toList with
 |some j=>
  dsimp only;obtain⟨hj,Uk,_⟩:=List.findIdx?_eq_some_iff_getElem.mp hr;refine Z6 (Z6 (h1 ⟨es[j]'(by simpa using hj),Xz _,by simpa using Uk⟩))
 |none=>
  dsimp only;have Ii:∀e∈es,(aA prog w).is k e.2=Y:=λe he=>List.findIdx?_eq_none_iff.mp hr e (by simpa using he);obtain⟨n,n1,n2,n3⟩:=T.free LR ((aA prog w).hash k);generalize hhx:(aA prog w).hash k=hx at n1 n2 n3 h2⊢;obtain⟨t1,p,Ht,Kj,J_,Je,ei,HU,T1⟩:=rB T n1 n2 n3 x;have Jt:=HU.length_eq;rw[bO]at Jt;have MH:=T1.len;rw[ZY]at MH;have QT:layNew t es.toArray hx x=(Ht.toArray,t1,Y,Y):=by
   unfold layNew;rw[mG T n1 n2 n3];dsimp only;rw[Kj];dsimp only;rw[ei];unfold SetTable.orStandIn;rw[show t1.fits Ht.toArray.size=L by simpa using T1.fits (by lia)];rfl
  rw[QT];dsimp only;refine Z_ (Z6 ?_);have core:∀tb:SetTable,Tab tb (Ht.map (·.1))->tb.mask=t.mask->tb.led=t.led->wpAny (model prog w) A (do
    storeSet a Ht.toArray tb
    if(!Y&&tb.tooFull)=L then do
      (match(relayAll tb Ht.toArray (SetTable.grown Ht.toArray.size)).2.2 with|true=>rule "set.scan.the-table-gave-way"|false=>pure ())
      storeSet a (relayAll tb Ht.toArray (SetTable.grown Ht.toArray.size)).1 (relayAll tb Ht.toArray (SetTable.grown Ht.toArray.size)).2.1
      pure (U L)
     else pure (U L)) (λr s'=>wpAny (model prog w) A (match r with|some added=>pure added|none=>setAddHashedIn a x hx 99999) Q E s') E s:=λtb Tb mb lb=>by
   have O8:=Tb.len;rw[ZY]at O8;refine Z_ (WE ho hd ?_ (by rw[Yi];simp[Jt];lia));have HG:=dL (es':=Ht.toArray) (t':=tb) ho hd;have Jv:Heap.SameBut a s.heap (s.heap.update a (Obj.putSet Ht.toArray tb)):=Ze s.heap a _;have tf:=Tb.full;cases IY:tb.tooFull with
   |false=>
    simp only[X5,XC,ZZ,Zm];rw[IY]at tf;have:=X6 tf.symm;exact Z6 (Z6 (h2 Ii _ Ht Jv HU ⟨_,ep+1,tb,HG,hex,rfl,Tb,by lia,lb.trans F_⟩))
   |true=>
    simp only[X5,Yb,Y_];rw[IY]at tf;have LQ:=Zj tf.symm;obtain⟨Ki,t2,order,e1,e2,e3,e4,p1,e5,e6,e7⟩:=oJ Tb (by lia) (by lia) (by lia);have c2:=e5.fits (by lia);rw[ZY]at c2;have er:relayAll tb Ht.toArray (SetTable.grown Ht.toArray.size)=(Ki.toArray,t2,Y):=by
     unfold relayAll;rw[ZT,e1];dsimp only;rw[e3,show coversAll order Ht.length=L by unfold coversAll;rw[List.isPerm_iff];exact e4,show t2.fits Ki.toArray.size=L by simpa using c2];rfl
    rw[er];refine Z_ (Z6 ?_);refine Z_ (WE (s:={s with heap:=s.heap.update a (Obj.putSet Ht.toArray tb)}) (o:={o with data:=.set Ht.toArray (ep+1) tb}) HG rfl ?_ (by rw[Yi];have:=p1.length_eq;simp[this,Jt];lia));exact Z6 (Z6 (h2 Ii _ Ki (Jv.trans (Ze _ a _)) (p1.trans HU) ⟨_,ep+2,t2,dL (o:={o with data:=.set Ht.toArray (ep+1) tb}) HG rfl,hex,rfl,e5,e6,e7.trans (lb.trans F_)⟩))
  split;refine Z_ ?_;rw[hashByValue_scannable 8 Oo];refine Z6 ?_;cases plainKind x with
  |true=>exact core _ T1 J_ Je
  |false=>exact core _ (T1.plain Y) J_ Je
  exact Z_ (Z6 (core _ T1 J_ Je))
end
end L2.G
namespace L2.G
open PySem PySem.Spec PyProof.Rows
variable[Lams]
def scD:D->Bool
 |.int _=>L
 |.str _=>L
 |_=>Y
abbrev El:=D×V×Z3
structure aaT (K:Z5)(B:ZM->Prop)(H:Hp)(sc:Bool)(t:El):Prop where
 rep:Rep K B H t.1 t.2.1
 rel:RelV t.2.1 t.2.2
 has:aR 8 t.1=true
 sc:scD t.1=sc
abbrev elE(w:YK)(t:El):Int×Z3:=(cr w t.1,t.2.2)
def cn{α β:Type}(f:α->β):∀{l1 l2:Z9 β},l1.Perm l2->∀l:Z9 α,l2=l.map f->∃l':Z9 α,l'.Perm l/\l1=l'.map f:=by
 intro l1 l2 p
 induction p with
 |nil=>intro l h;exact⟨l,Yy _,h⟩
 |cons x p ih=>
  intro l h;cases l with
  |nil=>cases h
  |cons a l=>
   simp only[Z2,Yg]at h;obtain⟨l',p',e'⟩:=ih l h.2;exact⟨a::l',List.Perm.cons a p',by rw[Z2,h.1,e']⟩
 |swap x y l0=>
  intro l h;cases l with
  |nil=>cases h
  |cons a l=>
   cases l with
   |nil=>cases h
   |cons b l=>
    simp only[Z2,Yg]at h;exact⟨b::a::l,List.Perm.swap a b l,by rw[Z2,Z2,h.1,h.2.1,h.2.2]⟩
 |trans p q Pn Pm=>
  intro l h;obtain⟨l2,p2,e2⟩:=Pm l h;obtain⟨l1,p1,e1⟩:=Pn l2 e2;exact⟨l1,p1.trans p2,e1⟩
section
variable{X:Cx}{pins:Z9 (ZM×Obj)}{σ:St}{H:Hp}{s:ZR}{B:ZM->Prop}{A:Za}{E:Z3->ZR->Prop}{a:ZM}{sc led:Bool}
theorem aaT.raw(h:aaT X.K B H sc t)(I:Inv X pins σ H s):RH s.heap t.1 t.2.2:=KR.raw I.hok (Rep.key h.has h.rep) h.rel
def oj(h:aaT X.K B H Y t):∃b,t.2.1=.ref b/\t.2.2=.ref b:=by
 obtain⟨d,x,u⟩:=t;have r:=h.rep;have q:=h.rel;have hs:=h.sc;have hh:=h.has;cases d with
 |tup ds=>
  simp only[Rep]at r;obtain⟨b,xs,rfl,_⟩:=r;exact⟨b,rfl,q⟩
 |int i=>cases hs
 |str i=>cases hs
 |_=>simp[aR]at hh
def lh:D->Key
 |.int i=>.inl i
 |.str x=>.inr x
 |_=>.inl 0
def tO(h:scD d=L)(h':scD e=L)(q:lh d=lh e):d=e:=by
 cases d<;>cases e<;>simp_all [scD,lh]
def Aw(h:aaT X.K B H L t):(aA X.prog X.w).is (lh t.1) t.2.2=L/\t.2.2.scannable=L/\(aA X.prog X.w).hash (lh t.1)=cr X.w t.1:=by
 obtain⟨d,x,u⟩:=t;have r:=h.rep;have q:=h.rel;have hs:=h.sc;cases d with
 |int i=>simp only[Rep]at r;subst r;obtain⟨tk,rfl⟩:=q;exact⟨gm _ _ _ _,rfl,by simp only[cr];rfl⟩
 |str i=>simp only[Rep]at r;subst r;obtain⟨tk,rfl⟩:=q;exact⟨fx _ _ _ _,rfl,by simp only[cr];rfl⟩
 |_=>cases hs
def FL(h:aaT X.K B H L t)(h':aaT X.K B H L t'):(aA X.prog X.w).is (lh t.1) t'.2.2=decide (t'.1=t.1):=by
 rw[KeyKind.is_eq_decide (Aw h').1];exact X8.mpr ⟨λe=>tO h'.sc h.sc e.symm,λe=>by rw[e]⟩
def By(I:Inv X pins σ H s)(ht:aaT X.K B H Y t)(l:Z9 Z3)(hl:∀y∈l,∃t':El,aaT X.K B H Y t'/\t'.2.2=y)(hQ:Q Y s):wpAny (model X.prog X.w) A (searchCouldBeSeen t.2.2 l) Q E s:=by
 unfold searchCouldBeSeen;refine Z_ ?_;refine X2 _ (λar b s'=>b.1=M/\s'=s/\∀y∈ar,∃t':El,aaT X.K B H Y t'/\t'.2.2=y) _ ?_ ?_ _ _ ⟨rfl,rfl,hl⟩
 rintro y ar b s' ⟨hb,rfl,hr⟩
 have RE:∀z∈ar,∃t':El,aaT X.K B H Y t'/\t'.2.2=z:=λz hz=>hr z (Z1 _ hz);obtain⟨t',h',rfl⟩:=hr y (ZX ..);obtain⟨c,_,hc⟩:=oj ht;obtain⟨c',_,LW⟩:=oj h';have q1:=ht.raw I;have q2:=h'.raw I;rw[hc]at q1⊢;rw[LW]at q2⊢;dsimp only;split;exact Z6 ⟨rfl,rfl,RE⟩;refine Z_ (lT 8 _ _ _ _ _ _ ht.has q1 ?_);simp only[YR,ZZ,Zm];refine Z_ (lT 8 _ _ _ _ _ _ h'.has q2 ?_);simp only[YR,ZZ,Zm];refine Z_ (sG 8 _ _ _ _ _ ht.has q1 ?_);simp only[ZZ,Zm];refine Z_ (sG 8 _ _ _ _ _ h'.has q2 ?_);simp only[ZZ,Zm];exact Z6 ⟨rfl,rfl,RE⟩
 rintro⟨b1,b2⟩ s' ⟨hb,rfl,_⟩
 simp only at hb;subst hb;exact Z6 hQ
def Eh(I:Inv X pins σ H s)(hA:A.units+32<cLine){ts:Z9 El}{Q:Bool->ZR->Prop}(S:aaI s.heap a (ts.map (elE X.w)) led)(Ly:ts.length<=75)(K6:∀t∈ts,aaT X.K B H sc t)(ht:aaT X.K B H sc t)(h:∀h' IB tk,s.toks<=tk->Heap.SameBut a s.heap h'->(IB=ts/\t.1∈ts.map (·.1)\/IB.Perm (t::ts)/\t.1∉ts.map (·.1))->aaI h' a (IB.map (elE X.w)) led->∀b,Q b {s with heap:=h',toks:=tk}):
  wpAny (model X.prog X.w) A (setAdd a t.2.2) Q E s:=by
 unfold setAdd;refine Y6 (Z_ ?_);refine xP 8 t.1 t.2.2 A s _ _ ht.has (by lia) (ht.raw I) ?_;have LK:=Nat.le_add_right s.toks (dk t.1);generalize s.toks+dk t.1=tk at LK⊢;have I':Inv X pins σ H {s with toks:=tk}:=I.tok tk;cases sc with
 |false=>
  obtain⟨b,_,hb⟩:=oj ht;have inj:∀t1∈ts,∀t2∈ts,t1.2.2=t2.2.2->t1.1=t2.1:=λt1 h1 t2 h2 e=>RH.inj ((K6 t1 h1).raw I) (e▸(K6 t2 h2).raw I);have S':aaI {s with toks:=tk}.heap a (ts.map (elE X.w)) led:=S
  open Classical in
  rw[hb];refine AC (s:={s with toks:=tk}) (led:=led) (es:=ts.map (elE X.w)) S' (by simpa using Ly) (λv=>decide (∃t1∈ts,t1.2.2=v/\t1.1=t.1)) ?_ ?_ ?_ ?_ ?_ ?_ ?_;intro e he;obtain⟨t1,h1,rfl⟩:=ZV.mp he;obtain⟨b1,_,u1⟩:=oj (K6 t1 h1);exact⟨b1,u1⟩;intro e he _;obtain⟨t1,h1,rfl⟩:=ZV.mp he;have:=FH 8 t1.1 t.1 t1.2.2 t.2.2 A (K6 t1 h1).has ht.has (by lia) ((K6 t1 h1).raw I') (ht.raw I');rw[hb]at this;have e2:decide (∃t2∈ts,t2.2.2=t1.2.2/\t2.1=t.1)=decide (t1.1=t.1):=by
   apply X8.mpr;constructor
   rintro⟨t2,h2,e1,e2⟩
   rw[<-inj t2 h2 t1 h1 e1];exact e2;exact λe=>⟨t1,h1,rfl,e⟩
  show SeqAt.EqAt A _ t1.2.2 (.ref b) (decide (∃t2∈ts,t2.2.2=t1.2.2/\t2.1=t.1));rw[e2];exact this;intro e he hq;obtain⟨t1,h1,rfl⟩:=ZV.mp he;obtain⟨t2,h2,e1,e2⟩:=Zj hq;show cr X.w t1.1=cr X.w t.1;rw[<-inj t2 h2 t1 h1 e1,e2];intro l hl Q' Qb;have:=By (A:=A) (E:=E) I' ht l (λy hy=>by
   obtain⟨e,he,rfl⟩:=hl y hy;obtain⟨t1,h1,rfl⟩:=ZV.mp he;exact⟨t1,K6 t1 h1,rfl⟩) Qb
  rw[hb]at this;exact this;intro R hR;have:=z0 (P:=X.prog) (w:=X.w) 8 t.1 t.2.2 A R E ht.has (ht.raw I') hR;rw[hb]at this;exact this
  rintro⟨e,he,hq⟩
  obtain⟨t2,h2,e1,e2⟩:=Zj hq;exact h s.heap ts tk LK (Heap.SameBut.refl a s.heap) (.inl ⟨rfl,ZV.mpr ⟨t2,h2,e2⟩⟩) S Y;intro Ii h' es' Jv hp S2;obtain⟨IB,pt,rfl⟩:=cn (elE X.w) hp (t::ts) (by rw[Z2];show _=(cr X.w t.1,t.2.2)::_;rw[hb]);refine h h' IB tk LK Jv (.inr ⟨pt,λhm=>?_⟩) S2 L;obtain⟨t2,h2,e2⟩:=ZV.mp hm;have:=Ii (elE X.w t2) (ZV.mpr ⟨t2,h2,rfl⟩);exact absurd ⟨t2,h2,rfl,e2⟩ (X6 this)
 |true=>
  obtain⟨k1,k2,k3⟩:=Aw ht;rw[<-k3];refine xi (s:={s with toks:=tk}) (led:=led) (es:=ts.map (elE X.w)) S (by simpa using Ly) k1 k2 ?_ ?_ ?_;intro e he;obtain⟨t1,h1,rfl⟩:=ZV.mp he;obtain⟨a1,a2,a3⟩:=Aw (K6 t1 h1);exact⟨⟨_,a1,a3.symm⟩,a2⟩
  rintro⟨e,he,hq⟩
  obtain⟨t1,h1,rfl⟩:=ZV.mp he;have hq:(aA X.prog X.w).is (lh t.1) t1.2.2=L:=hq;rw[FL ht (K6 t1 h1)]at hq;exact h s.heap ts tk LK (Heap.SameBut.refl a s.heap) (.inl ⟨rfl,ZV.mpr ⟨t1,h1,Zj hq⟩⟩) S Y;intro Ii h' es' Jv hp S2;rw[k3]at hp;obtain⟨IB,pt,rfl⟩:=cn (elE X.w) hp (t::ts) rfl;refine h h' IB tk LK Jv (.inr ⟨pt,λhm=>?_⟩) S2 L;obtain⟨t1,h1,e1⟩:=ZV.mp hm;have hq:=Ii (elE X.w t1) (ZV.mpr ⟨t1,h1,rfl⟩);have hq:(aA X.prog X.w).is (lh t.1) t1.2.2=Y:=hq;rw[FL ht (K6 t1 h1)]at hq;exact absurd e1 (X6 hq)
end
end L2.G
namespace L2.G
open PySem PySem.Spec PyProof.Rows
variable[Lams]
structure abY (X:Cx)(B:ZM->Prop)(H:Hp)(sc led:Bool)(h:Heap)(a:ZM)(done:List D)(ts:List El):Prop where
 at':aaI h a (ts.map (elE X.w)) led
 ok:∀t∈ts,aaT X.K B H sc t
 nd:(ts.map (·.1)).Nodup
 mem:∀d,d∈ts.map (·.1)↔d∈done
def aaI.same(S:aaI h a es led)(k:∀o,h.get? a=U o->h'.get? a=U o):aaI h' a es led:=by
 obtain⟨o,ep,t,ho,r⟩:=S;exact⟨o,ep,t,k o ho,r⟩
def nM{l m:Z9 D}(hl:l.Nodup)(h:∀x∈l,x∈m):l.length<=m.length:=by
 induction l generalizing m with
 |nil=>exact Zu _
 |cons x l ih=>
  have hx:=h x (ZX ..);obtain⟨h1,h2⟩:=YM.mp hl;have:=ih (m:=m.erase x) h2 λy hy=>(List.mem_erase_of_ne (λ(e:y=x)=>h1 (e▸hy))).mpr (h y (Z1 _ hy));rw[List.length_erase_of_mem hx]at this;have:0<m.length:=List.length_pos_of_mem hx;rw[bO];lia
def b0:Z9 D->Z9 D
 |[]=>[]
 |d::ds=>if d∈ds then b0 ds else d::b0 ds
theorem aK(x:D):∀ds:Z9 D,x∈b0 ds↔x∈ds
 |[]=>Iff.rfl
 |d::ds=>by
  unfold b0;split;rename_i h;rw[aK x ds,Z0];exact⟨.inr,λz=>z.elim (λe=>e▸h) id⟩;rw[Z0,Z0,aK x ds]
theorem br:∀ds:Z9 D,(b0 ds).Nodup
 |[]=>Yr
 |d::ds=>by
  unfold b0;split;exact br ds;rename_i h;exact YM.mpr ⟨λz=>h ((aK d ds).mp z),br ds⟩
def cU(ds:Z9 D):(b0 ds).length<=ds.length:=nM (br ds) λx hx=>(aK x ds).mp hx
section
variable{X:Cx}{pins:Z9 (ZM×Obj)}{σ:St}{H:Hp}{s:ZR}{B:ZM->Prop}{A:Za}{sc led:Bool}{R:Result->ZR->Prop}{It:ZM}{fp wr:Z9 ZM}{G:Array GenState->Array GenState->Prop}{n:Nat}{P:Nat->Z3->Prop}{St:Nat->ZR->Prop}
def vi(I:Inv X pins σ H s)(hA:A.units+40<cLine)(W:WalksS X.prog X.w A.in1 It fp wr G n P St)(hG:∀a b,G a b->b=a)(S:ZM)(OJ:S∉fp)(Qa:s.heap.get? S=M)(T9:∀b∈wr,s.heap.get? b=M)(ds:Z9 D)(hn:ds.length=n)(Nl:(b0 ds).length<=75)(NF:∀i v d,P i v->ds[i]?=U d->∃x,aaT X.K B H sc (d,x,v)):
  ∀(k i:Nat)(h:Heap)(tk:Nat)(ts:Z9 El),n - i=k->i<=n->St i {s with heap:=h,toks:=tk}->(∀b o,s.heap.get? b=U o->h.get? b=U o)->abY X B H sc led h S (ds.take i) ts->
   (∀h' Lo IB,(∀b o,s.heap.get? b=U o->h'.get? b=U o)->abY X B H sc led h' S ds IB->R (.ok (.ret .none)) {s with heap:=h',toks:=Lo})->
   codeAny (model X.prog X.w) A (.builtin "set.update.loop" ⟨[.ref S,.ref It],[]⟩) R {s with heap:=h,toks:=tk}:=by
 have Sl:S∉wr:=λh=>OJ (W.sub _ h);have back:∀{h:Heap}{tk:Nat}{s':ZR},(∀b o,s.heap.get? b=U o->h.get? b=U o)->Moved wr G {s with heap:=h,toks:=tk} s'->s'={s with heap:=s'.heap,toks:=s'.toks}/\∀b o,s.heap.get? b=U o->s'.heap.get? b=U o:=λ{h tk s'} hk hm=>by
  have e1:s'.gens=s.gens:=hG _ _ hm.gens;have e2:s'.drawn=s.drawn:=hm.drawn;have e3:s'.os=s.os:=hm.os;refine⟨?_,λb o e=>?_⟩;obtain⟨h',g',d',t',o'⟩:=s';simp only at e1 e2 e3;subst e1;subst e2;subst e3;rfl;refine hm.heap b o (λhb=>?_) (hk b o e);rw[T9 b hb]at e;cases e
 intro k
 induction k with
 |zero=>
  intro i h tk ts hk hi HG IW hF hR;have Ja:i=n:=by lia
  subst Ja;refine YQ F.entry_set_update_loop ?_;rw[Y9 Wc _];show wpAny _ A.in1 (pyNext (.ref It) >>= _) _ _ _;refine Z_ (W.done _ _ _ HG λs' hm=>?_);obtain⟨es,Iv⟩:=back IW hm;show wpAny _ A.in1 (ret Value.none) _ _ s';rw[es];refine Z6 (hR s'.heap s'.toks ts Iv ⟨hF.at'.same λo e=>hm.heap S o Sl e,hF.ok,hF.nd,λd=>?_⟩);rw[hF.mem d,<-hn,List.take_length]
 |succ k ih=>
  intro i h tk ts hk hi HG IW hF hR;have j_:i<n:=by lia
  refine YQ F.entry_set_update_loop ?_;rw[Y9 Wc _];show wpAny _ A.in1 (pyNext (.ref It) >>= _) _ _ _;refine Z_ (W.item i _ _ _ j_ HG λv s' hP NG hm=>?_);obtain⟨es,Iv⟩:=back IW hm;have PU:i<ds.length:=by lia
  obtain⟨x,hx⟩:=NF i v ds[i] hP (by simp[PU]);have Jg:aaI s'.heap S (ts.map (elE X.w)) led:=hF.at'.same λo e=>hm.heap S o Sl e;have I':Inv X pins σ H {s with heap:=s'.heap,toks:=s'.toks}:=I.kept Iv;have Ly:ts.length<=75:=by
   have:=nM hF.nd λd hd=>(aK d ds).mpr (List.mem_of_mem_take ((hF.mem d).mp hd));rw[ZY]at this;lia
  show wpAny _ A.in1 (holding [v] (setAdd S v) >>= _) _ _ s';refine Z_ (Y6 ?_);rw[es]at NG⊢;refine Eh (t:=(ds[i],x,v)) I' (by show A.units+1+32<cLine;lia) Jg Ly hF.ok hx λh' IB Lo LK Jv Um Lb b=>?_;have JD:∀b o,s.heap.get? b=U o->h'.get? b=U o:=λb o e=>by
   rw[Jv.2 b (λz=>by rw[z,Qa]at e;cases e)];exact Iv b o e
  have F':abY X B H sc led h' S (ds.take (i+1)) IB:=by
   have LB:ds.take (i+1)=ds.take i++[ds[i]]:=by rw[List.take_succ];simp[PU]
   rcases Um with⟨rfl,KU⟩|⟨hp,KU⟩;refine⟨Lb,hF.ok,hF.nd,λd=>?_⟩;rw[hF.mem d,LB,Zt,ZC];constructor;exact .inl
   rintro(h|rfl)
   exact h;exact(hF.mem _).mp KU;have Kg:=hp.map (·.1);rw[Z2]at Kg;refine⟨Lb,λt ht=>?_,?_,λd=>?_⟩;rcases Z0.mp (hp.mem_iff.mp ht)with rfl|h;exact hx;exact hF.ok t h;rw[Kg.nodup_iff,YM];exact⟨KU,hF.nd⟩;rw[Kg.mem_iff,Z0,hF.mem d,LB,Zt,ZC];exact Or.comm
  refine Z6 ⟨Yp Wc _,ih (i+1) h' Lo IB (by lia) j_ ?_ JD F' hR⟩;exact W.frame _ {s with heap:=s'.heap,toks:=s'.toks} _ _ NG LK λb hb o e=>by
   rw[Jv.2 b (λh:b=S=>OJ (by rw[<-h];exact hb))];exact e
end
end L2.G
namespace L2.G
open PySem PySem.Spec PyProof.Rows
variable[Lams]
abbrev cF(w:YK):Bool:=!w.params.followText "set-order"
abbrev dn(led:Bool):Obj:={cls:=.type "set",dict:=M,data:=.set #[] 0 (.fresh 0 0 led)}
section
def jJ(a:Z3)(h:Q₁ (.ref s.z) {s with heap:=s.heap.push (dn (cF w))}):
  codeAny (model prog w) A (.call (.builtin "set.__new__") ⟨[.type "set",a],[]⟩) (wants Q₁ E) s:=by
 refine codeAny_of_tree ?_;show wpAny _ A.in1 (do checkBuiltinCall "set.__new__" ⟨[.type "set",a],[]⟩;again (.builtin "set.__new__" ⟨[.type "set",a],[]⟩)) _ _ s;refine Z_ (Wg (F.newCall_set_1 a) (Z6 ⟨Yp F.plain_set_new _,YQ F.entry_set_new ?_⟩));rw[Y9 F.plain_set_new _];unfold Builtin.«set.__new__» Builtin.Frozenset.newClass;have Ko:=sub_set_self;obtain⟨hp,g,d,tk,os⟩:=s;dsimp only
 wp_walk
 refine Xu (Z6 ?_);dsimp only;simp only[newObj];refine Z_ (wpAny_alloc (Z6 ?_));exact Z6 h
end
section
variable{X:Cx}{A:Za}
def wu(e:h.get? a=U (dn (cF X.w))):abY X B H sc (cF X.w) h a [] []:=
 ⟨⟨_,0,_,e,⟨rfl,rfl,rfl⟩,rfl,Tab.fresh _ _ _,by simp[SetTable.fresh],rfl⟩,λt ht=>by simp at ht,Yr,λd=>Iff.rfl⟩
def qB(I:Inv X pins σ H s)(hh:A.handled=M)(hA:A.units+50<cLine)(hl:s.heap.IsList l items)(ds:Z9 D)(hlen:ds.length=items.size)(Nl:(b0 ds).length<=75)(P0:∀(i:Nat) v d,items[i]?=U v->ds[i]?=U d->∃x,aaT X.K B H sc (d,x,v))(h:∀(h':Heap)(tk:Nat) ts,(∀b o,s.heap.get? b=U o->h'.get? b=U o)->abY X B H sc (cF X.w) h' s.z ds ts->Q (.ref s.z) {s with heap:=h',toks:=tk}):
  wpAny (model X.prog X.w) A (call (.type "set") [.ref l]) Q E s:=by
 obtain⟨c,tl,VT⟩:=Xq.mro;have SJ:=Xq.made;have Ko:=Xq.sub;refine wpAny_call (codeAny_of_tree ?_);show wpAny _ _ (callAny (.type "set") _) _ _ _;refine Z6 ⟨Code.quiet_builtin _ (by decide +kernel),YQ F.entry_type_call ?_⟩;rw[Around.under_plain (weight_type_call_type "set" [.ref l] []) rfl];have h1:=Xq.notType;have h2:=Xq.canCreate;have hct:=F.typeCall_set_1 (.ref l)
 repeat (any_goals (first|assumption|wp_step))
 refine WW (jJ (.ref l) (E:=E) (Q₁:=λobj g_=>obj=.ref s.z/\g_={s with heap:=s.heap.push (dn (cF X.w))}) ⟨rfl,rfl⟩) λr g_ hr=>?_;cases r with
 |error e=>exact hr
 |ok fl=>
  cases fl with
  |ret obj=>
   obtain⟨rfl,rfl⟩:=hr;have hS:(s.heap.push (dn (cF X.w))).get? s.z=U (dn (cF X.w)):=ZN _ rfl;have hT:Shared.TypeIs {s with heap:=s.heap.push (dn (cF X.w))} (.ref s.z) "set":=⟨_,hS,rfl⟩
   have hli:=Xq.init.lookup;have hbi:=Xq.init.bind (.ref s.z)
   repeat (any_goals (first|assumption|wp_step))
   refine WW (codeAny_call_builtin (R:=wants (λr a_=>r=.none/\∃h' tk ts,a_={s with heap:=h',toks:=tk}/\abY X B H sc (cF X.w) h' s.z ds ts/\
     (∀b o,s.heap.get? b=U o->h'.get? b=U o)) E) Xq.init.plain F.entry_set_init (check_set_init_1 hT ?_)) λQs a_ KJ=>?_
   .obtain⟨ol,LL,Jb,nl,OG⟩:=hl
    obtain⟨VM,NQ,SH,Ms⟩:=ol;simp only at Jb OG;subst Jb;subst OG;have QG:(s.heap.push (dn (cF X.w))).get? l=U {cls:=.type "list",dict:=NQ,data:=.seq items nl,slots:=Ms}:=Z4 _ LL;have VP:=F.sub_list_set;have VQ:=F.sub_list_frozenset;have t_:(Value.type "list"==Value.type "dict")=Y:=by decide
    have Je:(s.heap.push (dn (cF X.w))).IsList l items:=⟨_,QG,rfl,nl,rfl⟩;unfold Builtin.«set.__init__» noKeywords Builtin.Frozenset.updateFrom;generalize U5:pyIter=PI
    wp_walk
    subst U5;refine Xh Je ?_;refine Z_ (wpAny_runValue ?_);have RQ:l<s.z:=ZQ LL;have UE:A.in1.in1.in1.handled=M:=by simp[hh]
    have QK:l≠(s.heap.push (dn (cF X.w))).objs.size:=by
     rw[YF];exact Zv (Nat.lt_succ_of_lt RQ)
    have OJ:s.z∉[(s.heap.push (dn (cF X.w))).objs.size,l]:=by
     rw[YF];simp only[Z0,ZC,Zr,YB,Xl];exact⟨Zv (Yj _),Nat.ne_of_gt RQ⟩
    have LC:∀b,s.z<=b->s.heap.get? b=M:=λb hb=>by
     cases q:s.heap.get? b with
     |none=>rfl
     |some o=>exact absurd (ZQ q) (Nat.not_lt.mpr hb)
    refine vi (s:=s) (X:=X) (σ:=σ) (pins:=pins) (H:=H) (B:=B) (sc:=sc) (led:=cF X.w) I ?_ ((Walks.list UE _ l QK items).toS) ?_ s.z
     OJ (LC _ (ZU _)) ?_ ds hlen Nl (λi v d hv hd=>P0 i v d hv hd) (items.size - 0) 0 _ s.toks [] (by lia) (Zu _)
     ⟨⟨_,ZN _ rfl,rfl,rfl⟩,(Je.push _)⟩ (λb o e=>Z4 _ (Z4 _ e)) ?_ ?_
    show A.units+1+1+40<cLine;lia;intro a b e;exact e;intro b hb;simp only[ZC]at hb;rw[hb,YF];exact LC _ (W0 _);exact wu (Z4 _ hS);intro h' Lo ts hk hF;show wpAny _ _ _ _ _ _;refine Z6 ?_;show wpAny _ _ (ret Value.none) _ _ _;exact Z6 ⟨rfl,h',Lo,ts,rfl,hF,hk⟩
   .cases Qs with
    |error e=>exact KJ
    |ok NY=>
     cases NY with
     |ret r=>
      obtain⟨rfl,h',tk,ts,rfl,hF,hk⟩:=KJ
      repeat (any_goals (first|assumption|wp_step))
      exact h _ _ _ hk hF
     |_=>exact KJ.elim
  |_=>exact hr.elim
end
end L2.G
namespace L2.G
open PySem PySem.Spec PyProof.Rows
variable[Lams]
def aC:Slot "set_iterator" "__next__" "set_iterator.__next__":=
 .of (owner:="set_iterator") (n:="__next__") (by rw[W8,XA];kernel_rfl) (by decide +kernel) (by decide +kernel) (by decide +kernel)
  (by first|exact .inl (by decide +kernel)|exact .inr (by decide +kernel)) (by rw[Wd];kernel_rfl)
def bC:entryFor table "set_iterator.__next__"=U Builtin.«set_iterator.__next__»:=entryFor_of_tree (by kernel_rfl)
def eV:Slot "set_iterator" "__iter__" "set_iterator.__iter__":=
 .of (owner:="set_iterator") (n:="__iter__") (by rw[W8,XA];kernel_rfl) (by decide +kernel) (by decide +kernel) (by decide +kernel)
  (by first|exact .inl (by decide +kernel)|exact .inr (by decide +kernel)) (by rw[Wd];kernel_rfl)
def iy:entryFor table "set_iterator.__iter__"=U Builtin.«dict_keyiterator.__iter__»:=
 entryFor_alias (id':="dict_keyiterator.__iter__") (by kernel_rfl) rfl (by decide +kernel) (by kernel_rfl)
def fK:entryFor table "set.__iter__"=U Builtin.«frozenset.__iter__»:=
 entryFor_alias (id':="frozenset.__iter__") (by kernel_rfl) rfl (by decide +kernel) (by kernel_rfl)
def bV(a:Z3):argsOk "set_iterator.__next__" ⟨[a],[]⟩:=by
 unfold argsOk;kernel_rfl
def ko(a:Z3):argsOk "set_iterator.__iter__" ⟨[a],[]⟩:=by
 unfold argsOk;kernel_rfl
def ca{α:Type}{l:Z9 α}{i:Nat}(h:i<l.length):(l[i]::l.eraseIdx i).Perm l:=by
 rw[Xi];refine List.perm_middle.symm.trans ?_;rw[<-Zs h,X4]
theorem gQ{α:Type}:∀(n:Nat)(xs:Z9 α)(s:ZR)(Q:Z9 α->ZR->Prop),xs.length=n->
  (∀ys d,ys.Perm xs->Q ys {s with drawn:=d})->wpAny (model prog w) A (drawOrder n xs) Q E s
 |0,xs,s,Q,hl,hQ=>by
  have:xs=[]:=YT.mp hl;subst this;unfold drawOrder;exact Z6 (hQ [] s.drawn (Yy _))
 |n+1,[],s,Q,hl,hQ=>by cases hl
 |n+1,x::xs,s,Q,hl,hQ=>by
  unfold drawOrder;refine Z_ (Q:=Q) ?_;intro Γ p V8;refine⟨by simp,?_⟩;generalize hd:s.drawn.bump .order=d1;generalize hi:(model prog w).w.draws .order (s.drawn.get .order)%(x::xs).length=i;have j_:i<(x::xs).length:=by rw[<-hi];exact WK _ (by simp)
  have key:wpAny (model prog w) A (match(x::xs)[i]? with|some y=>(do return y::(<-drawOrder n ((x::xs).eraseIdx i)))|none=>unsupported "internal:drawOrder") Q E {s with drawn:=d1}:=by
   rw[YV j_];dsimp only;refine Z_ (gQ n ((x::xs).eraseIdx i) _ _ (by rw[List.length_eraseIdx_of_lt j_,hl];rfl) λys d hp=>?_);refine Z6 (hQ _ d ?_);exact(List.Perm.cons _ hp).trans (ca j_)
  exact key
theorem uA{α:Type}(f:Nat->Nat):∀(fuel k:Nat)(left:Z9 α)(out:Array α),fuel=left.length->(pickOrder.go f fuel k left out).toList.Perm (out.toList++left)
 |0,k,left,out,h=>by
  have:left=[]:=YT.mp h.symm;subst this;unfold pickOrder.go;simp
 |fuel+1,k,left,out,h=>by
  unfold pickOrder.go;have j_:f k%left.length<left.length:=WK _ (by lia);rw[YV j_];dsimp only;refine(uA f fuel (k+1) _ _ (by rw[List.length_eraseIdx_of_lt j_];lia)).trans ?_;rw[YE,Zc];exact List.Perm.append_left _ (ca j_)
def fM{α:Type}(f:Nat->Nat)(xs:Array α):(pickOrder f xs).toList.Perm xs.toList:=by
 unfold pickOrder;simpa using uA f xs.size 0 xs.toList #[] (by simp)
end L2.G
namespace L2.G
open PySem PySem.Spec PyProof.Rows
variable[Lams]
structure aav (h:Heap)(S:ZM)(es:List (Int×Z3))(ep:Nat)(t:SetTable):Prop where
 ob:∃o,h.get? S=some o/\o.ExactSet/\o.data=.set es.toArray ep t
 tab:Tab t (es.map (·.1))
 few:t.place.size<=t.mask
theorem aav.fits(x:aav h S es ep t):t.fits es.toArray.size=L:=by simpa using x.tab.fits x.few
def aav.at{h h':Heap}(x:aav h S es ep t)(k:∀o,h.get? S=U o->h'.get? S=U o):aav h' S es ep t:=by
 obtain⟨⟨o,ho,r⟩,a,b⟩:=x;exact⟨⟨o,k o ho,r⟩,a,b⟩
def aau(h:Heap)(I:ZM)(first:Z3)(i:Nat)(S:ZM)(n ep:Nat):Prop:=∃o,h.get? I=U o/\o.cls=.type "set_iterator"/\o.data=.fields #[first,rawInt i,.ref S,rawInt n,rawInt ep]
def aau.typeIs{s:ZR}(x:aau s.heap I first i S n ep):s.TypeIs (.ref I) "set_iterator":=by
 obtain⟨o,ho,hc,_⟩:=x;exact⟨o,ho,hc⟩
def aau.at{h h':Heap}(x:aau h I first i S n ep)(k:∀o,h.get? I=U o->h'.get? I=U o):aau h' I first i S n ep:=by
 obtain⟨o,ho,r⟩:=x;exact⟨o,k o ho,r⟩
section
variable{A:Za}{s:ZR}{es:Z9 (Int×Z3)}
def eS{sl nx:Nat}{v:Z3}{Q:Z7 Z3->ZR->Prop}(t_:S≠I)(it:aau s.heap I (rawInt sl) i S es.length ep)(st:aav s.heap S es ep t)
  (hn:∀(s:ZR)(R:Z7 (Z3×Nat)->ZR->Prop)(E:Z3->ZR->Prop),aav s.heap S es ep t->R (U (v,nx)) s->wpAny (model prog w) A.in1 (setNext S sl i ep) R E s)
  (hQ:∀h',aau h' I (rawInt nx) (i+1) S es.length ep->(∀b o,b≠I->s.heap.get? b=U o->h'.get? b=U o)->Q (U v) {s with heap:=h'}):wpAny (model prog w) A (pyNext (.ref I)) Q E s:=by
 have hT:=it.typeIs;obtain⟨o,ho,hc,hd⟩:=it;unfold pyNext;refine Z_ (XO (Yw (name:=Str.ofString "__next__") hT aC (YW aC hT bC ?_ (bV _))));unfold Builtin.«set_iterator.__next__»;refine Z_ (m:=slotArgs "__next__" 0 _) (Z6 ?_);dsimp only;refine Z_ (WT ho hd ?_);dsimp only[rawInt];obtain⟨os,HL,hex,H_⟩:=st.ob;refine Z_ (Xm HL H_ st.fits ?_);refine dy (by simp) ?_;simp only[Int.toNat_natCast];refine Z_ (hn s _ _ st ?_);dsimp only;refine Z_ (Ye ho hd (by simp) ?_);have g1:=Zk (Obj.mapFields (·.setIfInBounds 0 (rawInt nx))) ho (XW (Y5 hd _));refine Z_ (Ye g1 (Y5 hd _) (by simp) ?_);have g2:=Zk (Obj.mapFields (·.setIfInBounds 1 (rawInt ((i:Int)+1)))) g1 (XW (Y5 (Y5 hd _) _));refine Z6 ⟨_,rfl,Z6 (hQ _ ?_ ?_)⟩;exact⟨_,g2,(Xg ..).trans ((Xg ..).trans hc),by rw[Y5 (Y5 hd _)];simp[rawInt]⟩;intro b o' hb e;exact(Zo _ _ (ZA hb)).trans ((Zo _ _ (ZA hb)).trans e)
def jk{ps:Z9 Nat}{Q:Z7 Z3->ZR->Prop}(t_:S≠I)(it:aau s.heap I (.ref T) i S es.length ep)(st:aav s.heap S es ep t)(ht:∃o n,s.heap.get? T=U o/\o.data=.seq (ps.map λ(k:Nat)=>rawInt k).toArray n)(hp:ps[i]?=U p)(he:es[p]?=U e)(hQ:∀h',aau h' I (.ref T) (i+1) S es.length ep->(∀b o,b≠I->s.heap.get? b=U o->h'.get? b=U o)->Q (U e.2) {s with heap:=h'}):wpAny (model prog w) A (pyNext (.ref I)) Q E s:=by
 have hT:=it.typeIs;obtain⟨o,ho,hc,hd⟩:=it;unfold pyNext;refine Z_ (XO (Yw (name:=Str.ofString "__next__") hT aC (YW aC hT bC ?_ (bV _))));unfold Builtin.«set_iterator.__next__»;refine Z_ (m:=slotArgs "__next__" 0 _) (Z6 ?_);dsimp only;refine Z_ (WT ho hd ?_);dsimp only[rawInt];obtain⟨os,HL,hex,H_⟩:=st.ob;refine Z_ (Xm HL H_ st.fits ?_);refine dy (by simp) ?_;simp only[Int.toNat_natCast];obtain⟨oT,nT,PL,P1⟩:=ht;refine Z_ (Yu PL P1 ?_);dsimp only;have e1:(ps.map λ(k:Nat)=>rawInt k).toArray[i]?=U (rawInt p):=by simp[hp]
 rw[e1];dsimp only[rawInt];simp only[Int.toNat_natCast];refine Z_ ?_;unfold setNextDrawn;refine Z_ (YC HL H_ st.fits ?_);dsimp only;refine dy (by simp) ?_;have e2:es.toArray[p]?=U e:=by simp[he]
 rw[e2];dsimp only;refine Z6 ?_;refine Z_ (Ye ho hd (by simp) ?_);have g2:=Zk (Obj.mapFields (·.setIfInBounds 1 (rawInt ((i:Int)+1)))) ho (XW (Y5 hd _));refine Z6 ⟨_,rfl,Z6 (hQ _ ?_ ?_)⟩;exact⟨_,g2,(Xg ..).trans hc,by rw[Y5 hd];simp[rawInt]⟩;intro b o' hb e;exact(Zo _ _ (ZA hb)).trans e
def gA{sl:Nat}{Q:Z7 Z3->ZR->Prop}(hh:A.handled=M)(it:aau s.heap I (rawInt sl) i S es.length ep)(st:aav s.heap S es ep t)
  (hn:∀(s:ZR)(R:Z7 (Z3×Nat)->ZR->Prop)(E:Z3->ZR->Prop),aav s.heap S es ep t->R M s->wpAny (model prog w) A.in1 (setNext S sl i ep) R E s)
  (hQ:∀h',(∀b o,b≠I->s.heap.get? b=U o->h'.get? b=U o)->Q M {s with heap:=h'}):wpAny (model prog w) A (pyNext (.ref I)) Q E s:=by
 have hT:=it.typeIs;obtain⟨o,ho,hc,hd⟩:=it;unfold pyNext;refine Z_ (XO (Yw (name:=Str.ofString "__next__") hT aC (YW aC hT bC ?_ (bV _))));unfold Builtin.«set_iterator.__next__»;refine Z_ (m:=slotArgs "__next__" 0 _) (Z6 ?_);dsimp only;refine Z_ (WT ho hd ?_);dsimp only[rawInt];obtain⟨os,HL,hex,H_⟩:=st.ob;refine Z_ (Xm HL H_ st.fits ?_);refine dy (by simp) ?_;simp only[Int.toNat_natCast];refine Z_ (hn s _ _ st ?_);dsimp only;refine Z_ (Ye ho hd (by simp) ?_);refine Z_ ?_;simp only[newExc,newTuple];refine Z_ (Y3 ?_ (by size_fits));refine Z_ (m:=firstArgMember _ _) (Wg (a:=Value.none) (by first|rfl|(simp only[firstArgMember];rfl)) ?_);refine Y3 ?_ (by size_fits);simp only[raiseNew];refine Z_ (wpAny_handled ?_);rw[show A.in1.handled=M from hh];refine Z_ (Z6 (wpAny_throw ?_));refine Z_ (X3 (T:="StopIteration") (b:=L) ⟨_,ZN _ rfl,rfl⟩ WR ?_);exact Z6 (hQ _ λb o' hb e=>Z4 _ (Z4 _ ((Zo _ _ (ZA hb)).trans e)))
def jy{ps:Z9 Nat}{Q:Z7 Z3->ZR->Prop}(hh:A.handled=M)(it:aau s.heap I (.ref T) i S es.length ep)(st:aav s.heap S es ep t)(ht:∃o n,s.heap.get? T=U o/\o.data=.seq (ps.map λ(k:Nat)=>rawInt k).toArray n)(hp:ps[i]?=M)(hQ:∀h',(∀b o,b≠I->s.heap.get? b=U o->h'.get? b=U o)->Q M {s with heap:=h'}):wpAny (model prog w) A (pyNext (.ref I)) Q E s:=by
 have hT:=it.typeIs;obtain⟨o,ho,hc,hd⟩:=it;unfold pyNext;refine Z_ (XO (Yw (name:=Str.ofString "__next__") hT aC (YW aC hT bC ?_ (bV _))));unfold Builtin.«set_iterator.__next__»;refine Z_ (m:=slotArgs "__next__" 0 _) (Z6 ?_);dsimp only;refine Z_ (WT ho hd ?_);dsimp only[rawInt];obtain⟨os,HL,hex,H_⟩:=st.ob;refine Z_ (Xm HL H_ st.fits ?_);refine dy (by simp) ?_;simp only[Int.toNat_natCast];obtain⟨oT,nT,PL,P1⟩:=ht;refine Z_ (Yu PL P1 ?_);dsimp only;have e1:(ps.map λ(k:Nat)=>rawInt k).toArray[i]?=M:=by simpa using hp
 rw[e1];dsimp only;refine Z_ (Ye ho hd (by simp) ?_);have g1:=Zk (Obj.mapFields (·.setIfInBounds 0 (rawInt 0))) ho (XW (Y5 hd _));refine Z_ (Ye g1 (Y5 hd _) (by simp) ?_);refine Z_ ?_;simp only[newExc,newTuple];refine Z_ (Y3 ?_ (by size_fits));refine Z_ (m:=firstArgMember _ _) (Wg (a:=Value.none) (by first|rfl|(simp only[firstArgMember];rfl)) ?_);refine Y3 ?_ (by size_fits);simp only[raiseNew];refine Z_ (wpAny_handled ?_);rw[show A.in1.handled=M from hh];refine Z_ (Z6 (wpAny_throw ?_));refine Z_ (X3 (T:="StopIteration") (b:=L) ⟨_,ZN _ rfl,rfl⟩ WR ?_);exact Z6 (hQ _ λb o' hb e=>Z4 _ (Z4 _ ((Zo _ _ (ZA hb)).trans ((Zo _ _ (ZA hb)).trans e))))
def lQ{Q:Z3->ZR->Prop}(it:aau s.heap I first i S n ep)(hQ:Q (.ref I) s):wpAny (model prog w) A (pyIter (.ref I)) Q E s:=by
 refine wpAny_pyIter_slot it.typeIs eV (YW eV it.typeIs iy ?_ (ko _));show wpAny _ _ (ret (.ref I)) _ _ s;exact Z6 ⟨_,rfl,"set_iterator",_,it.typeIs,aC.lookup,hQ⟩
end
end L2.G
namespace L2.G
open PySem PySem.Spec PyProof.Rows
variable[Lams]
section
variable{w:YK}{s:ZR}
theorem gP(a:ZM)(slot given Il:Nat):setNext a slot given Il=(do
  let (es,NZ,t) <-setState a
  if <-setsByText then
   if NZ != Il then unsupported "set_iterator.__next__:elements-changed"
   return ((<-setWalk a)[given]?).map λe=>(e.2,slot)
  if !t.plain&&es.size>1 then unsupported "set_iterator.__next__:the-table-is-plain-no-more"
  (if(!t.led&&!es.isEmpty)=L then unsupported "set:maker-not-led" else pure ():Sem Unit)
  let i:=SetTable.below t.place slot
  return match es[i]?,t.place[i]? with
   |some (_,x),some j=>U (x,j+1)
   |_,_=>M):=rfl
def kG(hb:w.params.followText "set-order"=L)(st:aav s.heap S es ep t)(h:R (((pickOrder (w.params.setOrder S ep) es.toArray)[i]?).map λe=>(e.2,sl)) s):wpAny (model prog w) A (setNext S sl i ep) R E s:=by
 obtain⟨os,HL,hex,H_⟩:=st.ob;rw[gP];refine Z_ (YC HL H_ st.fits ?_);dsimp only;unfold setsByText;refine Z_ (Z_ (Xu (Z6 ?_)));show wpAny _ _ (if w.params.followText "set-order"=L then _ else _) _ _ _;rw[ZO hb,ZJ (by simp)];refine Z_ ?_;unfold setWalk setsByText;refine Z_ (YC HL H_ st.fits ?_);dsimp only;refine Z_ (Z_ (Xu (Z6 ?_)));show wpAny _ _ (if w.params.followText "set-order"=L then _ else _) _ _ _;refine eL hb ?_;refine Z_ (Xu (Z6 ?_));exact Z6 h
def jA(hb:w.params.followText "set-order"=Y)(st:aav s.heap S es ep t)(F_:t.led=L)(s_:(!t.plain&&decide (es.toArray.size>1))=Y)(h:R (match es.toArray[SetTable.below t.place sl]?,t.place[SetTable.below t.place sl]? with|some (_,x),some j=>U (x,j+1)|_,_=>M) s):wpAny (model prog w) A (setNext S sl i ep) R E s:=by
 obtain⟨os,HL,hex,H_⟩:=st.ob;rw[gP];refine Z_ (YC HL H_ st.fits ?_);dsimp only;unfold setsByText;refine Z_ (Z_ (Xu (Z6 ?_)));show wpAny _ _ (if w.params.followText "set-order"=L then _ else _) _ _ _;rw[ZJ (by rw[hb];exact Zh),ZJ (by rw[s_];exact Zh),ZJ (by rw[F_];simp)];refine Z_ (Z6 ?_);exact Z6 h
end
def kP(t:SetTable)(i:Nat):Nat:=match i with|0=>0|k+1=>t.place.getD k 0+1
def o9(T:Tab t hs):SetTable.below t.place 0=0:=by
 obtain⟨h1,h2,h3⟩:=dO T.ris 0;rcases Nat.eq_zero_or_pos (SetTable.below t.place 0)with z|z;exact z;have:=h1 0 (by lia) z;exact absurd this (Xw _)
def eO(T:Tab t hs)(hi:i<=t.place.size):SetTable.below t.place (kP t i)=i:=by
 cases i with
 |zero=>exact o9 T
 |succ k=>
  have hk:k<t.place.size:=by lia
  show SetTable.below t.place (t.place.getD k 0+1)=k+1;have:t.place.getD k 0=t.place[k]:=by simp[Array.getD,hk]
  rw[this];exact qr T.ris hk
section
variable{w:YK}{A:Za}{E:Z3->ZR->Prop}{s:ZR}{es:Z9 (Int×Z3)}{t:SetTable}
def pT(hb:w.params.followText "set-order"=L)(hh:A.handled=M)(t_:S≠I):Walks prog w A I [I,S] [I] es.length (λi v=>((pickOrder (w.params.setOrder S ep) es.toArray).toList.map (·.2))[i]?=U v)
  (λi h=>aau h I (rawInt 0) i S es.length ep/\aav h S es ep t) where
 sub:=λb hb=>by simp at hb;simp[hb]
 frame:=λ_ _ _ st hk=>⟨st.1.at λo e=>hk I (by simp) o e,st.2.at λo e=>hk S (by simp) o e⟩
 item:=λi s Q E hi st hQ=>by
  have hl:(pickOrder (w.params.setOrder S ep) es.toArray).toList.length=es.length:=by have:=(fM (w.params.setOrder S ep) es.toArray).length_eq;simpa using this
  have k_:i<(pickOrder (w.params.setOrder S ep) es.toArray).size:=by rw[<-Array.length_toList];lia
  refine eS (sl:=0) (nx:=0) (v:=((pickOrder (w.params.setOrder S ep) es.toArray)[i]).2) t_ st.1 st.2 (λs R E e_ hR=>kG hb e_ (by rw[Zb k_];exact hR)) λh' Kf k=>?_;exact hQ _ h' s.toks (by simp[k_]) ⟨Kf,st.2.at λo e=>k S o t_ e⟩ λb o hb e=>k b o (λz=>hb (by simp[z])) e
 done:=λs Q E st hQ=>by
  have hl:(pickOrder (w.params.setOrder S ep) es.toArray).size=es.length:=by have:=(fM (w.params.setOrder S ep) es.toArray).length_eq;simpa using this
  exact gA hh st.1 st.2 (λs R E e_ hR=>kG hb e_ (by rw[XJ (by lia)];exact hR)) λh' k=>hQ h' s.toks λb o hb e=>k b o (λz=>hb (by simp[z])) e
 self:=λ_ _ _ _ st hQ=>lQ st.1 hQ
def pQ(hb:w.params.followText "set-order"=Y)(F_:t.led=L)(s_:(!t.plain&&decide (es.toArray.size>1))=Y)(hh:A.handled=M)(t_:S≠I):Walks prog w A I [I,S] [I] es.length (λi v=>(es.map (·.2))[i]?=U v)
  (λi h=>aau h I (rawInt (kP t i)) i S es.length ep/\aav h S es ep t) where
 sub:=λb hb=>by simp at hb;simp[hb]
 frame:=λ_ _ _ st hk=>⟨st.1.at λo e=>hk I (by simp) o e,st.2.at λo e=>hk S (by simp) o e⟩
 item:=λi s Q E hi st hQ=>by
  have hl:=st.2.tab.len;rw[ZY]at hl;have JN:i<t.place.size:=by lia
  refine eS (sl:=kP t i) (nx:=kP t (i+1)) (v:=es[i].2) t_ st.1 st.2 (λs R E e_ hR=>jA hb e_ F_ s_ (by
   rw[eO st.2.tab (by lia)];rw[show es.toArray[i]?=U es[i] by simp[hi],Zb JN];dsimp only;have:kP t (i+1)=t.place[i]+1:=by show t.place.getD i 0+1=_;simp[Array.getD,JN]
   rw[this]at hR;exact hR)) λh' Kf k=>?_
  exact hQ _ h' s.toks (by simp[hi]) ⟨Kf,st.2.at λo e=>k S o t_ e⟩ λb o hb e=>k b o (λz=>hb (by simp[z])) e
 done:=λs Q E st hQ=>by
  have hl:=st.2.tab.len;rw[ZY]at hl;exact gA hh st.1 st.2 (λs R E e_ hR=>jA hb e_ F_ s_ (by
   rw[eO st.2.tab (by lia)];rw[show es.toArray[es.length]?=M by simp];exact hR)) λh' k=>hQ h' s.toks λb o hb e=>k b o (λz=>hb (by simp[z])) e
 self:=λ_ _ _ _ st hQ=>lQ st.1 hQ
def mF{ps:Z9 Nat}(hp:ps.Perm (List.range es.length))(hh:A.handled=M)(t_:S≠I)(U2:T≠I):Walks prog w A I [I,S,T] [I] es.length (λi v=>((ps.filterMap (es[·]?)).map (·.2))[i]?=U v)
  (λi h=>aau h I (.ref T) i S es.length ep/\aav h S es ep t/\∃o n,h.get? T=U o/\o.data=.seq (ps.map λ(k:Nat)=>rawInt k).toArray n) where
 sub:=λb hb=>by simp at hb;simp[hb]
 frame:=λ_ _ _ st hk=>⟨st.1.at λo e=>hk I (by simp) o e,st.2.1.at λo e=>hk S (by simp) o e,by obtain⟨o,n,e,r⟩:=st.2.2;exact⟨o,n,hk T (by simp) o e,r⟩⟩
 item:=λi s Q E hi st hQ=>by
  have s_:=hp.length_eq;rw[Xj]at s_;have JN:i<ps.length:=by lia
  have PJ:ps[i]<es.length:=Y4.mp (hp.mem_iff.mp (Xz JN));refine jk (ps:=ps) (p:=ps[i]) (e:=es[ps[i]]) t_ st.1 st.2.1 st.2.2 (by simp[JN]) (by simp[PJ]) λh' Kf k=>?_;refine hQ _ h' s.toks ?_ ⟨Kf,st.2.1.at λo e=>k S o t_ e,by obtain⟨o,n,e,r⟩:=st.2.2;exact⟨o,n,k T o U2 e,r⟩⟩ λb o hb e=>k b o (λz=>hb (by simp[z])) e;have e1:ps.filterMap (es[·]?)=ps.map λk=>es.getD k (0,.none):=by
   have w_:∀k∈ps,k<es.length:=λk hk=>Y4.mp (hp.mem_iff.mp hk);clear s_ JN PJ hp hi hQ st
   induction ps with
   |nil=>rfl
   |cons k ps ih=>
    have hk:=w_ k (ZX ..);rw[List.filterMap_cons,YV hk,Z2,ih λz hz=>w_ z (Z1 _ hz)];simp[hk]
  rw[e1];simp[JN,PJ]
 done:=λs Q E st hQ=>by
  have s_:=hp.length_eq;rw[Xj]at s_;exact jy hh st.1 st.2.1 st.2.2 (by rw[YI (by lia)]) λh' k=>hQ h' s.toks λb o hb e=>k b o (λz=>hb (by simp[z])) e
 self:=λ_ _ _ _ st hQ=>lQ st.1 hQ
end
end L2.G
namespace L2.G
open PySem PySem.Spec PyProof.Rows
variable[Lams]
theorem lK(a:ZM):setDrawn a=(do
  let (es,_,t) <-setState a
  let Mz <-setsByText
  return !Mz&&(!t.plain&&es.size>1)):=rfl
def r0:typeLookup (.type "set") "__len__"=pure (U (.builtin "set.__len__")):=F.slot_set_len.lookup
section
variable{A:Za}
def vK(st:aav s.heap S es ep t)(F_:t.led=cF w)(hn:es.length<=1000){Q:Z3->ZR->Prop}(hQ:∀(I:ZM)(vs:Z9 Z3)(fp:Z9 ZM)(St:Nat->Heap->Prop)(h':Heap)(d:Drawn),vs.Perm (es.map (·.2))->(∀A':Za,A'.handled=M->Walks prog w A' I fp [I] es.length (λi v=>vs[i]?=U v) St)->St 0 h'->
   (∀b o,s.heap.get? b=U o->h'.get? b=U o)->s.heap.objs.size<=I->I∈fp->(∀b∈fp,b=S\/s.heap.objs.size<=b)->Q (.ref I) {s with heap:=h',drawn:=d}):wpAny (model prog w) A (pyIter (.ref S)) Q E s:=by
 obtain⟨os,HL,hex,H_⟩:=id st.ob;have hT:s.TypeIs (.ref S) "set":=⟨os,HL,hex.1⟩;have JY:S<s.heap.objs.size:=ZQ HL;refine wpAny_pyIter_slot hT F.slot_set_iter (YW F.slot_set_iter hT fK ?_ (F.args_set_iter_1 _));unfold Builtin.«frozenset.__iter__» Builtin.Frozenset.slot0 slotArgs;simp only[List.isEmpty_nil,YR,ZZ,↓reduceIte,bind_assoc,gC,bne_self_eq_false];unfold Builtin.Frozenset.addrOf Builtin.Frozenset.sizeOf;refine Z_ (Z6 ?_)
 try dsimp only
 refine Z_ (Z6 ?_);refine Z_ (Z_ (Xm HL H_ st.fits (Z6 ?_)));refine Z_ ?_;rw[lK];refine Z_ (YC HL H_ st.fits ?_);dsimp only;refine Z_ ?_;unfold setsByText;refine Z_ (Xu (Z6 ?_));refine Z6 ?_;have hsz:es.toArray.size=es.length:=by simp
 show wpAny _ _ (if(!w.params.followText "set-order"&&(!t.plain&&decide (es.toArray.size>1)))=L then _ else _) _ _ _;by_cases OF:(!w.params.followText "set-order"&&(!t.plain&&decide (es.toArray.size>1)))=L;refine eL OF ?_;refine Z_ (gQ es.toArray.size (List.range es.toArray.size) s _ (by simp) λps d hp=>?_);rw[hsz]at hp⊢;have s_:=hp.length_eq;rw[Xj]at s_;unfold newTuple;refine Z_ (Y3 ?_ (by show(ps.map λ(i:Nat)=>rawInt i).toArray.size<=sizeLine;rw[Yi];simp;lia));have g1:(s.heap.push {cls:=.type "tuple",data:=.seq (ps.map λ(i:Nat)=>rawInt i).toArray}).get? S=U os:=Z4 _ HL;refine Z_ (wpAny_setEpoch_of (s:={s with heap:=s.heap.push {cls:=.type "tuple",data:=.seq (ps.map λ(i:Nat)=>rawInt i).toArray},drawn:=d}) g1 H_ st.fits ?_);unfold newFields;refine Z_ (Y3 ?_ (by size_fits));refine Z6 ⟨_,rfl,"set_iterator",_,⟨_,ZN _ rfl,rfl⟩,aC.lookup,?_⟩;have N5:(s.heap.push {cls:=.type "tuple",data:=.seq (ps.map λ(i:Nat)=>rawInt i).toArray}).objs.size=s.heap.objs.size+1:=YF ..;refine hQ (s.heap.push {cls:=.type "tuple",data:=.seq (ps.map λ(i:Nat)=>rawInt i).toArray}).objs.size ((ps.filterMap (es[·]?)).map (·.2)) [(s.heap.push {cls:=.type "tuple",data:=.seq (ps.map λ(i:Nat)=>rawInt i).toArray}).objs.size,S,s.heap.objs.size] _ _ d ((o7 hp).1.map _)
  (λA' Jy=>mF (T:=s.heap.objs.size) (ps:=ps) (es:=es) (S:=S) (ep:=ep) (t:=t) hp Jy ?_ ?_) ?_ (λb o e=>Z4 _ (Z4 _ e)) ?_ (by simp) ?_
 rw[N5];exact Zv (Nat.lt_succ_of_lt JY);rw[N5];exact Zv (Yj _);exact⟨⟨_,ZN _ rfl,rfl,rfl⟩,st.at λo e=>Z4 _ (Z4 _ e),_,_,Z4 _ (ZN _ rfl),rfl⟩;rw[N5];exact W0 _;intro b hb;simp only[Z0,Zr,YB]at hb;rcases hb with rfl|rfl|rfl
 right;rw[N5];exact W0 _
 left;rfl
 right;exact ZU _
 refine dy OF ?_;refine Z_ (Z6 ?_);refine Z_ (wpAny_setEpoch_of HL H_ st.fits ?_);unfold newFields;refine Z_ (Y3 ?_ (by size_fits));refine Z6 ⟨_,rfl,"set_iterator",_,⟨_,ZN _ rfl,rfl⟩,aC.lookup,?_⟩;rw[hsz];have fin:∀(vs:Z9 Z3)(St:Nat->Heap->Prop),vs.Perm (es.map (·.2))->(∀A':Za,A'.handled=M->Walks prog w A' s.heap.objs.size [s.heap.objs.size,S] [s.heap.objs.size] es.length (λi v=>vs[i]?=U v) St)->
   St 0 (s.heap.push {cls:=.type "set_iterator",data:=.fields [rawInt 0,rawInt 0,.ref S,rawInt es.length,rawInt ep].toArray})->
   Q (.ref s.heap.objs.size) {s with heap:=s.heap.push {cls:=.type "set_iterator",data:=.fields [rawInt 0,rawInt 0,.ref S,rawInt es.length,rawInt ep].toArray}}:=λvs St hp W h0=>by
  refine hQ s.heap.objs.size vs [s.heap.objs.size,S] St _ s.drawn hp W h0 (λb o e=>Z4 _ e) (ZU _) (by simp) λb hb=>?_;simp only[Z0,Zr,YB]at hb;rcases hb with rfl|rfl
  exact .inr (ZU _);exact .inl rfl
 cases OI:w.params.followText "set-order" with
 |true=>
  refine fin _ _ ?_ (λA' Jy=>pT (S:=S) (es:=es) (ep:=ep) (t:=t) OI Jy (Zv JY)) ⟨⟨_,ZN _ rfl,rfl,rfl⟩,st.at λo e=>Z4 _ e⟩;have:=(fM (w.params.setOrder S ep) es.toArray).map (·.2);simpa using this
 |false=>
  have s_:(!t.plain&&decide (es.toArray.size>1))=Y:=by
   rw[OI]at OF;simpa using OF
  exact fin _ _ (Yy _) (λA' Jy=>pQ (S:=S) (es:=es) (ep:=ep) (t:=t) OI (by rw[F_,cF,OI];rfl) s_ Jy (Zv JY)) ⟨⟨_,ZN _ rfl,rfl,rfl⟩,st.at λo e=>Z4 _ e⟩
def mC(hh:A.handled=M)(st:aav s.heap S es ep t)(F_:t.led=cF w)(hn:es.length<=1000)(hQ:∀(vs:Z9 Z3)(h':Heap)(d:Drawn)(tk:Nat),vs.Perm (es.map (·.2))->(∀b o,s.heap.get? b=U o->h'.get? b=U o)->s.heap.objs.size<=h'.objs.size->Q vs {s with heap:=h',drawn:=d,toks:=tk}):wpAny (model prog w) A (collect (.ref S)) Q E s:=by
 obtain⟨os,HL,hex,H_⟩:=id st.ob;have JY:S<s.heap.objs.size:=ZQ HL;unfold collect;refine Z_ (wpAny_runValue (YQ F.entry_proto_collect ?_));rw[Y9 F.plain_proto_collect _];show wpAny _ A.in1 (newList [] >>= λl=>again (.builtin "list.__iadd__" ⟨[l,.ref S],[]⟩)) _ _ s;refine Z_ (Y3 ?_);refine Z6 ⟨Yp F.plain_list_iadd _,YQ F.entry_list_iadd ?_⟩;rw[Y9 F.plain_list_iadd _];generalize hL:s.heap.objs.size=Lq;have QF:aav (s.heap.push {cls:=.type "list",data:=.seq ([]:Z9 Z3).toArray}) S es ep t:=st.at λo e=>Z4 _ e;have g0:(s.heap.push {cls:=.type "list",data:=.seq ([]:Z9 Z3).toArray}).get? Lq=U {cls:=.type "list",data:=.seq ([]:Z9 Z3).toArray}:=by rw[<-hL];exact ZN _ rfl
 have Ni:(s.heap.push {cls:=.type "list",data:=.seq ([]:Z9 Z3).toArray}).get? S=U os:=Z4 _ HL;have U3:Shared.TypeIs {s with heap:=s.heap.push {cls:=.type "list",data:=.seq ([]:Z9 Z3).toArray}} (.ref S) "set":=⟨os,Ni,hex.1⟩
 show wpAny _ A.in1 (Builtin.List.listExtendWith (.ref Lq) (.ref S) (.ref Lq)) _ _ _;unfold Builtin.List.listExtendWith;refine Z_ (Xv U3 ?_);have h1:Builtin.List.listSameRef (.ref Lq) (.ref S)=Y:=by simp[Builtin.List.listSameRef];rw[<-hL];exact Nat.ne_of_gt JY
 have h2:(Value.type "set"==Value.type "list")=Y:=by decide
 have h3:(Value.type "set"==Value.type "tuple")=Y:=by decide
 simp only[h1,h2,h3,Bool.or_false,ZZ,Zm];refine Z_ (vK (s:={s with heap:=s.heap.push {cls:=.type "list",data:=.seq ([]:Z9 Z3).toArray}}) QF F_ hn λI vs fp St h' d hp W Qa hk hI hIf UL=>?_);have P9:Shared.TypeIs {s with heap:=h',drawn:=d} (.ref S) "set":=⟨os,hk S os Ni,hex.1⟩
 have gL:h'.get? Lq=U {cls:=.type "list",data:=.seq ([]:Z9 Z3).toArray}:=hk Lq _ g0;refine Z_ (Y6 ?_);unfold Builtin.List.listLengthHint;refine Z_ (X9 P9 r0 ?_);generalize R9:("set.__len__":String)=T3
 wp_delta
 rw[show splitId T3=U ("set","__len__") from by subst R9;decide +kernel];subst R9;dsimp only;refine Z_ (X3 (b:=L) P9 (by rw[Wd];kernel_rfl) ?_);refine dy (by decide) ?_;refine eL (by decide +kernel) ?_;refine Z_ (Xv P9 ?_);dsimp only;refine Z6 ?_;refine eL (by decide +kernel) ?_;refine Z_ (YD ?_);refine Z_ ?_;show wpAny _ A.in1 (updateSeq Lq (·.push .none) >>= λ_=>updateSeq Lq (·.pop)) _ _ _;refine Z_ (X_ gL rfl ?_);have Ss:=Zk (Obj.mapSeq (·.push Value.none)) gL rfl;refine X_ Ss rfl ?_;have Vf:=Zk (Obj.mapSeq (·.pop)) Ss rfl;have Iy:∀b o,b≠Lq->h'.get? b=U o->((h'.update Lq (Obj.mapSeq (·.push Value.none))).update Lq (Obj.mapSeq (·.pop))).get? b=U o:=
  λb o hb e=>(Zo _ _ (ZA hb)).trans ((Zo _ _ (ZA hb)).trans e)
 have WS:=(W A.in1 (by simp[hh])).toS;have U8:Lq≠S:=by rw[<-hL];exact Nat.ne_of_gt JY
 have Sm:Lq∉fp:=λhm=>by
  rcases UL Lq hm with e|e;exact U8 e;have e2:s.heap.objs.size+1<=Lq:=by have:=e;rwa[YF]at this
  rw[hL]at e2;exact Zd _ e2
 refine Z6 ⟨Yp XI _,codeAny_extend_loopS WS (by rw[Yi];lia) Lq Sm _ es.length 0 _ _ _ rfl (Zu _)
  (WS.frame 0 ({s with heap:=h',drawn:=d}:ZR) _ s.toks Qa (ZU _) λb hb o e=>Iy b o (λh=>Sm (h▸hb)) e) Vf (ItemsOf.nil _) λs' l_ c' hm Lb q_=>?_⟩
 show wpAny _ A (load Lq >>= _) _ _ s';refine Z_ (wpAny_load Lb ?_);have e1:s'.gens=s.gens:=hm.gens;have e2:s'.drawn=d:=hm.drawn;have e3:s'.os=s.os:=hm.os;obtain⟨UG,gg',JS,S9,V2⟩:=s';simp only at e1 e2 e3;subst e1;subst e2;subst e3;refine Z6 (hQ l_.toList UG JS S9 ?_ (λb o e=>?_) (by rw[hL];exact WJ (ZQ Lb)));have:l_.toList=vs:=by
  have Rz:=hp.length_eq;rw[ZY]at Rz;apply WY;intro j;by_cases hj:j<l_.size;have:=q_.2 j l_[j] (by simp[hj]);rw[this];simp[hj];rw[YI (by simpa using hj),YI (by rw[Rz,<-q_.1];lia)]
 rw[this];exact hp;have Si:b≠Lq:=by rw[<-hL];exact Zv (ZQ e)
 have UU:b≠I:=λz=>by
  have h5:s.heap.objs.size+1<=I:=by have:=hI;rwa[YF]at this
  have:=ZQ e;rw[z]at this;exact absurd (ZD (Nat.lt_succ_of_lt this) h5) (Zd _)
 refine hm.heap b o (by simp only[Z0,Zr,YB,Xl];exact⟨Si,UU⟩) (Iy b o Si (hk b o (Z4 _ e)))
end
end L2.G
namespace L2.G
open PySem PySem.Spec PyProof.Rows
variable[Lams]
def wf(w:YK)(S:ZM)(ts:Z9 El):HO:=.ext λh=>∃IB:Z9 El,IB.Perm ts/\aaI h S (IB.map (elE w)) (cF w)
section
variable{X:Cx}{sc:Bool}
def uu(hc:X.calm=L)(hu:X.A.units+64<cLine):ff X (.type "set") (λxs H Q=>∃B l ds ys,xs=[.ref l]/\SqL X.K H l ys/\M1 X.K B H ds ys/\(b0 ds).length<64/\ds.all (aR 8)=L/\(ds.all λd=>scD d==sc)=L/\
  ∀S ts,H S=M->(∀t∈ts,aaT X.K B H sc t)->(ts.map (·.1)).Nodup->(∀d,d∈ts.map (·.1)↔d∈ds)->Q (.ref S) (upd H S (wf X.w S ts))):=by
 intro pins s σ H xs us Q I r h;obtain⟨B,l,ds,ys,rfl,hq,rs,Nn,UD,Oo,q⟩:=h;obtain⟨u,rfl,rx⟩:=gE r;cases rx;obtain⟨its,rv,pl,hz⟩:=I.list hq;have l1:=rs.length;have l2:=rv.length;refine qB (B:=B) (sc:=sc) I (I.ok.hd hc) (by lia) pl.isList ds (by simp;lia) (by lia) (λi v d hv hd=>?_) λh' tk ts hk hF=>?_;obtain⟨x,hx,rx⟩:=rs.get hd;obtain⟨u,H0,ru⟩:=rv.get hx;have:u=v:=by
  have:its[i]?=U v:=by simpa using hv
  rw[H0]at this;exact Z8 this
 subst this;have hm:=Zg hd;exact⟨x,rx,ru,ZW.mp UD d hm,Zx.mp (ZW.mp Oo d hm)⟩;have Kc:H s.z=M:=I.fresh;refine⟨.ref s.z,_,I.laid (a:=s.z) (o:=wf X.w s.z ts) (h':=h') (t':=tk) hk (ZU _) ?_,rfl,q _ ts Kc hF.ok hF.nd hF.mem⟩;obtain⟨o,ep,t,ho,r⟩:=hF.at';exact⟨⟨ts,Yy _,o,ep,t,ho,r⟩,⟨o,ho⟩,λh1 h2 ⟨IB,p,a⟩ k=>⟨IB,p,a.same k⟩⟩
def gO(hc:cG ds=L)(hp:es.Perm ds):b7 es=b7 ds/\cG es=L:=by
 have Ir:cG es=L:=by
  unfold cG;rw[ZW];intro x hx;rw[ZK];have I_:=hp.mem_iff.mp hx;refine⟨eB hc I_,?_⟩;rw[ZW];intro y hy;obtain⟨b,e⟩:=d6 hc I_ (hp.mem_iff.mp hy);rw[e];rfl
 exact⟨c8 hc _ _ (λy hy=>hp.mem_iff.mp ((aD es).mem_iff.mp hy)) ((aD es).trans (hp.trans (aD ds).symm)) (bx Ir) (bx hc),Ir⟩
theorem om{K:Z5}{B:ZM->Prop}{H:Hp}:∀{ts:Z9 El},(∀t∈ts,aaT K B H sc t)->M1 K B H (ts.map (·.1)) (ts.map (·.2.1))/\aab (ts.map (·.2.1)) (ts.map (·.2.2))
 |[],_=>⟨M1.nil,.nil⟩
 |t::ts,h=>by
  obtain⟨a,b⟩:=om (ts:=ts) λz hz=>h z (Z1 _ hz);have ht:=h t (ZX ..);exact⟨M1.cons ht.rep a,.cons ht.rel b⟩
def jL(hc:X.calm=L)(hu:X.A.units+64<cLine):ff X (.builtin "sorted") (λxs H Q=>∃B S ts,xs=[.ref S]/\H S=U (wf X.w S ts)/\(∀t∈ts,aaT X.K B H sc t)/\ts.length<64/\cG (ts.map (·.1))=L/\(ts.map (·.1)).all (de c)=L/\
  ∀l zs,H l=M->M1 X.K B H (b7 (ts.map (·.1))) zs->Q (.ref l) (upd H l (.lst zs))):=by
 intro pins s σ H xs us Q I r h;obtain⟨B,S,ts,rfl,hS,hok,Nn,P2,hk,q⟩:=h;obtain⟨u,rfl,rx⟩:=gE r;cases rx;obtain⟨⟨OU,p1,o,ep,t,ho,hex,hd,T,hf,F_⟩,_,_⟩:=I.hok S _ hS;have hl:=T.len;have Je:=p1.length_eq;rw[ZY,ZY]at hl;have st:aav s.heap S (OU.map (elE X.w)) ep t:=⟨⟨o,ho,hex,hd⟩,T,by lia⟩
 refine Calls.call_function_entry kind_sorted plain_sorted entry_sorted (args_sorted1 _) ?_;unfold Builtin.«sorted»;refine Z_ (m:=checkCount "sorted" 1 1 _) (Z6 (Z_ (mC (by simp[I.ok.hd hc]) st F_ (by rw[ZY];lia) λvs h' d tk hp IW hsz=>?_)));have Kg:vs.Perm (OU.map (·.2.2)):=by rw[YN]at hp;exact hp
 obtain⟨OT,p2,rfl⟩:=cn (λt:El=>t.2.2) Kg OU rfl;have p3:OT.Perm ts:=p2.trans p1;have QH:∀t∈OT,aaT X.K B H sc t:=λt ht=>hok t (p3.mem_iff.mp ht);obtain⟨rs,rv⟩:=om QH;obtain⟨es,QL⟩:=gO P2 (p3.map (·.1));have K9:(OT.map (·.1)).all (de c)=L:=by
  rw[ZW]at hk⊢;exact λx hx=>hk x ((p3.map (·.1)).mem_iff.mp hx)
 have hlen:=p3.length_eq;refine fQ (s:={s with drawn:=d}) (t1:=tk) hu (I.drawn d) IW hsz rs rv (by rw[ZY,Yi];lia) QL (by rw[K9,Bool.or_true]) λl zs IA rz=>q l zs IA (es▸rz)
def xf(hc:cG ds=L)(h:∀x∈es,x∈ds):cG es=L:=by
 unfold cG;rw[ZW];intro x hx;rw[ZK];refine⟨eB hc (h x hx),?_⟩;rw[ZW];intro y hy;obtain⟨b,e⟩:=d6 hc (h x hx) (h y hy);rw[e];rfl
noncomputable def _root_.L2.aaC(c:KD)(sc:Bool)(x:Z7 D):Z7 D:=match x with
 |some (.lst ds)=>if(decide ((b0 ds).length<64)&&cG ds&&ds.all (de c)&&ds.all (aR 8)&&ds.all λd=>scD d==sc)=L then U (.lst (b7 (b0 ds))) else M
 |_=>M
variable{a:Expr}{fa:Mk->Z7 D}{pos HA p p2:Pos}
theorem _root_.L2.abu(hu:X.A.units+64<cLine)(hc:X.calm=L)(g:Gl X "sorted")(hm:X.mg "sorted"=M)(g2:Gl X "set")(Nc:X.mg "set"=M)(ha:DE X Y a fa)(hs:starEach [a] X.env=[(Y,eval a X.env)]:=by rfl)(Iq:starEach [.Call (.Name "set" p2) [a] [] HA] X.env=[(Y,eval (.Call (.Name "set" p2) [a] [] HA) X.env)]:=by rfl):
  DF X (.Call (.Name "sorted" p) [.Call (.Name "set" p2) [a] [] HA] [] pos) (λδ=>aaC c sc (fa δ)):=
 (dS (jL (c:=c) (sc:=sc) hc hu) g hm gy (ay (cK (uu (sc:=sc) hc hu) g2 Nc Cf (ay ha aN hs) (he:=hs)) aN Iq) (he:=Iq)).imp λσ H Q ⟨B,Hk,δ,d,R,e,k⟩=>by
  unfold aaC at e;dsimp only at e;split at e;rename_i ds qd;by_cases cc:(decide ((b0 ds).length<64)&&cG ds&&ds.all (de c)&&ds.all (aR 8)&&ds.all λd=>scD d==sc)=L;rw[ZO cc]at e;cases e;rw[ZK,ZK,ZK,ZK]at cc;obtain⟨⟨⟨⟨c1,c2⟩,c3⟩,c4⟩,c5⟩:=cc;simp only[tCB,pI,ab0];refine⟨B,Hk,δ,_,R,qd,λv H' s r=>?_⟩;have R':=R.to s;simp only[Rep]at r;obtain⟨l,xs,rfl,hq,rs⟩:=r;refine⟨aZ Y B δ σ,l,ds,xs,rfl,hq.sq,rs,Zj c1,c4,c5,λS ts hS hok MN HJ=>?_⟩;have s2:=au (o:=wf X.w S ts) hS;have hp:(ts.map (·.1)).Perm (b0 ds):=(Ym MN (br ds)).mpr λx=>(HJ x).trans (aK x ds).symm;have hl:=hp.length_eq;rw[ZY]at hl;have Om:=cU ds;have c1':=Zj c1;have VE:cG (b0 ds)=L:=xf c2 λx hx=>(aK x ds).mp hx;obtain⟨es,P2⟩:=gO VE hp;refine⟨aZ Y B δ σ,S,ts,rfl,ah,λt ht=>?_,by lia,P2,?_,λl' zs IA rz=>?_⟩;have q:=hok t ht;exact⟨q.rep.same (m:=Y) R' s2,q.rel,q.has,q.sc⟩;rw[ZW]at c3⊢;exact λx hx=>c3 x ((HJ x).mp hx);have s3:=au (o:=.lst zs) IA;have R2:=R'.to s2;rw[es]at rz;exact k l' _ (s.trans (s2.trans s3)) (s.free (s2.free IA)) ⟨_,ah,rz.same (m:=Y) R2 s3⟩;rw[ZJ cc]at e;cases e;cases e
end
end L2.G
namespace JP
open PySem L2
inductive Ce where|nm (w:Str)|bk (n:Int)
deriving DecidableEq,Inhabited
inductive Te where|any (l:Str)|nm (w:Str)
deriving DecidableEq
def ceD:Ce->D|.nm w=>.tup [.str "name",.str w]|.bk n=>.tup [.str "blank",.int n]
def teD:Te->D|.any l=>.tup [.str "any",.str l]|.nm w=>.tup [.str "name",.str w]
def cw(h:ceD a=ceD b):a=b:=by
 cases a<;>cases b<;>simp[ceD]at h;rw[h];rw[h]
abbrev Row:=Str×Z9 Ce
abbrev Pat:=Str×Z9 Te
def VV(r:Row):D:=.tup [.str r.1,.tup (r.2.map ceD)]
def aaa(p:Pat):D:=.tup [.str p.1,.tup (p.2.map teD)]
abbrev Fit:=Str->Ce
def ev(φ:Fit):Te->Ce|.any l=>φ l|.nm w=>.nm w
def qK(rows:Z9 Row)(φ:Fit)(p:Pat):Prop:=∃r∈rows,r.1=p.1/\r.2=p.2.map (ev φ)
def ans:Z9 Te->Z9 Str
 |[]=>[]
 |.any l::ts=>l::ans ts
 |.nm _::ts=>ans ts
theorem iY:∀{ts:Z9 Te},(∀l∈ans ts,φ l=ψ l)->ts.map (ev φ)=ts.map (ev ψ)
 |[],_=>rfl
 |.any l::ts,h=>by
  rw[Z2,Z2,iY (ts:=ts) λl' hl=>h l' (Z1 _ hl)];simp only[ev];rw[h l (ZX ..)]
 |.nm w::ts,h=>by rw[Z2,Z2,iY (ts:=ts) h];rfl
def qu(h:∀l∈ans p.2,φ l=ψ l)(i:qK rows φ p):qK rows ψ p:=by
 obtain⟨r,h1,h2,h3⟩:=i;exact⟨r,h1,h2,by rw[h3,iY h]⟩
abbrev Bi:=Z9 (Str×Ce)
def gt(b:Bi)(l:Str):Z7 Ce:=(b.find? λq=>decide (q.1=l)).map (·.2)
def fO(b:Bi)(k:Str)(c:Ce)(l:Str):gt ((k,c)::b) l=if k=l then U c else gt b l:=by
 unfold gt;rw[List.find?_cons];by_cases h:k=l<;>simp[h]
theorem oV(l:Str):∀(b b':Bi),gt (b++b') l=(gt b l).or (gt b' l)
 |[],b'=>by simp[gt]
 |(k,c)::b,b'=>by
  rw[List.cons_append,fO,fO,oV l b b'];split<;>simp
noncomputable def bnd:Z9 Te->Z9 Ce->Bi->Z7 Bi
 |.any l::ts,c::cs,b=>(match gt b l with|some c'=>if c'=c then bnd ts cs b else M|none=>bnd ts cs (b++[(l,c)]))
 |.nm w::ts,c::cs,b=>if Ce.nm w=c then bnd ts cs b else M
 |_,_,b=>U b
set_option tactic.hygienic true in
theorem dU:∀{ts:Z9 Te}{cs:Z9 Ce}{b b':Bi},ts.length=cs.length->bnd ts cs b=U b'->(∀l c,gt b l=U c->gt b' l=U c)/\(∀l∈ans ts,∃c,gt b' l=U c)/\∀φ:Fit,(∀l∈ans ts,gt b' l=U (φ l))->cs=ts.map (ev φ)
 |[],[],b,b',_,h=>by simp only[bnd,ZF]at h;subst h;exact⟨λ_ _ h=>h,λ_ h=>by simp[ans]at h,λ_ _=>rfl⟩
 |.any l::ts,c::cs,b,b',hl,h=>by
  simp only[bnd]at h;have IA:ts.length=cs.length:=by simpa using hl
  split at h;rename_i c' e;split at h;rename_i ec;subst ec;obtain⟨h1,h2,h3⟩:=dU IA h;refine⟨h1,λl' IA=>?_,λφ HE=>?_⟩;rcases Z0.mp IA with rfl|hm;exact⟨_,h1 _ _ e⟩;exact h2 l' hm;have:=HE l (ZX ..);rw[h1 _ _ e]at this;rw[Z2,<-h3 φ λl' hm=>HE l' (Z1 _ hm)];simp only[ev];rw[Z8 this];trivial;rename_i e;obtain⟨h1,h2,h3⟩:=dU IA h;have hg:gt b' l=U c:=h1 l c (by rw[oV,e];simp[gt]);refine⟨λl' c' e'=>h1 l' c' (by rw[oV,e'];rfl),λl' IA=>?_,λφ HE=>?_⟩;rcases Z0.mp IA with rfl|hm;exact⟨_,hg⟩;exact h2 l' hm;have:=HE l (ZX ..);rw[hg]at this;rw[Z2,<-h3 φ λl' hm=>HE l' (Z1 _ hm)];simp only[ev];rw[Z8 this]
 |.nm w::ts,c::cs,b,b',hl,h=>by
  simp only[bnd]at h;split at h;rename_i ec;subst ec;obtain⟨h1,h2,h3⟩:=dU (by simpa using hl) h;exact⟨h1,h2,λφ HE=>by rw[Z2,<-h3 φ HE];rfl⟩;trivial
theorem fm:∀(ts:Z9 Te)(b:Bi),(∀l c,gt b l=U c->φ l=c)->∃b',bnd ts (ts.map (ev φ)) b=U b'/\∀l c,gt b' l=U c->φ l=c
 |[],b,h=>⟨b,rfl,h⟩
 |.any l::ts,b,h=>by
  simp only[Z2,ev,bnd];cases e:gt b l with
  |some c=>
   simp only;rw[ZO (h l c e).symm];exact fm ts b h
  |none=>
   refine fm ts _ λl' c hc=>?_;rw[oV]at hc;cases e':gt b l' with
   |some c'=>rw[e']at hc;simp at hc;subst hc;exact h _ _ e'
   |none=>
    rw[e']at hc;simp only[Option.none_or]at hc;rw[fO]at hc;split at hc;rename_i q;subst q;exact Z8 hc;simp[gt]at hc
 |.nm w::ts,b,h=>by
  simp only[Z2,ev,bnd,Y_];exact fm ts b h
def fW(p:Pat)(r:Row):Z7 Bi:=if r.1=p.1/\r.2.length=p.2.length then bnd p.2 r.2 [] else M
def binds(rows:Z9 Row)(p:Pat):Z9 Bi:=rows.filterMap (fW p)
def dw(h:b∈binds rows p):(∀l∈ans p.2,∃c,gt b l=U c)/\∀φ:Fit,(∀l∈ans p.2,gt b l=U (φ l))->qK rows φ p:=by
 obtain⟨r,hr,e⟩:=XM.mp h;unfold fW at e;split at e;rename_i c;obtain⟨_,h2,h3⟩:=dU c.2.symm e;exact⟨h2,λφ HE=>⟨r,hr,c.1,h3 φ HE⟩⟩;trivial
def pU(h:qK rows φ p):∃b∈binds rows p,∀l∈ans p.2,gt b l=U (φ l):=by
 obtain⟨r,hr,h1,h2⟩:=h;obtain⟨b,e,hb⟩:=fm (φ:=φ) p.2 [] (λl c e=>by simp[gt]at e);have hm:fW p r=U b:=by unfold fW;rw[ZO ⟨h1,by rw[h2];simp⟩,h2];exact e
 have Ja:b∈binds rows p:=XM.mpr ⟨r,hr,hm⟩;refine⟨b,Ja,λl hl=>?_⟩;obtain⟨c,hc⟩:=(dw Ja).1 l hl;rw[hc,hb l c hc]
def vl(b:Bi)(ls:Z9 Str):Z9 Ce:=ls.map λl=>(gt b l).getD default
abbrev Gr:=Z9 (Z9 Ce×Z9 (Z9 Ce))
def mQ:Gr->Z9 Ce->Z9 Ce->Gr
 |[],k,e=>[(k,[e])]
 |p::r,k,e=>if p.1=k then(p.1,if e∈p.2 then p.2 else p.2++[e])::r else p::mQ r k e
def cH(g:Gr)(k:Z9 Ce):Z9 (Z9 Ce):=((g.find? λq=>decide (q.1=k)).map (·.2)).getD []
def aV(g:Gr)(q:Z9 Ce×Z9 (Z9 Ce))(k:Z9 Ce):cH (q::g) k=if q.1=k then q.2 else cH g k:=by
 unfold cH;rw[List.find?_cons];by_cases h:q.1=k<;>simp[h]
theorem nR:∀(g:Gr)(k e k' x:Z9 Ce),x∈cH (mQ g k e) k'↔x∈cH g k'\/(k'=k/\x=e)
 |[],k,e,k',x=>by
  unfold mQ;rw[aV];by_cases h:k=k';simp[h,cH];simp[h,cH];intro z;exact absurd z.symm h
 |p::r,k,e,k',x=>by
  unfold mQ;by_cases h:p.1=k;rw[ZO h,aV,aV];dsimp only;by_cases h':p.1=k';rw[ZO h',ZO h'];have hk:k'=k:=h'.symm.trans h;split;rename_i m;constructor;exact .inl
  rintro(q|⟨_,rfl⟩)
  exact q;exact m;simp[hk];rw[ZJ h',ZJ h'];constructor;exact .inl
  rintro(q|⟨rfl,_⟩)
  exact q;exact absurd h h';rw[ZJ h,aV,aV];by_cases h':p.1=k';rw[ZO h',ZO h'];constructor;exact .inl
  rintro(q|⟨rfl,_⟩)
  exact q;exact absurd h' h;rw[ZJ h',ZJ h'];exact nR r k e k' x
def grp(bs:Z9 Bi)(sh ad:Z9 Str):Gr:=bs.foldl (λg b=>mQ g (vl b sh) (vl b ad)) []
def lG(bs:Z9 Bi)(sh ad:Z9 Str)(k x:Z9 Ce):x∈cH (grp bs sh ad) k↔∃b∈bs,vl b sh=k/\vl b ad=x:=by
 have key:∀(bs:Z9 Bi)(g:Gr),x∈cH (bs.foldl (λg b=>mQ g (vl b sh) (vl b ad)) g) k↔x∈cH g k\/∃b∈bs,vl b sh=k/\vl b ad=x:=by
  intro bs
  induction bs with
  |nil=>intro g;simp
  |cons b bs ih=>
   intro g;rw[List.foldl_cons,ih,nR];constructor
   rintro((q|⟨q1,q2⟩)|⟨b',m,q⟩)
   exact .inl q;exact .inr ⟨b,ZX ..,q1.symm,q2.symm⟩;exact .inr ⟨b',Z1 _ m,q⟩
   rintro(q|⟨b',m,q1,q2⟩)
   exact .inl (.inl q);rcases Z0.mp m with rfl|m;exact .inl (.inr ⟨q1.symm,q2.symm⟩);exact .inr ⟨b',m,q1,q2⟩
 rw[grp,key];simp[cH]
def aU(ls known:Z9 Str):Z9 Nat:=ls.map λl=>known.idxOf l
def pk(c:Z9 Ce)(ps:Z9 Nat):Z9 Ce:=ps.map λi=>c.getD i default
def bB(h:∀l∈ls,l∈known):pk (known.map φ) (aU ls known)=ls.map φ:=by
 unfold pk aU;rw[YN];refine Y7 λl hl=>?_;have hi:=YG (h l hl);simp[hi]
def ins(x:Z9 Ce)(l:Z9 (Z9 Ce)):Z9 (Z9 Ce):=if x∈l then l else l++[x]
def yW:y∈ins x l↔y∈l\/y=x:=by
 unfold ins;split
 .constructor
  exact .inl
  .rintro(h|rfl)<;>assumption
 simp
def BD(h:l.Nodup):(ins x l).Nodup:=by
 unfold ins;split;exact h;rename_i n;rw[XZ];exact⟨h,by simp,λa ha b hb e=>n (by simp at hb;rw[<-hb,<-e];exact ha)⟩
def qA(g:Gr)(sp kp:Z9 Nat)(l:Z9 (Z9 Ce))(c:Z9 Ce):Z9 (Z9 Ce):=(cH g (pk c sp)).foldl (λl a=>ins (pk c kp++a) l) l
def ext(found:Z9 (Z9 Ce))(sp kp:Z9 Nat)(g:Gr):Z9 (Z9 Ce):=found.foldl (qA g sp kp) []
def zg(g:Gr)(sp kp:Z9 Nat)(c:Z9 Ce)(l:Z9 (Z9 Ce))(h:l.Nodup):(qA g sp kp l c).Nodup/\∀x,x∈qA g sp kp l c↔x∈l\/∃a∈cH g (pk c sp),x=pk c kp++a:=by
 unfold qA;generalize cH g (pk c sp)=as
 induction as generalizing l with
 |nil=>exact⟨h,λx=>by simp⟩
 |cons a as ih=>
  rw[List.foldl_cons];obtain⟨h1,h2⟩:=ih _ (BD h);refine⟨h1,λx=>?_⟩;rw[h2,yW];simp only[Z0,WQ];constructor
  rintro((q|q)|q)
  exact .inl q;exact .inr (.inl q);exact .inr (.inr q)
  rintro(q|q|q)
  exact .inl (.inl q);exact .inl (.inr q);exact .inr q
def Cs(found:Z9 (Z9 Ce))(sp kp:Z9 Nat)(g:Gr):(ext found sp kp g).Nodup/\∀x,x∈ext found sp kp g↔∃c∈found,∃a∈cH g (pk c sp),x=pk c kp++a:=by
 have key:∀(found l:Z9 (Z9 Ce)),l.Nodup->(found.foldl (qA g sp kp) l).Nodup/\∀x,x∈found.foldl (qA g sp kp) l↔x∈l\/∃c∈found,∃a∈cH g (pk c sp),x=pk c kp++a:=by
  intro found
  induction found with
  |nil=>intro l h;exact⟨h,λx=>by simp⟩
  |cons c found ih=>
   intro l h;obtain⟨e1,e2⟩:=zg g sp kp c l h;obtain⟨h1,h2⟩:=ih _ e1;rw[List.foldl_cons];refine⟨h1,λx=>?_⟩;rw[h2,e2];simp only[Z0,WQ];constructor
   rintro((q|q)|q)
   exact .inl q;exact .inr (.inl q);exact .inr (.inr q)
   rintro(q|q|q)
   exact .inl (.inl q);exact .inl (.inr q);exact .inr q
 obtain⟨h1,h2⟩:=key found [] Yr;exact⟨h1,λx=>by rw[ext,h2];simp⟩
structure Jn (rows:List Row)(wanted:List Str)(done ar:List Pat)(known:List Str)(found:List (List Ce)):Prop where
 nk:known.Nodup
 nf:found.Nodup
 mem:∀x,x∈found↔∃φ:Fit,x=known.map φ/\∀p∈done,qK rows φ p
 has:∀l,(∃p∈done,l∈ans p.2)->(l∈wanted\/∃p∈ar,l∈ans p.2)->l∈known
 few:∀l∈known,l∈wanted\/∃p∈ar,l∈ans p.2
 old:∀l∈known,∃p∈done,l∈ans p.2
def v6(rows:Z9 Row)(wanted:Z9 Str)(ar:Z9 Pat):Jn rows wanted [] ar [] [[]]:=
 ⟨Yr,by simp,λx=>⟨λh=>⟨λ_=>default,by simpa using h,λp hp=>(by trivial)⟩,λhz=>by obtain⟨φ,e,_⟩:=hz;simpa using e⟩,λl hz=>by obtain⟨p,hp,_⟩:=hz;exact(by trivial),λl h=>(by trivial),λl h=>(by trivial)⟩
def Aa{rows:Z9 Row}{wanted:Z9 Str}{done ar:Z9 Pat}{p:Pat}{known own later:Z9 Str}{found:Z9 (Z9 Ce)}(J:Jn rows wanted done (p::ar) known found)
  (Ib:∀l,l∈own↔l∈ans p.2)(Ii:own.Nodup)(JX:∀l,l∈later↔l∈wanted\/∃q∈ar,l∈ans q.2):
  Jn rows wanted (done++[p]) ar (known.filter (λl=>decide (l∈later))++own.filter λl=>decide (l∈later)&&!decide (l∈known))
   (ext found (aU (own.filter λl=>decide (l∈known)) known) (aU (known.filter λl=>decide (l∈later)) known)
    (grp (binds rows p) (own.filter λl=>decide (l∈known)) (own.filter λl=>decide (l∈later)&&!decide (l∈known)))):=by
 obtain⟨e1,e2⟩:=Cs found (aU (own.filter λl=>decide (l∈known)) known) (aU (known.filter λl=>decide (l∈later)) known) (grp (binds rows p) (own.filter λl=>decide (l∈known)) (own.filter λl=>decide (l∈later)&&!decide (l∈known)));have Kl:∀l∈own.filter (λl=>decide (l∈known)),l∈known:=λl hl=>by simp at hl;exact hl.2
 have JV:∀l∈known.filter (λl=>decide (l∈later)),l∈known:=λl hl=>by simp at hl;exact hl.1
 refine⟨?_,e1,λx=>?_,λl hd hw=>?_,λl hl=>?_,λl hl=>?_⟩;rw[XZ];refine⟨J.nk.filter _,Ii.filter _,λa ha b hb e=>?_⟩;subst e;simp at ha hb;exact hb.2.2 ha.1;rw[e2];constructor
 rintro⟨c,hc,a,ha,rfl⟩
 obtain⟨φ,rfl,HE⟩:=(J.mem c).mp hc;rw[bB Kl,lG]at ha;obtain⟨b,hb,h1,h2⟩:=ha;obtain⟨VG,VF⟩:=dw hb;have hv:∀l∈own,∃c,gt b l=U c:=λl hl=>VG l ((Ib l).mp hl);refine⟨λl=>if l∈own then(gt b l).getD default else φ l,?_,λq hq=>?_⟩;rw[bB JV,YU];congr 1;refine Y7 λl hl=>?_;split;rename_i ho;have hs:l∈own.filter (λl=>decide (l∈known)):=by simp;exact⟨ho,JV l hl⟩
 have:=congrArg (λz=>z) h1;unfold vl at h1;exact((WZ.mp h1) l hs).symm;rfl;rw[<-h2];unfold vl;refine Y7 λl hl=>?_;simp at hl;rw[ZO hl.1];rcases Zt.mp hq with hq|hq
 refine qu (λl hl=>?_) (HE q hq);split;rename_i ho;have hk:l∈known:=J.has l ⟨q,hq,hl⟩ (.inr ⟨p,ZX ..,(Ib l).mp ho⟩);have hs:l∈own.filter (λl=>decide (l∈known)):=by simp;exact⟨ho,hk⟩
 unfold vl at h1;exact((WZ.mp h1) l hs).symm;rfl;rw[ZC.mp hq];refine VF _ λl hl=>?_;have ho:=(Ib l).mpr hl;obtain⟨c,hc⟩:=hv l ho;rw[ZO ho,hc];rfl
 rintro⟨φ,rfl,HE⟩
 obtain⟨b,hb,Nh⟩:=pU (HE p (ZI _ (ZC.mpr rfl)));refine⟨known.map φ,(J.mem _).mpr ⟨φ,rfl,λq hq=>HE q (YA _ hq)⟩,(own.filter λl=>decide (l∈later)&&!decide (l∈known)).map φ,?_,?_⟩;rw[bB Kl,lG];refine⟨b,hb,?_,?_⟩;unfold vl;refine Y7 λl hl=>?_;rw[Nh l ((Ib l).mp (Y1.mp hl).1)];rfl;unfold vl;refine Y7 λl hl=>?_;rw[Nh l ((Ib l).mp (Y1.mp hl).1)];rfl;rw[bB JV,YU];have RP:l∈later:=(JX l).mpr hw;obtain⟨q,hq,hl⟩:=hd;by_cases hk:l∈known;exact YA _ (Y1.mpr ⟨hk,by simpa using RP⟩);rcases Zt.mp hq with hq|hq
 exfalso;refine hk (J.has l ⟨q,hq,hl⟩ ?_);rcases hw with hw|⟨q',JK,IA⟩;exact .inl hw;exact .inr ⟨q',Z1 _ JK,IA⟩;rw[ZC.mp hq]at hl;exact ZI _ (Y1.mpr ⟨(Ib l).mpr hl,by simp[RP,hk]⟩);rcases Zt.mp hl with hl|hl;exact(JX l).mp (by simpa using(Y1.mp hl).2);have:=(Y1.mp hl).2;simp at this;exact(JX l).mp this.1;rcases Zt.mp hl with hl|hl;obtain⟨q,hq,h⟩:=J.old l (Y1.mp hl).1;exact⟨q,YA _ hq,h⟩;exact⟨p,ZI _ (ZC.mpr rfl),(Ib l).mp (Y1.mp hl).1⟩
def CN(J:Jn rows wanted done [] known found)(hw:∀l∈wanted,∃p∈done,l∈ans p.2):
  (found.map λc=>pk c (aU wanted known)).Nodup/\∀x,x∈found.map (λc=>pk c (aU wanted known))↔∃φ:Fit,x=wanted.map φ/\∀p∈done,qK rows φ p:=by
 have wk:∀l∈wanted,l∈known:=λl hl=>J.has l (hw l hl) (.inl hl);have kw:∀l∈known,l∈wanted:=λl hl=>(J.few l hl).elim id λhz=>by obtain⟨p,hp,_⟩:=hz;trivial
 constructor;rw[List.nodup_iff_pairwise_ne,XF];refine J.nf.imp_of_mem λ{c d} hc hd t_ e=>t_ ?_;obtain⟨φ,rfl,_⟩:=(J.mem c).mp hc;obtain⟨ψ,rfl,_⟩:=(J.mem d).mp hd;rw[bB wk,bB wk]at e;exact Y7 λl hl=>(WZ.mp e) l (kw l hl);intro x;rw[ZV];constructor
 rintro⟨c,hc,rfl⟩
 obtain⟨φ,rfl,HE⟩:=(J.mem c).mp hc;exact⟨φ,bB wk,HE⟩
 rintro⟨φ,rfl,HE⟩
 exact⟨known.map φ,(J.mem _).mpr ⟨φ,rfl,HE⟩,bB wk⟩
end JP
namespace L2
open PySem PySem.Spec PyProof.Rows PySem.W
section
theorem hW:∀{l:Frag},l.lookup a=U o->(a,o)∈l
 |[],h=>nomatch h
 |(b,p)::l,h=>by
  rw[List.lookup_cons]at h;cases e:a==b with
  |true=>rw[e]at h;cases h;rw[Zx.mp e];exact .head _
  |false=>rw[e]at h;exact .tail _ (hW h)
def u9(h:Heap):(Ae h).In h:=λa o e=>by
 obtain⟨b,_,hb⟩:=XM.mp (hW e);obtain⟨p,h1,h2⟩:=Option.bind_eq_some_iff.mp hb;split at h2;cases h2;exact h1;cases h2
structure Seen (defs:List (Str×Stmt))(bl:List Str)(cs:List (Str×ZM))(K:Frag):Prop where
 fn:defs.map (λp=>Dq K p.1)=defs.map λp=>some (wC p.1 p.2)
 bl:bl.map (nsIn K mainGlobals)=bl.map λ_=>some none
 cd:cs.map (λp=>n8 K p.1)=cs.map λp=>some (.ref p.2)
theorem oP{α β:Type}{f g:α->β}:∀{l:Z9 α}{i:Nat}{x:α},l.map f=l.map g->l[i]?=U x->f x=g x
 |[],_,_,_,h=>by simp at h
 |y::l,0,x,e,h=>by cases h;exact(List.cons.inj e).1
 |y::l,i+1,x,e,h=>oP (List.cons.inj e).2 h
def map_mem{α β:Type}{f g:α->β}{l:Z9 α}{x:α}(e:l.map f=l.map g)(h:x∈l):f x=g x:=by
 obtain⟨i,hi⟩:=XY h;exact oP e hi
section
variable{defs:Z9 (Str×Stmt)}{bl:Z9 Str}{cs:Z9 (Str×ZM)}{K:Frag}{h:Heap}{mg:Str->Z7 Z3}
set_option tactic.hygienic true in
def Seen.df0(S:Seen defs bl cs K)(X:K.In h)(G:h.Ns mainGlobals mg)(i:Nat){x:Str}{st:Stmt}(e:defs[i]?=U (x,st)):∃f fd,Fun K x x st f fd/\mg x=U (.ref f)/\n8 K x=U fd.code:=by
 have q:Dq K x=U (wC x st):=oP S.fn e;unfold Dq at q;unfold n8;split at q;rename_i f hf;split at q;rename_i oc od fd sl hl;split at q;rename_i hc;refine⟨f,fd,⟨⟨oc,od,fd.kwdefaults,fd.doc,fd.pyModule,fd.annotations,fd.code,fd.closureTuple,sl,?_,hl,hc⟩,?_⟩,mg_of X G hf,rfl⟩;have q':=Z8 q;obtain⟨a1,a2,a3,a4,a5,a6,a7,a8,a9,IJ,II,IG,IF,a14,a15⟩:=fd;simp only[BN,wC,WU]at q';obtain⟨rfl,rfl,rfl,rfl,rfl,rfl,rfl,rfl,rfl⟩:=q';rfl;unfold keepIn;dsimp only;rw[hl];cases q;cases q;cases q
def Seen.df(S:Seen defs bl cs K)(X:K.In h)(G:h.Ns mainGlobals mg)(i:Nat){x:Str}{st:Stmt}(e:defs[i]?=U (x,st)):∃f fd,Fun K x x st f fd/\mg x=U (.ref f):=by
 obtain⟨f,fd,F,hm,_⟩:=S.df0 X G i e;exact⟨f,fd,F,hm⟩
def Seen.dfC(S:Seen defs bl cs K)(X:K.In h)(G:h.Ns mainGlobals mg)(i j:Nat){x:Str}{st:Stmt}{c:ZM}(e:defs[i]?=U (x,st))(e':cs[j]?=U (x,c)):∃f fd,Fun K x x st f fd/\mg x=U (.ref f)/\fd.code=.ref c:=by
 obtain⟨f,fd,F,hm,hc⟩:=S.df0 X G i e;exact⟨f,fd,F,hm,Z8 (hc.symm.trans (oP S.cd e'))⟩
def Seen.txt(S:Seen defs bl cs K)(X:K.In h)(G:h.Ns mainGlobals mg):∀x∈bl,mg x=M:=λx hx=>mg_none_of X G (map_mem S.bl hx)
end
variable[Lams]
def FM(cs:Z9 (Str×ZM))(K:Frag):Prop:=(Lams.tb.zip cs).map (λq=>codeHdIn K q.2.2 q.1.1)=(Lams.tb.zip cs).map (λ_=>L)/\Lams.tb.map (λq=>K.lookup q.1)=Lams.tb.map (λ_=>M)
def YH(defs:Z9 (Str×Stmt))(bl:Z9 Str)(cs:Z9 (Str×ZM))(_:YK)(h:Heap):Prop:=∃K:Frag,K.In h/\Seen defs bl cs K/\Lams.tb.map (λq=>h.get? q.1)=Lams.tb.map (λ_=>U Fu)/\FM cs K
def yh_of(w:YK)(s:ZR)(e:YfH defs bl cs s=YaH defs bl cs w):YH defs bl cs w s.heap:=by
 unfold YfH YaH at e;simp only[WU]at e;exact⟨Ae s.heap,u9 _,⟨e.1,e.2.1,e.2.2.1⟩,e.2.2.2.1,e.2.2.2.2.1,e.2.2.2.2.2⟩
def yh_keeps(w:YK)(h h':Heap)(y:YH defs bl cs w h)(k:∀b o,h.get? b=U o->h'.get? b=U o):YH defs bl cs w h':=by
 obtain⟨K,hK,hS,ht,hc⟩:=y;refine⟨K,hK.keeps k,hS,?_,hc⟩;exact Y7 λq hq=>k _ _ (map_mem ht hq)
theorem ul{α β:Type}:∀{l:Z9 α}{m:Z9 β}{x:α},l.length=m.length->x∈l->∃y,(x,y)∈l.zip m
 |a::l,b::m,x,e,h=>by
  rcases Z0.mp h with rfl|h;exact⟨b,.head _⟩;obtain⟨y,hy⟩:=ul (Nat.succ.inj e) h;exact⟨y,.tail _ hy⟩
def walk_H{l:OpenLaw}{d:DefRec}{cs:Z9 (Str×ZM)}{sp:Frag->Sp}(hn:l.most=U n)(Us:n<=sizeLine)(MR:d.params.defaults=[])(hr:aan k callerA)(OH:Lams.tb.length=cs.length)(F:∀(w:YK)(mg:Str->Z7 Z3)(fa:ZM)(h:Heap)(K:Frag),Seen defs bl cs K->FM cs K->K.In h->h.Ns mainGlobals mg->mg d.name=U (.ref fa)->
   ∃fd:FuncData,(∀(s:ZR)(u:Z3),BindsTo s fd ⟨[u],[]⟩ [(x,u)])/\
    ∀base:Heap,K.In base->base.Ns mainGlobals mg->abg l.prog w K mg base CX k fa fd [x] (sp K)) (Lv:∀(K:Frag)(H:Hp)(a:ZM)(ns:Z9 Int),ns.length<=n->ER H->SqL K H a (ns.map V.int)->sp K [.ref a] H (λv _=>v=.bl L) λ_ _ _=>False) (Qc:∀(H:Hp)(s:ZR)(e:Z3)(s':ZR),CX [] H s (λ_ _ _=>False) e s'->False) (LY:∀q∈Lams.tb,∀r∈Lams.tb,q.1=r.1->q=r):
  WalkO q loose XP (YH defs bl cs) l.row.toRowW d [] (λf vs=>PySem.call f vs):=by
 refine Att.abG hn MR λw n_ g_ mg mb fa o pm cd doc a vs ns G Yq ho hd HZ hmg Me hints hlen hg=>?_;obtain⟨K,KX,S,ht,hL⟩:=Yq;obtain⟨fd,hb,hF⟩:=F w mg fa _ K S hL KX G.T.g hmg;exact wN KX G.T.g G.T.b G.T.builtins G.T.nolimit hg Me hints (Zn hlen Us) hr hF hb (λH hO hS=>Lv K H a ns hlen hO hS) (λH e s'=>Qc H g_ e s') G.T.bmain (λq hq=>⟨map_mem ht hq,map_mem hL.2 hq,by
  obtain⟨c,hz⟩:=ul OH hq;obtain⟨o,vs,_,_,_,_,_,_,_,e1,e2,e3,e4,_⟩:=codeHd_of_K KX (map_mem hL.1 hz);exact⟨c.2,o,vs,e1,e2,e3,e4⟩⟩) LY
end
end L2
namespace L2
open PySem
def Txb(bl:Z9 Str)(mg:Str->Z7 Z3):Prop:=∀x∈bl,mg x=M
def Txb.get(T:Txb bl mg)(h:decide (x∈bl)=L):mg x=M:=T x (Zj h)
def us0{P:Z9 Z3->Prop}(h:P []):∀us:Z9 Z3,us.length=0->P us
 |[],_=>h
def usS{n:Nat}{P:Z9 Z3->Prop}(h:∀a us,us.length=n->P (a::us)):∀us:Z9 Z3,us.length=n+1->P us
 |a::us,e=>h a us (Nat.succ.inj e)
def Df(K:Z5)(mg:Str->Z7 Z3)(x:Str)(st:Stmt):Prop:=∃f fd,Fun K x x st f fd/\mg x=U (.ref f)
def DfC(K:Z5)(mg:Str->Z7 Z3)(x:Str)(st:Stmt)(c:ZM):Prop:=∃f fd,Fun K x x st f fd/\mg x=U (.ref f)/\fd.code=.ref c
section
variable[Lams]{mg:Str->Z7 Z3}{st:Stmt}{f:ZM}
def mkF(n:Nat)(N:Z9 Str)(g:Mk->Z7 Out)(F:Fun K x x st f fd)(hm:mg x=U (.ref f))(S:aaB N (N.take n) (defScope st))(hb:∀(kV doc pm:Z3)(an:Z7 ZM)(HM ct:Z3)(us:Z9 Z3),us.length=(N.take n).length->bindArgs (PySem.W.fnOf x x (defArgs st) (defBody st) (defScope st) .none kV doc pm an HM ct) ⟨us,[]⟩=pure ((N.take n).zip us))(body:∀X:Cx,X.prog=P->X.w=w->X.K=K->X.mg=mg->X.base=base->Has X N (defScope st)->(∀x,X.fn x=L)->PassesOwn (model X.prog X.w) X.A X.env X.xe->aan k X.A->DSs X (defBody st) g):
  abg P w K mg base CX0 (k+1) f fd (N.take n) (spM K (cb N.length (N.take n).length g))/\FnM P w K mg base (k+1) x (cb N.length (N.take n).length g):=
 xZ (P:=P) (w:=w) (base:=base) (g:=g) F S (F.binds hb) hm (by rw[X7];exact Nat.min_le_right ..) λA outer s H E hr=>body _ rfl rfl rfl rfl rfl (Dk S.nd) (λ_=>rfl) PassesOwn.never hr
def mk(n:Nat)(N:Z9 Str)(g:Mk->Z7 Out)(D:Df K mg x st)(S:aaB N (N.take n) (defScope st))(hb:∀(kV doc pm:Z3)(an:Z7 ZM)(HM ct:Z3)(us:Z9 Z3),us.length=(N.take n).length->bindArgs (PySem.W.fnOf x x (defArgs st) (defBody st) (defScope st) .none kV doc pm an HM ct) ⟨us,[]⟩=pure ((N.take n).zip us))(body:∀X:Cx,X.prog=P->X.w=w->X.K=K->X.mg=mg->X.base=base->Has X N (defScope st)->(∀x,X.fn x=L)->PassesOwn (model X.prog X.w) X.A X.env X.xe->aan k X.A->DSs X (defBody st) g):FnM P w K mg base (k+1) x (cb N.length (N.take n).length g):=by
 obtain⟨f,fd,F,hm⟩:=D;exact(mkF n N g F hm S hb body).2
end
end L2
namespace K14
open PySem L2
variable[Lams]
local macro_rules| `(tactic|walk_at "z")=> `(tactic|first
 |fail_if_success refine(?_:(_:Prop))
 |rfl
 |assumption
 |(((with_reducible first|refine' @nv .. |refine' @jK .. |refine' @xQ .. |refine' @w9 .. |refine' @nA .. |refine' @zE .. |refine' @CC .. |refine' @Cj .. |refine' @BM .. |refine' @wS .. |refine' @Ay .. |refine' @wz .. |refine' @CB .. |refine' @Bk .. |refine' @Ch .. |refine' @CL .. |refine' @Av .. |refine' @rL .. |refine' @BV .. |refine' @wm .. |refine' @Ey .. |refine' @yn .. |refine' @Es .. |refine' @CK .. |refine' @EI .. |refine' @uw .. |refine' @Al .. |refine' @zm .. |refine' @v3 .. |refine' @jI .. |refine' @nY .. |refine' @nL .. |refine' @vS .. |refine' @tq .. |refine' @pJ .. |refine' @abu .. |refine' @Am .. |refine' @sK .. |refine' @xD .. |refine' @xF .. |refine' @we .. |refine' @uR .. |refine' @vC .. |refine' @zf .. |refine' @BG .. |refine' @DR .. |refine' @vQ .. |refine' @D8 .. |refine' @Ea .. |refine' @rN .. |refine' @xx .. |refine' @ug .. |refine' @oR .. |refine' @yV .. |refine' @vU .. |refine' @iM .. |refine' @pv .. |refine' @iw .. |refine' @zS .. |refine' @B4 .. |refine' @Ej .. |refine' @uE .. |refine' @Da .. |refine' @nF .. |refine' @gw .. |refine' @cu .. |refine' @jY .. |refine' @Ai .. |refine' @lP .. |refine' @B3 .. |refine' @zR .. |refine' @AE .. |refine' @BY .. |refine' @Cc .. |refine' @jd .. |refine' @vw .. |refine' @AX .. |refine' @yM .. |refine' @zY .. |refine' @lN .. |refine' @uG .. |refine' @tE .. |refine' @zG .. |refine' @zA .. |refine' @BJ .. |refine' @EE .. |refine' @BP .. |refine' @Ah .. |refine' @AN .. |refine' @uf .. |refine' @dW .. |refine' @mR .. |refine' @DF.share .. |refine' @yr .. |refine' @BR .. |refine' PW.pt ..)<;>walk_at "z");all_goals exact false)
 |(have h:=(by assumption:Has _ _ _);first|exact Has.nm h (by decide +kernel)|exact Has.nm (Has.comp h ..) (by decide +kernel)|exact Has.nm (Has.comp (Has.comp h ..) ..) (by decide +kernel))
 |(have h:=(by assumption:Has _ _ _);first|exact Has.lc h (by assumption) (by decide +kernel)|exact Has.lcl (Has.comp h ..) (by decide +kernel)|exact Has.lcl (Has.comp (Has.comp h ..) ..) (by decide +kernel))
 |(refine Gb.gl ?_;walk_at "z")
 |(have h:=(by assumption:Has _ _ _);first|exact Has.gb h (by decide +kernel)|exact Has.gb (Has.comp h ..) (by decide +kernel)|exact Has.gb (Has.comp (Has.comp h ..) ..) (by decide +kernel))
 |(have h:=(by assumption:Txb _ _);exact Txb.get h (by decide +kernel))
 |(have h:=(by assumption:aan _ _);exact aan.mono h (by decide))
 |(have h:=(by assumption:Has _ _ _);first|exact Has.calm h|exact Has.calm (Has.comp h ..)|exact Has.calm (Has.comp (Has.comp h ..) ..))
 |(have h:=(by assumption:Has _ _ _);first|exact Has.nd h|exact Has.nd (Has.comp h ..)|exact Has.nd (Has.comp (Has.comp h ..) ..))
 |(have h:=(by assumption:Has _ _ _);first|exact aag.of' h (by decide +kernel)|exact aag.of' (Has.comp h ..) (by decide +kernel))
 |exact f7 _
 |exact uI _ _ (by decide)
 |exact DN
 |exact Ev
 |exact Eb
 |exact DM
 |exact bt_int
 |exact bt_bool
 |exact bt_str
 |exact qW
 |exact nC
 |exact bH (bH fP)
 |exact bH fP
 |exact bH (bH (bH fP))
 |exact⟨rfl,rfl,rfl,rfl,rfl⟩|(have h:=(by assumption:Has _ _ _);exact eA h (by decide +kernel))
 |decide +kernel
 |decide
 |(simp;done)
 |(intros;rfl)
 |(intro _;walk_at "z"))
local macro_rules| `(tactic|walk_at "sc")=> `(tactic|first
 |exact⟨rfl,rfl,rfl,by decide +kernel,rfl,by decide +kernel,by decide +kernel⟩)
local macro_rules| `(tactic|walk_at "bi")=> `(tactic|first
 |exact λ_ _ _ _ _ _=>usS λ_=>us0 rfl
 |exact λ_ _ _ _ _ _=>usS λ_=>usS λ_=>us0 rfl
 |exact λ_ _ _ _ _ _=>usS λ_=>usS λ_=>usS λ_=>us0 rfl
 |exact λ_ _ _ _ _ _=>usS λ_=>usS λ_=>usS λ_=>usS λ_=>us0 rfl
 |exact λ_ _ _ _ _ _=>usS λ_=>usS λ_=>usS λ_=>usS λ_=>usS λ_=>us0 rfl)
local macro_rules| `(tactic|walk_at "mk")=> `(tactic|first
 |(intro X e1 e2 e3 e4 e5 h f p r;subst e1 e2 e3 e4 e5;have u:=r.units;(conv in defBody _=>whnf);walk_at "z"))
abbrev Txt:(Str->Z7 Z3)->Prop:=Txb blK
abbrev Gg:Z9 Str:=["rows"]
abbrev Ek(δ:Mk):Z7 Out:=eD (aaC .ts Y (rd Y 0 δ))
def KI:Z9 D->Z7 (D×Bool):=cb 1 1 Ek
abbrev Hn:Z9 Str:=["row","cell_for","cell"]
abbrev qU(δ:Mk):Z7 D:=bY (rd Y 1 δ) (rd Y 2 δ) (rd Y 2 δ)
noncomputable abbrev D7(δ:Mk):Z7 Out:=eR (eZ (af (ixO (rd Y 0 δ) (U (.int 0))) (af (bU (ax (ae (u7 (ixO (rd Y 0 δ) (U (.int 1)))) (b8 Y [Y,L,Y] (aa 2) (λδ=>U L) qU δ)))) (U []))))
def Jr:Z9 D->Z7 (D×Bool):=cb 3 2 D7
abbrev Gs:Z9 Str:=["rows","moves","cell_for","cell","number","row"]
abbrev xT(δ:Mk):Z7 D:=eZ (af (eZ (af (U (.str "blank")) (af (rd Y 4 δ) (U [])))) (af (rd Y 3 δ) (U [])))
abbrev yk(δ:Mk):Z7 D:=shO (ae (af (rd Y 5 δ) (af (rd Y 2 δ) (U []))) Jr)
noncomputable abbrev Ec(δ:Mk):Z7 Out:=aI (bK 2 (gX (ax (ae (b9 (rd Y 1 δ)) (b8 Y [Y,Y,Y,Y,Y,Y] (aO (aj (aa 4) (aj (aa 3) (aak)))) (λδ=>U L) xT δ)))) δ) (λδ=>eD (frO (ae (af (ax (ae (b9 (rd Y 0 δ)) (b8 Y [Y,Y,L,Y,Y,Y] (aa 5) (λδ=>U L) yk δ))) (U [])) KI)))
def KH:Z9 D->Z7 (D×Bool):=cb 6 2 Ec
abbrev Gf:Z9 Str:=["patterns","letters","table","terms","term"]
abbrev oB(δ:Mk):Z7 D:=ixO (rd Y 4 δ) (U (.int 1))
noncomputable abbrev uP(δ:Mk):Z7 Out:=uY 1 (ax (ae (u7 (rd Y 3 δ)) (b8 Y [Y,Y,Y,Y,Y] (aa 4) (λδ=>eqO (ixO (rd Y 4 δ) (U (.int 0))) (U (.str "any"))) oB δ))) δ
abbrev xz(δ:Mk):Z7 Out:=eD (aaC .st L (rd Y 1 δ))
noncomputable abbrev Ef(δ:Mk):Z7 Out:=aI (eT 1 (dz (U [])) δ) (λδ=>aI (ae (b9 (rd Y 0 δ)) λds=>am (λd δ=>ae ((aO (aj (aa 2) (aj (aa 3) (aak)))) d δ) uP) ds δ) (λδ=>xz (aaO 1 δ)))
def Hv:Z9 D->Z7 (D×Bool):=cb 5 1 Ef
abbrev F9:Z9 Str:=["terms","cells","binding","term","cell"]
abbrev yz(δ:Mk):Z7 (Bool×Mk):=neX (sdO 2 (ixO (rd Y 3 δ) (U (.int 1))) (rd Y 4 δ) δ) (λδ=>rd Y 4 δ)
noncomputable abbrev jN(δ:Mk):Z7 Out:=ifO (eqO (ixO (rd Y 3 δ) (U (.int 0))) (U (.str "any"))) (ifX (yz δ) (λδ=>eR (U .non)) (λδ=>aaD δ)) (ifO (neO (rd Y 3 δ) (rd Y 4 δ)) (eR (U .non)) (aaD δ))
noncomputable abbrev DQ(δ:Mk):Z7 Out:=aI (eT 2 (U (.dK [] [])) δ) (λδ=>aI (ae (CZ L L (rd Y 0 δ) (rd Y 1 δ)) λds=>am (λd δ=>ae ((aO (aj (aa 3) (aj (aa 4) (aak)))) d δ) jN) ds δ) (λδ=>eD (bN 2 δ)))
def Ky:Z9 D->Z7 (D×Bool):=cb 5 2 DQ
abbrev FZ:Z9 Str:=["rows","pattern","found","table","cells","binding"]
noncomputable abbrev ij(δ:Mk):Z7 Out:=ifO (yj (eqO (rd Y 3 δ) (ixO (rd Y 1 δ) (U (.int 0)))) (eqO (jv (rd Y 4 δ)) (jv (ixO (rd Y 1 δ) (U (.int 1)))))) (aI (bK 5 (shO (ae (af (ixO (rd Y 1 δ) (U (.int 1))) (af (rd Y 4 δ) (U []))) Ky)) δ) (λδ=>ifO (gW (yE (rd Y 5 δ))) (lC 2 (rd Y 5 δ) δ) (aaD δ))) (aaD δ)
noncomputable abbrev Dz(δ:Mk):Z7 Out:=aI (eT 2 (dz (U [])) δ) (λδ=>aI (ae (b9 (rd Y 0 δ)) λds=>am (λd δ=>ae ((aO (aj (aa 3) (aj (aa 4) (aak)))) d δ) ij) ds δ) (λδ=>eD (bN 2 δ)))
def J5:Z9 D->Z7 (D×Bool):=cb 6 2 Dz
abbrev GY:Z9 Str:=["pattern","known","letter"]
abbrev ui(δ:Mk):Z7 D:=ofB (inO (rd Y 2 δ) (rd Y 1 δ))
abbrev DV(δ:Mk):Z7 Out:=eR (Dg (ax (ae (b9 (frO (ae (af (dz (af (rd Y 0 δ) (U []))) (U [])) Hv))) (b8 Y [Y,L,Y] (aa 2) (λδ=>U L) ui δ))))
def Jp:Z9 D->Z7 (D×Bool):=cb 3 2 DV
abbrev EK:Z9 Str:=["rows","body","known","rest","placed","bound","linked","taken","pattern","pair"]
abbrev j3(δ:Mk):Z7 D:=eZ (af (rd Y 8 δ) (af (frO (ae (af (rd Y 0 δ) (af (rd Y 8 δ) (U []))) J5)) (U [])))
abbrev gU(δ:Mk):Z7 D:=jv (ixO (rd Y 0 δ) (U (.int 1)))
abbrev oG(δ:Mk):Z7 D:=ixO (rd Y 9 δ) (U (.int 0))
abbrev oK(δ:Mk):Z7 Bool:=tyB (shO (ae (af (ixO (rd Y 9 δ) (U (.int 0))) (af (rd Y 5 δ) (U []))) Jp))
abbrev sI(δ:Mk):Z7 Out:=lC 4 (rd Y 7 δ) δ
abbrev kq(δ:Mk):Z7 Bool:=uZ (rd L 3 δ)
noncomputable abbrev kN(δ:Mk):Z7 Out:=aI (bK 5 (vL (sf (rd Y 2 δ)) (flO (ae (af (ax (dj (ae (b9 (rd L 4 δ)) (b8 L [Y,Y,Y,Y,Y,Y,Y,Y,Y,Y] (aa 9) (λδ=>U L) oG δ)))) (U [])) Hv))) δ) (λδ=>qY 3 6 7 9 [Y,Y,Y,Y,Y,L,Y,Y,Y,Y] oK δ sI)
noncomputable abbrev Lj(δ:Mk):Z7 Out:=aI (eT 3 (gT (ax (ae (b9 (rd Y 1 δ)) (b8 Y [L,Y,Y,Y,Y,Y,Y,Y,Y,Y] (aa 8) (λδ=>U L) j3 δ))) (λd=>gU [U (d,Y)])) δ) (λδ=>aI (eT 4 (dz (U [])) δ) (λδ=>aI (dl kq kN 1000 δ) (λδ=>eD (bN 4 δ))))
def Kz:Z9 D->Z7 (D×Bool):=cb 10 3 Lj
abbrev G0:Z9 Str:=["letters","known","letter"]
abbrev rA(δ:Mk):Z7 D:=A4 (rd Y 1 δ) (rd Y 2 δ)
abbrev ES(δ:Mk):Z7 Out:=eD (ax (ae (b9 (rd Y 0 δ)) (b8 Y [Y,L,Y] (aa 2) (λδ=>U L) rA δ)))
def Jo:Z9 D->Z7 (D×Bool):=cb 3 2 ES
abbrev Hc:Z9 Str:=["found","shared","added","groups","binding","key","group","letter"]
abbrev HX(δ:Mk):Z7 D:=A5 (rd Y 4 δ) (rd Y 7 δ)
abbrev yy(δ:Mk):Z7 D:=A5 (rd Y 4 δ) (rd Y 7 δ)
abbrev yu(δ:Mk):Z7 (Z9 D):=b9 (rd Y 0 δ)
abbrev oX(δ:Mk):Z7 D:=bU (ax (ae (b9 (rd Y 1 δ)) (b8 Y [Y,Y,Y,Y,L,Y,Y,Y] (aa 7) (λδ=>U L) HX δ)))
abbrev oY(δ:Mk):Z7 D:=bU (ax (ae (b9 (rd Y 2 δ)) (b8 Y [Y,Y,Y,Y,L,Y,Y,Y] (aa 7) (λδ=>U L) yy δ)))
abbrev D5(δ:Mk):Z7 Out:=BF 3 4 5 6 yu oX oY δ
def Kx:Z9 D->Z7 (D×Bool):=cb 8 3 D5
abbrev Gq:Z9 Str:=["cells","places","place"]
abbrev sE(δ:Mk):Z7 D:=ixO (rd Y 0 δ) (rd Y 2 δ)
abbrev Dw(δ:Mk):Z7 Out:=eR (bU (ax (ae (b9 (rd Y 1 δ)) (b8 Y [L,Y,Y] (aa 2) (λδ=>U L) sE δ))))
def IU:Z9 D->Z7 (D×Bool):=cb 3 2 Dw
abbrev Ha:Z9 Str:=["found","shared_places","kept_places","groups","longer","cells","kept","added"]
abbrev t6(δ:Mk):Z7 Out:=jO 4 (sr (rd Y 6 δ) (rd Y 7 δ)) (U (.bl L)) δ
noncomputable abbrev se(δ:Mk):Z7 Out:=aI (bK 6 (shO (ae (af (rd Y 5 δ) (af (rd Y 2 δ) (U []))) IU)) δ) (λδ=>ae (wq (bY (rd Y 3 δ) (shO (ae (af (rd Y 5 δ) (af (rd Y 1 δ) (U []))) IU)) (U (.dD [] [])))) λds=>am (λd δ=>ae ((aa 7) d δ) t6) ds δ)
abbrev xO(δ:Mk):Z7 Out:=eD (m6 (rd Y 4 δ))
noncomputable abbrev Dx(δ:Mk):Z7 Out:=aI (eT 4 (U (.dD [] [])) δ) (λδ=>aI (ae (b9 (rd Y 0 δ)) λds=>am (λd δ=>ae ((aa 5) d δ) se) ds δ) (λδ=>xO (aaO 4 δ)))
def Kw:Z9 D->Z7 (D×Bool):=cb 8 4 Dx
noncomputable abbrev F1:Z9 Str:=["rows","body","wanted","known","found","pairs","place","pair","later","own","shared","added","kept","groups","wanted_places","letter","cells","behind"]
abbrev uT(δ:Mk):Z7 D:=ixO (rd Y 17 δ) (U (.int 0))
abbrev yq(δ:Mk):Z7 D:=rd Y 15 δ
abbrev yd(δ:Mk):Z7 D:=rd Y 15 δ
abbrev yA(δ:Mk):Z7 D:=rd Y 15 δ
noncomputable abbrev yC(δ:Mk):Z7 Out:=aI (bK 13 (frO (ae (af (ixO (rd Y 7 δ) (U (.int 1))) (af (rd Y 10 δ) (af (rd Y 11 δ) (U [])))) Kx)) δ) (λδ=>aI (bK 4 (frO (ae (af (rd Y 4 δ) (af (frO (ae (af (rd Y 10 δ) (af (rd Y 3 δ) (U []))) Jo)) (af (frO (ae (af (rd Y 12 δ) (af (rd Y 3 δ) (U []))) Jo)) (af (rd Y 13 δ) (U []))))) Kw)) δ) (λδ=>bK 3 (vL (rd Y 12 δ) (rd Y 11 δ)) δ))
noncomputable abbrev xR(δ:Mk):Z7 Out:=aI (eT 12 (ax (ae (b9 (rd Y 3 δ)) (b8 Y [Y,Y,Y,Y,Y,Y,Y,Y,L,Y,Y,Y,Y,Y,Y,Y,Y,Y] (aa 15) (λδ=>inO (rd Y 15 δ) (rd Y 8 δ)) yA δ))) δ) (λδ=>yC (aaO 12 δ))
noncomputable abbrev ym(δ:Mk):Z7 Out:=aI (eT 11 (ax (ae (b9 (rd Y 9 δ)) (b8 Y [Y,Y,Y,L,Y,Y,Y,Y,L,Y,Y,Y,Y,Y,Y,Y,Y,Y] (aa 15) (λδ=>yj (inO (rd Y 15 δ) (rd Y 8 δ)) (bw (rd Y 15 δ) (rd Y 3 δ))) yd δ))) δ) (λδ=>xR (aaO 11 δ))
noncomputable abbrev kH(δ:Mk):Z7 Out:=aI (bK 8 (vL (sf (rd Y 2 δ)) (frO (ae (af (ax (ae (b9 (t4 (rd Y 5 δ) (ly (ix (rd Y 6 δ) (U (.int 1)))) (U M))) (b8 Y [Y,Y,Y,Y,Y,Y,Y,Y,Y,Y,Y,Y,Y,Y,Y,Y,Y,Y] (aa 17) (λδ=>U L) uT δ))) (U [])) Hv))) δ) (λδ=>aI (bK 9 (frO (ae (af (dz (af (ixO (rd Y 7 δ) (U (.int 0))) (U []))) (U [])) Hv)) δ) (λδ=>aI (eT 10 (ax (ae (b9 (rd Y 9 δ)) (b8 Y [Y,Y,Y,L,Y,Y,Y,Y,Y,Y,Y,Y,Y,Y,Y,Y,Y,Y] (aa 15) (λδ=>inO (rd Y 15 δ) (rd Y 3 δ)) yq δ))) δ) (λδ=>ym (aaO 10 δ))))
abbrev xJ(δ:Mk):Z7 D:=shO (ae (af (rd Y 16 δ) (af (rd Y 14 δ) (U []))) IU)
noncomputable abbrev EV(δ:Mk):Z7 Out:=aI (bK 5 (frO (ae (af (rd Y 0 δ) (af (rd Y 1 δ) (af (rd Y 3 δ) (U [])))) Kz)) δ) (λδ=>aI (ae (wW (rd Y 5 δ)) λds=>am (λd δ=>ae ((aO (aj (aa 6) (aj (aa 7) (aak)))) d δ) kH) ds δ) (λδ=>aI (bK 14 (frO (ae (af (rd Y 2 δ) (af (rd Y 3 δ) (U []))) Jo)) δ) (λδ=>eD (jx .tt (ax (ae (b9 (rd Y 4 δ)) (b8 Y [Y,Y,Y,Y,Y,Y,Y,Y,Y,Y,Y,Y,Y,Y,L,Y,Y,Y] (aa 16) (λδ=>U L) xJ δ)))))))
def Jq:Z9 D->Z7 (D×Bool):=cb 18 5 EV
abbrev Go:Z9 Str:=["rows","body","known","found","letters","cells"]
abbrev yb(δ:Mk):Z7 D:=sS Y L (rd Y 4 δ) (rd Y 5 δ)
noncomputable abbrev Du(δ:Mk):Z7 Out:=aI (bK 4 (frO (ae (af (rd Y 1 δ) (U [])) Hv)) δ) (λδ=>eD (ax (ae (b9 (frO (ae (af (rd Y 0 δ) (af (rd Y 1 δ) (af (rd Y 4 δ) (af (rd Y 2 δ) (af (rd Y 3 δ) (U [])))))) Jq))) (b8 Y [Y,Y,Y,Y,L,Y] (aa 5) (λδ=>U L) yb δ))))
def KA:Z9 D->Z7 (D×Bool):=cb 6 4 Du
abbrev Gu:Z9 Str:=["rows","body"]
abbrev Ep(δ:Mk):Z7 Out:=eD (frO (ae (af (rd Y 0 δ) (af (rd Y 1 δ) (af (dz (U [])) (af (dz (af (eZ (U [])) (U []))) (U []))))) KA))
def HP:Z9 D->Z7 (D×Bool):=cb 2 2 Ep
abbrev Hg:Z9 Str:=["patterns","fit","cell_for","pattern","cell","letter"]
abbrev yw(δ:Mk):Z7 D:=eZ (af (eZ (af (U (.str "any")) (af (rd Y 5 δ) (U [])))) (af (rd Y 4 δ) (U [])))
abbrev xV(δ:Mk):Z7 D:=shO (ae (af (rd Y 3 δ) (af (rd Y 2 δ) (U []))) Jr)
noncomputable abbrev DH(δ:Mk):Z7 Out:=aI (bK 2 (gX (ax (ae (b9 (rd Y 1 δ)) (b8 Y [Y,Y,Y,Y,Y,Y] (aO (aj (aa 5) (aj (aa 4) (aak)))) (λδ=>U L) yw δ)))) δ) (λδ=>eD (ax (ae (b9 (rd Y 0 δ)) (b8 Y [Y,Y,L,Y,Y,Y] (aa 3) (λδ=>U L) xV δ))))
def KG:Z9 D->Z7 (D×Bool):=cb 6 2 DH
abbrev Gn:Z9 Str:=["rows","body","wanted"]
noncomputable abbrev Er(δ:Mk):Z7 Out:=eD (frO (ae (af (rd Y 0 δ) (af (rd Y 1 δ) (af (rd Y 2 δ) (af (dz (U [])) (af (dz (af (eZ (U [])) (U []))) (U [])))))) Jq))
def KC:Z9 D->Z7 (D×Bool):=cb 3 3 Er
abbrev F2:Z9 Str:=["rows","question"]
abbrev D9(δ:Mk):Z7 Out:=eD (frO (ae (af (rd Y 0 δ) (af (ixO (rd Y 1 δ) (U (.int 1))) (af (ixO (rd Y 1 δ) (U (.int 0))) (U [])))) KC))
def J6:Z9 D->Z7 (D×Bool):=cb 2 2 D9
abbrev GU:Z9 Str:=["_law_cell","_law_j","_law_number"]
noncomputable abbrev EF(δ:Mk):Z7 Out:=aI (bK 2 (fv (ix (u0 (rd Y 0 δ) (ix (u0 (U (.int 2)) (rd Y 1 δ)) (U (.int 3)))) (rd Y 1 δ)) (U (.int 2147483629))) δ) (λδ=>eR (fv (u0 (ix (u0 (rd Y 2 δ) (rd Y 2 δ)) (U (.int 1))) (U (.int 48271))) (U (.int 2147483629))))
def r_:Z9 D->Z7 (D×Bool):=cb 3 2 EF
abbrev GC:Z9 Str:=["_law_cell","_law_letters_here","_law_size","_law_stem","_law_at","_law_found","_law_k","_law_sign"]
abbrev uk(δ:Mk):Z7 D:=uX (rd Y 1 δ) (fv (shO (ae (af (rd Y 0 δ) (af (ix (U (.int 2)) (rd Y 6 δ)) (U []))) r_)) (U (.int 26)))
noncomputable abbrev rK(δ:Mk):Z7 Out:=aI (bK 7 (uX (rd Y 1 δ) (fv (ix (vY (rd Y 1 δ) (uX (rd Y 3 δ) (rd Y 4 δ))) (u0 (U (.int 7)) (rd Y 6 δ))) (U (.int 26)))) δ) (λδ=>lC 5 (AM (AM (lJ (rd Y 3 δ) (U M) (ly (rd Y 4 δ))) (rd Y 7 δ)) (lJ (rd Y 3 δ) (ly (ix (rd Y 4 δ) (U (.int 1)))) (U M))) δ)
noncomputable abbrev yF(δ:Mk):Z7 Out:=eD (vL (rd Y 5 δ) (dz (af (AM (rd Y 3 δ) (uX (rd Y 1 δ) (fv (shO (ae (af (rd Y 0 δ) (af (U (.int 10)) (U []))) r_)) (U (.int 26))))) (af (lJ (rd Y 3 δ) (U M) (ly (EM (rd Y 2 δ) (U (.int 1))))) (U [])))))
noncomputable abbrev EO(δ:Mk):Z7 Out:=aI (bK 1 (U (.str "abcdefghijklmnopqrstuvwxyz")) δ) (λδ=>aI (bK 2 (ix (U (.int 2)) (fv (shO (ae (af (rd Y 0 δ) (af (U (.int 1)) (U []))) r_)) (U (.int 6)))) δ) (λδ=>aI (bK 3 (qV (U (.str "")) (ax (ae (r6 (rd Y 2 δ)) (b8 Y [L,L,Y,Y,Y,Y,Y,Y] (aa 6) (λδ=>U L) uk δ)))) δ) (λδ=>aI (bK 4 (fv (shO (ae (af (rd Y 0 δ) (af (U (.int 9)) (U []))) r_)) (rd Y 2 δ)) δ) (λδ=>aI (eT 5 (dz (U [])) δ) (λδ=>aI (ae (r6 (U (.int 4))) λds=>am (λd δ=>ae ((aa 6) d δ) rK) ds δ) (λδ=>yF (aaO 5 δ)))))))
def Kv:Z9 D->Z7 (D×Bool):=cb 8 1 EO
abbrev GF:Z9 Str:=["_law_cell"]
noncomputable abbrev ET(δ:Mk):Z7 Out:=eR (eZ (af (frO (ae (af (rd Y 0 δ) (U [])) Kv)) (af (fv (shO (ae (af (rd Y 0 δ) (af (U (.int 11)) (U []))) r_)) (U (.int 400000))) (af (ix (U (.int 1)) (fv (shO (ae (af (rd Y 0 δ) (af (U (.int 12)) (U []))) r_)) (U (.int 50000)))) (U [])))))
def Ku:Z9 D->Z7 (D×Bool):=cb 1 1 ET
abbrev Hm:Z9 Str:=["_law_cell","_law_letters_here","_law_start","_law_step","_law_k"]
abbrev sV(δ:Mk):Z7 D:=uX (rd Y 1 δ) (fv (ix (rd Y 2 δ) (u0 (rd Y 3 δ) (rd Y 4 δ))) (U (.int 26)))
noncomputable abbrev Ex(δ:Mk):Z7 Out:=aI (bK 1 (U (.str "ABCDEFGHIJKLMNOPQRSTUVWXYZ")) δ) (λδ=>aI (bK 2 (fv (shO (ae (af (rd Y 0 δ) (af (U (.int 13)) (U []))) r_)) (U (.int 26))) δ) (λδ=>aI (bK 3 (ixO (dz (U [(.int 1),(.int 3),(.int 5),(.int 7),(.int 9),(.int 11)])) (fv (shO (ae (af (rd Y 0 δ) (af (U (.int 14)) (U []))) r_)) (U (.int 6)))) δ) (λδ=>eD (ax (ae (r6 (U (.int 4))) (b8 Y [Y,L,L,L,Y] (aa 4) (λδ=>U L) sV δ))))))
def Kt:Z9 D->Z7 (D×Bool):=cb 5 1 Ex
abbrev GW:Z9 Str:=["_law_world_here","_law_number","_law_words_here","_law_start","_law_step"]
noncomputable abbrev Dr(δ:Mk):Z7 Out:=aI (xI (rd Y 0 δ) (aO (aj (aa 2) (aj (aa 3) (aj (aa 4) (aak))))) δ) (λδ=>aI (ifO (eqO (fv (rd Y 1 δ) (U (.int 2))) (U (.int 0))) (eR (eZ (af (U (.str "blank")) (af (ix (rd Y 3 δ) (u0 (rd Y 4 δ) (fv (A8 (rd Y 1 δ) (U (.int 2))) (U (.int 12))))) (U []))))) (aaD δ)) (λδ=>eR (eZ (af (U (.str "name")) (af (ixO (rd Y 2 δ) (fv (A8 (rd Y 1 δ) (U (.int 2))) (U (.int 6)))) (U []))))))
def IT:Z9 D->Z7 (D×Bool):=cb 5 2 Dr
abbrev FY:Z9 Str:=["_law_world_here","_law_cell","_law_size","_law_cells","_law_k"]
abbrev tX(δ:Mk):Z7 D:=shO (ae (af (rd Y 0 δ) (af (shO (ae (af (rd Y 1 δ) (af (ix (U (.int 3)) (rd Y 4 δ)) (U []))) r_)) (U []))) IT)
noncomputable abbrev yg(δ:Mk):Z7 Out:=eR (eZ (af (ixO (ixO (rd Y 0 δ) (U (.int 0))) (fv (shO (ae (af (rd Y 1 δ) (af (U (.int 2)) (U []))) r_)) (U (.int 2)))) (af (bU (rd Y 3 δ)) (U []))))
noncomputable abbrev DL(δ:Mk):Z7 Out:=aI (bK 2 (ix (U (.int 1)) (fv (shO (ae (af (rd Y 1 δ) (af (U (.int 1)) (U []))) r_)) (U (.int 3)))) δ) (λδ=>aI (eT 3 (ax (ae (r6 (rd Y 2 δ)) (b8 Y [L,L,Y,Y,Y] (aa 4) (λδ=>U L) tX δ))) δ) (λδ=>yg (aaO 3 δ)))
def Ks:Z9 D->Z7 (D×Bool):=cb 5 2 DL
abbrev GQ:Z9 Str:=["_law_rows","_law_found","_law_row_here"]
abbrev mZ(δ:Mk):Z7 Out:=ifO (bw (rd Y 2 δ) (rd L 1 δ)) (lC 1 (rd Y 2 δ) δ) (aaD δ)
noncomputable abbrev Ez(δ:Mk):Z7 Out:=aI (eT 1 (dz (U [])) δ) (λδ=>aI (ae (b9 (jx .ts (rd Y 0 δ))) λds=>am (λd δ=>ae ((aa 2) d δ) mZ) ds δ) (λδ=>eD (bN 1 δ)))
def Kr:Z9 D->Z7 (D×Bool):=cb 3 1 Ez
abbrev GX:Z9 Str:=["_law_letters_here","_law_rows","_law_cell","_law_table","_law_cells","_law_terms","_law_k","_law_drawn"]
noncomputable abbrev nB(δ:Mk):Z7 Out:=aI (bK 7 (shO (ae (af (rd Y 2 δ) (af (ix (U (.int 17)) (rd Y 6 δ)) (U []))) r_)) δ) (λδ=>ifO (orO (eqO (ixO (ixO (rd Y 4 δ) (rd Y 6 δ)) (U (.int 0))) (U (.str "blank"))) (eqO (fv (rd Y 7 δ) (U (.int 2))) (U (.int 1)))) (lC 5 (eZ (af (U (.str "any")) (af (ixO (rd Y 0 δ) (fv (A8 (rd Y 7 δ) (U (.int 2))) (U (.int 4)))) (U [])))) δ) (lC 5 (ixO (rd Y 4 δ) (rd Y 6 δ)) δ))
abbrev yc(δ:Mk):Z7 Out:=eR (eZ (af (rd Y 3 δ) (af (bU (rd Y 5 δ)) (U []))))
noncomputable abbrev Eg(δ:Mk):Z7 Out:=aI (xI (ixO (rd Y 1 δ) (fv (shO (ae (af (rd Y 2 δ) (af (U (.int 16)) (U []))) r_)) (jv (rd Y 1 δ)))) (aO (aj (aa 3) (aj (aa 4) (aak)))) δ) (λδ=>aI (eT 5 (dz (U [])) δ) (λδ=>aI (ae (r6 (jv (rd Y 4 δ))) λds=>am (λd δ=>ae ((aa 6) d δ) nB) ds δ) (λδ=>yc (aaO 5 δ))))
def J4:Z9 D->Z7 (D×Bool):=cb 8 3 Eg
abbrev Gh:Z9 Str:=["_law_world_here","_law_cell","_law_found","_law_k","_law_drawn"]
noncomputable abbrev nO(δ:Mk):Z7 Out:=aI (bK 4 (shO (ae (af (rd Y 1 δ) (af (ix (U (.int 21)) (rd Y 3 δ)) (U []))) r_)) δ) (λδ=>ifO (eqO (fv (rd Y 4 δ) (U (.int 2))) (U (.int 0))) (lC 2 (eZ (af (ix (ixO (rd Y 0 δ) (U (.int 1))) (u0 (ixO (rd Y 0 δ) (U (.int 2))) (rd Y 3 δ))) (af (shO (ae (af (rd Y 0 δ) (af (A8 (rd Y 4 δ) (U (.int 2))) (U []))) IT)) (U [])))) δ) (aaD δ))
noncomputable abbrev EL(δ:Mk):Z7 Out:=aI (eT 2 (dz (U [])) δ) (λδ=>aI (ae (r6 (U (.int 12))) λds=>am (λd δ=>ae ((aa 3) d δ) nO) ds δ) (λδ=>eD (bN 2 δ)))
def Kq:Z9 D->Z7 (D×Bool):=cb 5 2 EL
abbrev Gc:Z9 Str:=["_law_moves_here","_law_cell","_law_number","_law_to"]
abbrev im(δ:Mk):Z7 Out:=ifO (eqO (rd Y 1 δ) (eZ (af (U (.str "blank")) (af (rd Y 2 δ) (U []))))) (eR (rd Y 3 δ)) (aaD δ)
noncomputable abbrev EG(δ:Mk):Z7 Out:=aI (ae (b9 (rd Y 0 δ)) λds=>am (λd δ=>ae ((aO (aj (aa 2) (aj (aa 3) (aak)))) d δ) im) ds δ) (λδ=>eR (rd Y 1 δ))
def JZ:Z9 D->Z7 (D×Bool):=cb 4 2 EG
abbrev Gm:Z9 Str:=["_law_body","_law_found","_law_table","_law_terms","_law_term"]
abbrev jF(δ:Mk):Z7 D:=ixO (rd Y 4 δ) (U (.int 1))
noncomputable abbrev tj(δ:Mk):Z7 Out:=uY 1 (ax (dj (ae (u7 (rd L 3 δ)) (b8 L [Y,L,Y,Y,Y] (aa 4) (λδ=>yj (eqO (ixO (rd Y 4 δ) (U (.int 0))) (U (.str "any"))) (bw (ixO (rd Y 4 δ) (U (.int 1))) (rd Y 1 δ))) jF δ)))) δ
noncomputable abbrev Ew(δ:Mk):Z7 Out:=aI (eT 1 (dz (U [])) δ) (λδ=>aI (ae (b9 (rd Y 0 δ)) λds=>am (λd δ=>ae ((aO (aj (aa 2) (aj (aa 3) (aak)))) d δ) tj) ds δ) (λδ=>eD (bN 1 δ)))
def IS:Z9 D->Z7 (D×Bool):=cb 5 1 Ew
noncomputable abbrev Gy:Z9 Str:=["_law_rows","_law_body","_law_told","_law_alone","_law_fit","_law_row_here","_law_k","_law_known","_law_pattern_here","_law_pair"]
abbrev t7(δ:Mk):Z7 D:=frO (ae (af (rd Y 0 δ) (af (dz (af (rd Y 8 δ) (U []))) (U []))) HP)
abbrev rO(δ:Mk):Z7 Out:=ifO (bw (rd Y 5 δ) (rd Y 0 δ)) (eR (U (.bl Y))) (aaD δ)
abbrev xX(δ:Mk):Z7 D:=rd Y 9 δ
noncomputable abbrev m3(δ:Mk):Z7 Out:=aI (bK 7 (frO (ae (af (dz (af (ixO (rd Y 1 δ) (rd Y 6 δ)) (U []))) (U [])) IS)) δ) (λδ=>ifO (bw (ax (ae (b9 (rd Y 4 δ)) (b8 Y [Y,Y,Y,Y,Y,Y,Y,L,Y,Y] (aa 9) (λδ=>inO (ixO (rd Y 9 δ) (U (.int 0))) (rd Y 7 δ)) xX δ))) (ixO (rd Y 3 δ) (rd Y 6 δ))) (eR (U (.bl Y))) (aaD δ))
noncomputable abbrev sM(δ:Mk):Z7 Out:=aI (ae (b9 (frO (ae (af (rd Y 1 δ) (af (rd Y 4 δ) (U []))) KG))) λds=>am (λd δ=>ae ((aa 5) d δ) rO) ds δ) (λδ=>ae (r6 (jv (rd Y 1 δ))) λds=>am (λd δ=>ae ((aa 6) d δ) m3) ds δ)
abbrev xK(δ:Mk):Z7 Out:=aI (ae (b9 (rd Y 2 δ)) λds=>am (λd δ=>ae ((aa 4) d δ) sM) ds δ) (λδ=>eR (U (.bl L)))
abbrev DB(δ:Mk):Z7 Out:=aI (eT 3 (ax (ae (b9 (rd Y 1 δ)) (b8 Y [L,Y,Y,Y,Y,Y,Y,Y,Y,Y] (aa 8) (λδ=>U L) t7 δ))) δ) (λδ=>xK (aaO 3 δ))
def Kp:Z9 D->Z7 (D×Bool):=cb 10 3 DB
noncomputable abbrev acn:Z9 Str:=["_law_script","_law_cells","_law_total","_law_world_here","_law_rows","_law_letters_here","_law_body","_law_moves_here","_law_told","_law_there","_law_others","_law_asked","_law_some","_law_more","_law_known","_law_fit","_law_answer","_law_cell","_law_letter"]
abbrev md(δ:Mk):Z7 D:=shO (ae (af (rd Y 3 δ) (af (rd Y 17 δ) (U []))) Ks)
abbrev lV(δ:Mk):Z7 Out:=jO 14 (bU (rd Y 15 δ)) (U (.bl L)) δ
abbrev mh(δ:Mk):Z7 Out:=jO 14 (rd Y 16 δ) (U (.bl L)) δ
abbrev sx(δ:Mk):Z7 D:=eZ (af (rd Y 18 δ) (af (shO (ae (af (rd Y 7 δ) (af (rd Y 17 δ) (U []))) JZ)) (U [])))
noncomputable abbrev mH(δ:Mk):Z7 Out:=ifO (gW (yo (bU (ax (ae (b9 (rd Y 15 δ)) (b8 Y [Y,Y,Y,Y,Y,Y,Y,L,Y,Y,Y,Y,Y,Y,Y,Y,Y,Y,Y] (aO (aj (aa 18) (aj (aa 17) (aak)))) (λδ=>U L) sx δ)))) (rd L 14 δ))) (eR (U (.bl Y))) (aaD δ)
abbrev sC(δ:Mk):Z7 D:=shO (ae (af (rd Y 7 δ) (af (rd Y 17 δ) (U []))) JZ)
noncomputable abbrev lO(δ:Mk):Z7 Out:=ifO (gW (yo (bU (ax (ae (u7 (rd Y 16 δ)) (b8 Y [Y,Y,Y,Y,Y,Y,Y,L,Y,Y,Y,Y,Y,Y,Y,Y,Y,Y,Y] (aa 17) (λδ=>U L) sC δ)))) (rd L 14 δ))) (eR (U (.bl Y))) (aaD δ)
noncomputable abbrev Ac(δ:Mk):Z7 Out:=aI (bK 1 (t4 (rd Y 0 δ) (U M) (ly (U (.int 40)))) δ) (λδ=>aI (ifO (eqO (rd Y 1 δ) (dz (U []))) (eR (ofB (eqO (frO (ae (af (dz (U [])) (af (dz (U [])) (U []))) HP)) (dz (af (dz (U [])) (U [])))))) (aaD δ)) (λδ=>aI (bK 2 (fv (Ct (rd Y 1 δ)) (U (.int 1000003))) δ) (λδ=>aI (bK 3 (shO (ae (af (rd Y 2 δ) (U [])) Ku)) δ) (λδ=>aI (bK 4 (frO (ae (af (ax (ae (b9 (rd Y 1 δ)) (b8 Y [Y,Y,Y,L,Y,Y,Y,Y,Y,Y,Y,Y,Y,Y,Y,Y,Y,Y,Y] (aa 17) (λδ=>U L) md δ))) (U [])) Kr)) δ) (λδ=>aI (bK 5 (frO (ae (af (rd Y 2 δ) (U [])) Kt)) δ) (λδ=>aI (bK 6 (dz (af (shO (ae (af (rd Y 5 δ) (af (rd Y 4 δ) (af (rd Y 2 δ) (U [])))) J4)) (af (shO (ae (af (rd Y 5 δ) (af (rd Y 4 δ) (af (ix (rd Y 2 δ) (U (.int 500009))) (U [])))) J4)) (U [])))) δ) (λδ=>aI (bK 7 (frO (ae (af (rd Y 3 δ) (af (rd Y 2 δ) (U []))) Kq)) δ) (λδ=>aI (bK 8 (frO (ae (af (rd Y 4 δ) (af (rd Y 6 δ) (U []))) HP)) δ) (λδ=>aI (ifO (gW (tyB (shO (ae (af (rd Y 4 δ) (af (rd Y 6 δ) (af (rd Y 8 δ) (U [])))) Kp)))) (eR (U (.bl Y))) (aaD δ)) (λδ=>aI (bK 9 (frO (ae (af (rd Y 4 δ) (af (rd Y 7 δ) (U []))) KH)) δ) (λδ=>aI (bK 10 (frO (ae (af (rd Y 9 δ) (af (rd Y 6 δ) (U []))) HP)) δ) (λδ=>aI (bK 11 (frO (ae (af (rd Y 6 δ) (U [])) IS)) δ) (λδ=>aI (bK 12 (frO (ae (af (rd Y 4 δ) (af (eZ (af (rd Y 11 δ) (af (rd Y 6 δ) (U [])))) (U []))) J6)) δ) (λδ=>aI (bK 13 (frO (ae (af (rd Y 9 δ) (af (eZ (af (rd Y 11 δ) (af (rd Y 6 δ) (U [])))) (U []))) J6)) δ) (λδ=>aI (ifO (neO (jv (rd Y 12 δ)) (jv (rd Y 8 δ))) (eR (U (.bl Y))) (aaD δ)) (λδ=>aI (eT 14 (U (.dD [] [])) δ) (λδ=>aI (ae (b9 (rd Y 10 δ)) λds=>am (λd δ=>ae ((aa 15) d δ) lV) ds δ) (λδ=>aI (ae (b9 (rd Y 13 δ)) λds=>am (λd δ=>ae ((aa 16) d δ) mh) ds δ) (λδ=>aI (ae (b9 (rd Y 8 δ)) λds=>am (λd δ=>ae ((aa 15) d δ) mH) ds δ) (λδ=>aI (ae (b9 (rd Y 12 δ)) λds=>am (λd δ=>ae ((aa 16) d δ) lO) ds δ) (λδ=>eR (U (.bl L)))))))))))))))))))))))
def f_law:Z9 D->Z7 (D×Bool):=cb 19 1 Ac
section
variable{P:YX}{w:YK}{K:Z5}{mg:Str->Z7 Z3}{base:Heap}
theorem GR(T:Txt mg)(D:Df K mg "stand_of" Fj):FnM P w K mg base 1 "stand_of" KI:=
 mk 1 Gg Ek D (by walk_at "sc") (by walk_at "bi") (by walk_at "mk")
theorem GS(T:Txt mg)(D:Df K mg "exchanged" FE):FnM P w K mg base 1 "exchanged" Jr:=
 mk 2 Hn D7 D (by walk_at "sc") (by walk_at "bi") (by walk_at "mk")
theorem G6(T:Txt mg)(D:Df K mg "moved" FJ)(_:FnM P w K mg base 1 "stand_of" KI)(_:FnM P w K mg base 1 "exchanged" Jr):FnM P w K mg base 2 "moved" KH:=
 mk 2 Gs Ec D (by walk_at "sc") (by walk_at "bi") (by walk_at "mk")
theorem F0(T:Txt mg)(D:Df K mg "letters_of" Fr):FnM P w K mg base 1 "letters_of" Hv:=
 mk 1 Gf Ef D (by walk_at "sc") (by walk_at "bi") (by walk_at "mk")
theorem Gp(T:Txt mg)(D:Df K mg "binding_of" Fx):FnM P w K mg base 1 "binding_of" Ky:=
 mk 2 F9 DQ D (by walk_at "sc") (by walk_at "bi") (by walk_at "mk")
theorem GP(T:Txt mg)(D:Df K mg "bindings" FA)(_:FnM P w K mg base 1 "binding_of" Ky):FnM P w K mg base 2 "bindings" J5:=
 mk 2 FZ Dz D (by walk_at "sc") (by walk_at "bi") (by walk_at "mk")
theorem FW(T:Txt mg)(D:Df K mg "is_linked" FC)(_:FnM P w K mg base 1 "letters_of" Hv):FnM P w K mg base 2 "is_linked" Jp:=
 mk 2 GY DV D (by walk_at "sc") (by walk_at "bi") (by walk_at "mk")
def Cy:aaB EK (["rows","body","known"]:Z9 Str) (defScope A6):=⟨rfl,rfl,rfl,by decide +kernel,rfl,by decide +kernel,by decide +kernel⟩
theorem F4{X:Cx}(hX:Has X EK (defScope A6))(hf:∀x,X.fn x=L)(hp:PassesOwn (model X.prog X.w) X.A X.env X.xe)(hr:aan 3 X.A)(T:Txt X.mg)(P_ c_:ZM)(Nj:((P_,("search_order.<locals>.<lambda>":Str)):ZM×Str)∈Lams.tb)(U6:X.env.qual++"<lambda>"=("search_order.<locals>.<lambda>":Str))(Nk:PySem.W.CodeHd X.base c_ P_)(U7:X.env.code=.ref c_)(Mp:FnM X.prog X.w X.K X.mg X.base 1 "letters_of" Hv)(Mn:FnM X.prog X.w X.K X.mg X.base 2 "bindings" J5)(Mo:FnM X.prog X.w X.K X.mg X.base 2 "is_linked" Jp):
  DSs X (defBody A6) Lj:=by
 have hu:=hr.units;have n1:Nm X 1 "body":=hX.nm (by decide +kernel);have n2:Nm X 2 "known":=hX.nm (by decide +kernel);have n3:Nm X 3 "rest":=hX.nm (by decide +kernel);have l3:Lc X 3 "rest":=hX.lc hf (by decide +kernel);have n4:Nm X 4 "placed":=hX.nm (by decide +kernel);have l4:Lc X 4 "placed":=hX.lc hf (by decide +kernel);have l5:Lc X 5 "bound":=hX.lc hf (by decide +kernel);have n6:Nm X 6 "linked":=hX.nm (by decide +kernel);have n7:Nm X 7 "taken":=hX.nm (by decide +kernel);have l7:Lc X 7 "taken":=hX.lc hf (by decide +kernel);have NX:Gb X "letters_of":=hX.gb (by decide +kernel);have Ln:Gb X "list":=hX.gb (by decide +kernel);have J8:Gb X "sorted":=hX.gb (by decide +kernel);refine' @dW _ _ _ _ _ _ ?z1 ?_
 case z1=>
  refine' @iM _ _ _ _ _ _ _ _ hX.nd l3 ?z2 (by rfl)
  case z2=>
   refine' @mM _ _ _ _ _ gU _ _ _ _ _ _ _ _ _ "pair" 0 (hr.mono (by decide)) J8.gl (Txb.get (x:="sorted") T (by decide +kernel)) Nj U6 Nk U7 rfl rfl ⟨rfl,rfl,rfl,by decide +kernel,rfl,by decide +kernel,by decide +kernel⟩ (λ_ _ _ _ _=>.of_eq rfl) ?z3 ?z4 (by rfl)
   case z3=>
    intro _ _ _ _ _ _;exact @rL _ _ Y Y _ _ _ _ ((Dk (N:=["pair"]) (by decide +kernel)).gb (x:="len") (by decide +kernel)) (Txb.get (x:="len") T (by decide +kernel)) (@w9 _ _ Y Y _ _ _ _ _ (@nv _ _ _ _ _ Y ((Dk (N:=["pair"]) (by decide +kernel)).nm (i:=0) (by decide +kernel))) (@jK _ _ Y _ _ _) (by exact λ_ _=>rfl)) (by rfl)
   case z4=>
    refine' @DF.share _ _ Y _ _ ?z5
    case z5=>
     refine' @uR _ _ _ _ _ _ _ _ _ _ _ _ _ hX.calm (f7 8) (@lP _ _ Y _ _ _ (@nv _ _ _ _ _ Y n1)) (aag.of' hX (by decide +kernel)) (λcl C a_ b_ ex pn=>@jd _ _ _ _ _ (hX.comp _ cl C a_ b_ ex pn).nd ((hX.comp _ cl C a_ b_ ex pn).lcl (i:=8) (by decide +kernel))) (λcl C a_ b_ ex pn=>@lN _ _) ?z6 (by intro _;rfl)
     case z6=>
      intro cl C a_ b_ ex pn;refine' @yn _ _ Y _ _ _ _ ?z7
      case z7=>
       refine' @cu _ _ Y _ _ _ _ (@nv _ _ _ _ _ Y ((hX.comp _ cl C a_ b_ ex pn).nm (i:=8) (by decide +kernel))) ?z8 (by rfl)
       case z8=>
        refine' @cu _ _ Y _ _ _ _ ?z9 (@gw _ _ _) (by rfl)
        case z9=>
         refine' @DF.share _ _ Y _ _ ?N3
         case N3=>
          refine' @nL _ _ _ _ _ _ _ _ _ _ Mn (hr.mono (by decide)) ((hX.comp _ cl C a_ b_ ex pn).gb (x:="bindings") (by decide +kernel)) ?N2 (by rfl) (by rfl)
          case N2=>
           exact @cu _ _ Y _ _ _ _ (@nv _ _ _ _ _ Y ((hX.comp _ cl C a_ b_ ex pn).nm (i:=0) (by decide +kernel))) (@cu _ _ Y _ _ _ _ (@nv _ _ _ _ _ Y ((hX.comp _ cl C a_ b_ ex pn).nm (i:=8) (by decide +kernel))) (@gw _ _ _) (by rfl)) (by rfl)
 refine' @dW _ _ _ _ _ _ ?N1 ?_
 case N1=>
  exact @iM _ _ _ _ _ _ _ _ hX.nd l4 (@xD _ _ _ _ _ (@gw _ _ _)) (by rfl)
 refine @dW _ _ _ _ _ _ (@nF _ _ _ _ kq kN _ 1000 hp (@xx _ _ _ _ _ (@nv _ _ _ _ _ L n3) (by intro _;rfl)) ?_) ?_
 .refine' @dW _ _ _ _ _ _ ?N0 ?_
  case N0=>
   refine' @ug _ _ _ _ _ _ _ _ hX.nd l5 ?S1 (by rfl)
   case S1=>
    refine' @DF.share _ _ Y _ _ ?OO
    case OO=>
     refine' @xF _ _ _ _ _ _ _ ?Q0 ?S0
     case Q0=>
      exact @DF.share _ _ Y _ _ (@tq _ _ _ _ _ _ Ln.gl (Txb.get (x:="list") T (by decide +kernel)) (@nv _ _ _ _ _ Y n2) (by rfl))
     case S0=>
      refine' @DF.share _ _ Y _ _ ?SY
      case SY=>
       refine' @jI _ _ _ _ _ _ _ _ _ _ Mp (hr.mono (by decide)) NX ?SX (by rfl) (by rfl)
       case SX=>
        refine' @cu _ _ _ _ _ _ _ ?SW (@gw _ _ _) (by rfl)
        case SW=>
         refine' @DF.share _ _ L _ _ ?SV
         case SV=>
          refine' @nY _ _ _ _ _ _ _ _ _ _ _ _ _ hX.calm (f7 9) (@lP _ _ _ _ _ _ (@nv _ _ _ _ _ L n4)) (aag.of' hX (by decide +kernel)) (λcl C a_ b_ ex pn=>@jd _ _ _ _ _ (hX.comp _ cl C a_ b_ ex pn).nd ((hX.comp _ cl C a_ b_ ex pn).lcl (i:=9) (by decide +kernel))) (λcl C a_ b_ ex pn=>@lN _ _) ?SU (by intro _;rfl)
          case SU=>
           intro cl C a_ b_ ex pn;exact @w9 _ _ Y Y _ _ _ _ _ (@nv _ _ _ _ _ Y ((hX.comp _ cl C a_ b_ ex pn).nm (i:=9) (by decide +kernel))) (@jK _ _ Y _ _ _) (by exact λ_ _=>rfl)
  refine' @tT _ _ 3 9 6 7 _ _ _ _ ([Y,Y,Y,Y,Y,L,Y,Y,Y,Y]) _ _ oK _ sI _ _ _ _ _ _ _ _ _ _ _ _ _ _ _ _ _ _ _ _ _ _ _ hu hX.nd hX.calm n3 n6 n7 l7 (lj hX (by decide +kernel)) (by decide) (by decide) (by decide) (aag.of' hX (by decide +kernel)) (λcl C a_ b_ ex pn=>mn (hX.comp _ cl C a_ b_ ex pn).nd ((hX.comp _ cl C a_ b_ ex pn).lcl (i:=9) (x:="pair") (by decide +kernel)).at' ((hX.comp _ cl C a_ b_ ex pn).lcl (i:=9) (x:="pair") (by decide +kernel)).loc ((hX.comp _ cl C a_ b_ ex pn).lcl (i:=9) (x:="pair") (by decide +kernel)).fnl) ?SS (λcl C a_ b_ ex pn=>bA ((hX.comp _ cl C a_ b_ ex pn).nm (i:=9) (x:="pair") (by decide +kernel)).at' ((hX.comp _ cl C a_ b_ ex pn).nm (i:=9) (x:="pair") (by decide +kernel)).vis (by decide) (by decide)) ?_ (eA hX (by decide +kernel)) (by intro _;rfl) (by rfl) (by intro _;rfl) (λ_ _=>rfl) (λ_ _=>rfl) ⟨by rfl,by rfl,by rfl,by rfl,by rfl⟩ (by rfl)
  case SS=>
   intro cl C a_ b_ ex pn;refine' @uG _ _ _ _ ?SR
   case SR=>
    refine' @yr _ _ Y _ _ ?SQ (by intro _;rfl)
    case SQ=>
     refine' @nA _ _ Y _ _ _ _ _ _ _ _ Mo (hr.mono (by decide)) ((hX.comp _ cl C a_ b_ ex pn).gb (x:="is_linked") (by decide +kernel)) ?SO (by rfl) (by rfl)
     case SO=>
      exact @cu _ _ Y _ _ _ _ (@w9 _ _ Y Y _ _ _ _ _ (@nv _ _ _ _ _ Y ((hX.comp _ cl C a_ b_ ex pn).nm (i:=9) (by decide +kernel))) (@jK _ _ Y _ _ _) (by exact λ_ _=>rfl)) (@cu _ _ Y _ _ _ _ (@nv _ _ _ _ _ Y ((hX.comp _ cl C a_ b_ ex pn).nm (i:=5) (by decide +kernel))) (@gw _ _ _) (by rfl)) (by rfl)
  refine @mR _ _ _ _ (@iw _ _ _ _ _ _ _ _ _ _ n4 (@nv _ _ _ _ _ Y n7) ⟨by rfl,by rfl,by rfl,by rfl,by rfl⟩ (by rfl))
 refine @mR _ _ _ _ (@oR _ _ _ _ _ _ n4)
theorem Gx{c_ P_:ZM}(D:DfC K mg "search_order" A6 c_)(T:Txt mg)(Nj:((P_,("search_order.<locals>.<lambda>":Str)):ZM×Str)∈Lams.tb)(Nk:PySem.W.CodeHd base c_ P_)(Mp:FnM P w K mg base 1 "letters_of" Hv)(Mn:FnM P w K mg base 2 "bindings" J5)(Mo:FnM P w K mg base 2 "is_linked" Jp):
  FnM P w K mg base 4 "search_order" Kz:=by
 obtain⟨f,fd,F,hm,NV⟩:=D;have hb:=F.binds (ps:=["rows","body","known"]) (by walk_at "bi");have h:=xZ (P:=P) (w:=w) (base:=base) (k:=3) (g:=Lj) F Cy hb hm (by decide) λA outer s H E hr=>by
  exact @F4 _ ((qw CX0 P w K mg base EK "search_order" (defScope A6) f fd.code A outer s H E).nox) (Dk Cy.nd) (λ_=>rfl) PassesOwn.never hr T P_ c_ Nj rfl Nk NV Mp Mn Mo
 exact h.2
theorem Ho(T:Txt mg)(D:Df K mg "places_of" Fv):FnM P w K mg base 1 "places_of" Jo:=
 mk 2 G0 ES D (by walk_at "sc") (by walk_at "bi") (by walk_at "mk")
theorem G8(T:Txt mg)(D:Df K mg "grouped" Fa):FnM P w K mg base 1 "grouped" Kx:=
 mk 3 Hc D5 D (by walk_at "sc") (by walk_at "bi") (by walk_at "mk")
theorem G1(T:Txt mg)(D:Df K mg "picked" Fl):FnM P w K mg base 1 "picked" IU:=
 mk 2 Gq Dw D (by walk_at "sc") (by walk_at "bi") (by walk_at "mk")
theorem GT(T:Txt mg)(D:Df K mg "extended" FG)(_:FnM P w K mg base 1 "picked" IU):FnM P w K mg base 2 "extended" Kw:=
 mk 4 Ha Dx D (by walk_at "sc") (by walk_at "bi") (by walk_at "mk")
theorem Gw(T:Txt mg)(D:Df K mg "joined_from" FB)(_:FnM P w K mg base 1 "letters_of" Hv)(_:FnM P w K mg base 4 "search_order" Kz)(_:FnM P w K mg base 1 "places_of" Jo)(_:FnM P w K mg base 1 "grouped" Kx)(_:FnM P w K mg base 1 "picked" IU)(_:FnM P w K mg base 2 "extended" Kw):FnM P w K mg base 5 "joined_from" Jq:=
 mk 5 F1 EV D (by walk_at "sc") (by walk_at "bi") (by walk_at "mk")
theorem Gd(T:Txt mg)(D:Df K mg "fits_from" FR)(_:FnM P w K mg base 1 "letters_of" Hv)(_:FnM P w K mg base 5 "joined_from" Jq):FnM P w K mg base 6 "fits_from" KA:=
 mk 4 Go Du D (by walk_at "sc") (by walk_at "bi") (by walk_at "mk")
theorem GH(T:Txt mg)(D:Df K mg "fits" FD)(_:FnM P w K mg base 6 "fits_from" KA):FnM P w K mg base 7 "fits" HP:=
 mk 2 Gu Ep D (by walk_at "sc") (by walk_at "bi") (by walk_at "mk")
theorem G2(T:Txt mg)(D:Df K mg "filled" Ff)(_:FnM P w K mg base 1 "exchanged" Jr):FnM P w K mg base 2 "filled" KG:=
 mk 2 Hg DH D (by walk_at "sc") (by walk_at "bi") (by walk_at "mk")
theorem GE(T:Txt mg)(D:Df K mg "joined" E7)(_:FnM P w K mg base 5 "joined_from" Jq):FnM P w K mg base 6 "joined" KC:=
 mk 3 Gn Er D (by walk_at "sc") (by walk_at "bi") (by walk_at "mk")
theorem GB(T:Txt mg)(D:Df K mg "answers" EZ)(_:FnM P w K mg base 6 "joined" KC):FnM P w K mg base 7 "answers" J6:=
 mk 2 F2 D9 D (by walk_at "sc") (by walk_at "bi") (by walk_at "mk")
theorem GK(T:Txt mg)(D:Df K mg "_law_mix" Ft):FnM P w K mg base 1 "_law_mix" r_:=
 mk 2 GU EF D (by walk_at "sc") (by walk_at "bi") (by walk_at "mk")
theorem GI(T:Txt mg)(D:Df K mg "_law_words" Fm)(_:FnM P w K mg base 1 "_law_mix" r_):FnM P w K mg base 2 "_law_words" Kv:=
 mk 1 GC EO D (by walk_at "sc") (by walk_at "bi") (by walk_at "mk")
theorem GZ(T:Txt mg)(D:Df K mg "_law_world" E4)(_:FnM P w K mg base 1 "_law_mix" r_)(_:FnM P w K mg base 2 "_law_words" Kv):FnM P w K mg base 3 "_law_world" Ku:=
 mk 1 GF ET D (by walk_at "sc") (by walk_at "bi") (by walk_at "mk")
theorem Hj(T:Txt mg)(D:Df K mg "_law_letters" FU)(_:FnM P w K mg base 1 "_law_mix" r_):FnM P w K mg base 2 "_law_letters" Kt:=
 mk 1 Hm Ex D (by walk_at "sc") (by walk_at "bi") (by walk_at "mk")
theorem Hl(T:Txt mg)(D:Df K mg "_law_cell_by" E2):FnM P w K mg base 1 "_law_cell_by" IT:=
 mk 2 GW Dr D (by walk_at "sc") (by walk_at "bi") (by walk_at "mk")
theorem Gz(T:Txt mg)(D:Df K mg "_law_row" E8)(_:FnM P w K mg base 1 "_law_mix" r_)(_:FnM P w K mg base 1 "_law_cell_by" IT):FnM P w K mg base 2 "_law_row" Ks:=
 mk 2 FY DL D (by walk_at "sc") (by walk_at "bi") (by walk_at "mk")
theorem F6(T:Txt mg)(D:Df K mg "_law_stand" FP):FnM P w K mg base 1 "_law_stand" Kr:=
 mk 1 GQ Ez D (by walk_at "sc") (by walk_at "bi") (by walk_at "mk")
theorem He(T:Txt mg)(D:Df K mg "_law_pattern" Fn)(_:FnM P w K mg base 1 "_law_mix" r_):FnM P w K mg base 2 "_law_pattern" J4:=
 mk 3 GX Eg D (by walk_at "sc") (by walk_at "bi") (by walk_at "mk")
theorem GN(T:Txt mg)(D:Df K mg "_law_moves" Fd)(_:FnM P w K mg base 1 "_law_mix" r_)(_:FnM P w K mg base 1 "_law_cell_by" IT):FnM P w K mg base 2 "_law_moves" Kq:=
 mk 2 Gh EL D (by walk_at "sc") (by walk_at "bi") (by walk_at "mk")
theorem Hi(T:Txt mg)(D:Df K mg "_law_led" Fw):FnM P w K mg base 1 "_law_led" JZ:=
 mk 2 Gc EG D (by walk_at "sc") (by walk_at "bi") (by walk_at "mk")
theorem Gk(T:Txt mg)(D:Df K mg "_law_unknowns" E1):FnM P w K mg base 1 "_law_unknowns" IS:=
 mk 1 Gm Ew D (by walk_at "sc") (by walk_at "bi") (by walk_at "mk")
theorem Ge(T:Txt mg)(D:Df K mg "_law_each" Fk)(_:FnM P w K mg base 7 "fits" HP)(_:FnM P w K mg base 2 "filled" KG)(_:FnM P w K mg base 1 "_law_unknowns" IS):FnM P w K mg base 8 "_law_each" Kp:=
 mk 3 Gy DB D (by walk_at "sc") (by walk_at "bi") (by walk_at "mk")
def DY(F:Fun K "law" "law" s_law f fd)(hm:mg "law"=U (.ref f))(T:Txt mg)(_:FnM P w K mg base 2 "moved" KH)(_:FnM P w K mg base 7 "fits" HP)(_:FnM P w K mg base 7 "answers" J6)(_:FnM P w K mg base 3 "_law_world" Ku)(_:FnM P w K mg base 2 "_law_letters" Kt)(_:FnM P w K mg base 2 "_law_row" Ks)(_:FnM P w K mg base 1 "_law_stand" Kr)(_:FnM P w K mg base 2 "_law_pattern" J4)(_:FnM P w K mg base 2 "_law_moves" Kq)(_:FnM P w K mg base 1 "_law_led" JZ)(_:FnM P w K mg base 1 "_law_unknowns" IS)(_:FnM P w K mg base 8 "_law_each" Kp):abg P w K mg base CX0 9 f fd (acn.take 1) (spM K f_law):=
 (mkF 1 acn Ac F hm (by walk_at "sc") (by walk_at "bi") (by walk_at "mk")).1
end
end K14
namespace K14
open PySem L2
variable[Lams]
def all_mk{l:PySem.W.OpenLaw}(S:Seen defsK blK [("search_order",c_)] K)(X:K.In h)(G:h.Ns mainGlobals mg)(OB:mg "law"=U (.ref fa))(Nj:((P_,("search_order.<locals>.<lambda>":Str)):ZM×Str)∈Lams.tb)(Nk:PySem.W.codeHdIn K c_ P_=L):
  ∃fd:FuncData,(∀(s:ZR)(v:Z3),BindsTo s fd ⟨[v],[]⟩ [("_law_script",v)])/\∀base:Heap,K.In base->base.Ns mainGlobals mg->abg l.prog w K mg base CX0 9 fa fd ["_law_script"] (spM K f_law):=by
 have T:Txt mg:=S.txt X G;obtain⟨f,fd,F,hm⟩:=S.df X G 30 rfl;cases OB.symm.trans hm;have F':=F;obtain⟨oc,od,kV,doc,pm,an,HM,ct,MI,rfl,_,_⟩:=F'.ex;refine⟨PySem.W.fnOf "law" "law" (defArgs s_law) (defBody s_law) (defScope s_law) .none kV doc pm an HM ct,λs v=>.of_eq rfl,λbase KB _=>?_⟩;have M_stand_of:=@GR _ l.prog w K mg base T (S.df X G 0 rfl);have M_exchanged:=@GS _ l.prog w K mg base T (S.df X G 1 rfl);have M_moved:=@G6 _ l.prog w K mg base T (S.df X G 2 rfl) M_stand_of M_exchanged;have M_letters_of:=@F0 _ l.prog w K mg base T (S.df X G 3 rfl);have M_binding_of:=@Gp _ l.prog w K mg base T (S.df X G 4 rfl);have M_bindings:=@GP _ l.prog w K mg base T (S.df X G 5 rfl) M_binding_of;have M_is_linked:=@FW _ l.prog w K mg base T (S.df X G 6 rfl) M_letters_of;have M_search_order:=@Gx _ l.prog w K mg base c_ P_ (S.dfC X G 7 0 rfl rfl) T Nj (PySem.W.codeHd_of_K KB Nk) M_letters_of M_bindings M_is_linked;have M_places_of:=@Ho _ l.prog w K mg base T (S.df X G 8 rfl);have M_grouped:=@G8 _ l.prog w K mg base T (S.df X G 9 rfl);have M_picked:=@G1 _ l.prog w K mg base T (S.df X G 10 rfl);have M_extended:=@GT _ l.prog w K mg base T (S.df X G 11 rfl) M_picked;have M_joined_from:=@Gw _ l.prog w K mg base T (S.df X G 12 rfl) M_letters_of M_search_order M_places_of M_grouped M_picked M_extended;have M_fits_from:=@Gd _ l.prog w K mg base T (S.df X G 13 rfl) M_letters_of M_joined_from;have M_fits:=@GH _ l.prog w K mg base T (S.df X G 14 rfl) M_fits_from;have M_filled:=@G2 _ l.prog w K mg base T (S.df X G 15 rfl) M_exchanged;have M_joined:=@GE _ l.prog w K mg base T (S.df X G 16 rfl) M_joined_from;have M_answers:=@GB _ l.prog w K mg base T (S.df X G 17 rfl) M_joined;have M__law_mix:=@GK _ l.prog w K mg base T (S.df X G 18 rfl);have M__law_words:=@GI _ l.prog w K mg base T (S.df X G 19 rfl) M__law_mix;have M__law_world:=@GZ _ l.prog w K mg base T (S.df X G 20 rfl) M__law_mix M__law_words;have M__law_letters:=@Hj _ l.prog w K mg base T (S.df X G 21 rfl) M__law_mix;have M__law_cell_by:=@Hl _ l.prog w K mg base T (S.df X G 22 rfl);have M__law_row:=@Gz _ l.prog w K mg base T (S.df X G 23 rfl) M__law_mix M__law_cell_by;have M__law_stand:=@F6 _ l.prog w K mg base T (S.df X G 24 rfl);have M__law_pattern:=@He _ l.prog w K mg base T (S.df X G 25 rfl) M__law_mix;have M__law_moves:=@GN _ l.prog w K mg base T (S.df X G 26 rfl) M__law_mix M__law_cell_by;have M__law_led:=@Hi _ l.prog w K mg base T (S.df X G 27 rfl);have M__law_unknowns:=@Gk _ l.prog w K mg base T (S.df X G 28 rfl);have M__law_each:=@Ge _ l.prog w K mg base T (S.df X G 29 rfl) M_fits M_filled M__law_unknowns;exact DY F OB T M_moved M_fits M_answers M__law_world M__law_letters M__law_row M__law_stand M__law_pattern M__law_moves M__law_led M__law_unknowns M__law_each
end K14
namespace K14
open PySem L2 JP
variable[Lams]
def na:(("name":Str)="any")=False:=by simp;decide +kernel
theorem at0(a b:D):atI [a,b] 0=U a:=rfl
theorem at1(a b:D):atI [a,b] 1=U b:=rfl
def Hr(a:D)(r:Z9 D):atI (a::r) 0=U a:=by unfold atI ixN;simp
theorem gn:∀ts:Z9 Te,(ans ts).length<=ts.length
 |[]=>ZU _
 |.any m::ts=>by have:=gn ts;simp[ans];lia
 |.nm w::ts=>by have:=gn ts;simp[ans];lia
def cm(ps:Z9 Pat):Z9 Str:=(ps.map λp=>ans p.2).flatten
def dE:l∈cm ps↔∃p∈ps,l∈ans p.2:=by
 unfold cm;rw[List.mem_flatten];constructor
 rintro⟨x,hx,hl⟩
 obtain⟨p,hp,rfl⟩:=ZV.mp hx;exact⟨p,hp,hl⟩
 rintro⟨p,hp,hl⟩
 exact⟨_,ZV.mpr ⟨p,hp,rfl⟩,hl⟩
theorem bi:∀{ps:Z9 Pat},(∀p∈ps,p.2.length<=4)->(cm ps).length<=4*ps.length
 |[],_=>ZU _
 |p::ps,h=>by
  have h1:=bi λq hq=>h q (Z1 _ hq);have h2:=gn p.2;have h3:=h p (ZX ..);have:cm (p::ps)=ans p.2++cm ps:=by simp[cm]
  rw[this,Zy,bO];lia
def vH(ts:Z9 Te):bp (aB (aa 4) (λδ=>eqO (ixO (rd Y 4 δ) (U (.int 0))) (U (.str "any"))) oB [M,M,M,M,M]) (ts.map teD)=U ((ans ts).map D.str):=by
 induction ts with
 |nil=>rfl
 |cons c ts ih=>
  rw[Z2];unfold bp;rw[ih];cases c with
  |any n=>simp[aB,teD,oB,at0,at1,bJ,ans]
  |nm w=>simp[aB,teD,oB,at0,at1,bJ,na,ans]
theorem kZ:∀(rs:Z9 Pat)(acc:Z9 Str)(a0 x2 x3 x4:Z7 (D×Bool)),(∀r∈rs,r.2.length<=4)->acc.length+4*rs.length<=1000->∃y2 y3,
  am (λd δ=>ae ((aO (aj (aa 2) (aj (aa 3) (aak)))) d δ) uP) (rs.map aaa) [a0,U (.lst (acc.map D.str),L),x2,x3,x4]=U (.next [a0,U (.lst ((acc++cm rs).map D.str),L),y2,y3,x4])
 |[],acc,a0,x2,x3,x4,_,_=>⟨x2,x3,by simp[am,cm]⟩
 |r::rs,acc,a0,x2,x3,x4,h4,hl=>by
  have hr:=h4 r (ZX ..);have hb:=gn r.2;rw[bO]at hl;obtain⟨y2,y3,e⟩:=kZ rs (acc++ans r.2) a0 (U (.str r.1,Y)) (U (.tup (r.2.map teD),Y)) x4 (λq hq=>h4 q (Z1 _ hq)) (by simp;lia);refine⟨y2,y3,?_⟩;have en:acc++cm (r::rs)=acc++ans r.2++cm rs:=by simp[cm]
  rw[en,<-e,Z2]
  conv=>lhs;unfold am
  simp[aaa,uP];rw[aJ (by simp;lia)];simp[aq];have:=vH r.2;rw[this];simp[Bm];rw[ZO (by lia)]
open L2.G (b0 scD aK cU br) in
def iE(h:ss.length<64):aaC .st L (U (.lst (ss.map D.str)))=U (.lst (sU ss)):=by
 have hc:∀l:Z9 D,(∀d∈l,∃s,d=.str s)->cG l=L:=λl hl=>by
  unfold cG;rw[ZW];intro x hx;obtain⟨a,rfl⟩:=hl x hx;rw[ZK,ZW];refine⟨rfl,λy hy=>?_⟩;obtain⟨b,rfl⟩:=hl y hy;rfl
 have hs:∀d∈ss.map D.str,∃s,d=.str s:=λd hd=>by obtain⟨s,_,rfl⟩:=ZV.mp hd;exact⟨s,rfl⟩
 have hu:=cU (ss.map D.str);rw[ZY]at hu;have Se:=hc (b0 (ss.map D.str)) λd hd=>hs d ((aK _ _).mp hd);have e:b7 (b0 (ss.map D.str))=sU ss:=by
  refine c8 Se _ _ (λy hy=>(aD _).mem_iff.mp hy) ((aD _).trans ((Ym (br _) ?_).mpr λx=>?_)) (bx Se) ?_;exact WX _ (λa b HH z=>HH (D.str.inj z)) ((bF _).nodup_iff.mpr (dQ ss));rw[aK,A9];refine WX _ (λa b HH=>?_) (List.pairwise_mergeSort kz jX (uS ss));show ¬(U (decide (b.cps.toList<a.cps.toList))=U L);intro z;unfold leT at HH;rw[Z8 z]at HH;trivial
 unfold aaC;dsimp only;rw[ZO,e];have h1:(ss.map D.str).all (de .st)=L:=ZW.mpr λx hx=>by obtain⟨s,rfl⟩:=hs x hx;rfl
 have h2:(ss.map D.str).all (aR 8)=L:=ZW.mpr λx hx=>by obtain⟨s,rfl⟩:=hs x hx;rfl
 have h3:((ss.map D.str).all λd=>scD d==L)=L:=ZW.mpr λx hx=>by obtain⟨s,rfl⟩:=hs x hx;rfl
 rw[hc _ hs,h1,h2,h3,Zw (by lia)];rfl
def bg(hl:ps.length<=4)(h4:∀p∈ps,p.2.length<=4):Hv [.lst (ps.map aaa)]=U (.lst (sU (cm ps)),L):=by
 obtain⟨y2,y3,e⟩:=kZ ps [] (U (.lst (ps.map aaa),Y)) M M M h4 (by simp;lia);have:=bi h4;rw[aw (f:=Hv) (δ:=[U (.lst (ps.map aaa),Y),M,M,M,M]) rfl rfl rfl];rw[YO]at e;simp[Ef];rw[e];simp[xz];rw[iE (by lia)];simp
def iW(ss:Z9 Str):∃us:Z9 Str,sU ss=us.map D.str/\us.Nodup/\(∀x,x∈us↔x∈ss)/\us.length<=ss.length:=by
 have hp:=bF (uS ss);exact⟨wd (uS ss),rfl,hp.nodup_iff.mpr (dQ ss),λx=>hp.mem_iff.trans (gK x ss),hp.length_eq▸sX ss⟩
def bD(b:Bi):D:=.dK (b.map λq=>.inr q.1) (b.map λq=>ceD q.2)
theorem t9(l:Str):∀b:Bi,bL (.inr l:Key) (b.map λq=>(.inr q.1:Key)) (b.map λq=>ceD q.2)=(gt b l).map ceD
 |[]=>rfl
 |(k,c)::b=>by
  rw[Z2,Z2,bL,fO,t9 l b];by_cases h:k=l;subst h;simp;rw[ZJ (λz=>h (by cases z;rfl)),ZJ h]
def sQ(b:Bi)(l:Str):bM (U (bD b)) (U (.str l))=U ((gt b l).map ceD):=by
 unfold bD bM;simp only[gZ,t9]
def zI(h:gt b l=M):l∉b.map (·.1):=by
 induction b with
 |nil=>simp
 |cons q b ih=>
  obtain⟨k,c⟩:=q;rw[fO]at h;split at h;trivial;rename_i n;simp only[Z2,Z0,Xl];exact⟨λz=>n z.symm,ih h⟩
def zw(h:gt b l=M)(hl:b.length<1000000):gI (bD b) (.str l) (ceD c)=U (bD (b++[(l,c)])):=by
 unfold bD gI;have hm:(.inr l:Key)∉b.map λq=>(.inr q.1:Key):=λz=>by
  obtain⟨q,hq,e⟩:=ZV.mp z;exact zI h (ZV.mpr ⟨q,hq,by cases e;rfl⟩)
 simp only[gZ,ZY];rw[ZO (by rw[aam];exact hl)];unfold cR wo;rw[ZJ hm,ZJ hm];simp
def wj(c:Ce):okD 16 (ceD c)=L:=by cases c<;>rfl
def Gi(t:Te):okD 16 (teD t)=L:=by cases t<;>rfl
def rV(a b:Ce):neO (U (ceD a)) (U (ceD b))=U (!decide (a=b)):=by
 rw[BH _ _ (by unfold ok2;rw[wj,wj];rfl)];congr 2;exact X8.mpr ⟨cw,λh=>by rw[h]⟩
def BQ(a b:Ce):eqO (U (ceD a)) (U (ceD b))=U (decide (a=b)):=by
 rw[pD _ _ (by unfold ok2;rw[wj,wj];rfl)];congr 1;exact X8.mpr ⟨cw,λh=>by rw[h]⟩
def CA(w:Str)(c:Ce):neO (U (teD (.nm w))) (U (ceD c))=U (!decide (Ce.nm w=c)):=rV (.nm w) c
theorem jD:∀(ts:Z9 Te)(cs:Z9 Ce),cy (ts.map teD) (cs.map ceD)=(ts.zip cs).map λq=>.tup [teD q.1,ceD q.2]
 |[],cs=>by simp[cy]
 |t::ts,[]=>by simp[cy]
 |t::ts,c::cs=>by simp[cy,jD ts cs]
theorem gf:∀(ts:Z9 Te)(cs:Z9 Ce)(b:Bi)(a0 a1 x3 x4:Z7 (D×Bool)),b.length+ts.length<1000->
  (match bnd ts cs b with
  |some b'=>∃y3 y4,am (λd δ=>ae ((aO (aj (aa 3) (aj (aa 4) (aak)))) d δ) jN) ((ts.zip cs).map λq=>.tup [teD q.1,ceD q.2]) [a0,a1,U (bD b,L),x3,x4]=U (.next [a0,a1,U (bD b',L),y3,y4])
  |none=>am (λd δ=>ae ((aO (aj (aa 3) (aj (aa 4) (aak)))) d δ) jN) ((ts.zip cs).map λq=>.tup [teD q.1,ceD q.2]) [a0,a1,U (bD b,L),x3,x4]=U (.ret .non Y))
 |[],cs,b,a0,a1,x3,x4,_=>⟨x3,x4,by simp[am]⟩
 |.any l::ts,[],b,a0,a1,x3,x4,_=>⟨x3,x4,by simp[am]⟩
 |.nm l::ts,[],b,a0,a1,x3,x4,_=>⟨x3,x4,by simp[am]⟩
 |.any l::ts,c::cs,b,a0,a1,x3,x4,hl=>by
  have ih:=λb hb=>gf ts cs b a0 a1 (U (teD (.any l),Y)) (U (ceD c,Y)) hb;rw[bO]at hl;rw[List.zip_cons_cons,Z2];unfold am;have e0:eqO (ixO (rd Y 3 [a0,a1,U (bD b,L),U (teD (.any l),Y),U (ceD c,Y)]) (U (.int 0))) (U (.str "any"))=U L:=by simp[teD,at0,bJ]
  have e1:ixO (rd Y 3 [a0,a1,U (bD b,L),U (teD (.any l),Y),U (ceD c,Y)]) (U (.int 1))=U (.str l):=by simp[teD,at1]
  have e2:rd Y 4 [a0,a1,U (bD b,L),U (teD (.any l),Y),U (ceD c,Y)]=U (ceD c):=by simp
  simp only[aaE,aaw,aaF,aad,Zi,bO,gC,PK,aS,aT,Nat.reduceAdd,Nat.reduceLT];simp only[jN,e0,abo,yz,e1,e2,sdO,aaQ,aaR,sQ,bnd];cases eg:gt b l with
  |some c'=>
   simp only[Option.map_some,neX,PK,e2,rV];by_cases hc:c'=c;simp only[hc,W3,YR,ifX,aay,Y_];have:=ih b (by lia);cases eb:bnd ts cs b with
   |some b'=>rw[eb]at this;exact this
   |none=>rw[eb]at this;exact this
   simp only[hc,decide_false,X5,ifX,aa3,Zm]
  |none=>
   simp only[Option.map_none,zw eg (show b.length<1000000 by lia)];simp only[neX,PK,aS,aT];have e3:rd Y 4 [a0,a1,U (bD (b++[(l,c)]),L),U (teD (.any l),Y),U (ceD c,Y)]=U (ceD c):=by simp
   simp only[e3,rV,W3,YR,ifX,aay];have:=ih (b++[(l,c)]) (by simp;lia);cases eb:bnd ts cs (b++[(l,c)])with
   |some b'=>rw[eb]at this;exact this
   |none=>rw[eb]at this;exact this
 |.nm w::ts,c::cs,b,a0,a1,x3,x4,hl=>by
  have ih:=gf ts cs b a0 a1 (U (teD (.nm w),Y)) (U (ceD c,Y)) (by simp at hl;lia);rw[List.zip_cons_cons,Z2];unfold am;have e0:eqO (ixO (rd Y 3 [a0,a1,U (bD b,L),U (teD (.nm w),Y),U (ceD c,Y)]) (U (.int 0))) (U (.str "any"))=U Y:=by simp[teD,at0,bJ,na]
  have e1:rd Y 3 [a0,a1,U (bD b,L),U (teD (.nm w),Y),U (ceD c,Y)]=U (teD (.nm w)):=by simp
  have e2:rd Y 4 [a0,a1,U (bD b,L),U (teD (.nm w),Y),U (ceD c,Y)]=U (ceD c):=by simp
  simp only[aaE,aaw,aaF,aad,Zi,bO,gC,PK,aS,aT,Nat.reduceAdd,Nat.reduceLT];have VC:eqO (ixO (U (teD (.nm w))) (U (.int 0))) (U (.str "any"))=U Y:=by simp[teD,at0,bJ,na]
  simp only[jN,e0,VC,aa2,e1,e2,CA,bnd];by_cases hc:Ce.nm w=c;simp only[hc,W3,YR,aa2,aay,Y_];exact ih;rw[ZJ hc];simp only[hc,decide_false,X5,abo,aa3]
def jl(ts:Z9 Te)(cs:Z9 Ce)(hl:ts.length<=4):Ky [.tup (ts.map teD),.tup (cs.map ceD)]=U (match bnd ts cs []with|some b=>(bD b,L)|none=>(.non,Y)):=by
 rw[aw (f:=Ky) (δ:=[U (.tup (ts.map teD),Y),U (.tup (cs.map ceD),Y),M,M,M]) rfl rfl rfl];have:=gf ts cs [] (U (.tup (ts.map teD),Y)) (U (.tup (cs.map ceD),Y)) M M (by simp;lia);have e0:(.dK [] []:D)=bD []:=rfl;simp only[DQ,aaA,bO,gC,Nat.reduceAdd,Nat.reduceLT,aS,aT,WC,aac,aaf,CZ,Dl,Y_,abJ,PK,jD,e0];cases eb:bnd ts cs []with
 |some b=>
  rw[eb]at this;obtain⟨y3,y4,e⟩:=this;rw[e];simp
 |none=>
  rw[eb]at this;rw[this];simp
end K14
namespace K14
open PySem L2 JP
variable[Lams]
def Br(b:Bi):yE (U (bD b))=U Y:=by simp[yE,bD]
theorem gR(h4:p.2.length<=4):∀(rs:Z9 Row)(acc:Z9 Bi)(a0 x3 x4 x5:Z7 (D×Bool)),acc.length+rs.length<=100000->∃y3 y4 y5,
  am (λd δ=>ae ((aO (aj (aa 3) (aj (aa 4) (aak)))) d δ) ij) (rs.map VV) [a0,U (aaa p,Y),U (.lst (acc.map bD),L),x3,x4,x5]=U (.next [a0,U (aaa p,Y),U (.lst ((acc++binds rs p).map bD),L),y3,y4,y5])
 |[],acc,a0,x3,x4,x5,_=>⟨x3,x4,x5,by simp[am,binds]⟩
 |r::rs,acc,a0,x3,x4,x5,hl=>by
  rw[bO]at hl;rw[Z2];have e1:eqO (U (.str r.1)) (ixO (U (aaa p)) (U (.int 0)))=U (decide (r.1=p.1)):=by simp[aaa,at0,bJ]
  have e2:eqO (jv (U (.tup (r.2.map ceD)))) (jv (ixO (U (aaa p)) (U (.int 1))))=U (decide (r.2.length=p.2.length)):=by
   simp only[aaa,ab8,at1,ab7,ZY,abt];congr 1;exact X8.mpr (by lia)
  have e3:ixO (U (aaa p)) (U (.int 1))=U (.tup (p.2.map teD)):=by simp[aaa,at1]
  have body:∃y5,ij [a0,U (aaa p,Y),U (.lst (acc.map bD),L),U (.str r.1,Y),U (.tup (r.2.map ceD),Y),x5]=U (.next [a0,U (aaa p,Y),U (.lst ((acc++(fW p r).toList).map bD),L),U (.str r.1,Y),U (.tup (r.2.map ceD),Y),y5]):=by
   simp only[ij,aac,aaf,e1,e2];unfold fW;by_cases c1:r.1=p.1;by_cases c2:r.2.length=p.2.length;rw[ZO ⟨c1,c2⟩];simp only[c1,c2,W3,acu,abo,e3,Vc,PK,jl p.2 r.2 h4];cases eb:bnd p.2 r.2 []with
   |some b=>
    refine⟨U (bD b,Y),?_⟩;simp[Br];rw[jz (ds:=acc.map bD) (bD b) rfl (by simp;lia)];simp
   |none=>
    refine⟨U (.non,Y),?_⟩;simp[yE]
   rw[ZJ (λz=>c2 z.2)];exact⟨x5,by simp[c1,c2]⟩;rw[ZJ (λz=>c1 z.1)];exact⟨x5,by simp[c1]⟩
  obtain⟨S4,eb⟩:=body;have hle:(fW p r).toList.length<=1:=by cases fW p r<;>simp
  obtain⟨y3,y4,y5,e⟩:=gR h4 rs (acc++(fW p r).toList) a0 (U (.str r.1,Y)) (U (.tup (r.2.map ceD),Y)) S4 (by simp;lia);refine⟨y3,y4,y5,?_⟩;have en:acc++binds (r::rs) p=acc++(fW p r).toList++binds rs p:=by
   unfold binds;rw[List.filterMap_cons];cases fW p r<;>simp
  rw[en,<-e]
  conv=>lhs;unfold am
  have et:ae ((aO (aj (aa 3) (aj (aa 4) (aak)))) (VV r) [a0,U (aaa p,Y),U (.lst (acc.map bD),L),x3,x4,x5]) ij=ij [a0,U (aaa p,Y),U (.lst (acc.map bD),L),U (.str r.1,Y),U (.tup (r.2.map ceD),Y),x5]:=by
   simp[VV]
  rw[et,eb]
def lY(h4:p.2.length<=4)(hl:rs.length<=1000):J5 [.lst (rs.map VV),aaa p]=U (.lst ((binds rs p).map bD),L):=by
 rw[aw (f:=J5) (δ:=[U (.lst (rs.map VV),Y),U (aaa p,Y),M,M,M,M]) rfl rfl rfl];obtain⟨y3,y4,y5,e⟩:=gR h4 rs [] (U (.lst (rs.map VV),Y)) M M M (by simp;lia);simp[Dz];rw[YO]at e;rw[e];simp
def jM(rs:Z9 Row)(p:Pat):(binds rs p).length<=rs.length:=List.length_filterMap_le ..
def prD(rs:Z9 Row)(p:Pat):D:=.tup [aaa p,.lst ((binds rs p).map bD)]
def eN(l:Str)(ss:Z9 Str):inO (U (.str l)) (U (.lst (ss.map D.str)))=U (decide (l∈ss)):=by
 unfold inO;simp only[aQ];rw[ZO];congr 1;apply X8.mpr;simp;rw[ZK,ZW];refine⟨rfl,λx hx=>?_⟩;obtain⟨c,_,rfl⟩:=ZV.mp hx;rfl
def wP(bs:Z9 Bool):d9 (bs.map D.bl)=U bs:=by
 induction bs with
 |nil=>rfl
 |cons b bs ih=>simp[d9,ih]
def lk(ks:Z9 Str)(p:Pat):Bool:=(ans p.2).any λl=>decide (l∈ks)
def sJ(p:Pat)(h4:p.2.length<=4)(ks:Z9 Str):Jp [aaa p,.lst (ks.map D.str)]=U (.bl (lk ks p),Y):=by
 rw[aw (f:=Jp) (δ:=[U (aaa p,Y),U (.lst (ks.map D.str),Y),M]) rfl rfl rfl];have el:=bg (ps:=[p]) (by simp) (by simpa using h4);obtain⟨us,e1,_,e3,e4⟩:=iW (cm [p]);rw[e1]at el;have Om:us.length<=1000:=by
  have:=bi (ps:=[p]) (by simpa using h4);simp at this;lia
 simp only[DV,aac,aaf,Vc,PK];rw[aaq _ (by simp)];simp only[Z2,YO]at el;simp only[Vc,PK,el,aao,aaj];rw[aJ (by simp;lia)];have hc:bp (aB (aa 2) (λδ=>U L) ui (aq Y [Y,L,Y] [U (aaa p,Y),U (.lst (ks.map D.str),Y),M])) (us.map D.str)=U ((us.map λl=>decide (l∈ks)).map D.bl):=by
  rw[gB (g:=λd=>match d with|.str l=>.bl (decide (l∈ks))|d=>d)];simp;intro d hd;obtain⟨l,_,rfl⟩:=ZV.mp hd;simp[aB,aq,ui,eN]
 rw[hc];simp only[aah,Dg,wP,aa3,aaG];congr 3;rw[Yx];unfold lk;simp only[XR,ZV,id_eq];constructor
 rintro⟨_,⟨l,hl,rfl⟩,h⟩
 have:=(e3 l).mp hl;simp[cm]at this;exact⟨l,this,h⟩
 rintro⟨l,hl,h⟩
 exact⟨_,⟨l,(e3 l).mpr (by simp[cm];exact hl),rfl⟩,h⟩
def jp(h:teD a=teD b):a=b:=by
 cases a<;>cases b<;>simp[teD]at h;rw[h];exact absurd h.1 (by decide +kernel);exact absurd h.1 (by decide +kernel);rw[h]
theorem i8{α:Type}{f:α->D}(hf:∀a b,f a=f b->a=b):∀{l m:Z9 α},l.map f=m.map f->l=m
 |[],[],_=>rfl
 |[],_::_,h=>by simp at h
 |_::_,[],h=>by simp at h
 |a::l,b::m,h=>by
  simp only[Z2,Yg]at h;rw[hf _ _ h.1,i8 hf h.2]
def mW(h:aaa p=aaa q):p=q:=by
 simp[aaa]at h;exact Prod.ext h.1 (i8 (λ_ _=>jp) h.2)
def Au(t:Te):D.flat (teD t)=L:=by cases t<;>rfl
def vF(p:Pat):D.flat (aaa p)=L:=by
 have:D.aaH (p.2.map teD)=L:=by rw[D.aa0,ZW];intro x hx;obtain⟨t,_,rfl⟩:=ZV.mp hx;exact Au t
 simp[aaa,D.flat,D.aaH,this]
def BT(p:Pat):okD 15 (aaa p)=L:=by
 simp only[aaa,okD,mq,List.all_nil,Yb,Yc,ZW];intro x hx;obtain⟨t,_,rfl⟩:=ZV.mp hx;cases t<;>rfl
def iq(ss:Z9 Str):D.aaH (ss.map D.str)=L:=by
 rw[D.aa0,ZW];intro x hx;obtain⟨t,_,rfl⟩:=ZV.mp hx;rfl
theorem kn:∀{ps:Z9 Pat},(∀p∈ps,f (h p)=U (g p))->cQ f (ps.map h)=U (ps.map g)
 |[],_=>rfl
 |p::ps,e=>by simp only[Z2,cQ,e p (ZX ..),kn λq hq=>e q (Z1 _ hq)]
def uB(h:bl≠[]):aH bl<bl.length:=by
 unfold aH;split;rename_i m;exact YG m;exact List.length_pos_iff.mpr h
def t5(h:i<aH bl):bl[i]?=U Y/\bl[aH bl]?=U L:=by
 unfold aH at h⊢;split at h;rename_i m;rw[ZO m];have hl:=YG m;have h1:=List.not_of_lt_findIdx (p:=λz=>z==L) (xs:=bl) (i:=i) h;have hi:i<bl.length:=by lia
 refine⟨?_,?_⟩;rw[YV hi];simp at h1;rw[h1];rw[YV hl];simp;lia
def yY(rs:Z9 Row)(ks:Z9 Str)(hk:ks.length<=1000){ar placed:Z9 Pat}(h4:∀p∈ar++placed,p.2.length<=4)(t_:ar≠[])(hl:ar.length+placed.length<=4)(a0 a1 x5 x6 x7 x8 x9:Z7 (D×Bool)):
  ∃j y5 y6 y7,j<ar.length/\kN [a0,a1,U (.lst (ks.map D.str),Y),U (.lst (ar.map (prD rs)),L),U (.lst (placed.map (prD rs)),L),x5,x6,x7,x8,x9]=
   U (.next [a0,a1,U (.lst (ks.map D.str),Y),U (.lst ((ar.eraseIdx j).map (prD rs)),L),U (.lst ((placed++(ar[j]?).toList).map (prD rs)),L),y5,y6,y7,x8,x9]):=by
 have s_:placed.length<=4:=by lia
 have el:=bg (ps:=placed) s_ (λp hp=>h4 p (ZI _ hp));obtain⟨us,e1,_,e3,e4⟩:=iW (cm placed);have e5:=bi (ps:=placed) (λp hp=>h4 p (ZI _ hp));rw[e1]at el;have hc:bp (aB (aa 9) (λδ=>U L) oG (aq L [Y,Y,Y,Y,Y,Y,Y,Y,Y,Y] [a0,a1,U (.lst (ks.map D.str),Y),U (.lst (ar.map (prD rs)),L),U (.lst (placed.map (prD rs)),L),x5,x6,x7,x8,x9])) (placed.map (prD rs))=U (placed.map aaa):=by
  have:(placed.map aaa)=(placed.map (prD rs)).map λd=>match d with|.tup (x::_)=>x|d=>d:=by rw[YN];rfl
  rw[this,gB];intro d hd;obtain⟨p,_,rfl⟩:=ZV.mp hd;simp[aB,aq,oG,prD,at0]
 have OA:D.aaH (placed.map aaa)=L:=by rw[D.aa0,ZW];intro x hx;obtain⟨t,_,rfl⟩:=ZV.mp hx;exact vF t
 have hb:vL (sf (U (.lst (ks.map D.str)))) (flO (ae (af (ax (dj (ae (b9 (U (.lst (placed.map (prD rs))))) (b8 L [Y,Y,Y,Y,Y,Y,Y,Y,Y,Y] (aa 9) (λδ=>U L) oG [a0,a1,U (.lst (ks.map D.str),Y),U (.lst (ar.map (prD rs)),L),U (.lst (placed.map (prD rs)),L),x5,x6,x7,x8,x9])))) (U [])) Hv))=U (.lst ((ks++us).map D.str)):=by
  simp only[aaj,PK];rw[aJ (by simp;lia),hc];simp only[dj,OA,Y_,aah,Vc,PK,el,flO,iq,abS];rw[abw _ _ (by simp;lia)];simp
 have hf:cQ (λd=>oK ((aq L [Y,Y,Y,Y,Y,L,Y,Y,Y,Y] [a0,a1,U (.lst (ks.map D.str),Y),U (.lst (ar.map (prD rs)),L),U (.lst (placed.map (prD rs)),L),U (.lst ((ks++us).map D.str),Y),x6,x7,x8,x9]).set 9 (U (d,Y)))) (ar.map (prD rs))=U (ar.map (lk (ks++us))):=by
  refine kn λp hp=>?_;have:=sJ p (h4 p (YA _ hp)) (ks++us);simp only[oK,aq,List.zipWith,aS,aT,aaf,aac];have e9:∀(x:Z7 D),x=U (.lst ((ks++us).map D.str))->tyB (shO (ae (af (ixO (U (prD rs p)) (U (.int 0))) (af x (U []))) Jp))=U (lk (ks++us) p):=λx hx=>by rw[hx];simp only[prD,ab8,at0,Vc,PK,this,aar,acm]
  exact e9 _ rfl
 have Nh:ar.map (lk (ks++us))≠[]:=by simpa using t_
 have hj:aH (ar.map (lk (ks++us)))<ar.length:=by have:=uB Nh;simpa using this
 generalize PR:aH (ar.map (lk (ks++us)))=j at hj;have Oz:(ar.map (prD rs)).getD j .non=prD rs ar[j]:=by rw[Yz];simp[hj]
 refine⟨j,U (.lst ((ks++us).map D.str),Y),U (.lst (dY (ar.map (prD rs)) (ar.map (lk (ks++us)))),L),U (prD rs ar[j],Y),hj,?_⟩;have RC:rd L 4 [a0,a1,U (.lst (ks.map D.str),Y),U (.lst (ar.map (prD rs)),L),U (.lst (placed.map (prD rs)),L),x5,x6,x7,x8,x9]=U (.lst (placed.map (prD rs))):=rfl;simp only[kN,RC,aaf,aac,hb];rw[aai _ _ _ (by simp)];simp only[WC,aS,aT];unfold qY;simp only[List.getElem?_cons_succ,List.getElem?_cons_zero,hf];have h0:(ar.map (prD rs))[0]?=U (prD rs (ar[0]'(by lia))):=by simp[show 0<ar.length by lia]
 simp only[h0,PR];rw[ZO];simp only[sI,aS,aT,aaf,aac,Oz];rw[jz (ds:=placed.map (prD rs)) _ rfl (by simp;lia)];have em:(ar.map (prD rs)).eraseIdx j=(ar.eraseIdx j).map (prD rs):=by rw[Xi,Xi,YU,List.map_take,List.map_drop]
 simp[em,hj];refine⟨⟨by simp,by simp,by simp,by simp;lia⟩,?_⟩;rw[ZK,ZW,ZW];refine⟨λd hd=>?_,λd hd=>?_⟩;obtain⟨p,_,rfl⟩:=ZV.mp hd;rfl;obtain⟨i,hi⟩:=List.mem_iff_getElem?.mp hd;rw[List.getElem?_take]at hi;split at hi;rename_i Kb;rw[YY]at hi;obtain⟨p,hp,rfl⟩:=Xk.mp hi;rw[Oz];obtain⟨f1,f2⟩:=t5 (bl:=ar.map (lk (ks++us))) (i:=i) (by rw[PR];exact Kb);rw[PR]at f2;rw[YY,hp]at f1;rw[YY,YV hj]at f2;simp only[Option.map_some,ZF]at f1 f2;simp only[eE,prD,BT,Yb,Yc,Zf];intro e;rw[mW e,f2]at f1;cases f1;cases hi
end K14
namespace K14
open PySem L2 JP
variable[Lams]
theorem ca{α:Type}:∀{l:Z9 α}{j:Nat}{x:α},l[j]?=U x->(x::l.eraseIdx j).Perm l
 |[],j,x,h=>by simp at h
 |a::l,0,x,h=>by simp at h;subst h;exact Yy _
 |a::l,j+1,x,h=>by
  rw[List.eraseIdx_cons_succ];exact(List.Perm.swap a x _).trans ((ca (by simpa using h)).cons a)
theorem hY(rs:Z9 Row)(ks:Z9 Str)(hk:ks.length<=1000):∀(n:Nat)(ar placed:Z9 Pat)(a0 a1 x5 x6 x7 x8 x9:Z7 (D×Bool))(fuel:Nat),ar.length=n->n<fuel->(∀p∈ar++placed,p.2.length<=4)->ar.length+placed.length<=4->∃o y5 y6 y7,o.Perm ar/\
  dl kq kN fuel [a0,a1,U (.lst (ks.map D.str),Y),U (.lst (ar.map (prD rs)),L),U (.lst (placed.map (prD rs)),L),x5,x6,x7,x8,x9]=
   U (.next [a0,a1,U (.lst (ks.map D.str),Y),U (.lst [],L),U (.lst ((placed++o).map (prD rs)),L),y5,y6,y7,x8,x9])
 |0,ar,placed,a0,a1,x5,x6,x7,x8,x9,fuel,hn,hf,h4,hl=>by
  have:ar=[]:=YT.mp hn;subst this;obtain⟨f,rfl⟩:∃f,fuel=f+1:=⟨fuel - 1,by lia⟩
  refine⟨[],x5,x6,x7,Yy _,?_⟩;unfold dl;have:kq [a0,a1,U (.lst (ks.map D.str),Y),U (.lst (([]:Z9 Pat).map (prD rs)),L),U (.lst (placed.map (prD rs)),L),x5,x6,x7,x8,x9]=U Y:=rfl;rw[this];simp
 |n+1,ar,placed,a0,a1,x5,x6,x7,x8,x9,fuel,hn,hf,h4,hl=>by
  obtain⟨f,rfl⟩:∃f,fuel=f+1:=⟨fuel - 1,by lia⟩
  have t_:ar≠[]:=λz=>by rw[z]at hn;simp at hn
  obtain⟨j,y5,y6,y7,hj,e⟩:=yY rs ks hk h4 t_ hl a0 a1 x5 x6 x7 x8 x9;have Oq:ar[j]?=U ar[j]:=by simp[hj]
  have hp:=ca Oq;have hlen:(ar.eraseIdx j).length=n:=by have:=hp.length_eq;simp at this;lia
  have hm:∀p∈ar.eraseIdx j++(placed++ar[j]?.toList),p.2.length<=4:=λp HY=>by
   refine h4 p ?_;rw[Oq]at HY;simp only[Option.toList_some,Zt,ZC]at HY⊢;rcases HY with q|q|q;exact .inl (hp.mem_iff.mp (Z1 _ q));exact .inr q;exact .inl (hp.mem_iff.mp (by rw[q];exact ZX ..))
  obtain⟨o,z5,z6,z7,po,e'⟩:=hY rs ks hk n (ar.eraseIdx j) (placed++ar[j]?.toList) a0 a1 y5 y6 y7 x8 x9 f hlen (by lia) hm (by rw[Oq];simp;lia);refine⟨ar[j]::o,z5,z6,z7,(po.cons _).trans hp,?_⟩;have ht:kq [a0,a1,U (.lst (ks.map D.str),Y),U (.lst (ar.map (prD rs)),L),U (.lst (placed.map (prD rs)),L),x5,x6,x7,x8,x9]=U L:=by
   cases ar with
   |nil=>exact absurd rfl t_
   |cons a b=>rfl
  unfold dl;rw[ht];simp only[e];rw[e',Oq];simp
theorem oZ(rs:Z9 Row):∀ps:Z9 Pat,gG (λd=>gU [U (d,Y)]) (ps.map (prD rs))=U (ps.map λp=>((binds rs p).length:Int))
 |[]=>rfl
 |p::ps=>by
  simp only[Z2,gG,oZ rs ps];have:gU [U (prD rs p,Y)]=U (.int (binds rs p).length):=by simp[gU,prD,at1]
  rw[this]
def l6(ps:Z9 Pat)(ks:Z9 Int)(h:ks.length=ps.length)(h5:ks.length<5):∃o:Z9 Pat,o.Perm ps/\mV (ps.map f) ks=o.map f:=by
 have hp:=fH h5;rw[h]at hp;refine⟨(iZ ks).filterMap λi=>ps[i]?,?_,?_⟩;have e:(List.range ps.length).filterMap (λi=>ps[i]?)=ps:=by
  clear hp h;have key:∀(l pre:Z9 Pat),((List.range' pre.length l.length).filterMap λi=>(pre++l)[i]?)=l:=by
   intro l
   induction l with
   |nil=>intro pre;rfl
   |cons a l ih=>
    intro pre;rw[bO,List.range'_succ,List.filterMap_cons];have:(pre++a::l)[pre.length]?=U a:=by simp
    rw[this];have:=ih (pre++[a]);simp only[Zy,List.length_singleton,Zc,List.singleton_append]at this;rw[this]
  have:=key ps [];simpa[List.range_eq_range']using this
 have:=hp.filterMap λi=>ps[i]?;rw[e]at this;exact this;unfold mV;rw[List.map_filterMap];have hm:∀i∈iZ ks,i<ps.length:=λi hi=>Y4.mp (hp.mem_iff.mp hi);generalize iZ ks=kp at hm
 induction kp with
 |nil=>rfl
 |cons i l ih=>
  have hi:=hm i (ZX ..);rw[Z2,List.filterMap_cons,ih λj hj=>hm j (Z1 _ hj)];have:ps[i]?=U ps[i]:=by simp[hi]
  rw[this];simp[hi]
def gh(rs:Z9 Row)(Ig:rs.length<=1000)(ks:Z9 Str)(hk:ks.length<=1000)(h4:∀p∈ps,p.2.length<=4)(hl:ps.length<=4):∃o:Z9 Pat,o.Perm ps/\
  Kz [.lst (rs.map VV),.lst (ps.map aaa),.lst (ks.map D.str)]=U (.lst (o.map (prD rs)),L):=by
 obtain⟨o1,p1,e1⟩:=l6 (f:=prD rs) ps (ps.map λp=>((binds rs p).length:Int)) (by simp) (by simp;lia);have Vb:∀p∈o1++[],p.2.length<=4:=λp hp=>h4 p (p1.mem_iff.mp (by simpa using hp));have Je:o1.length=ps.length:=p1.length_eq;obtain⟨o,y5,y6,y7,po,e⟩:=hY rs ks hk o1.length o1 [] (U (.lst (rs.map VV),Y)) (U (.lst (ps.map aaa),Y)) M M M M M 1000 rfl (by lia) Vb (by simp;lia);refine⟨o,po.trans p1,?_⟩;rw[aw (f:=Kz) (δ:=[U (.lst (rs.map VV),Y),U (.lst (ps.map aaa),Y),U (.lst (ks.map D.str),Y),M,M,M,M,M,M,M]) rfl rfl rfl];have hc:bp (aB (aa 8) (λδ=>U L) j3 (aq Y [L,Y,Y,Y,Y,Y,Y,Y,Y,Y] [U (.lst (rs.map VV),Y),U (.lst (ps.map aaa),Y),U (.lst (ks.map D.str),Y),M,M,M,M,M,M,M])) (ps.map aaa)=U (ps.map (prD rs)):=by
  have key:∀qs:Z9 Pat,(∀p∈qs,p.2.length<=4)->bp (aB (aa 8) (λδ=>U L) j3 (aq Y [L,Y,Y,Y,Y,Y,Y,Y,Y,Y] [U (.lst (rs.map VV),Y),U (.lst (ps.map aaa),Y),U (.lst (ks.map D.str),Y),M,M,M,M,M,M,M])) (qs.map aaa)=U (qs.map (prD rs)):=by
   intro qs
   induction qs with
   |nil=>intro _;rfl
   |cons q qs ih=>
    intro h;rw[Z2];unfold bp;have:aB (aa 8) (λδ=>U L) j3 (aq Y [L,Y,Y,Y,Y,Y,Y,Y,Y,Y] [U (.lst (rs.map VV),Y),U (.lst (ps.map aaa),Y),U (.lst (ks.map D.str),Y),M,M,M,M,M,M,M]) (aaa q)=U (U (prD rs q)):=by
     simp[aB,aq,j3,lY (h q (ZX ..)) Ig,prD]
    rw[this,ih λp hp=>h p (Z1 _ hp)];rfl
  exact key ps h4
 simp only[Lj,aaf,aac,aaj,PK];rw[aJ (by simp;lia),hc];have hs:gT (ax (U (ps.map (prD rs)))) (λd=>gU [U (d,Y)])=U (.lst (o1.map (prD rs))):=by
  unfold gT;simp only[aah,oZ,e1];rw[ZO (by simp;lia)]
 rw[hs,aaA _ _ _ (by simp)];simp only[WC,aS,aT];rw[aaq _ (by simp),aaA _ _ _ (by simp)];simp only[WC,aS,aT];rw[YO]at e;rw[e];simp
end K14
namespace K14
open PySem L2 JP
variable[Lams]
theorem fq{α:Type}{f:α->D}{h:α->D}{p:α->Bool}{F:D->Z7 (Z7 D)}:∀{xs:Z9 α},(∀x∈xs,F (f x)=U (if p x=L then U (h x) else M))->bp F (xs.map f)=U ((xs.filter p).map h)
 |[],_=>rfl
 |x::xs,H=>by
  rw[Z2];unfold bp;rw[H x (ZX ..),fq λy hy=>H y (Z1 _ hy),List.filter_cons];cases p x<;>rfl
def aW{α:Type}{f:α->D}{h:α->D}{F:D->Z7 (Z7 D)}{xs:Z9 α}(H:∀x∈xs,F (f x)=U (U (h x))):bp F (xs.map f)=U (xs.map h):=by
 have:=fq (f:=f) (h:=h) (p:=λ_=>L) (F:=F) (xs:=xs) λx hx=>by rw[H x hx];rfl
 rwa[List.filter_eq_self.mpr λ_ _=>rfl]at this
def jh(ns:Z9 Nat):D:=.lst (ns.map λn:Nat=>D.int n)
def cD(c:Z9 Ce):D:=.tup (c.map ceD)
def o8{a b:Z9 Ce}(h:cD a=cD b):a=b:=by
 unfold cD at h;injection h with h
 induction a generalizing b with
 |nil=>cases b with
  |nil=>rfl
  |cons=>simp at h
 |cons x a ih=>cases b with
  |nil=>simp at h
  |cons y b=>simp only[Z2,Yg]at h;rw[cw h.1,ih h.2]
def oA(c:Z9 Ce):aR 8 (cD c)=L:=by
 unfold cD;simp only[aR];rw[ZW];intro d hd;obtain⟨x,_,rfl⟩:=ZV.mp hd;cases x<;>rfl
theorem ni(c:Z9 Ce):jr (cD c)=L:=rfl
def Fh(c:Z9 Ce):okD 15 (cD c)=L:=by
 unfold cD;simp only[okD];rw[ZW];intro d hd;obtain⟨x,_,rfl⟩:=ZV.mp hd;cases x<;>rfl
theorem uq(l:Str):∀known:Z9 Str,(known.map D.str).idxOf (.str l)=known.idxOf l
 |[]=>rfl
 |k::known=>by
  rw[Z2,List.idxOf_cons,List.idxOf_cons,uq l known];have:((D.str k==D.str l):Bool)=(k==l):=by
   by_cases h:k=l;subst h;rw[Yo,Yo];have h':¬D.str k=D.str l:=λz=>h (by injection z);rw[beq_false_of_ne h,beq_false_of_ne h']
  rw[this]
def xu{l:Str}{known:Z9 Str}(h:l∈known)(hk:known.length<=1000):A4 (U (.lst (known.map D.str))) (U (.str l))=U (.int (known.idxOf l)):=by
 unfold A4;simp only[uq];rw[ZO];refine⟨rfl,?_,by rw[ZY];exact YG h,by simp;lia⟩;rw[ZW];intro d hd;obtain⟨x,_,rfl⟩:=ZV.mp hd;rfl
def cM{ls known:Z9 Str}(h:∀l∈ls,l∈known)(hl:ls.length<=1000)(hk:known.length<=1000):Jo [.lst (ls.map D.str),.lst (known.map D.str)]=U (jh (aU ls known),L):=by
 rw[aw (f:=Jo) (δ:=[U (.lst (ls.map D.str),Y),U (.lst (known.map D.str),Y),M]) rfl rfl rfl];simp only[ES,aac,aaj,PK];rw[aJ (by simp;lia)];have:=aW (f:=D.str) (h:=λl=>D.int (known.idxOf l)) (xs:=ls) (F:=aB (aa 2) (λδ=>U L) rA (aq Y [Y,L,Y] [U (.lst (ls.map D.str),Y),U (.lst (known.map D.str),Y),M])) λl hm=>by
  simp[aB,aq,rA,xu (h l hm) hk]
 rw[this];simp[jh,aU]
def fy{c:Z9 Ce}{ps:Z9 Nat}(h:∀i∈ps,i<c.length)(hl:ps.length<=1000):IU [cD c,jh ps]=U (cD (pk c ps),Y):=by
 rw[aw (f:=IU) (δ:=[U (cD c,Y),U (jh ps,Y),M]) rfl rfl rfl];simp only[Dw,aac,aaf,jh,aaj,PK];rw[aJ (by simp;lia)];have:=aW (f:=λn:Nat=>D.int n) (h:=λn=>ceD (c.getD n default)) (xs:=ps) (F:=aB (aa 2) (λδ=>U L) sE (aq Y [L,Y,Y] [U (cD c,Y),U (.lst (ps.map λn:Nat=>D.int n),Y),M])) λn hm=>by
  have hn:=h n hm;have:atI (c.map ceD) (n:Int)=U (ceD (c.getD n default)):=oU (by lia) (by simp[hn]);simp[aB,aq,sE,cD,this]
 rw[this];simp[cD,pk]
def gD(g:Gr):Z9 (D×Z9 D):=g.map λq=>(cD q.1,q.2.map cD)
theorem yI(k e:Z9 Ce):∀g:Gr,be (gD g) (cD k) (cD e)=gD (mQ g k e)
 |[]=>rfl
 |q::g=>by
  have ih:=yI k e g;unfold gD at ih⊢;rw[Z2];unfold be mQ;have h1:(cD q.1=cD k)=(q.1=k):=propext ⟨o8,λh=>by rw[h]⟩;have h2:(cD e∈q.2.map cD)=(e∈q.2):=propext ⟨λh=>by
   obtain⟨x,hx,he⟩:=ZV.mp h;rwa[<-o8 he],λh=>ZV.mpr ⟨e,h,rfl⟩⟩
  simp only[h1,h2,ih];split
  .split<;>simp
  simp
def Bq{b:Bi}{l:Str}{c:Ce}(h:gt b l=U c):A5 (U (bD b)) (U (.str l))=U (ceD c):=by
 unfold A5;rw[sQ,h];rfl
def sg{b:Bi}{sh:Z9 Str}(h:∀l∈sh,∃c,gt b l=U c)(ε:Mk)(hm:ε=[M,M,M,M,U (bD b,Y),M,M,M]):
  bp (aB (aa 7) (λδ=>U L) HX ε) (sh.map D.str)=U ((vl b sh).map ceD):=by
 subst hm;have:=aW (f:=D.str) (h:=λl=>ceD ((gt b l).getD default)) (xs:=sh) (F:=aB (aa 7) (λδ=>U L) HX [M,M,M,M,U (bD b,Y),M,M,M]) λl hm=>by
  obtain⟨c,hc⟩:=h l hm;simp[aB,HX,Bq hc,hc]
 rw[this];simp[vl]
theorem oN{sh ad:Z9 Str}(h1:sh.length<=1000)(h2:ad.length<=1000)(a0:D):∀(bs:Z9 Bi)(g:Gr)(a4 a5:Z7 (D×Bool)),(∀b∈bs,∀l∈sh++ad,∃c,gt b l=U c)->
  cz 4 5 6 oX oY (bs.map bD) [U (a0,Y),U (.lst (sh.map D.str),Y),U (.lst (ad.map D.str),Y),M,a4,a5,M,M] (gD g)=U (gD (bs.foldl (λg b=>mQ g (vl b sh) (vl b ad)) g))
 |[],g,a4,a5,_=>rfl
 |b::bs,g,a4,a5,h=>by
  have hb:=h b (ZX ..);have ih:=oN h1 h2 a0 bs (mQ g (vl b sh) (vl b ad)) (U (bD b,Y)) (U (cD (vl b sh),Y)) λb' Ij=>h b' (Z1 _ Ij);rw[Z2,List.foldl_cons,<-ih]
  conv=>lhs;unfold cz
  have e1:oX [U (a0,Y),U (.lst (sh.map D.str),Y),U (.lst (ad.map D.str),Y),M,U (bD b,Y),a5,M,M]=U (cD (vl b sh)):=by
   simp only[oX,aaf,aac,aaj,PK];rw[aJ (by simp;lia)];exact congrArg (λz=>bU (ax z)) (sg (λl hl=>hb l (YA _ hl)) _ rfl)
  have e2:oY [U (a0,Y),U (.lst (sh.map D.str),Y),U (.lst (ad.map D.str),Y),M,U (bD b,Y),U (cD (vl b sh),Y),M,M]=U (cD (vl b ad)):=by
   simp only[oY,aaf,aac,aaj,PK];rw[aJ (by simp;lia)];have:=sg (λl hl=>hb l (ZI _ hl)) _ rfl;have hh:(yy:Mk->Z7 D)=HX:=rfl;rw[hh];exact congrArg (λz=>bU (ax z)) this
  simp only[aS,aT,e1,e2,oA,ni,Bool.and_self,Y_,yI]
def pF{bs:Z9 Bi}{sh ad:Z9 Str}(h1:sh.length<=1000)(h2:ad.length<=1000)(hl:bs.length<=1000)(h:∀b∈bs,∀l∈sh++ad,∃c,gt b l=U c):
  Kx [.lst (bs.map bD),.lst (sh.map D.str),.lst (ad.map D.str)]=U (nU (gD (grp bs sh ad)),L):=by
 rw[aw (f:=Kx) (δ:=[U (.lst (bs.map bD),Y),U (.lst (sh.map D.str),Y),U (.lst (ad.map D.str),Y),M,M,M,M,M]) rfl rfl rfl];unfold D5 BF;rw[ZO ⟨rfl,by simp,by simp,by simp,by simp⟩];have e0:yu ([U (.lst (bs.map bD),Y),U (.lst (sh.map D.str),Y),U (.lst (ad.map D.str),Y),M,M,M,M,M].set 3 M)=U (bs.map bD):=rfl;simp only[e0];rw[ZO (by simp;lia)];have:=oN h1 h2 (.lst (bs.map bD)) bs [] M M h;simp only[aS,aT];have hg:gD []=[]:=rfl;rw[hg]at this;rw[this];rfl
theorem xN(k:Z9 Ce):∀g:Gr,(bL (cD k) ((gD g).map (·.1)) ((gD g).map λp=>(.dD p.2 (p.2.map λ_=>.bl L):D))).getD (.dD [] [])=.dD ((cH g k).map cD) ((cH g k).map λ_=>.bl L)
 |[]=>rfl
 |q::g=>by
  have ih:=xN k g;rw[aV];show(bL (cD k) (cD q.1::(gD g).map (·.1)) ((.dD (q.2.map cD) ((q.2.map cD).map λ_=>.bl L):D)::_)).getD _=_;unfold bL;by_cases h:q.1=k;rw[ZO (by rw[h]),ZO h];simp;rw[ZJ λz=>h (o8 z),ZJ h];exact ih
def Dv(g:Gr)(k:Z9 Ce):bY (U (nU (gD g))) (U (cD k)) (U (.dD [] []))=U (.dD ((cH g k).map cD) ((cH g k).map λ_=>.bl L)):=by
 unfold bY bM nU;simp only[oA,ni,Bool.and_self,Y_,xN]
def vO(l:Z9 (Z9 Ce)):D:=.dD (l.map cD) (l.map λ_=>.bl L)
def pq{ks:Z9 D}(k:D):∀{n:Z9 (Z9 Ce)},ks.length=n.length->jW k (.bl L) ks (n.map λ_=>(.bl L:D))=n.map λ_=>.bl L:=by
 induction ks with
 |nil=>intro n h;cases n with
  |nil=>rfl
  |cons=>simp at h
 |cons a ks ih=>intro n h;cases n with
  |nil=>simp at h
  |cons b n=>simp only[Z2,jW,ite_self,ih (by simpa using h)]
def Ao(x:Z9 Ce)(l:Z9 (Z9 Ce))(hl:l.length<100000):gI (vO l) (cD x) (.bl L)=U (vO (ins x l)):=by
 unfold vO gI;have hm:(cD x∈l.map cD)=(x∈l):=propext ⟨λh=>by
   obtain⟨y,hy,he⟩:=ZV.mp h;rwa[<-o8 he],λh=>ZV.mpr ⟨x,h,rfl⟩⟩
 simp only[oA,ni,Bool.and_self,Yc];rw[ZO (by simp;lia)];unfold cR wo ins;simp only[hm];split;rw[pq _ (by simp)];simp
def lR(x:Z9 Ce)(l:Z9 (Z9 Ce)):(ins x l).length<=l.length+1:=by unfold ins;split<;>simp
theorem xA(kc:Z9 Ce)(hk:kc.length<=1000)(a0 a1 a2 a3 a5:Z7 (D×Bool)):∀(as:Z9 (Z9 Ce))(l:Z9 (Z9 Ce))(a7:Z7 (D×Bool)),(∀a∈as,a.length<=1000)->l.length+as.length<=50000->∃y7,
  am (λd δ=>ae ((aa 7) d δ) t6) (as.map cD) [a0,a1,a2,a3,U (vO l,L),a5,U (cD kc,Y),a7]=U (.next [a0,a1,a2,a3,U (vO (as.foldl (λl a=>ins (kc++a) l) l),L),a5,U (cD kc,Y),y7])
 |[],l,a7,_,_=>⟨a7,rfl⟩
 |a::as,l,a7,ha,hl=>by
  rw[bO]at hl;have hi:=lR (kc++a) l;obtain⟨y7,e⟩:=xA kc hk a0 a1 a2 a3 a5 as (ins (kc++a) l) (U (cD a,Y)) (λx hx=>ha x (Z1 _ hx)) (by lia);refine⟨y7,?_⟩;rw[List.foldl_cons,<-e,Z2]
  conv=>lhs;unfold am
  have hc:sr (U (cD kc)) (U (cD a))=U (cD (kc++a)):=by
   unfold sr cD;have:=ha a (ZX ..);simp only[ZY,aam];rw[ZO (by lia),YU]
  simp[t6,jO,hc,Ao _ _ (show l.length<100000 by lia)]
theorem mS{sp kp:Z9 Nat}{g:Gr}(h1:sp.length<=1000)(h2:kp.length<=1000)(hg:∀k,((cH g k).length<=400)/\∀a∈cH g k,a.length<=1000)(a0:Z7 (D×Bool)):∀(found l:Z9 (Z9 Ce))(a5 a6 a7:Z7 (D×Bool)),(∀c∈found,∀i∈sp++kp,i<c.length)->l.length+400*found.length<=50000->∃y5 y6 y7,
  am (λd δ=>ae ((aa 5) d δ) se) (found.map cD) [a0,U (jh sp,Y),U (jh kp,Y),U (nU (gD g),Y),U (vO l,L),a5,a6,a7]=U (.next [a0,U (jh sp,Y),U (jh kp,Y),U (nU (gD g),Y),U (vO (found.foldl (qA g sp kp) l),L),y5,y6,y7])
 |[],l,a5,a6,a7,_,_=>⟨a5,a6,a7,rfl⟩
 |c::found,l,a5,a6,a7,hc,hl=>by
  rw[bO]at hl;have LV:=hc c (ZX ..);have g1:=(hg (pk c sp)).1;obtain⟨z7,e1⟩:=xA (pk c kp) (by unfold pk;simpa using h2) a0 (U (jh sp,Y)) (U (jh kp,Y)) (U (nU (gD g),Y)) (U (cD c,Y)) (cH g (pk c sp)) l a7 (hg _).2 (by lia);have hx:(qA g sp kp l c).length<=l.length+400:=by
   unfold qA;have key:∀(as l:Z9 (Z9 Ce)),(as.foldl (λl a=>ins (pk c kp++a) l) l).length<=l.length+as.length:=by
    intro as
    induction as with
    |nil=>intro l;simp
    |cons a as ih=>intro l;rw[List.foldl_cons];have:=ih (ins (pk c kp++a) l);have:=lR (pk c kp++a) l;simp;lia
   have:=key (cH g (pk c sp)) l;lia
  obtain⟨y5,y6,y7,e⟩:=mS h1 h2 hg a0 found (qA g sp kp l c) (U (cD c,Y)) (U (cD (pk c kp),Y)) z7 (λx hx=>hc x (Z1 _ hx)) (by lia);refine⟨y5,y6,y7,?_⟩;rw[List.foldl_cons,<-e,Z2]
  conv=>lhs;unfold am
  simp only[aad,bO,gC,Nat.reduceAdd,Nat.reduceLT,PK,aS,aT];simp only[se,aaf,aac,Vc,PK,fy (λi hi=>LV i (ZI _ hi)) h2,aar,aai,bO,gC,Nat.reduceAdd,Nat.reduceLT,WC,aS,aT,fy (λi hi=>LV i (YA _ hi)) h1,Dv,wq];rw[e1];rfl
def mL{found:Z9 (Z9 Ce)}{sp kp:Z9 Nat}{g:Gr}(h1:sp.length<=1000)(h2:kp.length<=1000)(hg:∀k,((cH g k).length<=400)/\∀a∈cH g k,a.length<=1000)(hf:found.length<=125)(h:∀c∈found,∀i∈sp++kp,i<c.length):
  Kw [.lst (found.map cD),jh sp,jh kp,nU (gD g)]=U (.lst ((ext found sp kp g).map cD),L):=by
 rw[aw (f:=Kw) (δ:=[U (.lst (found.map cD),Y),U (jh sp,Y),U (jh kp,Y),U (nU (gD g),Y),M,M,M,M]) rfl rfl rfl];obtain⟨y5,y6,y7,e⟩:=mS h1 h2 hg (U (.lst (found.map cD),Y)) found [] M M M h (by simp;lia);have e0:vO []=.dD [] []:=rfl;rw[e0]at e;simp only[Dx,aaA,bO,gC,Nat.reduceAdd,Nat.reduceLT,WC,aS,aT,aac,aaj,PK];rw[e];simp[xO,vO,m6,ext]
end K14
namespace K14
open PySem L2 JP
variable[Lams]
def vJ(g:Gr)(k e k':Z9 Ce):(cH (mQ g k e) k').length<=(cH g k').length+1:=by
 induction g with
 |nil=>
  unfold mQ;rw[aV];split<;>simp[cH]
 |cons q g ih=>
  unfold mQ;by_cases h:q.1=k
  .rw[ZO h,aV,aV]
   dsimp only;by_cases h':q.1=k'
   .rw[ZO h',ZO h'];split<;>simp
   rw[ZJ h',ZJ h'];lia
  rw[ZJ h,aV,aV];by_cases h':q.1=k';rw[ZO h',ZO h'];lia;rw[ZJ h',ZJ h'];exact ih
def zq(sh ad:Z9 Str)(k:Z9 Ce)(bs:Z9 Bi):(cH (grp bs sh ad) k).length<=bs.length:=by
 have key:∀(bs:Z9 Bi)(g:Gr),(cH (bs.foldl (λg b=>mQ g (vl b sh) (vl b ad)) g) k).length<=(cH g k).length+bs.length:=by
  intro bs
  induction bs with
  |nil=>intro g;simp
  |cons b bs ih=>intro g;rw[List.foldl_cons];have:=ih (mQ g (vl b sh) (vl b ad));have:=vJ g (vl b sh) (vl b ad) k;simp;lia
 have:=key bs [];simpa[cH,grp]using this
def zZ(h:∀k,(cH g k).length<=n):(ext found sp kp g).length<=found.length*n:=by
 have kin:∀(c:Z9 Ce)(as l:Z9 (Z9 Ce)),(as.foldl (λl a=>ins (pk c kp++a) l) l).length<=l.length+as.length:=by
  intro c as
  induction as with
  |nil=>intro l;simp
  |cons a as ih=>intro l;rw[List.foldl_cons];have:=ih (ins (pk c kp++a) l);have:=lR (pk c kp++a) l;simp;lia
 have key:∀(found l:Z9 (Z9 Ce)),(found.foldl (qA g sp kp) l).length<=l.length+found.length*n:=by
  intro found
  induction found with
  |nil=>intro l;simp
  |cons c found ih=>
   intro l;rw[List.foldl_cons];have h1:=ih (qA g sp kp l c);have h2:=kin c (cH g (pk c sp)) l;have h3:=h (pk c sp);unfold qA at h1⊢;rw[bO,Nat.add_mul];lia
 have:=key found [];simpa[ext]using this
def qJ{α:Type}(f:α->D)(a:Z9 α)(x:α)(b:Z9 α):tN ((a++x::b).map f) (U ((a.length:Int)+1)) M=b.map f:=by
 unfold tN;have e:((a.length:Int)+1)=((a.length+1:Nat):Int):=by lia
 rw[e,HT.abP,HT.abC];simp only[ZY,Zy,bO];rw[WA (by lia)];rw[Yv (by simp)];rw[<-List.map_drop];congr 1;rw[List.drop_append];simp
def Af(l:Str)(ss:Z9 Str):bw (U (.str l)) (U (.lst (ss.map D.str)))=U (!decide (l∈ss)):=by
 unfold bw;rw[eN];rfl
def iN{own:Z9 Str}{P:Str->Bool}{F:D->Z7 (Z7 D)}(h:∀l∈own,F (.str l)=U (if P l=L then U (.str l) else M)):bp F (own.map D.str)=U ((own.filter P).map D.str):=fq h
def mO{α:Type}(P:α->Bool)(l:Z9 α):(l.filter P).length<=l.length:=Wu ..
def AQ{rs:Z9 Row}(Ig:rs.length<=400){wanted:Z9 Str}(hw:wanted.length<=100){done ar:Z9 Pat}{p:Pat}{known:Z9 Str}{found:Z9 (Z9 Ce)}(J:Jn rs wanted done (p::ar) known found)(hk:known.length<=100)(hf:found.length<=125)
  (h4:∀q∈p::ar,q.2.length<=4) (hl:(p::ar).length<=4) (a0 a1 x8 x9 K4 K3 K2 K1 KS HC Hz HD:Z7 (D×Bool)):∃Hx Hy y8 y9 ME MD MC MB,Jn rs wanted (done++[p]) ar Hx Hy/\Hx.length<=known.length+4/\Hy.length<=found.length*rs.length/\
  kH [a0,a1,U (.lst (wanted.map D.str),Y),U (.lst (known.map D.str),Y),U (.lst (found.map cD),Y),U (.lst ((done++p::ar).map (prD rs)),Y),U (.int done.length,Y),U (prD rs p,Y),x8,x9,K4,K3,K2,K1,KS,HC,Hz,HD]=
   U (.next [a0,a1,U (.lst (wanted.map D.str),Y),U (.lst (Hx.map D.str),Y),U (.lst (Hy.map cD),Y),U (.lst ((done++p::ar).map (prD rs)),Y),U (.int done.length,Y),U (prD rs p,Y),y8,y9,ME,MD,MC,MB,KS,HC,Hz,HD]):=by
 obtain⟨ls,Vv,_,TV,V7⟩:=iW (cm ar);obtain⟨own,QS,JU,Qu,VO⟩:=iW (cm [p]);have RI:=h4 p (ZX ..);have RD:∀q∈ar,q.2.length<=4:=λq hq=>h4 q (Z1 _ hq);have PD:ar.length<=3:=by simp at hl;lia
 have lr:=bi RD;have lp:(cm [p]).length<=4:=by
  have:=bi (ps:=[p]) λq hq=>by rw[ZC.mp hq];exact RI
  simpa using this
 have mo:∀l,l∈own↔l∈ans p.2:=λl=>by rw[Qu,dE];simp
 have ml:∀l,l∈wanted++ls↔l∈wanted\/∃q∈ar,l∈ans q.2:=λl=>by rw[Zt,TV,dE]
 have LL:own.length<=4:=by lia
 generalize JX:wanted++ls=later at ml;have PM:later.length<=200:=by rw[<-JX,Zy];lia
 have J':=Aa J mo JU ml;have f1:=mO (λl=>decide (l∈known)) own;have f2:=mO (λl=>decide (l∈later)&&!decide (l∈known)) own;have f3:=mO (λl=>decide (l∈later)) known;have Kl:∀l∈own.filter (λl=>decide (l∈known)),l∈known:=λl hl=>by simp at hl;exact hl.2
 have JV:∀l∈known.filter (λl=>decide (l∈later)),l∈known:=λl hl=>by simp at hl;exact hl.1
 have Ja:∀b∈binds rs p,∀l∈own,∃c,gt b l=U c:=λb hb l hl=>(dw hb).1 l ((mo l).mp hl);have Ko:∀l∈own.filter (λl=>decide (l∈known))++own.filter (λl=>decide (l∈later)&&!decide (l∈known)),l∈own:=λl hl=>(Zt.mp hl).elim (λh=>(Y1.mp h).1) λh=>(Y1.mp h).1;have eg:=pF (bs:=binds rs p) (sh:=own.filter (λl=>decide (l∈known))) (ad:=own.filter (λl=>decide (l∈later)&&!decide (l∈known))) (by lia) (by lia) (by have:=jM rs p;lia) λb hb l hl=>Ja b hb l (Ko l hl);generalize PB:own.filter (λl=>decide (l∈known))=sh at*;generalize UX:own.filter (λl=>decide (l∈later)&&!decide (l∈known))=ad at*;generalize Ow:known.filter (λl=>decide (l∈later))=kept at*;have Sb:∀k,(cH (grp (binds rs p) sh ad) k).length<=rs.length:=λk=>Zn (zq sh ad k _) (jM rs p);have ee:=mL (found:=found) (sp:=aU sh known) (kp:=aU kept known) (g:=grp (binds rs p) sh ad) (by unfold aU;simp;lia) (by unfold aU;simp;lia) (λk=>⟨by have:=Sb k;lia,λa ha=>by
   obtain⟨b,_,_,e⟩:=(lG _ _ _ _ _).mp ha;rw[<-e];unfold vl;simp;lia⟩) hf λc hc i hi=>by
  obtain⟨φ,rfl,_⟩:=(J.mem c).mp hc;rw[ZY];have:∃l∈sh++kept,i=known.idxOf l:=by
   unfold aU at hi;rw[<-YU]at hi;obtain⟨l,h1,h2⟩:=ZV.mp hi;exact⟨l,h1,h2.symm⟩
  obtain⟨l,h1,rfl⟩:=this;exact YG ((Zt.mp h1).elim (Kl l) (JV l))
 have Kj:=cM Kl (by lia) (by lia);have Jc:=cM JV (by lia) (by lia);refine⟨_,_,U (.lst (later.map D.str),Y),U (.lst (own.map D.str),Y),U (.lst (sh.map D.str),Y),U (.lst (ad.map D.str),Y),U (.lst (kept.map D.str),Y),U (nU (gD (grp (binds rs p) sh ad)),Y),J',by rw[Zy];lia,zZ Sb,?_⟩;have c1:bp (aB (aa 17) (λδ=>U L) uT (aq Y [Y,Y,Y,Y,Y,Y,Y,Y,Y,Y,Y,Y,Y,Y,Y,Y,Y,Y] [a0,a1,U (.lst (wanted.map D.str),Y),U (.lst (known.map D.str),Y),U (.lst (found.map cD),Y),U (.lst ((done++p::ar).map (prD rs)),Y),U (.int done.length,Y),U (prD rs p,Y),x8,x9,K4,K3,K2,K1,KS,HC,Hz,HD])) (ar.map (prD rs))=U (ar.map aaa):=aW λq hq=>by
  simp[aB,aq,uT,prD,at0]
 have l1:=bg (ps:=ar) (by lia) RD;have l2:=bg (ps:=[p]) (by simp) λq hq=>by rw[ZC.mp hq];exact RI
 have e0:ixO (U (prD rs p)) (U (.int 0))=U (aaa p):=by simp[prD,at0]
 have e1:ixO (U (prD rs p)) (U (.int 1))=U (.lst ((binds rs p).map bD)):=by simp[prD,at1]
 rw[Vv]at l1;rw[QS,Z2,YO]at l2;simp only[kH,aaf,aac,abS,aaS,abR,abT,qJ,aaj,PK];rw[aJ (by simp;lia),c1];simp only[aah,Vc,PK,l1,aao];rw[abw _ _ (by simp;lia),<-YU,JX,aai _ _ _ (by simp)];simp only[WC,aS,aT,aaf,aac,e0,Vc];rw[aaq _ (by simp)];simp only[Vc,PK,l2,aao];rw[aai _ _ _ (by simp)];simp only[WC,aS,aT,aaf,aac,aaj,PK];rw[aJ (by simp;lia),iN (P:=λl=>decide (l∈known)) λl hl=>by
  by_cases hm:l∈known<;>simp[aB,aq,yq,eN,hm]]
 rw[PB,aah,aaA _ _ _ (by simp)];simp only[WC,aS,aT,abc,abd,ym,aaf,aac,aaj,PK];rw[aJ (by simp;lia),iN (P:=λl=>decide (l∈later)&&!decide (l∈known)) λl hl=>by
  by_cases hm:l∈later<;>by_cases hn:l∈known<;>simp[aB,aq,yd,eN,Af,hm,hn]]
 rw[UX,aah,aaA _ _ _ (by simp)];simp only[WC,aS,aT,abc,abd,xR,aaf,aac,aaj,PK];rw[aJ (by simp;lia),iN (P:=λl=>decide (l∈later)) λl hl=>by
  by_cases hm:l∈later<;>simp[aB,aq,yA,eN,hm]]
 rw[Ow,aah,aaA _ _ _ (by simp)];simp only[WC,aS,aT,abc,abd,yC,aaf,aac,e1,Vc,PK,eg];have Vy:frO (U (nU (gD (grp (binds rs p) sh ad)),L))=U (nU (gD (grp (binds rs p) sh ad))):=rfl;rw[Vy,aai _ _ _ (by simp)];have Qk:∀ns,frO (U (jh ns,L))=U (jh ns):=λ_=>rfl;simp only[WC,aS,aT,aaf,aac,Vc,PK,Kj,Jc,Qk,ee,aao];rw[aai _ _ _ (by simp)];simp only[WC,aS,aT,aaf,aac];rw[abw _ _ (by simp;lia),aai _ _ _ (by simp),<-YU];rfl
theorem dR:∀{xs ys:Z9 D},(∀x∈xs,∀y∈ys,(lt x y).isSome=L)->(bX lt xs ys).isSome=L
 |[],[],_=>rfl
 |[],_::_,_=>rfl
 |_::_,[],_=>rfl
 |x::xs,y::ys,h=>by
  unfold bX;split;exact dR λa ha b hb=>h a (Z1 _ ha) b (Z1 _ hb);exact h x (ZX ..) y (ZX ..)
def bn:¬(Str.ofString "blank")=(Str.ofString "name"):=by decide +kernel
def nb:¬(Str.ofString "name")=(Str.ofString "blank"):=by decide +kernel
def zT(n:Nat)(c e:Ce):(ltD (n+1) (ceD c) (ceD e)).isSome=L:=by
 cases c<;>cases e<;>simp[ceD,ltD,bX,bn,nb]<;>split<;>rfl
def B0(fs:Z9 (Z9 Ce)):cG (fs.map cD)=L:=by
 unfold cG;rw[ZW];intro x hx;obtain⟨r,_,rfl⟩:=ZV.mp hx;rw[ZK];refine⟨Fh r,?_⟩;rw[ZW];intro y hy;obtain⟨q,_,rfl⟩:=ZV.mp hy;show(bX (ltD 14) (r.map ceD) (q.map ceD)).isSome=L;refine dR λx hx y hy=>?_;obtain⟨c,_,rfl⟩:=ZV.mp hx;obtain⟨e,_,rfl⟩:=ZV.mp hy;exact zT 13 c e
def cn{α:Type}{f:α->D}:∀{l:Z9 D}{fs:Z9 α},l.Perm (fs.map f)->∃gs:Z9 α,gs.Perm fs/\l=gs.map f:=by
 intro l fs h;generalize hm:fs.map f=m at h
 induction h generalizing fs with
 |nil=>exact⟨[],by simp at hm;rw[hm],rfl⟩
 |cons x h ih=>
  cases fs with
  |nil=>simp at hm
  |cons a fs=>
   simp only[Z2,Yg]at hm;obtain⟨gs,p,e⟩:=ih hm.2;exact⟨a::gs,p.cons a,by rw[e,<-hm.1];rfl⟩
 |swap x y l=>
  cases fs with
  |nil=>simp at hm
  |cons a fs=>
   cases fs with
   |nil=>simp at hm
   |cons b fs=>
    simp only[Z2,Yg]at hm;exact⟨b::a::fs,List.Perm.swap ..,by rw[<-hm.1,<-hm.2.1,<-hm.2.2];rfl⟩
 |trans h1 h2 Pn Pm=>
  obtain⟨gs,p,e⟩:=Pm hm;obtain⟨Vd,p',e'⟩:=Pn e.symm;exact⟨Vd,p'.trans p,e'⟩
def Gv{fs:Z9 (Z9 Ce)}(nd:fs.Nodup){n:Nat}(hn:∀c∈fs,c.length=n):fs.length<2\/(fs.map cD).all (de .tt)=L:=by
 by_cases h1:fs.length<2;exact .inl h1
 .have RM:n≠0:=λz=>by
   subst z
   match fs,nd,hn,h1 with
   |[],_,_,h=>simp at h
   |[_],_,_,h=>simp at h
   |a::b::r,nd,hn,_=>
    have ha:=YT.mp (hn a (by simp));have hb:=YT.mp (hn b (by simp));simp[ha,hb]at nd
  refine .inr (ZW.mpr λd hd=>?_);obtain⟨c,hc,rfl⟩:=ZV.mp hd;have:=hn c hc;cases c with
  |nil=>exact absurd this.symm RM
  |cons x c=>cases x<;>rfl
def Cb{fs:Z9 (Z9 Ce)}(nd:fs.Nodup){n:Nat}(hn:∀c∈fs,c.length=n):jx .tt (U (.lst (fs.map cD)))=U (.lst (b7 (fs.map cD))):=
 nV (B0 fs) (by simpa using Gv nd hn)
theorem kT{rs:Z9 Row}(Ig:rs.length<=400){wanted:Z9 Str}(hw:wanted.length<=100)(a0 a1 KS HC Hz HD:Z7 (D×Bool)){n:Nat}(hN:∀k,k<n->rs.length ^ k<=125):∀(ar done:Z9 Pat)(known:Z9 Str)(found:Z9 (Z9 Ce))(x6 x7 x8 x9 K4 K3 K2 K1:Z7 (D×Bool)),
  done.length+ar.length=n->n<=4->(∀q∈ar,q.2.length<=4)->Jn rs wanted done ar known found->known.length<=4*done.length->found.length<=rs.length ^ done.length->∃Hx Hy y6 y7 y8 y9 ME MD MC MB,Jn rs wanted (done++ar) [] Hx Hy/\Hx.length<=16/\Hy.length<=rs.length ^ n/\
  am (λd δ=>ae ((aO (aj (aa 6) (aj (aa 7) (aak)))) d δ) kH) (gH done.length (ar.map (prD rs))) [a0,a1,U (.lst (wanted.map D.str),Y),U (.lst (known.map D.str),Y),U (.lst (found.map cD),Y),U (.lst ((done++ar).map (prD rs)),Y),x6,x7,x8,x9,K4,K3,K2,K1,KS,HC,Hz,HD]=
   U (.next [a0,a1,U (.lst (wanted.map D.str),Y),U (.lst (Hx.map D.str),Y),U (.lst (Hy.map cD),Y),U (.lst ((done++ar).map (prD rs)),Y),y6,y7,y8,y9,ME,MD,MC,MB,KS,HC,Hz,HD])
 |[],done,known,found,x6,x7,x8,x9,K4,K3,K2,K1,h1,h2,h3,J,hk,hf=>by
  simp at h1;exact⟨known,found,x6,x7,x8,x9,K4,K3,K2,K1,by simpa using J,by lia,by rw[<-h1];exact hf,rfl⟩
 |p::ar,done,known,found,x6,x7,x8,x9,K4,K3,K2,K1,h1,h2,h3,J,hk,hf=>by
  have hd:done.length<n:=by simp at h1;lia
  have UO:found.length<=125:=Zn hf (hN _ hd);obtain⟨k1,f1,z8,z9,N3,N2,N1,N0,J1,hk1,UN,e⟩:=AQ Ig hw J (by lia) UO h3 (by simp at h1⊢;lia) a0 a1 x8 x9 K4 K3 K2 K1 KS HC Hz HD;obtain⟨k2,f2,y6,y7,y8,y9,ME,MD,MC,MB,J2,K9,UM,e2⟩:=kT Ig hw a0 a1 KS HC Hz HD hN ar (done++[p]) k1 f1 (U (.int done.length,Y)) (U (prD rs p,Y)) z8 z9 N3 N2 N1 N0 (by simp at h1⊢;lia) h2 (λq hq=>h3 q (Z1 _ hq)) J1 (by simp;lia)
   (by rw[Zy,List.length_singleton,Nat.pow_succ];exact Zn UN (Nat.mul_le_mul_right _ hf))
  refine⟨k2,f2,y6,y7,y8,y9,ME,MD,MC,MB,by simpa using J2,K9,UM,?_⟩;rw[Zc,List.singleton_append]at e2;rw[Z2];simp only[gH];unfold am;have et:(ae ((aO (aj (aa 6) (aj (aa 7) (aak)))) (.tup [.int (done.length:Int),prD rs p]) [a0,a1,U (.lst (wanted.map D.str),Y),U (.lst (known.map D.str),Y),U (.lst (found.map cD),Y),U (.lst ((done++p::ar).map (prD rs)),Y),x6,x7,x8,x9,K4,K3,K2,K1,KS,HC,Hz,HD]) kH)=U (.next [a0,a1,U (.lst (wanted.map D.str),Y),U (.lst (k1.map D.str),Y),U (.lst (f1.map cD),Y),U (.lst ((done++p::ar).map (prD rs)),Y),U (.int (done.length:Int),Y),U (prD rs p,Y),z8,z9,N3,N2,N1,N0,KS,HC,Hz,HD]):=by
   rw[<-e];simp only[aaE,aaw,aaF,aad,Zi,bO,gC,PK,aS,aT,Nat.reduceAdd,Nat.reduceLT]
  rw[et];rw[Zy,List.length_singleton]at e2;exact e2
def lf{rs:Z9 Row}(Ig:rs.length<=400){ps:Z9 Pat}(Ih:ps.length<=4)(h4:∀p∈ps,p.2.length<=4)(hN:∀k,k<ps.length->rs.length ^ k<=125){wanted:Z9 Str}(hw:wanted.length<=100)(Pq:∀l∈wanted,l∈cm ps):∃fs:Z9 (Z9 Ce),fs.Nodup/\(∀x,x∈fs↔∃φ:Fit,x=wanted.map φ/\∀p∈ps,qK rs φ p)/\
  Jq [.lst (rs.map VV),.lst (ps.map aaa),.lst (wanted.map D.str),.lst [],.lst [.tup []]]=U (.lst (b7 (fs.map cD)),L)/\fs.length<=50000:=by
 obtain⟨o,po,eo⟩:=gh rs (by lia) [] (by simp) h4 Ih;have ol:=po.length_eq;have ho:∀q∈o,q.2.length<=4:=λq hq=>h4 q (po.mem_iff.mp hq);obtain⟨known,found,y6,y7,y8,y9,ME,MD,MC,MB,J,hk,hf,e⟩:=kT Ig hw (U (.lst (rs.map VV),Y)) (U (.lst (ps.map aaa),Y)) M M M M (n:=ps.length) hN o [] [] [[]] M M M M M M M M (by simpa using ol) Ih ho (v6 rs wanted o) (by simp) (by simp);simp only[List.nil_append]at J e;have Rx:∀l∈wanted,∃p∈o,l∈ans p.2:=λl hl=>by
  obtain⟨p,hp,h⟩:=dE.mp (Pq l hl);exact⟨p,po.mem_iff.mpr hp,h⟩
 have Ry:∀l∈wanted,l∈known:=λl hl=>J.has l (Rx l hl) (.inl hl);obtain⟨nd,mem⟩:=CN J Rx;have es:=Cb nd (n:=wanted.length) (λc hc=>by
  obtain⟨d,_,rfl⟩:=ZV.mp hc;unfold pk aU;simp)
 have UP:found.length<=50000:=by
  refine Zn hf ?_;rcases Nat.eq_zero_or_pos ps.length with z|z;rw[z];simp;obtain⟨m,hm⟩:∃m,ps.length=m+1:=⟨ps.length - 1,by lia⟩
  rw[hm,Nat.pow_succ];exact Zn (Nat.mul_le_mul (hN m (by lia)) Ig) (by decide)
 refine⟨found.map λc=>pk c (aU wanted known),nd,λx=>?_,?_⟩;rw[mem];constructor
 rintro⟨φ,h1,h2⟩;exact⟨φ,h1,λp hp=>h2 p (po.mem_iff.mpr hp)⟩
 rintro⟨φ,h1,h2⟩;exact⟨φ,h1,λp hp=>h2 p (po.mem_iff.mp hp)⟩
 refine⟨?_,by simpa using UP⟩;rw[aw (f:=Jq) (δ:=[U (.lst (rs.map VV),Y),U (.lst (ps.map aaa),Y),U (.lst (wanted.map D.str),Y),U (.lst [],Y),U (.lst [.tup []],Y),M,M,M,M,M,M,M,M,M,M,M,M,M]) rfl rfl rfl];simp only[YO]at eo;simp only[EV,aaf,aac,Vc,PK,eo,aao];rw[aai _ _ _ (by simp)];simp only[WC,aS,aT,aaf,aac,wW,PK];simp only[Z2,YO,gC]at e;have ec:cD []=.tup []:=rfl;rw[ec]at e;rw[e];simp only[WC,aaf,aac,Vc,PK];rw[cM Ry (by lia) (by lia)];have Qk:∀ns,frO (U (jh ns,L))=U (jh ns):=λ_=>rfl;rw[Qk,aai _ _ _ (by simp)];simp only[WC,aS,aT,aaf,aac,aaj,PK];rw[aJ (by simp;lia),aW (f:=cD) (h:=λc=>cD (pk c (aU wanted known))) λc hc=>by
  obtain⟨φ,rfl,_⟩:=(J.mem c).mp hc;have:=fy (c:=known.map φ) (ps:=aU wanted known) (λi hi=>by
   unfold aU at hi;obtain⟨l,h1,rfl⟩:=ZV.mp hi;rw[ZY];exact YG (Ry l h1)) (by unfold aU;simp;lia)
  simp[aB,aq,xJ,this]]
 have em:found.map (λc=>cD (pk c (aU wanted known)))=(found.map λc=>pk c (aU wanted known)).map cD:=by simp
 rw[aah,em,es];rfl
end K14
namespace K14
open PySem L2 JP
variable[Lams]
def aax(q:Str×Ce):D:=.tup [.str q.1,ceD q.2]
def nu(h:aax a=aax b):a=b:=by
 obtain⟨x,c⟩:=a;obtain⟨y,d⟩:=b;simp only[aax,D.tup.injEq,Yg,D.str.injEq,and_true]at h;rw[h.1,cw h.2]
def uL(ps:Z9 Pat):Z9 Str:=wd (uS (cm ps))
def AG(ps:Z9 Pat):(uL ps).Nodup:=(bF _).nodup_iff.mpr (dQ _)
def kJ(ps:Z9 Pat)(x:Str):x∈uL ps↔x∈cm ps:=(bF _).mem_iff.trans (gK x _)
def lu(ps:Z9 Pat):(uL ps).length<=(cm ps).length:=(bF (uS (cm ps))).length_eq▸sX _
def xM(ps:Z9 Pat):(uL ps).Pairwise λa b=>leT a b=L:=List.pairwise_mergeSort kz jX _
def fL(us:Z9 Str)(c:Z9 Ce):D:=.lst ((us.zip c).map aax)
def AY(x y:Ce):ltD 13 (ceD x) (ceD y)=ltD 14 (ceD x) (ceD y):=by
 cases x<;>cases y<;>simp[ceD,ltD,bX,bn,nb]
theorem rl:∀(us:Z9 Str)(c d:Z9 Ce),c.length=us.length->d.length=us.length->bX (ltD 14) ((us.zip c).map aax) ((us.zip d).map aax)=bX (ltD 14) (c.map ceD) (d.map ceD)
 |[],c,d,h1,h2=>by rw[YT.mp h1,YT.mp h2];rfl
 |u::us,[],d,h1,h2=>by simp at h1
 |u::us,x::c,[],h1,h2=>by simp at h2
 |u::us,x::c,y::d,h1,h2=>by
  simp only[List.zip_cons_cons,Z2,bX];by_cases e:x=y;subst e;rw[ZO rfl,ZO rfl];exact rl us c d (by simpa using h1) (by simpa using h2);rw[ZJ λz=>e (congrArg Prod.snd (nu z)),ZJ λz=>e (cw z)];show bX (ltD 13) [.str u,ceD x] [.str u,ceD y]=_;simp only[bX];rw[ZO trivial,ZJ λz=>e (cw z)];exact AY x y
def C7(h1:c.length=us.length)(h2:d.length=us.length):leD (fL us c) (fL us d)↔leD (cD c) (cD d):=by
 have e:ltD 15 (fL us d) (fL us c)=ltD 15 (cD d) (cD c):=rl us d c h2 h1;unfold leD;rw[e]
def C6(q:Str×Ce)(n:Nat):okD (n+3) (aax q)=L:=by obtain⟨l,c⟩:=q;cases c<;>simp[aax,ceD,okD]
def Ds(us:Z9 Str)(c:Z9 Ce)(n:Nat):okD (n+4) (fL us c)=L:=by
 simp only[fL,okD,WG,ZW];exact λq _=>C6 q n
def F3{us:Z9 Str}{xs:Z9 (Z9 Ce)}(h:∀c∈xs,c.length=us.length):cG (xs.map (fL us))=L:=by
 unfold cG;rw[ZW];intro x hx;obtain⟨c,hc,rfl⟩:=ZV.mp hx;rw[ZK];refine⟨Ds us c 11,?_⟩;rw[ZW];intro y hy;obtain⟨d,hd,rfl⟩:=ZV.mp hy;have e:ltD 15 (fL us c) (fL us d)=ltD 15 (cD c) (cD d):=rl us c d (h c hc) (h d hd);rw[e];show(bX (ltD 14) (c.map ceD) (d.map ceD)).isSome=L;refine dR λx hx y hy=>?_;obtain⟨c,_,rfl⟩:=ZV.mp hx;obtain⟨e,_,rfl⟩:=ZV.mp hy;exact zT 13 c e
def E5(h1:c.length=us.length)(h2:d.length=us.length)(h:fL us c=fL us d):c=d:=by
 have e:=i8 (f:=aax) (λ_ _=>nu) (D.lst.inj h);have:=congrArg (List.map Prod.snd) e;rwa[List.map_snd_zip (by lia),List.map_snd_zip (by lia)]at this
theorem jm:∀us:Z9 Str,us.zip (us.map f)=us.map λl=>(l,f l)
 |[]=>rfl
 |u::us=>by rw[Z2,List.zip_cons_cons,jm us];rfl
structure Fs (rs:List Row)(ps:List Pat)(ss:List (List Ce)):Prop where
 nd:ss.Nodup
 mem:∀x,x∈ss↔∃φ:Fit,x=(uL ps).map φ/\∀p∈ps,qK rs φ p
 srt:(ss.map (fL (uL ps))).Pairwise leD
def Fs.len(F:Fs rs ps ss):∀c∈ss,c.length=(uL ps).length:=λc hc=>by
 obtain⟨φ,rfl,_⟩:=(F.mem c).mp hc;simp
theorem xv:∀(us:Z9 Str)(c:Z9 Ce),cy (us.map D.str) (c.map ceD)=(us.zip c).map aax
 |[],c=>by cases c<;>rfl
 |u::us,[]=>rfl
 |u::us,x::c=>by rw[Z2,Z2,cy,xv us c];rfl
def zu(h:us.length<=1000)(c:Z9 Ce):sS Y L (U (.lst (us.map D.str))) (U (cD c))=U (fL us c):=by
 have e:CZ Y L (U (.lst (us.map D.str))) (U (cD c))=U ((us.zip c).map aax):=by
  show U (cy (us.map D.str) (c.map ceD))=_;rw[xv]
 unfold sS;rw[e];dsimp only;rw[ZO (by simp;lia)];rfl
def jc(Ig:rs.length<=400)(Ih:ps.length<=4)(h4:∀p∈ps,p.2.length<=4)(hN:∀k,k<ps.length->rs.length ^ k<=125):
  ∃ss,Fs rs ps ss/\ss.length<=50000/\HP [.lst (rs.map VV),.lst (ps.map aaa)]=U (.lst (ss.map (fL (uL ps))),L):=by
 have hu:(uL ps).length<=16:=Zn (lu ps) (Zn (bi h4) (by lia));obtain⟨fs,n1,m1,ej,hl⟩:=lf Ig Ih h4 hN (wanted:=uL ps) (by lia) λl hl=>(kJ ps l).mp hl;obtain⟨gs,pg,eg⟩:=cn (aD (fs.map cD));have hg:∀c∈gs,c.length=(uL ps).length:=λc hc=>by
  obtain⟨φ,rfl,_⟩:=(m1 c).mp (pg.mem_iff.mp hc);simp
 have srt:=bx (B0 fs);rw[eg]at srt ej;refine⟨gs,⟨pg.nodup_iff.mpr n1,λx=>by rw[pg.mem_iff];exact m1 x,?_⟩,by rw[pg.length_eq];exact hl,?_⟩;refine XF.mpr ((XF.mp srt).imp_of_mem λ{a b} ha hb h=>(C7 (hg a ha) (hg b hb)).mpr h);have ef:KA [.lst (rs.map VV),.lst (ps.map aaa),.lst [],.lst [.tup []]]=U (.lst (gs.map (fL (uL ps))),L):=by
  rw[aw (f:=KA) (δ:=[U (.lst (rs.map VV),Y),U (.lst (ps.map aaa),Y),U (.lst [],Y),U (.lst [.tup []],Y),M,M]) rfl rfl rfl];have el:Hv [.lst (ps.map aaa)]=U (.lst ((uL ps).map D.str),L):=bg Ih h4;simp only[Du,aaf,aac,Vc,PK,el,aao];rw[aai _ _ _ (by simp)];simp only[WC,aS,aT,aaf,aac,Vc,PK,ej,aao,aaj];rw[aJ (by rw[ZY,aam,pg.length_eq];lia),aW (f:=cD) (h:=fL (uL ps)) λc hc=>by
   unfold aB;have em:aq Y [Y,Y,Y,Y,L,Y] [U (.lst (rs.map VV),Y),U (.lst (ps.map aaa),Y),U (.lst [],Y),U (.lst [.tup []],Y),U (.lst ((uL ps).map D.str),Y),M]=[M,M,M,M,U (.lst ((uL ps).map D.str),Y),M]:=by simp[aq]
   rw[em,aad _ _ _ (by simp)];simp only[PK,aS,aT,aaf,aac,yb,zu (show(uL ps).length<=1000 by lia)]]
  rw[aah];rfl
 rw[aw (f:=HP) (δ:=[U (.lst (rs.map VV),Y),U (.lst (ps.map aaa),Y)]) rfl rfl rfl];simp only[Ep,aaf,aac];rw[aaq [] (by simp),aaz [] (by simp)];simp only[Vc];rw[aaq _ (by simp)];simp only[Vc,PK,ef,aao,aa6,aaG]
def ii{rs:Z9 Row}(Ig:rs.length<=400){ps:Z9 Pat}(Ih:ps.length<=4)(h4:∀p∈ps,p.2.length<=4)(hN:∀k,k<ps.length->rs.length ^ k<=125){wanted:Z9 Str}(hw:wanted.length<=100)(Pq:∀l∈wanted,l∈cm ps):∃fs:Z9 (Z9 Ce),fs.Nodup/\(∀x,x∈fs↔∃φ:Fit,x=wanted.map φ/\∀p∈ps,qK rs φ p)/\fs.length<=50000/\
  J6 [.lst (rs.map VV),.tup [.lst (wanted.map D.str),.lst (ps.map aaa)]]=U (.lst (fs.map cD),L):=by
 obtain⟨fs,h1,h2,ej,h3⟩:=lf Ig Ih h4 hN hw Pq;obtain⟨gs,pg,eg⟩:=cn (aD (fs.map cD));rw[eg]at ej;refine⟨gs,pg.nodup_iff.mpr h1,λx=>by rw[pg.mem_iff];exact h2 x,by rw[pg.length_eq];exact h3,?_⟩;have Vx:KC [.lst (rs.map VV),.lst (ps.map aaa),.lst (wanted.map D.str)]=U (.lst (gs.map cD),L):=by
  rw[aw (f:=KC) (δ:=[U (.lst (rs.map VV),Y),U (.lst (ps.map aaa),Y),U (.lst (wanted.map D.str),Y)]) rfl rfl rfl];simp only[Er,aaf,aac];rw[aaq [] (by simp),aaz [] (by simp)];simp only[Vc];rw[aaq _ (by simp)];simp only[Vc,PK,ej,aao,aa6,aaG]
 rw[aw (f:=J6) (δ:=[U (.lst (rs.map VV),Y),U (.tup [.lst (wanted.map D.str),.lst (ps.map aaa)],Y)]) rfl rfl rfl];simp only[D9,aaf,aac];simp[Vx,at0,at1]
end K14
namespace K14
open PySem L2 JP
variable[Lams]
def fN(r:Row)(n:Nat):okD (n+3) (VV r)=L:=by
 simp only[VV,okD,mq,List.all_nil,Yb,Yc,WG,ZW];intro c _;cases c<;>simp[ceD,okD]
def Dt(rs:Z9 Row):okD 16 (.lst (rs.map VV))=L:=by
 simp only[okD,WG,ZW];intro r _;exact fN r 12
open Classical in
def dX(c j:Int):Int:=((c*(2*j+3)+j)%2147483629*((c*(2*j+3)+j)%2147483629)+1)*48271%2147483629
def bf(c j:Int):0<=dX c j:=by unfold dX;lia
def EY(c j:Int):dX c j<2147483629:=by unfold dX;lia
def bW(c j:Int)(h0: -1000<=j)(h1:j<=1000):r_ [.int c,.int j]=U (.int (dX c j),Y):=by
 rw[aw (f:=r_) (δ:=[U (.int c,Y),U (.int j,Y),M]) rfl rfl rfl];have e1:(0:Int)<=(c*(2*j+3)+j)%2147483629:=by lia
 have e2:(c*(2*j+3)+j)%2147483629<2147483629:=by lia
 simp[EF,abb c (2*j+3) (by lia),abb ((c*(2*j+3)+j)%2147483629) ((c*(2*j+3)+j)%2147483629) (by lia),dX]
def eG:Str.length "abcdefghijklmnopqrstuvwxyz"=26:=by decide +kernel
def vV(c:Int):∃ws:Z9 Str,ws.length=6/\Kv [.int c]=U (.lst (ws.map .str),L):=by
 have m1:=bf c 1;generalize hsz:2+dX c 1%6=sz;have Iq:2<=sz:=by lia
 have V9:sz<=7:=by lia
 obtain⟨g,eg,gl,gp⟩:=cY (ds:=fg 0 sz.toNat) (P:=λ_ y=>∃x:Str,x.length=1/\y=.str x)
  (h:=aB (aa 6) (λδ=>U L) uk [U (.int c,Y),U (.str "abcdefghijklmnopqrstuvwxyz",Y),M,M,M,M,M,M]) λd hd=>by
   obtain⟨i,hi,rfl⟩:=c6 hd;have h0:=bf c (2+(0+(i:Int)));obtain⟨x,hx,ex⟩:=fz "abcdefghijklmnopqrstuvwxyz" (dX c (2+(0+(i:Int)))%26) (by rw[eG];decide) (by lia) (by rw[eG];lia);refine⟨.str x,?_,x,hx,rfl⟩;simp[aB,uk];rw[bW c _ (by lia) (by lia),aar,aas _ _ (by decide)];have e0:(0:Int)+(i:Int)=i:=by lia
   rw[e0]at ex;rw[ex]
 obtain⟨ss,rfl,Pz⟩:=qN (Q:=λx=>x.length=1) gl gp λd y hz=>by obtain⟨x,hx,e⟩:=hz;exact⟨x,e,hx⟩
 rw[bb,ZY]at gl;have hj:=AO "" ss (by rw[nz Pz,show Str.length ""=0 by decide +kernel];lia);have UB:(Txt.join "" ss).length=ss.length:=by rw[tJ,nz Pz]
 generalize Txt.join "" ss=Ia at hj UB;have m9:=bf c 9;generalize Jg:dX c 9%sz=at';have UY:0<=at':=by rw[<-Jg];exact Int.emod_nonneg _ (by lia)
 have ha1:at'<sz:=by rw[<-Jg];exact Int.emod_lt_of_pos _ (by lia)
 have SI:Ia.length<=7:=by lia
 obtain⟨f_,el,fs,OA,x6,x7,rfl⟩:=cO (body:=λd δ=>ae ((aa 6) d δ) rK) (λpre δ=>∃fs:Z9 Str,fs.length=pre.length/\∃x6 x7,
   δ=[U (.int c,Y),U (.str "abcdefghijklmnopqrstuvwxyz",Y),U (.int sz,Y),U (.str Ia,Y),U (.int at',Y),U (.lst (fs.map D.str),L),x6,x7]) (fg 0 4) []
  [U (.int c,Y),U (.str "abcdefghijklmnopqrstuvwxyz",Y),U (.int sz,Y),U (.str Ia,Y),U (.int at',Y),U (.lst [],L),M,M] ⟨[],rfl,M,M,rfl⟩
  λp d q δ Jw hz=>by
   obtain⟨fs,Sd,x6,x7,e⟩:=hz;have hd:d∈fg 0 4:=by
    rw[List.nil_append]at Jw;rw[<-Jw];simp
   have hp:p.length<4:=by
    have:=congrArg List.length Jw;rw[List.nil_append,bb]at this;simp at this;lia
   obtain⟨i,hi,rfl⟩:=c6 hd;subst e;obtain⟨y,hy,ey⟩:=fz Ia at' (by have:lim=1000000:=rfl;lia) UY (by lia);obtain⟨z,hz,ez⟩:=fz "abcdefghijklmnopqrstuvwxyz" ((Txt.find "abcdefghijklmnopqrstuvwxyz" y+7*(0+(i:Int)))%26) (by rw[eG];decide) (by lia) (by rw[eG];lia);have c1:=jt Ia M (U at');have c2:=jt Ia (U (at'+1)) M;have E_:lim=1000000:=rfl;refine⟨_,.inl ?_,fs++[u8 Ia M (U at')++z++u8 Ia (U (at'+1)) M],by simp[Sd],U (.int (0+(i:Int)),Y),U (.str z,Y),rfl⟩;have e0:(0:Int)+(i:Int)=i:=by lia
   rw[e0]at ez⊢;simp[rK,ey,ez];rw[abv _ _ _ (by lia),abv _ _ _ (by lia),abM _ _ (by lia),abM _ _ (by rw[Str.length_append];lia)];rw[jz (ds:=fs.map D.str) _ (by rfl) (by rw[ZY];lia)];simp
 rw[List.nil_append,bb]at OA;have V5:=bf c 10;obtain⟨z,hz,ez⟩:=fz "abcdefghijklmnopqrstuvwxyz" (dX c 10%26) (by rw[eG];decide) (by lia) (by rw[eG];lia);refine⟨fs++[Ia++z,u8 Ia M (U (sz - 1))],by simp[OA],?_⟩;rw[aw (f:=Kv) (δ:=[U (.int c,Y),M,M,M,M,M,M,M]) rfl rfl rfl];simp[EO];rw[bW c 1 (by lia) (by lia),aar,aas _ _ (by decide),aaS,hsz];simp;rw[gv sz (by lia),PK,aJ (by rw[bb,aam];lia)];simp[aq];rw[eg,aah,hj];simp;rw[bW c 9 (by lia) (by lia),aar,aas _ _ (by lia),Jg];simp;rw[gv 4 (by lia),PK];rw[show(4:Int).toNat=4 from rfl];rw[el];simp[yF];have E_:lim=1000000:=rfl;rw[bW c 10 (by lia) (by lia),aar,aas _ _ (by decide),ez,abM _ _ (by lia),abv _ _ _ (by lia)];simp;rw[abw _ _ (by simp;lia)];simp
def sY:Str.length "ABCDEFGHIJKLMNOPQRSTUVWXYZ"=26:=by decide +kernel
def qH(c:Int):∃ws:Z9 Str,ws.length=4/\Kt [.int c]=U (.lst (ws.map .str),L):=by
 have m1:=bf c 13;have m2:=bf c 14;obtain⟨st,HG,_,Vn⟩:=ox (xs:=[D.int 1,.int 3,.int 5,.int 7,.int 9,.int 11]) (i:=dX c 14%6) (by lia) (by simp;lia);obtain⟨sp,M_,V_,rfl⟩:∃sp:Int,0<=sp/\sp<=11/\st=.int sp:=by
  simp at HG;rcases HG with rfl|rfl|rfl|rfl|rfl|rfl<;>exact⟨_,by lia,by lia,rfl⟩
 obtain⟨g,eg,gl,gp⟩:=cY (ds:=fg 0 4) (P:=λ_ y=>∃x:Str,x.length=1/\y=.str x)
  (h:=aB (aa 4) (λδ=>U L) sV [M,U (.str "ABCDEFGHIJKLMNOPQRSTUVWXYZ",Y),U (.int (dX c 13%26),Y),U (.int sp,Y),M]) λd hd=>by
   obtain⟨i,hi,rfl⟩:=c6 hd;obtain⟨x,hx,ex⟩:=fz "ABCDEFGHIJKLMNOPQRSTUVWXYZ" ((dX c 13%26+sp*(0+(i:Int)))%26) (by rw[sY];decide) (by lia) (by rw[sY];lia);refine⟨.str x,?_,x,hx,rfl⟩;have e0:(0:Int)+(i:Int)=i:=by lia
   rw[e0]at ex;simp[aB,sV];rw[abb _ _ (by lia),aaS,aas _ _ (by decide),ex]
 obtain⟨ss,rfl,Pz⟩:=qN (Q:=λx=>x.length=1) gl gp λd y hz=>by obtain⟨x,hx,e⟩:=hz;exact⟨x,e,hx⟩
 rw[bb,ZY]at gl;refine⟨ss,by lia,?_⟩;rw[aw (f:=Kt) (δ:=[U (.int c,Y),M,M,M,M]) rfl rfl rfl];have E_:lim=1000000:=rfl;simp[Ex,E_];rw[bW c 13 (by lia) (by lia),aar,aas _ _ (by decide)];simp;rw[bW c 14 (by lia) (by lia),aar,aas _ _ (by decide)];simp;rw[Vn];simp;rw[gv 4 (by lia),PK,aJ (by rw[bb];decide)];simp[aq];rw[eg];simp
theorem oS(x:D):∀l:Z9 D,(mi x l).length=l.length+1
 |[]=>rfl
 |y::ys=>by
  unfold mi;split;simp[oS x ys];simp
theorem nE:∀{l:Z9 D},z∈mi x l->z=x\/z∈l
 |[],h=>by simpa[mi]using h
 |y::ys,h=>by
  unfold mi at h;split at h;rcases Z0.mp h with h|h;exact .inr (Z0.mpr (.inl h));rcases nE h with h|h;exact .inl h;exact .inr (Z1 _ h);rcases Z0.mp h with h|h;exact .inl h;exact .inr h
theorem sO:∀l:Z9 D,(b7 l).length=l.length
 |[]=>rfl
 |x::l=>by show(mi x (b7 l)).length=_;rw[oS,sO l];rfl
theorem rM:∀{l:Z9 D},z∈b7 l->z∈l
 |[],h=>h
 |x::l,h=>by
  rcases nE (show z∈mi x (b7 l) from h)with h|h;exact Z0.mpr (.inl h);exact Z1 _ (rM h)
def ud{ws:Z9 Str}{i:Int}(h0:0<=i)(h1:i<ws.length):∃w,atI (ws.map D.str) i=U (.str w):=by
 obtain⟨v,hv,_,e⟩:=ox (xs:=ws.map D.str) h0 (by simpa using h1);obtain⟨w,_,rfl⟩:=ZV.mp hv;exact⟨w,e⟩
def rY{α:Type}{F:α->D}{P:D->D->Prop}{ds g:Z9 D}{Q:α->Prop}(hl:g.length=ds.length)(h:∀(i:Nat) d,ds[i]?=U d->∃y,g[i]?=U y/\P d y)(hP:∀d y,P d y->∃x,y=F x/\Q x):∃ss:Z9 α,g=ss.map F/\∀x∈ss,Q x:=by
 have hy:∀y∈g,∃x,y=F x/\Q x:=λy hy=>by
  obtain⟨i,hi,e⟩:=YZ.mp hy;obtain⟨z,ez,p⟩:=h i (ds[i]'(by lia)) (by simp[show i<ds.length by lia]);rw[YV hi]at ez;obtain rfl:=Z8 ez;rw[<-e];exact hP _ _ p
 clear h hl
 induction g with
 |nil=>exact⟨[],rfl,by simp⟩
 |cons y g ih=>
  obtain⟨x,e,q⟩:=hy y (ZX ..);obtain⟨ss,e2,q2⟩:=ih λz hz=>hy z (Z1 _ hz);refine⟨x::ss,by rw[e,e2];rfl,λz hz=>?_⟩;rcases Z0.mp hz with hz|hz
  rw[hz];exact q;exact q2 z hz
def Dm(ns:Z9 Int)(l u:Z7 Int):∃cs:Z9 Int,tN (ns.map D.int) l u=cs.map D.int/\cs.length<=ns.length:=by
 unfold tN;refine⟨_,by rw[<-List.map_drop,<-List.map_take],?_⟩;simp;lia
def Bv(n:Nat)(r q:Row):(ltD (n+3) (VV r) (VV q)).isSome=L:=by
 show(bX (ltD (n+2)) [.str r.1,.tup (r.2.map ceD)] [.str q.1,.tup (q.2.map ceD)]).isSome=L;unfold bX;split;unfold bX;split;rfl;show(bX (ltD (n+1)) (r.2.map ceD) (q.2.map ceD)).isSome=L;refine dR λx hx y hy=>?_;obtain⟨c,_,rfl⟩:=ZV.mp hx;obtain⟨e,_,rfl⟩:=ZV.mp hy;exact zT n c e;rfl
def ny(rs:Z9 Row):cG (rs.map VV)=L:=by
 unfold cG;rw[ZW];intro x hx;obtain⟨r,_,rfl⟩:=ZV.mp hx;rw[ZK];refine⟨fN r 12,?_⟩;rw[ZW];intro y hy;obtain⟨q,_,rfl⟩:=ZV.mp hy;exact Bv 12 r q
def tR(rs:Z9 Row):(rs.map VV).all (de .ts)=L:=by
 rw[ZW];intro x hx;obtain⟨r,_,rfl⟩:=ZV.mp hx;rfl
def v0{α:Type}{F:α->D}{P:α->Prop}(h:∀x∈l,∃a,P a/\x=F a):∃as:Z9 α,l=as.map F/\∀a∈as,P a:=by
 induction l with
 |nil=>exact⟨[],rfl,by simp⟩
 |cons x l ih=>
  obtain⟨a,pa,e⟩:=h x (ZX ..);obtain⟨as,e2,Tu⟩:=ih λy hy=>h y (Z1 _ hy);refine⟨a::as,by rw[e,e2];rfl,λb hb=>?_⟩;rcases Z0.mp hb with rfl|hb
  exact pa;exact Tu b hb
def iV(h:VV r=VV q):r=q:=by
 obtain⟨a,c⟩:=r;obtain⟨b,d⟩:=q;simp only[VV,D.tup.injEq,Yg,D.str.injEq,and_true]at h;rw[h.1,i8 (f:=ceD) (λ_ _=>cw) h.2]
def wQ(rs:Z9 Row)(h:rs.length<64):∃fs:Z9 Row,(∀r,r∈fs↔r∈rs)/\fs.length<=rs.length/\Kr [.lst (rs.map VV)]=U (.lst (fs.map VV),L):=by
 obtain⟨ss,Q9,es⟩:=cn (aD (rs.map VV));have ML:=Q9.length_eq;have loop:∀(qs fs:Z9 Row)(x2:Z7 (D×Bool)),fs.length+qs.length<64->∃(JR:Z9 Row)(y2:Z7 (D×Bool)),(∀r,r∈JR↔r∈fs\/r∈qs)/\JR.length<=fs.length+qs.length/\
   am (λd δ=>ae ((aa 2) d δ) mZ) (qs.map VV) [U (.lst (rs.map VV),Y),U (.lst (fs.map VV),L),x2]=U (.next [U (.lst (rs.map VV),Y),U (.lst (JR.map VV),L),y2]):=by
  intro qs
  induction qs with
  |nil=>intro fs x2 _;exact⟨fs,x2,λr=>by simp,by simp,rfl⟩
  |cons q qs ih=>
   intro fs x2 hl;rw[bO]at hl;have Ja:inO (U (VV q)) (U (.lst (fs.map VV)))=U (decide (VV q∈fs.map VV)):=by
    unfold inO;simp only[aQ];rw[ZO];rw[fN q 13,Yc,ZW];intro x hx;obtain⟨r,_,rfl⟩:=ZV.mp hx;exact fN r 13
   by_cases hm:VV q∈fs.map VV
   .obtain⟨JR,y2,h1,h2,h3⟩:=ih fs (U (VV q,Y)) (by lia)
    have hq:q∈fs:=by obtain⟨r,hr,e⟩:=ZV.mp hm;rw[<-iV e];exact hr
    refine⟨JR,y2,λr=>?_,by rw[bO];lia,?_⟩;rw[h1,Z0];constructor
    rintro(z|z)
    exact .inl z;exact .inr (.inr z)
    rintro(z|rfl|z)
    exact .inl z;exact .inl hq;exact .inr z
    .rw[Z2,<-h3]
     conv=>lhs;unfold am
     simp[mZ,bw,Ja,hm]
   .obtain⟨JR,y2,h1,h2,h3⟩:=ih (fs++[q]) (U (VV q,Y)) (by simp;lia)
    refine⟨JR,y2,λr=>?_,by simp at h2⊢;lia,?_⟩;rw[h1,Zt,ZC,Z0,or_assoc]
    .rw[Z2,<-h3]
     conv=>lhs;unfold am
     have KU:decide (VV q∈fs.map VV)=Y:=ZE hm;simp only[mZ,bw,aad,aaf,aac,ab3,bO,gC,aS,aT,PK,Yd,Nat.reduceAdd,Nat.reduceLT,Ja,KU,abq,X5,abo,CU,aaR,aaQ];rw[ZO (by rw[ZY,aam];lia)];simp
 obtain⟨fs,y2,h1,h2,h3⟩:=loop ss [] M (by simp;lia);refine⟨fs,λr=>by rw[h1,<-Q9.mem_iff];simp,by simp at h2;lia,?_⟩;rw[aw (f:=Kr) (δ:=[U (.lst (rs.map VV),Y),M,M]) rfl rfl rfl];have Uc:jx .ts (U (.lst (rs.map VV)))=U (.lst (ss.map VV)):=by
  rw[nV (ny rs) (.inr (tR rs)),es]
 simp only[Ez,aac];rw[aaq [] (by simp),aaA _ _ _ (by simp)];simp only[WC,aS,aT,aac,Uc,aaj,PK];rw[YO]at h3;rw[h3];simp only[WC,aaQ,aaR,aa6,aaG]
def aX(ws:Z9 Str)(st sp:Int):D:=.tup [.lst (ws.map .str),.int st,.int sp]
def wD(c:Int):∃ws st sp,ws.length=6/\0<=st/\st<400000/\1<=sp/\sp<=50000/\Ku [.int c]=U (aX ws st sp,Y):=by
 obtain⟨ws,hw,ew⟩:=vV c;have m1:=bf c 11;have m2:=bf c 12;refine⟨ws,dX c 11%400000,1+dX c 12%50000,hw,by lia,by lia,by lia,by lia,?_⟩;rw[aw (f:=Ku) (δ:=[U (.int c,Y)]) rfl rfl rfl];simp[ET,ew];rw[bW c 11 (by lia) (by lia),bW c 12 (by lia) (by lia)];simp[aX]
def rX{ws:Z9 Str}{st sp:Int}(hw:ws.length=6)(h0:0<=st)(h1:st<400000)(h2:1<=sp)(h3:sp<=50000)(c:Int)(hc:0<=c):∃e:Ce,IT [aX ws st sp,.int c]=U (ceD e,Y):=by
 obtain⟨w,ew⟩:=ud (ws:=ws) (i:=c / 2%6) (by lia) (by lia);by_cases hm:c%2=0;refine⟨.bk (st+sp*(c / 2%12)),?_⟩;rw[aw (f:=IT) (δ:=[U (aX ws st sp,Y),U (.int c,Y),M,M,M]) rfl rfl rfl];simp[Dr,aX,hm];rw[abb sp _ (by lia)];simp[ceD];refine⟨.nm w,?_⟩;rw[aw (f:=IT) (δ:=[U (aX ws st sp,Y),U (.int c,Y),M,M,M]) rfl rfl rfl];simp[Dr,aX,hm];rw[ew];simp[ceD]
def CW{ws:Z9 Str}{st sp:Int}(hw:ws.length=6)(h0:0<=st)(h1:st<400000)(h2:1<=sp)(h3:sp<=50000)(c:Int):∃r:Row,r.2.length<=3/\Ks [aX ws st sp,.int c]=U (VV r,Y):=by
 have m1:=bf c 1;have m2:=bf c 2;generalize hsz:1+dX c 1%3=sz;obtain⟨t,et⟩:=ud (ws:=ws) (i:=dX c 2%2) (by lia) (by lia);have Vk:atI [D.lst (ws.map .str),.int st,.int sp] 0=U (.lst (ws.map .str)):=rfl;obtain⟨g,eg,gl,gp⟩:=cY (ds:=fg 0 sz.toNat) (P:=λ_ y=>∃e:Ce,True/\y=ceD e)
  (h:=aB (aa 4) (λδ=>U L) tX [U (aX ws st sp,Y),U (.int c,Y),M,M,M]) λd hd=>by
   obtain⟨i,hi,rfl⟩:=c6 hd;obtain⟨e,ee⟩:=rX hw h0 h1 h2 h3 (dX c (3+(0+(i:Int)))) (bf _ _);refine⟨ceD e,?_,e,trivial,rfl⟩;have e0:(0:Int)+(i:Int)=i:=by lia
   rw[e0]at ee⊢;simp[aB,tX];rw[bW c _ (by lia) (by lia)];simp[ee]
 obtain⟨cs,rfl,OH⟩:=rY (F:=ceD) (Q:=λ_=>True) gl gp λd y hz=>by obtain⟨e,a,b⟩:=hz;exact⟨e,b,a⟩
 rw[bb,ZY]at gl;refine⟨(t,cs),by simp only;lia,?_⟩;rw[aw (f:=Ks) (δ:=[U (aX ws st sp,Y),U (.int c,Y),M,M,M]) rfl rfl rfl];simp[DL];rw[bW c 1 (by lia) (by lia),aar,aas _ _ (by decide),aaS,hsz];simp;rw[gv sz (by lia),PK,aJ (by rw[bb,aam];lia)];simp[aq];rw[eg];simp[yg,aX,Vk];rw[bW c 2 (by lia) (by lia),aar,aas _ _ (by decide),abF,et];simp[VV]
end K14
namespace K14
open PySem L2 JP
variable[Lams]
def GJ(a b:D)(i j:Nat)(δ:Mk)(hi:i<δ.length)(hj:j<δ.length):xI (U (.tup [a,b])) (aO (aj (aa i) (aj (aa j) (aak)))) δ=U (.next ((δ.set i (U (a,Y))).set j (U (b,Y)))):=by
 unfold xI;simp only[aaE,aaw,aaF,aad i a δ hi,PK];rw[aad j b _ (by simpa using hj)];rfl
def Fz:¬(Str.ofString "blank")=(Str.ofString "any"):=by decide +kernel
def De(c:Ce)(d:Int)(l:Str):Te:=match c with|.bk _=>.any l|.nm w=>if d%2=1 then .any l else .nm w
def vt{ls:Z9 Str}(hl:ls.length=4)(c:Int)(a2 a4:Z7 (D×Bool))(cs:Z9 Ce)(OH:cs.length<=4):∃ts:Z9 Te,ts.length=cs.length/\∃x7 x8,
  am (λd δ=>ae ((aa 6) d δ) nB) (fg 0 cs.length) [U (.lst (ls.map .str),Y),a2,U (.int c,Y),a4,U (.tup (cs.map ceD),Y),U (.lst [],L),M,M]=
   U (.next [U (.lst (ls.map .str),Y),a2,U (.int c,Y),a4,U (.tup (cs.map ceD),Y),U (.lst (ts.map teD),L),x7,x8]):=by
 obtain⟨f_,el,ts,s_,x7,x8,rfl⟩:=cO (body:=λd δ=>ae ((aa 6) d δ) nB) (λpre δ=>∃ts:Z9 Te,ts.length=pre.length/\∃x7 x8,
   δ=[U (.lst (ls.map .str),Y),a2,U (.int c,Y),a4,U (.tup (cs.map ceD),Y),U (.lst (ts.map teD),L),x7,x8]) (fg 0 cs.length) []
  [U (.lst (ls.map .str),Y),a2,U (.int c,Y),a4,U (.tup (cs.map ceD),Y),U (.lst [],L),M,M] ⟨[],rfl,M,M,rfl⟩
  λp d q δ Jw hz=>by
   obtain⟨ts,Ih,x7,x8,e⟩:=hz;have hd:d∈fg 0 cs.length:=by
    rw[List.nil_append]at Jw;rw[<-Jw];simp
   have hp:p.length<4:=by
    have:=congrArg List.length Jw;rw[List.nil_append,bb]at this;simp at this;lia
   obtain⟨i,hi,rfl⟩:=c6 hd;subst e;have e0:(0:Int)+(i:Int)=i:=by lia
   rw[e0];have h0:=bf c (17+(i:Int));obtain⟨l,el⟩:=ud (ws:=ls) (i:=dX c (17+(i:Int)) / 2%4) (by lia) (by lia);have hc:atI (cs.map ceD) (i:Int)=U (ceD cs[i]):=oU (by lia) (by simp[hi]);have hm:=bW c (17+(i:Int)) (by lia) (by lia);have ap:∀(t:Te)(x7 x8:Z7 (D×Bool)),lC 5 (U (teD t)) [U (.lst (ls.map .str),Y),a2,U (.int c,Y),a4,U (.tup (cs.map ceD),Y),U (.lst (ts.map teD),L),x7,x8]=U (.next [U (.lst (ls.map .str),Y),a2,U (.int c,Y),a4,U (.tup (cs.map ceD),Y),U (.lst ((ts++[t]).map teD),L),x7,x8]):=λt x7 x8=>by
    rw[jz (ds:=ts.map teD) _ (by rfl) (by rw[ZY,aam];lia)];simp
   refine⟨_,.inl ?_,ts++[De cs[i] (dX c (17+(i:Int))) l],by simp[Ih],U (.int i,Y),U (.int (dX c (17+(i:Int))),Y),rfl⟩;simp only[aad,bO,gC,Nat.reduceAdd,Nat.reduceLT,PK,aS,aT,nB,aaf,aac,aaS,Vc,hm,aar,aai,WC,ab8,hc,abF,aas _ _ (show(0:Int)<2 by lia),aas _ _ (show(0:Int)<4 by lia),ab_ _ _ (show(0:Int)<2/\(2:Int)<1073741824 by lia),el];rw[aaz _ (by simp)];have ta:(.tup [.str "any",.str l]:D)=teD (.any l):=rfl;rw[ta,ap];cases hci:cs[i]with
   |bk n=>
    have:eqO (ixO (U (ceD (.bk n))) (U (.int 0))) (U (.str "blank"))=U L:=by simp[ceD,at0,bJ]
    rw[this];simp[De]
   |nm w=>
    have:eqO (ixO (U (ceD (.nm w))) (U (.int 0))) (U (.str "blank"))=U Y:=by simp[ceD,at0,bJ,nb]
    rw[this];have tn:ceD (.nm w)=teD (.nm w):=rfl;rw[tn,ap];by_cases hm:dX c (17+(i:Int))%2=1;simp[hm,De];simp[hm,De]
 rw[List.nil_append,bb]at s_;exact⟨ts,s_,x7,x8,el⟩
def gN{ls:Z9 Str}(hl:ls.length=4)(hn:rs≠[])(Ig:rs.length<=63)(h4:∀r∈rs,r.2.length<=3)(c:Int):∃p:Pat,p.2.length<=4/\J4 [.lst (ls.map .str),.lst (rs.map VV),.int c]=U (aaa p,Y):=by
 have V4:=bf c 16;have VR:0<rs.length:=List.length_pos_iff.mpr hn;have a0:(0:Int)<=dX c 16%(rs.length:Int):=Int.emod_nonneg _ (by lia);have a1:dX c 16%(rs.length:Int)<rs.length:=Int.emod_lt_of_pos _ (by lia);obtain⟨v,hv,_,ev⟩:=ox (xs:=rs.map VV) a0 (by simpa using a1);obtain⟨r,hr,rfl⟩:=ZV.mp hv;have h3:=h4 r hr;obtain⟨ts,ht,x7,x8,el⟩:=vt hl c (U (.lst (rs.map VV),Y)) (U (.str r.1,Y)) r.2 (by lia);refine⟨(r.1,ts),by simp only;lia,?_⟩;rw[aw (f:=J4) (δ:=[U (.lst (ls.map .str),Y),U (.lst (rs.map VV),Y),U (.int c,Y),M,M,M,M,M]) rfl rfl rfl];simp only[Eg,aaf,aac,Vc,PK,bW c 16 (by lia) (by lia),aar,abr,ZY,aas _ _ (show(0:Int)<rs.length by lia),abF,ev];have Vp:VV r=.tup [.str r.1,.tup (r.2.map ceD)]:=rfl;rw[Vp,GJ _ _ _ _ _ (by simp) (by simp)];simp only[WC,aS,aT,aaf,aac];rw[aaq _ (by simp),aaA _ _ _ (by simp)];simp only[WC,aS,aT,aaf,aac,ab7,ZY];rw[gv _ (by lia),PK,Int.toNat_natCast,el];simp only[WC,abc,abd,yc,aaf,aac,aa4,Vc];rw[aaz _ (by simp)];rfl
abbrev Mv:=Z9 (Int×Ce)
def mvD(q:Int×Ce):D:=.tup [.int q.1,ceD q.2]
def led(mv:Mv)(c:Ce):Ce:=match mv.find? (λq=>decide (c=.bk q.1))with|some q=>q.2|none=>c
def Bp(mv:Mv)(w:Str):led mv (.nm w)=.nm w:=by
 unfold led;rw[Xs.mpr λq _=>by simp]
theorem nG(c:Ce)(a0:Z7 (D×Bool)):∀(mv:Mv)(x2 x3:Z7 (D×Bool)),
  (match mv.find? (λq=>decide (c=.bk q.1))with
  |some q=>am (λd δ=>ae ((aO (aj (aa 2) (aj (aa 3) (aak)))) d δ) im) (mv.map mvD) [a0,U (ceD c,Y),x2,x3]=U (.ret (ceD q.2) Y)
  |none=>∃y2 y3,am (λd δ=>ae ((aO (aj (aa 2) (aj (aa 3) (aak)))) d δ) im) (mv.map mvD) [a0,U (ceD c,Y),x2,x3]=U (.next [a0,U (ceD c,Y),y2,y3]))
 |[],x2,x3=>⟨x2,x3,rfl⟩
 |q::mv,x2,x3=>by
  have ih:=nG c a0 mv (U (.int q.1,Y)) (U (ceD q.2,Y));have e1:eqO (U (ceD c)) (U (.tup [.str "blank",.int q.1]))=U (decide (c=.bk q.1)):=BQ c (.bk q.1);have es:am (λd δ=>ae ((aO (aj (aa 2) (aj (aa 3) (aak)))) d δ) im) ((q::mv).map mvD) [a0,U (ceD c,Y),x2,x3]=
    if c=.bk q.1 then U (.ret (ceD q.2) Y) else am (λd δ=>ae ((aO (aj (aa 2) (aj (aa 3) (aak)))) d δ) im) (mv.map mvD) [a0,U (ceD c,Y),U (.int q.1,Y),U (ceD q.2,Y)]:=by
   rw[Z2]
   conv=>lhs;unfold am
   simp only[mvD,aaE,aaw,aaF,aad,Zi,bO,gC,PK,aS,aT,Nat.reduceAdd,Nat.reduceLT,im,aaf,aac,Vc];rw[aaz _ (by simp),e1];by_cases h:c=.bk q.1;simp[h];simp[h]
  rw[List.find?_cons,es];by_cases h:c=.bk q.1;rw[Zw h,ZO h];rw[ZE h,ZJ h];exact ih
def yB(mv:Mv)(c:Ce):JZ [.lst (mv.map mvD),ceD c]=U (ceD (led mv c),Y):=by
 rw[aw (f:=JZ) (δ:=[U (.lst (mv.map mvD),Y),U (ceD c,Y),M,M]) rfl rfl rfl];have:=nG c (U (.lst (mv.map mvD),Y)) mv M M;simp only[EG,aaf,aac,aaj,PK];unfold led;cases e:mv.find? (λq=>decide (c=.bk q.1))with
 |some q=>rw[e]at this;simp only at this;rw[this];rfl
 |none=>
  rw[e]at this;obtain⟨y2,y3,this⟩:=this;rw[this];simp only[WC,aaf,aac,aa3,aaG]
def nkM(mv:Mv):Prop:=(mv.map (·.1)).Nodup
def wA{st sp:Int}(hw:ws.length=6)(h0:0<=st)(h1:st<400000)(h2:1<=sp)(h3:sp<=50000)(c:Int):∃mv:Mv,nkM mv/\mv.length<=12/\Kq [aX ws st sp,.int c]=U (.lst (mv.map mvD),L):=by
 obtain⟨f_,el,mv,hlen,MN,j_,x3,x4,rfl⟩:=cO (body:=λd δ=>ae ((aa 3) d δ) nO) (λpre δ=>∃mv:Mv,mv.length<=pre.length/\nkM mv/\(∀q∈mv,q.1<st+sp*pre.length)/\∃x3 x4,
   δ=[U (aX ws st sp,Y),U (.int c,Y),U (.lst (mv.map mvD),L),x3,x4]) (fg 0 12) []
  [U (aX ws st sp,Y),U (.int c,Y),U (.lst [],L),M,M] ⟨[],by simp,Yr,by simp,M,M,rfl⟩
  λp d q δ Jw hz=>by
   obtain⟨mv,hl,MN,j_,x3,x4,rfl⟩:=hz;have hp:p.length<12:=by
    have:=congrArg List.length Jw;rw[List.nil_append,bb]at this;simp at this;lia
   have hd:d=.int (p.length:Int):=by
    have e:(fg 0 12)[p.length]?=U d:=by rw[List.nil_append]at Jw;rw[<-Jw];simp
    unfold fg at e;rw[YY,List.getElem?_range hp]at e;simp at e;exact e.symm
   subst hd;have h0':=bf c (21+(p.length:Int));obtain⟨e,ee⟩:=rX hw h0 h1 h2 h3 (dX c (21+(p.length:Int)) / 2) (by lia);have Vj:ixO (U (aX ws st sp)) (U (.int 1))=U (.int st):=rfl;have Vi:ixO (U (aX ws st sp)) (U (.int 2))=U (.int sp):=rfl;have RN:=bW c (21+(p.length:Int)) (by lia) (by lia);have mono:sp*(p.length:Int)<sp*((p.length:Int)+1):=by rw[Int.mul_add,Int.mul_one];lia
   have LF:((p++[D.int (p.length:Int)]).length:Int)=(p.length:Int)+1:=by simp
   by_cases hm:dX c (21+(p.length:Int))%2=0;refine⟨_,.inl ?_,mv++[(st+sp*(p.length:Int),e)],by simp;lia,?_,?_,U (.int (p.length:Int),Y),U (.int (dX c (21+(p.length:Int))),Y),rfl⟩;simp only[aad,bO,gC,Nat.reduceAdd,Nat.reduceLT,PK,aS,aT,nO,aaf,aac,aaS,Vc,RN,aar,aai,WC,aas _ _ (show(0:Int)<2 by lia),abt,hm,W3,abo,Vj,Vi,ab_ _ _ (show(0:Int)<2/\(2:Int)<1073741824 by lia),ee];rw[abb sp _ (by lia),aaS];simp only[Vc];rw[aaz _ (by simp),jz (ds:=mv.map mvD) _ rfl (by rw[ZY,aam];lia)];simp[mvD];unfold nkM at*;rw[YU,XZ];refine⟨MN,by simp,λa ha b hb e=>?_⟩;simp at hb;obtain⟨q,hq,rfl⟩:=ZV.mp ha;have:=j_ q hq;subst hb;exact absurd e (Int.ne_of_lt this);intro q hq;rw[LF];rcases Zt.mp hq with hq|hq;have:=j_ q hq;lia;rw[ZC.mp hq];simp only;lia;refine⟨_,.inl ?_,mv,by simp;lia,MN,?_,U (.int (p.length:Int),Y),U (.int (dX c (21+(p.length:Int))),Y),rfl⟩;simp only[aad,bO,gC,Nat.reduceAdd,Nat.reduceLT,PK,aS,aT,nO,aaf,aac,aaS,Vc,RN,aar,aai,WC,aas _ _ (show(0:Int)<2 by lia),abt,hm,decide_false,aa2,aay];intro q hq;have:=j_ q hq;rw[LF];lia
 rw[List.nil_append,bb]at hlen;refine⟨mv,MN,by lia,?_⟩;rw[aw (f:=Kq) (δ:=[U (aX ws st sp,Y),U (.int c,Y),M,M,M]) rfl rfl rfl];simp only[EL];rw[aaq _ (by simp),aaA _ _ _ (by simp)];simp only[WC,aS,aT];rw[gv 12 (by lia),PK,show(12:Int).toNat=12 from rfl,el];simp only[WC,aaQ,aaR,aa6,aaG]
end K14
namespace K14
open PySem L2 JP
variable[Lams]
def wV(xs:Z9 Int)(k:Nat):tN (xs.map D.int) M (U (k:Int))=(xs.take k).map D.int:=by
 unfold tN;rw[HT.abP,HT.abC,List.drop_zero,Nat.sub_zero,<-List.map_take,ZY];congr 1;by_cases h:xs.length<=k;rw[Nat.min_eq_right h,Yv h,Yv (ZU _)];rw[WA (by lia)]
def j8(h:∀d∈ds,okD n d=L):okD (n+1) (.lst ds)=L:=by simp only[okD];exact ZW.mpr h
def EW(n:Nat)(ss:Z9 Str):okD (n+1) (.lst (ss.map D.str))=L:=j8 λd hd=>by obtain⟨s,_,rfl⟩:=ZV.mp hd;cases n<;>rfl
def B9(t:Te)(n:Nat):okD (n+1) (teD t)=L:=by cases t<;>simp[teD,okD]
def DK(n:Nat)(ps:Z9 Pat):okD (n+4) (.lst (ps.map aaa))=L:=j8 λd hd=>by
 obtain⟨p,_,rfl⟩:=ZV.mp hd;simp only[aaa,okD,mq,List.all_nil,Yb,Yc];exact ZW.mpr λx hx=>by obtain⟨t,_,rfl⟩:=ZV.mp hx;exact B9 t n
def Dh(n:Nat)(rs:Z9 Row):okD (n+4) (.lst (rs.map VV))=L:=j8 λd hd=>by obtain⟨r,_,rfl⟩:=ZV.mp hd;exact fN r n
def FX(fs:Z9 (Z9 Ce)):okD 16 (.lst (fs.map cD))=L:=j8 λd hd=>by obtain⟨c,_,rfl⟩:=ZV.mp hd;exact Fh c
def AK(h:okD 16 d=L):eqO (U d) (U d)=U L:=by rw[pD _ _ (by unfold ok2;rw[h];rfl)];simp
def AI(h:okD 16 d=L):neO (U d) (U d)=U Y:=by rw[BH _ _ (by unfold ok2;rw[h];rfl)];simp
end K14
namespace K14
open PySem L2 JP
open L2.G (b0 scD aK cU)
variable[Lams]
theorem tU:∀(ps:Z9 (D×D))(ks vs:Z9 D),(ks++ps.map (·.1)).Nodup->iU ks vs ps=(ks++ps.map (·.1),vs++ps.map (·.2))
 |[],ks,vs,_=>by simp[iU]
 |p::ps,ks,vs,h=>by
  have hn:p.1∉ks:=λz=>by
   rw[Z2,XZ]at h;exact h.2.2 p.1 z p.1 (by simp) rfl
  have h':(ks++[p.1]++ps.map (·.1)).Nodup:=by simpa using h
  unfold iU cR wo;rw[ZJ hn,ZJ hn,tU ps _ _ h'];simp
theorem jH{α:Type}{kf vf:α->D}(hk:∀q,(aR 8 (kf q)&&jr (kf q))=L):∀qs:Z9 α,eI (qs.map λq=>.tup [kf q,vf q])=U (qs.map λq=>(kf q,vf q))
 |[]=>rfl
 |q::qs=>by
  rw[Z2];unfold eI tV;rw[jH hk qs];simp only[hk q,Y_];rfl
def nW{α:Type}{kf vf:α->D}(qs:Z9 α)(hk:∀q,(aR 8 (kf q)&&jr (kf q))=L)(nd:(qs.map kf).Nodup)(hl:qs.length<1000):gX (U (.lst (qs.map λq=>.tup [kf q,vf q])))=U (.dD (qs.map kf) (qs.map vf)):=by
 unfold gX;simp only[jH hk];rw[ZO (by rw[ZY,aam];lia),tU _ [] [] (by simpa[Function.comp_def]using nd)];simp[Function.comp_def]
theorem oF{α:Type}{kf vf:α->D}(k:D):∀qs:Z9 α,bL k (qs.map kf) (qs.map vf)=(qs.find? λq=>decide (kf q=k)).map vf
 |[]=>rfl
 |q::qs=>by
  rw[Z2,Z2,List.find?_cons];unfold bL;by_cases h:kf q=k;rw[ZO h,Zw h];rfl;rw[ZJ h,ZE h];exact oF k qs
def jb{α:Type}{kf vf:α->D}(qs:Z9 α){k:D}(hk:(aR 8 k&&jr k)=L):bY (U (.dD (qs.map kf) (qs.map vf))) (U k) (U k)=U (((qs.find? λq=>decide (kf q=k)).map vf).getD k):=by
 unfold bY bM;simp only[hk,Y_];rw[oF]
def eP(h:∀x∈xs,bY (U (.dD ks vs)) (U x) (U x)=U (g x))(hl:xs.length<=1000):Jr [.tup [t,.tup xs],.dD ks vs]=U (.tup [t,.tup (xs.map g)],Y):=by
 rw[aw (f:=Jr) (δ:=[U (.tup [t,.tup xs],Y),U (.dD ks vs,Y),M]) rfl rfl rfl];have e0:ixO (U (.tup [t,.tup xs])) (U (.int 0))=U t:=by simp[at0]
 have e1:ixO (U (.tup [t,.tup xs])) (U (.int 1))=U (.tup xs):=by simp[at1]
 simp only[D7,aaf,aac,e0,e1,abJ,PK];have em:aq Y [Y,L,Y] [U (.tup [t,.tup xs],Y),U (.dD ks vs,Y),M]=[M,U (.dD ks vs,Y),M]:=by simp[aq]
 have ec:bp (aB (aa 2) (λδ=>U L) qU [M,U (.dD ks vs,Y),M]) (xs.map id)=U (xs.map g):=aW λx hx=>by
  unfold aB;rw[aad _ _ _ (by simp)];simp only[PK,aS,aT,aaf,aac,qU,id,h x hx]
 rw[List.map_id]at ec;rw[aJ (by rw[aam];lia),em,ec,aah];simp only[aa4,Vc];rw[aaz _ (by simp)];rfl
def vv(c:Ce):(aR 8 (ceD c)&&jr (ceD c))=L:=by cases c<;>rfl
def Cg(t:Te):(aR 8 (teD t)&&jr (teD t))=L:=by cases t<;>rfl
def mI(mv:Mv)(r:Row):Row:=(r.1,r.2.map (led mv))
def zp(mv:Mv)(c:Ce):bY (U (.dD (mv.map λq=>ceD (.bk q.1)) (mv.map λq=>ceD q.2))) (U (ceD c)) (U (ceD c))=U (ceD (led mv c)):=by
 rw[jb (kf:=λq:Int×Ce=>ceD (.bk q.1)) (vf:=λq=>ceD q.2) mv (vv c)];unfold led;have:(λq:Int×Ce=>decide (ceD (.bk q.1)=ceD c))=λq=>decide (c=.bk q.1):=funext λq=>X8.mpr ⟨λh=>(cw h).symm,λh=>by rw[h]⟩;rw[this];cases mv.find? λq=>decide (c=.bk q.1)<;>rfl
def wU(r:Row):aR 8 (VV r)=L:=by
 simp only[VV,aR,mq,List.all_nil,Yb,Yc,WG,ZW];intro c _;cases c<;>simp[ceD,aR]
def lL{rs:Z9 Row}(h:rs.length<64):∃fs:Z9 Row,(∀r,r∈fs↔r∈rs)/\fs.length<=rs.length/\KI [.lst (rs.map VV)]=U (.lst (fs.map VV),L):=by
 have hu:=cU (rs.map VV);rw[ZY]at hu;obtain⟨fs,Qj,Sd⟩:=v0 (F:=VV) (l:=b7 (b0 (rs.map VV))) (P:=λ_=>True) λx hx=>by
  obtain⟨r,hr,e⟩:=ZV.mp ((aK _ _).mp ((aD _).mem_iff.mp hx));exact⟨r,trivial,e.symm⟩
 have hl:=(aD (b0 (rs.map VV))).length_eq;rw[Qj,ZY]at hl;refine⟨fs,λr=>?_,by lia,?_⟩;have q:VV r∈fs.map VV↔VV r∈rs.map VV:=by rw[<-Qj,(aD _).mem_iff,aK]
 constructor;intro hr;obtain⟨s,hs,e⟩:=ZV.mp (q.mp (XT hr));rw[<-iV e];exact hs;intro hr;obtain⟨s,hs,e⟩:=ZV.mp (q.mpr (XT hr));rw[<-iV e];exact hs;rw[aw (f:=KI) (δ:=[U (.lst (rs.map VV),Y)]) rfl rfl rfl];simp only[Ek,aac];have es:aaC .ts Y (U (.lst (rs.map VV)))=U (.lst (fs.map VV)):=by
  unfold aaC;dsimp only;rw[ZO,Qj];have hH:(rs.map VV).all (aR 8)=L:=ZW.mpr λx hx=>by obtain⟨r,_,rfl⟩:=ZV.mp hx;exact wU r
  have hS:((rs.map VV).all λd=>scD d==Y)=L:=ZW.mpr λx hx=>by obtain⟨r,_,rfl⟩:=ZV.mp hx;rfl
  rw[ny,tR,hH,hS,Zw (by lia)];rfl
 rw[es];rfl
def vB{rs:Z9 Row}(h:rs.length<64)(h4:∀r∈rs,r.2.length<=4)(nd:nkM mv)(hm:mv.length<=12):∃fs:Z9 Row,(∀r,r∈fs↔∃q∈rs,r=mI mv q)/\fs.length<=rs.length/\KH [.lst (rs.map VV),.lst (mv.map mvD)]=U (.lst (fs.map VV),L):=by
 obtain⟨fs,f1,f2,f3⟩:=lL (rs:=rs.map (mI mv)) (by simpa using h);refine⟨fs,λr=>by rw[f1,ZV];exact⟨λ⟨q,a,b⟩=>⟨q,a,b.symm⟩,λ⟨q,a,b⟩=>⟨q,a,b.symm⟩⟩,by simpa using f2,?_⟩;rw[aw (f:=KH) (δ:=[U (.lst (rs.map VV),Y),U (.lst (mv.map mvD),Y),M,M,M,M]) rfl rfl rfl];simp only[Ec,aaf,aac,aaj,PK];have em:∀a b c d e f:Z7 (D×Bool),aq Y [Y,Y,Y,Y,Y,Y] [a,b,c,d,e,f]=[M,M,M,M,M,M]:=λ_ _ _ _ _ _=>by simp[aq]
 rw[aJ (by rw[ZY,aam];lia),em,aW (f:=mvD) (h:=λq=>.tup [ceD (.bk q.1),ceD q.2]) λq _=>by
  unfold aB;simp only[mvD,aaE,aaw,aaF,aad,Zi,bO,gC,PK,aS,aT,Nat.reduceAdd,Nat.reduceLT,xT,aaf,aac,Vc];rw[aaz _ (by simp)];simp only[Vc];rw[aaz _ (by simp)];rfl]
 rw[aah,nW (kf:=λq:Int×Ce=>ceD (.bk q.1)) (vf:=λq=>ceD q.2) mv (λq=>vv _) (by
  have:=WX (λn:Int=>ceD (.bk n)) (S:=λa b=>a≠b) (λa b HH z=>HH (Ce.bk.inj (cw z))) nd;rw[YN]at this;exact this) (by lia),aai _ _ _ (by simp)]
 simp only[WC,aS,aT,aaf,aac,aaj,PK];have Qi:∀(a b d e f:Z7 (D×Bool))(x:D),aq Y [Y,Y,L,Y,Y,Y] [a,b,U (x,Y),d,e,f]=[M,M,U (x,Y),M,M,M]:=λ_ _ _ _ _ _=>by simp[aq]
 rw[aJ (by rw[ZY,aam];lia),Qi,aW (f:=VV) (h:=λr=>VV (mI mv r)) λr hr=>by
  unfold aB;rw[aad _ _ _ (by simp)];have ex:=eP (t:=.str r.1) (xs:=r.2.map ceD) (ks:=mv.map λq=>ceD (.bk q.1)) (vs:=mv.map λq=>ceD q.2) (g:=λd=>((((mv.find? λq=>decide (ceD (.bk q.1)=d)).map λq=>ceD q.2).getD d))) (λx hx=>by
   obtain⟨c,_,rfl⟩:=ZV.mp hx;exact jb (kf:=λq:Int×Ce=>ceD (.bk q.1)) (vf:=λq=>ceD q.2) mv (vv c)) (by rw[ZY];have:=h4 r hr;lia)
  have eg:(r.2.map ceD).map (λd=>((((mv.find? λq=>decide (ceD (.bk q.1)=d)).map λq=>ceD q.2).getD d)))=(r.2.map (led mv)).map ceD:=by
   rw[YN,YN];refine Y7 λc _=>?_;have:=zp mv c;rw[jb (kf:=λq:Int×Ce=>ceD (.bk q.1)) (vf:=λq=>ceD q.2) mv (vv c)]at this;exact Z8 this
  rw[eg]at ex;have er:VV r=.tup [.str r.1,.tup (r.2.map ceD)]:=rfl;simp only[PK,aS,aT,aaf,aac,yk,Vc,er,ex,aar];rfl]
 have e3:(rs.map λr=>VV (mI mv r))=(rs.map (mI mv)).map VV:=by rw[YN];rfl
 rw[aah,e3];simp only[Vc,PK,f3,aao,aa6,aaG]
end K14
namespace K14
open PySem L2 JP
variable[Lams]
theorem nH{φ:Fit}{l:Str}:∀{us:Z9 Str},l∈us->((us.zip (us.map φ)).find? λq=>decide (teD (.any q.1)=teD (.any l)))=U (l,φ l)
 |u::us,h=>by
  rw[Z2,List.zip_cons_cons,List.find?_cons];by_cases e:u=l;subst e;rw[Zw rfl];rw[ZE λz=>e (by have:=jp z;cases this;rfl)];rcases Z0.mp h with z|z;exact absurd z.symm e;exact nH z
def yh{us:Z9 Str}{φ:Fit}{t:Te}(h:∀l,t=.any l->l∈us):bY (U (.dD ((us.zip (us.map φ)).map λq=>teD (.any q.1)) ((us.zip (us.map φ)).map λq=>ceD q.2))) (U (teD t)) (U (teD t))=U (ceD (ev φ t)):=by
 rw[jb (kf:=λq:Str×Ce=>teD (.any q.1)) (vf:=λq=>ceD q.2) _ (Cg t)];cases t with
 |any l=>rw[nH (h l rfl)];rfl
 |nm w=>
  rw[Xs.mpr λq _=>by
   have:¬teD (.any q.1)=teD (.nm w):=λz=>by cases jp z
   simpa using this]
  rfl
def uj{us:Z9 Str}(nd:us.Nodup)(hu:us.length<=100)(φ:Fit){ps:Z9 Pat}(Ih:ps.length<=4)(h4:∀p∈ps,p.2.length<=4)(hl:∀l∈cm ps,l∈us):
  KG [.lst (ps.map aaa),fL us (us.map φ)]=U (.lst (ps.map λp=>VV (p.1,p.2.map (ev φ))),L):=by
 have ef:fL us (us.map φ)=.lst ((us.zip (us.map φ)).map aax):=rfl;have hz:(us.zip (us.map φ)).length<=100:=by rw[List.length_zip];lia
 rw[aw (f:=KG) (δ:=[U (.lst (ps.map aaa),Y),U (fL us (us.map φ),Y),M,M,M,M]) rfl rfl rfl];rw[ef];simp only[DH,aaf,aac,aaj,PK];have em:∀a b c d e f:Z7 (D×Bool),aq Y [Y,Y,Y,Y,Y,Y] [a,b,c,d,e,f]=[M,M,M,M,M,M]:=λ_ _ _ _ _ _=>by simp[aq]
 rw[aJ (by rw[ZY,aam];lia),em,aW (f:=aax) (h:=λq=>.tup [teD (.any q.1),ceD q.2]) λq _=>by
  unfold aB;simp only[aax,aaE,aaw,aaF,aad,Zi,bO,gC,PK,aS,aT,Nat.reduceAdd,Nat.reduceLT,yw,aaf,aac,Vc];rw[aaz _ (by simp)];simp only[Vc];rw[aaz _ (by simp)];rfl]
 have TN:((us.zip (us.map φ)).map λq=>teD (.any q.1)).Nodup:=by
  have e:((us.zip (us.map φ)).map λq=>teD (.any q.1))=us.map λl=>teD (.any l):=by
   rw[jm,YN];rfl
  rw[e];exact WX _ (λa b HH z=>HH (by have:=jp z;cases this;rfl)) nd
 rw[aah,nW (kf:=λq:Str×Ce=>teD (.any q.1)) (vf:=λq=>ceD q.2) _ (λq=>Cg _) TN (by lia),aai _ _ _ (by simp)];simp only[WC,aS,aT,aaf,aac,aaj,PK];have Qi:∀(a b d e f:Z7 (D×Bool))(x:D),aq Y [Y,Y,L,Y,Y,Y] [a,b,U (x,Y),d,e,f]=[M,M,U (x,Y),M,M,M]:=λ_ _ _ _ _ _=>by simp[aq]
 rw[aJ (by rw[ZY,aam];lia),Qi,aW (f:=aaa) (h:=λp=>VV (p.1,p.2.map (ev φ))) λp hp=>by
  unfold aB;rw[aad _ _ _ (by simp)];have Ja:∀t∈p.2,∀l,t=.any l->l∈us:=λt ht l e=>hl l (dE.mpr ⟨p,hp,by
   have key:∀ts:Z9 Te,Te.any l∈ts->l∈ans ts:=λts=>by
    induction ts with
    |nil=>intro h;cases h
    |cons a ts ih=>
     intro h;rcases Z0.mp h with z|z;subst z;exact ZX ..;cases a with
     |any k=>exact Z1 _ (ih z)
     |nm w=>exact ih z
   exact key p.2 (e▸ht)⟩)
  have ex:=eP (t:=.str p.1) (xs:=p.2.map teD) (ks:=(us.zip (us.map φ)).map λq=>teD (.any q.1)) (vs:=(us.zip (us.map φ)).map λq=>ceD q.2) (g:=λd=>(bY (U (.dD ((us.zip (us.map φ)).map λq=>teD (.any q.1)) ((us.zip (us.map φ)).map λq=>ceD q.2))) (U d) (U d)).getD .non) (λx hx=>by
   obtain⟨t,ht,rfl⟩:=ZV.mp hx;rw[yh (Ja t ht)];rfl) (by rw[ZY];have:=h4 p hp;lia)
  have eg:(p.2.map teD).map (λd=>(bY (U (.dD ((us.zip (us.map φ)).map λq=>teD (.any q.1)) ((us.zip (us.map φ)).map λq=>ceD q.2))) (U d) (U d)).getD .non)=(p.2.map (ev φ)).map ceD:=by
   rw[YN,YN];refine Y7 λt ht=>?_;show(bY _ (U (teD t)) (U (teD t))).getD .non=_;rw[yh (Ja t ht)];rfl
  rw[eg]at ex;have er:aaa p=.tup [.str p.1,.tup (p.2.map teD)]:=rfl;simp only[PK,aS,aT,aaf,aac,xV,Vc,er,ex,aar];rfl]
 rw[aah];rfl
def sB(acc:Z9 Str)(p:Pat):Z9 Str:=acc++(ans p.2).filter λl=>!decide (l∈acc)
def unk(ps:Z9 Pat):Z9 Str:=ps.foldl sB []
theorem m5(l:Str):∀(ps:Z9 Pat)(acc:Z9 Str),l∈ps.foldl sB acc↔l∈acc\/l∈cm ps
 |[],acc=>by simp[cm]
 |p::ps,acc=>by
  rw[List.foldl_cons,m5 l ps];unfold sB;have e:l∈cm (p::ps)↔l∈ans p.2\/l∈cm ps:=by simp[cm]
  rw[e,Zt,Y1];by_cases h:l∈acc;simp[h];simp[h]
def iS(l:Str)(ps:Z9 Pat):l∈unk ps↔l∈cm ps:=by unfold unk;rw[m5];simp
theorem oH:∀(ps:Z9 Pat)(acc:Z9 Str),(ps.foldl sB acc).length<=acc.length+(cm ps).length
 |[],acc=>by simp
 |p::ps,acc=>by
  have h1:=oH ps (sB acc p);have h2:(sB acc p).length<=acc.length+(ans p.2).length:=by
   unfold sB;rw[Zy];have:=Wu (λl=>!decide (l∈acc)) (ans p.2);lia
  have e:(cm (p::ps)).length=(ans p.2).length+(cm ps).length:=by simp[cm]
  rw[List.foldl_cons];lia
def wy(acc:Z9 Str)(ts:Z9 Te):bp (aB (aa 4) (λδ=>yj (eqO (ixO (rd Y 4 δ) (U (.int 0))) (U (.str "any"))) (bw (ixO (rd Y 4 δ) (U (.int 1))) (rd Y 1 δ))) jF [M,U (.lst (acc.map D.str),Y),M,M,M]) (ts.map teD)=U (((ans ts).filter λl=>!decide (l∈acc)).map D.str):=by
 induction ts with
 |nil=>rfl
 |cons c ts ih=>
  rw[Z2];unfold bp;rw[ih];cases c with
  |any n=>
   by_cases h:n∈acc;simp[aB,teD,jF,at0,at1,bJ,ans,Af,h];simp[aB,teD,jF,at0,at1,bJ,ans,Af,h]
  |nm w=>simp[aB,teD,jF,at0,at1,bJ,na,ans]
theorem oC:∀(rs:Z9 Pat)(acc:Z9 Str)(a0 x2 x3 x4:Z7 (D×Bool)),(∀r∈rs,r.2.length<=4)->acc.length+4*rs.length<=1000->∃y2 y3,
  am (λd δ=>ae ((aO (aj (aa 2) (aj (aa 3) (aak)))) d δ) tj) (rs.map aaa) [a0,U (.lst (acc.map D.str),L),x2,x3,x4]=U (.next [a0,U (.lst ((rs.foldl sB acc).map D.str),L),y2,y3,x4])
 |[],acc,a0,x2,x3,x4,_,_=>⟨x2,x3,by simp[am]⟩
 |r::rs,acc,a0,x2,x3,x4,h4,hl=>by
  have hr:=h4 r (ZX ..);have hb:=gn r.2;have hf:=Wu (λl=>!decide (l∈acc)) (ans r.2);rw[bO]at hl;obtain⟨y2,y3,e⟩:=oC rs (sB acc r) a0 (U (.str r.1,Y)) (U (.tup (r.2.map teD),Y)) x4 (λq hq=>h4 q (Z1 _ hq)) (by unfold sB;rw[Zy];lia);refine⟨y2,y3,?_⟩;rw[List.foldl_cons,<-e,Z2]
  conv=>lhs;unfold am
  simp only[aaa,aaE,aaw,aaF,aad,Zi,bO,gC,PK,aS,aT,Nat.reduceAdd,Nat.reduceLT,tj];have er:rd L 3 [a0,U (.lst (acc.map D.str),L),U (.str r.1,Y),U (.tup (r.2.map teD),Y),x4]=U (.tup (r.2.map teD)):=rfl;have em:aq L [Y,L,Y,Y,Y] [a0,U (.lst (acc.map D.str),L),U (.str r.1,Y),U (.tup (r.2.map teD),Y),x4]=[M,U (.lst (acc.map D.str),Y),M,M,M]:=by simp[aq]
  rw[er,abJ,PK,aJ (by rw[ZY,aam];lia),em,wy];have ef:dj (U (((ans r.2).filter λl=>!decide (l∈acc)).map D.str))=U (((ans r.2).filter λl=>!decide (l∈acc)).map D.str):=by
   unfold dj;dsimp only;rw[ZO (iq _)]
  rw[ef,aah,C4 (ds:=acc.map D.str) rfl (by simp only[ZY,aam];lia)];simp only[aS,aT,sB,YU]
def fX(Ih:ps.length<=4)(h4:∀p∈ps,p.2.length<=4):IS [.lst (ps.map aaa)]=U (.lst ((unk ps).map D.str),L):=by
 obtain⟨y2,y3,e⟩:=oC ps [] (U (.lst (ps.map aaa),Y)) M M M h4 (by simp;lia);rw[aw (f:=IS) (δ:=[U (.lst (ps.map aaa),Y),M,M,M,M]) rfl rfl rfl];simp only[Ew];rw[aaq [] (by simp),aaA _ _ _ (by simp)];simp only[YO]at e;simp only[WC,aS,aT,aaf,aac,aaj,PK];rw[e];simp only[WC,aaQ,aaR,aa6,aaG];rfl
end K14
namespace K14
open PySem L2 JP
variable[Lams]
def EH(p:Pat)(l:Str):l∈cm [p]↔l∈ans p.2:=by simp[cm]
def BA(hp:p∈ps):((uL ps).filter λl=>decide (l∈unk [p]))=uL [p]:=by
 refine List.Perm.eq_of_pairwise (le:=λa b=>leT a b=L) (λa b _ _ h1 h2=>xq a b h1 h2) ((xM ps).filter _) (xM [p]) ((Ym ((AG ps).filter _) (AG [p])).mpr λl=>?_);rw[Y1,kJ,kJ,Y8,iS,EH];exact⟨λh=>h.2,λh=>⟨dE.mpr ⟨p,hp,h⟩,h⟩⟩
def uO{r:Row}{rs:Z9 Row}(h:r∈rs):bw (U (VV r)) (U (.lst (rs.map VV)))=U Y:=by
 unfold bw inO;simp only[aQ];rw[ZO];rw[Zw (XT h)];rfl;rw[fN r 13,Yc,ZW];intro x hx;obtain⟨q,_,rfl⟩:=ZV.mp hx;exact fN q 13
def zr{us:Z9 Str}{c:Z9 Ce}{ss:Z9 (Z9 Ce)}(h:c∈ss):bw (U (fL us c)) (U (.lst (ss.map (fL us))))=U Y:=by
 unfold bw inO;simp only[aQ];rw[ZO];rw[Zw (XT h)];rfl;rw[Ds us c 12,Yc,ZW];intro x hx;obtain⟨q,_,rfl⟩:=ZV.mp hx;exact Ds us q 12
theorem kg{rs:Z9 Row}(a1 a2 a3 a4 x6 x7 x8 x9:Z7 (D×Bool)):∀(qs:Z9 Row)(x5:Z7 (D×Bool)),(∀q∈qs,q∈rs)->∃y5,
  am (λd δ=>ae ((aa 5) d δ) rO) (qs.map VV) [U (.lst (rs.map VV),Y),a1,a2,a3,a4,x5,x6,x7,x8,x9]=U (.next [U (.lst (rs.map VV),Y),a1,a2,a3,a4,y5,x6,x7,x8,x9])
 |[],x5,_=>⟨x5,by simp[am]⟩
 |q::qs,x5,h=>by
  obtain⟨y5,e⟩:=kg a1 a2 a3 a4 x6 x7 x8 x9 qs (U (VV q,Y)) λr hr=>h r (.tail _ hr);refine⟨y5,?_⟩;rw[Z2];unfold am;rw[aad _ _ _ (by simp)];simp only[PK,aS,aT,rO,aaf,aac,uO (h q (.head _)),aa2,aay];exact e
def Bt(rs:Z9 Row)(d y:D):Prop:=∃(p:Pat)(ss:Z9 (Z9 Ce)),d=aaa p/\Fs rs [p] ss/\y=.lst (ss.map (fL (uL [p])))
def BE{rs:Z9 Row}{ps:Z9 Pat}(h4:∀p∈ps,p.2.length<=4)(Ih:ps.length<=4){g:Z9 D}(gl:g.length=ps.length)(gp:∀(i:Nat) d,(ps.map aaa)[i]?=U d->∃y,g[i]?=U y/\Bt rs d y){φ:Fit}(HE:∀p∈ps,qK rs φ p)(a0 a2 x5 x8 x9:Z7 (D×Bool))(x6 x7:Z7 (D×Bool)):∃y6 y7,
  am (λd δ=>ae ((aa 6) d δ) m3) (fg 0 ps.length) [a0,U (.lst (ps.map aaa),Y),a2,U (.lst g,Y),U (fL (uL ps) ((uL ps).map φ),Y),x5,x6,x7,x8,x9]=U (.next [a0,U (.lst (ps.map aaa),Y),a2,U (.lst g,Y),U (fL (uL ps) ((uL ps).map φ),Y),x5,y6,y7,x8,x9]):=by
 have hu:(uL ps).length<=16:=Zn (lu ps) (Zn (bi h4) (by lia));obtain⟨f_,el,y6,y7,rfl⟩:=cO (body:=λd δ=>ae ((aa 6) d δ) m3) (λpre δ=>∃x6 x7,
   δ=[a0,U (.lst (ps.map aaa),Y),a2,U (.lst g,Y),U (fL (uL ps) ((uL ps).map φ),Y),x5,x6,x7,x8,x9]) (fg 0 ps.length) []
  [a0,U (.lst (ps.map aaa),Y),a2,U (.lst g,Y),U (fL (uL ps) ((uL ps).map φ),Y),x5,x6,x7,x8,x9] ⟨x6,x7,rfl⟩
  λpre d post δ Jw hz=>by
   obtain⟨x6,x7,rfl⟩:=hz;have hd:d∈fg 0 ps.length:=by rw[List.nil_append]at Jw;rw[<-Jw];simp
   obtain⟨i,hi,rfl⟩:=c6 hd;have e0:(0:Int)+(i:Int)=i:=by lia
   rw[e0];obtain⟨y,hy,p,ss,hp,F,rfl⟩:=gp i (aaa ps[i]) (by simp[hi]);obtain rfl:=mW hp;have PH:ps[i]∈ps:=Xz hi;have eb:atI (ps.map aaa) (i:Int)=U (aaa ps[i]):=oU (by lia) (by simp[hi]);have ea:atI g (i:Int)=U (.lst (ss.map (fL (uL [ps[i]])))):=oU (by lia) (by simpa using hy);have eu:=fX (ps:=[ps[i]]) (by simp) (by simpa using h4 _ PH);refine⟨_,.inl ?_,U (.int i,Y),U (.lst ((unk [ps[i]]).map D.str),Y),rfl⟩;rw[aad _ _ _ (by simp)];simp only[PK,aS,aT,m3,aaf,aac,abF,eb,Vc];rw[aaq _ (by simp)];simp only[Vc,PK];have Vl:IS [.lst [aaa ps[i]]]=U (.lst ((unk [ps[i]]).map D.str),L):=eu;rw[Vl,aao,aai _ _ _ (by simp)];have ef:b9 (U (fL (uL ps) ((uL ps).map φ)))=U (((uL ps).zip ((uL ps).map φ)).map aax):=rfl;simp only[WC,aS,aT,aaf,aac,ef,PK];have em:∀(a b c d e f g h i:Z7 (D×Bool))(x:D),aq Y [Y,Y,Y,Y,Y,Y,Y,L,Y,Y] [a,b,c,d,e,f,g,U (x,Y),h,i]=[M,M,M,M,M,M,M,U (x,Y),M,M]:=λ_ _ _ _ _ _ _ _ _ _=>by simp[aq]
   rw[aJ (by rw[ZY,List.length_zip,aam];lia),em,fq (f:=aax) (h:=aax) (p:=λq=>decide (q.1∈unk [ps[i]])) λq _=>by
    unfold aB;rw[aad _ _ _ (by simp)];have i0:ixO (U (aax q)) (U (.int 0))=U (.str q.1):=by simp[aax,at0]
    simp only[PK,aS,aT,aaf,aac,i0,eN,xX];by_cases h:q.1∈unk [ps[i]]<;>simp[h]]
   have QU:(((uL ps).zip ((uL ps).map φ)).filter λq=>decide (q.1∈unk [ps[i]]))=(uL [ps[i]]).zip ((uL [ps[i]]).map φ):=by
    rw[jm,jm,List.filter_map,<-BA PH];rfl
   rw[QU,aah,abF,ea];have Ql:D.lst (((uL [ps[i]]).zip ((uL [ps[i]]).map φ)).map aax)=fL (uL [ps[i]]) ((uL [ps[i]]).map φ):=rfl;rw[Ql,zr ((F.mem _).mpr ⟨φ,rfl,λq hq=>by rw[ZC.mp hq];exact HE _ PH⟩)];simp only[aa2,aay]
 exact⟨y6,y7,el⟩
def zl{rs:Z9 Row}(Ig:rs.length<=63){ps:Z9 Pat}(Ih:ps.length<=4)(h4:∀p∈ps,p.2.length<=4){ss:Z9 (Z9 Ce)}(F:Fs rs ps ss):
  Kp [.lst (rs.map VV),.lst (ps.map aaa),.lst (ss.map (fL (uL ps)))]=U (.bl L,Y):=by
 have hu:(uL ps).length<=16:=Zn (lu ps) (Zn (bi h4) (by lia));obtain⟨g,eg,gl,gp⟩:=cY (ds:=ps.map aaa) (P:=Bt rs)
  (h:=aB (aa 8) (λδ=>U L) t7 [U (.lst (rs.map VV),Y),M,M,M,M,M,M,M,M,M]) λd hd=>by
   obtain⟨p,hp,rfl⟩:=ZV.mp hd;obtain⟨sp,Fp,_,ep⟩:=jc (rs:=rs) (by lia) (ps:=[p]) (by simp) (by simpa using h4 p hp) (λk hk=>by
    have:k=0:=by simpa using hk
    rw[this];simp)
   refine⟨.lst (sp.map (fL (uL [p]))),?_,p,sp,rfl,Fp,rfl⟩;unfold aB;rw[aad _ _ _ (by simp)];simp only[PK,aS,aT,t7,aaf,aac,Vc];rw[aaq _ (by simp)];have y_:HP [.lst (rs.map VV),.lst [aaa p]]=U (.lst (sp.map (fL (uL [p]))),L):=ep;simp only[Vc,PK,y_,aao]
 rw[ZY]at gl;have loop:∀(tt:Z9 (Z9 Ce))(x4 x5 x6 x7 x8 x9:Z7 (D×Bool)),(∀c∈tt,c∈ss)->∃y4 y5 y6 y7,
   am (λd δ=>ae ((aa 4) d δ) sM) (tt.map (fL (uL ps))) [U (.lst (rs.map VV),Y),U (.lst (ps.map aaa),Y),U (.lst (ss.map (fL (uL ps))),Y),U (.lst g,Y),x4,x5,x6,x7,x8,x9]=U (.next [U (.lst (rs.map VV),Y),U (.lst (ps.map aaa),Y),U (.lst (ss.map (fL (uL ps))),Y),U (.lst g,Y),y4,y5,y6,y7,x8,x9]):=by
  intro tt
  induction tt with
  |nil=>intro x4 x5 x6 x7 x8 x9 _;exact⟨x4,x5,x6,x7,by simp[am]⟩
  |cons c tt ih=>
   intro x4 x5 x6 x7 x8 x9 h;obtain⟨φ,rfl,HE⟩:=(F.mem c).mp (h c (.head _));obtain⟨y5,e5⟩:=kg (rs:=rs) (U (.lst (ps.map aaa),Y)) (U (.lst (ss.map (fL (uL ps))),Y)) (U (.lst g,Y)) (U (fL (uL ps) ((uL ps).map φ),Y)) x6 x7 x8 x9 (ps.map λp=>(p.1,p.2.map (ev φ))) x5 λq hq=>by
    obtain⟨p,hp,rfl⟩:=ZV.mp hq;obtain⟨r,hr,h1,h2⟩:=HE p hp;have:r=(p.1,p.2.map (ev φ)):=by rw[<-h1,<-h2]
    rw[<-this];exact hr
   obtain⟨y6,y7,e6⟩:=BE h4 Ih gl gp HE (U (.lst (rs.map VV),Y)) (U (.lst (ss.map (fL (uL ps))),Y)) y5 x8 x9 x6 x7;obtain⟨z4,z5,z6,z7,e⟩:=ih (U (fL (uL ps) ((uL ps).map φ),Y)) y5 y6 y7 x8 x9 λd hd=>h d (.tail _ hd);refine⟨z4,z5,z6,z7,?_⟩;rw[Z2];unfold am;rw[aad _ _ _ (by simp)];have Ql:=uj (AG ps) (by lia) φ Ih h4 λl hl=>(kJ ps l).mpr hl;have em:(ps.map λp=>VV (p.1,p.2.map (ev φ)))=(ps.map λp=>(p.1,p.2.map (ev φ))).map VV:=by rw[YN];rfl
   simp only[PK,aS,aT,sM,aaf,aac,Vc,Ql,aao,aaj,em];rw[e5];simp only[WC,aaf,aac,abr,ZY];rw[gv _ (by lia),PK,Int.toNat_natCast,e6];exact e
 obtain⟨y4,y5,y6,y7,e⟩:=loop ss M M M M M M λ_ h=>h;rw[aw (f:=Kp) (δ:=[U (.lst (rs.map VV),Y),U (.lst (ps.map aaa),Y),U (.lst (ss.map (fL (uL ps))),Y),M,M,M,M,M,M,M]) rfl rfl rfl];simp only[DB,aaf,aac,aaj,PK];have em:∀(b c d e f g h i j:Z7 (D×Bool))(x:D),aq Y [L,Y,Y,Y,Y,Y,Y,Y,Y,Y] [U (x,Y),b,c,d,e,f,g,h,i,j]=[U (x,Y),M,M,M,M,M,M,M,M,M]:=λ_ _ _ _ _ _ _ _ _ _=>by simp[aq]
 rw[aJ (by rw[ZY,aam];lia),em,eg,aah,aaA _ _ _ (by simp)];simp only[WC,aS,aT,abc,abd,xK,aaf,aac,aaj,PK];rw[e];simp only[WC,aa3,aaG]
end K14
namespace K14
open PySem L2 JP
variable[Lams]
def uh(us:Z9 Str)(c:Z9 Ce)(l:Str):Ce:=(((us.zip c).find? λq=>decide (q.1=l)).map (·.2)).getD default
theorem li:∀{us:Z9 Str},l∈us->uh us (us.map φ) l=φ l
 |u::us,h=>by
  unfold uh;rw[Z2,List.zip_cons_cons,List.find?_cons];by_cases e:u=l;subst e;rw[Zw rfl];rfl;rw[ZE e];rcases Z0.mp h with z|z;exact absurd z.symm e;exact li z
def AW{us ws:Z9 Str}(hm:∀l,l∈us↔l∈ws){C:Fit->Prop}{ss fs:Z9 (Z9 Ce)}(n1:ss.Nodup)(n2:fs.Nodup)(m1:∀x,x∈ss↔∃φ:Fit,x=us.map φ/\C φ)(m2:∀x,x∈fs↔∃φ:Fit,x=ws.map φ/\C φ):ss.length=fs.length:=by
 have hh:∀φ:Fit,ws.map (uh us (us.map φ))=ws.map φ:=λφ=>Y7 λl hl=>li ((hm l).mpr hl);have nd:(ss.map λc=>ws.map (uh us c)).Nodup:=by
  refine XF.mpr (n1.imp_of_mem λ{a b} ha hb HH z=>HH ?_);obtain⟨φ,rfl,_⟩:=(m1 a).mp ha;obtain⟨ψ,rfl,_⟩:=(m1 b).mp hb;rw[hh,hh]at z;refine Y7 λl hl=>?_;exact(WZ.mp z) l ((hm l).mp hl)
 have p:(ss.map λc=>ws.map (uh us c)).Perm fs:=(Ym nd n2).mpr λx=>by
  rw[ZV,m2];constructor
  rintro⟨c,hc,rfl⟩
  obtain⟨φ,rfl,h⟩:=(m1 c).mp hc;exact⟨φ,hh φ,h⟩
  rintro⟨φ,rfl,h⟩
  exact⟨us.map φ,(m1 _).mpr ⟨φ,rfl,h⟩,hh φ⟩
 have:=p.length_eq;rwa[ZY]at this
def kD(ks:Z9 D):D:=.dD ks (ks.map λ_=>.bl L)
theorem ut(k:D):∀(ks ms:Z9 D),ks.length=ms.length->jW k (.bl L) ks (ms.map λ_=>(.bl L:D))=ms.map λ_=>.bl L
 |[],[],_=>rfl
 |x::ks,m::ms,h=>by
  rw[Z2];unfold jW;rw[ut k ks ms (by simpa using h)];split<;>rfl
def Bg(hk:(aR 8 k&&jr k)=L)(hl:ks.length<200000):gI (kD ks) k (.bl L)=U (kD (cR k ks)):=by
 unfold kD gI;dsimp only;rw[hk,Yc,ZO (Zw (by rw[aam];lia))];unfold wo cR;split;rw[ut k ks ks rfl];simp
def j9{x k:D}{ks:Z9 D}:x∈cR k ks↔x∈ks\/x=k:=by
 unfold cR;split;rename_i h;exact⟨.inl,λz=>z.elim id λe=>e▸h⟩;simp
def k7(k:D)(ks:Z9 D):(cR k ks).length<=ks.length+1:=by unfold cR;split<;>simp
theorem ya:∀{ks ms:Z9 D},ks.length=ms.length->k∈ks->(bL k ks (ms.map λ_=>(.bl L:D))).isSome=L
 |x::ks,m::ms,hl,h=>by
  rw[Z2];unfold bL;by_cases e:x=k;rw[ZO e];rfl;rw[ZJ e];rcases Z0.mp h with z|z;exact absurd z.symm e;exact ya (by simpa using hl) z
def CV(hk:(aR 8 k&&jr k)=L)(h:k∈ks):yo (U k) (U (kD ks))=U L:=by
 unfold yo bM kD;simp only[hk,Y_];rw[ya rfl h]
def fT(us:Z9 Str)(c:Z9 Ce):D:=.tup ((us.zip c).map aax)
def FV(us:Z9 Str)(c:Z9 Ce):(aR 8 (fT us c)&&jr (fT us c))=L:=by
 have:aR 8 (fT us c)=L:=by
  simp only[fT,aR,WG,ZW];intro q _;obtain⟨l,e⟩:=q;cases e<;>simp[aax,ceD,aR]
 rw[this];rfl
def Fb(c:Z9 Ce):(aR 8 (cD c)&&jr (cD c))=L:=by rw[oA,ni];rfl
theorem j4(us:Z9 Str)(a0 a1 a2 a3 a4 a5 a6 a7 a8 a9 IJ II IG IF Hz HD IZ:Z7 (D×Bool)):∀(ss:Z9 (Z9 Ce))(ks:Z9 D)(HC:Z7 (D×Bool)),ks.length+ss.length<200000->∃JG KQ,(∀k,k∈JG↔k∈ks\/∃c∈ss,k=fT us c)/\JG.length<=ks.length+ss.length/\
  am (λd δ=>ae ((aa 15) d δ) lV) (ss.map (fL us)) [a0,a1,a2,a3,a4,a5,a6,a7,a8,a9,IJ,II,IG,IF,U (kD ks,L),HC,Hz,HD,IZ]=U (.next [a0,a1,a2,a3,a4,a5,a6,a7,a8,a9,IJ,II,IG,IF,U (kD JG,L),KQ,Hz,HD,IZ])
 |[],ks,HC,_=>⟨ks,HC,λk=>by simp,by simp,by simp[am]⟩
 |c::ss,ks,HC,h=>by
  simp only[bO]at h;have hl:=k7 (fT us c) ks;obtain⟨JG,KQ,m,l,e⟩:=j4 us a0 a1 a2 a3 a4 a5 a6 a7 a8 a9 IJ II IG IF Hz HD IZ ss (cR (fT us c) ks) (U (fL us c,Y)) (by lia);refine⟨JG,KQ,λk=>?_,by simp only[bO];lia,?_⟩;rw[m,j9];simp only[Z0,WQ];exact or_assoc;rw[Z2];unfold am;rw[aad _ _ _ (by simp)];have et:bU (U (fL us c))=U (fT us c):=rfl;simp only[PK,aS,aT,lV,aaf,aac,et,jO,aaQ,aaR,Bg (FV us c) (show ks.length<200000 by lia)];exact e
theorem kK(a0 a1 a2 a3 a4 a5 a6 a7 a8 a9 IJ II IG IF HC HD IZ:Z7 (D×Bool)):∀(fs:Z9 (Z9 Ce))(ks:Z9 D)(Hz:Z7 (D×Bool)),ks.length+fs.length<200000->∃JG KP,(∀k,k∈JG↔k∈ks\/∃c∈fs,k=cD c)/\
  am (λd δ=>ae ((aa 16) d δ) mh) (fs.map cD) [a0,a1,a2,a3,a4,a5,a6,a7,a8,a9,IJ,II,IG,IF,U (kD ks,L),HC,Hz,HD,IZ]=U (.next [a0,a1,a2,a3,a4,a5,a6,a7,a8,a9,IJ,II,IG,IF,U (kD JG,L),HC,KP,HD,IZ])
 |[],ks,Hz,_=>⟨ks,Hz,λk=>by simp,by simp[am]⟩
 |c::fs,ks,Hz,h=>by
  simp only[bO]at h;have hl:=k7 (cD c) ks;obtain⟨JG,KP,m,e⟩:=kK a0 a1 a2 a3 a4 a5 a6 a7 a8 a9 IJ II IG IF HC HD IZ fs (cR (cD c) ks) (U (cD c,Y)) (by lia);refine⟨JG,KP,λk=>?_,?_⟩;rw[m,j9];simp only[Z0,WQ];exact or_assoc;rw[Z2];unfold am;rw[aad _ _ _ (by simp)];simp only[PK,aS,aT,mh,aaf,aac,jO,aaQ,aaR,Bg (Fb c) (show ks.length<200000 by lia)];exact e
theorem oh(us:Z9 Str)(hu:us.length<=100)(mv:Mv)(ks:Z9 D)(a0 a1 a2 a3 a4 a5 a6 a8 a9 IJ II IG IF Hz HD IZ:Z7 (D×Bool)):∀(ss:Z9 (Z9 Ce))(HC:Z7 (D×Bool)),(∀c∈ss,fT us (c.map (led mv))∈ks)->∃KQ,
  am (λd δ=>ae ((aa 15) d δ) mH) (ss.map (fL us)) [a0,a1,a2,a3,a4,a5,a6,U (.lst (mv.map mvD),Y),a8,a9,IJ,II,IG,IF,U (kD ks,L),HC,Hz,HD,IZ]=U (.next [a0,a1,a2,a3,a4,a5,a6,U (.lst (mv.map mvD),Y),a8,a9,IJ,II,IG,IF,U (kD ks,L),KQ,Hz,HD,IZ])
 |[],HC,_=>⟨HC,by simp[am]⟩
 |c::ss,HC,h=>by
  obtain⟨KQ,e⟩:=oh us hu mv ks a0 a1 a2 a3 a4 a5 a6 a8 a9 IJ II IG IF Hz HD IZ ss (U (fL us c,Y)) λd hd=>h d (.tail _ hd);refine⟨KQ,?_⟩;rw[Z2];unfold am;rw[aad _ _ _ (by simp)];have ef:b9 (U (fL us c))=U ((us.zip c).map aax):=rfl;have hz:(us.zip c).length<=100:=by rw[List.length_zip];lia
  simp only[PK,aS,aT,mH,aaf,aac,ef];have em:∀(a b c d e f g i j k l m n p q r s t:Z7 (D×Bool))(x:D),aq Y [Y,Y,Y,Y,Y,Y,Y,L,Y,Y,Y,Y,Y,Y,Y,Y,Y,Y,Y] [a,b,c,d,e,f,g,U (x,Y),i,j,k,l,m,n,p,q,r,s,t]=[M,M,M,M,M,M,M,U (x,Y),M,M,M,M,M,M,M,M,M,M,M]:=λ_ _ _ _ _ _ _ _ _ _ _ _ _ _ _ _ _ _ _=>by simp[aq]
  rw[aJ (by rw[ZY,aam];lia),em,aW (f:=aax) (h:=λq=>aax (q.1,led mv q.2)) λq _=>by
   unfold aB;simp only[aax,aaE,aaw,aaF,aad,Zi,bO,gC,PK,aS,aT,Nat.reduceAdd,Nat.reduceLT,sx,aaf,aac,Vc,yB,aar];rw[aaz _ (by simp)]]
  have ez:((us.zip c).map λq=>aax (q.1,led mv q.2))=(us.zip (c.map (led mv))).map aax:=by
   rw[List.zip_map_right,YN];rfl
  have et:D.tup ((us.zip (c.map (led mv))).map aax)=fT us (c.map (led mv)):=rfl;have er:rd L 14 [a0,a1,a2,a3,a4,a5,a6,U (.lst (mv.map mvD),Y),a8,a9,IJ,II,IG,IF,U (kD ks,L),U (fL us c,Y),Hz,HD,IZ]=U (kD ks):=rfl;rw[aah,ez,aa4,et];simp only[aaf,ab3,CV (FV us _) (h c (.head _)),abq,YR,aa2,aay];exact e
theorem oI(mv:Mv)(ks:Z9 D)(a0 a1 a2 a3 a4 a5 a6 a8 a9 IJ II IG IF HC HD IZ:Z7 (D×Bool)):∀(fs:Z9 (Z9 Ce))(Hz:Z7 (D×Bool)),(∀c∈fs,cD (c.map (led mv))∈ks/\c.length<=1000)->∃KP,
  am (λd δ=>ae ((aa 16) d δ) lO) (fs.map cD) [a0,a1,a2,a3,a4,a5,a6,U (.lst (mv.map mvD),Y),a8,a9,IJ,II,IG,IF,U (kD ks,L),HC,Hz,HD,IZ]=U (.next [a0,a1,a2,a3,a4,a5,a6,U (.lst (mv.map mvD),Y),a8,a9,IJ,II,IG,IF,U (kD ks,L),HC,KP,HD,IZ])
 |[],Hz,_=>⟨Hz,by simp[am]⟩
 |c::fs,Hz,h=>by
  obtain⟨KP,e⟩:=oI mv ks a0 a1 a2 a3 a4 a5 a6 a8 a9 IJ II IG IF HC HD IZ fs (U (cD c,Y)) λd hd=>h d (.tail _ hd);obtain⟨h1,h2⟩:=h c (.head _);refine⟨KP,?_⟩;rw[Z2];unfold am;rw[aad _ _ _ (by simp)];have ef:u7 (U (cD c))=U (c.map ceD):=rfl;simp only[PK,aS,aT,lO,aaf,aac,ef];have em:∀(a b c d e f g i j k l m n p q r s t:Z7 (D×Bool))(x:D),aq Y [Y,Y,Y,Y,Y,Y,Y,L,Y,Y,Y,Y,Y,Y,Y,Y,Y,Y,Y] [a,b,c,d,e,f,g,U (x,Y),i,j,k,l,m,n,p,q,r,s,t]=[M,M,M,M,M,M,M,U (x,Y),M,M,M,M,M,M,M,M,M,M,M]:=λ_ _ _ _ _ _ _ _ _ _ _ _ _ _ _ _ _ _ _=>by simp[aq]
  rw[aJ (by rw[ZY,aam];lia),em,aW (f:=ceD) (h:=λe=>ceD (led mv e)) λq _=>by
   unfold aB;rw[aad _ _ _ (by simp)];simp only[PK,aS,aT,sC,aaf,aac,Vc,yB,aar]]
  have ez:(c.map λe=>ceD (led mv e))=(c.map (led mv)).map ceD:=by rw[YN];rfl
  have et:D.tup ((c.map (led mv)).map ceD)=cD (c.map (led mv)):=rfl;rw[aah,ez,aa4,et];simp only[aaf,ab3,CV (Fb _) h1,abq,YR,aa2,aay];exact e
end K14
namespace K14
open PySem L2 JP
variable[Lams]
def wn:HP [.lst [],.lst []]=U (.lst [.lst []],L):=by
 obtain⟨ss,F,_,e⟩:=jc (rs:=[]) (by simp) (ps:=[]) (by simp) (by simp) (by simp);have hu:uL []=[]:=by
  have:=lu [];have l0:cm []=[]:=rfl;rw[l0]at this;exact YT.mp (by simpa using this)
 have hs:ss=[[]]:=by
  have:ss.Perm [[]]:=(Ym F.nd (by simp)).mpr λx=>by
   rw[F.mem,hu];constructor
   rintro⟨φ,rfl,_⟩;simp
   intro h;simp at h;subst h;exact⟨λ_=>default,rfl,λp hp=>nomatch hp⟩
  exact List.perm_singleton.mp this
 rw[hs,hu]at e;exact e
def oM(h:∀r,r∈Ls↔∃q∈rs,r=mI mv q)(hp:qK rs φ p):qK Ls (λl=>led mv (φ l)) p:=by
 obtain⟨r,hr,h1,h2⟩:=hp;refine⟨mI mv r,(h _).mpr ⟨r,hr,rfl⟩,h1,?_⟩;show r.2.map (led mv)=_;rw[h2,YN];refine Y7 λt _=>?_;cases t with
 |any l=>rfl
 |nm w=>exact Bp mv w
def zB(ns:Z9 Int):okD 16 (.lst (ns.map D.int))=L:=j8 λd hd=>by obtain⟨n,_,rfl⟩:=ZV.mp hd;rfl
def pure(ns:Z9 Int)(hn:ns.length<=63):f_law [.lst (ns.map D.int)]=U (.bl L,Y):=by
 have ec:tN (ns.map D.int) M (U 40)=(ns.take 40).map D.int:=wV ns 40;have hk:(ns.take 40).length<=40:=by simp;lia
 generalize OH:ns.take 40=cs at ec hk;have l0:dz (U [])=U (.lst []):=aaq _ (by simp);have Vq:eqO (U (.lst (cs.map D.int))) (U (.lst []))=U (decide (cs=[])):=by
  rw[pD _ _ (by unfold ok2;rw[zB];rfl)];congr 1;exact X8.mpr (by simp)
 rw[aw (f:=f_law) (δ:=[U (.lst (ns.map D.int),Y),M,M,M,M,M,M,M,M,M,M,M,M,M,M,M,M,M,M]) rfl rfl rfl];simp only[Ac,aac,abR,abT,ec];rw[aai _ _ _ (by simp)];simp only[WC,aS,aT,aaf,aac,l0,Vq,Vc,PK,wn,aao];by_cases LV:cs=[];have l1:dz (U [.lst []])=U (.lst [.lst []]):=aaq _ (by simp);simp only[LV,W3,abo,l1,AK (show okD 16 (.lst [.lst []])=L from rfl),acF,aa3,acp,aaG];generalize QC:cs.sum%1000003=K5;obtain⟨ws,st,sp,w1,w2,w3,w4,w5,ew⟩:=wD K5;obtain⟨ls,hl,el⟩:=qH K5;obtain⟨g,eg,gl,gp⟩:=cY (ds:=cs.map D.int) (P:=λ_ y=>∃r:Row,r.2.length<=3/\y=VV r)
  (h:=aB (aa 17) (λδ=>U L) md [M,M,M,U (aX ws st sp,Y),M,M,M,M,M,M,M,M,M,M,M,M,M,M,M]) λd hd=>by
   obtain⟨c,_,rfl⟩:=ZV.mp hd;obtain⟨r,hr,er⟩:=CW w1 w2 w3 w4 w5 c;exact⟨VV r,by simp[aB,md,er],r,hr,rfl⟩
 obtain⟨qs,rfl,Ug⟩:=rY (F:=VV) (Q:=λr=>r.2.length<=3) gl gp λd y hz=>by obtain⟨e,a,b⟩:=hz;exact⟨e,b,a⟩
 rw[ZY,ZY]at gl;obtain⟨rs,Ro,V6,Vo⟩:=wQ qs (by lia);have Ig:rs.length<=40:=by lia
 have t_:rs≠[]:=λz=>by
  have hq:qs≠[]:=λe=>LV (YT.mp (by rw[<-gl,e];rfl));obtain⟨q,hq⟩:=List.exists_mem_of_ne_nil _ hq;have:=(Ro q).mpr hq;rw[z]at this;cases this
 have Qe:∀r∈rs,r.2.length<=3:=λr hr=>Ug r ((Ro r).mp hr);obtain⟨p1,Ul,Kj⟩:=gN hl t_ (by lia) Qe K5;obtain⟨p2,Kg,Jc⟩:=gN hl t_ (by lia) Qe (K5+500009);obtain⟨mv,TL,TY,Vt⟩:=wA w1 w2 w3 w4 w5 K5;have h4:∀p∈[p1,p2],p.2.length<=4:=λp hp=>by
  rcases Z0.mp hp with rfl|hp;exact Ul;rw[ZC.mp hp];exact Kg
 have hN:∀{n:Nat},n<=40->∀k,k<[p1,p2].length->n ^ k<=125:=λ{n} hn k hk=>by
  have:k=0\/k=1:=by simp at hk;lia
  rcases this with rfl|rfl;simp;simp;lia
 obtain⟨ss,F,sl,ef⟩:=jc (rs:=rs) (by lia) (ps:=[p1,p2]) (by simp) h4 (hN Ig);have ee:=zl (rs:=rs) (by lia) (ps:=[p1,p2]) (by simp) h4 F;obtain⟨Ls,NC,VN,Vu⟩:=vB (rs:=rs) (by lia) (λr hr=>by have:=Qe r hr;lia) TL TY;obtain⟨MY,F',Q6,Vz⟩:=jc (rs:=Ls) (by lia) (ps:=[p1,p2]) (by simp) h4 (hN (by lia));have eu:=fX (ps:=[p1,p2]) (by simp) h4;have Om:(unk [p1,p2]).length<=100:=by
  have h1:(unk [p1,p2]).length<=0+(cm [p1,p2]).length:=oH [p1,p2] [];have h2:(cm [p1,p2]).length<=4*2:=bi h4;lia
 obtain⟨fs,n1,m1,fl,ea⟩:=ii (rs:=rs) (by lia) (ps:=[p1,p2]) (by simp) h4 (hN Ig) Om λl hl=>(iS l _).mp hl;obtain⟨JR,V3,TX,fl',VA⟩:=ii (rs:=Ls) (by lia) (ps:=[p1,p2]) (by simp) h4 (hN (by lia)) Om λl hl=>(iS l _).mp hl;have hlen:ss.length=fs.length:=AW (λl=>by rw[kJ,iS]) F.nd n1 F.mem m1;have hu:(uL [p1,p2]).length<=16:=Zn (lu _) (Zn (bi h4) (by simp));simp only[ZE LV,aa2,aay,WC,aaf,aac,B1,aas _ _ (show(0:Int)<1000003 by lia),QC];rw[aai _ _ _ (by simp)];simp only[WC,aS,aT,aaf,aac,Vc,PK,ew,aar];rw[aai _ _ _ (by simp)];simp only[WC,aS,aT,aaf,aac,aaj,PK];have J_:∀(a b c:Z7 (D×Bool))(x:D),aq Y [Y,Y,Y,L,Y,Y,Y,Y,Y,Y,Y,Y,Y,Y,Y,Y,Y,Y,Y] [a,b,c,U (x,Y),M,M,M,M,M,M,M,M,M,M,M,M,M,M,M]=[M,M,M,U (x,Y),M,M,M,M,M,M,M,M,M,M,M,M,M,M,M]:=λ_ _ _ _=>by simp[aq]
 rw[aJ (by rw[ZY,aam];lia),J_,eg,aah];simp only[Vc,PK,Vo,aao];rw[aai _ _ _ (by simp)];simp only[WC,aS,aT,aaf,aac,Vc,PK,el,aao];rw[aai _ _ _ (by simp)];simp only[WC,aS,aT,aaf,aac,Vc,PK,Kj,Jc,aaS,aar];rw[aaq _ (by simp),aai _ _ _ (by simp)];have Vr:[aaa p1,aaa p2]=[p1,p2].map aaa:=rfl;simp only[WC,aS,aT,aaf,aac,Vc,PK,Vt,aao,Vr];rw[aai _ _ _ (by simp)];simp only[WC,aS,aT,aaf,aac,Vc,PK,ef,aao];rw[aai _ _ _ (by simp)];simp only[WC,aS,aT,aaf,aac,Vc,PK,ee,aar,acm,abq,YR,aa2,aay,Vu,aao];rw[aai _ _ _ (by simp)];simp only[WC,aS,aT,aaf,aac,Vc,PK,Vz,aao];rw[aai _ _ _ (by simp)];simp only[WC,aS,aT,aaf,aac,Vc,PK,eu,aao];rw[aai _ _ _ (by simp)];have t2:eZ (U [.lst ((unk [p1,p2]).map D.str),.lst ([p1,p2].map aaa)])=U (.tup [.lst ((unk [p1,p2]).map D.str),.lst ([p1,p2].map aaa)]):=aaz _ (by simp);simp only[WC,aS,aT,aaf,aac,Vc,PK,t2,ea,aao];rw[aai _ _ _ (by simp)];simp only[WC,aS,aT,aaf,aac,Vc,PK,t2,VA,aao];rw[aai _ _ _ (by simp)];have nl:neO (jv (U (.lst (fs.map cD)))) (jv (U (.lst (ss.map (fL (uL [p1,p2]))))))=U Y:=by
  rw[abr,abr,ZY,ZY,hlen];exact AI rfl
 simp only[WC,aS,aT,aaf,aac,nl,aa2,aay];rw[aaA _ _ _ (by simp)];simp only[WC,aS,aT,aaf,aac,aaj,PK];have ek:D.dD [] []=kD []:=rfl;rw[ek];obtain⟨ks,KQ,k1,k2,e1⟩:=j4 (uL [p1,p2]) (U (.lst (ns.map D.int),Y)) (U (.lst (cs.map D.int),Y)) (U (.int K5,Y)) (U (aX ws st sp,Y)) (U (.lst (rs.map VV),Y)) (U (.lst (ls.map D.str),Y)) (U (.lst ([p1,p2].map aaa),Y)) (U (.lst (mv.map mvD),Y)) (U (.lst (ss.map (fL (uL [p1,p2]))),Y)) (U (.lst (Ls.map VV),Y)) (U (.lst (MY.map (fL (uL [p1,p2]))),Y)) (U (.lst ((unk [p1,p2]).map D.str),Y)) (U (.lst (fs.map cD),Y)) (U (.lst (JR.map cD),Y)) M M M MY [] M (by simp;lia);rw[e1];simp only[WC,aaf,aac,aaj,PK];obtain⟨Og,KP,k3,e2⟩:=kK (U (.lst (ns.map D.int),Y)) (U (.lst (cs.map D.int),Y)) (U (.int K5,Y)) (U (aX ws st sp,Y)) (U (.lst (rs.map VV),Y)) (U (.lst (ls.map D.str),Y)) (U (.lst ([p1,p2].map aaa),Y)) (U (.lst (mv.map mvD),Y)) (U (.lst (ss.map (fL (uL [p1,p2]))),Y)) (U (.lst (Ls.map VV),Y)) (U (.lst (MY.map (fL (uL [p1,p2]))),Y)) (U (.lst ((unk [p1,p2]).map D.str),Y)) (U (.lst (fs.map cD),Y)) (U (.lst (JR.map cD),Y)) KQ M M JR ks M (by simp at k2;lia);rw[e2];simp only[WC,aaf,aac,aaj,PK];obtain⟨OO,e3⟩:=oh (uL [p1,p2]) (by lia) mv Og (U (.lst (ns.map D.int),Y)) (U (.lst (cs.map D.int),Y)) (U (.int K5,Y)) (U (aX ws st sp,Y)) (U (.lst (rs.map VV),Y)) (U (.lst (ls.map D.str),Y)) (U (.lst ([p1,p2].map aaa),Y)) (U (.lst (ss.map (fL (uL [p1,p2]))),Y)) (U (.lst (Ls.map VV),Y)) (U (.lst (MY.map (fL (uL [p1,p2]))),Y)) (U (.lst ((unk [p1,p2]).map D.str),Y)) (U (.lst (fs.map cD),Y)) (U (.lst (JR.map cD),Y)) KP M M ss KQ λc hc=>by
  obtain⟨φ,rfl,HE⟩:=(F.mem c).mp hc;rw[YN];exact(k3 _).mpr (.inl ((k1 _).mpr (.inr ⟨_,(F'.mem _).mpr ⟨λl=>led mv (φ l),rfl,λp hp=>oM NC (HE p hp)⟩,rfl⟩)))
 rw[e3];simp only[WC,aaf,aac,aaj,PK];obtain⟨Q0,e4⟩:=oI mv Og (U (.lst (ns.map D.int),Y)) (U (.lst (cs.map D.int),Y)) (U (.int K5,Y)) (U (aX ws st sp,Y)) (U (.lst (rs.map VV),Y)) (U (.lst (ls.map D.str),Y)) (U (.lst ([p1,p2].map aaa),Y)) (U (.lst (ss.map (fL (uL [p1,p2]))),Y)) (U (.lst (Ls.map VV),Y)) (U (.lst (MY.map (fL (uL [p1,p2]))),Y)) (U (.lst ((unk [p1,p2]).map D.str),Y)) (U (.lst (fs.map cD),Y)) (U (.lst (JR.map cD),Y)) OO M M fs KP λc hc=>by
  obtain⟨φ,rfl,HE⟩:=(m1 c).mp hc;refine⟨?_,by rw[ZY];lia⟩;rw[YN];exact(k3 _).mpr (.inr ⟨_,(TX _).mpr ⟨λl=>led mv (φ l),rfl,λp hp=>oM NC (HE p hp)⟩,rfl⟩)
 rw[e4];simp only[WC,aa3,aaG]
end K14
set_option maxRecDepth 100000 in
set_option maxHeartbeats 0 in
theorem PySem.Challenge.cw_mustrows_k14_whole_fits_moved_holds : PySem.Challenge.rw_mustrows_k14_whole_fits_moved.Holds := by
 letI:L2.Lams:=⟨[(74,"search_order.<locals>.<lambda>")]⟩
 refine PySem.W.holds_law K14.hl1 fun said=>?_
 refine PySem.W.holds_open (d:=PySem.DefRec.mk "law" (L2.defArgs K14.s_law) (L2.defBody K14.s_law) (L2.defScope K14.s_law) K14.s_law.pos) (kwd:=[]) (q:=PySem.W.view PySem.Challenge.pw_mustrows_k14_whole_fits_moved EC) (loose:=[]) (Xt:=fun _=>true) (XP:=fun _ _=>True) (Yf:=L2.YfH K14.defsK K14.blK [("search_order",76)]) (Ya:=L2.YaH K14.defsK K14.blK [("search_order",76)]) (YP:=L2.YH K14.defsK K14.blK [("search_order",76)]) (N:=2000) ?hl L2.yh_of L2.yh_keeps (fun _ _=>trivial) (fun _ _ _ _ _=>trivial) (by kernel_rfl) (by kernel_rfl) (by kernel_rfl) (fun s _=>PySem.W.recFacts_of (by kernel_rfl)) (by kernel_rfl) said K14.hl7 ⟨rfl,rfl,rfl,rfl,rfl,by decide +kernel⟩ ?hw ?hc
 case hl=>exact K14.hl0
 case hw=>w_witness2
 case hc=>
  refine L2.walk_H (l:=PySem.Challenge.rw_mustrows_k14_whole_fits_moved) (n:=63) (k:=9) (x:="_law_script") (CX:=L2.CX0) (sp:=fun K=>L2.spM K K14.f_law) rfl (by decide) rfl ⟨rfl,by decide,by decide⟩ rfl (fun w mg fa h K S L X G hmg=>K14.all_mk S X G hmg (.head _) (L2.map_mem L.1 (.head _))) (fun K H a ns hl hO hS=>L2.spM_law hS (K14.pure ns hl)) (fun _ _ _ _ h=>h) (fun q hq r hr _=>by rw[List.mem_singleton.mp hq,List.mem_singleton.mp hr])
