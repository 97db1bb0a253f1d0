import PyProof.Rows.All
import Wide.All
import OpenK.AllK
import Lean
import PySem.Challenge.RW_mustrows_k34_whole_mended
set_option Elab.async false
set_option linter.all false
set_option genSizeOf false
set_option maxRecDepth 100000
set_option maxHeartbeats 0
set_option tactic.hygienic false
noncomputable section
local macro_rules | `(tactic| obtain $p:rcasesPatMed := $e:term) => do
  let n := (p.raw.reprint.getD "").foldl (λn c => if c == ',' then n + 1 else n) 0
  let q := Lean.mkIdent `hzz
  if n < 2 then `(tactic| rcases $e:term with $p:rcasesPatMed) else `(tactic| (refine Classical.byContradiction fun $q => ?_; rcases $e:term with $p:rcasesPatMed; refine $q ?_; clear $q))
local macro_rules| `(tactic|trivial)=> `(tactic|contradiction)
abbrev Z_:=@PySem.wpAny_bind
abbrev Z9:=@List
abbrev Z8:=@Option
abbrev Z7:=@Option.some.inj
abbrev Z6:=@PySem.W.Frag
abbrev Z5:=@PySem.wpAny_pure
abbrev Z4:=@PySem.Heap.get?_push_of_some
abbrev Z3:=@PySem.Value
abbrev Z2:=@List.mem_cons_of_mem
abbrev Z1:=@List.map_cons
abbrev Z0:=@List.length_map
abbrev ZZ:=@List.mem_cons
abbrev ZY:=@Bool.false_eq_true
abbrev ZX:=@List.all_eq_true
abbrev ZW:=@List.mem_cons_self
abbrev ZV:=@List.mem_map
abbrev ZU:=@Nat.le_refl
abbrev ZT:=@List.size_toArray
abbrev ZR:=@PySem.Shared
abbrev ZQ:=@PySem.Heap.lt_size
abbrev ZP:=@List.getElem?_eq_some_iff
abbrev ZO:=@if_pos
abbrev ZN:=@PySem.Heap.get?_push_size
abbrev ZM:=@PySem.Addr
abbrev ZL:=@List.getElem?_set_ne
abbrev ZK:=@Bool.and_eq_true
abbrev ZJ:=@if_neg
abbrev ZI:=@List.mem_append_right
abbrev ZH:=@Nat.le_trans
abbrev ZG:=@List.getElem?_set_self
abbrev ZF:=@PyProof.Rows.wpS_bind
abbrev ZE:=@Option.some.injEq
abbrev ZD:=@decide_eq_false
abbrev ZC:=@List.length_set
abbrev ZA:=@Nat.lt_of_lt_of_le
abbrev Zz:=@List.length_append
abbrev Zy:=@Ne.symm
abbrev Zx:=@PyProof.Rows.wpS_pure
abbrev Zw:=@beq_iff_eq
abbrev Zv:=@List.mem_singleton
abbrev Zu:=@decide_eq_true
abbrev Zt:=@Nat.ne_of_lt
abbrev Zs:=@Nat.zero_le
abbrev Zr:=@List.mem_append
abbrev Zo:=@of_decide_eq_true
abbrev Zn:=@List.drop_eq_getElem_cons
abbrev Zm:=@List.not_mem_nil
abbrev Zl:=@Bool.false_ne_true
abbrev Zk:=@PySem.Heap.get?_update_other
abbrev Zj:=@if_false
abbrev Zi:=@Array.toList_append
abbrev Zh:=@PySem.Heap.get?_update_self
abbrev Zg:=@List.mem_of_getElem?
abbrev Zf:=@decide_eq_true_eq
abbrev Ze:=@PySem.Heap.SameBut.update
abbrev Zd:=@List.append_assoc
abbrev Zc:=@Nat.lt_irrefl
abbrev Zb:=@Array.getElem?_eq_getElem
abbrev Za:=@PySem.Around
abbrev Y_:=@decide_eq_true_iff
abbrev Y9:=@List.mem_append_left
abbrev Y8:=@if_true
abbrev Y7:=@PySem.Around.under_plainId
abbrev Y6:=@List.mem_filter
abbrev Y5:=@List.mem_range
abbrev Y4:=@PySem.wpAny_holding
abbrev Y3:=@PySem.Obj.data_mapFields
abbrev Y2:=@List.map_append
abbrev Y1:=@PySem.wpAny_newObj_type
abbrev Y0:=@PySem.Program
abbrev YZ:=@List.map_congr_left
abbrev YY:=@List.getElem?_append_left
abbrev YX:=@List.append_nil
abbrev YW:=@List.mem_iff_getElem
abbrev YV:=@PySem.wpAny_call_entry
abbrev YU:=@List.getElem?_eq_getElem
abbrev YT:=@List.map_nil
abbrev YS:=@List.nodup_cons
abbrev YR:=@Array.getElem?_eq_some_iff
abbrev YQ:=@List.getElem?_map
abbrev YO:=@PySem.codeAny_builtin
abbrev YN:=@List.take_of_length_le
abbrev YM:=@PySem.World
abbrev YL:=@Bool.eq_iff_iff
abbrev YK:=@PySem.wpAny_mono
abbrev YJ:=@Bool.not_true
abbrev YI:=@PySem.mem_of_lookup
abbrev YG:=@List.getElem?_eq_none
abbrev YF:=@List.idxOf_lt_length_of_mem
abbrev YE:=@PySem.Heap.size_push
abbrev YD:=@Array.toList_push
abbrev YC:=@PySem.wpAny_rule
abbrev YB:=@PySem.wpAny_setState_of
abbrev YA:=@or_false
abbrev Yz:=@List.getD_eq_getElem?_getD
abbrev Yy:=@List.Perm.refl
abbrev Yx:=@PySem.wpAny_callSpecial?_slot
abbrev Yw:=@PySem.wpAny_seqItems
abbrev Yv:=@PyProof.Rows.wpS_forRange
abbrev Yu:=@Bool.not_eq_true'
abbrev Yt:=@List.nodup_nil
abbrev Ys:=@PySem.plainId_quiet
abbrev Yr:=@beq_self_eq_true
abbrev Yp:=@PyProof.Rows.callWith_type1
abbrev Yo:=@List.getElem?_append_right
abbrev Yn:=@PySem.Paired.length
abbrev Ym:=@decide_eq_decide
abbrev Yl:=@Nat.lt_succ_self
abbrev Yk:=@PySem.sizeLine_eq
abbrev Yj:=@Nat.zero_add
abbrev Yi:=@List.map_map
abbrev Yh:=@List.pairwise_append
abbrev Yg:=@List.cons.injEq
abbrev Ye:=@PySem.wpAny_setField
abbrev Yd:=@Bool.and_true
abbrev Yc:=@PySem.wpAny_updateSeq
abbrev Yb:=@PySem.wpAny_specialOf
abbrev X_:=@List.length_take
abbrev X9:=@of_decide_eq_false
abbrev X8:=@Bool.not_false
abbrev X7:=@List.take_append_drop
abbrev X6:=@List.length_filter_le
abbrev X5:=@PySem.wpAny_isInstance
abbrev X4:=@PySem.wpAny_forIn_list
abbrev X3:=@PySem.wpAny_setField_rec
abbrev X2:=@PySem.MeetsSeq.plain_remove_loop
abbrev X1:=@List.nodup_append
abbrev X0:=@List.getElem?_of_mem
abbrev XZ:=@Array.toList_reverse
abbrev XY:=@PySem.Obj.isFreed_of_fields
abbrev XX:=@Bool.true_and
abbrev XW:=@List.reverse_append
abbrev XU:=@List.mem_map_of_mem
abbrev XT:=@List.mem_reverse
abbrev XS:=@List.length_eq_zero_iff
abbrev XR:=@List.any_eq_true
abbrev XQ:=@PyProof.Rows.wpS_modify
abbrev XO:=@PySem.wpAny_attempt
abbrev XN:=@List.pairwise_cons
abbrev XM:=@List.mem_filterMap
abbrev XJ:=@Array.getElem?_eq_none
abbrev XI:=@PySem.F.plain_extend_loop
abbrev XH:=@PyProof.Rows.wpS_mono
abbrev XG:=@PySem.wpAny_field
abbrev XF:=@List.map_inj_left
abbrev XE:=@PySem.wpAny_Call_Name_kw
abbrev XD:=@PySem.wpAny_passesOwn
abbrev XC:=@List.mem_of_mem_take
abbrev XB:=@Bool.and_false
abbrev XA:=@Array.toList_extract
abbrev Xz:=@PySem.builtinLookup_eq_fast
abbrev Xy:=@PySem.wpAny_truthy_bool
abbrev Xx:=@List.pairwise_iff_getElem
abbrev Xw:=@Nat.not_lt_zero
abbrev Xv:=@PySem.wpAny_typeOf
abbrev Xu:=@PySem.wpAny_askSetting
abbrev Xs:=@PySem.Heap.size_update
abbrev Xr:=@PySem.F.called_set
abbrev Xq:=@Array.forIn_toList
abbrev Xp:=@decide_eq_false_iff_not
abbrev Xo:=@PySem.F.plainAttrs_list
abbrev Xn:=@PySem.wpAny_setEntries_of
abbrev Xm:=@not_or
abbrev Xl:=@Option.map_eq_some_iff
abbrev Xk:=@List.length_range
abbrev Xj:=@List.eraseIdx_eq_take_drop_succ
abbrev Xi:=@List.getElem?_zipWith
abbrev Xh:=@List.getElem_mem
abbrev Xg:=@List.eq_nil_iff_forall_not_mem
abbrev Xf:=@PySem.wpAny_pyIter_list
abbrev Xe:=@PySem.Obj.cls_mapFields
abbrev Xd:=@List.reverse_reverse
abbrev Xc:=@PySem.F.slot_tuple_hash
abbrev Xb:=@PyProof.Rows.listUpdate_at
abbrev Xa:=@Array.getElem?_setIfInBounds
abbrev W_:=@decide_false
abbrev W9:=@Nat.succ_pos
abbrev W8:=@PySem.wpAny_typeNameOfWhole_keyiter
abbrev W7:=@PySem.Obj.data_mapDictKeys
abbrev W6:=@List.perm_ext_iff_of_nodup
abbrev W5:=@List.find?_eq_none
abbrev W4:=@Array.toList_setIfInBounds
abbrev W3:=@PySem.typeLookup_type
abbrev W2:=@PySem.size_of_entries
abbrev W0:=@List.mem_of_find?_eq_some
abbrev WZ:=@PySem.F.slot_dict_keyiterator_next
abbrev WY:=@Classical.byContradiction
abbrev WX:=@not_false_eq_true
abbrev WW:=@decide_true
abbrev WV:=@Option.isSome_map
abbrev WU:=@Nat.lt_trichotomy
abbrev WT:=@Nat.le_succ
abbrev WR:=@List.ext_getElem?
abbrev WQ:=@List.Pairwise.map
abbrev WO:=@PySem.codeAny_mono
abbrev WN:=@PySem.F.args_tuple_add_2
abbrev WM:=@Prod.mk.injEq
abbrev WL:=@PySem.wpAny_fieldsOf
abbrev WK:=@PySem.isSubtype_stop
abbrev WJ:=@PySem.F.entry_tuple_add
abbrev WI:=@List.drop_length
abbrev WH:=@PySem.W.cellsFrom_some
abbrev WG:=@PySem.F.slot_tuple_add
abbrev WE:=@Nat.mod_lt
abbrev WD:=@Nat.le_of_lt
abbrev WB:=@List.set_set
abbrev WA:=@List.filter_eq_nil_iff
abbrev Wz:=@List.drop_eq_nil_of_le
abbrev Wy:=@PySem.wpAny_storeSet_of
abbrev Wx:=@PySem.wpAny_dictEntries
abbrev Ww:=@PyProof.Rows.get?_update_seq
abbrev Wv:=@Nat.min_eq_left
abbrev Wu:=@List.of_mem_zip
abbrev Wt:=@List.forIn_cons
abbrev Ws:=@PySem.wpAny_typeNameOf_keyiter
abbrev Wr:=@PySem.SetTable.toList_insertAt
abbrev Wq:=@PySem.F.slot_dict_get
abbrev Wp:=@PySem.F.slot_list_getattribute
abbrev Wo:=@PySem.AutoSeq1.sub_tuple_tuple
abbrev Wn:=@Array.getElem?_toList
abbrev Wm:=@PySem.F.slot_list_lt
abbrev Wl:=@Nat.pow_le_pow_right
abbrev Wk:=@PySem.richCompare_meets_room
abbrev Wj:=@PySem.call_meets
abbrev Wi:=@beq_eq_false_iff_ne
abbrev Wh:=@PySem.SetTable.insertAt_perm
abbrev Wg:=@Nat.pow_le_pow_left
abbrev Wf:=@List.length_zipWith
abbrev We:=@Int.toNat_of_nonneg
abbrev Wd:=@PySem.wpAny_execs_nil
abbrev Wc:=@PySem.F.slot_zip_next
abbrev Wb:=@PyProof.Rows.wpS_get
abbrev Wa:=@PySem.wpAny_notOrdered_dict
abbrev V_:=@PySem.wpAny_of_eq
abbrev V9:=@PySem.wpAny_newTuple
abbrev V8:=@PySem.wpAny_letGo
abbrev V7:=@PySem.isSubtype_type
abbrev V6:=@PyProof.Rows.F.plain_set_update_loop
abbrev V5:=@PyProof.Rows.listItems_at
abbrev U:=@some
abbrev M:=@none
abbrev Y:=false
abbrev L:=true
abbrev PySem.Shared.z(s:PySem.Shared):Nat:=s.heap.objs.size
open PySem PyProof.Rows in
def eS{P:Y0}{w:YM}{A:Za}{q:Type}{c:Prop}[Decidable c]{t e:Sem q}{Q:q->ZR->Prop}{E:Z3->ZR->Prop}{s:ZR}(h:c)(k:wpAny (model P w) A t Q E s):wpAny (model P w) A (if c then t else e) Q E s:=by rw[ZO h];exact k
open PySem PyProof.Rows in
def dM{P:Y0}{w:YM}{A:Za}{q:Type}{c:Prop}[Decidable c]{t e:Sem q}{Q:q->ZR->Prop}{E:Z3->ZR->Prop}{s:ZR}(h:¬c)(k:wpAny (model P w) A e Q E s):wpAny (model P w) A (if c then t else e) Q E s:=by rw[ZJ h];exact k
open PySem PyProof.Rows in
def aR{P:Y0}{w:YM}{A:Za}{q σ:Type}{c:Prop}[Decidable c]{t e:StateT σ Sem q}{Q:q->σ->Prop}{E:Z3->ZR->Prop}{s:ZR}{st:σ}(h:c)(k:wpS (model P w) A E s t Q st):wpS (model P w) A E s (if c then t else e) Q st:=by rw[ZO h];exact k
open PySem PyProof.Rows in
def aN{P:Y0}{w:YM}{A:Za}{q σ:Type}{c:Prop}[Decidable c]{t e:StateT σ Sem q}{Q:q->σ->Prop}{E:Z3->ZR->Prop}{s:ZR}{st:σ}(h:¬c)(k:wpS (model P w) A E s e Q st):wpS (model P w) A E s (if c then t else e) Q st:=by rw[ZJ h];exact k
section
namespace L2
open PySem PySem.Spec PyProof.Rows PySem.W
class Lams where
 tb:Z9 (ZM×Str)
variable[Lams]
noncomputable def defArgs(s:Stmt):Arguments:=match s with
 |.FunctionDef _ a _ _ _ _ _ _ _ _=>a
 |_=>{posonlyargs:=[],args:=[],vararg:=M,kwonlyargs:=[],kw_defaults:=[],kwarg:=M,defaults:=[]}
def defBody(s:Stmt):Z9 Stmt:=match s with
 |.FunctionDef _ _ b _ _ _ _ _ _ _=>b
 |_=>[]
def defScope(s:Stmt):Scope:=match s with
 |.FunctionDef _ _ _ _ _ _ sc _ _ _=>sc
 |_=>{kind:=.function,names:=[],isGenerator:=Y,isCoroutine:=Y}
def AD(h:Heap):Frag:=(List.range h.objs.size).filterMap λa=>(h.get? a).bind λo=>if o.cls != .none||a==mainGlobals then U (a,o) else M
abbrev acx:=Str×Str×Arguments×FuncBody×Scope×ZM×Z9 (Str×ZM)×Z3×ZM
def BN(fd:FuncData):acx:=(fd.name,fd.qualname,fd.params,fd.body,fd.scope,fd.globals,fd.closure,fd.defaults,fd.builtins)
noncomputable def DM(K:Frag)(x:Str):Z8 acx:=match nsIn K mainGlobals x with
 |some (some (.ref f))=>(match K.lookup f with
  |some ⟨_,_,.func fd,_⟩=>if codeIn K fd.code x then U (BN fd) else M
  |_=>M)
 |_=>M
def v5(x:Str)(st:Stmt):acx:=(x,x,defArgs st,.stmts (defBody st),defScope st,mainGlobals,[],.none,builtinsNs)
noncomputable def oQ(K:Frag)(x:Str):Z8 Z3:=match nsIn K mainGlobals x with
 |some (some (.ref f))=>(match K.lookup f with
  |some ⟨_,_,.func fd,_⟩=>U fd.code
  |_=>M)
 |_=>M
def Gp:Obj:={cls:=.none,data:=.fields #[]}
noncomputable def YfH(defs:Z9 (Str×Stmt))(bl:Z9 Str)(cs:Z9 (Str×ZM))(s:ZR):=
 (λ(h:Heap) (K:Frag)=>(defs.map (λp=>DM K p.1),bl.map (nsIn K mainGlobals),cs.map (λp=>oQ K p.1),Lams.tb.map (λq=>h.get? q.1),(Lams.tb.zip cs).map (λq=>codeHdIn K q.2.2 q.1.1),Lams.tb.map (λq=>K.lookup q.1))) s.heap (AD s.heap)
noncomputable def YaH(defs:Z9 (Str×Stmt))(bl:Z9 Str)(cs:Z9 (Str×ZM))(_:YM):=
 (defs.map (λp=>U (v5 p.1 p.2)),bl.map (λ_=>U (M:Z8 Z3)),cs.map (λp=>U (Value.ref p.2)),Lams.tb.map (λ_=>U Gp),(Lams.tb.zip cs).map (λ_=>L),Lams.tb.map (λ_=>(M:Z8 Obj)))
end L2
namespace K34
open PySem L2
def top(i:Nat):Stmt:=PySem.Challenge.pw_mustrows_k34_whole_mended.main.body.getD i (.Pass ⟨0,0,0,0⟩)
abbrev Go:=top 1
abbrev Gw:=top 2
abbrev FH:=top 6
abbrev FI:=top 13
abbrev Gk:=top 12
abbrev F8:=top 11
abbrev Bq:=top 10
abbrev FR:=top 16
abbrev FK:=top 14
abbrev FF:=top 17
abbrev Fv:=top 15
abbrev FZ:=top 9
abbrev Gj:=top 8
abbrev F6:=top 4
abbrev F2:=top 5
abbrev Gg:=top 7
abbrev Gn:=top 19
abbrev Gx:=top 25
abbrev FP:=top 22
abbrev Gy:=top 24
abbrev Ga:=top 26
abbrev FT:=top 23
abbrev FA:=top 20
abbrev Fu:=top 21
abbrev Gu:=top 28
abbrev FU:=top 29
abbrev F4:=top 30
abbrev Fy:=top 31
abbrev Fz:=top 32
abbrev F3:=top 33
abbrev Gs:=top 34
abbrev FM:=top 35
abbrev Fx:=top 36
abbrev FX:=top 37
abbrev FQ:=top 38
abbrev s_law:=top 39
noncomputable abbrev blK:Z9 Str:=["any","dict","enumerate","len","list","range","set","sorted","sum","tuple","zip"]
noncomputable def defsK:Z9 (Str×Stmt):=([("stand_of",Go),("exchanged",Gw),("letters_of",FH),("binding_of",FI),("bindings",Gk),("is_linked",F8),("search_order",Bq),("places_of",FR),("grouped",FK),("picked",FF),("extended",Fv),("joined_from",FZ),("fits_from",Gj),("fits",F6),("filled",F2),("joined",Gg),("fresh",Gn),("two_terms",Gx)]:Z9 (Str×Stmt))++([("deciding_letters",FP),("is_unlike",Gy),("two_cells",Ga),("broken_cells",FT),("broken",FA),("keeps",Fu),("_law_mix",Gu),("_law_words",FU),("_law_world",F4),("_law_letters",Fy),("_law_cell_by",Fz),("_law_row",F3),("_law_stand",Gs),("_law_pattern",FM),("_law_head",Fx),("_law_new",FX),("_law_each",FQ),("law",s_law)]:Z9 (Str×Stmt))
end K34
def Ea:Z9 Nat:=((PySem.Challenge.pw_mustrows_k34_whole_mended.main.body.zipIdx.filter λp=>match p.1 with|.FunctionDef .. =>true|_=>false).map (·.2))
theorem K34.hl0:PySem.W.LeftO PySem.Challenge.rw_mustrows_k34_whole_mended.row.prog (PySem.W.view PySem.Challenge.pw_mustrows_k34_whole_mended Ea) [] (fun _=>true) (@L2.YfH ⟨[(62,"search_order.<locals>.<lambda>")]⟩ K34.defsK K34.blK [("search_order",64)]) (@L2.YaH ⟨[(62,"search_order.<locals>.<lambda>")]⟩ K34.defsK K34.blK [("search_order",64)]) 2000:=fun w=>by kernel_rfl
theorem K34.hl1:PySem.Challenge.rw_mustrows_k34_whole_mended.wellSaid=true:=by kernel_rfl
theorem K34.hl7:(PySem.W.chainsOk (PySem.W.view PySem.Challenge.pw_mustrows_k34_whole_mended Ea)&&PySem.W.opensWell PySem.Challenge.rw_mustrows_k34_whole_mended.row.prog&&(PySem.W.frees PySem.Challenge.rw_mustrows_k34_whole_mended.row.toRowW&&PySem.Challenge.rw_mustrows_k34_whole_mended.row.within.isEmpty))=true:=by kernel_rfl
namespace L2
theorem bj{q:Type u}{x a:q}{xs:Z9 q}:(x::xs).set 0 a=a::xs:=rfl
theorem bq{q:Type u}{x a:q}{xs:Z9 q}{i:Nat}:(x::xs).set (i+1) a=x::xs.set i a:=rfl
theorem cK{q:Type u}{a:q}{as:Z9 q}:(a::as).length=as.length+1:=rfl
theorem jQ{q:Type u}:([]:Z9 q).length=0:=rfl
def jR{q:Type u}{a:q}{l:Z9 q}{f:q->Bool}:(a::l).all f=(f a&&l.all f):=rfl
open PySem PySem.Spec PyProof.Rows
abbrev Key:=Sum Int Str
inductive D where
 |non|bl (b:Bool)|int (i:Int)|str (x:Str)|tup (ds:List D)|lst (ds:List D)|dK (ks:List Key) (vs:List D)
 |dD (ks vs:List D)
instance:DecidableEq D:=λ_ _=>Classical.propDecidable _
def aW:Nat->D->Bool
 |_,.int _=>L
 |_,.str _=>L
 |n+1,.tup ds=>ds.all (aW n)
 |_,_=>Y
mutual
def cE(w:YM):D->Int
 |.int i=>hashInt i
 |.str x=>hashStr w x
 |.tup ds=>reduceHash (Builtin.Tuple.tupleHashOf (jV w ds))
 |_=>0
def jV(w:YM):Z9 D->Z9 Int
 |[]=>[]
 |d::ds=>cE w d::jV w ds
end
theorem iz(w:YM):∀ds:Z9 D,jV w ds=ds.map (cE w)
 |[]=>by simp[jV]
 |d::ds=>by simp[jV,iz w ds]
def cw(h:aW n (.tup ds)=L):∃k,n=k+1/\ds.all (aW k)=L:=by
 cases n with
 |zero=>simp[aW]at h
 |succ n=>exact⟨n,rfl,by simpa[aW]using h⟩
mutual
def dw:D->Nat
 |.int _=>1
 |.str _=>1
 |.tup ds=>cG ds+1
 |_=>0
def cG:Z9 D->Nat
 |[]=>0
 |d::ds=>dw d+cG ds
end
theorem fW(d:D):∀ds:Z9 D,cG (ds++[d])=cG ds+dw d
 |[]=>by simp[cG]
 |x::ds=>by rw[List.cons_append];simp only[cG];rw[fW d ds];lia
mutual
def RH(h:Heap):D->Z3->Prop
 |.int i,v=>∃t,v=.int i t
 |.str x,v=>∃t,v=.str x t
 |.tup ds,v=>∃a its,v=.ref a/\IsTup h a its.toArray/\RHs h ds its
 |_,_=>False
def RHs(h:Heap):Z9 D->Z9 Z3->Prop
 |[],vs=>vs=[]
 |d::ds,vs=>∃v r,vs=v::r/\RH h d v/\RHs h ds r
end
theorem RHs.length:∀{ds:Z9 D}{vs:Z9 Z3},RHs h ds vs->ds.length=vs.length
 |[],vs,r=>by simp only[RHs]at r;subst r;rfl
 |d::ds,vs,r=>by
  simp only[RHs]at r;obtain⟨v,q,rfl,_,r2⟩:=r;simp[RHs.length r2]
theorem RHs.get:∀{ds:Z9 D}{vs:Z9 Z3}{i:Nat}{d:D},RHs h ds vs->ds[i]?=U d->∃v,vs[i]?=U v/\RH h d v
 |[],vs,i,d,_,e=>by simp at e
 |x::ds,vs,0,d,r,e=>by
  simp only[RHs]at r;obtain⟨v,q,rfl,r1,_⟩:=r;simp at e;subst e;exact⟨v,rfl,r1⟩
 |x::ds,vs,i+1,d,r,e=>by
  simp only[RHs]at r;obtain⟨v,q,rfl,_,r2⟩:=r;obtain⟨u,h1,h2⟩:=RHs.get (i:=i) (d:=d) r2 (by simpa using e);exact⟨u,by simpa using h1,h2⟩
mutual
theorem RH.inj:∀{d e:D}{v:Z3},RH h d v->RH h e v->d=e
 |.int i,e,v,r,q=>by
  simp only[RH]at r;obtain⟨t,rfl⟩:=r;cases e<;>simp only[RH]at q<;>first
   |(obtain⟨t',z⟩:=q;cases z;rfl)
   |(obtain⟨t',z⟩:=q;cases z;done)
   |(obtain⟨a,its,z,_⟩:=q;cases z)
   |cases q
 |.str i,e,v,r,q=>by
  simp only[RH]at r;obtain⟨t,rfl⟩:=r;cases e<;>simp only[RH]at q<;>first
   |(obtain⟨t',z⟩:=q;cases z;rfl)
   |(obtain⟨t',z⟩:=q;cases z;done)
   |(obtain⟨a,its,z,_⟩:=q;cases z)
   |cases q
 |.tup ds,e,v,r,q=>by
  simp only[RH]at r;obtain⟨a,its,rfl,⟨o,g,_,n,hd⟩,rs⟩:=r;cases e with
  |tup es=>
   simp only[RH]at q;obtain⟨b,Sq,z,⟨o',g',_,n',z_⟩,qs⟩:=q;cases z;rw[g]at g';obtain rfl:=Z7 g';rw[hd]at z_;have:its.toArray=Sq.toArray:=by injection z_
   have e2:its=Sq:=by simpa using this
   subst e2;rw[RHs.inj rs qs]
  |int _=>simp only[RH]at q;obtain⟨t',z⟩:=q;trivial
  |str _=>simp only[RH]at q;obtain⟨t',z⟩:=q;trivial
  |_=>simp only[RH]at q
 |.non,e,v,r,q=>by simp only[RH]at r
 |.bl _,e,v,r,q=>by simp only[RH]at r
 |.lst _,e,v,r,q=>by simp only[RH]at r
 |.dK _ _,e,v,r,q=>by simp only[RH]at r
 |.dD _ _,e,v,r,q=>by simp only[RH]at r
theorem RHs.inj:∀{ds es:Z9 D}{vs:Z9 Z3},RHs h ds vs->RHs h es vs->ds=es
 |[],es,vs,r,q=>by
  simp only[RHs]at r;subst r;cases es with
  |nil=>rfl
  |cons e es=>simp only[RHs]at q;obtain⟨v,z,e,_⟩:=q;trivial
 |d::ds,es,vs,r,q=>by
  simp only[RHs]at r;obtain⟨v,z,rfl,r1,r2⟩:=r;cases es with
  |nil=>simp only[RHs]at q;trivial
  |cons e es=>
   simp only[RHs]at q;obtain⟨v',z',e',q1,q2⟩:=q;cases e';rw[RH.inj r1 q1,RHs.inj r2 q2]
end
mutual
theorem RH.to(k:∀a o,h.get? a=U o->o.cls=.type "tuple"->(∃its n,o.data=.seq its n)->h'.get? a=U o):∀{d:D}{v:Z3},RH h d v->RH h' d v
 |.int i,v,r=>by simp only[RH]at r⊢;exact r
 |.str i,v,r=>by simp only[RH]at r⊢;exact r
 |.tup ds,v,r=>by
  simp only[RH]at r⊢;obtain⟨a,its,e,⟨o,g,hc,n,hd⟩,rs⟩:=r;exact⟨a,its,e,⟨o,k a o g hc ⟨_,_,hd⟩,hc,n,hd⟩,RHs.to k rs⟩
 |.non,v,r=>by simp only[RH]at r
 |.bl _,v,r=>by simp only[RH]at r
 |.lst _,v,r=>by simp only[RH]at r
 |.dK _ _,v,r=>by simp only[RH]at r
 |.dD _ _,v,r=>by simp only[RH]at r
theorem RHs.to(k:∀a o,h.get? a=U o->o.cls=.type "tuple"->(∃its n,o.data=.seq its n)->h'.get? a=U o):∀{ds:Z9 D}{vs:Z9 Z3},RHs h ds vs->RHs h' ds vs
 |[],vs,r=>by simp only[RHs]at r⊢;exact r
 |d::ds,vs,r=>by
  simp only[RHs]at r⊢;obtain⟨v,z,e,r1,r2⟩:=r;exact⟨v,z,e,RH.to k r1,RHs.to k r2⟩
end
def xS:∀(n:Nat)(d:D)(u:Z3)(A:Za)(s:ZR)(Q:Int->ZR->Prop)(E:Z3->ZR->Prop),aW n d=L->A.units+2*n+2<cLine->RH s.heap d u->
  Q (cE w d) {s with toks:=s.toks+dw d}->wpAny (model P w) A (pyHash u) Q E s:=by
 intro n
 induction n using Nat.strongRecOn with
 |ind n ih=>
 intro d u A s Q E hd hA rd hQ;cases d with
 |int i=>
  simp only[RH]at rd;obtain⟨t,rfl⟩:=rd;simp only[cE,dw]at hQ;exact wpAny_pyHash_int hQ
 |str i=>
  simp only[RH]at rd;obtain⟨t,rfl⟩:=rd;simp only[cE,dw]at hQ;exact wpAny_pyHash_str hQ
 |tup ds=>
  simp only[RH]at rd;obtain⟨a,its,rfl,⟨o,ho,hc,m,r_⟩,hr⟩:=rd;obtain⟨k,rfl,z_⟩:=cw hd;have hT:s.TypeIs (.ref a) "tuple":=⟨o,ho,hc⟩;unfold pyHash;unfold pyHashByItsType;refine Z_ (wpAny_cRoomFor_or (.inr (by lia)) (Z_ (Yb hT Xc.lookup ?_)));show wpAny _ _ (if(U (Value.builtin "tuple.__hash__")==U Value.none)=L then _ else _) Q E _;refine dM (by rw[beq_builtin_none];exact Zl) ?_;refine Z_ (Yb hT Xc.lookup ?_);show wpAny _ _ (callSpecialIfBoundUnlessNone? (.ref a) "__hash__" _ >>= _) Q E _;refine Z_ (wpAny_callSpecialIfBoundUnlessNone?_slot hT Xc (YV Xc hT F.entry_tuple_hash ?_ (F.args_tuple_hash_1 _)));show wpAny _ _ (Builtin.Tuple.tupleItemsOf (.ref a) >>= _) _ _ _;refine Z_ (wpAny_tupleItemsOf ho r_ (Z_ ?_));rw[<-Xq];refine X4 _
   (λaq (b:Array Int) s'=>∃done left,ds=done++left/\RHs s.heap left aq/\b.toList=done.map (cE w)/\s'={s with toks:=s.toks+cG done})
   _ ?_ ?_ _ _ ⟨[],ds,rfl,by simpa using hr,rfl,rfl⟩
  .intro v aq b s' hz;obtain⟨done,left,rfl,hl,hb,rfl⟩:=hz
   cases left with
   |nil=>simp only[RHs]at hl;trivial
   |cons d' ID=>
    simp only[RHs]at hl;obtain⟨v',r',e',r1,r2⟩:=hl;cases e';have JE:aW k d'=L:=by
     rw[List.all_append,ZK,jR,ZK]at z_;exact z_.2.1
    refine Z_ (ih k (by lia) d' v _ _ _ _ JE ?_ r1 ?_);show A.units+1+2*k+2<cLine;lia
    .have et:({s with toks:=s.toks+cG done+dw d'}:ZR)={s with toks:=s.toks+cG (done++[d'])}:=by rw[fW,Nat.add_assoc]
     first
      |exact Z5 ⟨done++[d'],ID,by simp,r2,by simp[hb],et⟩
      |exact Z_ (Z5 (Z5 ⟨done++[d'],ID,by simp,r2,by simp[hb],et⟩))
  .intro b s' hz;obtain⟨done,left,rfl,hl,hb,rfl⟩:=hz
   have OL:left=[]:=by
    have:=hl.length;cases left with
    |nil=>rfl
    |cons _ _=>simp at this
   subst OL;rw[YX]at hQ;simp only[cE,iz,dw]at hQ;show wpAny _ _ (retInt (Builtin.Tuple.tupleHashOf b.toList)) _ _ _;rw[hb];refine wpAny_ret_mkInt ?_;show wpAny _ _ (if(decide (-(2:Int) ^ 63<=Builtin.Tuple.tupleHashOf (done.map (cE w)))&&decide (Builtin.Tuple.tupleHashOf (done.map (cE w))<2 ^ 63))=L then _ else _) Q E _;unfold reduceHash at hQ;by_cases hr:(decide (-(2:Int) ^ 63<=Builtin.Tuple.tupleHashOf (done.map (cE w)))&&decide (Builtin.Tuple.tupleHashOf (done.map (cE w))<2 ^ 63))=L;refine eS hr ?_;rw[ZO hr]at hQ;exact Z5 hQ;refine dM hr ?_;rw[ZJ hr]at hQ;exact Z_ (YC (Z5 hQ))
 |_=>simp[aW]at hd
def mE:∀(n:Nat)(d:D)(u:Z3)(A:Za)(s:ZR)(Q:Bool->ZR->Prop)(E:Z3->ZR->Prop),aW n d=L->RH s.heap d u->Q L s->wpAny (model P w) A (eqIsQuiet n u) Q E s:=by
 intro n
 induction n using Nat.strongRecOn with
 |ind n ih=>
 intro d u A s Q E hd rd hQ;cases d with
 |int i=>simp only[RH]at rd;obtain⟨t,rfl⟩:=rd;unfold eqIsQuiet;exact Z5 hQ
 |str i=>simp only[RH]at rd;obtain⟨t,rfl⟩:=rd;unfold eqIsQuiet;exact Z5 hQ
 |tup ds=>
  simp only[RH]at rd;obtain⟨a,its,rfl,⟨o,ho,hc,m,r_⟩,hr⟩:=rd;obtain⟨k,rfl,z_⟩:=cw hd;have hT:s.TypeIs (.ref a) "tuple":=⟨o,ho,hc⟩;unfold eqIsQuiet;refine Z_ (Yb hT F.slot_tuple_eq.lookup ?_);dsimp only;refine Z_ (X5 hT isSubtype_tuple_tuple ?_);simp only[YJ,ZY,Zj];refine Z_ (Yw ho r_ (Z_ ?_));simp only[Option.getD_some];rw[<-Xq];refine X4 _ (λaq b s'=>b.1=M/\s'=s/\∃left,left.all (aW k)=L/\RHs s.heap left aq) _ ?_ ?_ _ _ ⟨rfl,rfl,ds,z_,by simpa using hr⟩;intro v aq b s' hz;obtain⟨hb,rfl,left,w_,hl⟩:=hz;cases left with
  |nil=>simp only[RHs]at hl;trivial
  |cons d' ID=>
   simp only[RHs]at hl;obtain⟨v',r',e',r1,r2⟩:=hl;cases e';rw[jR,ZK]at w_;refine Z_ (ih k (by lia) d' v _ _ _ _ w_.1 r1 ?_);simp only[YJ,ZY,Zj];exact Z5 ⟨rfl,rfl,ID,w_.2,r2⟩
  rintro⟨b1,b2⟩ s' ⟨hb,rfl,_⟩
  simp only at hb;subst hb;exact Z5 hQ
 |_=>simp[aW]at hd
def B8:∀(ds es:Z9 D),ds.length=es.length->((List.range ds.length).all λj=>decide (ds[j]?=es[j]?))=decide (ds=es):=by
 intro ds es hl;rw[YL,ZX,Y_];constructor;intro h;refine WR λj=>?_;by_cases hj:j<ds.length;exact Zo (h j (Y5.mpr hj));rw[YG (by lia),YG (by lia)]
 rintro rfl j _
 exact Zu rfl
def AC(ds es:Z9 D):(((List.range (min ds.length es.length)).all λj=>decide (ds[j]?=es[j]?))&&ds.length==es.length)=decide (ds=es):=by
 by_cases hl:ds.length=es.length;rw[hl,Nat.min_self,Yr,Yd,<-hl,B8 ds es hl];rw[show(ds.length==es.length)=Y by simpa using hl,XB,ZD λz=>hl (by rw[z])]
open SeqAt in
def Ge:∀(n:Nat)(d e:D)(u w:Z3)(A:Za),aW n d=L->aW n e=L->A.units+n+1<cLine->RH s.heap d u->RH s.heap e w->EqAt A s u w (decide (d=e)):=by
 intro n
 induction n using Nat.strongRecOn with
 |ind n ih=>
 intro d e u w A hd he hA rd re;have hu:A.units<cLine:=by lia
 cases d with
 |int i=>
  simp only[RH]at rd;obtain⟨t',rfl⟩:=rd;cases e with
  |int j=>
   simp only[RH]at re;obtain⟨t,rfl⟩:=re;rw[show decide (D.int i=D.int j)=(i==j) by rw[YL,Y_,Zw,D.int.injEq]];exact EqAt.int_int i t' j t
  |str j=>simp only[RH]at re;obtain⟨t,rfl⟩:=re;rw[ZD nofun];exact EqAt.int_str i t' j t
  |tup es=>simp only[RH]at re;obtain⟨b,its,rfl,ht,_⟩:=re;rw[ZD nofun];exact EqAt.int_tuple i t' ht hu
  |_=>simp[aW]at he
 |str i=>
  simp only[RH]at rd;obtain⟨t',rfl⟩:=rd;cases e with
  |int j=>simp only[RH]at re;obtain⟨t,rfl⟩:=re;rw[ZD nofun];exact EqAt.str_int i t' j t
  |str j=>
   simp only[RH]at re;obtain⟨t,rfl⟩:=re;rw[show decide (D.str i=D.str j)=(i==j) by rw[YL,Y_,Zw,D.str.injEq]];exact EqAt.str_str i t' j t
  |tup es=>simp only[RH]at re;obtain⟨b,its,rfl,ht,_⟩:=re;rw[ZD nofun];exact EqAt.str_tuple i t' ht hu
  |_=>simp[aW]at he
 |tup ds=>
  have UC:=rd;simp only[RH]at rd;obtain⟨a,its,rfl,D_,hr⟩:=rd;obtain⟨k,rfl,z_⟩:=cw hd;cases e with
  |int j=>simp only[RH]at re;obtain⟨t,rfl⟩:=re;rw[ZD nofun];exact EqAt.tuple_int j t D_ hu
  |str j=>simp only[RH]at re;obtain⟨t,rfl⟩:=re;rw[ZD nofun];exact EqAt.tuple_str j t D_ hu
  |tup es=>
   have UB:=re;simp only[RH]at re;obtain⟨b,ka,rfl,B_,JW⟩:=re;obtain⟨k',e',LU⟩:=cw he;cases e';have l1:=hr.length;have l2:=JW.length;by_cases IP:a=b;subst IP;rw[Zu (RH.inj UC UB)];exact EqAt.same _;have el:∀j (h1:j<its.toArray.size) (h2:j<ka.toArray.size),EqAt A.in1 s its.toArray[j] ka.toArray[j] (decide (ds[j]?=es[j]?)):=λj h1 h2=>by
    simp only[ZT]at h1 h2;obtain⟨d',JE⟩:∃d',ds[j]?=U d':=⟨ds[j]'(by lia),by simp⟩
    obtain⟨e',MF⟩:∃e',es[j]?=U e':=⟨es[j]'(by lia),by simp⟩
    obtain⟨u',Kt,P4⟩:=hr.get JE;obtain⟨w',Qw,Iu⟩:=JW.get MF;have q:=ih k (Yl k) d' e' u' w' A.in1 ((ZX.mp z_) d' (Zg JE)) ((ZX.mp LU) e' (Zg MF)) (by show A.units+1+k+1<cLine;lia) P4 Iu;have g1:its.toArray[j]=u':=by simpa using(ZP.mp Kt).2
    have g2:ka.toArray[j]=w':=by simpa using(ZP.mp Qw).2
    rw[g1,g2,JE,MF,show decide (U d'=U e')=decide (d'=e') by simp];exact q
   have key:((List.range (min its.toArray.size ka.toArray.size)).all (λj=>decide (ds[j]?=es[j]?))&&its.toArray.size==ka.toArray.size)=decide (D.tup ds=D.tup es):=by
    rw[ZT,ZT,<-l1,<-l2,AC];simp only[D.tup.injEq]
   have rc:=RcAt.tuples D_ B_ hu el;rw[key]at rc;exact EqAt.of_refs IP rc
  |_=>simp[aW]at he
 |_=>simp[aW]at hd
noncomputable def bi(P:Y0)(w:YM):HeapKind P w D where
 is h d a:=aW 8 d=L/\RH h d (.ref a)
 hash:=cE w
 draws:=dw
 room A:=A.units+30<cLine
 inj hx hy:=RH.inj hx.2 hy.2
 keeps:=λ{h h' k a d o es ep} hk ho hd hs=>⟨hk.1,hk.2.to λb u g _ ⟨its,n,q⟩=>((hs.2 b (λe=>by subst e;rw[ho]at g;obtain rfl:=Z7 g;rw[hd]at q;trivial)).trans g)⟩
 pyHash:=λ{A E s k a Q} hr hk h=>xS 8 k _ A s Q E hk.1 (by lia) hk.2 h
 eqBool:=λ{A E s x y a b Q} hr hx hy h=>Ge 8 x y _ _ A hx.1 hy.1 (by lia) hx.2 hy.2 P w E Q h
 quiet:=λ{A E s k a Q} hk h=>mE 8 k _ A s Q E hk.1 hk.2 h
def qN:Key->Z3->Bool
 |.inl k,v=>Value.isInt k v
 |.inr x,v=>Value.isStrOf x v
def Ie(w:YM):Key->Int
 |.inl k=>hashInt k
 |.inr x=>hashStr w x
def aP:∀{k:Key}{v:Z3},qN k v=L->(∃i t,k=Sum.inl i/\v=Value.int i t)\/(∃x t,k=Sum.inr x/\v=Value.str x t)
 |.inl i,v,h=>by
  obtain⟨t,e⟩:=Value.isInt_shape (k:=i) (v:=v) h;exact .inl ⟨i,t,rfl,e⟩
 |.inr x,v,h=>by
  obtain⟨t,e⟩:=Value.isStrOf_shape (x:=x) (v:=v) h;exact .inr ⟨x,t,rfl,e⟩
def tS(i:Int)(t:Tok):qN (.inl i) (.int i t)=L:=by simp[qN,Value.isInt]
def sX(x:Str)(t:Tok):qN (.inr x) (.str x t)=L:=by simp[qN,Value.isStrOf]
def C7(a b:Int):decide ((Sum.inl a:Key)=Sum.inl b)=(a==b):=by
 by_cases e:a=b;subst e;simp;have h:¬(Sum.inl a:Key)=Sum.inl b:=λq=>e (Sum.inl.inj q);rw[ZD h];exact(Wi.mpr e).symm
def BW(a b:Str):decide ((Sum.inr a:Key)=Sum.inr b)=decide (a=b):=by
 by_cases e:a=b;subst e;simp;have h:¬(Sum.inr a:Key)=Sum.inr b:=λq=>e (Sum.inr.inj q);rw[ZD h,ZD e]
def BL(a:Int)(b:Str):decide ((Sum.inl a:Key)=Sum.inr b)=Y:=ZD (λq=>nomatch q)
def B0(a:Str)(b:Int):decide ((Sum.inr a:Key)=Sum.inl b)=Y:=ZD (λq=>nomatch q)
noncomputable def aB(prog:Y0)(w:YM):PySem.KeyKind prog w Key where
 is:=qN
 hash:=Ie w
 inj:=λv a b ha hb=>by
  rcases aP ha with⟨i,t,rfl,rfl⟩|⟨x,t,rfl,rfl⟩;rcases aP hb with⟨j,u,rfl,e⟩|⟨y,u,rfl,e⟩;injection e with e1 _;rw[e1];exact nomatch e;rcases aP hb with⟨j,u,rfl,e⟩|⟨y,u,rfl,e⟩;exact nomatch e;injection e with e1 _;rw[e1]
 byValue:=λk v h=>by
  rcases aP h with⟨i,t,rfl,rfl⟩|⟨x,t,rfl,rfl⟩<;>rfl
 pyHash:=λhv h=>by
  rcases aP hv with⟨i,t,rfl,rfl⟩|⟨x,t,rfl,rfl⟩;exact wpAny_pyHash_int h;exact wpAny_pyHash_str h
 eqBool:=λhu hv h=>by
  rcases aP hu with⟨i,t,rfl,rfl⟩|⟨x,t,rfl,rfl⟩;rcases aP hv with⟨j,u,rfl,rfl⟩|⟨y,u,rfl,rfl⟩;rw[C7]at h;exact wpAny_eqBool_int h;rw[BL]at h;exact SeqAt.EqAt.int_str i t y u _ _ _ _ h;rcases aP hv with⟨j,u,rfl,rfl⟩|⟨y,u,rfl,rfl⟩;rw[B0]at h;exact SeqAt.EqAt.str_int x t j u _ _ _ _ h;rw[BW]at h;exact wpAny_eqBool_str h
 «strs»:=λk x t v h=>by
  rcases aP h with⟨i,u,rfl,e⟩|⟨y,u,rfl,e⟩;exact nomatch e
  .injection e with e1 _
   subst e1;cases v<;>rfl
def f8(prog:Y0)(w:YM)(i:Int)(t:Tok):(aB prog w).is (.inl i) (.int i t)=L:=tS i t
def fQ(prog:Y0)(w:YM)(x:Str)(t:Tok):(aB prog w).is (.inr x) (.str x t)=L:=sX x t
inductive V where
 |non|bl (b:Bool)|int (i:Int)|str (x:Str)|byt (b:Array UInt8)|flt (b:UInt64)|ref (a:ZM)|ty (n:String)
 deriving DecidableEq
def RelV:V->Z3->Prop
 |.non,u=>u=Value.none
 |.bl b,u=>u=Value.bool b
 |.int i,u=>∃t,u=Value.int i t
 |.str x,u=>∃t,u=Value.str x t
 |.byt b,u=>∃t,u=Value.bytes b t
 |.flt b,u=>∃t,u=Value.float b t
 |.ref a,u=>u=Value.ref a
 |.ty n,u=>u=Value.type n
abbrev aab:Z9 V->Z9 Z3->Prop:=Paired RelV
theorem aab.length(r:aab xs us):xs.length=us.length:=Yn r
theorem aab.get:∀{xs:Z9 V}{us:Z9 Z3}{i:Nat}{x:V},aab xs us->xs[i]?=U x->∃u,us[i]?=U u/\RelV x u
 |_,_,_,_,.nil,e=>by simp at e
 |_,_,0,_,.cons r _,e=>by simp at e;subst e;exact⟨_,rfl,r⟩
 |_,_,i+1,x,.cons _ t,e=>by
  obtain⟨u,h1,h2⟩:=aab.get (i:=i) (x:=x) t (by simpa using e);exact⟨u,by simpa using h1,h2⟩
theorem aab.append:∀{xs ys:Z9 V}{us ws:Z9 Z3},aab xs us->aab ys ws->aab (xs++ys) (us++ws)
 |_,_,_,_,.nil,s=>s
 |_,_,_,_,.cons r t,s=>.cons r (aab.append t s)
theorem aab.take:∀{xs:Z9 V}{us:Z9 Z3}(n:Nat),aab xs us->aab (xs.take n) (us.take n)
 |_,_,0,_=>.nil
 |_,_,_+1,.nil=>.nil
 |_,_,n+1,.cons r t=>.cons r (aab.take n t)
theorem aab.drop:∀{xs:Z9 V}{us:Z9 Z3}(n:Nat),aab xs us->aab (xs.drop n) (us.drop n)
 |_,_,0,r=>r
 |_,_,_+1,.nil=>.nil
 |_,_,n+1,.cons _ t=>aab.drop n t
def aaV:Z8 V->Z8 Z3->Prop
 |some v,some u=>RelV v u
 |none,none=>True
 |_,_=>False
def KV{κ:Type}:Z9 (κ×V)->Z9 (κ×Z3)->Prop:=Paired λ(p:κ×V) (q:κ×Z3)=>p.1=q.1/\RelV p.2 q.2
def kV:Key->V
 |.inl i=>.int i
 |.inr x=>.str x
inductive HO where
 |lst (xs:List V)
 |tup (xs:List V)
 |dK (kvs:List (Key×V))|dD (kvs:List (D×V)) (ep:Nat)
 |own (x:ZM)
 |rng (lo hi:Int)
 |frz (o:Obj) (u:HO)
 |tbl (lq:Str) (ps:Array Z3)
 |ext (φ:Heap->Prop)
abbrev Hp:=ZM->Z8 HO
def upd(H:Hp)(a:ZM)(o:HO):Hp:=λb=>if b=a then U o else H b
def ah:upd H a o a=U o:=by unfold upd;rw[ZO rfl]
def ai(h:b≠a):upd H a o b=H b:=by unfold upd;rw[ZJ h]
def uU:upd (upd H a o) a u=upd H a u:=by
 funext b;unfold upd;split<;>rfl
def mf{H:Hp}(h:H a=U o)(h':H b=U u)(d:o≠u):a≠b:=by
 intro e;subst e;rw[h]at h';exact d (Z7 h')
def av{H:Hp}(h:H a=U o)(h':H b=M):a≠b:=by
 intro e;subst e;rw[h]at h';trivial
mutual
def KR(H:Hp):D->V->Prop
 |.int i,v=>v=.int i
 |.str x,v=>v=.str x
 |.tup ds,v=>∃a xs,v=.ref a/\H a=U (.tup xs)/\KRs H ds xs
 |_,_=>False
def KRs(H:Hp):Z9 D->Z9 V->Prop
 |[],xs=>xs=[]
 |d::ds,xs=>∃x r,xs=x::r/\KR H d x/\KRs H ds r
end
mutual
theorem KR.to(t:∀a xs,H a=U (.tup xs)->H' a=U (.tup xs)):∀{d:D}{v:V},KR H d v->KR H' d v
 |.int i,v,r=>by simp only[KR]at r⊢;exact r
 |.str i,v,r=>by simp only[KR]at r⊢;exact r
 |.tup ds,v,r=>by
  simp only[KR]at r⊢;obtain⟨a,xs,e,g,rs⟩:=r;exact⟨a,xs,e,t a xs g,KRs.to t rs⟩
 |.non,v,r=>by simp only[KR]at r
 |.bl _,v,r=>by simp only[KR]at r
 |.lst _,v,r=>by simp only[KR]at r
 |.dK _ _,v,r=>by simp only[KR]at r
 |.dD _ _,v,r=>by simp only[KR]at r
theorem KRs.to(t:∀a xs,H a=U (.tup xs)->H' a=U (.tup xs)):∀{ds:Z9 D}{xs:Z9 V},KRs H ds xs->KRs H' ds xs
 |[],xs,r=>by simp only[KRs]at r⊢;exact r
 |d::ds,xs,r=>by
  simp only[KRs]at r⊢;obtain⟨x,q,e,r1,r2⟩:=r;exact⟨x,q,e,KR.to t r1,KRs.to t r2⟩
end
def aar(H:Hp):Z9 (D×V)->Z9 (D×ZM×Z3)->Prop:=Paired λp q=>p.1=q.1/\aW 8 p.1=L/\KR H p.1 (.ref q.2.1)/\RelV p.2 q.2.2
section
variable(P:Y0)(w:YM)
def aam(H:Hp)(h:Heap)(a:ZM):HO->Prop
 |.lst xs=>xs.length<=sizeLine/\∃(its:Z9 Z3)(n:Nat),aab xs its/\h.get? a=U {cls:=.type "list",data:=.seq its.toArray n}
 |.tup xs=>xs.length<=sizeLine/\∃its:Z9 Z3,aab xs its/\IsTup h a its.toArray
 |.dK kvs=>kvs.length<=sizeLine/\(a==sysModules)=Y/\∃vs,KV kvs vs/\h.DictOf (aB P w) a vs
 |.dD kvs ep=>kvs.length<=sizeLine/\(a==sysModules)=Y/\∃xs,aar H kvs xs/\
   ∃o es,h.get? a=U o/\o.ExactDict/\o.data=.dict es ep/\es.toList=xs.map (entryOfKey (bi P w))/\(xs.map (·.1)).Nodup
 |.own _=>∃o,h.get? a=U o
 |.rng lo hi=>∃t u v,h.get? a=U {cls:=.type "range",data:=.fields #[.int lo t,.int hi u,.int 1 v]}
 |.frz o u=>h.get? a=U o/\aam H h a u
 |.tbl lq ps=>h.get? a=U {cls:=.none,data:=.fields ps}/\TriplesOk ps.toList/\∀pos cv,codeAmong pos ps.toList=U cv->
   ∃c' oc vs t,cv=.ref c'/\H c'=U (.own a)/\h.get? c'=U oc/\oc.data=.fields vs/\vs[1]?=U (.str lq t)
 |.ext φ=>φ h/\(∃o,h.get? a=U o)/\∀h1 h2:Heap,φ h1->(∀o,h1.get? a=U o->h2.get? a=U o)->φ h2
def HOk(H:Hp)(h:Heap):Prop:=∀a o,H a=U o->aam P w H h a o
end
section
variable{H':Hp}{h':Heap}{a:ZM}{o:HO}
theorem aam.lt(x:aam P w H h a o):a<h.objs.size:=by
 cases o with
 |lst xs=>obtain⟨_,_,_,_,e⟩:=x;exact ZQ e
 |tup xs=>obtain⟨_,_,_,p⟩:=x;exact p.lt
 |dK kvs=>obtain⟨_,_,_,_,o,_,_,e,_⟩:=x;exact ZQ e
 |dD kvs ep=>obtain⟨_,_,_,_,o,_,e,_⟩:=x;exact ZQ e
 |own y=>obtain⟨_,e⟩:=x;exact ZQ e
 |rng lo hi=>obtain⟨_,_,_,e⟩:=x;exact ZQ e
 |frz ob u=>obtain⟨e,_⟩:=x;exact ZQ e
 |tbl lq ps=>exact ZQ x.1
 |ext φ=>obtain⟨_,⟨_,e⟩,_⟩:=x;exact ZQ e
theorem Paired.abV{q O:Type}{F G:q->O->Prop}:∀{l₁:Z9 q}{l₂:Z9 O},Paired F l₁ l₂->(∀a b,F a b->G a b)->Paired G l₁ l₂
 |_,_,.nil,_=>.nil
 |_,_,.cons r t,f=>.cons (f _ _ r) (Paired.abV t f)
def aam.abl(x:aam P w H h a o)(k:∀b u,(b=a\/H b=U (.own a))->h.get? b=U u->h'.get? b=U u)(ho:∀b,H b=U (.own a)->H' b=U (.own a))(ht:∀b xs,H b=U (.tup xs)->H' b=U (.tup xs)):aam P w H' h' a o:=by
 induction o with
 |lst xs=>obtain⟨z,its,n,r,e⟩:=x;exact⟨z,its,n,r,k _ _ (.inl rfl) e⟩
 |tup xs=>obtain⟨z,its,r,ob,e,c⟩:=x;exact⟨z,its,r,ob,k _ _ (.inl rfl) e,c⟩
 |dK kvs=>obtain⟨z,y,vs,r,ob,es,ep,e,c⟩:=x;exact⟨z,y,vs,r,ob,es,ep,k _ _ (.inl rfl) e,c⟩
 |dD kvs ep=>
  obtain⟨z,y,xs,r,ob,es,e,c⟩:=x;exact⟨z,y,xs,Paired.abV r λp q z=>⟨z.1,z.2.1,KR.to ht z.2.2.1,z.2.2.2⟩,ob,es,k _ _ (.inl rfl) e,c⟩
 |own y=>obtain⟨ob,e⟩:=x;exact⟨ob,k _ _ (.inl rfl) e⟩
 |rng lo hi=>obtain⟨t,u,v,e⟩:=x;exact⟨t,u,v,k _ _ (.inl rfl) e⟩
 |frz ob u ih=>obtain⟨e,q⟩:=x;exact⟨k _ _ (.inl rfl) e,ih q⟩
 |tbl lq ps=>
  obtain⟨e,tr,r⟩:=x;refine⟨k _ _ (.inl rfl) e,tr,λpos cv q=>?_⟩;obtain⟨c',oc,vs,t,e1,e2,e3,e4⟩:=r pos cv q;exact⟨c',oc,vs,t,e1,ho _ e2,k _ _ (.inr e2) e3,e4⟩
 |ext φ=>obtain⟨p,⟨o,e⟩,st⟩:=x;exact⟨st _ _ p λo q=>k _ _ (.inl rfl) q,⟨o,k _ _ (.inl rfl) e⟩,st⟩
theorem HOk.lt(x:HOk P w H h)(e:H a=U o):a<h.objs.size:=(x a o e).lt
def HOk.fresh(x:HOk P w H h)(e:h.objs.size<=a):H a=M:=by
 cases q:H a with
 |none=>rfl
 |some u=>exact absurd (ZA (x.lt q) e) (Zc _)
def HOk.kept(x:HOk P w H h)(k:∀b u,h.get? b=U u->h'.get? b=U u):HOk P w H h':=λa o e=>
 (x a o e).abl (λb u _ q=>k b u q) (λ_ q=>q) λ_ _ q=>q
def HOk.laid(x:HOk P w H h)(k:∀b u,h.get? b=U u->h'.get? b=U u)(hp:h.objs.size<=a)(new:aam P w (upd H a o) h' a o):HOk P w (upd H a o) h':=λb u e=>by
 have hn:=x.fresh hp;by_cases hb:b=a;subst hb;rw[ah]at e;obtain rfl:=Z7 e;exact new;rw[ai hb]at e;exact(x b u e).abl (λc v _ q=>k c v q) (λc q=>by rw[ai (av q hn)];exact q) λc xs q=>by rw[ai (av q hn)];exact q
end
def Rd(H:Hp)(a:ZM)(u:HO):Prop:=H a=U u\/∃o,H a=U (.frz o u)
def Rd.ok(r:Rd H a u)(x:HOk P w H h):aam P w H h a u:=by
 rcases r with r|⟨o,r⟩;exact x a u r;obtain⟨_,q⟩:=x a _ r;exact q
def Mut:Z8 HO->Prop
 |some (.lst _)=>True
 |some (.dK _)=>True
 |some (.dD _ _)=>True
 |some (.ext _)=>True
 |_=>False
section
variable{h':Heap}
def HOk.write(ok:HOk P w H h)(mu:Mut (H x))(he:e=x\/H e=U (.own x))(k:∀b u,b≠e->h.get? b=U u->h'.get? b=U u)(Mi:∃u,h'.get? e=U u)(new:aam P w (upd H x o') h' x o'):HOk P w (upd H x o') h':=λb u q=>by
 have KG:∀c y,H c=U (.own y)->c≠x:=λc y r z=>by subst z;rw[r]at mu;exact mu
 have MN:∀c xs,H c=U (.tup xs)->c≠x:=λc xs r z=>by subst z;rw[r]at mu;exact mu
 by_cases hb:b=x;subst hb;rw[ah]at q;obtain rfl:=Z7 q;exact new;rw[ai hb]at q;by_cases MH:b=e;have q':H b=U (.own x):=by
  rcases he with z|z;exact absurd (MH.trans z) hb;rw[MH];exact z
 rw[q]at q';obtain rfl:=Z7 q';obtain⟨v,hv⟩:=Mi;exact⟨v,by rw[MH];exact hv⟩;refine(ok b u q).abl (λc v hc r=>k c v ?_ r) (λc r=>by rw[ai (KG c b r)];exact r) λc xs r=>by rw[ai (MN c xs r)];exact r
 rcases hc with rfl|hc;exact MH
 rintro rfl
 rcases he with z|z;exact KG c b hc z;rw[hc]at z;cases z;exact hb rfl
end
structure Un (fs ex:List ZM)(H H':Hp)(h h':Heap):Prop where
 keep:∀b o,h.get? b=some o->H b=none->b∉fs->b∉ex->h'.get? b=some o
 slot:∀b o,h.get? b=some o->H b=none->b∈fs->b∉ex->∃sl,h'.get? b=some {o with slots:=sl}
 free:∀b o,h.get? b=some o->H b=none->b∉ex->H' b=none
 there:∀b o,h.get? b=some o->b∉ex->∃o',h'.get? b=some o'
 aaZ:∀b xs,H b=some (.tup xs)->H' b=some (.tup xs)
 aaT:∀b o u,H b=some (.frz o u)->H' b=some (.frz o u)
 aa3:∀b lq ps,H b=some (.tbl lq ps)->∃more,H' b=some (.tbl lq (ps++more))
section
variable{H:Hp}{h h':Heap}
def Un.any(u:Un fs ex H H1 h h1)(q:h.get? b=U ob)(n:H b=M)(hx:b∉ex):∃sl,h1.get? b=U {ob with slots:=sl}:=by
 by_cases hb:b∈fs;exact u.slot b ob q n hb hx;exact⟨ob.slots,u.keep b ob q n hb hx⟩
def Un.kept(k:∀b u,h.get? b=U u->h'.get? b=U u):Un fs ex H H h h':=
 ⟨λb ob q _ _ _=>k b ob q,λb ob q _ _ _=>⟨ob.slots,k b ob q⟩,λ_ _ _ n _=>n,λb ob q _=>⟨ob,k b ob q⟩,λ_ _ q=>q,λ_ _ _ q=>q,λ_ lq ps q=>⟨#[],by rw[q];simp⟩⟩
def Un.refl:Un fs ex H H h h:=Un.kept λ_ _ q=>q
def Un.laid(k:∀b u,h.get? b=U u->h'.get? b=U u)(hp:h.objs.size<=a)(hn:H a=M):Un fs ex H (upd H a o) h h' where
 keep:=λb u q _ _ _=>k b u q
 slot:=λb u q _ _ _=>⟨u.slots,k b u q⟩
 free:=λb u q n _=>by rw[ai (Zt (ZA (ZQ q) hp))];exact n
 there:=λb u q _=>⟨u,k b u q⟩
 aaZ:=λb xs q=>by rw[ai (av q hn)];exact q
 aaT:=λb u xs q=>by rw[ai (av q hn)];exact q
 aa3:=λb lq ps q=>⟨#[],by rw[ai (av q hn),q];simp⟩
def Un.write(mu:Mut (H x))(he:e=x\/H e=U (.own x))(k:∀b u,b≠e->h.get? b=U u->h'.get? b=U u)(Mi:∃u,h'.get? e=U u):Un fs ex H (upd H x o) h h':=by
 have hx:∀b,H b=M->b≠x:=λb n z=>by subst z;rw[n]at mu;exact mu
 have hb:∀b,H b=M->b≠e:=λb n z=>by
  subst z;rcases he with r|r;exact hx b n r;rw[n]at r;trivial
 have hm:∀b u,H b=U u->¬Mut (U u)->b≠x:=λb u q nm z=>by subst z;rw[q]at mu;exact nm mu
 refine⟨λb u q n _ _=>k b u (hb b n) q,λb u q n _ _=>⟨u.slots,k b u (hb b n) q⟩,λb u q n _=>by rw[ai (hx b n)];exact n,λb u q _=>?_,
  λb xs q=>by rw[ai (hm b _ q λz=>z)];exact q,λb u xs q=>by rw[ai (hm b _ q λz=>z)];exact q,λb lq ps q=>⟨#[],by rw[ai (hm b _ q λz=>z),q];simp⟩⟩
 by_cases MH:b=e;subst MH;exact Mi;exact⟨u,k b u MH q⟩
end
def trk(h:Heap)(H:Hp):Z9 ZM:=(List.range h.objs.size).filter λa=>(H a).isSome
def wN(h:Heap)(H:Hp):Heap:=W.hideAll h (trk h H)
def rH(h:Heap)(H:Hp):(wN h H).objs.size=h.objs.size:=W.hideAll_size _ _
def vV(e:h.get? b=U o)(n:H b=M):(wN h H).get? b=U o:=
 W.hideAll_get _ e λhm=>by
  have q:(H b).isSome=L:=(Y6.mp hm).2;rw[n]at q;simp at q
def Ah(e:(wN h H).get? b=U o):h.get? b=U o/\H b=M:=by
 have e':h.get? b=U o:=W.of_hideAll (trk h H) e;refine⟨e',?_⟩;cases q:H b with
 |none=>rfl
 |some x=>
  have hm:b∈trk h H:=Y6.mpr ⟨Y5.mpr (ZQ e'),by simp[q]⟩;have z:(wN h H).get? b=M:=W.hideAll_none (trk h H) hm;rw[z]at e;trivial
noncomputable def z0(g h:Heap)(Lq:ZM):Z9 (ZM×Obj):=(List.range h.objs.size).filterMap λa=>if a=Lq\/(g.get? a).isSome=L then M else(h.get? a).map λo=>(a,o)
def aq(g h:Heap)(Lq d:ZM):Z9 (ZM×Obj):=(z0 g h Lq).filter λp=>decide (p.1≠d)
section
structure Mod (K:Z6)(mg:Str->Z8 Z3)(base:Heap):Prop where
 kin:K.In base
 glob:base.Ns mainGlobals mg
 blt:∃mb,base.Ns builtinsNs mb/\∀x:Str,x≠"__name__"->mb x=bootBuiltins x
 nolimit:base.NoLimit
 bmain:∃bm ob,mg "__builtins__"=some (.ref bm)/\bm≠builtinsNs/\base.get? bm=some ob/\ob.cls=.type "module"/\ob.dict=some builtinsNs/\ob.data=.plain
structure Cx where
 prog:Y0
 w:YM
 K:Z6
 mg:Str->Z8 Z3
 base:Heap
 A:Za
 N:List Str
 n_:ZR
 K0:Hp
 env:Env
 outer:List Env
 stack:List Env
 ex:List ZM
 fn:Str->Bool
 calm:Bool
 pn:List (ZM×Obj)
 xe:Z3->ZR->Prop
def frs(l:Z9 Env):Z9 ZM:=l.filterMap (·.frame)
abbrev Cx.fs(X:Cx):Z9 ZM:=frs X.outer
def Vis(sc:Scope)(x:Str):Prop:=sc.names.lookup x=U .local\/sc.names.lookup x=U .cell\/sc.names.lookup x=U .free
def Loc(sc:Scope)(x:Str):Prop:=sc.names.lookup x=U .local\/sc.names.lookup x=U .cell
def Hd(env:Env)(h:Heap)(m:Str->Z8 Z3)(x:Str)(u:Z3):Prop:=
 (env.kindOf x=U .local/\m x=U u)\/((env.kindOf x=U .cell\/env.kindOf x=U .free)/\∃c,env.cells.lookup x=U c/\h.IsCell c (U u))
variable[Lams]
def abW(H:Hp):Prop:=∀q∈Lams.tb,∃ps,H q.1=U (.tbl q.2 ps)
def abW.to(h:abW H)(tb:∀b lq ps,H b=U (.tbl lq ps)->∃more,H' b=U (.tbl lq (ps++more))):abW H':=λq hq=>by
 obtain⟨ps,e⟩:=h q hq;obtain⟨m,e'⟩:=tb _ _ _ e;exact⟨_,e'⟩
structure Cx.Ok (X:Cx):Prop where
 mod:Mod X.K X.mg X.base
 kind:X.env.scope.kind=.function
 glob:X.env.globals=mainGlobals
 blt:X.env.builtins=builtinsNs
 above:X.n_.heap.objs.size<=X.env.locals
 inj:∀x y c,X.env.cells.lookup x=some c->X.env.cells.lookup y=some c->x=y
 has:∀x,(X.env.kindOf x=some .cell\/X.env.kindOf x=some .free)->∃c,X.env.cells.lookup x=some c
 cab:∀x c,X.fn x=true->X.env.cells.lookup x=some c->X.n_.heap.objs.size<=c
 hd:X.calm=true->X.A.handled=none
 frames:X.A.frames=some X.stack
 stk:X.stack=X.outer\/(X.stack=X.env::X.outer/\X.env.frame=some X.env.locals)
 exf:∀b∈X.ex,b≠X.env.locals/\∀x c,X.env.cells.lookup x=some c->c≠b
 bs:∀b o,X.base.get? b=some o->X.n_.heap.get? b=some o/\X.K0 b=none
 bsz:X.base.objs.size<=X.n_.heap.objs.size
 ab6:∀b o,X.base.get? b=some o->b∉X.ex
 aci:∀b∈X.ex,b∉X.fs
 aa9:X.n_.heap.FunFrames X.base X.outer
 frf:∀b∈X.fs,X.K0 b=none
 tabs:abW X.K0
structure Inv (X:Cx)(pins:List (ZM×Obj))(σ:List (Z8 V))(H:Hp)(s:ZR):Prop where
 ok:X.Ok
 os:s.os=X.n_.os
 bare:AllBare s.gens
 base:Un X.fs X.ex X.K0 H X.n_.heap s.heap
 loc:∃m,s.heap.Ns X.env.locals m/\∀(i:Nat)(x:Str)(v:V),X.N[i]?=some x->σ[i]?=some (some v)->Vis X.env.scope x->∃u,RelV v u/\Hd X.env s.heap m x u
 cell:∀x c,X.env.cells.lookup x=some c->∃v,s.heap.IsCell c v
 free:H X.env.locals=none
 aaR:∀x c,X.env.cells.lookup x=some c->H c=none
 pin:∀p∈X.pn++pins,s.heap.get? p.1=some p.2/\H p.1=none/\p.1≠X.env.locals/\p.1∉X.fs/\∀v,p.2.data≠.cell v
 hok:HOk X.prog X.w H s.heap
 len:σ.length=X.N.length
section
variable{X:Cx}{H':Hp}{h':Heap}
def Cx.Ok.acP(ok:X.Ok)(e:X.base.get? b=U o):b∉X.fs:=λhb=>by
 have:=(ok.aa9.mem hb).1;rw[e]at this;trivial
theorem Inv.bs(I:Inv X pins σ H s):∀b o,X.base.get? b=U o->s.heap.get? b=U o/\H b=M:=λb o e=>
 ⟨I.base.keep b o (I.ok.bs b o e).1 (I.ok.bs b o e).2 (I.ok.acP e) (I.ok.ab6 b o e),I.base.free b o (I.ok.bs b o e).1 (I.ok.bs b o e).2 (I.ok.ab6 b o e)⟩
def Inv.bk(I:Inv X pins σ H s):∀b o,X.base.get? b=U o->s.heap.get? b=U o:=λb o e=>(I.bs b o e).1
theorem Inv.mod(I:Inv X pins σ H s):Mod X.K X.mg X.base:=I.ok.mod
def Inv.kIn(I:Inv X pins σ H s):X.K.In s.heap:=I.ok.mod.kin.keeps I.bk
theorem Inv.lt(I:Inv X pins σ H s):X.env.locals<s.z:=let ⟨_,hn,_⟩:=I.loc;hn.lt
def Inv.sz(I:Inv X pins σ H s):X.n_.z<=s.z:=ZH I.ok.above (WD I.lt)
def Inv.acr(I:Inv X pins σ H s)(h:s.z<=a):a∉X.fs:=λhb=>by
 obtain⟨_,o,ho,_⟩:=I.ok.aa9.mem hb;exact absurd (ZA (ZQ ho) (ZH I.sz h)) (Zc _)
def Inv.cne(I:Inv X pins σ H s):∀x c,X.env.cells.lookup x=U c->c≠X.env.locals:=λx c e z=>by
 obtain⟨v,o,ho,hd⟩:=I.cell x c e;obtain⟨m,⟨o',es,ep,Mz,z_,_⟩,_⟩:=I.loc;rw[z,Mz]at ho;obtain rfl:=Z7 ho;rw[z_]at hd;trivial
theorem Inv.aa9(I:Inv X pins σ H s):s.heap.FunFrames X.base X.outer:=by
 have all:∀(l:Z9 Env),(∀b∈frs l,b∈X.fs)->X.n_.heap.FunFrames X.base l->s.heap.FunFrames X.base l:=by
  intro l
  induction l with
  |nil=>intro _ _;trivial
  |cons env r ih=>
   intro hs hl;obtain⟨hk,⟨Lq,o,hf,hn,ho,hd⟩,hr⟩:=hl;have hL:Lq∈X.fs:=hs Lq (by unfold frs;rw[List.filterMap_cons,hf];exact ZW);obtain⟨sl,e⟩:=I.base.slot Lq o ho (I.ok.frf Lq hL) hL λz=>I.ok.aci Lq z hL;exact⟨hk,⟨Lq,_,hf,hn,e,hd⟩,ih (λb hb=>hs b (by unfold frs;rw[List.filterMap_cons,hf];exact Z2 _ hb)) hr⟩
 exact all X.outer (λ_ hb=>hb) I.ok.aa9
theorem Inv.stack(I:Inv X pins σ H s):s.heap.FunFrames X.base X.stack:=by
 rcases I.ok.stk with e|⟨e,hf⟩;rw[e];exact I.aa9;rw[e];obtain⟨m,hn,_⟩:=I.loc;refine .cons (by rw[I.ok.kind];decide) hf hn ?_ I.aa9;exact Heap.get?_none_of_le (ZH I.ok.bsz I.ok.above)
def Inv.abe(I:Inv X pins σ H s):∀b∈frs X.stack,b∈X.env.locals::X.fs:=λb hb=>by
 rcases I.ok.stk with e|⟨e,hf⟩;rw[e]at hb;exact Z2 _ hb;rw[e]at hb;unfold frs at hb;rw[List.filterMap_cons,hf]at hb;exact hb
def Inv.abO(I:Inv X pins σ H s):∀b∈frs X.stack,H b=M:=λb hb=>by
 rcases ZZ.mp (I.abe b hb)with e|hb;rw[e];exact I.free;obtain⟨_,o,ho,_⟩:=I.ok.aa9.mem hb;exact I.base.free b o ho (I.ok.frf b hb) λz=>I.ok.aci b z hb
def Inv.step{g':Array GenState}{t':Nat}{d':Drawn}{ch:Z9 ZM}(I:Inv X pins σ H s)
  (LI:∀b∈ch,(b∈X.ex\/X.n_.z<=b)/\b≠X.env.locals/\(∀x c,X.env.cells.lookup x=U c->c≠b)/\∀p∈X.pn++pins,p.1≠b)
  (keep:∀b o,b≠X.env.locals->b∉X.fs->b∉ch->s.heap.get? b=U o->H b=M->h'.get? b=U o)
  (slot:∀b o,b≠X.env.locals->b∈X.fs->b∉ch->s.heap.get? b=U o->H b=M->∃sl,h'.get? b=U {o with slots:=sl}) (free:∀b o,b∉ch->s.heap.get? b=U o->H b=M->H' b=M)
  (there:∀b o,b∉ch->s.heap.get? b=U o->∃o',h'.get? b=U o')
  (aaZ:∀b xs,H b=U (.tup xs)->H' b=U (.tup xs)) (aaT:∀b o u,H b=U (.frz o u)->H' b=U (.frz o u)) (aa3:∀b lq ps,H b=U (.tbl lq ps)->∃more,H' b=U (.tbl lq (ps++more)))
  (ns:∀m,s.heap.Ns X.env.locals m->h'.Ns X.env.locals m)(hok:HOk X.prog X.w H' h')(hg:AllBare g'):
  Inv X pins σ H' {s with heap:=h',gens:=g',drawn:=d',toks:=t'}:=by
 have Se:∀b o,X.n_.heap.get? b=U o->b≠X.env.locals:=λb o e=>Zt (ZA (ZQ e) I.ok.above);have O7:∀b o,X.n_.heap.get? b=U o->b∉X.ex->b∉ch:=λb o e hx hb=>by
  rcases(LI b hb).1 with z|z;exact hx z;exact absurd (ZA (ZQ e) z) (Zc _)
 have cellK:∀x c,X.env.cells.lookup x=U c->∀v,s.heap.IsCell c v->h'.IsCell c v:=λx c e v hz=>by
  obtain⟨o,ho,hd⟩:=hz;have NV:c∉ch:=λz=>(LI c z).2.2.1 x c e rfl;by_cases hc:c∈X.fs;obtain⟨sl,q⟩:=slot c o (I.cne x c e) hc NV ho (I.aaR x c e);exact⟨_,q,hd⟩;exact⟨o,keep c o (I.cne x c e) hc NV ho (I.aaR x c e),hd⟩
 refine⟨I.ok,I.os,hg,⟨λb o e n hb hx=>?_,λb o e n hb hx=>?_,λb o e n hx=>?_,λb o e hx=>?_,λb xs e=>aaZ b xs (I.base.aaZ b xs e),λb o xs e=>aaT b o xs (I.base.aaT b o xs e),λb lq ps e=>?_⟩,?_,λx c e=>?_,?_,λx c e=>?_,λp hp=>?_,hok,I.len⟩;exact keep b o (Se b o e) hb (O7 b o e hx) (I.base.keep b o e n hb hx) (I.base.free b o e n hx);obtain⟨sl,e1⟩:=I.base.slot b o e n hb hx;obtain⟨Ut,e2⟩:=slot b _ (Se b o e) hb (O7 b o e hx) e1 (I.base.free b o e n hx);exact⟨Ut,e2⟩;obtain⟨o',e1⟩:=I.base.there b o e hx;exact free b o' (O7 b o e hx) e1 (I.base.free b o e n hx);obtain⟨o',e1⟩:=I.base.there b o e hx;exact there b o' (O7 b o e hx) e1;obtain⟨m1,e1⟩:=I.base.aa3 b lq ps e;obtain⟨m2,e2⟩:=aa3 b lq _ e1;exact⟨m1++m2,by rw[e2,Array.append_assoc]⟩;obtain⟨m,hn,hl⟩:=I.loc;refine⟨m,ns m hn,λi x v e1 e2 e3=>?_⟩;obtain⟨u,r,l⟩:=hl i x v e1 e2 e3;refine⟨u,r,?_⟩;rcases l with l|⟨k,c,e,z⟩;exact .inl l;exact .inr ⟨k,c,e,cellK x c e _ z⟩;obtain⟨v,z⟩:=I.cell x c e;exact⟨v,cellK x c e v z⟩;obtain⟨m,⟨o,_,_,ho,_⟩,_⟩:=I.loc;exact free _ o (λz=>(LI _ z).2.1 rfl) ho I.free;obtain⟨v,o,ho,hd⟩:=I.cell x c e;exact free c o (λz=>(LI c z).2.2.1 x c e rfl) ho (I.aaR x c e);obtain⟨e,n,ne,nf,d⟩:=I.pin p hp;have NV:p.1∉ch:=λz=>(LI p.1 z).2.2.2 p hp rfl
 exact⟨keep p.1 p.2 ne nf NV e n,free p.1 p.2 NV e n,ne,nf,d⟩
def Inv.un(I:Inv X pins σ H s)(u:Un X.fs [] H H' s.heap h')(hok:HOk X.prog X.w H' h'):Inv X pins σ H' {s with heap:=h',toks:=t'}:=by
 obtain⟨m,⟨o,es,ep,ho,r⟩,_⟩:=id I.loc;obtain⟨sl,hL⟩:=u.any ho I.free (by simp);exact I.step (g':=s.gens) (d':=s.drawn) (ch:=[]) (λ_ z=>nomatch z) (λb o _ hb _ e n=>u.keep b o e n hb (by simp)) (λb o _ hb _ e n=>u.slot b o e n hb (by simp)) (λb o _ e n=>u.free b o e n (by simp)) (λb o _ e=>u.there b o e (by simp)) u.aaZ u.aaT u.aa3 (λm' hm=>by
  obtain⟨o',es',C_,Mz,r'⟩:=hm;rw[ho]at Mz;obtain rfl:=Z7 Mz;exact⟨_,es',C_,hL,r'⟩) hok I.bare
def Inv.call(I:Inv X pins σ H s)(u:Un (frs X.stack) ch H H' s.heap h')(hok:HOk X.prog X.w H' h')(hg:AllBare g')(LI:∀b∈ch,(b∈X.ex\/X.n_.z<=b)/\b≠X.env.locals/\(∀x c,X.env.cells.lookup x=U c->c≠b)/\∀p∈X.pn++pins,p.1≠b):
  Inv X pins σ H' {s with heap:=h',gens:=g',drawn:=d',toks:=t'}:=by
 obtain⟨m,⟨o,es,ep,ho,r⟩,_⟩:=id I.loc;obtain⟨sl,hL⟩:=u.any ho I.free λz=>(LI _ z).2.1 rfl;exact I.step (ch:=ch) LI (λb o hL hb hc e n=>u.keep b o e n (λz=>(ZZ.mp (I.abe b z)).elim hL hb) hc) (λb o _ _ hc e n=>u.any e n hc) (λb o hc e n=>u.free b o e n hc) (λb o hc e=>u.there b o e hc) u.aaZ u.aaT u.aa3 (λm' hm=>by
  obtain⟨o',es',C_,Mz,r'⟩:=hm;rw[ho]at Mz;obtain rfl:=Z7 Mz;exact⟨_,es',C_,hL,r'⟩) hok hg
def Inv.turned{t':Nat}{it:ZM}(I:Inv X pins σ H s)(k:∀b o,b≠it->s.heap.get? b=U o->h'.get? b=U o)(hn:H it=M)(hL:it≠X.env.locals)
  (h1:it∈X.ex\/X.n_.z<=it)(h2:∀x c,X.env.cells.lookup x=U c->c≠it)(h3:∀p∈X.pn++pins,p.1≠it):Inv X pins σ H {s with heap:=h',toks:=t'}:=by
 have Sd:∀b u,H b=U u->b≠it:=λb u e z=>by rw[z,hn]at e;trivial
 refine I.step (g':=s.gens) (d':=s.drawn) (ch:=[it]) (λb hb=>?_) (λb o _ _ hc e _=>k b o (λz=>hc (by simp[z])) e) (λb o _ _ hc e _=>⟨o.slots,k b o (λz=>hc (by simp[z])) e⟩) (λ_ _ _ _ n=>n)
  (λb o hc e=>⟨o,k b o (λz=>hc (by simp[z])) e⟩) (λ_ _ e=>e) (λ_ _ _ e=>e) (λb lq ps e=>⟨#[],by rw[e];simp⟩) (λm hm=>?_) (λb u e=>?_) I.bare
 have e:b=it:=by simpa using hb
 subst e;exact⟨h1,hL,h2,h3⟩;obtain⟨o,es,ep,ho,r⟩:=hm;exact⟨o,es,ep,k _ o (Zy hL) ho,r⟩;refine(I.hok b u e).abl (λc v hc q=>k c v ?_ q) (λ_ q=>q) λ_ _ q=>q;rcases hc with z|z
 rw[z];exact Sd b u e;exact Sd c _ z
def Inv.tok(I:Inv X pins σ H s)(t:Nat):Inv X pins σ H {s with toks:=t}:=I.un (h':=s.heap) (t':=t) Un.refl I.hok
theorem Inv.kept(I:Inv X pins σ H s)(k:∀b u,s.heap.get? b=U u->h'.get? b=U u):Inv X pins σ H {s with heap:=h',toks:=t'}:=I.un (Un.kept k) (I.hok.kept k)
theorem Inv.laid(I:Inv X pins σ H s)(k:∀b u,s.heap.get? b=U u->h'.get? b=U u)(hp:s.z<=a)(new:aam X.prog X.w (upd H a o) h' a o):
  Inv X pins σ (upd H a o) {s with heap:=h',toks:=t'}:=I.un (Un.laid k hp (I.hok.fresh hp)) (I.hok.laid k hp new)
theorem Inv.write(I:Inv X pins σ H s)(mu:Mut (H x))(he:e=x\/H e=U (.own x))(k:∀b u,b≠e->s.heap.get? b=U u->h'.get? b=U u)(Mi:∃u,h'.get? e=U u)(new:aam X.prog X.w (upd H x o) h' x o):Inv X pins σ (upd H x o) {s with heap:=h',toks:=t'}:=I.un (Un.write mu he k Mi) (I.hok.write mu he k Mi new)
def Inv.aaL(I:Inv X pins σ H s)(h:∀p∈IT,s.heap.get? p.1=U p.2/\H p.1=M/\p.1≠X.env.locals/\p.1∉X.fs/\∀v,p.2.data≠.cell v):Inv X IT σ H s:=
 ⟨I.ok,I.os,I.bare,I.base,I.loc,I.cell,I.free,I.aaR,λp hp=>(Zr.mp hp).elim (λz=>I.pin p (Y9 _ z)) (h p),I.hok,I.len⟩
def nW{N:Z9 Str}(hN:N.Nodup){i j:Nat}{x:Str}(a:N[i]?=U x)(b:N[j]?=U x):i=j:=by
 obtain⟨h1,e1⟩:=ZP.mp a;obtain⟨h2,e2⟩:=ZP.mp b;exact(List.getElem_inj hN).mp (e1.trans e2.symm)
def jU(I:Inv X pins σ H s)(hN:X.N.Nodup)(hi:X.N[i]?=U x)(hx:Loc X.env.scope x)(r:RelV v u)(h:∀s',Inv X pins (σ.set i (U v)) H s'->(∃a,Heap.SameBut a s.heap s'.heap/\(a=X.env.locals\/X.env.cells.lookup x=U a))->Q () s')(hf:X.fn x=L\/X.env.scope.names.lookup x=U .local:=by first|exact .inl rfl|exact .inr rfl|assumption):wpAny Mq A (storeName X.env x u) Q E s:=by
 obtain⟨m,hn,hl⟩:=id I.loc;have RB:(X.env.scope.kind==.class||(X.env.scope.kind==.module&&X.env.locals != X.env.globals))=Y:=by rw[I.ok.kind];rfl
 have OB:i<σ.length:=by rw[I.len];exact(ZP.mp hi).1
 have cne:=I.cne;have tracked:∀{a:ZM}{h':Heap},(∃o,s.heap.get? a=U o/\H a=M)->Heap.SameBut a s.heap h'->HOk X.prog X.w H h':=λ{a h'} ha hs b ob e=>by
  obtain⟨_,_,Kr⟩:=ha;refine(I.hok b ob e).abl (λc w' hc q=>(hs.2 c ?_).trans q) (λ_ q=>q) λ_ _ q=>q
  rintro rfl
  rcases hc with rfl|hc;rw[Kr]at e;trivial;rw[Kr]at hc;trivial
 rcases hx with hk|hk;refine wpAny_storeName_local hk hn (λh' LQ hs=>?_) RB;obtain⟨oL,_,_,My,_⟩:=id hn;refine h _ ⟨I.ok,I.os,I.bare,⟨λb o e n hb hx=>?_,λb o e n hb hx=>?_,I.base.free,λb o e hx=>?_,I.base.aaZ,I.base.aaT,I.base.aa3⟩,⟨_,LQ,λj y v' e1 e2 e3=>?_⟩,λy c e=>?_,I.free,I.aaR,λp hp=>?_,tracked ⟨oL,My,I.free⟩ hs,by simpa using I.len⟩ ⟨_,hs,.inl rfl⟩;exact(hs.2 b (Zt (ZA (ZQ e) I.ok.above))).trans (I.base.keep b o e n hb hx);obtain⟨sl,e1⟩:=I.base.slot b o e n hb hx;exact⟨sl,(hs.2 b (Zt (ZA (ZQ e) I.ok.above))).trans e1⟩;obtain⟨o',e1⟩:=I.base.there b o e hx;exact⟨o',(hs.2 b (Zt (ZA (ZQ e) I.ok.above))).trans e1⟩;by_cases hj:j=i;subst hj;rw[hi]at e1;obtain rfl:=Z7 e1;rw[ZG OB]at e2;cases e2;exact⟨u,r,.inl ⟨hk,by simp⟩⟩;rw[ZL (Zy hj)]at e2;obtain⟨u',r',q⟩:=hl j y v' e1 e2 e3;refine⟨u',r',?_⟩;rcases q with⟨k,e⟩|⟨k,c,e,z⟩;refine .inl ⟨k,?_⟩;have:y≠x:=λe=>hj (nW hN e1 (e▸hi))
 simp[this,e];exact .inr ⟨k,c,e,z.sameBut hs (cne y c e)⟩;obtain⟨w',z⟩:=I.cell y c e;exact⟨w',z.sameBut hs (cne y c e)⟩;obtain⟨e,n,ne,nf,d⟩:=I.pin p hp;exact⟨(hs.2 p.1 ne).trans e,n,ne,nf,d⟩;have QM:X.fn x=L:=by
  rcases hf with z|z;exact z;rw[z]at hk;trivial
 obtain⟨c,hc⟩:=I.ok.has x (.inl hk);obtain⟨w',z⟩:=I.cell x c hc;refine wpAny_storeName_cell I.ok.kind hk hc z (λh' MG hs=>?_);obtain⟨oc,N0,Rx⟩:=id z;refine h {s with heap:=h'} ⟨I.ok,I.os,I.bare,⟨λb o e n hb hx=>?_,λb o e n hb hx=>?_,I.base.free,λb o e hx=>?_,I.base.aaZ,I.base.aaT,I.base.aa3⟩,⟨m,hn.sameBut hs (Zy (cne x c hc)),λj y v' e1 e2 e3=>?_⟩,λy c' e=>?_,I.free,I.aaR,λp hp=>?_,tracked ⟨oc,N0,I.aaR x c hc⟩ hs,by simpa using I.len⟩ ⟨c,hs,.inr hc⟩;exact(hs.2 b (Zt (ZA (ZQ e) (I.ok.cab x c QM hc)))).trans (I.base.keep b o e n hb hx);obtain⟨sl,e1⟩:=I.base.slot b o e n hb hx;exact⟨sl,(hs.2 b (Zt (ZA (ZQ e) (I.ok.cab x c QM hc)))).trans e1⟩;obtain⟨o',e1⟩:=I.base.there b o e hx;exact⟨o',(hs.2 b (Zt (ZA (ZQ e) (I.ok.cab x c QM hc)))).trans e1⟩;by_cases hj:j=i;subst hj;rw[hi]at e1;obtain rfl:=Z7 e1;rw[ZG OB]at e2;cases e2;exact⟨u,r,.inr ⟨.inl hk,c,hc,MG⟩⟩;rw[ZL (Zy hj)]at e2;obtain⟨u',r',q⟩:=hl j y v' e1 e2 e3;refine⟨u',r',?_⟩;rcases q with q|⟨k,c',e,z'⟩;exact .inl q;refine .inr ⟨k,c',e,z'.sameBut hs ?_⟩
 rintro rfl
 exact hj (nW hN e1 (I.ok.inj _ _ _ e hc▸hi));by_cases S9:c'=c;subst S9;exact⟨_,MG⟩;obtain⟨w2,z2⟩:=I.cell y c' e;exact⟨w2,z2.sameBut hs S9⟩;obtain⟨e,n,ne,nf,d⟩:=I.pin p hp;refine⟨(hs.2 p.1 ?_).trans e,n,ne,nf,d⟩;intro q;rw[q,N0]at e;have q':oc=p.2:=Z7 e;exact d w' (by rw[<-q'];exact Rx)
def oZ{Mq:Model}{A:Za}{E:Z3->ZR->Prop}{Q:Unit->ZR->Prop}(I:Inv X pins σ H s)(hN:X.N.Nodup)(hi:X.N[i]?=U x)(hx:Loc X.env.scope x)(r:RelV v u)(h:∀s',Inv X pins (σ.set i (U v)) H s'->Q () s')(hf:X.fn x=L\/X.env.scope.names.lookup x=U .local:=by first|exact .inl rfl|exact .inr rfl|assumption):wpAny Mq A (storeName X.env x u) Q E s:=
 jU I hN hi hx r (λs' I' _=>h s' I') hf
def Inv.acJ(I:Inv X pins σ H s)(ho:s'.os=s.os)(u:Un (frs X.stack) ch H H' s.heap s'.heap)(hok:HOk X.prog X.w H' s'.heap)(hg:AllBare s'.gens)(LI:∀b∈ch,(b∈X.ex\/X.n_.z<=b)/\b≠X.env.locals/\(∀x c,X.env.cells.lookup x=U c->c≠b)/\∀p∈X.pn++pins,p.1≠b):Inv X pins σ H' s':=by
 obtain⟨h',g',d',t',o'⟩:=s';have e:o'=s.os:=ho;subst e;exact I.call (g':=g') (t':=t') (d':=d') u hok hg LI
end
abbrev XK:=Z3->Z8 ZM->Hp->Prop
abbrev St:=Z9 (Z8 V)
abbrev VK:=V->Hp->Prop
abbrev TE:=St->Hp->VK->Prop
abbrev TT:=St->Hp->(Bool->Hp->Prop)->Prop
abbrev TA:=St->Hp->(Z9 V->Hp->Prop)->Prop
structure Ends where
 nx:St->Hp->Prop
 rt:VK
 bk:St->Hp->Prop:=λ_ _=>False
 ct:St->Hp->Prop:=λ_ _=>False
abbrev TS:=Ends->St->Hp->Prop
def EP(X:Cx)(pins:Z9 (ZM×Obj))(σ:St)(Q:VK)(u:Z3)(s':ZR):Prop:=∃v H',Inv X pins σ H' s'/\RelV v u/\Q v H'
def TP(X:Cx)(pins:Z9 (ZM×Obj))(σ:St)(Q:Bool->Hp->Prop)(b:Bool)(s':ZR):Prop:=∃H',Inv X pins σ H' s'/\Q b H'
def AP(X:Cx)(pins:Z9 (ZM×Obj))(σ:St)(Q:Z9 V->Hp->Prop)(us:Z9 Z3)(s':ZR):Prop:=∃vs H',Inv X pins σ H' s'/\aab vs us/\Q vs H'
def SP(X:Cx)(pins:Z9 (ZM×Obj))(D:Ends)(f:Flow)(s':ZR):Prop:=
 match f with
 |.next=>∃h_ H',Inv X pins h_ H' s'/\D.nx h_ H'
 |.brk=>∃h_ H',Inv X pins h_ H' s'/\D.bk h_ H'
 |.cont=>∃h_ H',Inv X pins h_ H' s'/\D.ct h_ H'
 |.ret u=>∃v h_ H',Inv X pins h_ H' s'/\RelV v u/\D.rt v H'
def PE(X:Cx)(e:Expr)(t:TE):Prop:=
 ∀(pins:Z9 (ZM×Obj))(s:ZR)(σ:St)(H:Hp)(Q:VK),Inv X pins σ H s->t σ H Q->wpAny (model X.prog X.w) X.A (eval e X.env) (EP X pins σ Q) X.xe s
def PT(X:Cx)(e:Expr)(t:TT):Prop:=
 ∀(pins:Z9 (ZM×Obj))(s:ZR)(σ:St)(H:Hp)(Q:Bool->Hp->Prop),Inv X pins σ H s->t σ H Q->wpAny (model X.prog X.w) X.A (isTrue e X.env (eval e X.env)) (TP X pins σ Q) X.xe s
def PW(X:Cx)(e:Expr)(t:TT):Prop:=
 ∀(whole:Sem Z3)(pins:Z9 (ZM×Obj))(s:ZR)(σ:St)(H:Hp)(Q:Bool->Hp->Prop),Inv X pins σ H s->t σ H Q->wpAny (model X.prog X.w) X.A (isTrue e X.env whole) (TP X pins σ Q) X.xe s
def PW.pt(h:PW X e t):PT X e t:=h _
def PA(X:Cx)(es:Z9 Expr)(t:TA):Prop:=
 ∀(pos:Pos)(pins:Z9 (ZM×Obj))(s:ZR)(σ:St)(H:Hp)(Q:Z9 V->Hp->Prop),Inv X pins σ H s->t σ H Q->wpAny (model X.prog X.w) X.A (spliced (backTo pos (starEach es X.env))) (AP X pins σ Q) X.xe s
def PS(X:Cx)(st:Stmt)(t:TS):Prop:=
 ∀(pins:Z9 (ZM×Obj))(s:ZR)(σ:St)(H:Hp)(D:Ends),Inv X pins σ H s->t D σ H->wpAny (model X.prog X.w) X.A (exec st X.env) (SP X pins D) X.xe s
def PSs(X:Cx)(st:Z9 Stmt)(t:TS):Prop:=
 ∀(pins:Z9 (ZM×Obj))(s:ZR)(σ:St)(H:Hp)(D:Ends),Inv X pins σ H s->t D σ H->wpAny (model X.prog X.w) X.A (execs st X.env) (SP X pins D) X.xe s
def thn{q:Type}{t:Sem q}{Q Q':q->ZR->Prop}{Mq:Model}{A:Za}{E:Z3->ZR->Prop}{s:ZR}(h:wpAny Mq A t Q E s)(hQ:∀a s,Q a s->Q' a s):wpAny Mq A t Q' E s:=YK h hQ λ_ _ x=>x
end
variable[Lams]
section
variable{X:Cx}
def vi(i:Nat):TE:=λσ H Q=>∃v,σ[i]?=U (U v)/\Q v H
def tC(v:V):TE:=λ_ H Q=>Q v H
def bF(hN:X.N[i]?=U x)(hv:Vis X.env.scope x)(hd:(x==("__debug__":Str))=Y:=by decide)(Ja:(x==("__classdict__":Str))=Y:=by decide):PE X (.Name x pos) (vi i):=by
 intro pins s σ H Q I h;obtain⟨v,e,h⟩:=h;obtain⟨m,hn,hl⟩:=I.loc;obtain⟨u,r,l⟩:=hl i x v hN e hv;have fin:EP X pins σ Q u s:=⟨v,H,I,r,h⟩
 rcases l with⟨hk,hm⟩|⟨hk,c,hc,Mr⟩;exact wpAny_Name (wpAny_loadName_local I.ok.kind hk hn hm fin) hd;rcases hk with hk|hk;exact wpAny_Name (wpAny_loadName_cell I.ok.kind hk hc Mr fin) hd;exact wpAny_Name (wpAny_loadName_free I.ok.kind hk hc Mr fin Ja) hd
def rN{i j pos}:PE X (.Constant (.int i) j pos) (tC (.int i)):=λ_ _ _ H _ I h=>wpAny_Constant_int ⟨.int i,H,I.tok _,⟨_,rfl⟩,h⟩
def Dw{b j pos}:PE X (.Constant (.bool b) j pos) (tC (.bl b)):=λ_ _ _ H _ I h=>Constant_bool ⟨.bl b,H,I,rfl,h⟩
def Dt{j pos}:PE X (.Constant .none j pos) (tC .non):=λ_ _ _ H _ I h=>Constant_none ⟨.non,H,I,rfl,h⟩
def CU{x j pos}:PE X (.Constant (.str x) j pos) (tC (.str x)):=λ_ _ _ H _ I h=>Calls.Constant_str ⟨.str x,H,I.tok _,⟨_,rfl⟩,h⟩
def Gl(X:Cx)(x:Str):Prop:=X.env.kindOf x=U .globalImplicit
def AG(I:Inv X pins σ H s)(hg:Gl X x)(hm:X.mg x=U u)(h:Q u s)(hd:(x==("__debug__":Str))=Y:=by decide):wpAny (model X.prog X.w) X.A (eval (.Name x pos) X.env) Q E s:=
 Calls.Name_function_global I.ok.kind hg (Calls.loadGlobal_global (by rw[I.ok.glob];exact I.mod.glob.keeps I.bk) hm h) hd
def fA{E:Z3->ZR->Prop}{pos:Pos}{Q:Z3->ZR->Prop}(I:Inv X pins σ H s)(hg:Gl X x)(hm:X.mg x=M)(hv:bootBuiltins x=U u)(h:Q u s)(hn:x≠"__name__":=by decide)(hd:(x==("__debug__":Str))=Y:=by decide):wpAny (model X.prog X.w) X.A (eval (.Name x pos) X.env) Q E s:=by
 obtain⟨mb,h1,h2⟩:=I.mod.blt;exact Calls.Name_function_global I.ok.kind hg (Calls.loadGlobal_builtin (by rw[I.ok.glob];exact I.mod.glob.keeps I.bk) hm (by rw[I.ok.blt];exact h1.keeps I.bk) ((h2 x hn).trans hv) h) hd
variable{a b:Expr}{ta tb:TE}{pos:Pos}
def PC(X:Cx)(op:CmpOp)(a b:Expr)(t:TE):Prop:=
 ∀(pins:Z9 (ZM×Obj))(s:ZR)(σ:St)(H:Hp)(Q:VK),Inv X pins σ H s->t σ H Q->
  wpAny (model X.prog X.w) X.A (eval a X.env) (λv g_=>wpAny (model X.prog X.w) X.A (eval b X.env) (λu a_=>wpAny (model X.prog X.w) X.A (compareOp op v u) (EP X pins σ Q) X.xe a_) X.xe g_) X.xe s
def v9(b:Expr)(h:op≠.In)(h2:op≠.NotIn):behindInMarks op b=Y:=by
 have e1:(op==CmpOp.In)=Y:=by cases op<;>first|rfl|exact absurd rfl h
 have e2:(op==CmpOp.NotIn)=Y:=by cases op<;>first|rfl|exact absurd rfl h2
 cases b<;>simp[behindInMarks,e1,e2]
def tB(t:TE):TT:=λσ H Q=>t σ H λx H1=>∃c,x=.bl c/\Q c H1
def F1{op:CmpOp}{t:TE}(h:PC X op a b t)(h1:behindInMarks op b=Y:=by first|exact v9 _ (by decide) (by decide)|rfl):PT X (.Compare a [op] [b] pos) (tB t):=by
 intro pins s σ H Q I hw;refine wpAny_isTrue_Compare1 (thn (h pins s σ H _ I hw) λv s1 h1=>thn h1 λu s2 h2=>thn h2 λc s3 ⟨x,H1,I1,r1,q1⟩=>?_) h1;obtain⟨d,rfl,q⟩:=q1;cases r1;exact Xy ⟨H1,I1,q⟩
def Bv{e:Expr}{t:TE}(h:PE X e t)(he:∀whole,isTrue e X.env whole=(do let v <-whole;standAt e.pos;holding [v] (truthy v)):=by intro _;rfl):PT X e (tB t):=by
 intro pins s σ H Q I hw;refine isTrue_plain (thn (h pins s σ H _ I hw) λv s1 ⟨x,H1,I1,r1,q1⟩=>?_) (he _);obtain⟨d,rfl,q⟩:=q1;cases r1;exact Xy ⟨H1,I1,q⟩
variable{tA OX:TT}{aq:Z9 Expr}
def Hj(t u:TT):TT:=λσ H Q=>t σ H λc H1=>if c=L then u σ H1 Q else Q Y H1
def tOr(t u:TT):TT:=λσ H Q=>t σ H λc H1=>if c=L then Q L H1 else u σ H1 Q
def Hy(t:TT):TT:=λσ H Q=>t σ H λc H1=>Q (!c) H1
def A3(ha:PT X a tA):PW X (.BoolOp .And [a] pos) tA:=by
 intro wh pins s σ H Q I h;refine isTrue_and (thn (ha pins s σ H Q I h) λc s1 e=>?_);cases c with
 |true=>exact isTrue_and_nil e
 |false=>exact e
def Dm(ha:PT X a tA):PW X (.BoolOp .Or [a] pos) tA:=by
 intro wh pins s σ H Q I h;refine isTrue_or (thn (ha pins s σ H Q I h) λc s1 e=>?_);cases c with
 |false=>exact isTrue_or_nil e
 |true=>exact e
def Cl(ha:PT X a tA)(hb:PW X (.BoolOp .And (b::aq) pos) OX):PW X (.BoolOp .And (a::b::aq) pos) (Hj tA OX):=by
 intro wh pins s σ H Q I h;refine isTrue_and (thn (ha pins s σ H _ I h) λc s1 hz=>?_);obtain⟨H1,I1,q1⟩:=hz;cases c with
 |true=>exact hb wh pins s1 σ H1 Q I1 q1
 |false=>exact⟨H1,I1,q1⟩
def Fi(ha:PT X a tA)(hb:PW X (.BoolOp .Or (b::aq) pos) OX):PW X (.BoolOp .Or (a::b::aq) pos) (tOr tA OX):=by
 intro wh pins s σ H Q I h;refine isTrue_or (thn (ha pins s σ H _ I h) λc s1 hz=>?_);obtain⟨H1,I1,q1⟩:=hz;cases c with
 |true=>exact⟨H1,I1,q1⟩
 |false=>exact hb wh pins s1 σ H1 Q I1 q1
def BV(ha:PT X a tA):PT X (.UnaryOp .Not a pos) (Hy tA):=by
 intro pins s σ H Q I h;exact isTrue_not (ha pins s σ H (λc H1=>Q (!c) H1) I h)
def tIf(t:TT)(ta tb:TE):TE:=λσ H Q=>t σ H λc H1=>if c=L then ta σ H1 Q else tb σ H1 Q
def wI{c:Expr}(hc:PT X c tA)(ha:PE X a ta)(hb:PE X b tb):PE X (.IfExp c a b pos) (tIf tA ta tb):=by
 intro pins s σ H Q I h;refine wpAny_IfExp (thn (hc pins s σ H _ I h) λd s1 hz=>?_);obtain⟨H1,I1,q1⟩:=hz;cases d with
 |true=>exact ha pins s1 σ H1 Q I1 q1
 |false=>exact hb pins s1 σ H1 Q I1 q1
end
def SqL(K:Z6)(H:Hp)(a:ZM)(xs:Z9 V):Prop:=
 Rd H a (.lst xs)\/
  ∃(o:Obj)(its:Array Z3)(n:Nat),K.lookup a=U o/\o.cls=.type "list"/\o.dict=M/\o.data=.seq its n/\its.size<=sizeLine/\aab xs its.toList
def SqT(K:Z6)(H:Hp)(a:ZM)(xs:Z9 V):Prop:=
 Rd H a (.tup xs)\/
  ∃(o:Obj)(its:Array Z3)(n:Nat),K.lookup a=U o/\o.cls=.type "tuple"/\o.data=.seq its n/\its.size<=sizeLine/\aab xs its.toList
noncomputable def HR:Z3->Z8 V
 |.none=>U .non
 |.bool b=>U (.bl b)
 |.int i _=>U (.int i)
 |.str x _=>U (.str x)
 |.bytes b _=>U (.byt b)
 |.float b _=>U (.flt b)
 |.ref a=>U (.ref a)
 |.type n=>U (.ty n)
 |_=>M
def RelV.abs(r:RelV x u):HR u=U x:=by
 cases x with
 |non=>cases r;rfl
 |bl _=>cases r;rfl
 |int _=>obtain⟨t,rfl⟩:=r;rfl
 |str _=>obtain⟨t,rfl⟩:=r;rfl
 |byt _=>obtain⟨t,rfl⟩:=r;rfl
 |flt _=>obtain⟨t,rfl⟩:=r;rfl
 |ref _=>cases r;rfl
 |ty _=>cases r;rfl
theorem RelV.inj(r:RelV x u)(q:RelV y u):x=y:=Z7 (r.abs.symm.trans q.abs)
theorem aab.inj:∀{xs ys:Z9 V}{us:Z9 Z3},aab xs us->aab ys us->xs=ys
 |_,_,_,.nil,.nil=>rfl
 |_,_,_,.cons r t,.cons r' t'=>by rw[r.inj r',aab.inj t t']
section
variable{H:Hp}
def SqL.of{K:Z6}(h:H a=U (.lst xs)):SqL K H a xs:=.inl (.inl h)
def SqT.of{K:Z6}(h:H a=U (.tup xs)):SqT K H a xs:=.inl (.inl h)
def Inv.list(I:Inv X pins σ H s)(h:SqL X.K H a xs):∃its:Z9 Z3,aab xs its/\PlainL s.heap a its.toArray/\xs.length<=sizeLine:=by
 rcases h with h|⟨o,its,n,hk,hc,hd,hs,hz,r⟩;obtain⟨z,its,n,r,e⟩:=h.ok I.hok;exact⟨its,r,⟨_,n,e,rfl,rfl,rfl⟩,z⟩;refine⟨its.toList,r,⟨o,n,I.kIn a o hk,hc,hd,by simpa using hs⟩,?_⟩;have e:=r.length;simp only[Array.length_toList]at e;lia
def Inv.tuple(I:Inv X pins σ H s)(h:SqT X.K H a xs):∃its:Z9 Z3,aab xs its/\IsTup s.heap a its.toArray/\xs.length<=sizeLine:=by
 rcases h with h|⟨o,its,n,hk,hc,hs,hz,r⟩;obtain⟨z,its,r,p⟩:=h.ok I.hok;exact⟨its,r,p,z⟩;refine⟨its.toList,r,⟨o,I.kIn a o hk,hc,n,by simpa using hs⟩,?_⟩;have e:=r.length;simp only[Array.length_toList]at e;lia
def Inv.aaN(I:Inv X pins σ H s)(h:SqL X.K H a xs)(h':SqL X.K H a ys):xs=ys:=by
 obtain⟨its,r,⟨o,n,e,_,_,d⟩,_⟩:=I.list h;obtain⟨its',r',⟨o',n',e',_,_,d'⟩,_⟩:=I.list h';rw[e]at e';obtain rfl:=Z7 e';rw[d]at d';injection d' with d1 _;have:its=its':=by simpa using congrArg Array.toList d1
 subst this;exact r.inj r'
def Inv.aaW(I:Inv X pins σ H s)(h:SqT X.K H a xs)(h':SqT X.K H a ys):xs=ys:=by
 obtain⟨its,r,⟨o,e,_,n,d⟩,_⟩:=I.tuple h;obtain⟨its',r',⟨o',e',_,n',d'⟩,_⟩:=I.tuple h';rw[e]at e';obtain rfl:=Z7 e';rw[d]at d';injection d' with d1 _;have:its=its':=by simpa using congrArg Array.toList d1
 subst this;exact r.inj r'
end
abbrev Cx.abc(X:Cx)(E:Z3->ZR->Prop):Cx:={X with xe:=E}
abbrev Cx.nox(X:Cx):Cx:=X.abc λ_ _=>False
theorem Cx.Ok.abc{X:Cx}(ok:X.Ok)(E:Z3->ZR->Prop):(X.abc E).Ok:=
 ⟨ok.mod,ok.kind,ok.glob,ok.blt,ok.above,ok.inj,ok.has,ok.cab,ok.hd,ok.frames,ok.stk,ok.exf,ok.bs,ok.bsz,ok.ab6,ok.aci,ok.aa9,ok.frf,ok.tabs⟩
def Cx.Ok.aaO{X:Cx}(ok:(X.abc E).Ok):X.Ok:=
 ⟨ok.mod,ok.kind,ok.glob,ok.blt,ok.above,ok.inj,ok.has,ok.cab,ok.hd,ok.frames,ok.stk,ok.exf,ok.bs,ok.bsz,ok.ab6,ok.aci,ok.aa9,ok.frf,ok.tabs⟩
section
variable{X:Cx}{pins:Z9 (ZM×Obj)}{σ:St}{H:Hp}{s:ZR}
theorem Inv.abc(I:Inv X pins σ H s)(E:Z3->ZR->Prop):Inv (X.abc E) pins σ H s:=⟨I.ok.abc E,I.os,I.bare,I.base,I.loc,I.cell,I.free,I.aaR,I.pin,I.hok,I.len⟩
theorem Inv.aaO(I:Inv (X.abc E) pins σ H s):Inv X pins σ H s:=⟨I.ok.aaO,I.os,I.bare,I.base,I.loc,I.cell,I.free,I.aaR,I.pin,I.hok,I.len⟩
theorem SP.aaO{D:Ends}{f:Flow}{s':ZR}(h:SP (X.abc E) pins D f s'):SP X pins D f s':=by
 cases f with
 |next=>obtain⟨h_,H',I,q⟩:=h;exact⟨h_,H',I.aaO,q⟩
 |brk=>obtain⟨h_,H',I,q⟩:=h;exact⟨h_,H',I.aaO,q⟩
 |cont=>obtain⟨h_,H',I,q⟩:=h;exact⟨h_,H',I.aaO,q⟩
 |ret u=>obtain⟨v,h_,H',I,r,q⟩:=h;exact⟨v,h_,H',I.aaO,r,q⟩
theorem PE.nox(h:PE X.nox e t):PE X e t:=λpins s σ H Q I hw=>
 YK (h pins s σ H Q (I.abc _) hw) (λ_ _ hz=>by obtain⟨v,H',I',r,q⟩:=hz;exact⟨v,H',I'.aaO,r,q⟩) λ_ _ z=>False.elim z
theorem PSs.nox{st:Z9 Stmt}{t:TS}(h:PSs X.nox st t):PSs X st t:=λpins s σ H D I hw=>
 YK (h pins s σ H D (I.abc _) hw) (λ_ _ q=>q.aaO) λ_ _ z=>False.elim z
end
section
variable{X:Cx}{st:Stmt}{aq:Z9 Stmt}{t u:TS}{e:Expr}{te:TE}{pos:Pos}
def acC:TS:=λD σ H=>D.nx σ H
def Eh(t u:TS):TS:=λD σ H=>t {D with nx:=u D} σ H
def AJ:PSs X [] acC:=λ_ _ σ H _ I h=>Wd ⟨σ,H,I,h⟩
def bV(h1:PS X st t)(h2:PSs X aq u):PSs X (st::aq) (Eh t u):=by
 intro pins s σ H D I h;refine wpAny_execs_cons (thn (h1 pins s σ H {D with nx:=u D} I h) λf s1 q=>?_);cases f with
 |next=>
  obtain⟨h_,H',I',q⟩:=q;exact h2 pins s1 h_ H' D I' q
 |ret v=>exact q
 |brk=>exact q
 |cont=>exact q
def mZ(h1:PS X st t):PSs X [st] t:=by
 intro pins s σ H D I h;refine wpAny_execs_cons (thn (h1 pins s σ H D I h) λf s1 q=>?_);cases f with
 |next=>exact Wd q
 |ret v=>exact q
 |brk=>exact q
 |cont=>exact q
def Inv.quiet(I:Inv X pins σ H s):interactive X.env=Y:=by simp[interactive,I.ok.kind]
def CI(te:TE):TS:=λD σ H=>te σ H λ_ H1=>D.nx σ H1
def mW(he:PE X e te)(hs:swapsWith e M pos.line X.env=pure Y:=by rfl):PS X (.Expr e pos) (CI te):=by
 intro pins s σ H D I h;exact wpAny_Expr_any (thn (he pins s σ H _ I h) λv s1 hz=>by obtain⟨x,H1,I1,r1,q1⟩:=hz;exact⟨σ,H1,I1,q1⟩) I.quiet hs
def GE(te:TE):TS:=λD σ H=>te σ H D.rt
def n8(he:PE X e te):PS X (.Return (U e) pos) (GE te):=by
 intro pins s σ H D I h;exact wpAny_Return_some (thn (he pins s σ H _ I h) λv s1 hz=>by obtain⟨x,H1,I1,r1,q1⟩:=hz;exact⟨x,σ,H1,I1,r1,q1⟩)
def GN(c:TT)(t u:TS):TS:=λD σ H=>c σ H λb H1=>if b=L then t D σ H1 else u D σ H1
def B5{c:Expr}{a b:Z9 Stmt}{tc:TT}(hc:PT X c tc)(ha:PSs X a t)(hb:PSs X b u):PS X (.If c a b pos) (GN tc t u):=by
 intro pins s σ H D I h;refine wpAny_If (thn (hc pins s σ H _ I h) λd s1 hz=>?_);obtain⟨H1,I1,q1⟩:=hz;cases d with
 |true=>exact ha pins s1 σ H1 D I1 q1
 |false=>exact hb pins s1 σ H1 D I1 q1
end
abbrev TG:=V->St->Hp->(St->Hp->Prop)->Prop
abbrev TGs:=Z9 V->St->Hp->(St->Hp->Prop)->Prop
def PG(X:Cx)(target:Expr)(t:TG):Prop:=
 ∀(pins:Z9 (ZM×Obj))(s:ZR)(σ:St)(H:Hp)(v:V)(u:Z3)(Q:St->Hp->Prop),Inv X pins σ H s->RelV v u->t v σ H Q->
  wpAny (model X.prog X.w) X.A (assign target X.env u) (λ_ s'=>∃h_ H',Inv X pins h_ H' s'/\Q h_ H') X.xe s
def PGs(X:Cx)(ts:Z9 Expr)(t:TGs):Prop:=
 ∀(pins:Z9 (ZM×Obj))(s:ZR)(σ:St)(H:Hp)(vs:Z9 V)(us:Z9 Z3)(Q:St->Hp->Prop),Inv X pins σ H s->aab vs us->t vs σ H Q->
  wpAny (model X.prog X.w) X.A (assignInOrder ((assignEach ts X.env).map (·.2)) us) (λ_ s'=>∃h_ H',Inv X pins h_ H' s'/\Q h_ H') X.xe s
section
variable{X:Cx}{pos:Pos}
def gY(i:Nat):TG:=λv σ H Q=>Q (σ.set i (U v)) H
def mI(hN:X.N.Nodup)(hi:X.N[i]?=U x)(hx:Loc X.env.scope x)(hf:X.fn x=L\/X.env.scope.names.lookup x=U .local:=by first|exact .inl rfl|exact .inr rfl|assumption):PG X (.Name x pos) (gY i):=by
 intro pins s σ H v u Q I r h;exact wpAny_assign_Name (oZ I hN hi hx r (λs' I'=>⟨_,H,I',h⟩) hf)
def acQ:TGs:=λvs σ H Q=>vs=[]/\Q σ H
def Eb(t:TG)(u:TGs):TGs:=λvs σ H Q=>∃v r,vs=v::r/\t v σ H λh_ H'=>u r h_ H' Q
def zU:PGs X [] acQ:=by
 intro pins s σ H vs us Q I r h;obtain⟨e,h⟩:=h;subst e;cases r;exact assignInOrder_nil ⟨σ,H,I,h⟩
def vI{e:Expr}{es:Z9 Expr}{t:TG}{u:TGs}(h1:PG X e t)(h2:PGs X es u)
  (hs:(assignEach (e::es) X.env).map (·.2)=assign e X.env::(assignEach es X.env).map (·.2):=by rfl):PGs X (e::es) (Eb t u):=by
 intro pins s σ H vs us Q I r h;obtain⟨v,vr,e1,h⟩:=h;subst e1;cases r with
 |cons r rr=>
  rw[hs];refine assignInOrder_cons (thn (h1 pins s σ H _ _ _ I r h) λ_ s1 hz=>?_);obtain⟨LK,H1,I1,q1⟩:=hz;exact h2 pins s1 LK H1 _ _ Q I1 rr q1
def GT(K:Z6)(n:Nat)(t:TGs):TG:=λv σ H Q=>∃a xs,v=.ref a/\SqT K H a xs/\xs.length=n/\t xs σ H Q
def CS(hc:X.calm=L)(h:PGs X es t)(hn:(assignEach es X.env).length=n:=by rfl)(IF:(assignEach es X.env).findIdx? (·.1)=M:=by rfl):PG X (.Tuple es k pos) (GT X.K n t):=by
 intro pins s σ H v u Q I r hw;obtain⟨a,xs,e1,hq,hl,hw⟩:=hw;subst e1;cases r;obtain⟨its,rv,ht,hz⟩:=I.tuple hq;refine assign_Tuple_tuple (I.ok.hd hc) ht (by simp[hn,<-hl,rv.length]) IF λh' hx=>?_;have I1:Inv X pins σ H {s with heap:=h'}:=I.kept (t':=s.toks) λb o e=>hx b o (Zt (ZQ e)) e;exact h pins _ σ H xs _ Q I1 (by simpa using rv) hw
def A4(te:TE)(g:TG):TS:=λD σ H=>te σ H λx H1=>g x σ H1 D.nx
def Ci{tg e:Expr}{te:TE}{g:TG}(he:PE X e te)(hg:PG X tg g)(hs:swapsWithSole [tg] e pos.line X.env=pure Y:=by rfl)(hw:swappedStores [tg] e X.env=pure M:=by rfl)
  (h1:(assignEach [tg] X.env).map (·.2)=[assign tg X.env]:=by rfl):PS X (.Assign [tg] e pos) (A4 te g):=by
 intro pins s σ H D I h;refine wpAny_Assign_stores (thn (he pins s σ H _ I h) λv s1 ⟨x,H1,I1,r1,q1⟩=>?_) hs hw;rw[h1];exact thn (hg pins s1 σ H1 x v _ I1 r1 q1) λ_ s2 q=>q
def iq{i:Nat}{x:Str}{e:Expr}{te:TE}{pos':Pos}(hN:X.N.Nodup)(hi:X.N[i]?=U x)(hx:Loc X.env.scope x)(he:PE X e te)(hs:swapsWith e (U (.Name x pos')) pos.line X.env=pure Y:=by rfl)(hf:X.fn x=L\/X.env.scope.names.lookup x=U .local:=by first|exact .inl rfl|exact .inr rfl|assumption):
  PS X (.Assign [.Name x pos'] e pos) (A4 te (gY i)):=by
 intro pins s σ H D I h;refine wpAny_Assign_Name (thn (he pins s σ H _ I h) λv s1 ⟨y,H1,I1,r1,q1⟩=>?_) hs;exact oZ I1 hN hi hx r1 (λs2 I2=>⟨_,H1,I2,q1⟩) hf
end
section
variable{X:Cx}
def CD(c:TT)(tb:TS):TS:=λD σ H=>∃W:Nat->St->Hp->Prop,(∃m,W m σ H)/\∀m σ H,W m σ H->
 c σ H λb H1=>if b=L then ∃N:St->Hp->Prop,(∀h_ H',N h_ H'->∃m',m'<m/\W m' h_ H')/\tb {D with nx:=N,ct:=N,bk:=D.nx} σ H1 else D.nx σ H1
def vK{c:Expr}{body:Z9 Stmt}{tc:TT}{tb:TS}(hp:PassesOwn (model X.prog X.w) X.A X.env X.xe)(hc:PT X c tc)(hb:PSs X body tb):PS X (.While c body [] pos) (CD tc tb):=by
 intro pins s σ H D I h;obtain⟨W,⟨m0,w0⟩,turn⟩:=h;refine wpAny_While (codeAny_whileLoop (λn s'=>∃h_ H',Inv X pins h_ H' s'/\W n h_ H') ?_ m0 ⟨σ,H,I,w0⟩);intro n s1 hz;obtain⟨LK,H1,I1,w1⟩:=hz;refine XD hp (thn (hc pins s1 LK H1 _ I1 (turn n LK H1 w1)) λb s2 hz=>?_);obtain⟨H2,I2,q2⟩:=hz;cases b with
 |true=>
  obtain⟨N,hN,q2⟩:=q2;rw[ZO rfl];refine XD hp (thn (hb pins s2 LK H2 _ I2 q2) λf s3 q3=>?_);cases f with
  |next=>
   obtain⟨Jm,H3,I3,n3⟩:=q3;obtain⟨m',hm,w3⟩:=hN Jm H3 n3;exact⟨m',hm,Jm,H3,I3,w3⟩
  |cont=>
   obtain⟨Jm,H3,I3,n3⟩:=q3;obtain⟨m',hm,w3⟩:=hN Jm H3 n3;exact⟨m',hm,Jm,H3,I3,w3⟩
  |brk=>exact q3
  |ret v=>exact q3
 |false=>
  rw[ZJ Zl];exact Wd ⟨LK,H2,I2,q2⟩
end
structure It where
 go:Nat->Hp->Prop
 yld:Nat->Hp->V->Hp->Prop
 stop:Nat->Hp->Prop
def fq(X:Cx)(pins:Z9 (ZM×Obj))(H:Hp)(b:ZM):Prop:=
 H b=M/\b≠X.env.locals/\b∉X.fs/\(b∈X.ex\/X.n_.z<=b)/\(∀x c,X.env.cells.lookup x=U c->c≠b)/\∀p∈X.pn++pins,p.1≠b
def Inv.abm(I:Inv X pins σ H s)(hb:s.z<=b)(hn:H' b=M):fq X pins H' b:=by
 refine⟨hn,Nat.ne_of_gt (ZA I.lt hb),I.acr hb,.inr (ZH I.sz hb),λx c e z=>?_,λp hp z=>?_⟩;obtain⟨v,q⟩:=I.cell x c e;exact absurd (ZA q.lt (by rw[z];exact hb)) (Zc _);exact absurd (ZA (ZQ (I.pin p hp).1) (by rw[z];exact hb)) (Zc _)
structure Turn (P:Y0)(w:YM)(K:Z6)(tg:Expr)(J:It)(fp:List ZM)(it:ZM)(tn:Nat->Heap->Prop):Prop where
 mem:it∈fp
 obj:∀i h,tn i h->∀b∈fp,∃o,h.get? b=some o/\∀v,o.data≠.cell v
 keep:∀i h h',tn i h->(∀b∈fp,∀o,h.get? b=some o->h'.get? b=some o)->tn i h'
 item:∀(X:Cx),X.prog=P->X.w=w->X.K=K->X.calm=true->∀(i:Nat)(pins:List (ZM×Obj))(s:ZR)(σ:St)(H:Hp)(E:Z3->ZR->Prop),Inv X pins σ H s->(∀b∈fp,fq X pins H b)->tn i s.heap->J.go i H->
  wpAny (model P w) X.A (pyNext (.ref it)) (λr s1=>∃u,r=some u/\
   wpAny (model P w) X.A (letOwnedTupleGo tg (.ref it) u) (λ_ s2=>∃x H',Inv X pins σ H' s2/\RelV x u/\J.yld i H x H'/\tn (i+1) s2.heap/\∀b∈fp,H' b=none) E s1) E s
 done:∀(X:Cx),X.prog=P->X.w=w->X.K=K->X.calm=true->∀(i:Nat)(pins:List (ZM×Obj))(s:ZR)(σ:St)(H:Hp)(E:Z3->ZR->Prop),Inv X pins σ H s->(∀b∈fp,fq X pins H b)->tn i s.heap->J.stop i H->
  wpAny (model P w) X.A (pyNext (.ref it)) (λr s1=>r=none/\Inv X pins σ H s1) E s
 self:∀(A:Za)(i:Nat)(s:ZR)(Q:Z3->ZR->Prop)(E:Z3->ZR->Prop),tn i s.heap->Q (.ref it) s->wpAny (model P w) A (pyIter (.ref it)) Q E s
abbrev TI:=St->Hp->(It->Hp->Prop)->Prop
def PIE(X:Cx)(pins:Z9 (ZM×Obj))(σ:St)(tg:Expr)(R:It->Hp->Prop)(O9:Z3)(s2:ZR):Prop:=
 ∃(it:ZM)(fp:Z9 ZM)(tn:Nat->Heap->Prop)(J:It)(H':Hp),O9=.ref it/\Inv X pins σ H' s2/\Turn X.prog X.w X.K tg J fp it tn/\tn 0 s2.heap/\(∀b∈fp,fq X pins H' b)/\R J H'
def PI(X:Cx)(tg iter:Expr)(wi:TI):Prop:=
 ∀(pins:Z9 (ZM×Obj))(s:ZR)(σ:St)(H:Hp)(R:It->Hp->Prop),Inv X pins σ H s->wi σ H R->
  wpAny (model X.prog X.w) X.A (eval iter X.env) (λv s1=>wpAny (model X.prog X.w) X.A (pyIter v) (PIE X pins σ tg R) X.xe s1) X.xe s
def vT(ho:s.heap.get? it=U o)(hc:o.cls=.type n)(hd:o.data=.fields vs)(hn:["enumerate","zip","dict_itemiterator","dict_reverseitemiterator","odict_iterator","itertools.zip_longest","itertools.pairwise"].contains n=Y)(hQ:Q () s):wpAny Mq A (letOwnedTupleGo tg (.ref it) u) Q E s:=by
 unfold letOwnedTupleGo;cases tg<;>first
  |exact Z5 hQ
  |(cases u<;>first
    |exact Z5 hQ
    |(refine Z_ (wpAny_load ho ?_)
      rw[hc,hd];show wpAny Mq A (if(["enumerate","zip","dict_itemiterator","dict_reverseitemiterator","odict_iterator","itertools.zip_longest","itertools.pairwise"].contains n&&vs[0]?==U (rawInt _))=L then _ else _) Q E s;rw[ZJ (by intro h;rw[hn,Bool.false_and]at h;trivial)];exact Z5 hQ))
noncomputable def Itl(K:Z6)(a:ZM):It:=
 ⟨λi H=>∃xs x,SqL K H a xs/\xs[i]?=U x,λi H x H'=>H'=H/\∀xs,SqL K H a xs->xs[i]?=U x,λi H=>∃xs,SqL K H a xs/\xs.length<=i⟩
noncomputable def Itt(K:Z6)(a:ZM):It:=
 ⟨λi H=>∃xs x,SqT K H a xs/\xs[i]?=U x,λi H x H'=>H'=H/\∀xs,SqT K H a xs->xs[i]?=U x,λi H=>∃xs,SqT K H a xs/\xs.length<=i⟩
def Itr(lo:Int)(n:Nat):It:=⟨λi _=>i<n,λi H x H'=>H'=H/\x=.int (lo+i),λi _=>n<=i⟩
def rL{P:Y0}{w:YM}{K:Z6}{tg:Expr}(a it:ZM):Turn P w K tg (Itl K a) [it] it (λi h=>h.IsListIter it a i) where
 mem:=by simp
 obj:=λi h st b hb=>by
  have e:b=it:=by simpa using hb
  subst e;obtain⟨o,e,c,d⟩:=st;exact⟨o,e,λv z=>by rw[d]at z;cases z⟩
 keep:=λi h h' st k=>st.at λo e=>k it (by simp) o e
 item:=by
  intro X hP hw hK hc i pins s σ H E I hf st hg;subst hP hw hK;obtain⟨xs,x,hq,hx⟩:=hg;obtain⟨its,rv,p,hz⟩:=I.list hq;obtain⟨u,hu,ru⟩:=rv.get hx;obtain⟨f0,f1,f2,f3,f4,f5⟩:=hf it (by simp);refine wpAny_pyNext_list_item st p.isList (x:=u) (by simpa using hu) λh' f_ sb=>?_;have I1:Inv X pins σ H {s with heap:=h'}:=I.turned (t':=s.toks) (λb o hb e=>(sb.2 b hb).trans e) f0 f1 f3 f4 f5;obtain⟨o,e,c,d⟩:=id f_;exact⟨u,rfl,vT (s:={s with heap:=h'}) e c d (by decide) ⟨x,H,I1,ru,⟨rfl,λys hy=>by rw[I.aaN hy hq];exact hx⟩,f_,λb hb=>(hf b hb).1⟩⟩
 done:=by
  intro X hP hw hK hc i pins s σ H E I hf st hg;subst hP hw hK;obtain⟨xs,hq,hx⟩:=hg;obtain⟨its,rv,p,hz⟩:=I.list hq;obtain⟨f0,f1,f2,f3,f4,f5⟩:=hf it (by simp);have hl:=rv.length;exact wpAny_pyNext_list_end (I.ok.hd hc) st p.isList (by simp;lia) λh' eb=>⟨rfl,I.turned (t':=s.toks) (λb o hb e=>eb b o hb e) f0 f1 f3 f4 f5⟩
 self:=λ_ _ _ _ _ st h=>wpAny_pyIter_listiter st h
def pE{P:Y0}{w:YM}{K:Z6}{tg:Expr}(a it:ZM):Turn P w K tg (Itt K a) [it] it (λi h=>h.IsTupleIter it a i) where
 mem:=by simp
 obj:=λi h st b hb=>by
  have e:b=it:=by simpa using hb
  subst e;obtain⟨o,e,c,d⟩:=st;exact⟨o,e,λv z=>by rw[d]at z;cases z⟩
 keep:=λi h h' st k=>st.at λo e=>k it (by simp) o e
 item:=by
  intro X hP hw hK hc i pins s σ H E I hf st hg;subst hP hw hK;obtain⟨xs,x,hq,hx⟩:=hg;obtain⟨its,rv,p,hz⟩:=I.tuple hq;obtain⟨u,hu,ru⟩:=rv.get hx;obtain⟨f0,f1,f2,f3,f4,f5⟩:=hf it (by simp);refine wpAny_pyNext_tuple_item st (show s.heap.IsTuple a its.toArray from p) (x:=u) (by simpa using hu) λh' f_ sb=>?_;have I1:Inv X pins σ H {s with heap:=h'}:=I.turned (t':=s.toks) (λb o hb e=>(sb.2 b hb).trans e) f0 f1 f3 f4 f5;obtain⟨o,e,c,d⟩:=id f_;exact⟨u,rfl,vT (s:={s with heap:=h'}) e c d (by decide) ⟨x,H,I1,ru,⟨rfl,λys hy=>by rw[I.aaW hy hq];exact hx⟩,f_,λb hb=>(hf b hb).1⟩⟩
 done:=by
  intro X hP hw hK hc i pins s σ H E I hf st hg;subst hP hw hK;obtain⟨xs,hq,hx⟩:=hg;obtain⟨its,rv,p,hz⟩:=I.tuple hq;obtain⟨f0,f1,f2,f3,f4,f5⟩:=hf it (by simp);have hl:=rv.length;exact wpAny_pyNext_tuple_end (I.ok.hd hc) st (show s.heap.IsTuple a its.toArray from p) (by simp;lia) λh' eb=>⟨rfl,I.turned (t':=s.toks) (λb o hb e=>eb b o hb e) f0 f1 f3 f4 f5⟩
 self:=λ_ _ _ _ _ st h=>wpAny_pyIter_tupleiter st h
def qT{P:Y0}{w:YM}{K:Z6}{tg:Expr}(it:ZM)(lo:Int)(n:Nat):Turn P w K tg (Itr lo n) [it] it (λi h=>IsRangeIter h it (lo+(i:Nat)*1) ((n:Int) - (i:Nat)) 1) where
 mem:=by simp
 obj:=λi h st b hb=>by
  have e:b=it:=by simpa using hb
  subst e;exact⟨_,st,λv z=>by
   have z':Data.fields _=Data.cell v:=z;cases z'⟩
 keep:=λi h h' st k=>k it (by simp) _ st
 item:=by
  intro X hP hw hK hc i pins s σ H E I hf st hg;subst hP hw hK;obtain⟨f0,f1,f2,f3,f4,f5⟩:=hf it (by simp);have W:=Walks.range (prog:=X.prog) (w:=X.w) (I.ok.hd hc) it lo 1 n;refine W.item i s _ _ hg st λv h' tk hv f_ kk=>?_;obtain⟨t,rfl⟩:=hv;have I1:Inv X pins σ H {s with heap:=h',toks:=tk}:=I.turned (λb o hb e=>kk b o (by simpa using hb) e) f0 f1 f3 f4 f5;refine⟨_,rfl,vT (s:={s with heap:=h',toks:=tk}) (n:="range_iterator") f_ rfl rfl (by decide) ⟨.int (lo+i),H,I1,⟨t,?_⟩,⟨rfl,rfl⟩,f_,λb hb=>(hf b hb).1⟩⟩;rw[Int.mul_one]
 done:=by
  intro X hP hw hK hc i pins s σ H E I hf st hg;subst hP hw hK;obtain⟨f0,f1,f2,f3,f4,f5⟩:=hf it (by simp);exact wpAny_pyNext_range_end (I.ok.hd hc) st (by have:n<=i:=hg;lia) λh' eb=>⟨rfl,I.turned (t':=s.toks) (λb o hb e=>eb b o hb e) f0 f1 f3 f4 f5⟩
 self:=λ_ _ _ _ _ st h=>wpAny_pyIter_rangeiter st h
section
variable{X:Cx}
def Dv(K:Z6)(tl:TE):TI:=λσ H R=>tl σ H λx H1=>∃a,x=.ref a/\(∃xs,SqL K H1 a xs)/\R (Itl K a) H1
def Hm(K:Z6)(tl:TE):TI:=λσ H R=>tl σ H λx H1=>∃a,x=.ref a/\(∃xs,SqT K H1 a xs)/\R (Itt K a) H1
def u0{l:Expr}{tl:TE}(hl:PE X l tl):PI X tg l (Dv X.K tl):=by
 intro pins s σ H R I h;refine thn (hl pins s σ H _ I h) λv s1 hz=>?_;obtain⟨x,H1,I1,r1,q1⟩:=hz;obtain⟨a,e,⟨xs,hq⟩,q⟩:=q1;subst e;cases r1;obtain⟨its,rv,p,hz⟩:=I1.list hq;refine Xf p.isList ?_;refine⟨s1.z,[s1.z],_,_,H1,rfl,I1.kept (t':=s1.toks) λb o e=>Z4 _ e,rL a _,⟨_,ZN _ rfl,rfl,rfl⟩,λb hb=>?_,q⟩;have e:b=s1.z:=by simpa using hb
 subst e;exact I1.abm (ZU _) (I1.hok.fresh (ZU _))
def BI{l:Expr}{tl:TE}(hl:PE X l tl):PI X tg l (Hm X.K tl):=by
 intro pins s σ H R I h;refine thn (hl pins s σ H _ I h) λv s1 hz=>?_;obtain⟨x,H1,I1,r1,q1⟩:=hz;obtain⟨a,e,⟨xs,hq⟩,q⟩:=q1;subst e;cases r1;obtain⟨its,rv,p,hz⟩:=I1.tuple hq;refine wpAny_pyIter_tuple (show s1.heap.IsTuple a its.toArray from p) ?_;refine⟨s1.z,[s1.z],_,_,H1,rfl,I1.kept (t':=s1.toks) λb o e=>Z4 _ e,pE a _,⟨_,ZN _ rfl,rfl,rfl⟩,λb hb=>?_,q⟩;have e:b=s1.z:=by simpa using hb
 subst e;exact I1.abm (ZU _) (I1.hok.fresh (ZU _))
def vq{R:It->Hp->Prop}{lo hi:Int}{tk:Nat}(I:Inv X pins σ H s)(h1: -(2 ^ 62)<=lo)(h2:lo<2 ^ 62)(h3: -(2 ^ 62)<=hi)(h4:hi<2 ^ 62)(q:R (Itr lo (hi - lo).toNat) H):wpAny (model X.prog X.w) X.A (pyIter (.ref s.z)) (PIE X pins σ tg R) E {s with heap:=s.heap.push {cls:=.type "range",data:=.fields #[.int lo t,.int hi u,.int 1 v]},toks:=tk}:=by
 refine wpAny_pyIter_range (IsRange.new ..) (small_one h1 h2 h3 h4) ?_;have I1:Inv X pins σ H {s with heap:=s.heap.push {cls:=.type "range",data:=.fields #[.int lo t,.int hi u,.int 1 v]},toks:=tk}:=I.kept λb o e=>Z4 _ e;refine⟨(s.heap.push {cls:=.type "range",data:=.fields #[.int lo t,.int hi u,.int 1 v]}).objs.size,[(s.heap.push {cls:=.type "range",data:=.fields #[.int lo t,.int hi u,.int 1 v]}).objs.size],_,_,H,rfl,
  I1.kept (t':=tk) λb o e=>Z4 _ e,qT _ lo (hi - lo).toNat,?_,λb hb=>?_,q⟩
 .have e1:lo+((0:Nat):Int)*1=lo:=by simp
  have e2:(((hi - lo).toNat:Nat):Int) - ((0:Nat):Int)=Builtin.Range.rangeSize lo hi 1:=by rw[rangeSize_one];split<;>lia
  show IsRangeIter _ _ (lo+((0:Nat):Int)*1) ((((hi - lo).toNat:Nat):Int) - ((0:Nat):Int)) 1;rw[e1,e2];exact ZN _ rfl
 have e:b=(s.heap.push {cls:=.type "range",data:=.fields #[.int lo t,.int hi u,.int 1 v]}).objs.size:=by simpa using hb
 subst e;exact I1.abm (ZU _) (I1.hok.fresh (ZU _))
def ES(ta:TA):TI:=λσ H R=>ta σ H λvs H1=>∃j:Int,vs=[.int j]/\ -(2 ^ 62)<=j/\j<2 ^ 62/\R (Itr 0 j.toNat) H1
def sv{a:Expr}{ta:TA}{p pos:Pos}(hg:Gl X "range")(hm:X.mg "range"=M)(ha:PA X [a] ta)(hs:starEach [a] X.env=[(Y,eval a X.env)]:=by rfl):PI X tg (.Call (.Name "range" p) [a] [] pos) (ES ta):=by
 intro pins s σ H R I h;refine Call_ (fA I hg hm boot_range (Yp (thn (ha pos pins s σ H _ I h) λus s1 ⟨vs,H1,I1,r1,q1⟩=>?_) hs rfl));obtain⟨j,e,q1,q2,q⟩:=q1;subst e;cases r1 with
 |cons r rr=>
  cases rr;obtain⟨t,rfl⟩:=r;exact call_range_1 (vq I1 (by lia) (by lia) q1 q2 (by simpa using q))
def G2(wi:TI)(g:TG)(tb:TS):TS:=λD σ H=>wi σ H λJ H1=>∃W:Nat->Nat->St->Hp->Prop,(∃m,W 0 m σ H1)/\∀i m σ H,W i m σ H->
 (J.stop i H/\D.nx σ H)\/(J.go i H/\∃N:St->Hp->Prop,(∀h_ H',N h_ H'->∃m',m'<m/\W (i+1) m' h_ H')/\∀x H',J.yld i H x H'->g x σ H' λJo H2=>tb {D with nx:=N,ct:=N,bk:=D.nx} Jo H2)
def kT(fp:Z9 ZM)(h:Heap):Z9 (ZM×Obj):=fp.filterMap λb=>(h.get? b).map λo=>(b,o)
def db(hb:b∈fp)(e:h.get? b=U o):(b,o)∈kT fp h:=XM.mpr ⟨b,hb,by rw[e];rfl⟩
def uf(hp:p∈kT fp h):p.1∈fp/\h.get? p.1=U p.2:=by
 obtain⟨b,hb,e⟩:=XM.mp hp;cases q:h.get? b with
 |none=>rw[q]at e;trivial
 |some o=>
  rw[q]at e;have e':(b,o)=p:=Z7 e;subst e';exact⟨hb,q⟩
def Inv.pinned(I:Inv X pins σ H s)(hf:∀b∈fp,fq X pins H b)(ho:∀b∈fp,∃o,s.heap.get? b=U o/\∀v,o.data≠.cell v):Inv X (pins++kT fp s.heap) σ H s:=
 I.aaL λp hp=>(Zr.mp hp).elim (λz=>I.pin p (ZI _ z)) λz=>by
  obtain⟨hb,e⟩:=uf z;obtain⟨f0,f1,f2,_⟩:=hf p.1 hb;obtain⟨o,e',d⟩:=ho p.1 hb;rw[e]at e';obtain rfl:=Z7 e';exact⟨e,f0,f1,f2,d⟩
def Inv.aaS(I:Inv X (pins++pl) σ H s):Inv X pins σ H s:=I.aaL λp hp=>I.pin p (ZI _ (Y9 _ hp))
def xQ{iter:Expr}{body:Z9 Stmt}{wi:TI}{g:TG}{tb:TS}{pos:Pos}(hp:PassesOwn (model X.prog X.w) X.A X.env X.xe)(hc:X.calm=L)(hi:PI X tg iter wi)(hg:PG X tg g)(hb:PSs X body tb)
  (hs:∀x,foldedSetIterable iter X.env x=pure x:=by intro _;rfl):PS X (.For tg iter body [] pos) (G2 wi g tb):=by
 intro pins s σ H D I h;refine wpAny_For (thn (hi pins s σ H _ I h) λv s1 h1=>thn h1 λO9 s2 h2=>?_) hs;obtain⟨it,fp,tn,J,H2,e,I2,T,NN,f2,W,⟨m0,w0⟩,turn⟩:=h2;subst e;have J6:∀{H':Hp},(∀b∈fp,H' b=M)->∀b∈fp,fq X pins H' b:=λhn b hb=>⟨hn b hb,(f2 b hb).2⟩
 refine codeAny_forLoop_any (λn s'=>∃i h_ H',Inv X pins h_ H' s'/\tn i s'.heap/\(∀b∈fp,H' b=M)/\W i n h_ H') ?_ m0 ⟨0,σ,H2,I2,NN,λb hb=>(f2 b hb).1,w0⟩;intro n s3 hz;obtain⟨i,Jm,H3,I3,RU,Tu,w3⟩:=hz;rcases turn i n Jm H3 w3 with⟨stop,qn⟩|⟨go,N,hN,step⟩
 .refine XD hp (thn (T.done X rfl rfl rfl hc i pins s3 Jm H3 X.xe I3 (J6 Tu) RU stop) λr s4 hz=>?_)
  obtain⟨hr,I4⟩:=hz;subst hr;exact Wd ⟨Jm,H3,I4,qn⟩
 .refine XD hp (thn (T.item X rfl rfl rfl hc i pins s3 Jm H3 X.xe I3 (J6 Tu) RU go) λr s4 hz=>?_)
  obtain⟨u,hr,h4⟩:=hz;subst hr;refine XD hp (thn h4 λ_ s5 hz=>?_);obtain⟨x,H5,I5,r5,y5,P0,fr5⟩:=hz;have I5':=I5.pinned (J6 fr5) (T.obj _ _ P0);refine XD hp (thn (hg _ s5 Jm H5 x u _ I5' r5 (step x H5 y5)) λ_ s6 hz=>?_);obtain⟨Nk,H6,I6,q6⟩:=hz;refine XD hp (thn (hb _ s6 Nk H6 _ I6 q6) λf s7 q7=>?_);have again:∀{K_:St}{H7:Hp},Inv X (pins++kT fp s5.heap) K_ H7 s7->N K_ H7->∃m,m<n/\∃i h_ H',Inv X pins h_ H' s7/\tn i s7.heap/\(∀b∈fp,H' b=M)/\W i m h_ H':=λ{K_ H7} I7 n7=>by
   obtain⟨m',hm,w7⟩:=hN K_ H7 n7;refine⟨m',hm,i+1,K_,H7,I7.aaS,T.keep _ _ _ P0 λb hb o e=>(I7.pin (b,o) (ZI _ (ZI _ (db hb e)))).1,λb hb=>?_,w7⟩;obtain⟨o,e,d⟩:=T.obj _ _ P0 b hb;exact(I7.pin (b,o) (ZI _ (ZI _ (db hb e)))).2.1
  cases f with
  |next=>obtain⟨K_,H7,I7,n7⟩:=q7;exact again I7 n7
  |cont=>obtain⟨K_,H7,I7,n7⟩:=q7;exact again I7 n7
  |brk=>obtain⟨K_,H7,I7,q7⟩:=q7;exact⟨K_,H7,I7.aaS,q7⟩
  |ret v=>obtain⟨x7,K_,H7,I7,r7,q7⟩:=q7;exact⟨x7,K_,H7,I7.aaS,r7,q7⟩
end
abbrev R2:=V->V->Hp->VK->Prop
def OpR(X:Cx)(f:Z3->Z3->Sem Z3)(r:R2):Prop:=
 ∀(pins:Z9 (ZM×Obj))(s:ZR)(σ:St)(H:Hp)(x y:V)(v u:Z3)(Q:VK),Inv X pins σ H s->RelV x v->RelV y u->r x y H Q->
  wpAny (model X.prog X.w) X.A (f v u) (EP X pins σ Q) X.xe s
def fG(X:Cx)(f:Z3)(r:Z9 V->Hp->VK->Prop):Prop:=
 ∀(pins:Z9 (ZM×Obj))(s:ZR)(σ:St)(H:Hp)(xs:Z9 V)(us:Z9 Z3)(Q:VK),Inv X pins σ H s->aab xs us->r xs H Q->
  wpAny (model X.prog X.w) X.A (call f us) (EP X pins σ Q) X.xe s
def HP(X:Cx)(r:V->Hp->(Bool->Hp->Prop)->Prop):Prop:=
 ∀(pins:Z9 (ZM×Obj))(s:ZR)(σ:St)(H:Hp)(x:V)(v:Z3)(Q:Bool->Hp->Prop),Inv X pins σ H s->RelV x v->r x H Q->
  wpAny (model X.prog X.w) X.A (truthy v) (TP X pins σ Q) X.xe s
def tOp(r:R2)(ta tb:TE):TE:=λσ H Q=>ta σ H λx H1=>tb σ H1 λy H2=>r x y H2 Q
def rI(C:Int->Int->Prop)(g:Int->Int->V):R2:=λx y H Q=>∃i j,x=.int i/\y=.int j/\C i j/\Q (g i j) H
def rI0(g:Int->Int->V):R2:=λx y H Q=>∃i j,x=.int i/\y=.int j/\Q (g i j) H
section
variable{X:Cx}
def Fk(ha:PE X a ta)(hb:PE X b tb){pins:Z9 (ZM×Obj)}{s:ZR}{σ:St}{H:Hp}{R:V->V->Hp->Prop}(I:Inv X pins σ H s)
  (h:ta σ H λx H1=>tb σ H1 λy H2=>R x y H2) {Q:Z3->ZR->Prop}{f:Z3->Z3->Sem Z3}
  (hf:∀v u s2 x y H2,Inv X pins σ H2 s2->RelV x v->RelV y u->R x y H2->wpAny (model X.prog X.w) X.A (f v u) Q X.xe s2):
  wpAny (model X.prog X.w) X.A (eval a X.env) (λv g_=>wpAny (model X.prog X.w) X.A (eval b X.env) (λu a_=>wpAny (model X.prog X.w) X.A (f v u) Q X.xe a_) X.xe g_) X.xe s:=by
 refine thn (ha pins s σ H _ I h) λv s1 hz=>?_;obtain⟨x,H1,I1,r1,q1⟩:=hz;refine thn (hb pins s1 σ H1 _ I1 q1) λu s2 hz=>?_;obtain⟨y,H2,I2,r2,q2⟩:=hz;exact hf v u s2 x y H2 I2 r1 r2 q2
def v8(ho:OpR X (binaryOp op) r)(ha:PE X a ta)(hb:PE X b tb):PE X (.BinOp a op b pos) (tOp r ta tb):=by
 intro pins s σ H Q I h;exact wpAny_BinOp (Fk ha hb I h λv u s2 x y H2 I2 rx ry q=>ho pins s2 σ H2 x y v u Q I2 rx ry q)
def opI{f:Z3->Z3->Sem Z3}{C:Int->Int->Prop}{g:Int->Int->Int}(rule:∀(i j:Int)(t u:Tok)(s:ZR)(Q:Z3->ZR->Prop)(E:Z3->ZR->Prop),C i j->Q (.int (g i j) s.toks) {s with toks:=s.toks+1}->wpAny (model X.prog X.w) X.A (f (.int i t) (.int j u)) Q E s):
  OpR X f (rI C λi j=>.int (g i j)):=by
 intro pins s σ H x y v u Q I rx ry h;obtain⟨i,j,rfl,rfl,hc,q⟩:=h;obtain⟨t,rfl⟩:=rx;obtain⟨t',rfl⟩:=ry;exact rule i j t t' s _ _ hc ⟨.int (g i j),H,I.tok _,⟨_,rfl⟩,q⟩
def FC{f:Z3->Z3->Sem Z3}{g:Int->Int->Int}(rule:∀(i j:Int)(t u:Tok)(s:ZR)(Q:Z3->ZR->Prop)(E:Z3->ZR->Prop),Q (.int (g i j) s.toks) {s with toks:=s.toks+1}->wpAny (model X.prog X.w) X.A (f (.int i t) (.int j u)) Q E s):
  OpR X f (rI0 λi j=>.int (g i j)):=by
 intro pins s σ H x y v u Q I rx ry h;obtain⟨i,j,rfl,rfl,q⟩:=h;obtain⟨t,rfl⟩:=rx;obtain⟨t',rfl⟩:=ry;exact rule i j t t' s _ _ ⟨.int (g i j),H,I.tok _,⟨_,rfl⟩,q⟩
def DK{f:Z3->Z3->Sem Z3}{g:Int->Int->Bool}(rule:∀(i j:Int)(t u:Tok)(s:ZR)(Q:Z3->ZR->Prop)(E:Z3->ZR->Prop),Q (.bool (g i j)) s->wpAny (model X.prog X.w) X.A (f (.int i t) (.int j u)) Q E s):
  OpR X f (rI0 λi j=>.bl (g i j)):=by
 intro pins s σ H x y v u Q I rx ry h;obtain⟨i,j,rfl,rfl,q⟩:=h;obtain⟨t,rfl⟩:=rx;obtain⟨t',rfl⟩:=ry;exact rule i j t t' s _ _ ⟨.bl (g i j),H,I,rfl,q⟩
def GB(i j:Int):Prop:=0<j/\j<1073741824
def acy(i j:Int):Prop:=(-(2 ^ 64)<i/\i<2 ^ 64)\/(-(2 ^ 64)<j/\j<2 ^ 64)
def acy.ok(h:acy i j):IntMulOk i j:=by
 rcases h with⟨h1,h2⟩|⟨h1,h2⟩;exact .of_left (intBits_le_64 h1 h2);exact .of_right (intBits_le_64 h1 h2)
def Ct:OpR X (binaryOp .Add) (rI0 λi j=>.int (i+j)):=FC λ_ _ _ _ _ _ _ q=>add_int q
def CG:OpR X (binaryOp .Sub) (rI0 λi j=>.int (i - j)):=FC λ_ _ _ _ _ _ _ q=>sub_int q
def Dy:OpR X (binaryOp .Mult) (rI acy λi j=>.int (i*j)):=opI λ_ _ _ _ _ _ _ hc q=>mul_int q hc.ok
def Ab:OpR X (binaryOp .FloorDiv) (rI GB λi j=>.int (i / j)):=opI λi j _ _ _ _ _ hc q=>by
 have h1:(0:Int)<j:=hc.1;have h2:j<1073741824:=hc.2;exact floordiv_int (by lia) (by rw[Int.fdiv_eq_ediv_of_nonneg i (by lia)];exact q) (.inl (PyProof.noPylong_small (by lia)))
def BQ:OpR X (binaryOp .Mod) (rI (λ_ j=>0<j) λi j=>.int (i%j)):=opI λi j _ _ _ _ _ hc q=>by
 have h1:(0:Int)<j:=hc;exact mod_int' (by lia) (by rw[Int.fmod_eq_emod_of_nonneg i (by lia)];exact q)
end
section
variable{b c:Expr}
def CT(I:Inv X pins σ H s)(q:Q (.bl k) H)(e:k=k'):EP X pins σ Q (.bool k') s:=by
 subst e;exact⟨.bl k,H,I,rfl,q⟩
def ED:OpR X (compareOp .Lt) (rI0 λi j=>.bl (decide (i<j))):=DK λ_ _ _ _ _ _ _ q=>lt_int q
def Ff:OpR X (compareOp .LtE) (rI0 λi j=>.bl (decide (i<=j))):=DK λ_ _ _ _ _ _ _ q=>le_int q
def EK:OpR X (compareOp .Gt) (rI0 λi j=>.bl (decide (j<i))):=DK λ_ _ _ _ _ _ _ q=>gt_int q
def Eu:OpR X (compareOp .GtE) (rI0 λi j=>.bl (decide (j<=i))):=DK λ_ _ _ _ _ _ _ q=>ge_int q
def zf:OpR X (compareOp .IsNot) (λx y H Q=>y=.non/\Q (.bl (!decide (x=.non))) H):=by
 intro pins s σ H x y v u Q I rx ry h;obtain⟨rfl,q⟩:=h;cases ry;refine isnot_none_gen (CT I q ?_);cases x<;>first
  |(cases rx;rfl)
  |(obtain⟨t,rfl⟩:=rx;rfl)
def lm(b:Expr)(h:op≠.In:=by decide)(h2:op≠.NotIn:=by decide):behindInMarks op b=Y:=by
 have e1:(op==CmpOp.In)=Y:=by cases op<;>first|rfl|exact absurd rfl h
 have e2:(op==CmpOp.NotIn)=Y:=by cases op<;>first|rfl|exact absurd rfl h2
 cases b<;>simp[behindInMarks,e1,e2]
def m6(ho:OpR X (compareOp op) r)(ha:PE X a ta)(hb:PE X b tb)(hm:behindInMarks op b=Y):PE X (.Compare a [op] [b] pos) (tOp r ta tb):=by
 intro pins s σ H Q I h;exact wpAny_Compare1 (Fk ha hb I h λv u s2 x y H2 I2 rx ry q=>ho pins s2 σ H2 x y v u Q I2 rx ry q) hm
def Ef(t:TE):TT:=λσ H Q=>t σ H λx H'=>∃k,x=.bl k/\Q k H'
def cq{op:CmpOp}{r:R2}(ho:OpR X (compareOp op) r)(ha:PE X a ta)(hb:PE X b tb)(hm:behindInMarks op b=Y):PT X (.Compare a [op] [b] pos) (Ef (tOp r ta tb)):=by
 intro pins s σ H Q I h;refine wpAny_isTrue_Compare1 (thn (ha pins s σ H _ I h) λv s1 ⟨x,H1,I1,r1,q1⟩=>thn (hb pins s1 σ H1 _ I1 q1) λu s2 ⟨y,H2,I2,r2,q2⟩=>
  thn (ho pins s2 σ H2 x y v u _ I2 r1 r2 q2) λc s3 ⟨z,H3,I3,r3,k,e,q3⟩=>?_) hm
 subst e;cases r3;exact Xy ⟨H3,I3,q3⟩
def FB(K:Z6)(x:V)(H:Hp)(k:Bool):Prop:=
 match x with
 |.non=>k=Y
 |.bl b=>k=b
 |.int i=>k=(i != 0)
 |.str y=>y.length<=sizeLine/\k=((y.length:Int) != 0)
 |.byt y=>y.size<=sizeLine/\k=((y.size:Int) != 0)
 |.ref p=>(∃xs,SqL K H p xs/\k=!xs.isEmpty)\/(∃xs,SqT K H p xs/\k=!xs.isEmpty)\/∃kvs,H p=U (.dK kvs)/\k=!kvs.isEmpty
 |_=>False
def qA{κ:Type}{kvs:Z9 (κ×V)}{vs:Z9 (κ×Z3)}(r:KV kvs vs):(!vs.isEmpty)=!kvs.isEmpty:=by
 cases r<;>rfl
def iG(r:aab xs its):(!its.toArray.isEmpty)=!xs.isEmpty:=by
 cases r<;>simp
def kP:(sizeLine:Nat)<2 ^ 63:=by rw[Yk];decide
def Cv:HP X (λx H Q=>∃k,FB X.K x H k/\Q k H):=by
 intro pins s σ H x v Q I rx h;obtain⟨k,e,q⟩:=h;have hl:=kP;have hs:sizeLine=16777216:=Yk;cases x with
 |non=>
  cases rx;have e':k=Y:=e;subst e';exact truthy_none ⟨H,I,q⟩
 |bl b=>
  cases rx;have e':k=b:=e;subst e';exact Xy ⟨H,I,q⟩
 |int i=>
  obtain⟨t,rfl⟩:=rx;have e':k=(i != 0):=e;subst e';exact PySem.P.truthy_int ⟨H,I,q⟩
 |str y=>
  obtain⟨t,rfl⟩:=rx;obtain⟨hy,e'⟩:y.length<=sizeLine/\k=((y.length:Int) != 0):=e;subst e';exact PySem.P.truthy_str (by lia) ⟨H,I.tok _,q⟩
 |byt y=>
  obtain⟨t,rfl⟩:=rx;obtain⟨hy,e'⟩:y.size<=sizeLine/\k=((y.size:Int) != 0):=e;subst e';exact W.truthy_bytes (by lia) ⟨H,I.tok _,q⟩
 |ref p=>
  cases rx;have e':(∃xs,SqL X.K H p xs/\k=!xs.isEmpty)\/(∃xs,SqT X.K H p xs/\k=!xs.isEmpty)\/∃kvs,H p=U (.dK kvs)/\k=!kvs.isEmpty:=e;rcases e' with⟨xs,hx,e'⟩|⟨xs,hx,e'⟩|⟨kvs,hx,e'⟩;subst e';obtain⟨its,r,pl,hz⟩:=I.list hx;have hlen:=r.length;exact wpAny_truthy_list pl.isList (by simp only[ZT];lia) ⟨H,I.tok _,by rw[iG r];exact q⟩;subst e';obtain⟨its,r,pl,hz⟩:=I.tuple hx;have hlen:=r.length;exact truthy_tuple pl (by simp only[ZT];lia) ⟨H,I.tok _,by rw[iG r];exact q⟩;subst e';obtain⟨hz,hS,vs,r,m⟩:kvs.length<=sizeLine/\(p==sysModules)=Y/\∃vs,KV kvs vs/\s.heap.DictOf (aB X.prog X.w) p vs:=I.hok p _ hx;have hlen:kvs.length=vs.length:=Yn r;exact wpAny_truthy_dict hS m (by lia) ⟨H,I.tok _,by rw[qA r];exact q⟩
 |_=>exact(show False from e).elim
def ou(ha:PE X a ta)(he:∀whole,isTrue a X.env whole=(do let v <-whole;standAt a.pos;holding [v] (truthy v))):
  PT X a (λσ H Q=>ta σ H λx H'=>∃k,FB X.K x H' k/\Q k H'):=by
 intro pins s σ H Q I h;exact isTrue_plain (thn (ha pins s σ H _ I h) λv s1 hz=>by obtain⟨x,H1,I1,r1,q1⟩:=hz;exact Cv pins s1 σ H1 x v Q I1 r1 q1) (he _)
def qa:OpR X (binaryOp .Add) (λx y H Q=>∃i j,x=.str i/\y=.str j/\i.length+j.length<=sizeLine/\Q (.str (i++j)) H):=by
 intro pins s σ H x y v u Q I rx ry h;obtain⟨i,j,rfl,rfl,hz,q⟩:=h;obtain⟨t,rfl⟩:=rx;obtain⟨t',rfl⟩:=ry;exact add_str (λt' tk=>⟨.str (i++j),H,I.tok _,⟨_,rfl⟩,q⟩) hz
def hU(r:aab [x] us):∃u,us=[u]/\RelV x u:=by
 cases r with
 |cons r1 r2=>cases r2;exact⟨_,rfl,r1⟩
end
section
end
def aaV.some_of(r:aaV (U v) o):∃u,o=U u/\RelV v u:=by
 cases o with
 |none=>exact(show False from r).elim
 |some u=>exact⟨u,rfl,r⟩
def aaV.none_of(r:aaV M o):o=M:=by
 cases o with
 |none=>rfl
 |some u=>exact(show False from r).elim
section
end
section
end
section
end
section
end
structure aaq (k:Nat)(A:Za):Prop where
 hd:A.handled=none
 dp:A.depth+3*k+5<recursionLimit
 un:A.units+16*k+200<cLine
def aaq.mono(r:aaq k A)(h:j<=k):aaq j A:=⟨r.hd,by have:=r.dp;lia,by have:=r.un;lia⟩
theorem aaq.deeper(r:aaq (k+1) A)(env:Env):aaq k (A.deeper env):=
 ⟨r.hd,by have:=r.dp;show A.depth+1+3*k+5<_;lia,by have:=r.un;show A.units+3+16*k+200<_;lia⟩
theorem aaq.in1(r:aaq (k+1) A):aaq k A.in1:=
 ⟨r.hd,by have:=r.dp;show A.depth+3*k+5<_;lia,by have:=r.un;show A.units+1+16*k+200<_;lia⟩
theorem aaq.depth(r:aaq k A):A.depth<recursionLimit:=by have:=r.dp;lia
theorem aaq.units(r:aaq k A):A.units+64<cLine:=by have:=r.un;lia
def ab0:TA:=λ_ H Q=>Q [] H
def pJ(ta:TE)(tr:TA):TA:=λσ H Q=>ta σ H λx H1=>tr σ H1 λxs H2=>Q (x::xs) H2
section
variable{e:Expr}{t:TA}{pos:Pos}
def aQ:PA X [] ab0:=λ_ _ _ _ H Q I h=>Calls.spliced_nil ⟨[],H,I,.nil,h⟩
def ay(ha:PE X e te)(hr:PA X es t)(hs:starEach (e::es) X.env=(Y,eval e X.env)::starEach es X.env:=by rfl):PA X (e::es) (pJ te t):=by
 intro pos pins s σ H Q I h;rw[hs];show wpAny _ _ (spliced ((Y,eval e X.env)::backTo pos (starEach es X.env))) _ _ s;refine Calls.spliced_cons (thn (ha pins s σ H _ I h) λu s1 hz=>?_);obtain⟨x,H1,I1,r1,q1⟩:=hz;exact thn (hr pos pins s1 σ H1 _ I1 q1) λus s2 hz=>by obtain⟨xs,H2,I2,r2,q2⟩:=hz;exact⟨x::xs,H2,I2,.cons r1 r2,q2⟩
def Hs(t:TA):TE:=λσ H Q=>t σ H λxs H1=>xs.length<=sizeLine/\∀p,H1 p=M->Q (.ref p) (upd H1 p (.tup xs))
def GC(t:TA):TE:=λσ H Q=>t σ H λxs H1=>xs.length<=sizeLine/\∀p,H1 p=M->Q (.ref p) (upd H1 p (.lst xs))
def CN{x1}(h:PA X es t):PE X (.Tuple es x1 pos) (Hs t):=by
 intro pins s σ H Q I hq;refine wpAny_Tuple_spliced (thn (h pos pins s σ H _ I hq) λus s1 ⟨xs,H1,I1,r,z,q⟩=>⟨by rw[<-r.length];exact z,?_⟩);have hf:H1 s1.z=M:=I1.hok.fresh (ZU _);refine⟨.ref s1.z,upd H1 s1.z (.tup xs),I1.laid (t':=s1.toks) (λb u e=>Z4 _ e) (ZU _) ?_,rfl,q _ hf⟩;exact⟨z,us,r,⟨_,ZN _ rfl,rfl,_,rfl⟩⟩
def Co(h:PA X es t):PE X (.List es pos) (GC t):=by
 intro pins s σ H Q I hq;refine wpAny_List_spliced (thn (h pos pins s σ H _ I hq) λus s1 ⟨xs,H1,I1,r,z,q⟩=>⟨by rw[<-r.length];exact z,?_⟩);have hf:H1 s1.z=M:=I1.hok.fresh (ZU _);refine⟨.ref s1.z,upd H1 s1.z (.lst xs),I1.laid (t':=s1.toks) (λb u e=>Z4 _ e) (ZU _) ?_,rfl,q _ hf⟩;exact⟨z,us,0,r,ZN _ rfl⟩
end
abbrev Sp:=Z9 V->Hp->VK->XK->Prop
abbrev CXT:=Z9 Env->Hp->ZR->XK->Z3->ZR->Prop
structure abq (P:Y0)(w:YM)(K:Z6)(mg:Str->Z8 Z3)(base:Heap)(A:Za)(outer:List Env)(s:ZR)(H:Hp):Prop where
 frames:A.frames=some outer
 mod:Mod K mg base
 bs:∀b o,base.get? b=some o->s.heap.get? b=some o/\H b=none
 bsz:base.objs.size<=s.heap.objs.size
 aa9:s.heap.FunFrames base outer
 frf:∀b∈frs outer,H b=none
 hok:HOk P w H s.heap
 bare:AllBare s.gens
 tabs:abW H
def CE(outer:Z9 Env)(P:Y0)(w:YM)(H:Hp)(s:ZR)(Q:VK)(u:Z3)(s':ZR):Prop:=
 ∃v H',s'.os=s.os/\AllBare s'.gens/\Un (frs outer) [] H H' s.heap s'.heap/\HOk P w H' s'.heap/\RelV v u/\Q v H'
def CR(CX:CXT)(outer:Z9 Env)(P:Y0)(w:YM)(H:Hp)(s:ZR)(Q:VK)(E:XK)(r:Result)(s':ZR):Prop:=
 match r with
 |.ok (.ret u)=>CE outer P w H s Q u s'
 |.ok _=>False
 |.error e=>CX outer H s E e s'
structure abj (P:Y0)(w:YM)(K:Z6)(mg:Str->Z8 Z3)(base:Heap)(CX:CXT)(k:Nat)(f:ZM)(fd:FuncData)(ps:List Str)(sp:Sp):Prop where
 len:∀vs H Q E,sp vs H Q E->vs.length=ps.length
 run:∀(A:Za)(outer:List Env)(s:ZR)(H:Hp)(args:Args)(us:List Z3)(vs:List V)(Q:VK)(E:XK),aaq k A->abq P w K mg base A outer s H->BindsTo s fd args (ps.zip us)->aab vs us->sp vs H Q E->
  codeAny (model P w) A (.call (.ref f) args) (CR CX outer P w H s Q E) s
theorem abq.in1{P:Y0}{w:YM}{K:Z6}{mg:Str->Z8 Z3}{base:Heap}{A:Za}{outer:Z9 Env}{s:ZR}{H:Hp}(e:abq P w K mg base A outer s H):
  abq P w K mg base A.in1 outer s H:=⟨e.frames,e.mod,e.bs,e.bsz,e.aa9,e.frf,e.hok,e.bare,e.tabs⟩
section
def Inv.acI(I:Inv X pins σ H s):abq X.prog X.w X.K X.mg X.base X.A X.stack s H:=
 ⟨I.ok.frames,I.ok.mod,I.bs,ZH I.ok.bsz I.sz,I.stack,I.abO,I.hok,I.bare,I.ok.tabs.to I.base.aa3⟩
def Inv.after(I:Inv X pins σ H s)(h:CE X.stack X.prog X.w H s Q u s'):EP X pins σ Q u s':=by
 obtain⟨v,H',os,bare,un,hok,r,q⟩:=h;obtain⟨hh,g,d,t,UP⟩:=s';obtain rfl:UP=s.os:=os;exact⟨v,H',I.call (h':=hh) (g':=g) (d':=d) (t':=t) (ch:=[]) un hok bare (λb z=>absurd z (by simp)),r,q⟩
end
def E3(sp:Sp)(dvs:Z9 V)(E:XK)(t:TA):TE:=λσ H Q=>t σ H λvs H1=>sp (vs++dvs) H1 Q E
def Binds(K:Z6)(fd:FuncData)(ps:Z9 Str)(ds:Z9 Z3):Prop:=
 ∀(s:ZR)(us:Z9 Z3),K.In s.heap->(us++ds).length=ps.length->BindsTo s fd ⟨us,[]⟩ (ps.zip (us++ds))
def Binds.all{K:Z6}{fd:FuncData}{ps:Z9 Str}(h:∀us:Z9 Z3,us.length=ps.length->bindArgs fd ⟨us,[]⟩=pure (ps.zip us)):Binds K fd ps []:=λs us _ hl=>by
 rw[YX]at hl⊢;exact .of_eq (h us hl)
def uV(CX:CXT)(X:Cx)(E:XK):Prop:=∀(pins:Z9 (ZM×Obj))(σ:St)(H:Hp)(s:ZR)(e:Z3)(s':ZR),Inv X pins σ H s->CX X.stack H s E e s'->X.xe e s'
section
variable{X:Cx}{e:Expr}
def BC(F:abj X.prog X.w X.K X.mg X.base CX k f fd ps sp)(hr:aaq k X.A)(hb:Binds X.K fd ps ds)(hd:aab dvs ds)(hx:uV CX X E)(I:Inv X pins σ H s)(r:aab vs us)(h:sp (vs++dvs) H Q E):wpAny (model X.prog X.w) X.A (call (.ref f) us) (EP X pins σ Q) X.xe s:=by
 have r2:aab (vs++dvs) (us++ds):=r.append hd;have hl:(us++ds).length=ps.length:=by rw[<-r2.length];exact F.len _ _ _ _ h
 refine wpAny_call (WO (F.run X.A X.stack s H ⟨us,[]⟩ (us++ds) (vs++dvs) Q E hr I.acI (hb s us I.kIn hl) r2 h) λr s' hq=>?_);cases r with
 |error e=>exact hx pins σ H s e s' I hq
 |ok fl=>
  cases fl with
  |ret u=>exact I.after hq
  |next=>exact False.elim hq
  |brk=>exact False.elim hq
  |cont=>exact False.elim hq
def zA(F:abj X.prog X.w X.K X.mg X.base CX k f fd ps sp)(hr:aaq k X.A)(hg:Gl X x)(hm:X.mg x=U (.ref f))(hk:W.keepIn X.K (.ref f)=L)(hb:Binds X.K fd ps ds)(hd:aab dvs ds)(hx:uV CX X E)
  (ha:PA X (e::es) t)(Kz:(x==("__debug__":Str))=Y:=by decide)(he:starEach (e::es) X.env=(Y,eval e X.env)::starEach es X.env:=by rfl)(q_:(backTo pos (starEach es X.env)).any (·.1)=Y:=by rfl):
  PE X (.Call (.Name x p) (e::es) [] pos) (E3 sp dvs E t):=by
 intro pins s σ H Q I h;refine XE (AG I hg hm ?_ Kz);refine W.callWith_K (h₀:=X.base) I.ok.mod.kin hk (thn (ha pos pins s σ H _ I h) λus s1 ⟨vs,H1,I1,r,q⟩=>⟨I1.kIn,?_⟩) he q_;exact BC F hr hb hd hx I1 r q
end
section
end
structure aaC (N P:List Str)(sc:Scope):Prop where
 kind:sc.kind=.function
 co:sc.isCoroutine=false
 gen:sc.isGenerator=false
 nd:N.Nodup
 pre:N.take P.length=P
 par:∀x∈P,sc.names.lookup x=some .local\/sc.names.lookup x=some .cell
 acs:∀y∈sc.names,y.2≠.free
theorem lF{kindOf:Str->Z8 NameKind}{x:Str}:∀{binds:Z9 (Str×Z3)}{m:Str->Z8 Z3},(∀v,(x,v)∉binds)->bindL kindOf binds m x=m x
 |[],_,_=>rfl
 |(n,v)::r,m,h=>by
  unfold bindL;rw[lF λw hw=>h w (Z2 _ hw)];split;have:x≠n:=by rintro rfl;exact h v ZW
  simp[this];rfl
theorem jZ{kindOf:Str->Z8 NameKind}{x:Str}:∀{binds:Z9 (Str×Z3)}{m:Str->Z8 Z3},(∀v,(x,v)∉binds)->bindC kindOf binds m x=m x
 |[],_,_=>rfl
 |(n,v)::r,m,h=>by
  unfold bindC;rw[jZ λw hw=>h w (Z2 _ hw)];split;rfl;have:x≠n:=by rintro rfl;exact h v ZW
  simp[this]
theorem kH{kindOf:Str->Z8 NameKind}:∀{P:Z9 Str}{vs:Z9 Z3}{i:Nat}{m:Str->Z8 Z3},P.Nodup->P[i]?=U x->vs[i]?=U v->kindOf x=U .local->
  bindL kindOf (P.zip vs) m x=U v
 |[],_,_,_,_,h,_,_=>by simp at h
 |_::_,[],_,_,_,_,h,_=>by simp at h
 |p::P,w::vs,0,m,nd,h1,h2,hk=>by
  simp at h1 h2;subst h1;subst h2;show bindL kindOf ((p,w)::P.zip vs) m p=_;unfold bindL;rw[lF λv hv=>(YS.mp nd).1 (Wu hv).1,ZO hk];simp
 |p::P,w::vs,i+1,m,nd,h1,h2,hk=>by
  show bindL kindOf ((p,w)::P.zip vs) m x=_;unfold bindL;exact kH (i:=i) (YS.mp nd).2 (by simpa using h1) (by simpa using h2) hk
theorem km{kindOf:Str->Z8 NameKind}:∀{P:Z9 Str}{vs:Z9 Z3}{i:Nat}{m:Str->Z8 Z3},P.Nodup->P[i]?=U x->vs[i]?=U v->kindOf x≠U .local->
  bindC kindOf (P.zip vs) m x=U v
 |[],_,_,_,_,h,_,_=>by simp at h
 |_::_,[],_,_,_,_,h,_=>by simp at h
 |p::P,w::vs,0,m,nd,h1,h2,hk=>by
  simp at h1 h2;subst h1;subst h2;show bindC kindOf ((p,w)::P.zip vs) m p=_;unfold bindC;rw[jZ λv hv=>(YS.mp nd).1 (Wu hv).1,ZJ hk];simp
 |p::P,w::vs,i+1,m,nd,h1,h2,hk=>by
  show bindC kindOf ((p,w)::P.zip vs) m x=_;unfold bindC;exact km (i:=i) (YS.mp nd).2 (by simpa using h1) (by simpa using h2) hk
def dr(N:Z9 Str)(vs:Z9 V):St:=vs.map U++List.replicate (N.length - vs.length) M
noncomputable def pR(CX:CXT)(P:Y0)(w:YM)(K:Z6)(mg:Str->Z8 Z3)(base:Heap)(N:Z9 Str)(qual:Str)(scope:Scope)(f:ZM)(cd:Z3)(A:Za)(outer:Z9 Env)(s:ZR)(H:Hp)(E:XK):Cx where
 prog:=P
 w:=w
 K:=K
 mg:=mg
 base:=base
 A:=A.deeper (envOfC qual scope s.z f cd)
 N:=N
 n_:=s
 K0:=H
 env:=envOfC qual scope s.z f cd
 outer:=outer
 stack:=envOfC qual scope s.z f cd::outer
 ex:=[]
 calm:=L
 fn:=λ_=>L
 pn:=[]
 xe:=λe s'=>wpAny (model P w) (A.deeper (envOfC qual scope s.z f cd)) (leaving (envOfC qual scope s.z f cd) e) (λ_ Ks=>CX outer H s E e Ks) (λe' Ks=>CX outer H s E e' Ks) s'
def oD{sc:Scope}(h:sc.names.lookup x=U .cell):∃c,(cellsFrom n sc.names []).lookup x=U c:=by
 have q:=WH sc.names n [] (.inl h);exact Option.isSome_iff_exists.mp q
def kE{CX:CXT}{P:Y0}{w:YM}{K:Z6}{mg:Str->Z8 Z3}{base:Heap}{N ps:Z9 Str}{qual:Str}{scope:Scope}{f:ZM}{cd:Z3}{A:Za}{outer:Z9 Env}{s s1:ZR}{H:Hp}{E:XK}{us:Z9 Z3}{vs:Z9 V}
  (S:aaC N ps scope) (hd:A.handled=M) (e0:abq P w K mg base A outer s H) (hl:vs.length=ps.length) (r:aab vs us)
  (x:InCallC s s.z (bindL (envOfC qual scope s.z f cd).kindOf (ps.zip us) λ_=>M) (cellsFrom (s.z+1) scope.names []) (bindC (envOfC qual scope s.z f cd).kindOf (ps.zip us) λ_=>M) s1):
  Inv (pR CX P w K mg base N qual scope f cd A outer s H E) [] (dr N vs) H s1:=by
 have q_:ps.length<=N.length:=by have:=congrArg List.length S.pre;rw[X_]at this;lia
 obtain⟨h1,tk,rfl,hk⟩:=x.done;have NU:∀b:ZM,b∉(pR CX P w K mg base N qual scope f cd A outer s H E).ex:=λb z=>absurd (show b∈([]:Z9 ZM) from z) (by simp);refine⟨⟨e0.mod,S.kind,rfl,rfl,ZU _,λy z c h1 h2=>?_,λy hy=>?_,λy c _ h=>?_,λ_=>hd,Around.frames_deeper e0.frames,.inr ⟨rfl,rfl⟩,λb z=>absurd z (NU b),e0.bs,e0.bsz,λb _ _=>NU b,λb z=>absurd z (NU b),e0.aa9,e0.frf,e0.tabs⟩,
  rfl,e0.bare,Un.kept hk,⟨_,x.toInCall.ns,λi y v h1 h2 h3=>?_⟩,λy c h=>⟨_,x.cell y c h⟩,e0.hok.fresh (ZU _),λy c h=>?_,λp hp=>absurd (show p∈([]:Z9 (ZM×Obj)) from hp) (by simp),e0.hok.kept hk,?_⟩
 exact name_of_addr x.apart (YI h1) (YI h2);have hy:scope.names.lookup y=U .cell\/scope.names.lookup y=U .free:=hy;rcases hy with hy|hy;exact oD hy;exact absurd rfl (S.acs _ (YI hy));exact WD (x.above y c (YI h))
 .have hi:i<vs.length:=by
   unfold dr at h2;by_cases hi:i<vs.length;exact hi
   .rw[Yo (by simpa using hi)]at h2
    rw[List.getElem?_replicate]at h2;split at h2<;>cases h2
  have ha:vs[i]?=U v:=by
   unfold dr at h2;rw[YY (by simpa using hi),YQ]at h2;cases e:vs[i]? with
   |none=>rw[e]at h2;trivial
   |some a=>rw[e]at h2;cases h2;rfl
  obtain⟨u,hu,rv⟩:=r.get ha;have hp:ps[i]?=U y:=by
   rw[<-S.pre,List.getElem?_take_of_lt (by lia)];exact h1
  have Sf:ps.Nodup:=by rw[<-S.pre];exact S.nd.sublist (List.take_sublist _ _)
  refine⟨u,rv,?_⟩;rcases S.par y (Zg hp)with k|k;exact .inl ⟨k,kH Sf hp hu k⟩;obtain⟨c,e⟩:=oD (n:=s.z+1) k;refine .inr ⟨.inl k,c,e,?_⟩;have q:=x.cell y c e;rw[km Sf hp hu (by show scope.names.lookup y≠_;rw[k];decide)]at q;exact q
 exact e0.hok.fresh (WD (x.above y c (YI h)));unfold dr;show _=N.length;rw[Zz,Z0,List.length_replicate];lia
def Ev{CX:CXT}{P:Y0}{w:YM}{K:Z6}{mg:Str->Z8 Z3}{base:Heap}{k:Nat}{f:ZM}{name qual:Str}{params:Arguments}{body:Z9 Stmt}{scope:Scope}{dV kV doc pm Jd ct oc:Z3}{an od:Z8 ZM}
  {Nx:Array (Z8 Z3)}{N ps:Z9 Str}{sp:Sp}(lk:K.lookup f=U ⟨oc,od,.func (W.fnOf name qual params body scope dV kV doc pm an Jd ct),Nx⟩) (Ja:W.codeIn K Jd qual=L) (S:aaC N ps scope)
  (len:∀vs H Q E,sp vs H Q E->vs.length=ps.length)
  (IU:∀(A:Za)(outer:Z9 Env)(s:ZR)(H:Hp)(vs:Z9 V)(Q:VK)(E:XK),aaq k (A.deeper (envOfC qual scope s.z f Jd))->sp vs H Q E->
   ∃t,PSs (pR CX P w K mg base N qual scope f Jd A outer s H E) body t/\t {nx:=λ_ H'=>Q .non H',rt:=Q} (dr N vs) H):
  abj P w K mg base CX (k+1) f (W.fnOf name qual params body scope dV kV doc pm an Jd ct) ps sp:=by
 refine⟨len,λA outer s H args us vs Q E hr e0 hb r Mg=>?_⟩;have hl:=len _ _ _ _ Mg;have KX:K.In s.heap:=e0.mod.kin.keeps λb o e=>(e0.bs b o e).1;have lim:s.heap.NoLimit:=e0.mod.nolimit.keeps λb o e=>(e0.bs b o e).1;have LD:∀y∈ps.zip us,scope.names.lookup y.1=U .local\/(scope.names.lookup y.1=U .cell/\((cellsFrom (s.z+1) scope.names []).lookup y.1).isSome=L):=λ⟨n,v⟩ hy=>by
  rcases S.par n (Wu hy).1 with q|q;exact .inl q;exact .inr ⟨q,WH _ _ _ (.inl q)⟩
 refine codeAny_call_function hr.depth (KX _ _ lk) rfl S.co S.gen rfl (W.codeRec_of KX Ja) (hb _ _ _ _ ?_);refine wpAny_newFunctionEnv_cells S.kind LD λenv he s1 x=>?_;subst he;refine⟨lim.keeps x.toInCall.keep,codeAny_func ?_⟩;obtain⟨t,ht,hq⟩:=IU A outer s H vs Q E (hr.deeper _) Mg;have I:Inv (pR CX P w K mg base N qual scope f Jd A outer s H E) [] (dr N vs) H s1:=kE S hr.hd e0 hl r x;refine YK (ht [] s1 (dr N vs) H _ I hq) (λfl s' hs=>?_) λe s' hs=>hs;have fin:∀{h_:St}{H':Hp}{v:V}{u:Z3},Inv (pR CX P w K mg base N qual scope f Jd A outer s H E) [] h_ H' s'->RelV v u->Q v H'->CE outer P w H s Q u s':=
  λ{h_ H' v u} J rv q=>⟨v,H',J.os,J.bare,J.base,J.hok,rv,q⟩
 cases fl with
 |ret u=>
  obtain⟨v,h_,H',J,rv,q⟩:=hs;exact fin J rv q
 |next=>
  obtain⟨h_,H',J,q⟩:=hs;exact fin (v:=V.non) (u:=Value.none) J rfl q
 |brk=>
  obtain⟨_,_,_,q⟩:=hs;exact False.elim q
 |cont=>
  obtain⟨_,_,_,q⟩:=hs;exact False.elim q
section
variable{X:Cx}{x:Str}{p pos:Pos}{e:Expr}{es:Z9 Expr}{t:TA}{id T:String}{r:Z9 V->Hp->VK->Prop}
def tCB(r:Z9 V->Hp->VK->Prop)(t:TA):TE:=λσ H Q=>t σ H λvs H1=>r vs H1 Q
def dU(hc:fG X (.builtin id) r)(hg:Gl X x)(hm:X.mg x=M)(hv:bootBuiltins x=U (.builtin id))(ha:PA X (e::es) t)(hn:x≠"__name__":=by decide)(Kz:(x==("__debug__":Str))=Y:=by decide)(he:starEach (e::es) X.env=(Y,eval e X.env)::starEach es X.env:=by rfl)(q_:(backTo pos (starEach es X.env)).any (·.1)=Y:=by rfl):PE X (.Call (.Name x p) (e::es) [] pos) (tCB r t):=by
 intro pins s σ H Q I h;refine XE (fA I hg hm hv ?_ hn Kz);exact PyProof.Rows.callWith_builtin1 (thn (ha pos pins s σ H _ I h) λus s1 hz=>by obtain⟨vs,H1,I1,r1,q1⟩:=hz;exact hc pins s1 σ H1 vs us Q I1 r1 q1) he q_
def cW(hc:fG X (.type T) r)(hg:Gl X x)(hm:X.mg x=M)(hv:bootBuiltins x=U (.type T))(ha:PA X (e::es) t)(hn:x≠"__name__":=by decide)(Kz:(x==("__debug__":Str))=Y:=by decide)(he:starEach (e::es) X.env=(Y,eval e X.env)::starEach es X.env:=by rfl)(q_:(backTo pos (starEach es X.env)).any (·.1)=Y:=by rfl):PE X (.Call (.Name x p) (e::es) [] pos) (tCB r t):=by
 intro pins s σ H Q I h;refine XE (fA I hg hm hv ?_ hn Kz);exact Yp (thn (ha pos pins s σ H _ I h) λus s1 hz=>by obtain⟨vs,H1,I1,r1,q1⟩:=hz;exact hc pins s1 σ H1 vs us Q I1 r1 q1) he q_
end
section
variable{κ:Type}[DecidableEq κ]
def eO(kvs:Z9 (κ×V))(k:κ):Z8 V:=(kvs.find? λkv=>decide (kv.1=k)).map (·.2)
noncomputable def dn(kvs:Z9 (κ×V))(k:κ)(v:V):Z9 (κ×V):=
 if(kvs.any λkv=>decide (kv.1=k))=L then kvs.map (λkv=>if kv.1=k then(kv.1,v) else kv) else kvs++[(k,v)]
def bU{p:κ×V}{r:Z9 (κ×V)}{k:κ}(e:p.1=k):eO (p::r) k=U p.2:=by simp[eO,List.find?_cons,e]
def bT{p:κ×V}{r:Z9 (κ×V)}{k:κ}(e:¬p.1=k):eO (p::r) k=eO r k:=by simp[eO,List.find?_cons,e]
theorem d8(k:κ):∀kvs:Z9 (κ×V),(kvs.any λkv=>decide (kv.1=k))=(eO kvs k).isSome
 |[]=>rfl
 |p::r=>by
  rw[List.any_cons];by_cases e:p.1=k;simp only[bU e,Zu e,Bool.true_or,Option.isSome_some];rw[bT e,ZD e,Bool.false_or];exact d8 k r
def bA(kvs:Z9 (κ×V))(k:κ)(v:V):(dn kvs k v).length<=kvs.length+1:=by
 unfold dn;split;rw[Z0];lia;rw[Zz,cK,jQ];lia
def ja{kvs:Z9 (κ×V)}{k:κ}(v:V)(h:eO kvs k=M):dn kvs k v=kvs++[(k,v)]:=by
 unfold dn;rw[d8,h];exact ZJ (by decide)
def aaV.aaX(r:aaV o u):o.isSome=u.isSome:=by
 cases o with
 |none=>cases u with
  |none=>rfl
  |some _=>exact(show False from r).elim
 |some _=>cases u with
  |none=>exact(show False from r).elim
  |some _=>rfl
theorem aaV.getD(r:aaV o u)(rd:RelV d d'):RelV (o.getD d) (u.getD d'):=by
 cases o with
 |none=>cases u with
  |none=>exact rd
  |some _=>exact(show False from r).elim
 |some _=>cases u with
  |none=>exact(show False from r).elim
  |some _=>exact r
def KV.val(r:KV kvs vs)(k:κ):aaV (eO kvs k) (valueAt vs k):=by
 unfold KV at r
 induction r with
 |nil=>exact True.intro
 | @cons p q ps qs h t ih=>
  obtain⟨h1,h2⟩:=h;by_cases e:p.1=k;have e':q.1=k:=h1.symm.trans e;have b:valueAt (q::qs) k=U q.2:=by simp[valueAt,List.find?_cons,e']
  rw[bU e,b];exact h2;have e':¬q.1=k:=λz=>e (h1.trans z);have b:valueAt (q::qs) k=valueAt qs k:=by simp[valueAt,List.find?_cons,e']
  rw[bT e,b];exact ih
theorem KV.any(r:KV kvs vs)(k:κ):(kvs.any λkv=>decide (kv.1=k))=vs.any λkv=>decide (kv.1=k):=by
 unfold KV at r
 induction r with
 |nil=>rfl
 |cons h t ih=>rw[List.any_cons,List.any_cons,ih,h.1]
def KV.ab2(r:KV kvs vs)(k:κ)(ry:RelV y u):
  KV (kvs.map λkv=>if kv.1=k then(kv.1,y) else kv) (vs.map λkv=>if kv.1=k then(kv.1,u) else kv):=by
 unfold KV at r⊢
 induction r with
 |nil=>exact .nil
 | @cons p q ps qs h t ih=>
  rw[Z1,Z1];refine .cons ?_ ih;obtain⟨h1,h2⟩:=h;by_cases e:p.1=k;rw[ZO e,ZO (h1.symm.trans e)];exact⟨h1,ry⟩;rw[ZJ e,ZJ (λz=>e (h1.trans z))];exact⟨h1,h2⟩
def KV.put(r:KV kvs vs)(k:κ)(ry:RelV y u):KV (dn kvs k y) (stored vs k u):=by
 unfold dn stored;rw[r.any k];by_cases e:(vs.any λkv=>decide (kv.1=k))=L;rw[ZO e,ZO e];exact r.ab2 k ry;rw[ZJ e,ZJ e];exact Paired.snoc r ⟨rfl,ry⟩
theorem KV.length(r:KV kvs vs):kvs.length=vs.length:=Yn r
end
def lR(r:RelV (kV k) u):(aB P w).is k u=L:=by
 cases k with
 |inl i=>obtain⟨t,e⟩:=(show ∃t,u=Value.int i t from r);subst e;exact f8 P w i t
 |inr x=>obtain⟨t,e⟩:=(show ∃t,u=Value.str x t from r);subst e;exact fQ P w x t
theorem lI:∀{ks:Z9 Key}{us:Z9 Z3},aab (ks.map kV) us->ItemsAre (aB P w) ks us
 |[],_,r=>by rw[YT]at r;cases r;exact .nil
 |k::ks,_,r=>by
  rw[Z1]at r;cases r with
  |cons h t=>exact .cons (lR h) (lI t)
abbrev KT(H:Hp):Z9 (Z9 Key×V)->Z9 (Z9 Key×ZM×Z3)->Prop:=Paired λp q=>p.1=q.1/\H q.2.1=U (.tup (p.1.map kV))/\RelV p.2 q.2.2
def KT.val(r:KT H kvs xs)(k:Z9 Key):aaV (eO kvs k) ((atKey xs k).map (·.2)):=by
 induction r with
 |nil=>exact True.intro
 | @cons p q ps qs h t ih=>
  obtain⟨h1,_,h2⟩:=h;by_cases e:p.1=k;have e':q.1=k:=h1.symm.trans e;have b:atKey (q::qs) k=U q.2:=by simp[atKey,List.find?_cons,e']
  rw[bU e,b];exact h2;have e':¬q.1=k:=λz=>e (h1.trans z);have b:atKey (q::qs) k=atKey qs k:=by simp[atKey,List.find?_cons,e']
  rw[bT e,b];exact ih
def KT.ab2(r:KT H kvs xs)(k:Z9 Key)(ry:RelV y u):
  KT H (kvs.map λkv=>if kv.1=k then(kv.1,y) else kv) (xs.map (putAt k u)):=by
 induction r with
 |nil=>exact .nil
 | @cons p q ps qs h t ih=>
  rw[Z1,Z1];refine .cons ?_ ih;obtain⟨h1,h2,h3⟩:=h;unfold putAt;by_cases e:p.1=k;rw[ZO e,ZO (h1.symm.trans e)];exact⟨h1,h2,ry⟩;rw[ZJ e,ZJ (λz=>e (h1.trans z))];exact⟨h1,h2,h3⟩
def KT.put(r:KT H kvs xs)(k:Z9 Key)(hb:H b=U (.tup (k.map kV)))(ry:RelV y u):
  KT H (dn kvs k y) (storedH xs k b u):=by
 have e:(kvs.any λkv=>decide (kv.1=k))=(atKey xs k).isSome:=by
  rw[d8,(r.val k).aaX,WV]
 unfold dn storedH;rw[e];by_cases q:(atKey xs k).isSome=L;rw[ZO q,ZO q];exact r.ab2 k ry;rw[ZJ q,ZJ q];exact Paired.snoc r ⟨rfl,hb,ry⟩
def KT.keeps(r:KT H kvs xs)(ht:∀b ys,H b=U (.tup ys)->H' b=U (.tup ys)):KT H' kvs xs:=
 Paired.abV r λ_ _ z=>⟨z.1,ht _ _ z.2.1,z.2.2⟩
section
def qI(ok:HOk P w H h)(e:Rd H a u):aam P w H h a u:=e.ok ok
def m7(ok:HOk P w H h)(e:Rd H a (.dK kvs)):kvs.length<=sizeLine/\(a==sysModules)=Y/\∃vs,KV kvs vs/\h.DictOf (aB P w) a vs:=
 show aam P w H h a (.dK kvs) from qI ok e
def Cr(ok:HOk P w H h)(e:H a=U (.dK kvs)):kvs.length<=sizeLine/\(a==sysModules)=Y/\∃vs,KV kvs vs/\h.DictOf (aB P w) a vs:=m7 ok (.inl e)
def Gh(ok:HOk P w H h)(e:H a=U (.tup (ks.map kV))):(tupleKind (aB P w)).is h ks a:=by
 obtain⟨_,its,r,o,h1,h2,n,h3⟩:=(show aam P w H h a (.tup (ks.map kV)) from ok a _ e)
 exact⟨o,its.toArray,n,h1,h2,h3,by simpa using lI r⟩
end
def B6(H:Hp)(a:ZM)(y:V)(r:Z8 V):Prop:=
 ∃kvs k,Rd H a (.dK kvs)/\y=kV k/\r=eO kvs k
def Gv(H:Hp)(a:ZM)(y v:V)(H':Hp):Prop:=
 ∃kvs k,H a=U (.dK kvs)/\y=kV k/\kvs.length<sizeLine/\H'=upd H a (.dK (dn kvs k v))
section
variable{o:Z8 V}{A:Za}
def Inv.big(I:Inv X pins σ H s):sysModules<s.z:=by
 have h:mainGlobals<s.z:=(I.mod.glob.keeps I.bk).lt;exact Nat.lt_trans (by decide) h
def uk(hu:A.units+1<cLine)(I:Inv X pins σ H s)(g:B6 H a y (U v))(ry:RelV y u)(h:∀w' s',Inv X pins σ H s'->RelV v w'->Q w' s'):
  wpAny (model X.prog X.w) A (getItem (.ref a) u) Q E s:=by
 obtain⟨kvs,k,e,ey,l⟩:=g;subst ey;obtain⟨z,hd,vs,rel,dd⟩:=m7 I.hok e;obtain⟨w',hw,Iu⟩:=aaV.some_of (v:=v) (o:=valueAt vs k) (by rw[l];exact rel.val k);exact wpAny_getItem_of (lR ry) dd.mapOf hw (h w' _ (I.tok _) Iu)
def zX(hu:A.units+1<cLine)(I:Inv X pins σ H s)(g:B6 H a y o)(ry:RelV y u)(h:∀s',Inv X pins σ H s'->Q (.bool (!o.isSome)) s'):
  wpAny (model X.prog X.w) A (compareOp .NotIn u (.ref a)) Q E s:=by
 obtain⟨kvs,k,e,ey,l⟩:=g;subst ey;obtain⟨z,hd,vs,rel,dd⟩:=m7 I.hok e;refine wpAny_notIn_of (lR ry) hd dd.mapOf ?_;rw[<-(rel.val k).aaX,<-l];exact h _ (I.tok _)
def gh(I:Inv X pins σ H s)(mu:Mut (H a))(hs:Heap.SameBut a s.heap h')(he:∃q,h'.get? a=U q)(new:aam X.prog X.w (upd H a ob) h' a ob):
  Inv X pins σ (upd H a ob) {s with heap:=h',toks:=t'}:=
 I.write (x:=a) (e:=a) mu (.inl rfl) (λb q hb z=>(hs.2 b hb).trans z) he new
def yw(z:kvs.length<=sizeLine)(hd:(a==sysModules)=Y)(rel:KV kvs vs)(dd:h'.DictOf (aB P w) a vs):
  aam P w H' h' a (.dK kvs):=⟨z,hd,vs,rel,dd⟩
def ut(hu:A.units+1<cLine)(I:Inv X pins σ H s)(g:Gv H a y v H')(ry:RelV y u)(rv:RelV v r)(h:∀s',Inv X pins σ H' s'->Q () s'):
  wpAny (model X.prog X.w) A (setItem (.ref a) u r) Q E s:=by
 obtain⟨kvs,k,e,ey,l,eH⟩:=g;subst ey eH;obtain⟨z,hd,vs,rel,dd⟩:=Cr I.hok e;have hz:vs.length<=sizeLine:=by rw[<-rel.length];exact z
 have hl:(dn kvs k v).length<=sizeLine:=by have:=bA kvs k v;lia
 refine wpAny_setItem_pairs (hsz:=hz) (lR ry) dd λh' KA hs=>h _ ?_;have he:∃q,h'.get? a=U q:=let ⟨q,_,_,hq,_⟩:=KA;⟨q,hq⟩
 exact gh I (by rw[e];exact True.intro) hs he (yw hl hd (rel.put k rv) KA)
end
section
end
def Fb(i:Expr):Prop:=∀ov iv,subscripted i Y ov iv=operate [ov,iv] (getItem ov iv)
def zi{prog:Y0}{w:YM}{A:Za}{E:Z3->ZR->Prop}{s:ZR}{env:Env}{value slice:Expr}{pos:Pos}{T id:String}{Q:Z3->ZR->Prop}
  (hl:typeLookup (.type T) "__getitem__"=pure (U (.builtin id))) (hs:Fb slice)
  (h:wpAny (model prog w) A (eval value env) (λo g_=>wpAny (model prog w) A (eval slice env) (λi a_=>a_.TypeIs o T/\wpAny (model prog w) A (getItem o i) Q E a_) E g_) E s):
  wpAny (model prog w) A (eval (.Subscript value slice pos) env) Q E s:=by
 refine Subscript_ (YK h (λo g_ IG=>YK IG (λi a_ Ln=>?_) λ_ _ x=>x) λ_ _ x=>x);obtain⟨hT,Ln⟩:=Ln;unfold subscriptTail;refine Z_ ?_;rw[getitemInPython_of_ne hT.not_modules];refine Z_ (Yb hT hl ?_);have fin:wpAny (model prog w) A (subscripted slice Y o i) (λr JI=>wpAny (model prog w) A (letTemporaryGo value o r >>= λ_=>pure r) Q E JI) E a_:=by
  rw[hs o i];exact wpAny_operating (YK Ln (λr JI L0=>Z_ (wpAny_letTemporaryGo (Z5 L0))) λ_ _ x=>x)
 first
  |exact Z5 (Z_ fin)
  |exact Z_ (Z5 (Z_ fin))
  |exact Z_ fin
def mJ(I:Inv X pins σ H s)(g:B6 H a y o):s.TypeIs (.ref a) "dict":=by
 obtain⟨kvs,k,e,_,_⟩:=g;obtain⟨_,_,vs,_,dd⟩:=m7 I.hok e;exact dd.typeIs
section
end
def xn(h:Heap)(hb:sysModules<h.objs.size):aam P w H (h.push {cls:=.type "dict",data:=.dict #[]}) h.objs.size (.dK []):=
 ⟨Zs _,Wi.mpr (Zy (Zt hb)),[],.nil,Heap.DictOf.new h⟩
def acq:TE:=λ_ H Q=>∀p,H p=M->Q (.ref p) (upd H p (.dK []))
section
def xi:PE X (.Dict [] [] pos) acq:=λpins s σ H Q I h=>
 wpAny_Dict_empty ⟨.ref s.z,_,I.laid (a:=s.z) (o:=.dK []) (t':=s.toks) (λ_ _ q=>Z4 _ q) (ZU _) (xn s.heap I.big),rfl,h _ (I.hok.fresh (ZU _))⟩
end
section
variable{A:Za}
def Dc(hu:A.units+1<cLine)(I:Inv X pins σ H s)(g:B6 H a y o)(ry:RelV y u)(rd:RelV d r)(h:∀w' s',Inv X pins σ H s'->RelV (o.getD d) w'->Q w' s'):
  wpAny (model X.prog X.w) A (call (.builtin "dict.get") [.ref a,u,r]) Q E s:=by
 obtain⟨kvs,k,e,ey,l⟩:=g;subst ey;obtain⟨z,hd,vs,rel,dd⟩:=m7 I.hok e;refine call_meetsIn Wq dd.typeIs F.entry_dict_get (F.args_dict_get_3 _ _ _) (meets_dict_get_default (aB X.prog X.w) a (lR ry) hd r) ⟨_,dd.mapOf,h _ _ (I.tok _) ?_⟩;rw[l];exact(rel.val k).getD rd
end
section
end
section
end
section
end
end L2
namespace HT
open PySem PyProof.Rows
def ab3(A:Za)(s:ZR)(a:Int)(t:Tok)(c:Int)(u:Tok)(prog:Y0)(w:YM)(E:Z3->ZR->Prop)(Q:Z3->ZR->Prop)(h:Q (.bool (decide (a<c))) s):
  wpAny (model prog w) A (richCompare .Lt (.int a t) (.int c u)) Q E s:=
 (PyProof.Rows.lt_int h:wpAny (model prog w) A (compareOp .Lt (.int a t) (.int c u)) Q E s)
section
open PySem.SeqAt
open PySem.AutoSeq1 (wpAny_loadPart')
open PySem.MeetsSeq PySem.MeetsSeq2 PySem.MeetsSeq3
end
section
def sIx(n d:Nat):Z8 Int->Nat
 |none=>d
 |some v=>if v<0 then(v+(n:Int)).toNat else min v.toNat n
theorem abC(n d:Nat):sIx n d M=d:=rfl
def abP(n d k:Nat):sIx n d (U (k:Int))=min k n:=by
 show(if(k:Int)<0 then((k:Int)+(n:Int)).toNat else min (k:Int).toNat n)=min k n;rw[ZJ (by lia),Int.toNat_natCast]
end
end HT
namespace L2
open PySem PySem.Spec PyProof.Rows
variable[Lams]
abbrev TO:=St->Hp->(Z8 Int->Hp->Prop)->Prop
def PO(X:Cx)(e:Z8 Expr)(t:TO):Prop:=
 ∀(pins:Z9 (ZM×Obj))(s:ZR)(σ:St)(H:Hp)(Q:Z8 Int->Hp->Prop),Inv X pins σ H s->t σ H Q->
  wpAny (model X.prog X.w) X.A (evalPart e X.env) (λu s'=>∃o H',Inv X pins σ H' s'/\IsPart u o/\Q o H') X.xe s
def acd:TO:=λ_ H Q=>Q M H
def Fm(t:TE):TO:=λσ H Q=>t σ H λx H1=>∃i,x=.int i/\Q (U i) H1
def pH:∀{us:Z9 Z3},aab (ns.map V.int) us->IntsAre us ns:=by
 induction ns with
 |nil=>intro us r;rw[YT]at r;cases r;exact .nil
 |cons n ns ih=>
  intro us r;rw[Z1]at r;cases r with
  |cons r1 r2=>
   obtain⟨t,e⟩:=r1;subst e;exact .cons n t (ih r2)
section
variable{X:Cx}{te:TE}{lo hi:Z8 Expr}{tl th:TO}
def AW:PO X M acd:=by
 intro pins s σ H Q I h;rw[evalPart_none];exact Z5 ⟨M,H,I,.none,h⟩
def zn(h:PE X e te):PO X (U e) (Fm te):=by
 intro pins s σ H Q I hw;rw[evalPart_some];refine thn (h pins s σ H _ I hw) λu s1 hz=>?_;obtain⟨x,H1,I1,r1,q1⟩:=hz;obtain⟨i,rfl,q⟩:=q1;obtain⟨t,rfl⟩:=r1;exact⟨U i,H1,I1,.int i t,q⟩
def SlR(X:Cx)(r:V->Z8 Int->Z8 Int->Hp->VK->Prop):Prop:=
 ∀(pins:Z9 (ZM×Obj))(s:ZR)(σ:St)(H:Hp)(x:V)(v vl vu:Z3)(lo hi:Z8 Int)(sl:ZM)(Q:VK),Inv X pins σ H s->RelV x v->s.heap.IsSliceOf sl vl vu .none->IsPart vl lo->IsPart vu hi->r x lo hi H Q->
  ∃T id,typeLookup (.type T) "__getitem__"=pure (U (.builtin id))/\s.TypeIs v T/\wpAny (model X.prog X.w) X.A (getItem v (.ref sl)) (EP X pins σ Q) X.xe s
def tSl(r:V->Z8 Int->Z8 Int->Hp->VK->Prop)(te:TE)(tl th:TO):TE:=λσ H Q=>te σ H λx H1=>tl σ H1 λl H2=>th σ H2 λu H3=>r x l u H3 Q
def oI(hr:SlR X r)(he:PE X e te)(hl:PO X lo tl)(hu:PO X hi th):PE X (.Subscript e (.Slice lo hi M p2) pos) (tSl r te tl th):=by
 intro pins s σ H Q I h;refine Subscript_ (thn (he pins s σ H _ I h) λv s1 hz=>?_);obtain⟨x,H1,I1,r1,q1⟩:=hz;refine wpAny_Slice (thn (hl pins s1 σ H1 _ I1 q1) λvl s2 ⟨l,H2,I2,pl,q2⟩=>thn (hu pins s2 σ H2 _ I2 q2) λvu s3 hz=>?_);obtain⟨u,H3,I3,pu,q3⟩:=hz;rw[evalPart_none];refine Z5 ?_;have I4:Inv X pins σ H3 {s3 with heap:=s3.heap.push {cls:=.type "slice",data:=.fields #[vl,vu,.none]}}:=I3.kept (t':=s3.toks) λb ob q=>Z4 _ q;obtain⟨T,id,hT,ht,hg⟩:=hr pins {s3 with heap:=s3.heap.push {cls:=.type "slice",data:=.fields #[vl,vu,.none]}} σ H3 x v vl vu l u s3.z Q I4 r1 (Heap.IsSliceOf.new ..) pl pu q3;show wpAny (model X.prog X.w) X.A (subscriptTail e (.Slice lo hi M p2) v (.ref s3.z)) (EP X pins σ Q) X.xe {s3 with heap:=s3.heap.push {cls:=.type "slice",data:=.fields #[vl,vu,.none]}};exact tail_any (ops:=[.ref s3.z,v]) ht hT hg (by with_unfolding_all rfl)
def A1(xs:Z9 V)(lo hi:Z8 Int):Z9 V:=(xs.drop (HT.sIx xs.length 0 lo)).take (HT.sIx xs.length xs.length hi - HT.sIx xs.length 0 lo)
def m8(xs:Z9 V)(lo hi:Z8 Int):(A1 xs lo hi).length<=xs.length:=by
 unfold A1;rw[X_,List.length_drop];lia
end
def ixN(n:Nat)(i:Int):Z8 Nat:=if 0<=i then(if i<n then U i.toNat else M) else if -(n:Int)<=i then U (i+n).toNat else M
def atI{q:Type}(xs:Z9 q)(i:Int):Z8 q:=(ixN xs.length i).bind λj=>xs[j]?
def Aa(h:ixN n i=U j):seqIndex? i n=U j/\j<n/\ -(n:Int)<=i/\i<n:=by
 unfold ixN at h;by_cases h0:0<=i;rw[ZO h0]at h;by_cases h1:i<n;rw[ZO h1]at h;have e:i.toNat=j:=Z7 h;exact⟨by rw[seqIndex_of h0 h1,e],by lia,by lia,h1⟩;rw[ZJ h1]at h;trivial;rw[ZJ h0]at h;by_cases h1: -(n:Int)<=i;rw[ZO h1]at h;have e:(i+n).toNat=j:=Z7 h;exact⟨by rw[seqIndex_neg (by lia) h1,e],by lia,h1,by lia⟩;rw[ZJ h1]at h;trivial
def mX{q:Type}{xs:Z9 q}{i:Int}{v:q}(h:atI xs i=U v):∃j,seqIndex? i xs.length=U j/\xs[j]?=U v/\j<xs.length/\ -(xs.length:Int)<=i/\i<xs.length:=by
 unfold atI at h;cases e:ixN xs.length i with
 |none=>rw[e]at h;trivial
 |some j=>
  rw[e]at h;obtain⟨h1,h2,h3,h4⟩:=Aa e;exact⟨j,h1,h,h2,h3,h4⟩
def sL{q:Type}{xs:Z9 q}{j:Nat}{v:q}(h:xs[j]?=U v):atI xs (j:Int)=U v:=by
 have hj:j<xs.length:=(ZP.mp h).1;have e:ixN xs.length (j:Int)=U j:=by
  unfold ixN;rw[ZO (by lia),ZO (by lia)];simp
 unfold atI;rw[e];exact h
def gw(b:Expr):Prop:=∀o i,subscripted b Y o i=operate [o,i] (getItem o i)
def IxR(X:Cx)(r:R2):Prop:=
 ∀(value slice:Expr)(pins:Z9 (ZM×Obj))(s:ZR)(σ:St)(H:Hp)(x y:V)(v u:Z3)(Q:VK),Inv X pins σ H s->RelV x v->RelV y u->r x y H Q->
  subscripted slice Y v u=operate [v,u] (getItem v u)->wpAny (model X.prog X.w) X.A (subscriptTail value slice v u) (EP X pins σ Q) X.xe s
def MtR(X:Cx)(id:String)(r:V->Z9 V->Hp->VK->Prop):Prop:=
 ∀(pins:Z9 (ZM×Obj))(s:ZR)(σ:St)(H:Hp)(x:V)(xs:Z9 V)(v:Z3)(us:Z9 Z3)(Q:VK),Inv X pins σ H s->RelV x v->aab xs us->r x xs H Q->
  wpAny (model X.prog X.w) X.A (call (.builtin id) (v::us)) (EP X pins σ Q) X.xe s
structure Mc (v:Env)(o:Expr)(n:Str)(e:Expr)(es:List Expr)(ap cp:Pos):Prop where
 b:attributeBase o n v (eval o v)=eval o v
 f:((backTo cp (starEach (e::es) v)).all (λx=>!x.1)&&(backToKw cp (keywordEach [] v)).all (λx=>x.1.isSome)&&decide ((e::es).length+([]:List Keyword).length+(if([]:List Keyword).isEmpty then 0 else 1)<30))=true
 l:(ap.endLine==cp.line)=true
 s:starEach (e::es) v=(false,eval e v)::starEach es v
 p:(backTo cp (starEach es v)).any (·.1)=false
section
variable{X:Cx}{a b:Expr}{ta tb:TE}{pos:Pos}
def IxR.or(h:IxR X r)(h':IxR X r'):IxR X (λx y H Q=>r x y H Q\/r' x y H Q):=by
 intro value slice pins s σ H x y v u Q I rx ry q hs;rcases q with q|q;exact h value slice pins s σ H x y v u Q I rx ry q hs;exact h' value slice pins s σ H x y v u Q I rx ry q hs
def xo(hr:IxR X r)(ha:PE X a ta)(hb:PE X b tb)(hs:gw b):PE X (.Subscript a b pos) (tOp r ta tb):=by
 intro pins s σ H Q I h;exact Subscript_ (Fk ha hb I h λv u s2 x y H2 I2 rx ry q=>hr a b pins s2 σ H2 x y v u Q I2 rx ry q (hs _ _))
def Gc(K:Z6):R2:=λx y H Q=>∃p xs i v,x=.ref p/\y=.int i/\SqL K H p xs/\atI xs i=U v/\Q v H
def FW(K:Z6):R2:=λx y H Q=>∃p xs i v,x=.ref p/\y=.int i/\SqT K H p xs/\atI xs i=U v/\Q v H
def acF:R2:=λx y H Q=>∃z i c,x=.str z/\y=.int i/\z.length<=sizeLine/\atI z.cps.toList i=U c/\Q (.str ⟨#[c]⟩) H
def mD:IxR X (Gc X.K):=by
 intro value slice pins s σ H x y v u Q I rx ry h hs;obtain⟨p,xs,i,z,rfl,rfl,hq,he,q⟩:=h;cases rx;obtain⟨t,rfl⟩:=ry;obtain⟨its,r,pl,hz⟩:=I.list hq;obtain⟨j,h1,h2,h3,h4,h5⟩:=mX he;obtain⟨w,ew,Iu⟩:=r.get h2;have hl:=r.length;have hn:=kP;have fin:EP X pins σ Q w s:=⟨z,H,I,Iu,q⟩
 by_cases h0:0<=i;have hj:i.toNat=j:=by
  rw[seqIndex_of h0 h5]at h1;exact Z7 h1
 exact item_listR pl.isList h0 (by lia) (by rw[hj];simpa using ew) fin hs
 .have hj:(i+(its.toArray.size:Int)).toNat=j:=by
   rw[seqIndex_neg (by lia) h4]at h1;rw[ZT,<-hl];exact Z7 h1
  exact subscriptTail_builtinR (x:=w) pl.isList.typeIs slot_list_getitem.lookup
   (wpAny_getItem_list_neg (Q:=λr s'=>r=w/\EP X pins σ Q r s') pl.isList (by lia) (by rw[ZT]<;>lia) (by lia) (by rw[hj];simpa using ew) ⟨rfl,fin⟩) hs
def Du:IxR X (FW X.K):=by
 intro value slice pins s σ H x y v u Q I rx ry h hs;obtain⟨p,xs,i,z,rfl,rfl,hq,he,q⟩:=h;cases rx;obtain⟨t,rfl⟩:=ry;obtain⟨its,r,pl,hz⟩:=I.tuple hq;obtain⟨j,h1,h2,h3,h4,h5⟩:=mX he;obtain⟨w,ew,Iu⟩:=r.get h2;have hl:=r.length;have hn:=kP;have fin:EP X pins σ Q w s:=⟨z,H,I,Iu,q⟩;exact subscriptTail_builtinR (x:=w) pl.typeIs slot_tuple_getitem.lookup
  (getItem_tuple (j:=j) (Q:=λr s'=>r=w/\EP X pins σ Q r s') pl (by lia) (by lia) (by rw[ZT,<-hl];exact h1) (by simpa using ew) ⟨rfl,fin⟩) hs
def xZ:IxR X acF:=by
 intro value slice pins s σ H x y v u Q I rx ry h hs;obtain⟨z,i,c,rfl,rfl,hz,he,q⟩:=h;obtain⟨t,rfl⟩:=rx;obtain⟨t',rfl⟩:=ry;obtain⟨j,h1,h2,h3,h4,h5⟩:=mX he;have hl:z.cps.toList.length=z.length:=by simp[Str.length]
 rw[hl]at h1 h4 h5;have hn:=kP;exact tail_any (typeIs_str s z t) slot_str_getitem.lookup (getItem_str (c:=c) (by
  have e1:decide (i< -(2 ^ 63:Int))=Y:=ZD (by lia);have e2:decide (i>=2 ^ 63)=Y:=ZD (by lia);rw[e1,e2,Bool.or_false]) (by rw[h1];simpa using h2) ⟨.str ⟨#[c]⟩,H,I.tok _,⟨_,rfl⟩,q⟩) hs
def rIx(K:Z6):R2:=λx y H Q=>Gc K x y H Q\/FW K x y H Q\/acF x y H Q
def CK:IxR X (rIx X.K):=mD.or (Du.or xZ)
def kM(lo hi:Z8 Int)(n:Nat):(sliceBounds lo hi M n).1=((HT.sIx n 0 lo:Nat):Int)/\(sliceBounds lo hi M n).2.1=((HT.sIx n n hi:Nat):Int)/\(sliceBounds lo hi M n).2.2=1:=by
 refine⟨?_,?_,rfl⟩
 .cases lo with
  |none=>simp[sliceBounds,HT.sIx]
  |some i=>
   simp only[sliceBounds,HT.sIx,Option.getD_none,show(1:Int)>0 by decide,Y8];by_cases h:i<0
   .simp only[h,Y8]<;>lia
   .simp only[h,Zj]<;>lia
 .cases hi with
  |none=>simp[sliceBounds,HT.sIx]
  |some i=>
   simp only[sliceBounds,HT.sIx,Option.getD_none,show(1:Int)>0 by decide,Y8];by_cases h:i<0
   .simp only[h,Y8]<;>lia
   .simp only[h,Zj]<;>lia
def jc(its:Z9 Z3)(lo hi:Z8 Int):slicePick its.toArray lo hi M=((its.drop (HT.sIx its.length 0 lo)).take (HT.sIx its.length its.length hi - HT.sIx its.length 0 lo)).toArray:=by
 obtain⟨h1,h2,h3⟩:=kM lo hi its.toArray.size;unfold slicePick;rw[h1,h2,h3];simp only[sliceRange_one,pick_run,ZT]<;>rfl
def Ho(K:Z6):V->Z8 Int->Z8 Int->Hp->VK->Prop:=λx lo hi H Q=>∃a xs,x=.ref a/\SqL K H a xs/\∀p,H p=M->Q (.ref p) (upd H p (.lst (A1 xs lo hi)))
def Bb:SlR X (Ho X.K):=by
 intro pins s σ H x v vl vu lo hi sl Q I rx hs pl pu h;obtain⟨a,xs,rfl,hx,q⟩:=h;cases rx;obtain⟨its,r,ht,hz⟩:=I.list hx;have hlen:=r.length;refine⟨"list",_,slot_list_getitem.lookup,ht.isList.typeIs,?_⟩;refine wpAny_getItem_list_slice ht.isList hs pl pu .none (by simp) ?_ (by rw[ZT]<;>lia);rw[jc,<-hlen];refine⟨.ref s.z,_,I.laid (t':=s.toks) (o:=.lst (A1 xs lo hi)) (λb ob q=>Z4 _ q) (ZU _) ?_,rfl,q _ (I.hok.fresh (ZU _))⟩;exact⟨ZH (m8 xs lo hi) hz,_,0,(r.drop (HT.sIx xs.length 0 lo)).take (HT.sIx xs.length xs.length hi - HT.sIx xs.length 0 lo),ZN _ rfl⟩
def kJ:fG X (.builtin "len") (λxs H Q=>∃p ys,xs=[.ref p]/\(SqL X.K H p ys\/SqT X.K H p ys)/\Q (.int ys.length) H):=by
 intro pins s σ H xs us Q I r h;obtain⟨p,ys,rfl,hq,q⟩:=h;obtain⟨u,rfl,rx⟩:=hU r;cases rx;have hn:=kP;rcases hq with hq|hq
 .obtain⟨its,r',pl,hz⟩:=I.list hq
  have hlen:=r'.length;exact Calls.call_len_list pl.isList (by simp only[ZT]<;>lia) ⟨.int ys.length,H,I.tok _,⟨s.toks+1,by rw[ZT,hlen]⟩,q⟩
 .obtain⟨its,r',pl,hz⟩:=I.tuple hq
  have hlen:=r'.length;exact len_tuple pl (by simp only[ZT]<;>lia) ⟨.int ys.length,H,I.tok _,⟨s.toks+1,by rw[ZT,hlen]⟩,q⟩
def kB:fG X (.type "list") (λxs H Q=>∃p ys,xs=[.ref p]/\(SqL X.K H p ys\/SqT X.K H p ys)/\∀l,H l=M->Q (.ref l) (upd H l (.lst ys))):=by
 intro pins s σ H xs us Q I r h;obtain⟨p,ys,rfl,hq,q⟩:=h;obtain⟨u,rfl,rx⟩:=hU r;cases rx;have fin:∀(its:Z9 Z3),aab ys its->ys.length<=sizeLine->∀(h':Heap)(c':Nat),(∀b o',s.heap.get? b=U o'->h'.get? b=U o')->
   h'.get? s.z=U {cls:=.type "list",dict:=M,data:=.seq its.toArray c',slots:=#[]}->EP X pins σ Q (.ref s.z) {s with heap:=h'}:=λits r' hz h' c' kp e=>
  ⟨.ref s.z,_,I.laid (t':=s.toks) kp (ZU _) (show aam X.prog X.w _ h' _ (.lst ys) from⟨hz,its,c',r',e⟩),rfl,q _ (I.hok.fresh (ZU _))⟩
 rcases hq with hq|hq
 .obtain⟨its,r',pl,hz⟩:=I.list hq
  have hlen:=r'.length;obtain⟨o,ho,hc,n,hd⟩:=pl.isList;exact call_list_seq p (.inl rfl) ho hc hd (λh' c' kp e=>fin its r' hz h' c' kp e) (by simp only[ZT]<;>lia)
 .obtain⟨its,r',pl,hz⟩:=I.tuple hq
  have hlen:=r'.length;obtain⟨o,ho,hc,n,hd⟩:=pl;exact call_list_seq p (.inr rfl) ho hc hd (λh' c' kp e=>fin its r' hz h' c' kp e) (by simp only[ZT]<;>lia)
def jf:fG X (.type "tuple") (λxs H Q=>∃p ys,xs=[.ref p]/\((SqL X.K H p ys/\∀l,H l=M->Q (.ref l) (upd H l (.tup ys)))\/(SqT X.K H p ys/\Q (.ref p) H))):=by
 intro pins s σ H xs us Q I r h;obtain⟨p,ys,rfl,h⟩:=h;obtain⟨u,rfl,rx⟩:=hU r;cases rx;rcases h with⟨hq,q⟩|⟨hq,q⟩
 .obtain⟨its,r',pl,hz⟩:=I.list hq
  have hlen:=r'.length;refine call_tuple_list pl.isList (λh' kp=>?_) (by simp only[ZT]<;>lia);have I1:Inv X pins σ H {s with heap:=h'}:=I.kept (t':=s.toks) kp;have I2:Inv X pins σ (upd H h'.objs.size (.tup ys)) {s with heap:=h'.push {cls:=.type "tuple",data:=.seq its.toArray}}:=
   I1.laid (t':=s.toks) (λb o e=>Z4 _ e) (ZU _) (show aam X.prog X.w _ _ _ (.tup ys) from⟨hz,its,r',IsTup.new _ _⟩)
  exact⟨.ref h'.objs.size,_,I2,rfl,q _ (I1.hok.fresh (ZU _))⟩
 obtain⟨its,r',pl,hz⟩:=I.tuple hq;exact call_tuple_same pl ⟨.ref p,H,I,rfl,q⟩
def tyV(K:Z6)(T:String)(x:V)(H:Hp):Prop:=match x with
 |.str _=>T="str"
 |.int _=>T="int"
 |.ref p=>(T="list"/\∃xs,SqL K H p xs)\/(T="tuple"/\∃o,K.lookup p=U o/\o.cls=.type "tuple"/\o.dict=M)\/
   (T="dict"/\∃kvs,H p=U (.dK kvs))
 |_=>False
def BM(I:Inv X pins σ H s)(r:RelV x v)(ty:tyV X.K T x H):
  s.TypeIs v T/\∀a,v=.ref a->∃ob,s.heap.get? a=U ob/\ob.dict=M:=by
 cases x with
 |str z=>
  obtain⟨t,rfl⟩:=r;cases (show T="str" from ty);exact⟨typeIs_str s z t,λ_ e=>nomatch e⟩
 |int i=>
  obtain⟨t,rfl⟩:=r;cases (show T="int" from ty);exact⟨typeIs_int s i t,λ_ e=>nomatch e⟩
 |ref p=>
  cases r;rcases ty with⟨rfl,xs,hq⟩|⟨rfl,o,hk,hc,hd⟩|⟨rfl,kvs,hk⟩;obtain⟨its,_,pl,_⟩:=I.list hq;refine⟨pl.isList.typeIs,λa e=>?_⟩;cases e;obtain⟨o,n,e,c,hd,_⟩:=pl;exact⟨o,e,hd⟩;refine⟨⟨o,I.kIn p o hk,hc⟩,λa e=>?_⟩;cases e;exact⟨o,I.kIn _ o hk,hd⟩;obtain⟨_,_,_,_,o,_,_,e,ex,_⟩:=I.hok p _ hk;refine⟨⟨o,e,ex.1⟩,λa e2=>?_⟩;cases e2;exact⟨o,e,ex.2.1⟩
 |_=>exact False.elim ty
def tBM(K:Z6)(T:String)(r:V->Z9 V->Hp->VK->Prop)(to:TE)(t:TA):TE:=λσ H Q=>to σ H λx H1=>tyV K T x H1/\t σ H1 λxs H2=>r x xs H2 Q
variable{o e:Expr}{es:Z9 Expr}{to:TE}{t:TA}{name:Str}{apos i_:Pos}{T id:String}{r:V->Z9 V->Hp->VK->Prop}
def pQ(pa:PlainAttrs T)(slot:Slot T name id)(Qy:typeOf (.builtin id)=pure (.type "method_descriptor"))(hm:MtR X id r)(ho:PE X o to)(ha:PA X (e::es) t)(mc:Mc X.env o name e es apos i_):
  PE X (.Call (.Attribute o name apos) (e::es) [] i_) (tBM X.K T r to t):=by
 intro pins s σ H Q I h;refine wpAny_Call_method_late mc.b mc.f mc.l rfl (thn (ho pins s σ H _ I h) λv s1 hz=>?_);obtain⟨x,H1,I1,r1,ty,q1⟩:=hz;obtain⟨h1,h2⟩:=BM I1 r1 ty;refine⟨T,id,pa,slot,Qy,h1,h2,?_⟩;have hA:=ha i_ pins s1 σ H1 _ I1 q1;rw[mc.s]at hA⊢;refine Calls.callWith_builtin (by show(Y||(backTo i_ (starEach es X.env)).any (·.1))=Y;rw[mc.p]<;>rfl) (Calls.evalArgs_plain ?_);exact thn hA λus s2 hz=>by obtain⟨vs,H2,I2,r2,q2⟩:=hz;exact hm pins s2 σ H2 x vs v us Q I2 r1 r2 q2
end
def MtM(X:Cx)(id:String)(r:V->Z9 V->Hp->VK->Prop):Prop:=
 ∀(pins:Z9 (ZM×Obj))(s:ZR)(σ:St)(H:Hp)(x:V)(xs:Z9 V)(v:Z3)(us:Z9 Z3)(Q:VK),Inv X pins σ H s->RelV x v->aab xs us->r x xs H Q->
  wpAny (model X.prog X.w) X.A (call (.builtin id) (v::us)) (EP X pins σ Q) X.xe s
def aab.one(h:aab [x] us):∃u,us=[u]/\RelV x u:=hU h
def aab.two(h:aab [x,y] us):∃u v,us=[u,v]/\RelV x u/\RelV y v:=by
 cases h with
 |cons r t=>
  obtain⟨u,rfl,q⟩:=hU t;exact⟨_,u,rfl,r,q⟩
section
def Inv.abK{its its':Z9 Z3}{f:Array Z3->Array Z3}{t':Nat}(I:Inv X pins σ H s)(hH:H l=U (.lst xs))(e:s.heap.get? l=U {cls:=.type "list",data:=.seq its.toArray n})(hf:f its.toArray=its'.toArray)(hv:aab ys its')(hz:ys.length<=sizeLine):
  Inv X pins σ (upd H l (.lst ys)) {s with heap:=s.heap.update l (Obj.mapSeq f),toks:=t'}:=by
 have q:=PySem.IsL.update e f;rw[hf]at q;refine I.write (x:=l) (e:=l) (by rw[hH];exact trivial) (.inl rfl) (λb' u hb hu=>(Zk s.heap (Obj.mapSeq f) (Zy hb)).trans hu) ⟨_,q⟩ ?_;exact⟨hz,its',_,hv,q⟩
def Inv.acH(I:Inv X pins σ H s)(hv:aab ys its)(hz:ys.length<=sizeLine):
  Inv X pins σ (upd H s.z (.lst ys)) {s with heap:=s.heap.push {cls:=.type "list",data:=.seq its.toArray},toks:=t'}:=
 I.laid (λ_ _ q=>Z4 _ q) (ZU _) ⟨hz,its,0,hv,ZN _ rfl⟩
theorem Inv.fresh(I:Inv X pins σ H s):H s.z=M:=I.hok.fresh (ZU _)
def Inv.acg(I:Inv X pins σ H s)(hH:H l=U (.lst xs)):xs.length<=sizeLine/\∃(its:Z9 Z3)(n:Nat),aab xs its/\xs.length=its.length/\s.heap.get? l=U {cls:=.type "list",data:=.seq its.toArray n}:=by
 obtain⟨z,its,n,r,e⟩:=I.hok l _ hH;exact⟨z,its,n,r,r.length,e⟩
def wp(h:n<=sizeLine):Builtin.List.listTooLong n=Y:=by
 unfold Builtin.List.listTooLong;exact ZD (by lia)
end
section
def acf:V->Z9 V->Hp->VK->Prop:=λx vs H Q=>∃l xs y,x=.ref l/\vs=[y]/\H l=U (.lst xs)/\xs.length<sizeLine/\Q .non (upd H l (.lst (xs++[y])))
def k7:MtM X "list.append" acf:=by
 intro pins s σ H x vs v us Q I rx rv h;obtain⟨l,xs,y,rfl,rfl,hH,hz,q⟩:=h;cases rx;obtain⟨u,rfl,ru⟩:=rv.one;obtain⟨z,its,n,r,hl,e⟩:=I.acg hH;refine Wj F.slot_list_append ⟨_,e,rfl⟩ F.entry_list_append (F.args_list_append_2 _ _) (PySem.list_append l its.toArray n u (by rw[ZT];lia)) ⟨e,?_⟩;refine⟨.non,_,I.abK (its':=its++[u]) hH e (by simp) (r.append (.cons ru .nil)) ?_,rfl,q⟩;rw[Zz,List.length_singleton];lia
def ace:V->Z9 V->Hp->VK->Prop:=λx vs H Q=>∃l b xs zs,x=.ref l/\vs=[.ref b]/\H l=U (.lst xs)/\H b=U (.lst zs)/\xs.length+zs.length<=sizeLine/\Q .non (upd H l (.lst (xs++zs)))
def sj:MtM X "list.extend" ace:=by
 intro pins s σ H x vs v us Q I rx rv h;obtain⟨l,b,xs,zs,rfl,rfl,hH,hB,hz,q⟩:=h;cases rx;obtain⟨u,rfl,ru⟩:=rv.one;cases ru;obtain⟨z,its,n,r,hl,e⟩:=I.acg hH;obtain⟨z2,ka,n2,r2,Lh,e2⟩:=I.acg hB;have hsz:its.toArray.size+ka.toArray.size<=sizeLine:=by rw[ZT,ZT];lia
 have OK:¬(!its.toArray.isEmpty&&Builtin.List.listTooLong (its.toArray.size+ka.toArray.size))=L:=by
  rw[wp hsz,XB];exact Zl
 refine Wj F.slot_list_extend ⟨_,e,rfl⟩ F.entry_list_extend (F.args_list_extend_2 _ _)
  (AutoSeq1.list_extend_list_list_0 l its.toArray n b ka.toArray n2 OK (by rw[ZT];lia) (by lia)) ⟨e,e2,?_⟩
 refine⟨.non,_,I.abK (its':=its++ka) hH e (by simp) (r.append r2) ?_,rfl,q⟩;rw[Zz];lia
end
section
end
section
end
end L2
namespace Att
open PySem PySem.W PySem.Calls PyProof.Rows
def fV:∀(ns:Z9 Int)(vs:Z9 Z3),WellAll P h vs (ns.map WData.int)->IntsAre vs ns:=by
 intro ns
 induction ns with
 |nil=>
  intro vs w;rw[YT]at w;cases w;exact .nil
 |cons n ns ih=>
  intro vs w;rw[Z1]at w;cases w with
  |cons a b=>
   cases a;exact .cons _ _ (ih _ b)
def tJ{l:OpenLaw}(hn:l.most=U n)(L3:l.row.toRowW.claim.pre args=L)(Qu:WellAll P h vals args):
  ∃a vs ns,vals=[Value.ref a]/\args=[WData.list (ns.map WData.int)]/\h.get? a=U {cls:=.type "list",data:=.seq vs.toArray}/\IntsAre vs ns/\ns.length<=n:=by
 have QA:WShape.hasAll [] args [.list .int]=L:=(pre_splitW L3).1;have hc:l.pre.holds [] {args:=args}=L:=(pre_splitW L3).2;obtain⟨d,r,rfl,h1,h2⟩:=hasAllW_cons QA;obtain rfl:=hasAllW_nil h2;obtain⟨xs,rfl,h3⟩:=hasW_list h1;obtain⟨ns,rfl⟩:=items_int h3;have hlen:ns.length<=n:=by
  unfold OpenLaw.pre at hc;have h4:(WTm.not (.lt (.lit (.int (n:Int))) (.len (.arg 0)))).holds [] {args:=[.list (ns.map .int)]}=L:=by
   have h4:=(holds_andW hc).1;rw[hn]at h4;exact h4
  have h5:=condW_of h4 (w_not (w_lt w_lit (w_len_list (w_arg rfl))));rw[Z0]at h5;refine Nat.le_of_not_lt λq=>?_;have q':(n:Int)<((ns.length:Nat):Int):=by lia
  first
   |(rw[Zu q']at h5;exact absurd h5 (by decide))
   |(simp at h5;lia)
 cases Qu with
 |cons w1 w2=>
  cases w2;cases w1 with
  |list ho w_=>exact⟨_,_,ns,rfl,rfl,ho,fV ns _ w_,hlen⟩
def rU(l:OpenLaw)(args:Z9 WData):l.row.toRowW.claim.post args (.bool L) args=L:=
 postW_of (r:=l.row.toRowW) (X:=(L==L))
  (show WShape.has [] (.bool L) .bool=L by first|rfl|decide|simp[WShape.has,WShape.arms,WShape.armsAll])
  (show(WTm.eq .res (.lit (.bool L))).value [] {args:=args,res:=U (.bool L),after:=args}=U (.bool (L==L)) from w_eq_bool (w_res rfl) w_lit) rfl
def abG{l:OpenLaw}{YP:YM->Heap->Prop}{d:DefRec}(hn:l.most=U n)(NG:d.params.defaults=[])(call:∀(w:YM)(n_ g_:ZR)(mg mb:Str->Z8 Z3)(fa:ZM)(o:Obj)(pm cd doc:Z3)(a:ZM)(vs:Z9 Z3)(ns:Z9 Int),
   Ground q loose [] XP w n_ mg mb g_.heap->YP w g_.heap->
   g_.heap.get? fa=U o->o.data=.func (docDef d.name d.params d.body d.scope pm cd doc)->g_.heap.CodeRec cd d.name->mg d.name=U (.ref fa)->
   g_.heap.get? a=U {cls:=.type "list",data:=.seq vs.toArray}->IntsAre vs ns->ns.length<=n->g_.gens=#[]->
   codeAny (model l.prog w) callerA (.call (.ref fa) ⟨[.ref a],[]⟩) (λr s'=>r=.ok (.ret (.bool L))/\OldK g_.heap s'.heap/\s'.os=g_.os/\AllBare s'.gens) g_):
  WalkO q loose XP YP l.row.toRowW d [] (λf vs=>PySem.call f vs):=by
 intro w n_ g_ mg mb G Yq fa o pm cd doc dV kV ho hd Ja hD hmg hg args vals as L3 hlay SA Qu Kj;obtain rfl:dV=.none:=Dflts.none hD NG;obtain rfl:kV=.none:=Dflts.noKw hD;obtain⟨a,vs,ns,rfl,rfl,MX,hints,hlen⟩:=tJ hn L3 Qu;refine enter_call (WO (call w n_ g_ mg mb fa o pm cd doc a vs ns G Yq ho (fd_plain hd) Ja hmg MX hints hlen hg) λr s' hq=>?_);obtain⟨rfl,h2,h3,h4⟩:=hq;exact⟨.inl ⟨.bool L,.bool L,[],rfl,λ_=>rfl,.bool L,rU l _,λ_=>⟨List.Pairwise.nil,λ_ hm=>(nomatch hm)⟩⟩,h2,h3,h4⟩
section
end
end Att
namespace L2
open PySem PySem.Spec PyProof.Rows
variable[Lams]
theorem ko:∀{vs:Z9 Z3}{ns:Z9 Int},IntsAre vs ns->aab (ns.map V.int) vs
 |_,_,.nil=>.nil
 |_,_,.cons n t h=>.cons ⟨t,rfl⟩ (ko h)
def Fa(H:Hp):Prop:=∀b,H b=M\/(∃o xs,H b=U (.frz o (.lst xs)))\/∃lq,H b=U (.tbl lq #[])
def eU:Hp:=λb=>match Lams.tb.find? (λq=>q.1==b)with
 |some q=>U (.tbl q.2 #[])
 |none=>M
def bK(h:eU b=U u):∃q∈Lams.tb,b=q.1/\u=.tbl q.2 #[]:=by
 unfold eU at h;split at h;rename_i q e;obtain rfl:=Z7 h;have h1:=List.find?_some e;exact⟨q,W0 e,(Zw.mp h1).symm,rfl⟩;trivial
def jx(MI:∀q∈Lams.tb,∀r∈Lams.tb,q.1=r.1->q=r)(hq:q∈Lams.tb):eU q.1=U (.tbl q.2 #[]):=by
 unfold eU;cases e:Lams.tb.find? (λr=>r.1==q.1)with
 |none=>exact absurd (W5.mp e q hq) (by simp)
 |some r=>
  have h1:=Zw.mp (List.find?_some (p:=λr:ZM×Str=>r.1==q.1) e);rw[MI r (W0 e) q hq h1]
def xf{K:Z6}{g_:ZR}{vs:Z9 Z3}(KX:K.In g_.heap)(Ph:g_.heap.Ns mainGlobals mg)(hb:g_.heap.Ns builtinsNs mb)(VU:∀x:Str,x≠"__name__"->mb x=bootBuiltins x)(G_:g_.heap.NoLimit)(hg:g_.gens=#[])(ha:g_.heap.get? a=U {cls:=.type "list",data:=.seq vs.toArray})(hi:IntsAre vs ns)(hl:ns.length<=sizeLine)(hr:aaq k callerA)(F:∀base:Heap,K.In base->base.Ns mainGlobals mg->abj P w K mg base CX k fa fd [x] sp)(LF:∀(s:ZR)(u:Z3),BindsTo s fd ⟨[u],[]⟩ [(x,u)])(Mg:∀H:Hp,Fa H->SqL K H a (ns.map V.int)->sp [.ref a] H (λv _=>v=.bl L) λ_ _ _=>False)(QZ:∀H e s',CX [] H g_ (λ_ _ _=>False) e s'->False)(VT:∃bm ob,mg "__builtins__"=U (.ref bm)/\bm≠builtinsNs/\g_.heap.get? bm=U ob/\ob.cls=.type "module"/\ob.dict=U builtinsNs/\ob.data=.plain)(hT:∀q∈Lams.tb,g_.heap.get? q.1=U {cls:=.none,data:=.fields #[]}/\K.lookup q.1=M/\isCodeTable g_.heap q.1)(MI:∀q∈Lams.tb,∀r∈Lams.tb,q.1=r.1->q=r):
  codeAny (model P w) callerA (.call (.ref fa) ⟨[.ref a],[]⟩) (λr s'=>r=.ok (.ret (.bool L))/\OldK g_.heap s'.heap/\s'.os=g_.os/\AllBare s'.gens) g_:=by
 have rv:=ko hi;have Rj:=hi.length;have core:∀H:Hp,Fa H->SqL K H a (ns.map V.int)->HOk P w H g_.heap->(∀b,H b≠M->(b=a/\K.lookup a=M)\/∃q∈Lams.tb,b=q.1)->abW H->
   codeAny (model P w) callerA (.call (.ref fa) ⟨[.ref a],[]⟩) (λr s'=>r=.ok (.ret (.bool L))/\OldK g_.heap s'.heap/\s'.os=g_.os/\AllBare s'.gens) g_:=by
  intro H hO hS hok hA V1;have Jx:∀{b:ZM}{o:Obj},g_.heap.get? b=U o->H b=M->(wN g_.heap H).get? b=U o:=λe n=>vV e n;have Oh:∀{b:ZM}{o:Obj},g_.heap.get? b=U o->o≠{cls:=.type "list",data:=.seq vs.toArray}->o≠{cls:=.none,data:=.fields #[]}->H b=M:=λ{b o} e n1 n2=>by
   cases q:H b with
   |none=>rfl
   |some u=>
    rcases hA b (by rw[q];simp)with⟨z,_⟩|⟨r,hr,z⟩;subst z;rw[ha]at e;exact absurd (Z7 e).symm n1;subst z;rw[(hT r hr).1]at e;exact absurd (Z7 e).symm n2
  have NU:∀{b:ZM}{o:Obj}{es:Array DictEntry}{ep:Nat},g_.heap.get? b=U o->o.data=.dict es ep->H b=M:=λ{b o es ep} e d=>
   Oh e (λz=>by subst z;trivial) λz=>by subst z;trivial
  have O6:∀{b:ZM}{m:Str->Z8 Z3},g_.heap.Ns b m->(wN g_.heap H).Ns b m:=λ{b m} ⟨o,es,ep,e,d,r⟩=>⟨o,es,ep,Jx e (NU e d),d,r⟩
  have To:K.In (wN g_.heap H):=λb o e=>Jx (KX b o e) (by
   cases q:H b with
   |none=>rfl
   |some u=>
    rcases hA b (by rw[q];simp)with⟨z,z2⟩|⟨r,hr,z⟩;subst z;rw[z2]at e;trivial;subst z;rw[(hT r hr).2.1]at e;trivial)
  have hM:Mod K mg (wN g_.heap H):=⟨To,O6 Ph,⟨mb,O6 hb,VU⟩,let ⟨mc,h1,h2⟩:=G_;⟨mc,O6 h1,h2⟩,by
   obtain⟨bm,ob,b1,b2,b3,b4,b5⟩:=VT;exact⟨bm,ob,b1,b2,Jx b3 (Oh b3 (λz=>by subst z;cases b5.2) λz=>by subst z;cases b5.2),b4,b5⟩⟩
  have e0:abq P w K mg (wN g_.heap H) callerA [] g_ H:=⟨rfl,hM,λb o e=>Ah e,Nat.le_of_eq (rH _ _),trivial,λb hb=>absurd (show b∈([]:Z9 ZM) from hb) (by simp),hok,.of_eq hg,V1⟩
  refine WO ((F _ To (O6 Ph)).run callerA [] g_ H ⟨[.ref a],[]⟩ [.ref a] [.ref a] _ _ hr e0 (LF g_ (.ref a)) (.cons rfl .nil) (Mg H hO hS)) λr s' h=>?_;cases r with
  |error e=>exact(QZ H e s' h).elim
  |ok fl=>
   cases fl with
   |next=>exact False.elim h
   |brk=>exact False.elim h
   |cont=>exact False.elim h
   |ret u=>
    obtain⟨v,H',os,bare,un,Oy,r',q⟩:=h;have q':v=.bl L:=q;subst q';obtain rfl:u=Value.bool L:=r';refine⟨rfl,⟨λb o e=>?_,λb o e=>un.there b o e (by simp)⟩,os,bare⟩;cases q:H b with
    |none=>exact .inl (un.keep b o e q (by intro z;exact absurd (show b∈([]:Z9 ZM) from z) (by simp)) (by simp))
    |some u=>
     rcases hO b with z|⟨ob,xs,z⟩|⟨lq,z⟩;rw[q]at z;trivial;have z2:=un.aaT b ob _ z;obtain⟨e1,_⟩:=hok b _ z;obtain⟨e2,_⟩:=Oy b _ z2;rw[e]at e1;obtain rfl:=Z7 e1;exact .inl e2;obtain⟨more,z2⟩:=un.aa3 b lq _ z;obtain⟨e1,_⟩:=hok b _ z;obtain⟨e2,_⟩:=Oy b _ z2;rw[e]at e1;obtain rfl:=Z7 e1;rcases hA b (by rw[q];simp)with⟨y,_⟩|⟨r,hr,y⟩;subst y;rw[ha]at e;cases e;subst y;exact .inr (.inl ⟨(hT r hr).2.2,rfl,#[],more,rfl,e2⟩)
 have Um:eU a=M:=by
  cases q:eU a with
  |none=>rfl
  |some u=>
   obtain⟨r,hr,e,_⟩:=bK q;have:=(hT r hr).1;rw[<-e,ha]at this;cases this
 have tok:∀(H:Hp) b u,eU b=U u->aam P w H g_.heap b u:=λH b u z=>by
  obtain⟨r,hr,e,rfl⟩:=bK z;subst e;exact⟨(hT r hr).1,trivial,λpos cv e=>by cases e⟩
 cases hk:K.lookup a with
 |some o=>
  have e:=KX a o hk;rw[ha]at e;obtain rfl:=Z7 e;refine core eU (λb=>?_) (.inr ⟨_,vs.toArray,_,hk,rfl,rfl,rfl,by rw[ZT,Rj];exact hl,by simpa using rv⟩) (λb u z=>tok _ b u z) (λb z=>?_) λq hq=>⟨_,jx MI hq⟩
  cases q:eU b with
  |none=>exact .inl rfl
  |some u=>obtain⟨r,hr,e,rfl⟩:=bK q;exact .inr (.inr ⟨_,rfl⟩)
  cases q:eU b with
  |none=>exact absurd q z
  |some u=>obtain⟨r,hr,e,_⟩:=bK q;exact .inr ⟨r,hr,e⟩
 |none=>
  refine core (λb=>if b=a then U (.frz {cls:=.type "list",data:=.seq vs.toArray} (.lst (ns.map V.int))) else eU b) (λb=>?_) (.inl (.inr ⟨{cls:=.type "list",data:=.seq vs.toArray},ZO rfl⟩)) (λb u z=>?_) (λb z=>?_) λq hq=>⟨#[],?_⟩
  by_cases hb:b=a;exact .inr (.inl ⟨_,_,ZO hb⟩);cases q:eU b with
  |none=>exact .inl ((ZJ hb).trans q)
  |some u=>obtain⟨r,hr,e,rfl⟩:=bK q;exact .inr (.inr ⟨_,(ZJ hb).trans q⟩)
  by_cases hb:b=a;have z':=(ZO hb).symm.trans z;obtain rfl:=Z7 z';subst hb;exact⟨ha,by rw[Z0];exact hl,vs,_,rv,ha⟩;exact tok _ b u ((ZJ hb).symm.trans z);by_cases hb:b=a;exact .inl ⟨hb,hk⟩;cases q:eU b with
  |none=>exact absurd ((ZJ hb).trans q) z
  |some u=>obtain⟨r,hr,e,_⟩:=bK q;exact .inr ⟨r,hr,e⟩
  have y_:q.1≠a:=λz=>by rw[<-z,jx MI hq]at Um;trivial
  exact(ZJ y_).trans (jx MI hq)
abbrev CX0:CXT:=λ_ _ _ _ _ _=>False
abbrev E0:XK:=λ_ _ _=>False
def EQ:uV CX0 X E0:=λ_ _ _ _ _ _ _ h=>h.elim
structure Fun (K:Z6)(x qual:Str)(st:Stmt)(f:ZM)(fd:FuncData):Prop where
 ex:∃(oc:Z3)(od:Z8 ZM)(kV doc pm:Z3)(an:Z8 ZM)(Jd ct:Z3)(Nx:Array (Z8 Z3)),
  fd=W.fnOf x qual (defArgs st) (defBody st) (defScope st) .none kV doc pm an Jd ct/\K.lookup f=some ⟨oc,od,.func fd,Nx⟩/\W.codeIn K Jd qual=true
 kp:W.keepIn K (.ref f)=true
section
variable{P:Y0}{w:YM}{K:Z6}{mg:Str->Z8 Z3}{base:Heap}
def Fun.ok{x qual:Str}{st:Stmt}{f:ZM}{fd:FuncData}{N ps:Z9 Str}{k:Nat}{sp:Sp}(F:Fun K x qual st f fd)(S:aaC N ps (defScope st))(len:∀vs H Q E,sp vs H Q E->vs.length=ps.length)
  (IU:∀(A:Za)(outer:Z9 Env)(s:ZR)(H:Hp)(vs:Z9 V)(Q:VK)(E:XK),aaq k (A.deeper (envOfC qual (defScope st) s.z f fd.code))->sp vs H Q E->
   ∃t,PSs (pR CX0 P w K mg base N qual (defScope st) f fd.code A outer s H E).nox (defBody st) t/\t {nx:=λ_ H'=>Q .non H',rt:=Q} (dr N vs) H):abj P w K mg base CX0 (k+1) f fd ps sp:=by
 obtain⟨oc,od,kV,doc,pm,an,Jd,ct,Nx,rfl,lk,Ja⟩:=F.ex;refine Ev lk Ja S len λA outer s H vs Q E hr Mg=>?_;obtain⟨t,h,q⟩:=IU A outer s H vs Q E hr Mg;exact⟨t,h.nox,q⟩
def Fun.binds{x qual:Str}{st:Stmt}{f:ZM}{fd:FuncData}{ps:Z9 Str}(F:Fun K x qual st f fd)
  (h:∀(kV doc pm:Z3)(an:Z8 ZM)(Jd ct:Z3)(us:Z9 Z3),us.length=ps.length->bindArgs (W.fnOf x qual (defArgs st) (defBody st) (defScope st) .none kV doc pm an Jd ct) ⟨us,[]⟩=pure (ps.zip us)):Binds K fd ps []:=by
 obtain⟨oc,od,kV,doc,pm,an,Jd,ct,Nx,rfl,lk,Ja⟩:=F.ex;exact .all (h kV doc pm an Jd ct)
end
section
end
def Aw{A B:Prop}(h:B):if Y=L then A else B:=by
 rw[ZJ Zl];exact h
def zG{A B:Prop}(h:A):if L=L then A else B:=by
 rw[ZO rfl];exact h
def HO.nt:HO->Bool
 |.tbl _ _=>Y
 |_=>L
abbrev HOn:={o:HO // o.nt=L}
def HOn.ok(o:HOn):HO.nt o.1=L:=o.2
structure aad (H H':Hp):Prop where
 get:∀b o,o.nt=true->H b=some o->H' b=some o
 tbl:∀b lq ps,H b=some (.tbl lq ps)->∃more,H' b=some (.tbl lq (ps++more))
theorem aad.app{H H':Hp}(s:aad H H')(b:ZM)(o:HO)(h:H b=U o)(n:o.nt=L:=by first|rfl|assumption|exact HOn.ok _):H' b=U o:=s.get b o n h
instance aad.fn {H H':Hp}:CoeFun (aad H H') (λ_=>∀(b:ZM)(o:HO)(h:H b=U o)(n:o.nt=L:=by first|rfl|assumption|exact HOn.ok _),H' b=U o):=⟨@aad.app _ H H'⟩
def aad.refl(H:Hp):aad H H:=⟨λ_ _ _ h=>h,λb lq ps h=>⟨#[],by rw[Array.append_empty];exact h⟩⟩
def aad.trans(a:aad H H1)(b:aad H1 H2):aad H H2:=⟨λc o n h=>b.get c o n (a.get c o n h),λc lq ps h=>by
 obtain⟨m1,e1⟩:=a.tbl c lq ps h;obtain⟨m2,e2⟩:=b.tbl c lq _ e1;exact⟨m1++m2,by rw[e2,Array.append_assoc]⟩⟩
def aad.there(e:aad H H')(q:H l=U o):∃o',H' l=U o':=by
 cases n:o.nt with
 |true=>exact⟨o,e.get l o n q⟩
 |false=>
  cases o with
  |tbl lq ps=>obtain⟨m,q'⟩:=e.tbl l lq ps q;exact⟨_,q'⟩
  |_=>trivial
def aad.free(e:aad H H')(h:H' l=Option.none):H l=Option.none:=by
 cases q:H l with
 |none=>rfl
 |some o=>
  obtain⟨o',q'⟩:=e.there q;rw[q']at h;trivial
def aad.keep(e:aad Hk H)(k:∀c o o',Hk c=U o'->H c=U o->H' c=U o):aad Hk H':=
 ⟨λc o n q=>k c o o q (e.get c o n q),λc lq ps q=>by
  obtain⟨m,q'⟩:=e.tbl c lq ps q;exact⟨m,k c _ _ q q'⟩⟩
def aad.put(e:aad Hk H)(h:Hk b=M):aad Hk (upd H b o):=
 e.keep λc o' o2 q1 q2=>by rw[ai (av q1 h)];exact q2
def aad.seq{K:Z6}{H H':Hp}{a:ZM}{xs:Z9 V}(e:aad H H')(h:SqL K H a xs):SqL K H' a xs:=by
 rcases h with(h|⟨o,h⟩)|h;exact .inl (.inl (e _ _ h));exact .inl (.inr ⟨o,e _ _ h⟩);exact .inr h
section
variable{κ:Type}[DecidableEq κ]
def vA{kvs:Z9 (κ×V)}{k:κ}(h:eO kvs k=M):¬k∈kvs.map (·.1):=by
 intro m;obtain⟨p,hp,e⟩:=ZV.mp m;have q:(kvs.any λkv=>decide (kv.1=k))=L:=XR.mpr ⟨p,hp,Zu e⟩;rw[d8,h]at q;exact absurd q (by simp)
end
noncomputable abbrev aE(X:Cx)(scope:Scope)(cl:Z9 (Str×ZM))(C:ZM)(a_:ZR)(b_:Hp)(ex:Z9 ZM)(pn:Z9 (ZM×Obj)):Cx:=
 {X with n_:=a_,K0:=b_,env:=compEnvC scope cl C X.env,outer:=X.stack,stack:=X.stack,ex:=ex,fn:=λ_=>Y,pn:=pn,xe:=λ_ _=>False}
def mask(bs:Z9 Bool)(σ:St):St:=List.zipWith (λ(b:Bool) o=>if b=L then o else M) bs σ
def dL(h:bs.length=σ.length):(mask bs σ).length=σ.length:=by
 unfold mask;rw[Wf,h,Nat.min_self]
def vP{bs:Z9 Bool}{σ:St}{i:Nat}{v:V}(h:(mask bs σ)[i]?=U (U v)):bs[i]?=U L/\σ[i]?=U (U v):=by
 unfold mask at h;rw[Xi]at h;cases e1:bs[i]? with
 |none=>rw[e1]at h;simp at h
 |some b=>
  cases e2:σ[i]? with
  |none=>rw[e1,e2]at h;simp at h
  |some o=>
   rw[e1,e2]at h;simp only[ZE]at h;cases b with
   |false=>simp at h
   |true=>simp at h;exact⟨rfl,by rw[h]⟩
def PTs(X:Cx)(ifs:Z9 Expr)(t:TT):Prop:=
 ∀(pins:Z9 (ZM×Obj))(s:ZR)(σ:St)(H:Hp)(Q:Bool->Hp->Prop),Inv X pins σ H s->t σ H Q->
  wpAny (model X.prog X.w) X.A (forIn ifs L λc r=>if r=L then do let ok <-isTrue c X.env (eval c X.env);pure (ForInStep.yield ok) else pure (ForInStep.yield r)) (TP X pins σ Q) X.xe s
def acB:TT:=λ_ H Q=>Q L H
def AL:PTs X [] acB:=λpins s σ H Q I h=>wpAny_tests_nil ⟨H,I,h⟩
def Bd(h:PT X c t):PTs X [c] t:=λpins s σ H Q I hq=>wpAny_tests_one (h pins s σ H Q I hq)
noncomputable def c7(env:Env):Z9 (Str×NameKind)->Z9 (Str×ZM)->Z9 (Str×ZM)
 |[],acc=>acc
 |(n,k)::r,acc=>if(k==NameKind.free)=L then c7 env r ((n,(env.cells.lookup n).getD 0)::acc) else c7 env r acc
theorem jN(env:Env):∀(names:Z9 (Str×NameKind))(acc:Z9 (Str×ZM)),(∀y∈names,y.2=.free->∃c,env.cells.lookup y.1=U c)->
  (forIn names acc (λ(x:Str×NameKind) (cs:Z9 (Str×ZM))=>(match x with
   |(name,kind)=>if(kind==.free)=L then(do let c <-cellOf env name;pure (ForInStep.yield ((name,c)::cs))) else pure (ForInStep.yield cs):Sem (ForInStep (Z9 (Str×ZM))))))=pure (c7 env names acc)
 |[],acc,_=>rfl
 |(n,k)::r,acc,h=>by
  by_cases hk:k=.free;subst hk;obtain⟨c,e⟩:=h (n,.free) ZW rfl;have ih:=jN env r ((n,c)::acc) λy hy=>h y (Z2 _ hy);have ec:cellOf env n=pure c:=by unfold cellOf;rw[e]
  rw[Wt];simp only[Yr,Y8,ec,pure_bind];rw[ih];simp only[c7,Yr,Y8,e,Option.getD_some]
  .have hb:(k==NameKind.free)=Y:=by simpa using hk
   have ih:=jN env r acc λy hy=>h y (Z2 _ hy);rw[Wt];simp only[hb,ZY,Zj,pure_bind];rw[ih]
   conv=>rhs;rw[c7.eq_def]
   simp only[hb,ZY,Zj]
theorem dm(env:Env):∀(names:Z9 (Str×NameKind))(acc:Z9 (Str×ZM)),(∀y∈names,y.2=.free->∃c,env.cells.lookup y.1=U c)->
  (∀x c,acc.lookup x=U c->env.cells.lookup x=U c)->∀x c,(c7 env names acc).lookup x=U c->env.cells.lookup x=U c
 |[],acc,_,ha=>ha
 |(n,k)::r,acc,h,ha=>by
  have hr:∀y∈r,y.2=.free->∃c,env.cells.lookup y.1=U c:=λy hy=>h y (Z2 _ hy);unfold c7;by_cases hk:(k==NameKind.free)=L;rw[ZO hk];obtain⟨c,e⟩:=h (n,k) ZW (eq_of_beq hk);refine dm env r _ hr λx d hx=>?_;rw[List.lookup_cons]at hx;cases q:x==n with
  |true=>
   rw[q,e]at hx;rw[eq_of_beq q,e];simpa using hx
  |false=>rw[q]at hx;exact ha x d hx
  rw[ZJ hk];exact dm env r acc hr ha
theorem dT(env:Env)(x:Str):∀(names:Z9 (Str×NameKind))(acc:Z9 (Str×ZM)),((x,NameKind.free)∈names\/∃c,acc.lookup x=some c)->∃c,(c7 env names acc).lookup x=some c
 |[],acc,h=>by
  rcases h with h|h;trivial;exact h
 |(n,k)::r,acc,h=>by
  unfold c7;by_cases hk:(k==NameKind.free)=true;rw[ZO hk];refine dT env x r _ ?_;by_cases q:(x==n)=true;exact .inr ⟨_,by rw[List.lookup_cons,q]⟩;rcases h with h|⟨c,h⟩;rcases ZZ.mp h with h|h;cases h;simp at q;exact .inl h;exact .inr ⟨c,by rw[List.lookup_cons];simp[q,h]⟩;rw[ZJ hk];refine dT env x r _ ?_;rcases h with h|h;rcases ZZ.mp h with h|h;cases h;simp at hk;exact .inl h;exact .inr h
def dY(h:∀y∈scope.names,y.2=.free->∃c,env.cells.lookup y.1=U c):closureFor scope env=pure (c7 env scope.names []):=by
 have e:=jN env scope.names [] h;have q:closureFor scope env=((forIn scope.names [] (λ(x:Str×NameKind) (cs:Z9 (Str×ZM))=>(match x with
   |(name,kind)=>if(kind==.free)=L then(do let c <-cellOf env name;pure (ForInStep.yield ((name,c)::cs))) else pure (ForInStep.yield cs):Sem (ForInStep (Z9 (Str×ZM)))))) >>= λcs=>pure cs):=rfl
 rw[q,e,pure_bind]
theorem bB{env:Env}:∀{names:Z9 (Str×NameKind)}{x:Str}{k:NameKind},
  (names.map λ(n,k)=>if(k==NameKind.free&&env.scope.kind==.function&&env.kindOf n==U .cell) then(n,NameKind.cell) else(n,k)).lookup x=U k->
  names.lookup x=U k\/(names.lookup x=U .free/\k=.cell)
 |[],_,_,h=>by simp at h
 |(n,k')::r,x,k,h=>by
  have ih:=@bB env r x k;have h':List.lookup x ((if(k'==NameKind.free&&env.scope.kind==.function&&env.kindOf n==U .cell)=L then(n,NameKind.cell) else(n,k'))::(r.map λ(n,k)=>if(k==NameKind.free&&env.scope.kind==.function&&env.kindOf n==U .cell) then(n,NameKind.cell) else(n,k)))=U k:=h;by_cases hc:(k'==NameKind.free&&env.scope.kind==.function&&env.kindOf n==U .cell)=L;rw[ZO hc]at h';rw[List.lookup_cons]at h'⊢;cases hx:x==n with
  |true=>
   rw[hx]at h';simp at h';have:k'=.free:=by
    have:=hc;simp only[ZK]at this;exact eq_of_beq this.1.1
   exact .inr ⟨by rw[this],h'.symm⟩
  |false=>rw[hx]at h';exact ih h'
  rw[ZJ hc]at h';rw[List.lookup_cons]at h'⊢;cases hx:x==n with
  |true=>rw[hx]at h';exact .inl h'
  |false=>rw[hx]at h';exact ih h'
noncomputable def tm(wi:TI)(bs:Z9 Bool)(g:TG)(tt:TT)(te:TE):TE:=λσ H Q=>wi σ H λJ H1=>∀acc,H1 acc=M->
 ∃W:Nat->Nat->Z9 V->St->Hp->Prop,(∃m,W 0 m [] (mask bs σ) (upd H1 acc (.lst [])))/\∀i m ys σ H,W i m ys σ H->H acc=U (.lst ys)/\
  ((J.stop i H/\Q (.ref acc) H)\/(J.go i H/\∀x H',J.yld i H x H'->g x σ H' λJo H2=>tt Jo H2 λok H3=>if ok=L
   then te Jo H3 λv H4=>H4 acc=U (.lst ys)/\ys.length<sizeLine/\∃m',m'<m/\W (i+1) m' (ys++[v]) Jo (upd H4 acc (.lst (ys++[v])))
   else ∃m',m'<m/\W (i+1) m' ys Jo H3))
section
variable{X:Cx}{scope:Scope}{bs:Z9 Bool}
structure aag (X:Cx)(scope:Scope)(bs:List Bool):Prop where
 kind:scope.kind=.function
 cell:∀y∈scope.names,y.2≠.cell
 loc:∀y∈scope.names,y.2=.local->scope.names.lookup y.1=some .local
 fre:∀y∈scope.names,y.2=.free->scope.names.lookup y.1=some .free/\(X.env.kindOf y.1=some .cell\/X.env.kindOf y.1=some .free)
 len:bs.length=X.N.length
 vis:∀(i:Nat)(x:Str),X.N[i]?=some x->bs[i]?=some true->scope.names.lookup x=some .free
theorem aag.has(S:aag X scope bs)(I:Inv X pins σ H s):∀y∈scope.names,y.2=.free->∃c,X.env.cells.lookup y.1=U c:=λy hy e=>I.ok.has y.1 (S.fre y hy e).2
def v3{h':Heap}{m:Str->Z8 Z3}(S:aag X scope bs)(I:Inv X pins σ H s)(hf:∀b∈fp,fq X pins H b)(ho:∀b∈fp,∃o,s.heap.get? b=U o)
  (Ph:h'.Ns s.z m)(hk:∀b o,s.heap.get? b=U o->h'.get? b=U o){t':Nat}:
  Inv (aE X scope (c7 X.env scope.names []) s.z s H fp (X.pn++pins)) [] (mask bs σ) H {s with heap:=h',toks:=t'}:=by
 have hh:=S.has I;have cons:=dm X.env scope.names [] hh (λx c e=>by simp at e);refine⟨⟨I.ok.mod,S.kind,I.ok.glob,I.ok.blt,ZU _,λx y c h1 h2=>I.ok.inj x y c (cons x c h1) (cons y c h2),λx hx=>?_,(λx c h=>nomatch h),I.ok.hd,I.ok.frames,.inl rfl,λb hb=>⟨?_,λx c e=>(hf b hb).2.2.2.2.1 x c (cons x c e)⟩,
  I.bs,ZH I.ok.bsz I.sz,λb o e hb=>?_,λb hb z=>?_,I.stack,I.abO,I.ok.tabs.to I.base.aa3⟩,
  rfl,I.bare,Un.kept hk,⟨m,Ph,λi x v e1 e2 e3=>?_⟩,λx c e=>?_,I.hok.fresh (ZU _),λx c e=>I.aaR x c (cons x c e),λp hp=>?_,I.hok.kept hk,?_⟩
 have JU:(relabel scope X.env).names.lookup x=U .cell\/(relabel scope X.env).names.lookup x=U .free:=hx;have key:(x,NameKind.free)∈scope.names:=by
  rcases JU with q|q;rcases bB q with q|⟨q,_⟩;exact absurd rfl (S.cell _ (YI q));exact YI q;rcases bB q with q|⟨_,q⟩;exact YI q;trivial
 exact dT X.env x scope.names [] (.inl key);obtain⟨o,e⟩:=ho b hb;exact Zt (ZQ e);rcases(hf b hb).2.2.2.1 with z|z;exact I.ok.ab6 b o e z;exact absurd (ZA (ZQ (I.ok.bs b o e).1) z) (Zc _);rcases ZZ.mp (I.abe b z)with q|q;exact(hf b hb).2.1 q;exact(hf b hb).2.2.1 q;obtain⟨hb,hs⟩:=vP e2;have K9:=S.vis i x e1 hb;obtain⟨_,SW⟩:=S.fre _ (YI K9) rfl;obtain⟨m0,SO,hl⟩:=I.loc;have Ro:Vis X.env.scope x:=SW.elim (λz=>.inr (.inl z)) λz=>.inr (.inr z)
 obtain⟨u,ru,lk⟩:=hl i x v e1 hs Ro;refine⟨u,ru,.inr ⟨?_,?_⟩⟩;rcases e3 with q|q|q;rcases bB (show(relabel scope X.env).names.lookup x=U .local from q)with q|⟨_,q⟩;rw[K9]at q;trivial;trivial;exact .inl q;exact .inr q;rcases lk with⟨kl,_⟩|⟨_,c,ec,ic⟩;rcases SW with z|z;rw[kl]at z;trivial;rw[kl]at z;trivial;obtain⟨c',e'⟩:=dT X.env x scope.names [] (.inl (YI K9));have TB:=cons x c' e';rw[ec]at TB;obtain rfl:=Z7 TB;obtain⟨o,q1,q2⟩:=ic;exact⟨c,e',o,hk c o q1,q2⟩;obtain⟨v,o,q1,q2⟩:=I.cell x c (cons x c e);exact⟨v,o,hk c o q1,q2⟩;have I_:p∈X.pn++pins:=by
  have q:p∈(X.pn++pins)++([]:Z9 (ZM×Obj)):=hp;rwa[YX]at q
 obtain⟨e,n,ne,nf,d⟩:=I.pin p I_;refine⟨hk _ _ e,n,Zt (ZQ e),λz=>?_,d⟩;rcases ZZ.mp (I.abe p.1 z)with q|q;exact ne q;exact nf q;rw[dL (by rw[S.len,I.len])];exact I.len
def v6(I:Inv X pins σ H s)(hf:∀b∈fp,fq X pins H b)(J:Inv (aE X scope cl C s H fp (X.pn++pins)) IT h_ H' s'):Inv X pins σ H' s':=by
 refine I.acJ (ch:=fp) J.os J.base J.hok J.bare λb hb=>?_;obtain⟨f0,f1,f2,f3,f4,f5⟩:=hf b hb;exact⟨f3,f1,f4,f5⟩
end
section
def mK(I:Nat->ZR->Prop)(turn:∀n s,I n s->wpAny (model prog w) A (pyNext it) (λr g_=>match r with
   |none=>R (.ok .next) g_
   |some v=>wpAny (model prog w) A (letOwnedTupleGo target it v) (λ_ g_=>wpAny (model prog w) A (assign target env v) (λ_ a_=>
     wpAny (model prog w) A (forIn ifs L λc r=>if r=L then do let ok <-isTrue c env (eval c env);pure (ForInStep.yield ok) else pure (ForInStep.yield r)) (λok JI=>
      if ok=L then wpAny (model prog w) A (eval elt env) (λx LZ=>
       wpAny (model prog w) A (call (.builtin "list.append") [acc,x]) (λ_ Oi=>∃m,m<n/\I m Oi) (λ_ _=>False) LZ) (λ_ _=>False) JI
      else ∃m,m<n/\I m JI) (λ_ _=>False) a_) (λ_ _=>False) g_) (λ_ _=>False) g_) (λ_ _=>False) s) (n:Nat) (h:I n s):
  codeAny (model prog w) A (.compLoop (.ListComp elt [⟨target,iter,ifs,0⟩] scope pos) 0 it acc env) R s:=by
 refine codeAny_loop rfl I (λn s hI=>?_) n h;show wpAny _ A ((compTurn (.ListComp elt [⟨target,iter,ifs,0⟩] scope pos) 0 it acc env).onRaise (λx=>do noteFrame x env;theTreesLotGoes x)) _ _ s;refine wpAny_noted ?_;rw[compTurn_list];refine Z_ (wpAny_standAt (Z_ (YK (turn n s hI) (λr g_ IG=>?_) λ_ _ h'=>h'.elim)));cases r with
 |none=>exact Z5 IG
 |some v=>
  refine Z_ (YK IG (λ_ TN OI=>?_) λ_ _ h'=>h'.elim);refine Z_ (YK OI (λ_ a_ Ln=>Z_ (YK Ln (λok JI L0=>?_) λ_ _ h'=>h'.elim)) λ_ _ h'=>h'.elim);cases ok with
  |false=>exact Z5 ⟨rfl,L0⟩
  |true=>
   exact Z_ (Z_ (YK L0 (λx LZ Rm=>Z_ (YK Rm (λ_ Oi Rl=>Z5 (Z5 ⟨rfl,Rl⟩)) λ_ _ h'=>h'.elim)) λ_ _ h'=>h'.elim))
end
section
variable{X:Cx}
def iI{pins:Z9 (ZM×Obj)}{σ:St}{H:Hp}{s:ZR}{it:ZM}{fp:Z9 ZM}{tn:Nat->Heap->Prop}{J:It}{Q:VK}{E:Z3->ZR->Prop}{RR:Z3->ZM->Result->ZR->Prop}
  (hc:X.calm=L) (S:aag X scope bs)
  (hg:∀cl C a_ b_ ex pn,PG (aE X scope cl C a_ b_ ex pn) tg g) (ht:∀cl C a_ b_ ex pn,PTs (aE X scope cl C a_ b_ ex pn) ifs tt) (he:∀cl C a_ b_ ex pn,PE (aE X scope cl C a_ b_ ex pn) elt te)
  (I:Inv X pins σ H s) (T:Turn X.prog X.w X.K tg J fp it tn) (st:tn 0 s.heap) (hf:∀b∈fp,fq X pins H b)
  (hq:∀acc,H acc=M->
   ∃W:Nat->Nat->Z9 V->St->Hp->Prop,(∃m,W 0 m [] (mask bs σ) (upd H acc (.lst [])))/\∀i m ys σ H,W i m ys σ H->H acc=U (.lst ys)/\
    ((J.stop i H/\Q (.ref acc) H)\/(J.go i H/\∀x H',J.yld i H x H'->g x σ H' λJo H2=>tt Jo H2 λok H3=>if ok=L
     then te Jo H3 λv H4=>H4 acc=U (.lst ys)/\ys.length<sizeLine/\∃m',m'<m/\W (i+1) m' (ys++[v]) Jo (upd H4 acc (.lst (ys++[v])))
     else ∃m',m'<m/\W (i+1) m' ys Jo H3)))
  (V4:∀D C s' H' m',Inv X pins σ H' s'->Q (.ref D) H'->s'.heap.Ns C m'->H' C=M->C≠X.env.locals->C∉X.fs->X.n_.heap.objs.size<=C->(∀x c,X.env.cells.lookup x=U c->c≠C)->(∀p∈X.pn++pins,p.1≠C)->
   RR (.ref D) C (.ok .next) s'):
  wpAny (model X.prog X.w) X.A (newList []) (λacc JI=>wpAny (model X.prog X.w) X.A (newFunctionEnv scope X.env.globals (c7 X.env scope.names []) [] X.env.qual M .none (U X.env)) (λOF LZ=>
   codeAny (model X.prog X.w) X.A (.compStart (.ListComp elt [⟨tg,iter,ifs,0⟩] scope pos) 0 (.ref it) acc {OF with scope:=relabel scope X.env}) (RR acc OF.locals) LZ) E JI) E s:=by
 refine Y1 ?_;have K9:H s.heap.objs.size=M:=I.fresh;have I3:Inv X pins σ (upd H s.heap.objs.size (.lst [])) {s with heap:=s.heap.push {cls:=.type "list",dict:=M,data:=.seq ([]:Z9 Z3).toArray}}:=I.acH (its:=[]) (t':=s.toks) .nil (Zs _);have Ur:tn 0 (s.heap.push {cls:=.type "list",dict:=M,data:=.seq ([]:Z9 Z3).toArray}):=T.keep _ _ _ st λb _ o e=>Z4 _ e;have j_:∀b∈fp,b<s.heap.objs.size:=λb hb=>by
  obtain⟨o,e,_⟩:=T.obj _ _ st b hb;exact ZQ e
 have f3:∀b∈fp,fq X pins (upd H s.heap.objs.size (.lst [])) b:=λb hb=>⟨by rw[ai (Zt (j_ b hb))];exact(hf b hb).1,(hf b hb).2⟩
 obtain⟨W,⟨m0,w0⟩,turn⟩:=hq s.heap.objs.size K9;generalize t_:s.heap.objs.size=acc at*;generalize Vg:({s with heap:=s.heap.push {cls:=.type "list",dict:=M,data:=.seq ([]:Z9 Z3).toArray}}:ZR)=s3 at*;have Oj:tn 0 s3.heap:=by rw[<-Vg];exact Ur
 refine wpAny_newFunctionEnv S.cell (λy hy=>by simp at hy) (λIG Nh Ng=>?_) S.kind;have keep:∀b o,s3.heap.get? b=U o->IG.get? b=U o:=λb o e=>(Ng.2 b (Zt (ZQ e))).trans (Z4 _ e);have Sb:∀b∈fp,∃o,s3.heap.get? b=U o:=λb hb=>by
  obtain⟨o,e,_⟩:=T.obj _ _ Oj b hb;exact⟨o,e⟩
 have I4:=v3 (t':=s3.toks+([]:Z9 (Str×Z3)).length) S I3 f3 Sb Nh keep;have RT:tn 0 IG:=T.keep _ _ _ Oj λb _ o e=>keep b o e;have J6:∀{H':Hp}{pl:Z9 (ZM×Obj)},(∀b∈fp,H' b=M)->∀b∈fp,fq (aE X scope (c7 X.env scope.names []) s3.heap.objs.size s3 (upd H acc (.lst [])) fp (X.pn++pins)) [] H' b:=λ{H' pl} hn b hb=>by
  obtain⟨_,f1,f2,f3',f4,f5⟩:=f3 b hb;obtain⟨o,e⟩:=Sb b hb;refine⟨hn b hb,Zt (ZQ e),λz=>?_,.inl hb,λx c e=>f4 x c (dm X.env scope.names [] (S.has I3) (λx c e=>by simp at e) x c e),λp hp=>?_⟩;rcases ZZ.mp (I3.abe b z)with q|q;exact f1 q;exact f2 q;have q:p∈(X.pn++pins)++([]:Z9 (ZM×Obj)):=hp;rw[YX]at q;exact f5 p q
 let X':Cx:=aE X scope (c7 X.env scope.names []) s3.heap.objs.size s3 (upd H acc (.lst [])) fp (X.pn++pins)
 have loop:∀s5:ZR,s5={s3 with heap:=IG,toks:=s3.toks+([]:Z9 (Str×Z3)).length}->
   codeAny (model X.prog X.w) X.A (.compLoop (.ListComp elt [⟨tg,iter,ifs,0⟩] scope pos) 0 (.ref it) (.ref acc) (compEnvC scope (c7 X.env scope.names []) s3.heap.objs.size X.env)) (RR (.ref acc) s3.heap.objs.size) s5:=by
  rintro s5 rfl
  refine mK (λn s'=>∃i ys h_ H',Inv (aE X scope (c7 X.env scope.names []) s3.heap.objs.size s3 (upd H acc (.lst [])) fp (X.pn++pins)) [] h_ H' s'/\tn i s'.heap/\(∀b∈fp,H' b=M)/\W i n ys h_ H') ?_ m0
   ⟨0,[],mask bs σ,upd H acc (.lst []),I4,RT,λb hb=>(f3 b hb).1,w0⟩
  intro n s6 hz;obtain⟨i,ys,Nk,H6,I6,RS,Tt,w6⟩:=hz;obtain⟨hac,way⟩:=turn i n ys Nk H6 w6;rcases way with⟨stop,qn⟩|⟨go,step⟩
  .refine thn (T.done X' rfl rfl rfl hc i [] s6 Nk H6 (λ_ _=>False) I6 (J6 (pl:=[]) Tt) RS stop) λr s7 hz=>?_
   obtain⟨hr,I7⟩:=hz;subst hr;obtain⟨m',LQ,_⟩:=I7.loc;have IX:=v6 (C:=s3.heap.objs.size) I3 f3 I7;refine V4 acc s3.heap.objs.size s7 H6 m' IX qn LQ I7.free (Nat.ne_of_gt I3.lt) (I3.acr (ZU _)) I3.sz (λx c e z=>?_) λp hp z=>?_;obtain⟨v,q⟩:=I3.cell x c e;exact absurd q.lt (by rw[z];exact Zc _);exact absurd (ZQ (I3.pin p hp).1) (by rw[z];exact Zc _)
  refine thn (T.item X' rfl rfl rfl hc i [] s6 Nk H6 (λ_ _=>False) I6 (J6 (pl:=[]) Tt) RS go) λr s7 hz=>?_;obtain⟨u,hr,h7⟩:=hz;subst hr;refine thn h7 λ_ s8 hz=>?_;obtain⟨x,H8,I8,r8,y8,PZ,fr8⟩:=hz;have I8':=I8.pinned (J6 (pl:=[]) fr8) (T.obj _ _ PZ);refine thn (hg _ _ _ _ _ _ _ s8 Nk H8 x u _ I8' r8 (step x H8 y8)) λ_ s9 hz=>?_;obtain⟨NL,H9,I9,q9⟩:=hz;refine thn (ht _ _ _ _ _ _ _ s9 NL H9 _ I9 q9) λok Uv hz=>?_;obtain⟨TM,Q9,O4⟩:=hz;have back:∀{h_:St}{H':Hp}{s':ZR},Inv (aE X scope (c7 X.env scope.names []) s3.heap.objs.size s3 (upd H acc (.lst [])) fp (X.pn++pins)) ([]++kT fp s8.heap) h_ H' s'->tn (i+1) s'.heap/\∀b∈fp,H' b=M:=λ{h_ H' s'} K=>by
   refine⟨T.keep _ _ _ PZ λb hb o e=>(K.pin (b,o) (ZI _ (ZI _ (db hb e)))).1,λb hb=>?_⟩;obtain⟨o,e,d⟩:=T.obj _ _ PZ b hb;exact(K.pin (b,o) (ZI _ (ZI _ (db hb e)))).2.1
  cases ok with
  |false=>
   rw[ZJ Zl]at O4⊢;obtain⟨m',hm,w'⟩:=O4;obtain⟨b1,b2⟩:=back Q9;exact⟨m',hm,i+1,ys,NL,TM,Q9.aaS,b1,b2,w'⟩
  |true=>
   rw[ZO rfl]at O4⊢;refine thn (he _ _ _ _ _ _ _ Uv NL TM _ Q9 O4) λy P2 hz=>?_;obtain⟨v,TL,I11,NT,ON,hz,m',hm,w'⟩:=hz;have ap:=k7 (X:=X') _ P2 NL TL (.ref acc) [v] (.ref acc) [y] (λ(z:V) (H':Hp)=>H'=upd TL acc (.lst (ys++[v]))) I11 rfl (.cons NT .nil) ⟨acc,ys,v,rfl,rfl,ON,hz,rfl⟩;refine thn ap λ_ P1 hz=>?_;obtain⟨_,H12,TK,_,e12⟩:=hz;subst e12;obtain⟨b1,b2⟩:=back TK;exact⟨m',hm,i+1,ys++[v],NL,_,TK.aaS,b1,b2,w'⟩
 exact codeAny_compStart_list (loop _ rfl) (T.self _ 0 _ _ _ RT (loop _ rfl))
def AT(hc:X.calm=L)(hi:PI X tg iter wi)(S:aag X scope bs)(hg:∀cl C a_ b_ ex pn,PG (aE X scope cl C a_ b_ ex pn) tg g)(ht:∀cl C a_ b_ ex pn,PTs (aE X scope cl C a_ b_ ex pn) ifs tt)(he:∀cl C a_ b_ ex pn,PE (aE X scope cl C a_ b_ ex pn) elt te)(hs:∀x,foldedSetIterable iter X.env x=pure x:=by intro _;rfl):PE X (.ListComp elt [⟨tg,iter,ifs,0⟩] scope pos) (tm wi bs g tt te):=by
 intro pins s σ H Q I h;rw[eval_ListComp];refine wpAny_comprehension_free (use:=M) rfl hs (dY (S.has I)) S.kind S.loc (thn (hi pins s σ H _ I h) λv s1 h1=>thn h1 λO9 s2 h2=>?_);obtain⟨it,fp,tn,J,H2,e,I2,T,NN,f2,hq⟩:=h2;subst e;refine iI (RR:=λacc C=>compPost (model X.prog X.w) X.A X.xe M (EP X pins σ Q) acc C) hc S hg ht he I2 T NN f2 hq ?_;intro D C s' H' m' I' q' hn hC hL hF hz JV hp;refine⟨m',hn,λh'' MV=>⟨.ref D,H',?_,rfl,q'⟩⟩;exact I'.turned (t':=s'.toks) (λb o hb e=>(MV.2 b hb).trans e) hC hL (.inr hz) JV hp
def ro(hc:X.calm=L)(hi:PI X tg iter wi)(S:aag X scope bs)(hg:∀cl C a_ b_ ex pn,PG (aE X scope cl C a_ b_ ex pn) tg g)(ht:∀cl C a_ b_ ex pn,PTs (aE X scope cl C a_ b_ ex pn) ifs tt)(he:∀cl C a_ b_ ex pn,PE (aE X scope cl C a_ b_ ex pn) elt te)(hN:X.N.Nodup)(QK:X.N[i]?=U y)(hy:X.env.scope.names.lookup y=U .local)(Ku:swapsWith (.ListComp elt [⟨tg,iter,ifs,0⟩] scope pos) (U (.Name y py)) J7.line X.env=pure L:=by rfl)(hs:∀x,foldedSetIterable iter X.env x=pure x:=by intro _;rfl):PS X (.Assign [.Name y py] (.ListComp elt [⟨tg,iter,ifs,0⟩] scope pos) J7) (A4 (tm wi bs g tt te) (gY i)):=by
 intro pins s σ H D I h;rw[exec_Assign_Name_used _ _ _ _ Ku];refine Z_ (wpAny_standAt (Z_ ?_));show wpAny _ X.A (do let _ <-comprehension (.ListComp elt [⟨tg,iter,ifs,0⟩] scope pos) scope X.env _ (newList []) Y (eval iter X.env) (U (assign (.Name y py) X.env))) _ _ s;refine Z_ (YK (wpAny_comprehension_free (use:=U (assign (.Name y py) X.env)) (Q:=λ_ s'=>SP X pins D .next s') rfl hs (dY (S.has I)) S.kind S.loc
  (thn (hi pins s σ H _ I h) λv s1 h1=>thn h1 λO9 s2 h2=>?_)) (λ_ s' hq=>Z5 (Z5 hq)) λ_ _ e=>e)
 obtain⟨it,fp,tn,J,H2,e,I2,T,NN,f2,hq⟩:=h2;subst e;refine iI (Q:=λx H1=>gY i x σ H1 D.nx) (RR:=λacc C=>compPost (model X.prog X.w) X.A X.xe (U (assign (.Name y py) X.env)) (λ_ s'=>SP X pins D .next s') acc C) hc S hg ht he I2 T NN f2 hq ?_;intro A C s' H' m' I' q' hn hC hL hF hz JV hp;show wpAny _ X.A (assign (.Name y py) X.env (.ref A)) _ _ _;refine wpAny_assign_Name (jU I' hN QK (.inl hy) (v:=.ref A) rfl (λs2 I2 Ki=>?_) (.inr hy));obtain⟨a,sb,ha⟩:=Ki;have hCa:C≠a:=by
  rcases ha with z|z;rw[z];exact hL;exact λq=>JV y a z q.symm
 refine⟨m',hn.sameBut sb hCa,λh'' MV=>⟨σ.set i (U (.ref A)),H',?_,q'⟩⟩;exact I2.turned (t':=s2.toks) (λb o hb e=>(MV.2 b hb).trans e) hC hL (.inr hz) JV hp
end
mutual
def D.flat:D->Bool
 |.non=>L|.bl _=>L|.int _=>L|.str _=>L
 |.tup ds=>D.aaG ds
 |.lst _=>Y|.dK _ _=>Y|.dD _ _=>Y
def D.aaG:Z9 D->Bool
 |[]=>L
 |d::ds=>d.flat&&D.aaG ds
end
theorem D.aaY:∀ds:Z9 D,D.aaG ds=ds.all D.flat
 |[]=>rfl
 |d::ds=>by simp only[D.aaG,jR,D.aaY ds]
def abp(K:Z6)(B:ZM->Prop)(H:Hp)(a:ZM)(xs:Z9 V):Prop:=
 (B a/\H a=U (.lst xs))\/(∃o,H a=U (.frz o (.lst xs)))\/
  ∃(o:Obj)(its:Array Z3)(n:Nat),K.lookup a=U o/\o.cls=.type "list"/\o.dict=M/\o.data=.seq its n/\its.size<=sizeLine/\aab xs its.toList
def abp.sq{K:Z6}{B:ZM->Prop}{H:Hp}{a:ZM}{xs:Z9 V}(h:abp K B H a xs):SqL K H a xs:=by
 rcases h with⟨_,h⟩|⟨o,h⟩|h;exact .inl (.inl h);exact .inl (.inr ⟨o,h⟩);exact .inr h
def abT(B:ZM->Prop)(H:Hp)(a:ZM)(kvs:Z9 (Key×V)):Prop:=(B a/\H a=U (.dK kvs))\/∃o,H a=U (.frz o (.dK kvs))
def abU(B:ZM->Prop)(H:Hp)(a:ZM)(kvs:Z9 (D×V)):Prop:=∃ep,(B a/\H a=U (.dD kvs ep))\/∃o,H a=U (.frz o (.dD kvs ep))
mutual
def Rep(K:Z6)(B:ZM->Prop)(H:Hp):D->V->Prop
 |.non,v=>v=.non
 |.bl b,v=>v=.bl b
 |.int i,v=>v=.int i
 |.str x,v=>v=.str x
 |.tup ds,v=>∃a xs,v=.ref a/\H a=U (.tup xs)/\M1 K B H ds xs
 |.lst ds,v=>∃a xs,v=.ref a/\abp K B H a xs/\M1 K B H ds xs
 |.dK ks ds,v=>∃a kvs,v=.ref a/\abT B H a kvs/\kvs.map (·.1)=ks/\M1 K B H ds (kvs.map (·.2))
 |.dD ks ds,v=>∃a kvs,v=.ref a/\abU B H a kvs/\kvs.map (·.1)=ks/\M1 K B H ds (kvs.map (·.2))
def M1(K:Z6)(B:ZM->Prop)(H:Hp):Z9 D->Z9 V->Prop
 |[],xs=>xs=[]
 |d::ds,xs=>∃x r,xs=x::r/\Rep K B H d x/\M1 K B H ds r
end
structure Ext (B:ZM->Prop)(H H':Hp):Prop where
 aaZ:∀a xs,H a=some (.tup xs)->H' a=some (.tup xs)
 aaT:∀a o u,H a=some (.frz o u)->H' a=some (.frz o u)
 abE:∀a,B a->H' a=H a
def Ext.refl:Ext B H H:=⟨λ_ _ h=>h,λ_ _ _ h=>h,λ_ _=>rfl⟩
theorem Ext.trans(a:Ext B H H1)(b:Ext B H1 H2):Ext B H H2:=
 ⟨λx y h=>b.aaZ x y (a.aaZ x y h),λx y z h=>b.aaT x y z (a.aaT x y z h),λx h=>(b.abE x h).trans (a.abE x h)⟩
section
variable{K:Z6}{B B':ZM->Prop}{H H':Hp}
def abp.ext(h:abp K B H a xs)(e:Ext B H H'):abp K B H' a xs:=by
 rcases h with⟨b,h⟩|⟨o,h⟩|h;exact .inl ⟨b,(e.abE a b).trans h⟩;exact .inr (.inl ⟨o,e.aaT _ _ _ h⟩);exact .inr (.inr h)
def abp.more(h:abp K B H a xs)(e:∀a,B a->B' a):abp K B' H a xs:=by
 rcases h with⟨b,h⟩|h|h;exact .inl ⟨e a b,h⟩;exact .inr (.inl h);exact .inr (.inr h)
def abT.ext(h:abT B H a xs)(e:Ext B H H'):abT B H' a xs:=by
 rcases h with⟨b,h⟩|⟨o,h⟩;exact .inl ⟨b,(e.abE a b).trans h⟩;exact .inr ⟨o,e.aaT _ _ _ h⟩
def abU.ext(h:abU B H a xs)(e:Ext B H H'):abU B H' a xs:=by
 obtain⟨ep,h⟩:=h;rcases h with⟨b,h⟩|⟨o,h⟩;exact⟨ep,.inl ⟨b,(e.abE a b).trans h⟩⟩;exact⟨ep,.inr ⟨o,e.aaT _ _ _ h⟩⟩
mutual
theorem Rep.ext(e:Ext B H H'):∀{d:D}{v:V},Rep K B H d v->Rep K B H' d v
 |.non,v,h=>by simpa only[Rep]using h
 |.bl b,v,h=>by simpa only[Rep]using h
 |.int i,v,h=>by simpa only[Rep]using h
 |.str x,v,h=>by simpa only[Rep]using h
 |.tup ds,v,h=>by
  simp only[Rep]at h⊢;obtain⟨a,xs,hv,hq,hr⟩:=h;exact⟨a,xs,hv,e.aaZ _ _ hq,M1.ext e hr⟩
 |.lst ds,v,h=>by
  simp only[Rep]at h⊢;obtain⟨a,xs,hv,hq,hr⟩:=h;exact⟨a,xs,hv,hq.ext e,M1.ext e hr⟩
 |.dK ks ds,v,h=>by
  simp only[Rep]at h⊢;obtain⟨a,xs,hv,hq,hk,hr⟩:=h;exact⟨a,xs,hv,hq.ext e,hk,M1.ext e hr⟩
 |.dD ks ds,v,h=>by
  simp only[Rep]at h⊢;obtain⟨a,xs,hv,hq,hk,hr⟩:=h;exact⟨a,xs,hv,hq.ext e,hk,M1.ext e hr⟩
theorem M1.ext(e:Ext B H H'):∀{ds:Z9 D}{xs:Z9 V},M1 K B H ds xs->M1 K B H' ds xs
 |[],xs,h=>by simpa only[M1]using h
 |d::ds,xs,h=>by
  simp only[M1]at h⊢;obtain⟨x,r,hx,h1,h2⟩:=h;exact⟨x,r,hx,Rep.ext e h1,M1.ext e h2⟩
end
mutual
theorem Rep.more(e:∀a,B a->B' a):∀{d:D}{v:V},Rep K B H d v->Rep K B' H d v
 |.non,v,h=>by simpa only[Rep]using h
 |.bl b,v,h=>by simpa only[Rep]using h
 |.int i,v,h=>by simpa only[Rep]using h
 |.str x,v,h=>by simpa only[Rep]using h
 |.tup ds,v,h=>by
  simp only[Rep]at h⊢;obtain⟨a,xs,hv,hq,hr⟩:=h;exact⟨a,xs,hv,hq,M1.more e hr⟩
 |.lst ds,v,h=>by
  simp only[Rep]at h⊢;obtain⟨a,xs,hv,hq,hr⟩:=h;exact⟨a,xs,hv,hq.more e,M1.more e hr⟩
 |.dK ks ds,v,h=>by
  simp only[Rep]at h⊢;obtain⟨a,xs,hv,hq,hk,hr⟩:=h;exact⟨a,xs,hv,hq.imp (λz=>⟨e a z.1,z.2⟩) λz=>z,hk,M1.more e hr⟩
 |.dD ks ds,v,h=>by
  simp only[Rep]at h⊢;obtain⟨a,xs,hv,⟨ep,hq⟩,hk,hr⟩:=h;exact⟨a,xs,hv,⟨ep,hq.imp (λz=>⟨e a z.1,z.2⟩) λz=>z⟩,hk,M1.more e hr⟩
theorem M1.more(e:∀a,B a->B' a):∀{ds:Z9 D}{xs:Z9 V},M1 K B H ds xs->M1 K B' H ds xs
 |[],xs,h=>by simpa only[M1]using h
 |d::ds,xs,h=>by
  simp only[M1]at h⊢;obtain⟨x,r,hx,h1,h2⟩:=h;exact⟨x,r,hx,Rep.more e h1,M1.more e h2⟩
end
mutual
theorem Rep.flat:∀{d:D}{v:V},d.flat=L->Rep K B H d v->Rep K B' H d v
 |.non,v,_,h=>by simpa only[Rep]using h
 |.bl b,v,_,h=>by simpa only[Rep]using h
 |.int i,v,_,h=>by simpa only[Rep]using h
 |.str x,v,_,h=>by simpa only[Rep]using h
 |.tup ds,v,f,h=>by
  simp only[Rep]at h⊢;simp only[D.flat]at f;obtain⟨a,xs,hv,hq,hr⟩:=h;exact⟨a,xs,hv,hq,M1.flat f hr⟩
 |.lst ds,v,f,_=>by simp[D.flat]at f
 |.dK _ _,v,f,_=>by simp[D.flat]at f
 |.dD _ _,v,f,_=>by simp[D.flat]at f
theorem M1.flat:∀{ds:Z9 D}{xs:Z9 V},D.aaG ds=L->M1 K B H ds xs->M1 K B' H ds xs
 |[],xs,_,h=>by simpa only[M1]using h
 |d::ds,xs,f,h=>by
  simp only[M1]at h⊢;simp only[D.aaG,ZK]at f;obtain⟨x,r,hx,h1,h2⟩:=h;exact⟨x,r,hx,Rep.flat f.1 h1,M1.flat f.2 h2⟩
end
theorem M1.length:∀{ds:Z9 D}{xs:Z9 V},M1 K B H ds xs->ds.length=xs.length
 |[],xs,h=>by simp only[M1]at h;subst h;rfl
 |d::ds,xs,h=>by
  simp only[M1]at h;obtain⟨x,r,hx,h1,h2⟩:=h;subst hx;simp only[cK,M1.length h2]
def M1.nil:M1 K B H [] []:=by simp only[M1]
theorem M1.cons{d:D}{ds:Z9 D}{x:V}{xs:Z9 V}(h:Rep K B H d x)(t:M1 K B H ds xs):M1 K B H (d::ds) (x::xs):=by
 simp only[M1];exact⟨x,xs,rfl,h,t⟩
def M1.abI(h:M1 K B H (d::ds) (x::xs)):Rep K B H d x/\M1 K B H ds xs:=by
 simp only[M1]at h;obtain⟨y,r,e,h1,h2⟩:=h;cases e;exact⟨h1,h2⟩
theorem M1.get:∀{ds:Z9 D}{xs:Z9 V}{i:Nat}{d:D},M1 K B H ds xs->ds[i]?=U d->∃x,xs[i]?=U x/\Rep K B H d x
 |[],_,_,_,_,e=>by simp at e
 |d::ds,xs,0,e,h,he=>by
  simp only[M1]at h;obtain⟨x,r,hx,h1,h2⟩:=h;subst hx;simp at he;subst he;exact⟨x,rfl,h1⟩
 |d::ds,xs,i+1,e,h,he=>by
  simp only[M1]at h;obtain⟨x,r,hx,h1,h2⟩:=h;subst hx;exact M1.get (i:=i) h2 (by simpa using he)
def M1.get':∀{ds:Z9 D}{xs:Z9 V}{i:Nat}{x:V},M1 K B H ds xs->xs[i]?=U x->∃d,ds[i]?=U d/\Rep K B H d x:=λ{ds xs i x} h e=>by
 have hl:=h.length;have hi:i<ds.length:=by rw[hl];exact(ZP.mp e).1
 obtain⟨y,hy,r⟩:=h.get (i:=i) (d:=ds[i]) (by simp[hi]);rw[e]at hy;obtain rfl:=Z7 hy;exact⟨ds[i],by simp[hi],r⟩
theorem M1.append:∀{ds es:Z9 D}{xs ys:Z9 V},M1 K B H ds xs->M1 K B H es ys->M1 K B H (ds++es) (xs++ys)
 |[],es,xs,ys,h,t=>by simp only[M1]at h;subst h;simpa using t
 |d::ds,es,xs,ys,h,t=>by
  simp only[M1]at h;obtain⟨x,r,hx,h1,h2⟩:=h;subst hx;exact M1.cons h1 (M1.append h2 t)
theorem M1.take:∀{ds:Z9 D}{xs:Z9 V}(n:Nat),M1 K B H ds xs->M1 K B H (ds.take n) (xs.take n)
 |_,_,0,_=>by simp only[List.take_zero];exact M1.nil
 |[],xs,n+1,h=>by simp only[M1]at h;subst h;exact M1.nil
 |d::ds,xs,n+1,h=>by
  simp only[M1]at h;obtain⟨x,r,hx,h1,h2⟩:=h;subst hx;exact M1.cons h1 (M1.take n h2)
theorem M1.drop:∀{ds:Z9 D}{xs:Z9 V}(n:Nat),M1 K B H ds xs->M1 K B H (ds.drop n) (xs.drop n)
 |_,_,0,h=>h
 |[],xs,n+1,h=>by simp only[M1]at h;subst h;exact M1.nil
 |d::ds,xs,n+1,h=>by
  simp only[M1]at h;obtain⟨x,r,hx,h1,h2⟩:=h;subst hx;exact M1.drop n h2
end
abbrev Mk:=Z9 (Z8 (D×Bool))
def ObR(K:Z6)(B:ZM->Prop)(H:Hp)(d:D)(a:ZM):Prop:=match d with
 |.lst ds=>∃xs,H a=U (.lst xs)/\M1 K B H ds xs
 |.dK ks ds=>∃kvs,H a=U (.dK kvs)/\kvs.map (·.1)=ks/\M1 K B H ds (kvs.map (·.2))
 |.dD ks ds=>∃kvs,(∃ep,H a=U (.dD kvs ep))/\kvs.map (·.1)=ks/\M1 K B H ds (kvs.map (·.2))
 |_=>False
structure Rel (K:Z6)(B:ZM->Prop)(Hk:Hp)(δ:Mk)(σ:St)(H:Hp):Prop where
 same:aad Hk H
 bor:∀a,B a->∃o:HOn,Hk a=some o.1
 len:δ.length=σ.length
 var:∀(i:Nat) d,δ[i]?=some (some (d,false))->∃v,σ[i]?=some (some v)/\Rep K B H d v
 own:∀(i:Nat) d,δ[i]?=some (some (d,true))->∃a,σ[i]?=some (some (.ref a))/\Hk a=none/\ObR K B H d a
 dis:∀(i j:Nat) d e a,i≠j->δ[i]?=some (some (d,true))->δ[j]?=some (some (e,true))->σ[i]?=some (some (.ref a))->σ[j]?=some (some (.ref a))->False
def BO(B:ZM->Prop)(q:Mk)(σ:St)(a:ZM):Prop:=B a\/∃(i:Nat)(d:D),q[i]?=U (U (d,L))/\σ[i]?=U (U (.ref a))
def ba(m:Bool)(B:ZM->Prop)(q:Mk)(σ:St):ZM->Prop:=if m=L then BO B q σ else B
section
variable{K:Z6}{B B':ZM->Prop}{Hk H H':Hp}{δ:Mk}{σ:St}
def aad.ext(s:aad H H')(b:∀a,B a->∃o:HOn,H a=U o.1):Ext B H H':=
 ⟨λa xs h=>s a _ h,λa o u h=>s a _ h,λa h=>by obtain⟨o,e⟩:=b a h;rw[e,s a o e]⟩
theorem ObR.ext(h:ObR K B H d a)(e:Ext B H H')(ha:∀o:HO,H a=U o->o.nt=L->H' a=U o):ObR K B H' d a:=by
 cases d with
 |lst ds=>obtain⟨xs,h1,h2⟩:=h;exact⟨xs,ha _ h1 rfl,h2.ext e⟩
 |dK ks ds=>obtain⟨xs,h1,h0,h2⟩:=h;exact⟨xs,ha _ h1 rfl,h0,h2.ext e⟩
 |dD ks ds=>obtain⟨xs,⟨ep,h1⟩,h0,h2⟩:=h;exact⟨xs,⟨ep,ha _ h1 rfl⟩,h0,h2.ext e⟩
 |_=>exact(show False from h).elim
def ObR.there(h:ObR K B H d a):∃o:HOn,H a=U o.1:=by
 cases d with
 |lst ds=>obtain⟨xs,h1,h2⟩:=h;exact⟨⟨_,rfl⟩,h1⟩
 |dK ks ds=>obtain⟨xs,h1,h0,h2⟩:=h;exact⟨⟨_,rfl⟩,h1⟩
 |dD ks ds=>obtain⟨xs,⟨ep,h1⟩,h0,h2⟩:=h;exact⟨⟨_,rfl⟩,h1⟩
 |_=>exact(show False from h).elim
def Rel.abx(R:Rel K B Hk δ σ H):∀a,B a->∃o:HOn,H a=U o.1:=λa h=>by
 obtain⟨o,e⟩:=R.bor a h;exact⟨o,R.same a o e⟩
def Rel.boH(R:Rel K B Hk δ σ H):∀a,BO B δ σ a->∃o:HOn,H a=U o.1:=λa h=>by
 rcases h with h|⟨i,d,h1,h2⟩;exact R.abx a h;obtain⟨b,e,_,ob⟩:=R.own i d h1;rw[h2]at e;cases e;exact ob.there
def Rel.bsH(R:Rel K B Hk δ σ H)(m:Bool):∀a,ba m B δ σ a->∃o:HOn,H a=U o.1:=by
 unfold ba;cases m with
 |true=>exact R.boH
 |false=>exact R.abx
def Rel.to(R:Rel K B Hk δ σ H)(s:aad H H'):Rel K B Hk δ σ H':=by
 have e:Ext B H H':=s.ext R.abx;refine⟨R.same.trans s,R.bor,R.len,λi d h=>?_,λi d h=>?_,R.dis⟩;obtain⟨v,h1,h2⟩:=R.var i d h;exact⟨v,h1,h2.ext e⟩;obtain⟨a,h1,h2,h3⟩:=R.own i d h;exact⟨a,h1,h2,h3.ext e λo q n=>s.get a o n q⟩
def Rep.same(r:Rep K (ba m B δ σ) H d v)(R:Rel K B Hk δ σ H)(s:aad H H'):Rep K (ba m B δ σ) H' d v:=r.ext (s.ext (R.bsH m))
def M1.same(r:M1 K (ba m B δ σ) H d v)(R:Rel K B Hk δ σ H)(s:aad H H'):M1 K (ba m B δ σ) H' d v:=r.ext (s.ext (R.bsH m))
def jj(m:Bool):∀a,B a->ba m B δ σ a:=λa h=>by
 unfold ba;cases m with
 |true=>exact .inl h
 |false=>exact h
def ObR.rep(h:ObR K B H d a)(hb:B' a)(hs:∀a,B a->B' a):Rep K B' H d (.ref a):=by
 cases d with
 |lst ds=>obtain⟨xs,h1,h2⟩:=h;simp only[Rep];exact⟨a,xs,rfl,.inl ⟨hb,h1⟩,h2.more hs⟩
 |dK ks ds=>obtain⟨xs,h1,h0,h2⟩:=h;simp only[Rep];exact⟨a,xs,rfl,.inl ⟨hb,h1⟩,h0,h2.more hs⟩
 |dD ks ds=>obtain⟨xs,⟨ep,h1⟩,h0,h2⟩:=h;simp only[Rep];exact⟨a,xs,rfl,⟨ep,.inl ⟨hb,h1⟩⟩,h0,h2.more hs⟩
 |_=>exact(show False from h).elim
end
def PE.imp(h:PE X e t)(i:∀σ H Q,t' σ H Q->t σ H Q):PE X e t':=λpins s σ H Q I q=>h pins s σ H Q I (i σ H Q q)
def PT.imp(h:PT X e t)(i:∀σ H Q,t' σ H Q->t σ H Q):PT X e t':=λpins s σ H Q I q=>h pins s σ H Q I (i σ H Q q)
def PW.imp(h:PW X e t)(i:∀σ H Q,t' σ H Q->t σ H Q):PW X e t':=λwhole pins s σ H Q I q=>h whole pins s σ H Q I (i σ H Q q)
def PA.imp(h:PA X e t)(i:∀σ H Q,t' σ H Q->t σ H Q):PA X e t':=λpos pins s σ H Q I q=>h pos pins s σ H Q I (i σ H Q q)
def PI.imp(h:PI X tg e t)(i:∀σ H Q,t' σ H Q->t σ H Q):PI X tg e t':=λpins s σ H Q I q=>h pins s σ H Q I (i σ H Q q)
def PS.imp(h:PS X e t)(i:∀D σ H,t' D σ H->t D σ H):PS X e t':=λpins s σ H D I q=>h pins s σ H D I (i D σ H q)
def PSs.imp(h:PSs X e t)(i:∀D σ H,t' D σ H->t D σ H):PSs X e t':=λpins s σ H D I q=>h pins s σ H D I (i D σ H q)
noncomputable def tM(K:Z6)(m:Bool)(f:Mk->Z8 D):TE:=λσ H Q=>∃B Hk q d,Rel K B Hk q σ H/\f q=U d/\∀v H',aad H H'->Rep K (ba m B q σ) H' d v->Q v H'
def tF(K:Z6)(f:Mk->Z8 D):TE:=λσ H Q=>∃B Hk q d,Rel K B Hk q σ H/\f q=U d/\∀a H',aad H H'->H a=M->ObR K B H' d a->Q (.ref a) H'
def tMT(K:Z6)(f:Mk->Z8 Bool):TT:=λσ H Q=>∃B Hk q d,Rel K B Hk q σ H/\f q=U d/\∀H',aad H H'->Q d H'
noncomputable def tMA(K:Z6)(m:Bool)(f:Mk->Z8 (Z9 D)):TA:=λσ H Q=>∃B Hk q ds,Rel K B Hk q σ H/\f q=U ds/\∀vs H',aad H H'->M1 K (ba m B q σ) H' ds vs->Q vs H'
abbrev DE(X:Cx)(m:Bool)(e:Expr)(f:Mk->Z8 D):Prop:=PE X e (tM X.K m f)
abbrev DF(X:Cx)(e:Expr)(f:Mk->Z8 D):Prop:=PE X e (tF X.K f)
abbrev DT(X:Cx)(e:Expr)(f:Mk->Z8 Bool):Prop:=PT X e (tMT X.K f)
abbrev DA(X:Cx)(m:Bool)(es:Z9 Expr)(f:Mk->Z8 (Z9 D)):Prop:=PA X es (tMA X.K m f)
section
variable{X:Cx}{m m':Bool}{a b:Expr}{fa fb:Mk->Z8 D}{pos:Pos}
def rd(m:Bool)(i:Nat)(q:Mk):Z8 D:=match q[i]? with|some (some (d,o))=>if(o&&!m)=L then M else U d|_=>M
set_option tactic.hygienic true in
def sP(h:rd m i O=U d):∃o,O[i]?=U (U (d,o))/\(o=L->m=L):=by
 unfold rd at h;split at h;rename_i d' o e;by_cases q:(o&&!m)=L;rw[ZO q]at h;trivial;rw[ZJ q]at h;obtain rfl:=Z7 h;refine⟨o,e,λz=>?_⟩;subst z;cases m with
 |true=>rfl
 |false=>simp at q
 trivial
theorem Rel.rd{K:Z6}{B:ZM->Prop}{Hk H:Hp}{q:Mk}{σ:St}{i:Nat}{d:D}(R:Rel K B Hk q σ H)(h:rd m i q=U d):∃v,σ[i]?=U (U v)/\Rep K (ba m B q σ) H d v:=by
 obtain⟨o,e,ho⟩:=sP h;cases o with
 |false=>
  obtain⟨v,h1,h2⟩:=R.var i d e;exact⟨v,h1,h2.more λa h=>jj m a h⟩
 |true=>
  obtain⟨a,h1,h2,h3⟩:=R.own i d e;obtain rfl:=ho rfl;exact⟨_,h1,h3.rep (B':=ba L B q σ) (by unfold ba;rw[ZO rfl];exact .inr ⟨i,d,e,h1⟩) λa h=>jj L a h⟩
def Cm(hN:X.N[i]?=U x)(hv:Vis X.env.scope x)(hd:(x==("__debug__":Str))=Y:=by decide)(Ja:(x==("__classdict__":Str))=Y:=by decide):DE X m (.Name x pos) (rd m i):=
 (bF hN hv hd Ja).imp λσ H Q hz=>by
  obtain⟨B,Hk,q,d,R,e,k⟩:=hz;obtain⟨v,h1,h2⟩:=R.rd e;exact⟨v,h1,k v H (aad.refl H) h2⟩
theorem kQ{i:Int}{j:Nat}:DE X m (.Constant (.int i) j pos) (λ_=>U (.int i)):=rN.imp λσ H Q hz=>by obtain⟨B,Hk,q,d,R,e,k⟩:=hz;obtain rfl:=Z7 e;exact k _ H (aad.refl H) rfl
theorem xU:DE X m (.Constant (.str x) j pos) (λ_=>U (.str x)):=CU.imp λσ H Q hz=>by obtain⟨B,Hk,q,d,R,e,k⟩:=hz;obtain rfl:=Z7 e;exact k _ H (aad.refl H) rfl
theorem E4:DE X m (.Constant (.bool x) j pos) (λ_=>U (.bl x)):=Dw.imp λσ H Q hz=>by obtain⟨B,Hk,q,d,R,e,k⟩:=hz;obtain rfl:=Z7 e;exact k _ H (aad.refl H) rfl
theorem uY:DE X m (.Constant .none j pos) (λ_=>U .non):=Dt.imp λσ H Q hz=>by obtain⟨B,Hk,q,d,R,e,k⟩:=hz;obtain rfl:=Z7 e;exact k _ H (aad.refl H) rfl
def two{K:Z6}{σ:St}{H:Hp}{B:ZM->Prop}{Hk:Hp}{q:Mk}{d1 d2:D}{P:V->V->Hp->Prop}(R:Rel K B Hk q σ H)(e1:fa q=U d1)(e2:fb q=U d2)
  (k:∀v u H',aad H H'->Rel K B Hk q σ H'->Rep K (ba m B q σ) H' d1 v->Rep K (ba m' B q σ) H' d2 u->P v u H'):tM K m fa σ H λx H1=>tM K m' fb σ H1 λy H2=>P x y H2:=
 ⟨B,Hk,q,d1,R,e1,λv H1 s1 r1=>⟨B,Hk,q,d2,R.to s1,e2,λu H2 s2 r2=>k v u H2 (s1.trans s2) (R.to (s1.trans s2)) (r1.same (R.to s1) s2) r2⟩⟩
noncomputable def bI(C:Int->Int->Bool)(g:Int->Int->D)(x y:Z8 D):Z8 D:=match x,y with|some (.int i),some (.int j)=>if C i j=L then U (g i j) else M|_,_=>M
set_option tactic.hygienic true in
def AB(h:bI C g x y=U d):∃i j,x=U (.int i)/\y=U (.int j)/\C i j=L/\d=g i j:=by
 unfold bI at h;split at h;rename_i i j;by_cases q:C i j=L;rw[ZO q]at h;obtain rfl:=Z7 h;exact⟨i,j,rfl,rfl,q,rfl⟩;rw[ZJ q]at h;trivial;trivial
def AF(h:C i j=L):bI C g (U (.int i)) (U (.int j))=U (g i j):=by unfold bI;simp only[ZO h]
def cT:Int->Int->Bool:=λ_ _=>L
def F9:Int->Int->Bool:=λi j=>decide ((-(2 ^ 64)<i/\i<2 ^ 64)\/(-(2 ^ 64)<j/\j<2 ^ 64))
def FL:Int->Int->Bool:=λ_ j=>decide (0<j/\j<1073741824)
def Gd:Int->Int->Bool:=λ_ j=>decide (0<j)
def rA{C:Int->Int->Bool}{g:Int->Int->Int}(ho:OpR X (binaryOp op) r)(hr:∀i j H Q,C i j=L->Q (V.int (g i j)) H->r (.int i) (.int j) H Q)(ha:DE X m a fa)(hb:DE X m' b fb):
  DE X mm (.BinOp a op b pos) (λq=>bI C (λi j=>.int (g i j)) (fa q) (fb q)):=
 (v8 ho ha hb).imp λσ H Q hz=>by
  obtain⟨B,Hk,q,d,R,e,k⟩:=hz;obtain⟨i,j,e1,e2,hc,rfl⟩:=AB e;refine two R e1 e2 λv u H' s R' r1 r2=>?_;simp only[Rep]at r1 r2;subst r1 r2;exact hr i j H' Q hc (k _ H' s (by simp only[Rep]))
def eL(x y:Z8 D):Z8 D:=bI cT (λi j=>.int (i+j)) x y
def DU(x y:Z8 D):Z8 D:=bI cT (λi j=>.int (i - j)) x y
def tq(x y:Z8 D):Z8 D:=bI F9 (λi j=>.int (i*j)) x y
def AN(x y:Z8 D):Z8 D:=bI FL (λi j=>.int (i / j)) x y
def dv(x y:Z8 D):Z8 D:=bI Gd (λi j=>.int (i%j)) x y
theorem Cz(ha:DE X m a fa)(hb:DE X m' b fb):DE X mm (.BinOp a .Add b pos) (λO=>eL (fa O) (fb O)):=rA Ct (λi j H Q _ q=>⟨i,j,rfl,rfl,q⟩) ha hb
theorem BS(ha:DE X m a fa)(hb:DE X m' b fb):DE X mm (.BinOp a .Sub b pos) (λO=>DU (fa O) (fb O)):=rA CG (λi j H Q _ q=>⟨i,j,rfl,rfl,q⟩) ha hb
theorem BT(ha:DE X m a fa)(hb:DE X m' b fb):DE X mm (.BinOp a .Mult b pos) (λO=>tq (fa O) (fb O)):=rA Dy (λi j H Q c q=>⟨i,j,rfl,rfl,(show(-(2 ^ 64)<i/\i<2 ^ 64)\/(-(2 ^ 64)<j/\j<2 ^ 64) from Zo c),q⟩) ha hb
theorem CQ(ha:DE X m a fa)(hb:DE X m' b fb):DE X mm (.BinOp a .FloorDiv b pos) (λO=>AN (fa O) (fb O)):=rA Ab (λi j H Q c q=>⟨i,j,rfl,rfl,(show 0<j/\j<1073741824 from Zo c),q⟩) ha hb
theorem Bt(ha:DE X m a fa)(hb:DE X m' b fb):DE X mm (.BinOp a .Mod b pos) (λO=>dv (fa O) (fb O)):=rA BQ (λi j H Q c q=>⟨i,j,rfl,rfl,(show 0<j from Zo c),q⟩) ha hb
def cI(g:Int->Int->Bool)(x y:Z8 D):Z8 Bool:=match x,y with|some (.int i),some (.int j)=>U (g i j)|_,_=>M
set_option tactic.hygienic true in
def zg(h:cI g x y=U c):∃i j,x=U (.int i)/\y=U (.int j)/\c=g i j:=by
 unfold cI at h;split at h;rename_i i j;obtain rfl:=Z7 h;exact⟨i,j,rfl,rfl,rfl⟩;trivial
theorem C9(ho:OpR X (compareOp op) (rI0 λi j=>.bl (g i j)))(hm:behindInMarks op b=Y)(ha:DE X m a fa)(hb:DE X m' b fb):
  DT X (.Compare a [op] [b] pos) (λq=>cI g (fa q) (fb q)):=
 (cq ho ha hb hm).imp λσ H Q hz=>by
  obtain⟨B,Hk,q,d,R,e,k⟩:=hz;obtain⟨i,j,e1,e2,rfl⟩:=zg e;refine two R e1 e2 λv u H' s R' r1 r2=>?_;simp only[Rep]at r1 r2;subst r1 r2;exact⟨i,j,rfl,rfl,_,rfl,k H' s⟩
abbrev gLe:Int->Int->Bool:=λi j=>decide (i<=j)
def tyB(x:Z8 D):Z8 Bool:=match x with|some (.bl b)=>U b|_=>M
def ofB(x:Z8 Bool):Z8 D:=match x with|some b=>U (.bl b)|none=>M
def wl(h:tyB x=U c):x=U (.bl c):=by
 unfold tyB at h;split at h;obtain rfl:=Z7 h;rfl;trivial
theorem yh(ha:DE X m a fa)(he:∀whole,isTrue a X.env whole=(do let v <-whole;standAt a.pos;holding [v] (truthy v)):=by intro _;rfl):DT X a (λq=>tyB (fa q)):=
 (Bv ha he).imp λσ H Q ⟨B,Hk,q,d,R,e,k⟩=>⟨B,Hk,q,_,R,wl e,λv H' s r=>by
  simp only[Rep]at r;subst r;exact⟨d,rfl,k H' s⟩⟩
variable{fc ga gb:Mk->Z8 Bool}{aq:Z9 Expr}
def yJ(x y:Z8 Bool):Z8 Bool:=match x with|some true=>y|some false=>U Y|none=>M
def orO(x y:Z8 Bool):Z8 Bool:=match x with|some true=>U L|some false=>y|none=>M
def g8(x:Z8 Bool):Z8 Bool:=match x with|some c=>U (!c)|none=>M
abbrev DW(X:Cx)(e:Expr)(f:Mk->Z8 Bool):Prop:=PW X e (tMT X.K f)
theorem zC(ha:DT X a ga):DW X (.BoolOp .And [a] pos) ga:=A3 ha
theorem Cd(ha:DT X a ga):DW X (.BoolOp .Or [a] pos) ga:=Dm ha
theorem Cw(ha:DT X a ga)(hb:DW X (.BoolOp .And (b::aq) pos) gb):DW X (.BoolOp .And (a::b::aq) pos) (λO=>yJ (ga O) (gb O)):=
 (Cl ha hb).imp λσ H Q hz=>by
  obtain⟨B,Hk,O,d,R,e,k⟩:=hz;unfold yJ at e;dsimp only at e;split at e;rename_i q;exact⟨B,Hk,O,L,R,q,λH1 s1=>zG (⟨B,Hk,O,d,R.to s1,e,λH2 s2=>k H2 (s1.trans s2)⟩)⟩;rename_i q;obtain rfl:=Z7 e;exact⟨B,Hk,O,Y,R,q,λH1 s1=>Aw (k H1 s1)⟩;trivial
theorem Fd(ha:DT X a ga)(hb:DW X (.BoolOp .Or (b::aq) pos) gb):DW X (.BoolOp .Or (a::b::aq) pos) (λO=>orO (ga O) (gb O)):=
 (Fi ha hb).imp λσ H Q hz=>by
  obtain⟨B,Hk,O,d,R,e,k⟩:=hz;unfold orO at e;dsimp only at e;split at e;rename_i q;obtain rfl:=Z7 e;exact⟨B,Hk,O,L,R,q,λH1 s1=>zG (k H1 s1)⟩;rename_i q;exact⟨B,Hk,O,Y,R,q,λH1 s1=>Aw (⟨B,Hk,O,d,R.to s1,e,λH2 s2=>k H2 (s1.trans s2)⟩)⟩;trivial
set_option tactic.hygienic true in
theorem Cy(ha:DT X a ga):DT X (.UnaryOp .Not a pos) (λO=>g8 (ga O)):=
 (BV ha).imp λσ H Q hz=>by
  obtain⟨B,Hk,O,d,R,e,k⟩:=hz;dsimp only[g8]at e;split at e;rename_i c q;obtain rfl:=Z7 e;exact⟨B,Hk,O,c,R,q,λH1 s1=>k H1 s1⟩;trivial
def aa(x:Z8 D)(y:Z8 (Z9 D)):Z8 (Z9 D):=match x,y with|some d,some ds=>U (d::ds)|_,_=>M
set_option tactic.hygienic true in
def qr(h:aa x y=U l):∃d ds,x=U d/\y=U ds/\l=d::ds:=by
 unfold aa at h;split at h;rename_i d ds;obtain rfl:=Z7 h;exact⟨d,ds,rfl,rfl,rfl⟩;trivial
variable{e:Expr}{es:Z9 Expr}{fe:Mk->Z8 D}{fs:Mk->Z8 (Z9 D)}
theorem fX:DA X m [] (λ_=>U []):=aQ.imp λσ H Q hz=>by obtain⟨B,Hk,q,d,R,e,k⟩:=hz;obtain rfl:=Z7 e;exact k [] H (aad.refl H) M1.nil
theorem cH(ha:DE X m e fe)(hr:DA X m es fs)(hs:starEach (e::es) X.env=(Y,eval e X.env)::starEach es X.env:=by rfl):DA X m (e::es) (λq=>aa (fe q) (fs q)):=
 (ay ha hr hs).imp λσ H Q hz=>by
  obtain⟨B,Hk,q,l,R,e,k⟩:=hz;obtain⟨d,ds,e1,e2,rfl⟩:=qr e;exact⟨B,Hk,q,d,R,e1,λv H1 s1 r1=>⟨B,Hk,q,ds,R.to s1,e2,λvs H2 s2 r2=>k (v::vs) H2 (s1.trans s2) (M1.cons (r1.same (R.to s1) s2) r2)⟩⟩
def lim:Nat:=1000000
def aJ(h:n<=lim):n<=sizeLine:=ZH h (by decide)
def dO(x:Z8 (Z9 D)):Z8 D:=match x with|some ds=>if ds.length<=lim then U (.tup ds) else M|none=>M
def cF(x:Z8 (Z9 D)):Z8 D:=match x with|some ds=>if ds.length<=lim then U (.lst ds) else M|none=>M
def vc(h:dO x=U d):∃ds,x=U ds/\ds.length<=lim/\d=.tup ds:=by
 unfold dO at h;split at h;rename_i ds;by_cases q:ds.length<=lim;rw[ZO q]at h;obtain rfl:=Z7 h;exact⟨ds,rfl,q,rfl⟩;rw[ZJ q]at h;trivial;trivial
def rP(h:cF x=U d):∃ds,x=U ds/\ds.length<=lim/\d=.lst ds:=by
 unfold cF at h;split at h;rename_i ds;by_cases q:ds.length<=lim;rw[ZO q]at h;obtain rfl:=Z7 h;exact⟨ds,rfl,q,rfl⟩;rw[ZJ q]at h;trivial;trivial
def ar(h:H p=M):aad H (upd H p o):=(aad.refl H).put h
theorem yD{x1:Nat}(h:DA X m es fs):DE X m (.Tuple es x1 pos) (λq=>dO (fs q)):=
 (CN h).imp λσ H Q hz=>by
  obtain⟨B,Hk,q,d,R,e,k⟩:=hz;obtain⟨ds,e1,hl,rfl⟩:=vc e;refine⟨B,Hk,q,ds,R,e1,λvs H1 s1 r1=>⟨by rw[<-r1.length];exact aJ hl,λp hp=>?_⟩⟩;have s2:=ar (o:=.tup vs) hp;refine k _ _ (s1.trans s2) ?_;simp only[Rep];exact⟨p,vs,rfl,ah,r1.same (R.to s1) s2⟩
theorem ya(h:DA X Y es fs):DF X (.List es pos) (λq=>cF (fs q)):=
 (Co h).imp λσ H Q hz=>by
  obtain⟨B,Hk,q,d,R,e,k⟩:=hz;obtain⟨ds,e1,hl,rfl⟩:=rP e;refine⟨B,Hk,q,ds,R,e1,λvs H1 s1 r1=>⟨by rw[<-r1.length];exact aJ hl,λp hp=>?_⟩⟩;have s2:=ar (o:=.lst vs) hp;exact k p _ (s1.trans s2) (s1.free hp) ⟨vs,ah,r1.same (m:=Y) (R.to s1) s2⟩
end
def okD:Nat->D->Bool
 |_,.non=>L
 |_,.int _=>L
 |_,.str _=>L
 |n+1,.tup ds=>ds.all (okD n)
 |n+1,.lst ds=>ds.all (okD n)
 |_,_=>Y
def zT(h:okD n (.tup ds)=L):∃k,n=k+1/\ds.all (okD k)=L:=by
 cases n with
 |zero=>simp[okD]at h
 |succ k=>exact⟨k,rfl,by simpa only[okD]using h⟩
def zk(h:okD n (.lst ds)=L):∃k,n=k+1/\ds.all (okD k)=L:=by
 cases n with
 |zero=>simp[okD]at h
 |succ k=>exact⟨k,rfl,by simpa only[okD]using h⟩
section
def dC(I:Inv X pins σ H s)(h:SqL X.K H a xs)(h':SqT X.K H a ys):False:=by
 obtain⟨its,_,⟨o,n,e,hc,_,_⟩,_⟩:=I.list h;obtain⟨its',_,⟨o',e',MG,_⟩,_⟩:=I.tuple h';rw[e]at e';obtain rfl:=Z7 e';rw[hc]at MG;injection MG with z;exact absurd z (by decide)
def shp{K:Z6}{n:Nat}{d:D}{v:V}(hd:okD n d=L)(r:Rep K B H d v):(d=.non/\v=.non)\/(∃i,d=.int i/\v=.int i)\/(∃i,d=.str i/\v=.str i)\/
  (∃ds a xs k,d=.tup ds/\v=.ref a/\n=k+1/\ds.all (okD k)=L/\SqT K H a xs/\M1 K B H ds xs)\/∃ds a xs k,d=.lst ds/\v=.ref a/\n=k+1/\ds.all (okD k)=L/\SqL K H a xs/\M1 K B H ds xs:=by
 cases d with
 |non=>exact .inl ⟨rfl,r⟩
 |int i=>exact .inr (.inl ⟨_,rfl,r⟩)
 |str i=>exact .inr (.inr (.inl ⟨_,rfl,r⟩))
 |tup ds=>
  simp only[Rep]at r;obtain⟨a,xs,rfl,hq,hr⟩:=r;obtain⟨k,rfl,h⟩:=zT hd;exact .inr (.inr (.inr (.inl ⟨_,a,xs,k,rfl,rfl,rfl,h,SqT.of hq,hr⟩)))
 |lst ds=>
  simp only[Rep]at r;obtain⟨a,xs,rfl,hq,hr⟩:=r;obtain⟨k,rfl,h⟩:=zk hd;exact .inr (.inr (.inr (.inr ⟨_,a,xs,k,rfl,rfl,rfl,h,hq.sq,hr⟩)))
 |_=>simp[okD]at hd
theorem M1.ach{K:Z6}{n n':Nat}(f:∀d e v,okD n d=L->okD n' e=L->Rep K B H d v->Rep K B' H e v->d=e):∀{ds es:Z9 D}{xs:Z9 V},ds.all (okD n)=L->es.all (okD n')=L->M1 K B H ds xs->M1 K B' H es xs->ds=es
 |[],es,xs,hd,he,r,r'=>by
  simp only[M1]at r;subst r;cases es with
  |nil=>rfl
  |cons e es=>simp only[M1]at r';obtain⟨_,_,z,_⟩:=r';trivial
 |d::ds,es,xs,hd,he,r,r'=>by
  simp only[M1]at r;obtain⟨x,t,rfl,r1,r2⟩:=r;cases es with
  |nil=>simp only[M1]at r';trivial
  |cons e es=>
   obtain⟨q1,q2⟩:=r'.abI;rw[jR,ZK]at hd he;rw[f _ _ _ hd.1 he.1 r1 q1,M1.ach f hd.2 he.2 r2 q2]
def Rep.inj(I:Inv X pins σ H s):∀{n n':Nat}{d e:D}{v:V},okD n d=L->okD n' e=L->Rep X.K B H d v->Rep X.K B' H e v->d=e:=by
 intro n
 induction n using Nat.strongRecOn with
 |ind n ih=>
 intro n' d e v hd he r r';rcases shp hd r with⟨rfl,rfl⟩|⟨i,rfl,rfl⟩|⟨i,rfl,rfl⟩|⟨ds,a,xs,k,rfl,rfl,rfl,h1,q1,r1⟩|⟨ds,a,xs,k,rfl,rfl,rfl,h1,q1,r1⟩<;>rcases shp he r' with⟨rfl,z⟩|⟨j,rfl,z⟩|⟨j,rfl,z⟩|⟨es,b,ys,k',rfl,z,_,h2,q2,r2⟩|⟨es,b,ys,k',rfl,z,_,h2,q2,r2⟩<;>cases z<;>try rfl
 obtain rfl:=I.aaW q1 q2;rw[M1.ach (λ_ _ _=>ih k (Yl k)) h1 h2 r1 r2];exact(dC I q2 q1).elim;exact(dC I q1 q2).elim;obtain rfl:=I.aaN q1 q2;rw[M1.ach (λ_ _ _=>ih k (Yl k)) h1 h2 r1 r2]
theorem M1.inj(I:Inv X pins σ H s)(hd:ds.all (okD n)=L)(he:es.all (okD n')=L)(r:M1 X.K B H ds xs)(r':M1 X.K B' H es xs):ds=es:=M1.ach (λ_ _ _=>Rep.inj I) hd he r r'
def fz:∀(ds es:Z9 D),(ds.length=es.length)->((List.range ds.length).all λj=>decide (ds[j]?=es[j]?))=decide (ds=es):=by
 intro ds es hl;rw[YL,ZX,Y_];constructor;intro h;apply WR;intro j;by_cases hj:j<ds.length;exact Zo (h j (Y5.mpr hj));rw[YG (by lia),YG (by lia)];intro h j _;subst h;exact Zu rfl
def jt:∀(ds es:Z9 D),(((List.range (min ds.length es.length)).all λj=>decide (ds[j]?=es[j]?))&&ds.length==es.length)=decide (ds=es):=by
 intro ds es;by_cases hl:ds.length=es.length;rw[hl,Nat.min_self,Yr,Yd,<-hl,fz ds es hl];have h1:(ds.length==es.length)=Y:=by simpa using hl
 have h2:¬ds=es:=λz=>hl (by rw[z]);rw[h1,XB,ZD h2]
def FV(I:Inv X pins σ H s){n:Nat}{d:D}{v:V}{u:Z3}(hd:okD n d=L)(r:Rep X.K B H d v)(ru:RelV v u):(d=.non/\u=.none)\/(∃i t,d=.int i/\u=.int i t)\/(∃i t,d=.str i/\u=.str i t)\/
  (∃ds a xs k its,d=.tup ds/\u=.ref a/\n=k+1/\ds.all (okD k)=L/\SqT X.K H a xs/\M1 X.K B H ds xs/\aab xs its/\s.heap.IsTuple a its.toArray)\/∃ds a xs k its,d=.lst ds/\u=.ref a/\n=k+1/\ds.all (okD k)=L/\SqL X.K H a xs/\M1 X.K B H ds xs/\aab xs its/\s.heap.IsList a its.toArray:=by
 rcases shp hd r with⟨rfl,rfl⟩|⟨i,rfl,rfl⟩|⟨i,rfl,rfl⟩|⟨ds,a,xs,k,rfl,rfl,rfl,h1,q1,r1⟩|⟨ds,a,xs,k,rfl,rfl,rfl,h1,q1,r1⟩;exact .inl ⟨rfl,ru⟩;obtain⟨t,rfl⟩:=ru;exact .inr (.inl ⟨i,t,rfl,rfl⟩);obtain⟨t,rfl⟩:=ru;exact .inr (.inr (.inl ⟨i,t,rfl,rfl⟩));obtain⟨its,rv,h,_⟩:=I.tuple q1;exact .inr (.inr (.inr (.inl ⟨ds,a,xs,k,its,rfl,ru,rfl,h1,q1,r1,rv,h⟩)));obtain⟨its,rv,h,_⟩:=I.list q1;exact .inr (.inr (.inr (.inr ⟨ds,a,xs,k,its,rfl,ru,rfl,h1,q1,r1,rv,h.isList⟩)))
open SeqAt in
def BY(I:Inv X pins σ H s)(ih:∀(d e:D)(x y:V)(u w:Z3),okD k d=L->okD k e=L->Rep X.K B H d x->Rep X.K B' H e y->RelV x u->RelV y w->EqAt A s u w (decide (d=e)))(hd:ds.all (okD k)=L)(he:es.all (okD k)=L)(hr:M1 X.K B H ds xs)(JW:M1 X.K B' H es ys)(rv:aab xs its)(Me:aab ys ka):∀j (h1:j<its.toArray.size) (h2:j<ka.toArray.size),EqAt A s its.toArray[j] ka.toArray[j] (decide (ds[j]?=es[j]?)):=λj h1 h2=>by
 have l1:=hr.length;have l2:=rv.length;have l3:=JW.length;have l4:=Me.length;simp only[ZT]at h1 h2;obtain⟨d',JE⟩:∃d',ds[j]?=U d':=⟨ds[j]'(by lia),by simp⟩
 obtain⟨e',MF⟩:∃e',es[j]?=U e':=⟨es[j]'(by lia),by simp⟩
 obtain⟨x',U9,Ux⟩:=hr.get JE;obtain⟨y',U5,Uw⟩:=JW.get MF;obtain⟨u',Kt,P4⟩:=rv.get U9;obtain⟨w',Qw,Iu⟩:=Me.get U5;have q:=ih d' e' x' y' u' w' ((ZX.mp hd) d' (Zg JE)) ((ZX.mp he) e' (Zg MF)) Ux Uw P4 Iu;have g1:its.toArray[j]=u':=by simpa using(ZP.mp Kt).2
 have g2:ka.toArray[j]=w':=by simpa using(ZP.mp Qw).2
 rw[g1,g2,JE,MF,show decide (U d'=U e')=decide (d'=e') by simp];exact q
open SeqAt in
def Bl(I:Inv X pins σ H s):∀(n:Nat)(d e:D)(x y:V)(u w:Z3)(A:Za),okD n d=L->okD n e=L->A.units+n+1<cLine->Rep X.K B H d x->Rep X.K B' H e y->RelV x u->RelV y w->
  RcAt A s u w (decide (d=e))/\EqAt A s u w (decide (d=e))/\RcNeAt A s u w (!decide (d=e)):=by
 intro n
 induction n using Nat.strongRecOn with
 |ind n ih=>
 intro d e x y u w A hd he hA rd re rx ry;have hu:A.units<cLine:=by lia
 rcases FV I hd rd rx with⟨rfl,rfl⟩|⟨i,t',rfl,rfl⟩|⟨i,t',rfl,rfl⟩|⟨ds,a,xs,k,its,rfl,rfl,rfl,z_,hp,hr,rv,D_⟩|⟨ds,a,xs,k,its,rfl,rfl,rfl,z_,hp,hr,rv,D_⟩<;>rcases FV I he re ry with⟨rfl,rfl⟩|⟨j,t,rfl,rfl⟩|⟨j,t,rfl,rfl⟩|⟨es,b,ys,k',ka,rfl,rfl,z,LU,hq,JW,Me,B_⟩|⟨es,b,ys,k',ka,rfl,rfl,z,LU,hq,JW,Me,B_⟩
 all_goals try rw[ZD (by intro zz;trivial)]
 rw[Zu rfl];exact⟨RcAt.none_none,EqAt.same _,RcNeAt.none_none⟩;exact⟨RcAt.none_int j t,EqAt.none_int j t,RcNeAt.none_int j t⟩;exact⟨RcAt.none_str j t,EqAt.none_str j t,RcNeAt.none_str j t⟩;exact⟨RcAt.none_tuple B_ hu,EqAt.none_tuple B_ hu,RcNeAt.none_tuple B_ hu⟩;exact⟨RcAt.none_list B_ hu,EqAt.none_list B_ hu,RcNeAt.none_list B_ hu⟩;exact⟨RcAt.int_none i t',EqAt.int_none i t',RcNeAt.int_none i t'⟩;have q:decide (D.int i=D.int j)=(i==j):=by rw[YL,Y_,Zw,D.int.injEq]
 rw[q];exact⟨RcAt.int_int i t' j t,EqAt.int_int i t' j t,RcNeAt.int_int i t' j t⟩;exact⟨RcAt.int_str i t' j t,EqAt.int_str i t' j t,RcNeAt.int_str i t' j t⟩;exact⟨RcAt.int_tuple i t' B_ hu,EqAt.int_tuple i t' B_ hu,RcNeAt.int_tuple i t' B_ hu⟩;exact⟨RcAt.int_list i t' B_ hu,EqAt.int_list i t' B_ hu,RcNeAt.int_list i t' B_ hu⟩;exact⟨RcAt.str_none i t',EqAt.str_none i t',RcNeAt.str_none i t'⟩;exact⟨RcAt.str_int i t' j t,EqAt.str_int i t' j t,RcNeAt.str_int i t' j t⟩;have q:decide (D.str i=D.str j)=(i==j):=by rw[YL,Y_,Zw,D.str.injEq]
 rw[q];exact⟨RcAt.str_str i t' j t,EqAt.str_str i t' j t,RcNeAt.str_str i t' j t⟩;exact⟨RcAt.str_tuple i t' B_ hu,EqAt.str_tuple i t' B_ hu,RcNeAt.str_tuple i t' B_ hu⟩;exact⟨RcAt.str_list i t' B_ hu,EqAt.str_list i t' B_ hu,RcNeAt.str_list i t' B_ hu⟩;exact⟨RcAt.tuple_none D_ hu,EqAt.tuple_none D_ hu,RcNeAt.tuple_none D_ hu⟩;exact⟨RcAt.tuple_int j t D_ hu,EqAt.tuple_int j t D_ hu,RcNeAt.tuple_int j t D_ hu⟩;exact⟨RcAt.tuple_str j t D_ hu,EqAt.tuple_str j t D_ hu,RcNeAt.tuple_str j t D_ hu⟩;cases z;have el:=BY I (A:=A.in1) (λd e x y u w h1 h2 h3 h4 h5 h6=>(ih k (Yl k) d e x y u w A.in1 h1 h2 (by show A.units+1+k+1<cLine;lia) h3 h4 h5 h6).2.1) z_ LU hr JW rv Me;have l1:=hr.length;have l2:=rv.length;have l3:=JW.length;have l4:=Me.length;have key:((List.range (min its.toArray.size ka.toArray.size)).all (λj=>decide (ds[j]?=es[j]?))&&its.toArray.size==ka.toArray.size)=decide (D.tup ds=D.tup es):=by
  rw[ZT,ZT,<-l2,<-l4,<-l1,<-l3,jt];simp only[D.tup.injEq]
 have rc:=RcAt.tuples D_ B_ hu el;have rn:=RcNeAt.tuples D_ B_ hu el;rw[key]at rc rn;refine⟨rc,?_,rn⟩;by_cases IP:a=b;subst IP;obtain rfl:=I.aaW hp hq;have:=M1.inj I z_ LU hr JW;subst this;rw[Zu rfl];exact EqAt.same _;exact EqAt.of_refs IP rc;exact⟨RcAt.tuple_list D_ B_ hu,EqAt.tuple_list D_ B_ hu,RcNeAt.tuple_list D_ B_ hu⟩;exact⟨RcAt.list_none D_ hu,EqAt.list_none D_ hu,RcNeAt.list_none D_ hu⟩;exact⟨RcAt.list_int j t D_ hu,EqAt.list_int j t D_ hu,RcNeAt.list_int j t D_ hu⟩;exact⟨RcAt.list_str j t D_ hu,EqAt.list_str j t D_ hu,RcNeAt.list_str j t D_ hu⟩;exact⟨RcAt.list_tuple D_ B_ hu,EqAt.list_tuple D_ B_ hu,RcNeAt.list_tuple D_ B_ hu⟩;cases z;have el:=BY I (A:=A.in1) (λd e x y u w h1 h2 h3 h4 h5 h6=>(ih k (Yl k) d e x y u w A.in1 h1 h2 (by show A.units+1+k+1<cLine;lia) h3 h4 h5 h6).2.1) z_ LU hr JW rv Me;have l1:=hr.length;have l2:=rv.length;have l3:=JW.length;have l4:=Me.length;by_cases hsz:its.toArray.size=ka.toArray.size;have key:((List.range its.toArray.size).all (λj=>decide (ds[j]?=es[j]?)))=decide (D.lst ds=D.lst es):=by
  have hl:ds.length=es.length:=by simp only[ZT]at hsz;lia
  rw[ZT,<-l2,<-l1,fz _ _ hl];simp only[D.lst.injEq]
 have rc:=RcAt.lists D_ B_ hsz hu el;have rn:=RcNeAt.lists D_ B_ hsz hu el;rw[key]at rc rn;refine⟨rc,?_,rn⟩;by_cases IP:a=b;subst IP;obtain rfl:=I.aaN hp hq;have:=M1.inj I z_ LU hr JW;subst this;rw[Zu rfl];exact EqAt.same _;exact EqAt.of_refs IP rc;have y_:¬D.lst ds=D.lst es:=λz=>hsz (by
  cases z;simp only[ZT];lia)
 have hb:(its.toArray.size != ka.toArray.size)=L:=by simpa using hsz
 rw[ZD y_];have rc:=RcAt.lists_lengths D_ B_ hb hu;refine⟨rc,?_,RcNeAt.lists_lengths D_ B_ hb hu⟩;have IP:a≠b:=λz=>by
  subst z;obtain rfl:=I.aaN hp hq;exact hsz (by simp only[ZT];lia)
 exact EqAt.of_refs IP rc
end
section
variable{X:Cx}{a:Expr}
def ok2(x y:D):Bool:=okD 16 x&&okD 16 y
def eqO(x y:Z8 D):Z8 Bool:=match x,y with|some d,some e=>if ok2 d e=L then U (decide (d=e)) else M|_,_=>M
set_option tactic.hygienic true in
def d6(h:eqO x y=U c):∃d e,x=U d/\y=U e/\okD 16 d=L/\okD 16 e=L/\c=decide (d=e):=by
 unfold eqO at h;split at h;rename_i d e;by_cases q:ok2 d e=L;rw[ZO q]at h;obtain rfl:=Z7 h;unfold ok2 at q;rw[ZK]at q;exact⟨d,e,rfl,rfl,q.1,q.2,rfl⟩;rw[ZJ q]at h;trivial;trivial
def neO(x y:Z8 D):Z8 Bool:=g8 (eqO x y)
def rD(K:Z6)(g:D->D->Bool):R2:=λx y H Q=>∃B B' d e,okD 16 d=L/\okD 16 e=L/\Rep K B H d x/\Rep K B' H e y/\Q (.bl (g d e)) H
def xK(hu:X.A.units+64<cLine):OpR X (compareOp .Eq) (rD X.K λd e=>decide (d=e)):=by
 intro pins s σ H x y v u Q I rx ry h;obtain⟨B,B',d,e,hd,he,r1,r2,q⟩:=h;exact(Bl I 16 d e x y v u X.A hd he (by lia) r1 r2 rx ry).1 X.prog X.w X.xe _ ⟨.bl _,H,I,rfl,q⟩
def tZ(hu:X.A.units+64<cLine):OpR X (compareOp .NotEq) (rD X.K λd e=>!decide (d=e)):=by
 intro pins s σ H x y v u Q I rx ry h;obtain⟨B,B',d,e,hd,he,r1,r2,q⟩:=h;exact(Bl I 16 d e x y v u X.A hd he (by lia) r1 r2 rx ry).2.2 X.prog X.w X.xe _ ⟨.bl _,H,I,rfl,q⟩
theorem Fq(hu:X.A.units+64<cLine)(ha:DE X m a fa)(hb:DE X m' b fb):DE X mm (.Compare a [.Eq] [b] pos) (λO=>ofB (eqO (fa O) (fb O))):=
 (m6 (xK hu) ha hb (lm _)).imp λσ H Q hz=>by
  obtain⟨B,Hk,O,d,R,e,k⟩:=hz;cases q:eqO (fa O) (fb O)with
  |none=>simp only[q,ofB]at e;trivial
  |some c=>
   simp only[q,ofB]at e;obtain rfl:=Z7 e;obtain⟨d1,d2,e1,e2,o1,o2,rfl⟩:=d6 q;exact two R e1 e2 λv u H' s R' r1 r2=>⟨_,_,d1,d2,o1,o2,r1,r2,k _ H' s (by simp only[Rep])⟩
theorem EU(hu:X.A.units+64<cLine)(ha:DE X m a fa)(hb:DE X m' b fb):DE X mm (.Compare a [.NotEq] [b] pos) (λO=>ofB (neO (fa O) (fb O))):=
 (m6 (tZ hu) ha hb (lm _)).imp λσ H Q hz=>by
  obtain⟨B,Hk,O,d,R,e,k⟩:=hz;cases q:eqO (fa O) (fb O)with
  |none=>simp only[q,ofB,neO,g8]at e;trivial
  |some c=>
   simp only[q,ofB,neO,g8]at e;obtain rfl:=Z7 e;obtain⟨d1,d2,e1,e2,o1,o2,rfl⟩:=d6 q;exact two R e1 e2 λv u H' s R' r1 r2=>⟨_,_,d1,d2,o1,o2,r1,r2,k _ H' s (by simp only[Rep])⟩
theorem E7(hu:X.A.units+64<cLine)(ha:DE X m a fa)(hb:DE X m' b fb):DT X (.Compare a [.Eq] [b] pos) (λO=>eqO (fa O) (fb O)):=
 (cq (xK hu) ha hb (lm _)).imp λσ H Q hz=>by
  obtain⟨B,Hk,O,d,R,q,k⟩:=hz;obtain⟨d1,d2,e1,e2,o1,o2,rfl⟩:=d6 q;exact two R e1 e2 λv u H' s R' r1 r2=>⟨_,_,d1,d2,o1,o2,r1,r2,_,rfl,k H' s⟩
theorem E5(hu:X.A.units+64<cLine)(ha:DE X m a fa)(hb:DE X m' b fb):DT X (.Compare a [.NotEq] [b] pos) (λO=>neO (fa O) (fb O)):=
 (cq (tZ hu) ha hb (lm _)).imp λσ H Q hz=>by
  obtain⟨B,Hk,O,d,R,e,k⟩:=hz;cases q:eqO (fa O) (fb O)with
  |none=>simp only[q,neO,g8]at e;trivial
  |some c=>
   simp only[q,neO,g8]at e;obtain rfl:=Z7 e;obtain⟨d1,d2,e1,e2,o1,o2,rfl⟩:=d6 q;exact two R e1 e2 λv u H' s R' r1 r2=>⟨_,_,d1,d2,o1,o2,r1,r2,_,rfl,k H' s⟩
def aT:D->Z8 (Z9 D)
 |.lst ds=>U ds
 |.tup ds=>U ds
 |_=>M
noncomputable def inO(x y:Z8 D):Z8 Bool:=match x,y with|some d,some e=>(match aT e with|some es=>if(okD 16 d&&es.all (okD 16))=L then U (decide (d∈es)) else M|none=>M)|_,_=>M
set_option tactic.hygienic true in
def i6(h:inO x y=U c):∃d e es,x=U d/\y=U e/\aT e=U es/\okD 16 d=L/\es.all (okD 16)=L/\c=decide (d∈es):=by
 unfold inO at h;split at h;rename_i d e;split at h;rename_i es he;by_cases q:(okD 16 d&&es.all (okD 16))=L;rw[ZO q]at h;obtain rfl:=Z7 h;rw[ZK]at q;exact⟨d,e,es,rfl,rfl,he,q.1,q.2,rfl⟩;rw[ZJ q]at h;trivial;trivial;trivial
def bu(x y:Z8 D):Z8 Bool:=g8 (inO x y)
def Rep.items{K:Z6}{B:ZM->Prop}{H:Hp}{e:D}{es:Z9 D}{y:V}(r:Rep K B H e y)(h:aT e=U es):∃p xs,y=.ref p/\(SqL K H p xs\/SqT K H p xs)/\M1 K B H es xs:=by
 cases e with
 |lst ds=>simp only[aT]at h;obtain rfl:=Z7 h;simp only[Rep]at r;obtain⟨a,xs,e,hq,hr⟩:=r;exact⟨a,xs,e,.inl hq.sq,hr⟩
 |tup ds=>simp only[aT]at h;obtain rfl:=Z7 h;simp only[Rep]at r;obtain⟨a,xs,e,hq,hr⟩:=r;exact⟨a,xs,e,.inr (SqT.of hq),hr⟩
 |_=>simp[aT]at h
open Classical in
def vL(hu:X.A.units+64<cLine)(I:Inv X pins σ H s)(hd:okD 16 d=L)(he:es.all (okD 16)=L)(r1:Rep X.K B H d x)(r2:M1 X.K B' H es xs)(rx:RelV x v)(rv:aab xs its):∃e:Z3->Bool,(∀y,y∈its.toArray->SeqAt.EqAt X.A.in1 s y v (e y))/\its.toArray.any e=decide (d∈es):=by
 have one:∀j u,its[j]?=U u->∃d' x',es[j]?=U d'/\okD 16 d'=L/\Rep X.K B' H d' x'/\RelV x' u:=λj u hj=>by
  have hl:=rv.length;have j_:j<xs.length:=by rw[hl];exact(ZP.mp hj).1
  obtain⟨u',Jb,ru⟩:=rv.get (i:=j) (x:=xs[j]) (by simp[j_]);rw[hj]at Jb;obtain rfl:=Z7 Jb;obtain⟨d',z_,Jh⟩:=r2.get' (i:=j) (x:=xs[j]) (by simp[j_]);exact⟨d',xs[j],z_,(ZX.mp he) d' (Zg z_),Jh,ru⟩
 refine⟨λu=>decide (∃d' x',okD 16 d'=L/\Rep X.K B' H d' x'/\RelV x' u/\d'=d),λu Jb=>?_,?_⟩;obtain⟨j,hj⟩:=X0 (show u∈its by simpa using Jb);obtain⟨d',x',_,o',Jh,ru⟩:=one j u hj;have q:=(Bl I 16 d' d x' x u v X.A.in1 o' hd (by show X.A.units+1+16+1<cLine;lia) Jh r1 ru rx).2.1;have key:decide (∃d' x',okD 16 d'=L/\Rep X.K B' H d' x'/\RelV x' u/\d'=d)=decide (d'=d):=by
  rw[YL,Y_,Y_];constructor
  rintro⟨d2,x2,o2,NR,NP,e2⟩
  rw[<-e2];have ex:=ru.inj NP;subst ex;exact Rep.inj I o' o2 Jh NR;intro e2;exact⟨d',x',o',Jh,ru,e2⟩
 show SeqAt.EqAt X.A.in1 s u v (decide (∃d' x',okD 16 d'=L/\Rep X.K B' H d' x'/\RelV x' u/\d'=d));rw[key];exact q;rw[YL,Y_,Array.any_eq_true];constructor
 rintro⟨j,hj,h⟩
 have h':=Zo h;obtain⟨d2,x2,o2,NR,NP,e2⟩:=h';have NF:its[j]?=U its.toArray[j]:=by
  simp only[ZT]at hj;simp[hj]
 obtain⟨d',x',z_,o',Jh,ru⟩:=one j _ NF;have ex:=ru.inj NP;subst ex;have:=Rep.inj I o' o2 Jh NR;subst this;rw[<-e2];exact Zg z_;intro h;obtain⟨j,hj⟩:=X0 h;obtain⟨y,hy,ry⟩:=r2.get hj;obtain⟨u,Jb,ru⟩:=rv.get hy;obtain⟨j_,ge⟩:=ZP.mp Jb;refine⟨j,by simpa using j_,Zu ⟨d,y,hd,ry,?_,rfl⟩⟩;simpa[ge]using ru
noncomputable def Fw(K:Z6)(neg:Bool):R2:=λx y H Q=>∃B B' d e es,aT e=U es/\okD 16 d=L/\es.all (okD 16)=L/\Rep K B H d x/\Rep K B' H e y/\Q (.bl (if neg then !decide (d∈es) else decide (d∈es))) H
def yd(hu:X.A.units+64<cLine):OpR X (compareOp .In) (Fw X.K Y):=by
 intro pins s σ H x y v u Q I rx ry h;obtain⟨B,B',d,e,es,hi,hd,he,r1,r2,q⟩:=h;obtain⟨p,xs,rfl,hq,rs⟩:=r2.items hi;cases ry;rcases hq with hq|hq;obtain⟨its,r,pl,hz⟩:=I.list hq;obtain⟨g,g1,g2⟩:=vL hu I hd he r1 rs rx r;exact SeqAt.in_listAt g pl.isList g1 ⟨.bl _,H,I,rfl,by rw[g2];exact q⟩;obtain⟨its,r,pl,hz⟩:=I.tuple hq;obtain⟨g,g1,g2⟩:=vL hu I hd he r1 rs rx r;exact SeqAt.in_tupleAt g pl g1 ⟨.bl _,H,I,rfl,by rw[g2];exact q⟩
def sC(hu:X.A.units+64<cLine):OpR X (compareOp .NotIn) (Fw X.K L):=by
 intro pins s σ H x y v u Q I rx ry h;obtain⟨B,B',d,e,es,hi,hd,he,r1,r2,q⟩:=h;obtain⟨p,xs,rfl,hq,rs⟩:=r2.items hi;cases ry;rcases hq with hq|hq;obtain⟨its,r,pl,hz⟩:=I.list hq;obtain⟨g,g1,g2⟩:=vL hu I hd he r1 rs rx r;exact SeqAt.notIn_listAt g pl.isList g1 ⟨.bl _,H,I,rfl,by rw[g2];exact q⟩;obtain⟨its,r,pl,hz⟩:=I.tuple hq;obtain⟨g,g1,g2⟩:=vL hu I hd he r1 rs rx r;exact SeqAt.notIn_tupleAt g pl g1 ⟨.bl _,H,I,rfl,by rw[g2];exact q⟩
theorem Ec(hu:X.A.units+64<cLine)(ha:DE X m a fa)(hb:DE X m' b fb)(hm:behindInMarks .In b=Y:=by rfl):DT X (.Compare a [.In] [b] pos) (λO=>inO (fa O) (fb O)):=
 (cq (yd hu) ha hb hm).imp λσ H Q hz=>by
  obtain⟨B,Hk,O,d,R,q,k⟩:=hz;obtain⟨d1,d2,es,e1,e2,hi,o1,o2,rfl⟩:=i6 q;exact two R e1 e2 λv u H' s R' r1 r2=>⟨_,_,d1,d2,es,hi,o1,o2,r1,r2,_,rfl,k H' s⟩
theorem vH(hu:X.A.units+64<cLine)(ha:DE X m a fa)(hb:DE X m' b fb)(hm:behindInMarks .NotIn b=Y:=by rfl):DT X (.Compare a [.NotIn] [b] pos) (λO=>bu (fa O) (fb O)):=
 (cq (sC hu) ha hb hm).imp λσ H Q hz=>by
  obtain⟨B,Hk,O,d,R,e,k⟩:=hz;cases q:inO (fa O) (fb O)with
  |none=>simp only[q,bu,g8]at e;trivial
  |some c=>
   simp only[q,bu,g8]at e;obtain rfl:=Z7 e;obtain⟨d1,d2,es,e1,e2,hi,o1,o2,rfl⟩:=i6 q;exact two R e1 e2 λv u H' s R' r1 r2=>⟨_,_,d1,d2,es,hi,o1,o2,r1,r2,_,rfl,k H' s⟩
theorem Fe(hu:X.A.units+64<cLine)(ha:DE X m a fa)(hb:DE X m' b fb)(hm:behindInMarks .In b=Y:=by rfl):DE X mm (.Compare a [.In] [b] pos) (λO=>ofB (inO (fa O) (fb O))):=
 (m6 (yd hu) ha hb hm).imp λσ H Q hz=>by
  obtain⟨B,Hk,O,d,R,e,k⟩:=hz;cases q:inO (fa O) (fb O)with
  |none=>simp only[q,ofB]at e;trivial
  |some c=>
   simp only[q,ofB]at e;obtain rfl:=Z7 e;obtain⟨d1,d2,es,e1,e2,hi,o1,o2,rfl⟩:=i6 q;exact two R e1 e2 λv u H' s R' r1 r2=>⟨_,_,d1,d2,es,hi,o1,o2,r1,r2,k _ H' s (by simp only[Rep];rfl)⟩
end
section
variable{X:Cx}{m m':Bool}{a b:Expr}{fa fb:Mk->Z8 D}{pos:Pos}
noncomputable def ixO(x y:Z8 D):Z8 D:=match x,y with|some d,some (.int i)=>(match aT d with|some ds=>atI ds i|none=>M)|_,_=>M
set_option tactic.hygienic true in
def wm(h:ixO x y=U d):∃e i es,x=U e/\y=U (.int i)/\aT e=U es/\atI es i=U d:=by
 unfold ixO at h;split at h;rename_i e i;split at h;rename_i es he;exact⟨e,i,es,rfl,rfl,he,h⟩;trivial;trivial
theorem M1.atI{K:Z6}{B:ZM->Prop}{H:Hp}{ds:Z9 D}{xs:Z9 V}{i:Int}{d:D}(r:M1 K B H ds xs)(h:atI ds i=U d):∃x,atI xs i=U x/\Rep K B H d x:=by
 unfold L2.atI at h⊢;rw[r.length]at h;cases q:ixN xs.length i with
 |none=>rw[q]at h;trivial
 |some j=>
  rw[q]at h;exact r.get (i:=j) h
def wR{K:Z6}{B:ZM->Prop}{H:Hp}{e:D}{es:Z9 D}{y:V}{i:Int}{d:D}{Q:VK}(r:Rep K B H e y)(h:aT e=U es)(hi:atI es i=U d)(k:∀v,Rep K B H d v->Q v H):rIx K y (.int i) H Q:=by
 obtain⟨p,xs,rfl,hq,rs⟩:=r.items h;obtain⟨x,hx,rx⟩:=rs.atI hi;rcases hq with hq|hq;exact .inl ⟨p,xs,i,x,rfl,rfl,hq,hx,k x rx⟩;exact .inr (.inl ⟨p,xs,i,x,rfl,rfl,hq,hx,k x rx⟩)
theorem xG(ha:DE X m a fa)(hb:DE X m' b fb)(hs:gw b:=by exact λ_ _=>rfl):DE X m (.Subscript a b pos) (λq=>ixO (fa q) (fb q)):=
 (xo CK ha hb hs).imp λσ H Q hz=>by
  obtain⟨B,Hk,q,d,R,e,k⟩:=hz;obtain⟨d1,i,es,e1,e2,hi,hd⟩:=wm e;refine two R e1 e2 λv u H' s R' r1 r2=>?_;simp only[Rep]at r2;subst r2;exact wR r1 hi hd λv rv=>k v H' s rv
noncomputable def vg(x y:Z8 D):Z8 D:=match x,y with|some (.str z),some (.int i)=>if z.length<=lim then(match atI z.cps.toList i with|some c=>U (.str ⟨#[c]⟩)|none=>M) else M|_,_=>M
set_option tactic.hygienic true in
def uJ(h:vg x y=U d):∃z i c,x=U (.str z)/\y=U (.int i)/\z.length<=lim/\atI z.cps.toList i=U c/\d=.str ⟨#[c]⟩:=by
 unfold vg at h;split at h;rename_i z i;by_cases q:z.length<=lim;rw[ZO q]at h;split at h;rename_i c hc;cases h;exact⟨z,i,c,rfl,rfl,q,hc,rfl⟩;trivial;rw[ZJ q]at h;trivial;trivial
theorem Cj(ha:DE X m a fa)(hb:DE X m' b fb)(hs:gw b:=by exact λ_ _=>rfl):DE X mm (.Subscript a b pos) (λq=>vg (fa q) (fb q)):=
 (xo xZ ha hb hs).imp λσ H Q hz=>by
  obtain⟨B,Hk,q,d,R,e,k⟩:=hz;obtain⟨z,i,c,e1,e2,hl,hc,rfl⟩:=uJ e;refine two R e1 e2 λv u H' s R' r1 r2=>?_;simp only[Rep]at r1 r2;subst r1 r2;exact⟨z,i,c,rfl,rfl,aJ hl,hc,k _ H' s (by simp only[Rep])⟩
noncomputable def DP(x:Z8 D):Z8 D:=match x with|some d=>(match aT d with|some ds=>U (.int ds.length)|none=>(match d with|.str z=>if z.length<=lim then U (.int z.length) else M|_=>M))|none=>M
def mq(x:Z8 D):Z8 D:=match x with|some d=>(match aT d with|some ds=>U (.int ds.length)|none=>M)|none=>M
set_option tactic.hygienic true in
def ud(h:mq x=U d):∃e es,x=U e/\aT e=U es/\d=.int es.length:=by
 unfold mq at h;split at h;rename_i e;split at h;rename_i es he;cases h;exact⟨e,es,rfl,he,rfl⟩;trivial;trivial
def pW{K:Z6}{σ:St}{H:Hp}{B:ZM->Prop}{Hk:Hp}{q:Mk}{d:D}{P:Z9 V->Hp->Prop}(R:Rel K B Hk q σ H)(e:fa q=U d)
  (k:∀v H',aad H H'->Rel K B Hk q σ H'->Rep K (ba m B q σ) H' d v->P [v] H'):pJ (tM K m fa) ab0 σ H P:=
 ⟨B,Hk,q,d,R,e,λv H1 s1 r1=>k v H1 s1 (R.to s1) r1⟩
def B2(g:Gl X "len")(hm:X.mg "len"=M)(ha:DE X m a fa)(hs:starEach [a] X.env=[(Y,eval a X.env)]:=by rfl)(JE:((Str.ofString "len")==("__debug__":Str))=Y:=by decide):DE X mm (.Call (.Name "len" p) [a] [] pos) (λq=>mq (fa q)):=
 (dU kJ g hm PySem.boot_len (ay ha aQ hs) (he:=hs)).imp λσ H Q hz=>by
  obtain⟨B,Hk,q,d,R,e,k⟩:=hz;obtain⟨d1,es,e1,hi,rfl⟩:=ud e;refine pW R e1 λv H' s R' r=>?_;obtain⟨p,xs,rfl,hq,rs⟩:=r.items hi;exact⟨p,xs,rfl,hq,k _ H' s (by simp only[Rep,rs.length])⟩
theorem Inv.frz(I:Inv X pins σ H s)(h:H p=U u)(mu:Mut (U u)):∃o,Inv X pins σ (upd H p (.frz o u)) s:=by
 have NB:=I.hok p u h;have j_:=NB.lt;have Si:Mut (H p):=by rw[h];exact mu
 have Mi:∃o,s.heap.get? p=U o:=by
  cases u with
  |lst xs=>obtain⟨_,_,_,_,e⟩:=NB;exact⟨_,e⟩
  |tup xs=>exact mu.elim
  |dK kvs=>obtain⟨_,_,_,_,o,_,_,e,_⟩:=NB;exact⟨_,e⟩
  |dD kvs ep=>obtain⟨_,_,_,_,o,_,e,_⟩:=NB;exact⟨_,e⟩
  |own y=>exact mu.elim
  |rng lo hi=>exact mu.elim
  |frz ob u=>exact mu.elim
  |tbl lq ps=>exact mu.elim
  |ext φ=>obtain⟨_,⟨_,e⟩,_⟩:=NB;exact⟨_,e⟩
 obtain⟨o,ho⟩:=Mi;refine⟨o,?_⟩;have KG:∀c y,H c=U (.own y)->c≠p:=λc y r z=>by subst z;rw[h]at r;cases r;exact mu
 have MN:∀c xs,H c=U (.tup xs)->c≠p:=λc xs r z=>by subst z;rw[h]at r;cases r;exact mu
 have new:aam X.prog X.w (upd H p (.frz o u)) s.heap p (.frz o u):=⟨ho,NB.abl (λb v _ q=>q) (λb q=>by rw[ai (KG b p q)];exact q) λb xs q=>by rw[ai (MN b xs q)];exact q⟩
 exact I.un (t':=s.toks) (Un.write Si (.inl rfl) (λb v _ q=>q) ⟨o,ho⟩) (I.hok.write Si (.inl rfl) (λb v _ q=>q) ⟨o,ho⟩ new)
def ObR.mut{K:Z6}{B:ZM->Prop}{H:Hp}{d:D}{p:ZM}(h:ObR K B H d p):∃u,H p=U u/\Mut (U u):=by
 cases d with
 |lst ds=>obtain⟨xs,h1,h2⟩:=h;exact⟨_,h1,trivial⟩
 |dK ks ds=>obtain⟨xs,h1,h0,h2⟩:=h;exact⟨_,h1,trivial⟩
 |dD ks ds=>obtain⟨xs,⟨ep,h1⟩,h0,h2⟩:=h;exact⟨_,h1,trivial⟩
 |_=>exact(show False from h).elim
def bZ(h:H p=U u)(mu:Mut (U u))(hb:¬B p):Ext B H (upd H p o):=
 ⟨λc xs r=>by rw[ai (λz=>by subst z;rw[h]at r;cases r;exact mu)];exact r,λc x y r=>by rw[ai (λz=>by subst z;rw[h]at r;cases r;exact mu)];exact r,
  λc r=>by rw[ai (λz=>by subst z;exact hb r)]⟩
def ObR.frozen{K:Z6}{B B':ZM->Prop}{H:Hp}{d:D}{p:ZM}{u:HO}{o:Obj}(h:ObR K B H d p)(hu:H p=U u)(hb:¬B p)(hs:∀a,B a->B' a):Rep K B' (upd H p (.frz o u)) d (.ref p):=by
 obtain⟨u',e,mu⟩:=h.mut;rw[hu]at e;cases e;have ex:Ext B H (upd H p (.frz o u)):=bZ hu mu hb;cases d with
 |lst ds=>
  obtain⟨xs,h1,h2⟩:=h;rw[hu]at h1;cases h1;simp only[Rep];exact⟨p,xs,rfl,.inr (.inl ⟨o,ah⟩),(h2.ext ex).more hs⟩
 |dK ks ds=>
  obtain⟨xs,h1,h0,h2⟩:=h;rw[hu]at h1;cases h1;simp only[Rep];exact⟨p,xs,rfl,.inr ⟨o,ah⟩,h0,(h2.ext ex).more hs⟩
 |dD ks ds=>
  obtain⟨xs,⟨ep,h1⟩,h0,h2⟩:=h;rw[hu]at h1;cases h1;simp only[Rep];exact⟨p,xs,rfl,⟨ep,.inr ⟨o,ah⟩⟩,h0,(h2.ext ex).more hs⟩
 |_=>exact(show False from h).elim
theorem DF.share(h:DF X a fa):DE X m a fa:=by
 intro pins s σ H Q I hq;obtain⟨B,Hk,q,d,R,e,k⟩:=hq;have h1:=h pins s σ H (λv H'=>∃p,v=.ref p/\aad H H'/\H p=M/\ObR X.K B H' d p) I ⟨B,Hk,q,d,R,e,λp H' s n ob=>⟨p,rfl,s,n,ob⟩⟩;refine thn h1 λu s1 hz=>?_;obtain⟨v,H1,I1,rv,p,ev,sm,hn,ob⟩:=hz;subst ev;obtain⟨u',hu,mu⟩:=ob.mut;obtain⟨o,I2⟩:=I1.frz hu mu;have hb:¬B p:=λz=>by
  obtain⟨o',e'⟩:=R.abx p z;rw[hn]at e';trivial
 refine⟨.ref p,_,I2,rv,k _ _ (sm.put hn) (ob.frozen hu hb λa h=>jj m a h)⟩
end
def acw(K:Z6)(B:ZM->Prop)(Hk H:Hp)(d:D)(v:V):Prop:=match d with
 |.lst es=>∃b xs,v=.ref b/\Hk b=M/\H b=U (.lst xs)/\M1 K B H es xs
 |d=>Rep K B H d v
def abH(K:Z6)(B:ZM->Prop)(Hk H:Hp):Z9 D->Z9 V->Prop
 |[],vs=>vs=[]
 |d::ds,vs=>∃x r,vs=x::r/\acw K B Hk H d x/\abH K B Hk H ds r
def Ip(K:Z6)(B:ZM->Prop)(Hk H:Hp)(d:D)(v:V):Prop:=match d with
 |.tup ds=>∃a vs,v=.ref a/\H a=U (.tup vs)/\abH K B Hk H ds vs
 |_=>False
def FD(K:Z6)(B:ZM->Prop)(Hk H:Hp)(d:D)(v:V):Prop:=Rep K B H d v\/∃es b xs,d=.lst es/\v=.ref b/\Hk b=M/\H b=U (.lst xs)/\M1 K B H es xs
def aa8(K:Z6)(B:ZM->Prop)(Hk H:Hp):Z9 D->Z9 V->Prop
 |[],vs=>vs=[]
 |d::ds,vs=>∃x r,vs=x::r/\FD K B Hk H d x/\aa8 K B Hk H ds r
def acw.m{K:Z6}{B:ZM->Prop}{Hk H:Hp}{d:D}{v:V}(h:acw K B Hk H d v):FD K B Hk H d v:=by
 cases d with
 |lst es=>obtain⟨b,xs,h1,h2,h3,h4⟩:=h;exact .inr ⟨es,b,xs,rfl,h1,h2,h3,h4⟩
 |_=>exact .inl h
theorem abH.m{K:Z6}{B:ZM->Prop}{Hk H:Hp}:∀{ds:Z9 D}{vs:Z9 V},abH K B Hk H ds vs->aa8 K B Hk H ds vs
 |[],vs,h=>h
 |d::ds,vs,h=>by obtain⟨x,r,e,h1,h2⟩:=h;exact⟨x,r,e,h1.m,abH.m h2⟩
theorem aa8.ab_{K:Z6}{B:ZM->Prop}{Hk H:Hp}{b:ZM}{xs:Z9 V}{o:Obj}(hx:H b=U (.lst xs))(ex:Ext B H (upd H b (.frz o (.lst xs)))):∀{ds:Z9 D}{vs:Z9 V},aa8 K B Hk H ds vs->aa8 K B Hk (upd H b (.frz o (.lst xs))) ds vs
 |[],vs,h=>h
 |d::ds,vs,h=>by
  obtain⟨x,r,e,h1,h2⟩:=h;refine⟨x,r,e,?_,aa8.ab_ hx ex h2⟩;rcases h1 with h1|⟨es,b',xs',rfl,rfl,n,Jj,rs⟩;exact .inl (h1.ext ex);by_cases q:b'=b;subst q;rw[hx]at Jj;cases Jj;refine .inl ?_;simp only[Rep];exact⟨b',xs,rfl,.inr (.inl ⟨o,ah⟩),rs.ext ex⟩;exact .inr ⟨es,b',xs',rfl,rfl,n,by rw[ai q];exact Jj,rs.ext ex⟩
theorem EC(hB:∀a,B a->∃o:HOn,Hk a=U o.1):∀(ds:Z9 D)(vs:Z9 V)(H:Hp),Inv X pins σ H s->aa8 X.K B Hk H ds vs->
  ∃H',Inv X pins σ H' s/\Ext B H H'/\(∀c o o',Hk c=U o'->H c=U o->H' c=U o)/\M1 X.K B H' ds vs
 |[],vs,H,I,h=>⟨H,I,Ext.refl,λ_ _ _ _ q=>q,by rw[show vs=[] from h];exact M1.nil⟩
 |d::ds,vs,H,I,h=>by
  obtain⟨x,r,rfl,h1,h2⟩:=h;rcases h1 with h1|⟨es,b,xs,rfl,rfl,n,hb,rs⟩;obtain⟨H',I',e',k',r'⟩:=EC hB ds r H I h2;exact⟨H',I',e',k',M1.cons (h1.ext e') r'⟩;obtain⟨o,I1⟩:=I.frz hb trivial;have nb:¬B b:=λz=>by obtain⟨o',q⟩:=hB b z;rw[n]at q;trivial
  have ex:Ext B H (upd H b (.frz o (.lst xs))):=bZ hb trivial nb;obtain⟨H',I',e',k',r'⟩:=EC hB ds r _ I1 (aa8.ab_ hb ex h2);refine⟨H',I',ex.trans e',λc o' o2 q1 q2=>k' c o' o2 q1 (by rw[ai (av q1 n)];exact q2),M1.cons (Rep.ext e' ?_) r'⟩;simp only[Rep];exact⟨b,xs,rfl,.inr (.inl ⟨o,ah⟩),rs.ext ex⟩
def oh(K:Z6)(B:ZM->Prop)(Hk H':Hp)(d:D)(fr:Bool)(v:V):Prop:=if fr=L then(∃a,v=.ref a/\Hk a=M/\ObR K B H' d a)\/Ip K B Hk H' d v else Rep K B H' d v
noncomputable def spM(K:Z6)(f:Z9 D->Z8 (D×Bool)):Sp:=λvs H Q _=>∃B ds r fr,(∀a,B a->∃o:HOn,H a=U o.1)/\M1 K B H ds vs/\f ds=U (r,fr)/\∀v H',aad H H'->oh K B H H' r fr v->Q v H'
structure FnM (P:Y0)(w:YM)(K:Z6)(mg:Str->Z8 Z3)(base:Heap)(k:Nat)(x:Str)(f:List D->Z8 (D×Bool)):Prop where
 ex:∃(p:ZM)(fd:FuncData)(ps:List Str),abj P w K mg base CX0 k p fd ps (spM K f)/\mg x=some (.ref p)/\W.keepIn K (.ref p)=true/\Binds K fd ps []
def ae{q O:Type}(x:Z8 q)(f:q->Z8 O):Z8 O:=match x with|some a=>f a|none=>M
def ak{q O:Type}{x:Z8 q}{f:q->Z8 O}{b:O}(h:ae x f=U b):∃a,x=U a/\f a=U b:=by
 cases x with
 |none=>trivial
 |some a=>exact⟨a,rfl,h⟩
def shO(x:Z8 (D×Bool)):Z8 D:=match x with|some (d,_)=>U d|none=>M
def frO(x:Z8 (D×Bool)):Z8 D:=match x with|some (.tup _,true)=>M|some (d,true)=>U d|_=>M
def flO(x:Z8 (D×Bool)):Z8 D:=match x with|some (.lst ds,true)=>if D.aaG ds=L then U (.lst ds) else M|_=>M
section
variable{X:Cx}{a:Expr}
def mv(F:FnM X.prog X.w X.K X.mg X.base k x f)(hr:aaq k X.A)(hg:Gl X x)(ha:DA X m (e::es) fs)(Kz:(x==("__debug__":Str))=Y)(he:starEach (e::es) X.env=(Y,eval e X.env)::starEach es X.env)(q_:(backTo pos (starEach es X.env)).any (·.1)=Y):
  PE X (.Call (.Name x p) (e::es) [] pos) (λσ H Q=>∃B Hk O ds r fr,Rel X.K B Hk O σ H/\fs O=U ds/\f ds=U (r,fr)/\∀v H1 H',aad H H1->aad H1 H'->oh X.K (ba m B O σ) H1 H' r fr v->Q v H'):=by
 obtain⟨q,fd,ps,h1,h2,h3,h4⟩:=F.ex;refine(zA (ds:=[]) (dvs:=[]) h1 hr hg h2 h3 h4 .nil EQ ha Kz he q_).imp λσ H Q hz=>?_;obtain⟨B,Hk,O,ds,r,fr,R,e1,e2,kk⟩:=hz;refine⟨B,Hk,O,ds,R,e1,λvs H1 s1 rs=>?_⟩;show spM X.K f (vs++[]) H1 Q E0;rw[YX];exact⟨ba m B O σ,ds,r,fr,(R.to s1).bsH m,rs,e2,λv H' s2 rr=>kk v H1 H' s1 s2 rr⟩
def Ai(F:FnM X.prog X.w X.K X.mg X.base k x f)(hr:aaq k X.A)(hg:Gl X x)(ha:DA X Y (e::es) fs)(Kz:(x==("__debug__":Str))=Y:=by decide)(he:starEach (e::es) X.env=(Y,eval e X.env)::starEach es X.env:=by rfl)
  (q_:(backTo pos (starEach es X.env)).any (·.1)=Y:=by rfl):DF X (.Call (.Name x p) (e::es) [] pos) (λO=>frO (ae (fs O) f)):=
 (mv F hr hg ha Kz he q_).imp λσ H Q hz=>by
  obtain⟨B,Hk,O,d,R,e,kk⟩:=hz;cases q:ae (fs O) f with
  |none=>simp only[q,frO]at e;trivial
  |some p=>
   obtain⟨d',fr⟩:=p;obtain⟨ds,e1,e2⟩:=ak q;cases fr with
   |false=>cases d'<;>simp only[q,frO]at e<;>trivial
   |true=>
    have hd:d'=d/\∀ts,d≠.tup ts:=by
     cases d' with
     |tup ts=>simp only[q,frO]at e;trivial
     |_=>simp only[q,frO]at e;cases e;exact⟨rfl,λts z=>by cases z⟩
    obtain⟨rfl,nt⟩:=hd;refine⟨B,Hk,O,ds,_,_,R,e1,e2,λv H1 H' s1 s2 rr=>?_⟩;unfold oh at rr;rw[ZO rfl]at rr;rcases rr with⟨a,rfl,n,ob⟩|rt;exact kk a H' (s1.trans s2) (s1.free n) ob;cases d' with
    |tup ts=>exact(nt ts rfl).elim
    |_=>exact(show False from rt).elim
set_option tactic.hygienic true in
def wq(F:FnM X.prog X.w X.K X.mg X.base k x f)(hr:aaq k X.A)(hg:Gl X x)(ha:DA X L (e::es) fs)(Kz:(x==("__debug__":Str))=Y:=by decide)(he:starEach (e::es) X.env=(Y,eval e X.env)::starEach es X.env:=by rfl)
  (q_:(backTo pos (starEach es X.env)).any (·.1)=Y:=by rfl):DF X (.Call (.Name x p) (e::es) [] pos) (λO=>flO (ae (fs O) f)):=
 (mv F hr hg ha Kz he q_).imp λσ H Q hz=>by
  obtain⟨B,Hk,O,d,R,e,kk⟩:=hz;unfold flO at e;dsimp only at e;split at e;rename_i ls q;by_cases fl:D.aaG ls=L;rw[ZO fl]at e;cases e;obtain⟨ds,e1,e2⟩:=ak q;refine⟨B,Hk,O,ds,_,_,R,e1,e2,λv H1 H' s1 s2 rr=>?_⟩;unfold oh at rr;rw[ZO rfl]at rr;rcases rr with⟨a,rfl,n,xs,hx,rs⟩|rt;exact kk a H' (s1.trans s2) (s1.free n) ⟨xs,hx,M1.flat fl rs⟩;exact(show False from rt).elim;rw[ZJ fl]at e;trivial;trivial
set_option tactic.hygienic true in
def Ao(F:FnM X.prog X.w X.K X.mg X.base k x f)(hr:aaq k X.A)(hg:Gl X x)(ha:DA X m (e::es) fs)(Kz:(x==("__debug__":Str))=Y:=by decide)(he:starEach (e::es) X.env=(Y,eval e X.env)::starEach es X.env:=by rfl)
  (q_:(backTo pos (starEach es X.env)).any (·.1)=Y:=by rfl):DE X m (.Call (.Name x p) (e::es) [] pos) (λO=>shO (ae (fs O) f)):=by
 intro pins s σ H Q I hq;obtain⟨B,Hk,O,d,R,e,kk⟩:=hq;unfold shO at e;dsimp only at e;split at e
 .rename_i d' fr q
  cases e;obtain⟨ds,e1,e2⟩:=ak q;have h1:=mv (p:=p) F hr hg ha Kz he q_ pins s σ H (λv H'=>∃H1,aad H H1/\aad H1 H'/\oh X.K (ba m B O σ) H1 H' d fr v) I ⟨B,Hk,O,ds,d,fr,R,e1,e2,λv H1 H' s1 s2 rr=>⟨H1,s1,s2,rr⟩⟩;refine thn h1 λu s1 hz=>?_;obtain⟨v,H',I1,rv,H1,NO,Md,rr⟩:=hz;cases fr with
  |false=>
   unfold oh at rr;rw[ZJ Zl]at rr;exact⟨v,H',I1,rv,kk v H' (NO.trans Md) rr⟩
  |true=>
   unfold oh at rr;rw[ZO rfl]at rr;rcases rr with⟨p,rfl,n,ob⟩|rt
   rotate_left
   cases d with
   |tup ts=>
    obtain⟨a,vs,rfl,V0,rs⟩:=rt;obtain⟨H2,I2,e2,k2,r2⟩:=EC (B:=ba m B O σ) (Hk:=H1) (λc z=>by obtain⟨o',e'⟩:=R.bsH m c z;exact⟨o',NO c o' e'⟩) ts vs H' I1 rs.m;refine⟨.ref a,H2,I2,rv,kk _ _ (NO.trans (Md.keep k2)) ?_⟩;simp only[Rep];exact⟨a,vs,rfl,e2.aaZ _ _ V0,r2⟩
   |_=>exact(show False from rt).elim
   obtain⟨u',hu,mu⟩:=ob.mut;obtain⟨o,I2⟩:=I1.frz hu mu;have hb:¬ba m B O σ p:=λz=>by
    obtain⟨o',e'⟩:=R.bsH m p z;have:=NO p o' e';rw[n]at this;trivial
   refine⟨.ref p,_,I2,rv,kk _ _ (NO.trans (Md.put n)) (ob.frozen hu hb λa h=>h)⟩
 trivial
end
inductive Out where
 |next (δ:Mk)|ret (d:D) (fr:Bool)|brk (δ:Mk)|cont (δ:Mk)
def acj(K:Z6)(B:ZM->Prop)(Hk H:Hp)(Dn:Ends):Out->Prop
 |.next q=>∀h_ H',Ext B H H'->Rel K B Hk q h_ H'->Dn.nx h_ H'
 |.brk q=>∀h_ H',Ext B H H'->Rel K B Hk q h_ H'->Dn.bk h_ H'
 |.cont q=>∀h_ H',Ext B H H'->Rel K B Hk q h_ H'->Dn.ct h_ H'
 |.ret d fr=>∀v H',Ext B H H'->aad Hk H'->oh K B Hk H' d fr v->Dn.rt v H'
def tD(K:Z6)(g:Mk->Z8 Out):TS:=λDn σ H=>∃B Hk q o,Rel K B Hk q σ H/\g q=U o/\acj K B Hk H Dn o
abbrev DS(X:Cx)(st:Stmt)(g:Mk->Z8 Out):Prop:=PS X st (tD X.K g)
abbrev DSs(X:Cx)(PY:Z9 Stmt)(g:Mk->Z8 Out):Prop:=PSs X PY (tD X.K g)
def acj.ext{K:Z6}{B:ZM->Prop}{Hk H H1:Hp}{Dn:Ends}{o:Out}(h:acj K B Hk H Dn o)(e:Ext B H H1):acj K B Hk H1 Dn o:=by
 cases o with
 |next q=>exact λh_ H' x r=>h h_ H' (e.trans x) r
 |brk q=>exact λh_ H' x r=>h h_ H' (e.trans x) r
 |cont q=>exact λh_ H' x r=>h h_ H' (e.trans x) r
 |ret d fr=>exact λv H' x r=>h v H' (e.trans x) r
def aaz(q:Mk):Z8 Out:=U (.next q)
def aG(x:Z8 Out)(k:Mk->Z8 Out):Z8 Out:=match x with|some (.next q)=>k q|o=>o
section
variable{X:Cx}{a b e:Expr}{fa:Mk->Z8 D}{pos p:Pos}{st:Stmt}{aq:Z9 Stmt}{g1 g2:Mk->Z8 Out}
theorem AY:DSs X [] aaz:=AJ.imp λDn σ H hz=>by
 obtain⟨B,Hk,q,o,R,e,k⟩:=hz;cases e;exact k σ H Ext.refl R
theorem dW(h1:DS X st g1)(h2:DSs X aq g2):DSs X (st::aq) (λO=>aG (g1 O) g2):=
 (bV h1 h2).imp λDn σ H hz=>by
  obtain⟨B,Hk,O,o,R,e,k⟩:=hz;cases q:g1 O with
  |none=>simp only[q,aG]at e;trivial
  |some o1=>
   cases o1 with
   |next x_=>
    simp only[q,aG]at e;exact⟨B,Hk,O,_,R,q,λh_ H' x R'=>⟨B,Hk,x_,o,R',e,k.ext x⟩⟩
   |brk x_=>simp only[q,aG]at e;cases e;exact⟨B,Hk,O,_,R,q,k⟩
   |cont x_=>simp only[q,aG]at e;cases e;exact⟨B,Hk,O,_,R,q,k⟩
   |ret d fr=>simp only[q,aG]at e;cases e;exact⟨B,Hk,O,_,R,q,k⟩
theorem mi(h1:DS X st g1):DSs X [st] g1:=mZ h1
def ifO(c:Z8 Bool)(x y:Z8 Out):Z8 Out:=match c with|some true=>x|some false=>y|none=>M
theorem Rel.ext{K:Z6}{B:ZM->Prop}{Hk H H':Hp}{q:Mk}{σ:St}(R:Rel K B Hk q σ H)(s:aad H H'):Ext B H H':=s.ext R.abx
theorem EH(hc:DT X c fc)(ha:DSs X x g1)(hb:DSs X y g2):DS X (.If c x y pos) (λO=>ifO (fc O) (g1 O) (g2 O)):=
 (B5 hc ha hb).imp λDn σ H hz=>by
  obtain⟨B,Hk,O,o,R,e,k⟩:=hz;unfold ifO at e;dsimp only at e;split at e;rename_i q;exact⟨B,Hk,O,L,R,q,λH1 s1=>zG ⟨B,Hk,O,o,R.to s1,e,k.ext (R.ext s1)⟩⟩;rename_i q;exact⟨B,Hk,O,Y,R,q,λH1 s1=>Aw ⟨B,Hk,O,o,R.to s1,e,k.ext (R.ext s1)⟩⟩;trivial
theorem Rel.set{K:Z6}{B:ZM->Prop}{Hk H:Hp}{O:Mk}{σ:St}{i:Nat}{d:D}{v:V}(R:Rel K B Hk O σ H)(hi:i<σ.length)(r:Rep K B H d v):Rel K B Hk (O.set i (U (d,Y))) (σ.set i (U v)) H:=by
 have k_:i<O.length:=by rw[R.len];exact hi
 refine⟨R.same,R.bor,by simpa using R.len,λj e h=>?_,λj e h=>?_,λj k e f q K7 h1 h2 h3 h4=>?_⟩;by_cases hj:j=i;subst hj;rw[ZG k_]at h;cases h;exact⟨v,by rw[ZG hi],r⟩;rw[ZL (Zy hj)]at h;rw[ZL (Zy hj)];exact R.var j e h;by_cases hj:j=i;subst hj;rw[ZG k_]at h;cases h;rw[ZL (Zy hj)]at h;rw[ZL (Zy hj)];exact R.own j e h;have nj:j≠i:=λz=>by subst z;rw[ZG k_]at h1;cases h1
 have nk:k≠i:=λz=>by subst z;rw[ZG k_]at h2;cases h2
 rw[ZL (Zy nj)]at h1 h3;rw[ZL (Zy nk)]at h2 h4;exact R.dis j k e f q K7 h1 h2 h3 h4
def Rel.abJ{K:Z6}{B:ZM->Prop}{Hk H:Hp}{O:Mk}{σ:St}{i:Nat}{d:D}{a:ZM}(R:Rel K B Hk O σ H)(hi:i<σ.length)(hk:Hk a=M)(ob:ObR K B H d a)
  (ho:∀(j:Nat) e,j≠i->O[j]?=U (U (e,L))->σ[j]?≠U (U (.ref a))):Rel K B Hk (O.set i (U (d,L))) (σ.set i (U (.ref a))) H:=by
 have k_:i<O.length:=by rw[R.len];exact hi
 refine⟨R.same,R.bor,by simpa using R.len,λj e h=>?_,λj e h=>?_,λj k e f q K7 h1 h2 h3 h4=>?_⟩;by_cases hj:j=i;subst hj;rw[ZG k_]at h;cases h;rw[ZL (Zy hj)]at h;rw[ZL (Zy hj)];exact R.var j e h;by_cases hj:j=i;subst hj;rw[ZG k_]at h;cases h;exact⟨a,by rw[ZG hi],hk,ob⟩;rw[ZL (Zy hj)]at h;rw[ZL (Zy hj)];exact R.own j e h;by_cases nj:j=i;subst nj;have nk:k≠j:=λz=>K7 z.symm;rw[ZG hi]at h3;cases h3;rw[ZL (Zy nk)]at h2 h4;exact ho k f nk h2 h4;rw[ZL (Zy nj)]at h1 h3;by_cases nk:k=i;subst nk;rw[ZG hi]at h4;cases h4;exact ho j e nj h1 h3;rw[ZL (Zy nk)]at h2 h4;exact R.dis j k e f q K7 h1 h2 h3 h4
def bx(i:Nat)(x:Z8 D)(q:Mk):Z8 Out:=match x with|some d=>if i<q.length then U (.next (q.set i (U (d,Y)))) else M|none=>M
def eM(i:Nat)(x:Z8 D)(q:Mk):Z8 Out:=match x with|some d=>if i<q.length then U (.next (q.set i (U (d,L)))) else M|none=>M
def uO(h:bx i x O=U o):∃d,x=U d/\i<O.length/\o=.next (O.set i (U (d,Y))):=by
 unfold bx at h;split at h;rename_i d;by_cases q:i<O.length;rw[ZO q]at h;cases h;exact⟨d,rfl,q,rfl⟩;rw[ZJ q]at h;trivial;trivial
def lL(h:eM i x O=U o):∃d,x=U d/\i<O.length/\o=.next (O.set i (U (d,L))):=by
 unfold eM at h;split at h;rename_i d;by_cases q:i<O.length;rw[ZO q]at h;cases h;exact⟨d,rfl,q,rfl⟩;rw[ZJ q]at h;trivial;trivial
def zq{i:Nat}{Dn:Ends}{σ:St}{H:Hp}(h:tD X.K (λq=>bx i (fa q) q) Dn σ H):A4 (tM X.K Y fa) (gY i) Dn σ H:=by
 obtain⟨B,Hk,q,o,R,e,k⟩:=h;obtain⟨d,e1,hi,rfl⟩:=uO e;exact⟨B,Hk,q,d,R,e1,λv H' s r=>k _ H' (R.ext s) ((R.to s).set (by rw[<-R.len];exact hi) r)⟩
def xv{i:Nat}{Dn:Ends}{σ:St}{H:Hp}(h:tD X.K (λq=>eM i (fa q) q) Dn σ H):A4 (tF X.K fa) (gY i) Dn σ H:=by
 obtain⟨B,Hk,q,o,R,e,k⟩:=h;obtain⟨d,e1,hi,rfl⟩:=lL e;refine⟨B,Hk,q,d,R,e1,λa H' s n ob=>k _ H' (R.ext s) ((R.to s).abJ (by rw[<-R.len];exact hi) (R.same.free n) ob λj e hj h1 h2=>?_)⟩;obtain⟨b,h3,_,Mu⟩:=R.own j e h1;rw[h2]at h3;cases h3;obtain⟨o,e'⟩:=Mu.there;rw[n]at e';trivial
def C5(hN:X.N.Nodup)(ha:DE X Y a fa)(hi:X.N[i]?=U x:=by rfl)(hx:Loc X.env.scope x:=by first|exact Or.inl rfl|exact Or.inr rfl)(hs:swapsWith a (U (.Name x pos')) pos.line X.env=pure Y:=by rfl)(hf:X.fn x=L\/X.env.scope.names.lookup x=U .local:=by first|exact .inl rfl|exact .inr rfl):DS X (.Assign [.Name x pos'] a pos) (λq=>bx i (fa q) q):=
 (iq hN hi hx ha hs hf).imp λDn σ H h=>zq h
def A5(hN:X.N.Nodup)(ha:DF X a fa)(hi:X.N[i]?=U x:=by rfl)(hx:Loc X.env.scope x:=by first|exact Or.inl rfl|exact Or.inr rfl)(hs:swapsWith a (U (.Name x pos')) pos.line X.env=pure Y:=by rfl)(hf:X.fn x=L\/X.env.scope.names.lookup x=U .local:=by first|exact .inl rfl|exact .inr rfl):DS X (.Assign [.Name x pos'] a pos) (λq=>eM i (fa q) q):=
 (iq hN hi hx ha hs hf).imp λDn σ H h=>xv h
def d9(x:Z8 D):Z8 Out:=match x with|some d=>U (.ret d Y)|none=>M
def dJ(x:Z8 D):Z8 Out:=match x with|some d=>U (.ret d L)|none=>M
theorem BP(ha:DE X Y a fa):DS X (.Return (U a) pos) (λO=>d9 (fa O)):=
 (n8 ha).imp λDn σ H hz=>by
  obtain⟨B,Hk,O,o,R,e,k⟩:=hz;cases q:fa O with
  |none=>simp only[q,d9]at e;trivial
  |some d=>
   simp only[q,d9]at e;cases e;exact⟨B,Hk,O,d,R,q,λv H' s r=>k v H' (R.ext s) (R.same.trans s) (by unfold oh;rw[ZJ Zl];exact r)⟩
theorem zp(ha:DF X a fa):DS X (.Return (U a) pos) (λO=>dJ (fa O)):=
 (n8 ha).imp λDn σ H hz=>by
  obtain⟨B,Hk,O,o,R,e,k⟩:=hz;cases q:fa O with
  |none=>simp only[q,dJ]at e;trivial
  |some d=>
   simp only[q,dJ]at e;cases e;exact⟨B,Hk,O,d,R,q,λp H' s n ob=>k (.ref p) H' (R.ext s) (R.same.trans s) (by unfold oh;rw[ZO rfl];exact .inl ⟨p,rfl,R.same.free n,ob⟩)⟩
def ca(i:Nat)(q:Mk):Z8 D:=match q[i]? with|some (some (d,true))=>U d|_=>M
def cf(h:ca i q=U d):q[i]?=U (U (d,L)):=by
 unfold ca at h;split at h;rename_i d' e;cases h;exact e;trivial
def Bk(hN:X.N[i]?=U x:=by rfl)(hv:Vis X.env.scope x:=by first|exact Or.inl rfl|exact Or.inr (Or.inl rfl)|exact Or.inr (Or.inr rfl))(hd:(x==("__debug__":Str))=Y:=by decide)(Ja:(x==("__classdict__":Str))=Y:=by decide):
  DS X (.Return (U (.Name x px)) pos) (λO=>dJ (ca i O)):=
 (n8 (bF hN hv hd Ja)).imp λDn σ H hz=>by
  obtain⟨B,Hk,O,o,R,e,k⟩:=hz;cases q:ca i O with
  |none=>simp only[q,dJ]at e;trivial
  |some d=>
   simp only[q,dJ]at e;cases e;obtain⟨p,h1,h2,h3⟩:=R.own i d (cf q);exact⟨.ref p,h1,k (.ref p) H Ext.refl R.same (by unfold oh;rw[ZO rfl];exact .inl ⟨p,rfl,h2,h3⟩)⟩
def Rel.abK{K:Z6}{B:ZM->Prop}{Hk H:Hp}{O:Mk}{σ:St}{i:Nat}{ds ds':Z9 D}{l:ZM}{xs xs':Z9 V}(R:Rel K B Hk O σ H)(h:O[i]?=U (U (.lst ds,L)))(hl:σ[i]?=U (U (.ref l)))(hx:H l=U (.lst xs))(r:M1 K B H ds' xs'):
  Ext B H (upd H l (.lst xs'))/\Rel K B Hk (O.set i (U (.lst ds',L))) σ (upd H l (.lst xs')):=by
 obtain⟨a,e1,e2,ys,e3,_⟩:=R.own i _ h;rw[hl]at e1;cases e1;have hb:¬B l:=λz=>by obtain⟨o,q⟩:=R.bor l z;rw[e2]at q;trivial
 have ex:Ext B H (upd H l (.lst xs')):=bZ hx trivial hb;have k_:i<O.length:=(ZP.mp h).1;refine⟨ex,⟨R.same.put e2,R.bor,by simpa using R.len,λj e q=>?_,λj e q=>?_,λj k e f q K7 h1 h2 h3 h4=>?_⟩⟩;by_cases hj:j=i;subst hj;rw[ZG k_]at q;cases q;rw[ZL (Zy hj)]at q;obtain⟨v,q1,q2⟩:=R.var j e q;exact⟨v,q1,q2.ext ex⟩;by_cases hj:j=i;subst hj;rw[ZG k_]at q;cases q;exact⟨l,hl,e2,xs',ah,r.ext ex⟩;rw[ZL (Zy hj)]at q;obtain⟨c,q1,q2,q3⟩:=R.own j e q;have hc:c≠l:=λz=>by subst z;exact R.dis j i e _ c hj q h q1 hl
 exact⟨c,q1,q2,q3.ext ex λo q _=>by rw[ai hc];exact q⟩;have Li:∃e',O[j]?=U (U (e',L)):=by
  by_cases hj:j=i;subst hj;exact⟨_,h⟩;rw[ZL (Zy hj)]at h1;exact⟨_,h1⟩
 have J4:∃e',O[k]?=U (U (e',L)):=by
  by_cases hj:k=i;subst hj;exact⟨_,h⟩;rw[ZL (Zy hj)]at h2;exact⟨_,h2⟩
 obtain⟨e',Li⟩:=Li;obtain⟨f',J4⟩:=J4;exact R.dis j k e' f' q K7 Li J4 h3 h4
noncomputable def jv(i:Nat)(x:Z8 D)(q:Mk):Z8 Out:=match ca i q,x with|some (.lst ds),some d=>if ds.length<lim then U (.next (q.set i (U (.lst (ds++[d]),L)))) else M|_,_=>M
set_option tactic.hygienic true in
def sK(h:jv i x O=U o):∃ds d,O[i]?=U (U (.lst ds,L))/\x=U d/\ds.length<lim/\o=.next (O.set i (U (.lst (ds++[d]),L))):=by
 unfold jv at h;split at h;rename_i ds d q;by_cases hl:ds.length<lim;rw[ZO hl]at h;cases h;exact⟨ds,d,cf q,rfl,hl,rfl⟩;rw[ZJ hl]at h;trivial;trivial
def uq{i:Nat}{x:Str}{px apos i_:Pos}(ha:DE X Y a fa)(hN:X.N[i]?=U x:=by rfl)(hv:Vis X.env.scope x:=by first|exact Or.inl rfl|exact Or.inr (Or.inl rfl)|exact Or.inr (Or.inr rfl))
  (mc:Mc X.env (.Name x px) "append" a [] apos i_)(hd:(x==("__debug__":Str))=Y:=by decide)(Ja:(x==("__classdict__":Str))=Y:=by decide)
  (Ku:swapsWith (.Call (.Attribute (.Name x px) "append" apos) [a] [] i_) M pos.line X.env=pure Y:=by rfl):DS X (.Expr (.Call (.Attribute (.Name x px) "append" apos) [a] [] i_) pos) (λq=>jv i (fa q) q):=
 (mW (pQ Xo F.slot_list_append F.type_list_append k7 (bF hN hv hd Ja) (ay ha aQ mc.s) mc) Ku).imp λDn σ H hz=>by
  obtain⟨B,Hk,q,o,R,e,k⟩:=hz;obtain⟨ds,d,h1,e1,hl,rfl⟩:=sK e;obtain⟨l,h2,h3,xs,h4,h5⟩:=R.own i _ h1;refine⟨.ref l,h2,.inl ⟨rfl,xs,SqL.of h4⟩,pW R e1 λv H' s R' r=>?_⟩;have LJ:=s l _ h4;have Q0:M1 X.K B H' ds xs:=h5.ext (R.ext s);obtain⟨x1,x2⟩:=R'.abK (ds':=ds++[d]) (xs':=xs++[v]) h1 h2 LJ (Q0.append (M1.cons r M1.nil));exact⟨l,xs,v,rfl,rfl,LJ,by rw[<-h5.length];exact ZA hl (aJ (ZU _)),k σ _ ((R.ext s).trans x1) x2⟩
def aaK(i:Nat)(q:Mk):Mk:=match q[i]? with|some (some (d,true))=>q.set i (U (d,Y))|_=>q
theorem Rel.aaK(i:Nat)(I:Inv X pins σ H s)(R:Rel X.K B Hk O σ H):∃H',Inv X pins σ H' s/\Ext B H H'/\Rel X.K B Hk (aaK i O) σ H':=by
 unfold L2.aaK;split;rename_i d h;obtain⟨a,e1,e2,ob⟩:=R.own i d h;obtain⟨u,hu,mu⟩:=ob.mut;obtain⟨o,I2⟩:=I.frz hu mu;have hb:¬B a:=λz=>by obtain⟨o,q⟩:=R.bor a z;rw[e2]at q;trivial
 have ex:Ext B H (upd H a (.frz o u)):=bZ hu mu hb;have k_:i<O.length:=(ZP.mp h).1;refine⟨_,I2,ex,⟨R.same.put e2,R.bor,by simpa using R.len,λj e q=>?_,λj e q=>?_,λj k e f q K7 h1 h2 h3 h4=>?_⟩⟩;by_cases hj:j=i;subst hj;rw[ZG k_]at q;cases q;exact⟨_,e1,ob.frozen hu hb λa h=>h⟩;rw[ZL (Zy hj)]at q;obtain⟨v,q1,q2⟩:=R.var j e q;exact⟨v,q1,q2.ext ex⟩;by_cases hj:j=i;subst hj;rw[ZG k_]at q;cases q;rw[ZL (Zy hj)]at q;obtain⟨c,q1,q2,q3⟩:=R.own j e q;have hc:c≠a:=λz=>by subst z;exact R.dis j i e _ c hj q h q1 e1
 exact⟨c,q1,q2,q3.ext ex λo q _=>by rw[ai hc];exact q⟩;have nj:j≠i:=λz=>by subst z;rw[ZG k_]at h1;cases h1
 have nk:k≠i:=λz=>by subst z;rw[ZG k_]at h2;cases h2
 rw[ZL (Zy nj)]at h1;rw[ZL (Zy nk)]at h2;exact R.dis j k e f q K7 h1 h2 h3 h4;exact⟨H,I,Ext.refl,R⟩
def Gf(i:Nat)(h:DS X st g):DS X st (λq=>g (aaK i q)):=by
 intro pins s σ H Dn I ⟨B,Hk,q,o,R,e,k⟩;obtain⟨H',I',x,R'⟩:=R.aaK i I;exact h pins s σ H' Dn I' ⟨B,Hk,_,o,R',e,k.ext x⟩
theorem zJ(i:Nat)(h:DSs X PY g):DSs X PY (λq=>g (aaK i q)):=by
 intro pins s σ H Dn I ⟨B,Hk,q,o,R,e,k⟩;obtain⟨H',I',x,R'⟩:=R.aaK i I;exact h pins s σ H' Dn I' ⟨B,Hk,_,o,R',e,k.ext x⟩
end
noncomputable def tG(K:Z6)(O:D->Mk->Z8 Mk):TG:=λv σ H Q=>∃B Hk q d d_,Rel K B Hk q σ H/\Rep K B H d v/\O d q=U d_/\∀h_,Rel K B Hk d_ h_ H->Q h_ H
noncomputable def tGs(K:Z6)(O:Z9 D->Mk->Z8 Mk):TGs:=λvs σ H Q=>∃B Hk q ds d_,Rel K B Hk q σ H/\M1 K B H ds vs/\O ds q=U d_/\∀h_,Rel K B Hk d_ h_ H->Q h_ H
abbrev DG(X:Cx)(tg:Expr)(q:D->Mk->Z8 Mk):Prop:=PG X tg (tG X.K q)
abbrev DGs(X:Cx)(tg:Z9 Expr)(q:Z9 D->Mk->Z8 Mk):Prop:=PGs X tg (tGs X.K q)
def af(i:Nat)(d:D)(q:Mk):Z8 Mk:=if i<q.length then U (q.set i (U (d,Y))) else M
def aan(ds:Z9 D)(q:Mk):Z8 Mk:=match ds with|[]=>U q|_=>M
def aj(q:D->Mk->Z8 Mk)(O:Z9 D->Mk->Z8 Mk)(ds:Z9 D)(Z:Mk):Z8 Mk:=match ds with|d::r=>ae (q d Z) (O r)|[]=>M
def be(q:Z9 D->Mk->Z8 Mk)(d:D)(O:Mk):Z8 Mk:=match d with|.tup ds=>q ds O|_=>M
def PG.imp(h:PG X tg t)(i:∀v σ H Q,t' v σ H Q->t v σ H Q):PG X tg t':=λpins s σ H v u Q I r q=>h pins s σ H v u Q I r (i v σ H Q q)
def PGs.imp(h:PGs X tg t)(i:∀v σ H Q,t' v σ H Q->t v σ H Q):PGs X tg t':=λpins s σ H v u Q I r q=>h pins s σ H v u Q I r (i v σ H Q q)
section
variable{X:Cx}
def zw(hN:X.N.Nodup)(hi:X.N[i]?=U x:=by rfl)(hx:Loc X.env.scope x:=by first|exact Or.inl rfl|exact Or.inr rfl)(hf:X.fn x=L\/X.env.scope.names.lookup x=U .local:=by first|exact .inl rfl|exact .inr rfl):DG X (.Name x pos) (af i):=
 (mI hN hi hx hf).imp λv σ H Q hz=>by
  obtain⟨B,Hk,O,d,d_,R,r,e,k⟩:=hz;unfold af at e;by_cases q:i<O.length;rw[ZO q]at e;obtain rfl:=Z7 e;exact k _ (R.set (by rw[<-R.len];exact q) r);rw[ZJ q]at e;trivial
theorem As:DGs X [] aan:=zU.imp λv σ H Q hz=>by
 obtain⟨B,Hk,q,ds,d_,R,r,e,k⟩:=hz;cases ds with
 |nil=>simp only[aan]at e;obtain rfl:=Z7 e;simp only[M1]at r;exact⟨r,k σ R⟩
 |cons d ds=>simp only[aan]at e;trivial
theorem wy(h1:DG X e q)(h2:DGs X es O)(hs:(assignEach (e::es) X.env).map (·.2)=assign e X.env::(assignEach es X.env).map (·.2):=by rfl):DGs X (e::es) (aj q O):=
 (vI h1 h2 hs).imp λv σ H Q hz=>by
  obtain⟨B,Hk,Z,ds,d_,R,r,e,k⟩:=hz;cases ds with
  |nil=>simp only[aj]at e;trivial
  |cons d ds=>
   simp only[aj]at e;obtain⟨x_,e1,e2⟩:=ak e;simp only[M1]at r;obtain⟨x,xs,rfl,r1,r2⟩:=r;exact⟨x,xs,rfl,B,Hk,Z,d,x_,R,r1,e1,λLK R1=>⟨B,Hk,x_,ds,d_,R1,r2,e2,k⟩⟩
def bN(h:∀ds q d_,O ds q=U d_->ds.length=n)(ds:Z9 D)(q d_:Mk)(e:aj Z O ds q=U d_):ds.length=n+1:=by
 cases ds with
 |nil=>simp only[aj]at e;trivial
 |cons d ds=>
  simp only[aj]at e;obtain⟨x_,_,e2⟩:=ak e;rw[cK,h _ _ _ e2]
def gg(ds:Z9 D)(q d_:Mk)(e:aan ds q=U d_):ds.length=0:=by
 cases ds with
 |nil=>rfl
 |cons d ds=>simp only[aan]at e;trivial
theorem BZ(hc:X.calm=L)(h:DGs X es O)(hl:∀ds q d_,O ds q=U d_->ds.length=n)(hn:(assignEach es X.env).length=n:=by rfl)(IF:(assignEach es X.env).findIdx? (·.1)=M:=by rfl):DG X (.Tuple es k pos) (be O):=
 (CS hc h hn IF).imp λv σ H Q hz=>by
  obtain⟨B,Hk,q,d,d_,R,r,e,k⟩:=hz;cases d with
  |tup ds=>
   simp only[be]at e;simp only[Rep]at r;obtain⟨a,xs,rfl,hq,rs⟩:=r;exact⟨a,xs,rfl,SqT.of hq,by rw[<-rs.length];exact hl _ _ _ e,B,Hk,q,ds,d_,R,rs,e,k⟩
  |_=>simp only[be]at e;trivial
end
def bf(q:Mk):Prop:=∀(i:Nat) d,q[i]?≠U (U (d,L))
structure abk (τ:D->Mk->Z8 Mk):Prop where
 new:∀d d' δ d_,τ d δ=some d_->τ d' d_=τ d' δ
 own:∀d δ d_,τ d δ=some d_->bf δ->bf d_
def gE(h:bf O):bf (O.set i (U (d,Y))):=λj e q=>by
 by_cases hj:i=j;subst hj;rw[List.getElem?_set]at q;simp at q;rw[ZL hj]at q;exact h j e q
def jd(i:Nat):∀d O d_,af i d O=U d_->bf O->bf d_:=λd O d_ h n=>by
 unfold af at h;by_cases q:i<O.length;rw[ZO q]at h;obtain rfl:=Z7 h;exact gE n;rw[ZJ q]at h;trivial
def zW:∀ds q d_,aan ds q=U d_->bf q->bf d_:=λds q d_ h n=>by
 cases ds with
 |nil=>simp only[aan]at h;obtain rfl:=Z7 h;exact n
 |cons d ds=>simp only[aan]at h;trivial
def nR(h1:∀d q d_,O d q=U d_->bf q->bf d_)(h2:∀ds q d_,Z ds q=U d_->bf q->bf d_):∀ds q d_,aj O Z ds q=U d_->bf q->bf d_:=λds q d_ h n=>by
 cases ds with
 |nil=>simp only[aj]at h;trivial
 |cons d ds=>
  simp only[aj]at h;obtain⟨x_,e1,e2⟩:=ak h;exact h2 _ _ _ e2 (h1 _ _ _ e1 n)
def Ak(h2:∀ds q d_,O ds q=U d_->bf q->bf d_):∀d q d_,be O d q=U d_->bf q->bf d_:=λd q d_ h n=>by
 cases d with
 |tup ds=>exact h2 ds q d_ h n
 |_=>simp only[be]at h;trivial
def gB(i:Nat):abk (af i):=abk.mk (own:=jd i)<|λd d' O d_ h=>by
 unfold af at h⊢;by_cases q:i<O.length;rw[ZO q]at h;obtain rfl:=Z7 h;rw[ZC,ZO q,ZO q,WB];rw[ZJ q]at h;trivial
def u8(i j:Nat)(K8:i≠j):abk (be (aj (af i) (aj (af j) aan))):=abk.mk (own:=Ak (nR (jd i) (nR (jd j) zW)))<|λd d' q d_ h=>by
 cases d with
 |tup ds=>
  cases ds with
  |nil=>simp only[be,aj]at h;trivial
  |cons a ds=>
   cases ds with
   |nil=>simp only[be,aj]at h;obtain⟨_,_,h⟩:=ak h;trivial
   |cons b ds=>
    cases ds with
    |cons c ds=>simp only[be,aj]at h;obtain⟨_,_,h⟩:=ak h;obtain⟨_,_,h⟩:=ak h;simp only[aan]at h;trivial
    |nil=>
     simp only[be,aj]at h;obtain⟨x_,h1,h⟩:=ak h;obtain⟨OR,h2,h⟩:=ak h;simp only[aan]at h;obtain rfl:=Z7 h;unfold af at h1;by_cases qi:i<q.length;rw[ZO qi]at h1;obtain rfl:=Z7 h1;unfold af at h2;by_cases qj:j<(q.set i (U (a,Y))).length;rw[ZO qj]at h2;obtain rfl:=Z7 h2;rw[ZC]at qj;cases d' with
     |tup es=>
      cases es with
      |nil=>rfl
      |cons a' es=>
       cases es with
       |nil=>
        simp only[be,aj,af,ZC];rw[ZO qi,ZO qi];rfl
       |cons b' es=>
        have e3:(((List.set q i (U (a,Y))).set j (U (b,Y))).set i (U (a',Y))).set j (U (b',Y))=(List.set q i (U (a',Y))).set j (U (b',Y)):=by
         rw[List.set_comm _ _ K8.symm,WB,WB]
        simp only[be,aj,af,ZC];rw[ZO qi,ZO qi];simp only[ae,aj,af,ZC];rw[ZO qj,ZO qj,e3]
     |_=>rfl
     rw[ZJ qj]at h2;trivial;rw[ZJ qi]at h1;trivial
 |_=>simp only[be]at h;trivial
def ItD(K:Z6)(B:ZM->Prop)(H1:Hp)(J:It)(ds:Z9 D):Prop:=∀H',Ext B H1 H'->J.stop ds.length H'/\∀(i:Nat) d,ds[i]?=U d->J.go i H'/\∀x KC,J.yld i H' x KC->aad H' KC/\Rep K B KC d x
noncomputable def tI(K:Z6)(m:Bool)(f:Mk->Z8 (Z9 D)):TI:=λσ H R=>∃B Hk q ds,Rel K B Hk q σ H/\f q=U ds/\∀J H1,aad H H1->ItD K (ba m B q σ) H1 J ds->R J H1
abbrev DI(X:Cx)(m:Bool)(tg iter:Expr)(f:Mk->Z8 (Z9 D)):Prop:=PI X tg iter (tI X.K m f)
def b9(x:Z8 D):Z8 (Z9 D):=match x with|some (.lst ds)=>U ds|_=>M
def yZ(x:Z8 D):Z8 (Z9 D):=match x with|some (.tup ds)=>U ds|_=>M
def kj(h:b9 x=U ds):x=U (.lst ds):=by
 unfold b9 at h;split at h;obtain rfl:=Z7 h;rfl;trivial
def lh(h:yZ x=U ds):x=U (.tup ds):=by
 unfold yZ at h;split at h;obtain rfl:=Z7 h;rfl;trivial
def fF(lo:Int)(n:Nat):Z9 D:=(List.range n).map λ(i:Nat)=>.int (lo+(i:Int))
section
variable{X:Cx}{m:Bool}{a tg:Expr}{fa:Mk->Z8 D}
theorem lV(h:DE X m a fa):DI X m tg a (λq=>b9 (fa q)):=
 (u0 h).imp λσ H Q hz=>by
  obtain⟨B,Hk,q,ds,R,e,k⟩:=hz;refine⟨B,Hk,q,_,R,kj e,λv H' s r=>?_⟩;simp only[Rep]at r;obtain⟨l,xs,rfl,hq,rs⟩:=r;refine⟨l,rfl,⟨xs,hq.sq⟩,k _ H' s λH2 x=>?_⟩;have LO:=hq.ext x;have Lf:=rs.ext x;refine⟨⟨xs,LO.sq,by rw[rs.length];exact ZU _⟩,λi d hd=>?_⟩;obtain⟨y,hy,ry⟩:=Lf.get hd;refine⟨⟨xs,y,LO.sq,hy⟩,λz H3 ⟨e3,hz⟩=>⟨by rw[e3];exact aad.refl _,?_⟩⟩;rw[e3];have:=hz xs LO.sq;rw[hy]at this;obtain rfl:=Z7 this;exact ry
theorem Bx(h:DE X m a fa):DI X m tg a (λq=>yZ (fa q)):=
 (BI h).imp λσ H Q hz=>by
  obtain⟨B,Hk,q,ds,R,e,k⟩:=hz;refine⟨B,Hk,q,_,R,lh e,λv H' s r=>?_⟩;simp only[Rep]at r;obtain⟨l,xs,rfl,hq,rs⟩:=r;refine⟨l,rfl,⟨xs,SqT.of hq⟩,k _ H' s λH2 x=>?_⟩;have LO:SqT X.K H2 l xs:=SqT.of (x.aaZ _ _ hq);have Lf:=rs.ext x;refine⟨⟨xs,LO,by rw[rs.length];exact ZU _⟩,λi d hd=>?_⟩;obtain⟨y,hy,ry⟩:=Lf.get hd;refine⟨⟨xs,y,LO,hy⟩,λz H3 ⟨e3,hz⟩=>⟨by rw[e3];exact aad.refl _,?_⟩⟩;rw[e3];have:=hz xs LO;rw[hy]at this;obtain rfl:=Z7 this;exact ry
def zm{K:Z6}{B:ZM->Prop}{H1:Hp}(lo:Int)(n:Nat):ItD K B H1 (Itr lo n) (fF lo n):=λH' x=>by
 refine⟨by show n<=(fF lo n).length;unfold fF;simp,λi d hd=>?_⟩;unfold fF at hd;rw[YQ]at hd;cases q:(List.range n)[i]? with
 |none=>rw[q]at hd;trivial
 |some j=>
  rw[q]at hd;obtain⟨hi,ej⟩:=ZP.mp q;rw[List.getElem_range]at ej;subst ej;rw[Xk]at hi;simp only[Option.map_some,ZE]at hd;subst hd;refine⟨hi,λz H3 ⟨e3,hz⟩=>⟨by rw[e3];exact aad.refl _,?_⟩⟩;simp only[Rep];exact hz
def oH(x:Z8 D):Z8 (Z9 D):=match x with|some (.int j)=>if(decide (-(2 ^ 62)<=j/\j<2 ^ 62))=L then U (fF 0 j.toNat) else M|_=>M
theorem Aq(g:Gl X "range")(hm:X.mg "range"=M)(h:DE X m a fa)(hs:starEach [a] X.env=[(Y,eval a X.env)]:=by rfl):DI X mm tg (.Call (.Name "range" p) [a] [] pos) (λO=>oH (fa O)):=
 (sv g hm (ay h aQ hs) hs).imp λσ H Q hz=>by
  obtain⟨B,Hk,O,ds,R,e,k⟩:=hz;unfold oH at e;dsimp only at e;split at e;rename_i j q;by_cases c:(decide (-(2 ^ 62)<=j/\j<2 ^ 62))=L;rw[ZO c]at e;obtain rfl:=Z7 e;have c':=Zo c;refine pW R q λv H' s R' r=>?_;simp only[Rep]at r;subst r;exact⟨j,rfl,c'.1,c'.2,k _ H' s (zm 0 _)⟩;rw[ZJ c]at e;trivial;trivial
end
noncomputable def aw(body:D->Mk->Z8 Out):Z9 D->Mk->Z8 Out
 |[],q=>U (.next q)
 |d::ds,q=>match body d q with
  |some (.next d_)=>aw body ds d_
  |some (.cont d_)=>aw body ds d_
  |some (.brk d_)=>U (.next d_)
  |some (.ret e fr)=>U (.ret e fr)
  |none=>M
section
variable{X:Cx}
theorem BA(hp:PassesOwn (model X.prog X.w) X.A X.env X.xe)(hc:X.calm=L)(hi:DI X Y tg iter fi)(hg:DG X tg Z)(hb:DSs X body gb)(hs:∀x,foldedSetIterable iter X.env x=pure x:=by intro _;rfl):
  DS X (.For tg iter body [] pos) (λO=>ae (fi O) λds=>aw (λd O=>ae (Z d O) gb) ds O):=
 (xQ hp hc hi hg hb hs).imp λDn σ H hz=>by
  obtain⟨B,Hk,O,o,R,e,k⟩:=hz;obtain⟨ds,e1,e2⟩:=ak e;refine⟨B,Hk,O,ds,R,e1,λJ H1 s1 it=>?_⟩;have Lg:ItD X.K B H1 J ds:=it;refine⟨λi n h_ H'=>n=ds.length - i/\i<=ds.length/\Ext B H1 H'/\∃d_,Rel X.K B Hk d_ h_ H'/\aw (λd O=>ae (Z d O) gb) (ds.drop i) d_=U o,
   ⟨ds.length,by simp,Zs _,Ext.refl,O,R.to s1,e2⟩,?_⟩
  intro i n h_ H' hz;obtain⟨rfl,hi,x,d_,R',e'⟩:=hz;obtain⟨IF,N5⟩:=Lg H' x;by_cases j_:i<ds.length
  .obtain⟨go,yl⟩:=N5 i ds[i] (by simp[j_])
   refine .inr ⟨go,λJo H2=>Ext B H1 H2/\∃OR,Rel X.K B Hk OR Jo H2/\aw (λd O=>ae (Z d O) gb) (ds.drop (i+1)) OR=U o,λJo H2 z=>⟨_,by lia,rfl,j_,z⟩,λv H2 hy=>?_⟩;obtain⟨sy,rv⟩:=yl v H2 hy;replace x:=x.trans (R'.ext sy);replace R':=R'.to sy;rw[Zn j_]at e';simp only[aw]at e';cases q:ae (Z ds[i] d_) gb with
   |none=>rw[q]at e';trivial
   |some o1=>
    rw[q]at e';obtain⟨x_,q1,q2⟩:=ak q;refine⟨B,Hk,d_,ds[i],x_,R',rv,q1,λJm R3=>⟨B,Hk,x_,o1,R3,q2,?_⟩⟩;have kx:=k.ext (R.ext s1);cases o1 with
    |next LL=>exact λMt H4 x4 R4=>⟨x.trans x4,LL,R4,e'⟩
    |cont LL=>exact λMt H4 x4 R4=>⟨x.trans x4,LL,R4,e'⟩
    |brk LL=>simp only at e';obtain rfl:=Z7 e';exact λMt H4 x4 R4=>kx Mt H4 (x.trans x4) R4
    |ret d fr=>simp only at e';obtain rfl:=Z7 e';exact λv4 H4 x4 R4=>kx v4 H4 (x.trans x4) R4
  have k_:i=ds.length:=by lia
  subst k_;rw[WI]at e';simp only[aw]at e';obtain rfl:=Z7 e';exact .inl ⟨IF,k h_ H' ((R.ext s1).trans x) R'⟩
end
noncomputable def bE(h:D->Z8 (Z8 D)):Z9 D->Z8 (Z9 D)
 |[]=>U []
 |d::ds=>match h d with
  |none=>M
  |some none=>bE h ds
  |some (some y)=>match bE h ds with
   |some l=>U (y::l)
   |none=>M
noncomputable def ax(bo:Bool)(bs:Z9 Bool)(q:Mk):Mk:=List.zipWith (λ(b:Bool) (o:Z8 (D×Bool))=>if b=L then(match o with|some (d,ow)=>if(ow&&!bo)=L then M else U (d,Y)|none=>M) else M) bs q
def cZ(h:(ax bo bs O)[i]?=U (U (d,ow))):bs[i]?=U L/\ow=Y/\rd bo i O=U d:=by
 unfold ax at h;rw[Xi]at h;cases e1:bs[i]? with
 |none=>rw[e1]at h;simp at h
 |some b=>
  cases e2:O[i]? with
  |none=>rw[e1,e2]at h;simp at h
  |some o=>
   rw[e1,e2]at h;simp only[ZE]at h;cases b with
   |false=>simp at h
   |true=>
    rw[ZO rfl]at h;cases o with
    |none=>trivial
    |some q=>
     obtain⟨d',UO⟩:=q;simp only at h;by_cases c:(UO&&!bo)=L;rw[ZO c]at h;trivial;rw[ZJ c]at h;cases h;exact⟨rfl,rfl,by unfold rd;rw[e2];simp only[ZJ c]⟩
def jW{K:Z6}{B:ZM->Prop}{Hk H:Hp}{q:Mk}{σ:St}{bo:Bool}{bs:Z9 Bool}(R:Rel K B Hk q σ H)(hl:bs.length=σ.length):Rel K (ba bo B q σ) H (ax bo bs q) (mask bs σ) H:=by
 refine⟨aad.refl H,R.bsH bo,?_,λi d h=>?_,λi d h=>?_,λi j d e a K8 h=>?_⟩;unfold ax;rw[Wf,dL hl,R.len,hl,Nat.min_self];obtain⟨h1,_,h3⟩:=cZ h;obtain⟨v,h4,h5⟩:=R.rd h3;refine⟨v,?_,h5⟩;unfold mask;rw[Xi,h1,h4];simp;obtain⟨_,h2,_⟩:=cZ h;trivial;obtain⟨_,h2,_⟩:=cZ h;trivial
def am(x:Z8 (Z9 D)):Z8 D:=match x with|some ds=>U (.lst ds)|none=>M
section
variable{X:Cx}{ifs:Z9 Expr}{bo:Bool}{fi:Mk->Z8 (Z9 D)}{τ:D->Mk->Z8 Mk}{ft:Mk->Z8 Bool}{fe:Mk->Z8 D}{bs:Z9 Bool}
abbrev DTs(X:Cx)(ifs:Z9 Expr)(f:Mk->Z8 Bool):Prop:=PTs X ifs (tMT X.K f)
theorem l6{X:Cx}:DTs X [] (λ_=>U L):=λpins s σ H Q I hz=>by obtain⟨B,Hk,q,d,R,e,k⟩:=hz;obtain rfl:=Z7 e;exact AL pins s σ H Q I (k H (aad.refl H))
theorem tK{X:Cx}{c:Expr}{f:Mk->Z8 Bool}(h:DT X c f):DTs X [c] f:=Bd h
noncomputable def aC(τ:D->Mk->Z8 Mk)(ft:Mk->Z8 Bool)(fe:Mk->Z8 D)(q:Mk)(d:D):Z8 (Z8 D):=ae (τ d q) λd_=>match ft d_ with|some true=>(match fe d_ with|some y=>U (U y)|none=>M)|some false=>U M|none=>M
noncomputable def bL(bo:Bool)(bs:Z9 Bool)(τ:D->Mk->Z8 Mk)(ft:Mk->Z8 Bool)(fe:Mk->Z8 D)(q:Mk)(ds:Z9 D):Z8 (Z9 D):=if ds.length<=lim then bE (aC τ ft fe (ax bo bs q)) ds else M
set_option tactic.hygienic true in
def vM{K:Z6}{σ:St}{H:Hp}{Q:VK}{te:TE}{J:Hp->Hp->D->V->Prop}{Js:Hp->ZM->Hp->Z9 D->Z9 V->Prop}(Kh:abk τ)(hl:bs.length=σ.length){B:ZM->Prop}{Hk:Hp}{O:Mk}{ds ls:Z9 D}(R:Rel K B Hk O σ H)(e1:fi O=U ds)(e2:bL bo bs τ ft fe O ds=U ls)
  (Vd:∀H1 x_ Jm H3 y,Rel K (ba bo B O σ) H1 x_ Jm H3->fe x_=U y->∀Q:VK,(∀v H4,aad H3 H4->J H3 H4 y v->Q v H4)->te Jm H3 Q) (h0:∀H1 acc H',Js H1 acc H' [] [])
  (h1:∀{H1 acc H' H2 l ys},Js H1 acc H' l ys->aad H' H2->Ext (ba bo B O σ) H' H2->Js H1 acc H2 l ys)
  (h2:∀{H1 acc H3 H4 l ys y v},aad H1 H3->H3 acc=U (.lst ys)->Js H1 acc H4 l ys->J H3 H4 y v->Ext (ba bo B O σ) H4 (upd H4 acc (.lst (ys++[v])))->Js H1 acc (upd H4 acc (.lst (ys++[v]))) (l++[y]) (ys++[v]))
  (k:∀H1 a H',aad H H1->aad H1 H'->H1 a=M->(∃xs,H' a=U (.lst xs)/\Js H1 a H' ls xs)->Q (.ref a) H'):tm (tI K bo fi) bs (tG K τ) (tMT K ft) te σ H Q:=by
 unfold bL at e2;by_cases G_:ds.length<=lim;rw[ZO G_]at e2;refine⟨B,Hk,O,ds,R,e1,λJ H1 s1 it acc t_=>?_⟩;have R1:=R.to s1;have nb:¬ba bo B O σ acc:=λz=>by obtain⟨o,q⟩:=R1.bsH bo acc z;rw[t_]at q;trivial
 have R2:Rel K (ba bo B O σ) H1 (ax bo bs O) (mask bs σ) (upd H1 acc (.lst [])):=(jW (bo:=bo) (bs:=bs) R1 hl).to (ar t_);have Qh:bf (ax bo bs O):=λj d h=>by obtain⟨_,h2,_⟩:=cZ h;trivial
 have x0:Ext (ba bo B O σ) H1 (upd H1 acc (.lst [])):=(ar t_).ext (R1.bsH bo);refine⟨λi n ys h_ H'=>n=ds.length - i/\i<=ds.length/\ys.length<=i/\H' acc=U (.lst ys)/\Ext (ba bo B O σ) H1 H'/\∃d_ l1 l2,Rel K (ba bo B O σ) H1 d_ h_ H'/\(∀d,τ d d_=τ d (ax bo bs O))/\bf d_/\ls=l1++l2/\Js H1 acc H' l1 ys/\bE (aC τ ft fe (ax bo bs O)) (ds.drop i)=U l2,
  ⟨ds.length,by simp,Zs _,ZU _,ah,x0,ax bo bs O,[],ls,R2,λ_=>rfl,Qh,rfl,h0 ..,e2⟩,?_⟩
 intro i n ys h_ H' hz;obtain⟨rfl,hi,Qs,ha,x,d_,l1,l2,R',z_,UT,NC,rs,ec⟩:=hz;refine⟨ha,?_⟩;obtain⟨IF,N5⟩:=it H' x;by_cases j_:i<ds.length;obtain⟨go,yl⟩:=N5 i ds[i] (by simp[j_]);refine .inr ⟨go,λv H2 hy=>?_⟩;obtain⟨sy,rv⟩:=yl v H2 hy;have xy:=R'.ext sy;replace ha:=sy acc _ ha;replace rs:=h1 rs sy xy;replace x:=x.trans xy;replace R':=R'.to sy;rw[Zn j_]at ec;simp only[bE]at ec;cases q:aC τ ft fe (ax bo bs O) ds[i]with
 |none=>rw[q]at ec;trivial
 |some oy=>
  rw[q]at ec;obtain⟨x_,q1,q2⟩:=ak q;have P8:τ ds[i] d_=U x_:=by rw[z_];exact q1
  have JE:∀d,τ d x_=τ d (ax bo bs O):=λd=>by rw[Kh.new _ d _ _ P8,z_ d]
  have Qf:bf x_:=Kh.own _ _ _ P8 UT;refine⟨_,H1,d_,ds[i],x_,R',rv,P8,λJm R3=>?_⟩;split at q2;rename_i qt;refine⟨_,H1,x_,L,R3,qt,λH3 s3=>zG ?_⟩;split at q2;rename_i y qe;obtain rfl:=Z7 q2;simp only at ec;cases qc:bE (aC τ ft fe (ax bo bs O)) (ds.drop (i+1))with
  |none=>rw[qc]at ec;trivial
  |some l3=>
   rw[qc]at ec;obtain rfl:=Z7 ec;refine Vd H1 x_ Jm H3 y (R3.to s3) qe _ λv4 H4 s4 r4=>?_;have O1:=s3.trans s4;have Th:H4 acc=U (.lst ys):=O1 acc _ ha;have x4:Ext (ba bo B O σ) H2 H4:=R3.ext O1;have x5:Ext (ba bo B O σ) H4 (upd H4 acc (.lst (ys++[v4]))):=bZ Th trivial nb;have R5:Rel K (ba bo B O σ) H1 x_ Jm (upd H4 acc (.lst (ys++[v4]))):=by
    have R4:=R3.to O1;refine⟨R4.same.put t_,R4.bor,R4.len,λj d h=>?_,λj d h=>(Qf j d h).elim,R4.dis⟩;obtain⟨v,h1,h2⟩:=R4.var j d h;exact⟨v,h1,h2.ext x5⟩
   exact⟨Th,by have:=aJ G_;lia,ds.length - (i+1),by lia,rfl,j_,by rw[Zz,List.length_singleton];lia,ah,x.trans (x4.trans x5),x_,l1++[y],l3,R5,JE,Qf,by rw[NC,Zd];rfl,h2 (R3.to s3).same (s3 acc _ ha) (h1 rs O1 x4) r4 x5,qc⟩
  trivial;rename_i qt;obtain rfl:=Z7 q2;refine⟨_,H1,x_,Y,R3,qt,λH3 s3=>Aw ?_⟩;exact⟨ds.length - (i+1),by lia,rfl,j_,by lia,s3 acc _ ha,x.trans (R3.ext s3),x_,l1,l2,R3.to s3,JE,Qf,NC,h1 rs s3 (R3.ext s3),ec⟩;trivial
 have k_:i=ds.length:=by lia
 subst k_;rw[WI]at ec;simp only[bE]at ec;obtain rfl:=Z7 ec;rw[YX]at NC;subst NC;exact .inl ⟨IF,k H1 acc H' s1 R'.same t_ ⟨ys,ha,rs⟩⟩;rw[ZJ G_]at e2;trivial
def j3{K:Z6}{σ:St}{H:Hp}{Q:VK}(Kh:abk τ)(hl:bs.length=σ.length){B:ZM->Prop}{Hk:Hp}{q:Mk}{ds ls:Z9 D}(R:Rel K B Hk q σ H)(e1:fi q=U ds)(e2:bL bo bs τ ft fe q ds=U ls)
  (k:∀a H',aad H H'->H a=M->(∃xs,H' a=U (.lst xs)/\M1 K (ba bo B q σ) H' ls xs)->Q (.ref a) H'):tm (tI K bo fi) bs (tG K τ) (tMT K ft) (tM K Y fe) σ H Q:=
 vM (J:=λ_ H y v=>Rep K (ba bo B q σ) H y v) (Js:=λ_ _ H l ys=>M1 K (ba bo B q σ) H l ys) Kh hl R e1 e2 (λH1 x_ Jm H3 y R3 qe Q kk=>⟨_,H1,x_,y,R3,qe,kk⟩) (λ_ _ _=>M1.nil) (λr _ x=>r.ext x) (λ_ _ r r4 x=>(r.ext x).append (M1.cons (r4.ext x) M1.nil)) λH1 a H' s1 s2 n ob=>k a H' (s1.trans s2) (s1.free n) ob
end
section
variable{X:Cx}{elt tg iter:Expr}{ifs:Z9 Expr}{scope:Scope}{pos:Pos}{fi:Mk->Z8 (Z9 D)}{τ:D->Mk->Z8 Mk}{ft:Mk->Z8 Bool}{fe:Mk->Z8 D}{bs:Z9 Bool}
def uT(hc:X.calm=L)(Kh:abk τ)(hi:DI X bo tg iter fi)(S:aag X scope bs)(hg:∀cl C a_ b_ ex pn,DG (aE X scope cl C a_ b_ ex pn) tg τ)(ht:∀cl C a_ b_ ex pn,DTs (aE X scope cl C a_ b_ ex pn) ifs ft)(he:∀cl C a_ b_ ex pn,DE (aE X scope cl C a_ b_ ex pn) Y elt fe)(hs:∀x,foldedSetIterable iter X.env x=pure x):PE X (.ListComp elt [⟨tg,iter,ifs,0⟩] scope pos) (λσ H Q=>∃B Hk q ds ls,Rel X.K B Hk q σ H/\fi q=U ds/\bL bo bs τ ft fe q ds=U ls/\
   ∀a H',aad H H'->H a=M->(∃xs,H' a=U (.lst xs)/\M1 X.K (ba bo B q σ) H' ls xs)->Q (.ref a) H'):=by
 intro pins s σ H Q I ⟨B,Hk,q,ds,ls,R,e1,e2,k⟩;exact AT hc hi S hg ht he hs pins s σ H Q I (j3 Kh (by rw[S.len,I.len]) R e1 e2 k)
theorem rq(hc:X.calm=L)(Kh:abk τ)(hi:DI X Y tg iter fi)(S:aag X scope bs)
  (hg:∀cl C a_ b_ ex pn,DG (aE X scope cl C a_ b_ ex pn) tg τ) (ht:∀cl C a_ b_ ex pn,DTs (aE X scope cl C a_ b_ ex pn) ifs ft) (he:∀cl C a_ b_ ex pn,DE (aE X scope cl C a_ b_ ex pn) Y elt fe)
  (hs:∀x,foldedSetIterable iter X.env x=pure x:=by intro _;rfl):DF X (.ListComp elt [⟨tg,iter,ifs,0⟩] scope pos) (λO=>am (ae (fi O) (bL Y bs τ ft fe O))):=
 (uT hc Kh hi S hg ht he hs).imp λσ H Q hz=>by
  obtain⟨B,Hk,O,d,R,e,k⟩:=hz;cases q:ae (fi O) (bL Y bs τ ft fe O)with
  |none=>simp only[q,am]at e;trivial
  |some ls=>
   simp only[q,am]at e;obtain rfl:=Z7 e;obtain⟨ds,e1,e2⟩:=ak q;exact⟨B,Hk,O,ds,ls,R,e1,e2,λa H' s n ob=>k a H' s n ob⟩
def fP(x:Z8 (Z9 D)):Z8 (Z9 D):=match x with|some ds=>if D.aaG ds=L then U ds else M|none=>M
def mj(h:fP x=U ds):x=U ds/\D.aaG ds=L:=by
 unfold fP at h;cases x with
 |none=>trivial
 |some e=>
  simp only at h;by_cases q:D.aaG e=L;rw[ZO q]at h;obtain rfl:=Z7 h;exact⟨rfl,q⟩;rw[ZJ q]at h;trivial
theorem nC(hc:X.calm=L)(Kh:abk τ)(hi:DI X L tg iter fi)(S:aag X scope bs)
  (hg:∀cl C a_ b_ ex pn,DG (aE X scope cl C a_ b_ ex pn) tg τ) (ht:∀cl C a_ b_ ex pn,DTs (aE X scope cl C a_ b_ ex pn) ifs ft) (he:∀cl C a_ b_ ex pn,DE (aE X scope cl C a_ b_ ex pn) Y elt fe)
  (hs:∀x,foldedSetIterable iter X.env x=pure x:=by intro _;rfl):DF X (.ListComp elt [⟨tg,iter,ifs,0⟩] scope pos) (λO=>am (fP (ae (fi O) (bL L bs τ ft fe O)))):=
 (uT hc Kh hi S hg ht he hs).imp λσ H Q hz=>by
  obtain⟨B,Hk,O,d,R,e,k⟩:=hz;cases q:fP (ae (fi O) (bL L bs τ ft fe O))with
  |none=>simp only[q,am]at e;trivial
  |some ls=>
   simp only[q,am]at e;obtain rfl:=Z7 e;obtain⟨q1,q2⟩:=mj q;obtain⟨ds,e1,e2⟩:=ak q1;exact⟨B,Hk,O,ds,ls,R,e1,e2,λa H' s n hz=>by obtain⟨xs,h1,h2⟩:=hz;exact k a H' s n ⟨xs,h1,M1.flat q2 h2⟩⟩
def y0(hN:X.N.Nodup)(hc:X.calm=L)(Kh:abk τ)(hi:DI X Y tg iter fi)(S:aag X scope bs)(hg:∀cl C a_ b_ ex pn,DG (aE X scope cl C a_ b_ ex pn) tg τ)(ht:∀cl C a_ b_ ex pn,DTs (aE X scope cl C a_ b_ ex pn) ifs ft)(he:∀cl C a_ b_ ex pn,DE (aE X scope cl C a_ b_ ex pn) Y elt fe)(QK:X.N[i]?=U y:=by rfl)(hy:X.env.scope.names.lookup y=U .local:=by rfl)(Ku:swapsWith (.ListComp elt [⟨tg,iter,ifs,0⟩] scope pos) (U (.Name y py)) J7.line X.env=pure L:=by rfl)(hs:∀x,foldedSetIterable iter X.env x=pure x:=by intro _;rfl):DS X (.Assign [.Name y py] (.ListComp elt [⟨tg,iter,ifs,0⟩] scope pos) J7) (λO=>eM i (am (ae (fi O) (bL Y bs τ ft fe O))) O):=by
 intro pins s σ H Dn I ⟨B,Hk,O,o,R,e,k⟩;obtain⟨d,ed,j_,rfl⟩:=lL e;cases q:ae (fi O) (bL Y bs τ ft fe O)with
 |none=>simp only[q,am]at ed;trivial
 |some ls=>
  simp only[q,am]at ed;obtain rfl:=Z7 ed;obtain⟨ds,e1,e2⟩:=ak q;refine ro hc hi S hg ht he hN QK hy Ku hs pins s σ H Dn I (j3 (Q:=λx H1=>gY i x σ H1 Dn.nx) Kh (by rw[S.len,I.len]) R e1 e2 λa H' s n ob=>?_);refine k _ H' (R.ext s) ((R.to s).abJ (by rw[<-R.len];exact j_) (R.same.free n) ob λj e hj h1 h2=>?_);obtain⟨b,h3,_,Mu⟩:=R.own j e h1;rw[h2]at h3;cases h3;obtain⟨o,e'⟩:=Mu.there;rw[n]at e';trivial
end
def dP(n:Nat)(ds:Z9 D):Mk:=ds.map (λd=>U (d,Y))++List.replicate (n - ds.length) M
def jP(x:Z8 Out):Z8 (D×Bool):=match x with|some (.ret d fr)=>U (d,fr)|some (.next _)=>U (.non,Y)|_=>M
def bO(n np:Nat)(g:Mk->Z8 Out)(ds:Z9 D):Z8 (D×Bool):=if ds.length=np then jP (g (dP n ds)) else M
def lB{K:Z6}{B:ZM->Prop}{H:Hp}{N:Z9 Str}{ds:Z9 D}{vs:Z9 V}(hb:∀a,B a->∃o:HOn,H a=U o.1)(r:M1 K B H ds vs)(hl:ds.length<=N.length):Rel K B H (dP N.length ds) (dr N vs) H:=by
 have el:=r.length;have key:∀(i:Nat) d ow,(dP N.length ds)[i]?=U (U (d,ow))->ow=Y/\ds[i]?=U d:=λi d ow h=>by
  unfold dP at h;by_cases hi:i<ds.length;rw[YY (by simpa using hi),YQ]at h;cases q:ds[i]? with
  |none=>rw[q]at h;trivial
  |some e=>rw[q]at h;simp only[Option.map_some,ZE,WM]at h;exact⟨h.2.symm,by rw[h.1]⟩
  .rw[Yo (by simpa using hi),List.getElem?_replicate]at h
   split at h<;>cases h
 refine⟨aad.refl H,hb,?_,λi d h=>?_,λi d h=>?_,λi j d e a _ h=>?_⟩;unfold dP dr;simp only[Zz,Z0,List.length_replicate];lia;obtain⟨_,h2⟩:=key i d _ h;obtain⟨v,h3,h4⟩:=r.get h2;refine⟨v,?_,h4⟩;have hi:i<vs.length:=(ZP.mp h3).1;unfold dr;rw[YY (by simpa using hi),YQ,h3];rfl;have:=(key i d _ h).1;trivial;have:=(key i d _ h).1;trivial
section
variable{P:Y0}{w:YM}{K:Z6}{mg:Str->Z8 Z3}{base:Heap}
def yV{N ps:Z9 Str}{Dn:Ends}(hn:ps.length<=N.length)(h:spM K (bO N.length ps.length g) vs H Q E)(h1:∀v H,Q v H->Dn.rt v H)(h2:∀σ H,Q .non H->Dn.nx σ H):vs.length=ps.length/\tD K g Dn (dr N vs) H:=by
 obtain⟨B,ds,r,fr,hB,E_,hf,kk⟩:=h;unfold bO at hf;by_cases q:ds.length=ps.length
 .rw[ZO q]at hf
  refine⟨by rw[<-E_.length,q],B,H,dP N.length ds,?_⟩;cases qo:g (dP N.length ds)with
  |none=>rw[qo]at hf;trivial
  |some o=>
   rw[qo]at hf;refine⟨o,lB hB E_ (by lia),rfl,?_⟩;cases o with
   |ret d fr'=>
    simp only[jP,ZE,WM]at hf;obtain⟨rfl,rfl⟩:=hf;exact λv H' x s rr=>h1 _ _ (kk v H' s rr)
   |next O=>
    simp only[jP,ZE,WM]at hf;obtain⟨rfl,rfl⟩:=hf;exact λh_ H' x R'=>h2 _ _ (kk .non H' R'.same (by unfold oh;rw[ZJ Zl];simp only[Rep]))
   |brk O=>simp only[jP]at hf;trivial
   |cont O=>simp only[jP]at hf;trivial
 rw[ZJ q]at hf;trivial
def D00:Ends:=⟨λ_ _=>True,λ_ _=>True,λ_ _=>True,λ_ _=>True⟩
def yH{x qual:Str}{st:Stmt}{f:ZM}{fd:FuncData}{N ps:Z9 Str}{k:Nat}{g:Mk->Z8 Out}(F:Fun K x qual st f fd)(S:aaC N ps (defScope st))(hb:Binds K fd ps [])(hm:mg x=U (.ref f))(hn:ps.length<=N.length)
  (body:∀(A:Za)(outer:Z9 Env)(s:ZR)(H:Hp)(E:XK),aaq k (A.deeper (envOfC qual (defScope st) s.z f fd.code))->DSs (pR CX0 P w K mg base N qual (defScope st) f fd.code A outer s H E).nox (defBody st) g):
  abj P w K mg base CX0 (k+1) f fd ps (spM K (bO N.length ps.length g))/\FnM P w K mg base (k+1) x (bO N.length ps.length g):=
 have key:=F.ok S (λvs H Q E h=>(yV (Dn:=D00) hn h (λ_ _ _=>trivial) λ_ _ _=>trivial).1) λA outer s H vs Q E hr h=>⟨_,body A outer s H E hr,(yV hn h (λ_ _ h=>h) λ_ _ h=>h).2⟩
 ⟨key,⟨f,fd,ps,key,hm,F.kp,hb⟩⟩
end
def eN{q:Type}:Z9 q->Z9 Bool->Z9 q
 |x::xs,b::bs=>if b=L then x::eN xs bs else eN xs bs
 |_,_=>[]
def jL{q:Type}(bs:Z9 Bool):eN ([]:Z9 q) bs=[]:=by unfold eN;rfl
def AO{q:Type}{xs:Z9 q}{bs:Z9 Bool}{i:Nat}(h:i<xs.length)(hb:bs[i]?=U b):eN (xs.drop i) (bs.drop i)=if b=L then xs[i]::eN (xs.drop (i+1)) (bs.drop (i+1)) else eN (xs.drop (i+1)) (bs.drop (i+1)):=by
 obtain⟨h2,e⟩:=ZP.mp hb;rw[Zn h,Zn h2,e];rw[eN]
theorem gx{K:Z6}{B:ZM->Prop}{H:Hp}:∀{ds:Z9 D}{xs:Z9 V}{bs:Z9 Bool},M1 K B H ds xs->M1 K B H (eN ds bs) (eN xs bs)
 |[],xs,bs,h=>by simp only[M1]at h;subst h;rw[jL,jL];exact M1.nil
 |d::ds,xs,bs,h=>by
  simp only[M1]at h;obtain⟨x,r,rfl,h1,h2⟩:=h;cases bs with
  |nil=>unfold eN;exact M1.nil
  |cons b bs=>
   rw[eN,eN];cases b with
   |true=>simp only[Y8];exact M1.cons h1 (gx h2)
   |false=>simp only[ZY,Zj];exact gx h2
def rR{K:Z6}{σ:St}{H:Hp}{Q:VK}{r j:Nat}{bs bl:Z9 Bool}{ft:Mk->Z8 Bool}{B:ZM->Prop}{Hk:Hp}{O:Mk}{ds:Z9 D}(hl:bs.length=σ.length)(R:Rel K B Hk O σ H)(hr:O[r]?=U (U (.lst ds,L)))(hj:j<σ.length)
  (NH:bl.length=ds.length) (G_:ds.length<=lim) (VL:∀(i:Nat) d b,ds[i]?=U d->bl[i]?=U b->ft ((ax L bs O).set j (U (d,Y)))=U b)
  (k:∀l xs a H',σ[r]?=U (U (.ref l))->H l=U (.lst xs)->M1 K B H ds xs->aad H H'->H a=M->H' a=U (.lst (eN xs bl))->Q (.ref a) H'):
  tm (Dv K (vi r)) bs (gY j) (tMT K ft) (vi j) σ H Q:=by
 obtain⟨l,h1,h2,xs,h3,h4⟩:=R.own r _ hr;have hlen:=h4.length;refine⟨.ref l,h1,l,rfl,⟨xs,.inl (.inl h3)⟩,λacc t_=>?_⟩;have nb:¬ba L B O σ acc:=λz=>by obtain⟨o,q⟩:=R.bsH L acc z;rw[t_]at q;trivial
 have R2:Rel K (ba L B O σ) H (ax L bs O) (mask bs σ) (upd H acc (.lst [])):=(jW (bo:=L) (bs:=bs) R hl).to (ar t_);have Qh:bf (ax L bs O):=λj d h=>by obtain⟨_,h2,_⟩:=cZ h;trivial
 refine⟨λi n ys h_ H'=>n=xs.length - i/\i<=xs.length/\ys.length<=i/\H' acc=U (.lst ys)/\aad H H'/\eN xs bl=ys++eN (xs.drop i) (bl.drop i)/\h_.length=σ.length/\∃d_,Rel K (ba L B O σ) H d_ h_ H'/\bf d_/\d_.set j M=(ax L bs O).set j M,
  ⟨xs.length,by simp,Zs _,ZU _,ah,ar t_,by simp,dL hl,ax L bs O,R2,Qh,rfl⟩,?_⟩
 intro i n ys h_ H' hz;obtain⟨rfl,hi,Qs,ha,sm,hp,NA,d_,R',nw,hd⟩:=hz;refine⟨ha,?_⟩;have hq:SqL K H' l xs:=.inl (.inl (sm l _ h3));by_cases j_:i<xs.length;refine .inr ⟨⟨xs,xs[i],hq,by simp⟩,λx H2 ⟨e2,hx⟩=>?_⟩;subst e2;obtain rfl:xs[i]=x:=by have:=hx xs hq;simpa[j_]using this
 obtain⟨d,JE,rd⟩:=(h4.ext (sm.ext R.abx)).get' (i:=i) (x:=xs[i]) (by simp[j_]);have Jh:Rep K (ba L B O σ) H2 d xs[i]:=rd.more λa h=>jj L a h;have R3:=R'.set (i:=j) (by lia) Jh;have RG:∀y,d_.set j y=(ax L bs O).set j y:=λy=>by
  have:=congrArg (λz=>z.set j y) hd;simpa only[WB]using this
 obtain⟨b,hb⟩:∃b,bl[i]?=U b:=⟨bl[i]'(by lia),by simp⟩
 have Qe:bf (d_.set j (U (d,Y))):=λm e z=>by
  by_cases hm:m=j;subst hm;have NF:m<d_.length:=by rw[R'.len];lia
  rw[ZG NF]at z;cases z;rw[ZL (Zy hm)]at z;exact nw m e z
 have Ox:(d_.set j (U (d,Y))).set j M=(ax L bs O).set j M:=by rw[WB];exact hd
 show tMT K ft (h_.set j (U xs[i])) H2 _;refine⟨_,H,_,b,R3,by rw[RG];exact VL i d b JE hb,λH3 s3=>?_⟩;have QV:=s3 acc _ ha;have pa:=AO j_ hb;rw[pa]at hp;cases b with
 |false=>
  rw[ZJ Zl]at hp;exact Aw ⟨xs.length - (i+1),by lia,rfl,j_,by lia,QV,sm.trans s3,hp,by rw[ZC];exact NA,_,R3.to s3,Qe,Ox⟩
 |true=>
  rw[ZO rfl]at hp;have R4:=R3.to s3;have x5:Ext (ba L B O σ) H3 (upd H3 acc (.lst (ys++[xs[i]]))):=bZ QV trivial nb;have R5:Rel K (ba L B O σ) H (d_.set j (U (d,Y))) (h_.set j (U xs[i])) (upd H3 acc (.lst (ys++[xs[i]]))):=by
   refine⟨R4.same.put t_,R4.bor,R4.len,λm e h=>?_,λm e h=>(Qe m e h).elim,R4.dis⟩;obtain⟨v,z1,z2⟩:=R4.var m e h;exact⟨v,z1,z2.ext x5⟩
  refine zG ⟨xs[i],ZG (by lia),QV,by have:=aJ G_;lia,xs.length - (i+1),by lia,rfl,j_,by rw[Zz,List.length_singleton];lia,ah,(sm.trans s3).put t_,by rw[hp,Zd];rfl,by rw[ZC];exact NA,_,R5,Qe,Ox⟩
 have k_:i=xs.length:=by lia
 subst k_;rw[WI,jL,YX]at hp;exact .inl ⟨⟨xs,hq,ZU _⟩,k l xs acc H' h1 h3 h4 sm t_ (by rw[hp];exact ha)⟩
def uw:bootBuiltins "list"=U (.type "list"):=by decide +kernel
def oC:bootBuiltins "tuple"=U (.type "tuple"):=by decide +kernel
def CP:bootBuiltins "sum"=U (.builtin "sum"):=by decide +kernel
def CY:bootBuiltins "set"=U (.type "set"):=by decide +kernel
def gN:bootBuiltins "sorted"=U (.builtin "sorted"):=by decide +kernel
noncomputable def vh(x:Str)(lo hi:Z8 Int):Str:=if((Builtin.Str.strSliceIndices lo hi 1 x.length).length==x.length)=L then x else⟨((Builtin.Str.strSliceIndices lo hi 1 x.length).filterMap (x.cps[·]?)).toArray⟩
def jl(x:Str)(lo hi:Z8 Int):(vh x lo hi).length<=x.length:=by
 unfold vh;split;exact ZU _;show((Builtin.Str.strSliceIndices lo hi 1 x.length).filterMap (x.cps[·]?)).toArray.size<=_;rw[ZT];exact ZH (List.length_filterMap_le _ _) (sliceIndices_le lo hi x.length)
section
def sH(h:IsPart v o):∃l:Z8 (Int×Tok),v=partValue l/\l.map (·.1)=o:=by
 cases h with
 |none=>exact⟨M,rfl,rfl⟩
 |int i t=>exact⟨U (i,t),rfl,rfl⟩
def BE:SlR X (λx lo hi H Q=>∃z,x=.str z/\z.length<=sizeLine/\Q (.str (vh z lo hi)) H):=by
 intro pins s σ H x v vl vu lo hi sl Q I rx hs pl pu h;obtain⟨z,rfl,hz,q⟩:=h;obtain⟨t,rfl⟩:=rx;obtain⟨l,rfl,rfl⟩:=sH pl;obtain⟨u,rfl,rfl⟩:=sH pu;refine⟨"str",_,F.slot_str_getitem.lookup,typeIs_str s z t,wpAny_getItem_str_slice (l:=l) (u:=u) (st:=M) hs rfl ?_⟩;have key:(sliceMade z t l u M)=if((Builtin.Str.strSliceIndices (l.map (·.1)) (u.map (·.1)) 1 z.length).length==z.length)=L then Made.val (.str z t) else Made.str ⟨((Builtin.Str.strSliceIndices (l.map (·.1)) (u.map (·.1)) 1 z.length).filterMap (z.cps[·]?)).toArray⟩:=by
  unfold sliceMade slicePicked;simp
 rw[key];refine post_val_or_made (λhc=>?_) λt' k=>⟨.str (vh z (l.map (·.1)) (u.map (·.1))),H,I.tok k,⟨t',rfl⟩,q⟩
 have hle:=jl z (l.map (·.1)) (u.map (·.1));unfold vh at hle;rw[ZJ hc]at hle;exact ZH hle hz
end
def DO(X:Cx)(e:Z8 Expr)(f:Mk->Z8 (Z8 Int)):Prop:=PO X e (λσ H Q=>∃B Hk q o,Rel X.K B Hk q σ H/\f q=U o/\∀H',aad H H'->Q o H')
def PO.imp(h:PO X e t)(i:∀σ H Q,t' σ H Q->t σ H Q):PO X e t':=λpins s σ H Q I q=>h pins s σ H Q I (i σ H Q q)
def eQ(x:Z8 D):Z8 (Z8 Int):=match x with|some (.int i)=>U (U i)|_=>M
section
variable{X:Cx}{m:Bool}{a:Expr}{fa:Mk->Z8 D}{pos p:Pos}{lo hi:Z8 Expr}{fl fh:Mk->Z8 (Z8 Int)}
theorem yW:DO X M (λ_=>U M):=AW.imp λσ H Q hz=>by obtain⟨B,Hk,q,o,R,e,k⟩:=hz;obtain rfl:=Z7 e;exact k H (aad.refl H)
set_option tactic.hygienic true in
theorem A0(h:DE X m a fa):DO X (U a) (λO=>eQ (fa O)):=(zn h).imp λσ H Q hz=>by
 obtain⟨B,Hk,O,o,R,e,k⟩:=hz;unfold eQ at e;dsimp only at e;split at e;rename_i i q;obtain rfl:=Z7 e;refine⟨B,Hk,O,_,R,q,λv H' s r=>?_⟩;simp only[Rep]at r;exact⟨i,r,k H' s⟩;trivial
def DD{K:Z6}{σ:St}{H:Hp}{B:ZM->Prop}{Hk:Hp}{q:Mk}{d:D}{l u:Z8 Int}{r:V->Z8 Int->Z8 Int->Hp->VK->Prop}{Q:VK}(R:Rel K B Hk q σ H)(e1:fa q=U d)(e2:fl q=U l)(e3:fh q=U u)
  (k:∀v H',aad H H'->Rel K B Hk q σ H'->Rep K (ba m B q σ) H' d v->r v l u H' Q):
  tSl r (tM K m fa) (λσ H Q=>∃B Hk q o,Rel K B Hk q σ H/\fl q=U o/\∀H',aad H H'->Q o H') (λσ H Q=>∃B Hk q o,Rel K B Hk q σ H/\fh q=U o/\∀H',aad H H'->Q o H') σ H Q:=
 ⟨B,Hk,q,d,R,e1,λv H1 s1 r1=>⟨B,Hk,q,l,R.to s1,e2,λH2 s2=>⟨B,Hk,q,u,R.to (s1.trans s2),e3,λH3 s3=>k v H3 (s1.trans (s2.trans s3)) (R.to (s1.trans (s2.trans s3))) (r1.same (R.to s1) (s2.trans s3))⟩⟩⟩
noncomputable def ny(x:Z8 D)(l u:Z8 (Z8 Int)):Z8 D:=match x,l,u with|some (.str z),some l,some u=>if z.length<=lim then U (.str (vh z l u)) else M|_,_,_=>M
set_option tactic.hygienic true in
theorem zY(ha:DE X m a fa)(hl:DO X lo fl)(hh:DO X hi fh):DE X mm (.Subscript a (.Slice lo hi M p2) pos) (λq=>ny (fa q) (fl q) (fh q)):=
 (oI BE ha hl hh).imp λσ H Q hz=>by
  obtain⟨B,Hk,q,d,R,e,k⟩:=hz;unfold ny at e;dsimp only at e;split at e;rename_i z l u q1 q2 q3;by_cases hz:z.length<=lim;rw[ZO hz]at e;obtain rfl:=Z7 e;refine DD R q1 q2 q3 λv H' s R' r=>?_;simp only[Rep]at r;exact⟨z,r,aJ hz,k _ H' s (by simp only[Rep])⟩;rw[ZJ hz]at e;trivial;trivial
def nA(ds:Z9 D)(lo hi:Z8 Int):Z9 D:=(ds.drop (HT.sIx ds.length 0 lo)).take (HT.sIx ds.length ds.length hi - HT.sIx ds.length 0 lo)
def M1.cut{K:Z6}{B:ZM->Prop}{H:Hp}{ds:Z9 D}{xs:Z9 V}(r:M1 K B H ds xs)(lo hi:Z8 Int):M1 K B H (nA ds lo hi) (A1 xs lo hi):=by
 unfold nA A1;rw[r.length];exact(r.drop _).take _
noncomputable def g9(x:Z8 D)(l u:Z8 (Z8 Int)):Z8 D:=match x,l,u with|some (.lst ds),some l,some u=>U (.lst (nA ds l u))|_,_,_=>M
set_option tactic.hygienic true in
theorem Ae(ha:DE X Y a fa)(hl:DO X lo fl)(hh:DO X hi fh):DF X (.Subscript a (.Slice lo hi M p2) pos) (λq=>g9 (fa q) (fl q) (fh q)):=
 (oI Bb ha hl hh).imp λσ H Q hz=>by
  obtain⟨B,Hk,q,d,R,e,k⟩:=hz;unfold g9 at e;dsimp only at e;split at e;rename_i ds l u q1 q2 q3;obtain rfl:=Z7 e;refine DD R q1 q2 q3 λv H' s R' r=>?_;simp only[Rep]at r;obtain⟨c,xs,rfl,hq,rs⟩:=r;refine⟨c,xs,rfl,hq.sq,λp hp=>?_⟩;have s2:=ar (o:=.lst (A1 xs l u)) hp;exact k p _ (s.trans s2) (s.free hp) ⟨_,ah,(rs.cut l u).same (m:=Y) R' s2⟩;trivial
noncomputable def Ba(x y:Z8 D):Z8 D:=match x,y with|some (.str i),some (.str j)=>if i.length+j.length<=lim then U (.str (i++j)) else M|_,_=>M
set_option tactic.hygienic true in
theorem zj(ha:DE X m a fa)(hb:DE X m' b fb):DE X mm (.BinOp a .Add b pos) (λq=>Ba (fa q) (fb q)):=
 (v8 qa ha hb).imp λσ H Q hz=>by
  obtain⟨B,Hk,q,d,R,e,k⟩:=hz;unfold Ba at e;dsimp only at e;split at e;rename_i i j q1 q2;by_cases hz:i.length+j.length<=lim;rw[ZO hz]at e;obtain rfl:=Z7 e;refine two R q1 q2 λv u H' s R' r1 r2=>?_;simp only[Rep]at r1 r2;subst r1 r2;exact⟨i,j,rfl,rfl,aJ hz,k _ H' s (by simp only[Rep])⟩;rw[ZJ hz]at e;trivial;trivial
def jh(x:Z8 D):Z8 D:=match x with|some d=>(match aT d with|some ds=>U (.lst ds)|none=>M)|none=>M
set_option tactic.hygienic true in
def yg{g:Z9 D->D}(h:(match x with|some d=>(match aT d with|some ds=>U (g ds)|none=>M)|none=>M)=U d):∃e es,x=U e/\aT e=U es/\d=g es:=by
 split at h;rename_i e;split at h;rename_i es he;obtain rfl:=Z7 h;exact⟨e,es,rfl,he,rfl⟩;trivial;trivial
theorem sW(g:Gl X "list")(hm:X.mg "list"=M)(ha:DE X Y a fa)(hs:starEach [a] X.env=[(Y,eval a X.env)]:=by rfl):DF X (.Call (.Name "list" p) [a] [] pos) (λq=>jh (fa q)):=
 (cW kB g hm uw (ay ha aQ hs) (he:=hs)).imp λσ H Q hz=>by
  obtain⟨B,Hk,q,d,R,e,k⟩:=hz;obtain⟨d1,es,e1,hi,rfl⟩:=yg (g:=D.lst) e;refine pW R e1 λv H' s R' r=>?_;obtain⟨p,xs,rfl,hq,rs⟩:=r.items hi;refine⟨p,xs,rfl,hq,λl hl=>?_⟩;have s2:=ar (o:=.lst xs) hl;exact k l _ (s.trans s2) (s.free hl) ⟨_,ah,rs.same (m:=Y) R' s2⟩
def c8(x:Z8 D):Z8 D:=match x with|some d=>(match aT d with|some ds=>U (.tup ds)|none=>M)|none=>M
theorem vG(g:Gl X "tuple")(hm:X.mg "tuple"=M)(ha:DE X m a fa)(hs:starEach [a] X.env=[(Y,eval a X.env)]:=by rfl):DE X m (.Call (.Name "tuple" p) [a] [] pos) (λq=>c8 (fa q)):=
 (cW jf g hm oC (ay ha aQ hs) (he:=hs)).imp λσ H Q hz=>by
  obtain⟨B,Hk,q,d,R,e,k⟩:=hz;obtain⟨d1,es,e1,hi,rfl⟩:=yg (g:=D.tup) e;refine pW R e1 λv H' s R' r=>?_;cases d1 with
  |lst ds=>
   simp only[aT]at hi;obtain rfl:=Z7 hi;simp only[Rep]at r;obtain⟨c,xs,rfl,hq,rs⟩:=r;refine⟨c,xs,rfl,.inl ⟨hq.sq,λl hl=>?_⟩⟩;have s2:=ar (o:=.tup xs) hl;refine k _ _ (s.trans s2) ?_;simp only[Rep];exact⟨l,xs,rfl,ah,rs.same R' s2⟩
  |tup ds=>
   simp only[aT]at hi;obtain rfl:=Z7 hi;have r':=r;simp only[Rep]at r;obtain⟨c,xs,rfl,hq,rs⟩:=r;exact⟨c,xs,rfl,.inr ⟨SqT.of hq,k _ H' s r'⟩⟩
  |_=>simp[aT]at hi
def dN:Z9 D->Z8 (Z9 Int)
 |[]=>U []
 |.int i::ds=>(match dN ds with|some l=>U (i::l)|none=>M)
 |_=>M
theorem iu:∀{ds:Z9 D}{ns:Z9 Int},dN ds=U ns->ds=ns.map D.int
 |[],ns,h=>by simp only[dN,ZE]at h;subst h;rfl
 |.int i::ds,ns,h=>by
  simp only[dN]at h;cases q:dN ds with
  |none=>rw[q]at h;trivial
  |some l=>
   rw[q]at h;simp only[ZE]at h;subst h;rw[Z1,iu q]
 |.non::ds,ns,h=>by simp[dN]at h
 |.bl _::ds,ns,h=>by simp[dN]at h
 |.str _::ds,ns,h=>by simp[dN]at h
 |.tup _::ds,ns,h=>by simp[dN]at h
 |.lst _::ds,ns,h=>by simp[dN]at h
 |.dK _ _::ds,ns,h=>by simp[dN]at h
 |.dD _ _::ds,ns,h=>by simp[dN]at h
theorem M1.ints{K:Z6}{B:ZM->Prop}{H:Hp}:∀{ns:Z9 Int}{xs:Z9 V},M1 K B H (ns.map D.int) xs->xs=ns.map V.int
 |[],xs,h=>by simpa only[YT,M1]using h
 |n::ns,xs,h=>by
  simp only[Z1,M1]at h;obtain⟨x,r,rfl,h1,h2⟩:=h;simp only[Rep]at h1;rw[Z1,h1,M1.ints h2]
def vD(hc:X.calm=L):fG X (.builtin "sum") (λxs H Q=>∃(p:ZM)(ns:Z9 Int),xs=[.ref p]/\SqL X.K H p (ns.map V.int)/\Q (.int ns.sum) H):=by
 intro pins s σ H xs us Q I r h;obtain⟨p,ns,rfl,hq,q⟩:=h;obtain⟨u,rfl,rx⟩:=hU r;cases rx;obtain⟨its,rv,pl,hz⟩:=I.list hq;have hi:=pH rv;obtain⟨xs,Ss⟩:=hi.allInts.items;have hl:=pl.isList;rw[Ss]at hl;refine PySem.sum_intListG (I.ok.hd hc) hl λh' tk t' hk=>?_;have e1:preSum (numAt xs) xs.size=ns.sum:=by
  rw[preSum_eq,YN (by simp)];have:=hi.numsOf;rw[show its=its.toArray.toList from rfl,Ss,nums_intItems]at this;rw[this]
 rw[e1];exact⟨.int ns.sum,H,I.kept hk,⟨t',rfl⟩,q⟩
noncomputable def Bo(x:Z8 D):Z8 D:=match x with|some (.lst ds)=>(match dN ds with|some ns=>U (.int ns.sum)|none=>M)|_=>M
set_option tactic.hygienic true in
theorem B1(hc:X.calm=L)(g:Gl X "sum")(hm:X.mg "sum"=M)(ha:DE X m a fa)(hs:starEach [a] X.env=[(Y,eval a X.env)]:=by rfl):DE X mm (.Call (.Name "sum" p) [a] [] pos) (λO=>Bo (fa O)):=
 (dU (vD hc) g hm CP (ay ha aQ hs) (he:=hs)).imp λσ H Q hz=>by
  obtain⟨B,Hk,O,d,R,e,k⟩:=hz;unfold Bo at e;dsimp only at e;split at e;rename_i ds q;split at e;rename_i ns qn;obtain rfl:=Z7 e;obtain rfl:=iu qn;refine pW R q λv H' s R' r=>?_;simp only[Rep]at r;obtain⟨c,xs,rfl,hq,rs⟩:=r;obtain rfl:=rs.ints;exact⟨c,ns,rfl,hq.sq,k _ H' s (by simp only[Rep])⟩;trivial;trivial
end
end L2
namespace SM
open PySem PyProof.Rows
structure aaI (LT:Keyed->Keyed->Bool):Prop where
 aa_:∀x y,LT x y=true->LT y x=false
 tr:∀x y z,LT y x=false->LT z y=false->LT z x=false
def aaI.irr{LT:Keyed->Keyed->Bool}(O:aaI LT)(x:Keyed):LT x x=Y:=by
 cases h:LT x x with
 |false=>rfl
 |true=>exact h.symm.trans (O.aa_ x x h)
def Ans(prog:Y0)(w:YM)(A:Za)(s:ZR)(κ:SortKind)(LT:Keyed->Keyed->Bool)(T:Array Keyed):Prop:=
 ∀x∈T,∀y∈T,∀C:Bool->ZR->Prop,C (LT x y) s->wpAny (model prog w) A (keyLt' κ x.1 y.1) C (λ_ _=>False) s
abbrev nK:Keyed:=(Value.none,Value.none)
def K(a:Array Keyed)(i:Nat):Keyed:=(a[i]?).getD nK
def ET{a:Array Keyed}{i:Nat}(h:i<a.size):a[i]?=U (K a i):=by unfold K;rw[getElem?_pos a i h];rfl
def zS{a:Array Keyed}{i:Nat}(h:i<a.size):K a i∈a:=by unfold K;rw[getElem?_pos a i h];exact Array.getElem_mem h
def Br{a b:Array Keyed}{i j:Nat}(h:a[i]?=b[j]?):K a i=K b j:=by unfold K;rw[h]
def ju{a:Array Keyed}{i j:Nat}(hj:j<=a.size)(k:Nat):K (mirror a i j ((j - i) / 2)) k=if i<=k/\k<j then K a (i+j - 1 - k) else K a k:=by
 have e:=getElem?_mirror_all (i:=i) hj k;by_cases h:i<=k/\k<j;rw[ZO h]at e⊢;exact Br e;rw[ZJ h]at e⊢;exact Br e
def Ac{a:Array Keyed}{src d:Nat}(hs:src<a.size)(hd:d<=src)(k:Nat):K (bubble a src d) k=if k=src - d then K a src else if src - d<k/\k<=src then K a (k - 1) else K a k:=by
 have e:=getElem?_bubble hs d hd k;by_cases h:k=src - d;rw[ZO h]at e⊢;exact Br e;rw[ZJ h]at e⊢;by_cases h2:src - d<k/\k<=src;rw[ZO h2]at e⊢;exact Br e;rw[ZJ h2]at e⊢;exact Br e
section
variable{LT:Keyed->Keyed->Bool}{T:Array Keyed}{st:SortSt}
def Up(LT:Keyed->Keyed->Bool)(a:Array Keyed)(i j:Nat):Prop:=∀p q,i<=p->p<=q->q<j->LT (K a q) (K a p)=Y
def Dn(LT:Keyed->Keyed->Bool)(a:Array Keyed)(i j:Nat):Prop:=∀p q,i<=p->p<=q->q<j->LT (K a p) (K a q)=Y
def Up.one(O:aaI LT){a:Array Keyed}{i:Nat}:Up LT a i (i+1):=λp q h1 h2 h3=>by
 have e:p=q:=by lia
 rw[e];exact O.irr _
def Dn.one(O:aaI LT){a:Array Keyed}{i:Nat}:Dn LT a i (i+1):=λp q h1 h2 h3=>by
 have e:p=q:=by lia
 rw[e];exact O.irr _
def Up.snoc(O:aaI LT){a:Array Keyed}{i j:Nat}(h:Up LT a i j)(K8:i<j)(hl:LT (K a j) (K a (j - 1))=Y):Up LT a i (j+1):=λp q h1 h2 h3=>by
 by_cases e:q=j;subst e;by_cases e':p=q;rw[e'];exact O.irr _;exact O.tr _ _ _ (h p (q - 1) h1 (by lia) (by lia)) hl;exact h p q h1 h2 (by lia)
def Dn.snoc(O:aaI LT){a:Array Keyed}{i j:Nat}(h:Dn LT a i j)(K8:i<j)(hl:LT (K a (j - 1)) (K a j)=Y):Dn LT a i (j+1):=λp q h1 h2 h3=>by
 by_cases e:q=j;subst e;by_cases e':p=q;rw[e'];exact O.irr _;exact O.tr _ _ _ hl (h p (q - 1) h1 (by lia) (by lia));exact h p q h1 h2 (by lia)
def qZ(H:Ans prog w A s κ LT T)(hk:kindOf st=κ){x y:Keyed}{Q:Z8 Bool->SortSt->Prop}(hx:x∈T)(hy:y∈T)(h:Q (U (LT x y)) st):wpS (model prog w) A E s (lt' x y) Q st:=by
 rw[lt'_eq];refine ZF (Wb ?_);rw[hk];refine ZF (wpS_lift (XO (YK (H x hx y hy (λb s'=>s'=s/\wpS (model prog w) A E s (pure (U b)) Q st) ⟨rfl,Zx h⟩) (λ_ _ h=>h) λ_ _ h=>h.elim)))
def aH{a:Array Keyed}{i:Nat}{Q:Keyed->SortSt->Prop}(hi:i<a.size)(h:Q (K a i) st):wpS (model prog w) A E s (elem' a i) Q st:=by
 rw[elem'_eq,ET hi];exact Zx h
def gf(H:Ans prog w A s κ LT T)(hk:kindOf st=κ)(hp:(arrOf st).Perm T){i j:Nat}{Q:Z8 Bool->SortSt->Prop}(hi:i<T.size)(hj:j<T.size)(h:Q (U (LT (K (arrOf st) i) (K (arrOf st) j))) st):
  wpS (model prog w) A E s (ltAt' i j) Q st:=by
 have hz:=hp.size_eq;rw[ltAt'_eq];refine ZF (Wb ?_);exact ZF (aH (by lia) (ZF (aH (by lia) (qZ H hk (hp.mem_iff.mp (zS (by lia))) (hp.mem_iff.mp (zS (by lia))) h))))
structure Chg (T a:Array Keyed)(lo:Nat)(a':Array Keyed):Prop where
 perm:a'.Perm T
 keep:∀k,k<lo->K a' k=K a k
def Chg.rev{a a':Array Keyed}{lo i j:Nat}(h:Chg T a lo a')(hi:lo<=i)(hj:j<=T.size):Chg T a lo (mirror a' i j ((j - i) / 2)):=by
 have hz:=h.perm.size_eq;refine⟨(mirror_perm a' i j _).trans h.perm,λk hk=>?_⟩;rw[ju (by lia),ZJ (by lia)];exact h.keep k hk
def Chg.bub{a a':Array Keyed}{lo src d:Nat}(h:Chg T a lo a')(hs:src<T.size)(hd:lo+d<=src):Chg T a lo (bubble a' src d):=by
 have hz:=h.perm.size_eq;refine⟨(bubble_perm a' src d).trans h.perm,λk hk=>?_⟩;rw[Ac (by lia) (by lia),ZJ (by lia),ZJ (by lia)];exact h.keep k hk
def xq{a:Array Keyed}{i j:Nat}(hj:j<=a.size)(h:Dn LT a i j):Up LT (mirror a i j ((j - i) / 2)) i j:=λp q h1 h2 h3=>by
 rw[ju hj,ju hj,ZO ⟨by lia,h3⟩,ZO ⟨h1,by lia⟩];exact h _ _ (by lia) (by lia) (by lia)
def rM{a:Array Keyed}{lo i j:Nat}(hj:j<=a.size)(hi:lo<=i)(h:Dn LT a lo j)(e:∀p q,i<=p->i<=q->p<j->q<j->LT (K a p) (K a q)=Y):Dn LT (mirror a i j ((j - i) / 2)) lo j:=λp q h1 h2 h3=>by
 rw[ju hj,ju hj];by_cases c1:i<=p/\p<j;rw[ZO c1];by_cases c2:i<=q/\q<j;rw[ZO c2];exact e _ _ (by lia) (by lia) (by lia) (by lia);lia;rw[ZJ c1];by_cases c2:i<=q/\q<j;rw[ZO c2];exact h _ _ h1 (by lia) (by lia);rw[ZJ c2];exact h _ _ h1 h2 h3
def yb(O:aaI LT)(H:Ans prog w A s κ LT T)(hk:kindOf st=κ){a:Array Keyed}(hc:(arrOf st).Perm T){lo n m_:Nat}(hz:lo+m_<=T.size)(hn:1<=n)(Pj:n<=m_)(hu:Up LT (arrOf st) lo (lo+n))
  {q:Type}{Q:q->SortSt->Prop}{f:Z8 (Z8 Nat)×Nat->StateT SortSt Sem q}(h:∀m,n<=m->m<=m_->Up LT (arrOf st) lo (lo+m)->(m<m_->LT (K (arrOf st) (lo+m)) (K (arrOf st) (lo+m - 1))=L)->wpS (model prog w) A E s (f (M,m)) Q st):
  wpS (model prog w) A E s (forIn [n:m_] ((M,n):Z8 (Z8 Nat)×Nat) (λ_ r=>do
   let x <-ltAt' (lo+r.2) (lo+r.2 - 1)
   match x with
   |some A_=>if A_=L then pure (ForInStep.done (M,r.2)) else pure (ForInStep.yield (M,r.2+1))
   |_=>pure (ForInStep.done (U M,r.2))) >>= f) Q st:=by
 refine ZF (XH (Yv (I:=λx c f_=>c=(M,x)/\f_=st/\n<=x/\Up LT (arrOf st) lo (lo+x)) (Q:=λc f_=>∃m,c=(M,m)/\f_=st/\n<=m/\m<=m_/\Up LT (arrOf st) lo (lo+m)/\(m<m_->LT (K (arrOf st) (lo+m)) (K (arrOf st) (lo+m - 1))=L)) ?_ ?_ ⟨rfl,rfl,ZU _,hu⟩) ?_);intro x c f_ h1 h2 hz;obtain⟨rfl,rfl,h3,h4⟩:=hz;dsimp only;refine ZF (gf H hk hc (by lia) (by lia) ?_);dsimp only;cases hl:LT (K (arrOf f_) (lo+x)) (K (arrOf f_) (lo+x - 1))with
 |true=>exact Zx ⟨x,rfl,rfl,h3,by lia,h4,λ_=>hl⟩
 |false=>exact Zx ⟨rfl,rfl,by lia,h4.snoc O (by lia) hl⟩
 intro c f_ hz;obtain⟨rfl,rfl,h3,h4⟩:=hz;have e:max n m_=m_:=by lia
 rw[e]at h4⊢;exact⟨m_,rfl,rfl,Pj,ZU _,h4,λh=>absurd h (Zc _)⟩;intro c f_ hz;obtain⟨m,rfl,rfl,h1,h2,h3,h4⟩:=hz;exact h m h1 h2 h3 h4
end
section
variable{LT:Keyed->Keyed->Bool}{st:SortSt}
def Fp(LT:Keyed->Keyed->Bool)(a:Array Keyed)(i j:Nat):Prop:=∀p q,i<=p->i<=q->p<j->q<j->LT (K a p) (K a q)=Y
def rg(O:aaI LT)(H:Ans prog w A s κ LT T)(hk:kindOf st=κ){lo n m_:Nat}(hC:Chg T a lo a')(hz:lo+m_<=T.size)(hn:1<=n)(Pj:n<=m_)(hd:Dn LT a' lo (lo+n))(h:∀m ML,1<=m->m<=m_->Chg T a lo ML->Up LT ML lo (lo+m)->Q (U m) (setArr st ML)):
  wpS (model prog w) A E s (do
   let mut n:=n
   reverseSlice' lo (lo+n)
   for _ in [n:m_] do
    let some A_ <-ltAt' (lo+n) (lo+n - 1)|return M
    if A_ then break
    n:=n+1
   return U n) Q (setArr st a'):=by
 have e:=hC.perm.size_eq;dsimp only;rw[reverseSlice'_eq];refine ZF (XQ ?_);have C':=hC.rev (i:=lo) (j:=lo+n) (ZU _) (by lia);have Uq:=xq (LT:=LT) (a:=a') (i:=lo) (j:=lo+n) (by lia) hd;exact yb (st:=setArr st (mirror a' lo (lo+n) ((lo+n - lo) / 2))) (a:=a) O H hk C'.perm hz hn Pj Uq λm h1 h2 h3 _=>Zx (h m _ (by lia) h2 C' h3)
def uv(O:aaI LT)(H:Ans prog w A s κ LT T)(hk:kindOf st=κ){lo n m_:Nat}(hC:Chg T a lo a')(hz:lo+m_<=T.size)(hn:1<=n)(Pj:n<m_)(hd:Dn LT a' lo (lo+n))(hl:LT (K a' (lo+n)) (K a' (lo+n - 1))=L)(h:∀m ML,1<=m->m<=m_->Chg T a lo ML->Up LT ML lo (lo+m)->Q (U m) (setArr st ML)):
  wpS (model prog w) A E s (do
   let mut n:=n
   rule "list.sort.descending-run"
   n:=n+1
   let mut Mv:=0
   for _ in [n:m_] do
    let some A_ <-ltAt' (lo+n) (lo+n - 1)|return M
    if A_ then
     if Mv>0 then reverseSlice' (lo+n - (Mv+1)) (lo+n)
     Mv:=0
    else
     let some Nd <-ltAt' (lo+n - 1) (lo+n)|return M
     if Nd then break
     Mv:=Mv+1
    n:=n+1
   if Mv>0 then reverseSlice' (lo+n - (Mv+1)) (lo+n)
   reverseSlice' lo (lo+n)
   for _ in [n:m_] do
    let some A_ <-ltAt' (lo+n) (lo+n - 1)|return M
    if A_ then break
    n:=n+1
   return U n) Q (setArr st a'):=by
 refine ZF (wpS_lift (YC ⟨rfl,?_⟩));have d1:=hd.snoc O (by lia) (O.aa_ _ _ hl);refine ZF (XH (Yv (I:=λx c f_=>∃q a1,c=(M,x,q)/\f_=setArr st a1/\Chg T a lo a1/\n+1<=x/\q+1<=x/\Dn LT a1 lo (lo+x)/\Fp LT a1 (lo+x - (q+1)) (lo+x))
  (Q:=λc f_=>∃x q a1,c=(M,x,q)/\f_=setArr st a1/\Chg T a lo a1/\x<=m_/\n+1<=x/\q+1<=x/\Dn LT a1 lo (lo+x)/\Fp LT a1 (lo+x - (q+1)) (lo+x)) ?_ ?_ ⟨0,a',rfl,rfl,hC,ZU _,by lia,d1,λp q h1 h2 h3 h4=>by rw[show p=q by lia];exact O.irr _⟩) ?_)
 intro x c f_ h1 h2 hz;obtain⟨q,a1,rfl,rfl,C1,h3,h4,D1,L1⟩:=hz;have e:=C1.perm.size_eq;dsimp only;refine ZF (gf (st:=setArr st a1) H hk C1.perm (by lia) (by lia) ?_);dsimp only;cases hl:LT (K a1 (lo+x)) (K a1 (lo+x - 1))with
 |true=>
  have D2:=D1.snoc O (by lia) (O.aa_ _ _ hl);simp only[Y8];by_cases hq:q>0;rw[ZO hq,reverseSlice'_eq];refine ZF (XQ (Zx ⟨0,_,rfl,rfl,C1.rev (by lia) (by lia),by lia,by lia,?_,λp q h1 h2 h3 h4=>by rw[show p=q by lia];exact O.irr _⟩));have D3:=rM (LT:=LT) (a:=a1) (lo:=lo) (i:=lo+x - (q+1)) (j:=lo+x) (by lia) (by lia) D1 L1;refine D3.snoc O (by lia) ?_;rw[ju (by lia),ju (by lia),ZO (by lia),ZJ (by lia)];exact D2 _ _ (by lia) (by lia) (by lia);refine aN hq ?_;exact Zx ⟨0,a1,rfl,rfl,C1,by lia,by lia,D2,λp q h1 h2 h3 h4=>by rw[show p=q by lia];exact O.irr _⟩
 |false=>
  simp only[ZY,Zj];refine ZF (gf (st:=setArr st a1) H hk C1.perm (by lia) (by lia) ?_);dsimp only;cases hg:LT (K a1 (lo+x - 1)) (K a1 (lo+x))with
  |true=>exact Zx ⟨x,q,a1,rfl,rfl,C1,by lia,h3,h4,D1,L1⟩
  |false=>
   refine Zx ⟨q+1,a1,rfl,rfl,C1,by lia,by lia,D1.snoc O (by lia) hg,λp p' h1 h2 h5 h6=>?_⟩;have key:∀p,lo+(x+1) - (q+1+1)<=p->p<lo+(x+1)->LT (K a1 p) (K a1 (lo+x - 1))=Y/\LT (K a1 (lo+x - 1)) (K a1 p)=Y:=λp h1 h2=>by
    by_cases e:p=lo+x;rw[e];exact⟨hl,hg⟩;exact⟨L1 _ _ (by lia) (by lia) (by lia) (by lia),L1 _ _ (by lia) (by lia) (by lia) (by lia)⟩
   exact O.tr _ _ _ (key p' h2 h6).2 (key p h1 h5).1
 intro c f_ hz;obtain⟨q,a1,rfl,rfl,C1,h3,h4,D1,L1⟩:=hz;rw[show max (n+1) m_=m_ by lia]at*;exact⟨m_,q,a1,rfl,rfl,C1,ZU _,h3,h4,D1,L1⟩;intro c f_ hz;obtain⟨x,q,a1,rfl,rfl,C1,h1,h3,h4,D1,L1⟩:=hz;have e:=C1.perm.size_eq;dsimp only;by_cases hq:q>0;refine aR hq ?_;refine ZF ?_;rw[reverseSlice'_eq];refine XQ ?_;exact rg O H hk (C1.rev (by lia) (by lia)) hz (by lia) h1 (rM (LT:=LT) (a:=a1) (lo:=lo) (i:=lo+x - (q+1)) (j:=lo+x) (by lia) (by lia) D1 L1) h;refine aN hq ?_;exact rg O H hk C1 hz (by lia) h1 D1 h
def my(O:aaI LT)(H:Ans prog w A s κ LT T)(hk:kindOf st=κ){lo m_:Nat}(hp:(arrOf st).Perm T)(hz:lo+m_<=T.size)(hn:1<=m_)(h:∀m a',1<=m->m<=m_->Chg T (arrOf st) lo a'->Up LT a' lo (lo+m)->Q (U m) (setArr st a')):wpS (model prog w) A E s (countRun' lo m_) Q st:=by
 have e:=hp.size_eq;have C0:Chg T (arrOf st) lo (arrOf st):=⟨hp,λ_ _=>rfl⟩
 rw[countRun'_eq];refine yb (a:=arrOf st) O H hk hp hz (ZU 1) hn (Up.one O) λm h1 h2 h3 h4=>?_;dsimp only;by_cases hm:m=m_;refine aR (Zw.mpr hm) ?_;exact Zx (h m (arrOf st) h1 h2 C0 h3);refine aN (λq=>hm (Zw.mp q)) ?_;have hl:=h4 (by lia);by_cases h5:m>1;refine aR h5 ?_;refine ZF (gf H hk hp (by lia) (by lia) ?_);dsimp only;cases hr:LT (K (arrOf st) lo) (K (arrOf st) (lo+m - 1))with
 |true=>
  simp only[Y8];exact Zx (h m (arrOf st) h1 h2 C0 h3)
 |false=>
  simp only[ZY,Zj];rw[reverseSlice'_eq];refine ZF (XQ ?_);have al:Fp LT (arrOf st) lo (lo+m):=λp q h1 h2 h5 h6=>O.tr _ _ _ (h3 q (lo+m - 1) h2 (by lia) (by lia)) (O.tr _ _ _ hr (h3 lo p (ZU _) h1 (by lia)));have D1:Dn LT (arrOf st) lo (lo+m):=λp q h1 h2 h5=>al p q h1 (by lia) (by lia) h5;refine uv O H hk (C0.rev (ZU _) (by lia)) hz h1 (by lia) (rM (LT:=LT) (a:=arrOf st) (lo:=lo) (i:=lo) (j:=lo+m) (by lia) (ZU _) D1 al) ?_ h;rw[ju (by lia),ju (by lia),ZJ (by lia),ZO (by lia)];cases hc:LT (K (arrOf st) (lo+m)) (K (arrOf st) (lo+(lo+m) - 1 - (lo+m - 1)))with
  |true=>rfl
  |false=>exact absurd (O.tr _ _ _ (al (lo+(lo+m) - 1 - (lo+m - 1)) (lo+m - 1) (by lia) (by lia) (by lia) (by lia)) hc) (by rw[hl];exact λq=>nomatch q)
 refine aN h5 ?_;have LG:m=1:=by lia
 exact uv O H hk C0 hz h1 (by lia) (by subst LG;exact Dn.one O) hl h
end
section
variable{LT:Keyed->Keyed->Bool}{st:SortSt}
def CB(O:aaI LT){lo k l:Nat}(hs:lo+k<a.size)(hl:l<=k)(hu:Up LT a lo (lo+k))(h1:∀p,p<l->LT (K a (lo+k)) (K a (lo+p))=Y)(h2:∀p,l<=p->p<k->LT (K a (lo+k)) (K a (lo+p))=L):
  Up LT (bubble a (lo+k) (lo+k - (lo+l))) lo (lo+(k+1)):=λp q g1 g2 g3=>by
 have J4:∀p,lo+l<=p->p<lo+k->LT (K a p) (K a (lo+k))=Y:=λp a1 a2=>by
  have:=h2 (p - lo) (by lia) (by lia);rw[show lo+(p - lo)=p by lia]at this;exact O.aa_ _ _ this
 have Li:∀p,lo<=p->p<lo+l->LT (K a (lo+k)) (K a p)=Y:=λp a1 a2=>by
  have:=h1 (p - lo) (by lia);rwa[show lo+(p - lo)=p by lia]at this
 have e:lo+k - (lo+k - (lo+l))=lo+l:=by lia
 rw[Ac hs (by lia),Ac hs (by lia),e]
 repeat' split
 all_goals first
  |exact O.irr _
  |(exfalso;lia)
  |exact J4 _ (by lia) (by lia)
  |exact Li _ (by lia) (by lia)
  |exact hu _ _ (by lia) (by lia) (by lia)
def jG(O:aaI LT)(H:Ans prog w A s κ LT T)(hk:kindOf st=κ){lo n ok:Nat}(hp:(arrOf st).Perm T)(hz:lo+n<=T.size)(hok:ok<=n)(hn:1<=n)(hu:Up LT (arrOf st) lo (lo+ok))(h:∀a',Chg T (arrOf st) lo a'->Up LT a' lo (lo+n)->Q L (setArr st a')):wpS (model prog w) A E s (binarySort' lo n ok) Q st:=by
 have e:=hp.size_eq;have C0:Chg T (arrOf st) lo (arrOf st):=⟨hp,λ_ _=>rfl⟩
 have Kt:Up LT (arrOf st) lo (lo+max ok 1):=by
  by_cases c:ok=0;subst c;exact Up.one O;rw[show max ok 1=ok by lia];exact hu
 rw[binarySort'_eq];refine ZF (XH (Yv (I:=λx c f_=>c=(M,())/\∃a1,f_=setArr st a1/\Chg T (arrOf st) lo a1/\Up LT a1 lo (lo+x))
  (Q:=λc f_=>c=(M,())/\∃a1,f_=setArr st a1/\Chg T (arrOf st) lo a1/\Up LT a1 lo (lo+n)) ?_ ?_ ⟨rfl,arrOf st,rfl,C0,Kt⟩) ?_)
 intro k c f_ h1 h2 hz;obtain⟨rfl,a1,rfl,C1,U1⟩:=hz;have e1:=C1.perm.size_eq;dsimp only;refine ZF (XH (Yv (I:=λx c f_=>∃l r,c=(M,l,r)/\f_=setArr st a1/\l<=r/\r<=k/\r - l+x<=k/\(∀p,p<l->LT (K a1 (lo+k)) (K a1 (lo+p))=Y)/\∀p,r<=p->p<k->LT (K a1 (lo+k)) (K a1 (lo+p))=L)
  (Q:=λc f_=>∃l r,c=(M,l,r)/\f_=setArr st a1/\l<=k/\(∀p,p<l->LT (K a1 (lo+k)) (K a1 (lo+p))=Y)/\∀p,l<=p->p<k->LT (K a1 (lo+k)) (K a1 (lo+p))=L) ?_ ?_ ⟨0,k,rfl,rfl,Zs _,ZU _,by lia,λp hp=>absurd hp (Xw _),λp q1 q2=>absurd q2 (by lia)⟩) ?_)
 intro x c f_ g1 g2 hz;obtain⟨l,r,rfl,rfl,g3,g4,g5,g6,g7⟩:=hz;dsimp only;by_cases N2:l>=r;refine aR N2 ?_;have:l=r:=by lia
 exact Zx ⟨l,r,rfl,rfl,by lia,g6,by rw[this];exact g7⟩;refine aN N2 ?_;refine ZF (gf (st:=setArr st a1) H hk C1.perm (by lia) (by lia) ?_);dsimp only;cases hl:LT (K a1 (lo+k)) (K a1 (lo+(l+r) / 2))with
 |true=>
  refine Zx ⟨l,(l+r) / 2,rfl,rfl,by lia,by lia,by lia,g6,λp q1 q2=>?_⟩;cases hc:LT (K a1 (lo+k)) (K a1 (lo+p))with
  |true=>rfl
  |false=>exact absurd (O.tr _ _ _ (U1 (lo+(l+r) / 2) (lo+p) (by lia) (by lia) (by lia)) hc) (by rw[hl];exact λq=>nomatch q)
 |false=>
  refine Zx ⟨(l+r) / 2+1,r,rfl,rfl,by lia,g4,by lia,λp q1=>?_,g7⟩;exact O.tr _ _ _ (U1 (lo+p) (lo+(l+r) / 2) (by lia) (by lia) (by lia)) hl
 intro c f_ hz;obtain⟨l,r,rfl,rfl,g3,g4,g5,g6,g7⟩:=hz;have:l=r:=by lia
 exact⟨l,r,rfl,rfl,by lia,g6,by rw[this];exact g7⟩;intro c f_ hz;obtain⟨l,r,rfl,rfl,g1,g2,g3⟩:=hz;dsimp only;rw[moveDown'_eq];exact ZF (XQ (Zx ⟨rfl,_,rfl,C1.bub (by lia) (by lia),CB O (show lo+k<a1.size by lia) g1 U1 g2 g3⟩));intro c f_ hz;obtain⟨rfl,a1,rfl,C1,U1⟩:=hz;rw[show max (max ok 1) n=n by lia]at U1;exact⟨rfl,a1,rfl,C1,U1⟩;intro c f_ hz;obtain⟨rfl,a1,rfl,C1,U1⟩:=hz;exact Zx (h a1 C1 U1)
def da:Bool->Keyed->Array Keyed->Nat->Nat->Nat->StateT SortSt Sem (Z8 Nat):=sortPriv%PySem.Builtin.gallop
noncomputable def bey(left:Bool)(key:Keyed)(arr:Array Keyed)(base i:Nat):StateT SortSt Sem (Z8 Bool):=do
 let x <-elem' arr (base+i)
 if left then lt' x key else return (<-lt' key x).map (!·)
theorem qU(left:Bool)(key:Keyed)(arr:Array Keyed)(base n hint:Nat):da left key arr base n hint=(do
 let mut IJ:=0
 let mut K6:=1
 let mut lo:=0
 let mut hi:=0
 let some right <-bey left key arr base hint|return M
 if right then
  let IY:=n - hint
  for _ in [0:n] do
   if K6>=IY then break
   let some more <-bey left key arr base (hint+K6)|return M
   if !more then break
   IJ:=K6
   K6:=2*K6+1
  lo:=hint+IJ+1
  hi:=hint+min K6 IY
 else
  let IY:=hint+1
  for _ in [0:n] do
   if K6>=IY then break
   let some found <-bey left key arr base (hint - K6)|return M
   if found then break
   IJ:=K6
   K6:=2*K6+1
  lo:=hint+1 - min K6 IY
  hi:=hint - IJ
 for _ in [0:n] do
  if lo>=hi then break
  let m:=lo+(hi - lo) / 2
  let some more <-bey left key arr base m|return M
  if more then lo:=m+1 else hi:=m
 return U hi):=rfl
noncomputable def fB(LT:Keyed->Keyed->Bool)(left:Bool)(key:Keyed)(arr:Array Keyed)(base i:Nat):Bool:=if left then LT (K arr (base+i)) key else !LT key (K arr (base+i))
def oU(H:Ans prog w A s κ LT T)(hk:kindOf st=κ)(s_:key∈T)(hi:base+i<arr.size)(hx:K arr (base+i)∈T)(h:Q (U (fB LT left key arr base i)) st):wpS (model prog w) A E s (bey left key arr base i) Q st:=by
 unfold bey;refine ZF (aH hi ?_);unfold fB at h;cases left with
 |true=>exact qZ H hk hx s_ h
 |false=>
  simp only[ZY,Zj]at h⊢;exact ZF (qZ H hk s_ hx (Zx h))
def ji(O:aaI LT)(hu:Up LT arr base (base+n))(K8:i<=j)(hj:j<n)(h:fB LT left key arr base j=L):fB LT left key arr base i=L:=by
 have u:=hu (base+i) (base+j) (by lia) (by lia) (by lia);unfold fB at h⊢;cases left with
 |true=>
  simp only[Y8]at h⊢;cases hc:LT (K arr (base+i)) key with
  |true=>rfl
  |false=>exact absurd (O.tr _ _ _ hc u) (by rw[h];exact λq=>nomatch q)
 |false=>
  simp only[ZY,Zj,Yu]at h⊢;exact O.tr _ _ _ u h
def yF(O:aaI LT)(H:Ans prog w A s κ LT T)(hk:kindOf st=κ)(s_:key∈T)(hb:base+n<=arr.size)(hx:∀i,i<n->K arr (base+i)∈T)(hu:Up LT arr base (base+n)){lo hi:Nat}(h1:lo<=hi)(h2:hi<=n)(h3:∀i,i<lo->fB LT left key arr base i=L)(h4:hi<n->fB LT left key arr base hi=Y)(h:∀k,k<=n->(∀i,i<k->fB LT left key arr base i=L)->(∀i,k<=i->i<n->fB LT left key arr base i=Y)->Q (U k) st):
  wpS (model prog w) A E s (do
   let mut lo:=lo
   let mut hi:=hi
   for _ in [0:n] do
    if lo>=hi then break
    let m:=lo+(hi - lo) / 2
    let some more <-bey left key arr base m|return M
    if more then lo:=m+1 else hi:=m
   return U hi) Q st:=by
 have fin:∀k,k<=n->(∀i,i<k->fB LT left key arr base i=L)->(k<n->fB LT left key arr base k=Y)->Q (U k) st:=λk a1 a2 a3=>h k a1 a2 λi b1 b2=>by
  cases hc:fB LT left key arr base i with
  |false=>rfl
  |true=>exact absurd (ji O hu b1 b2 hc) (by rw[a3 (by lia)];exact λq=>nomatch q)
 refine ZF (XH (Yv (I:=λx c f_=>∃lo hi,c=(M,lo,hi)/\f_=st/\lo<=hi/\hi<=n/\hi - lo+x<=n/\(∀i,i<lo->fB LT left key arr base i=L)/\(hi<n->fB LT left key arr base hi=Y))
  (Q:=λc f_=>∃hi,c=(M,hi,hi)/\f_=st/\hi<=n/\(∀i,i<hi->fB LT left key arr base i=L)/\(hi<n->fB LT left key arr base hi=Y)) ?_ ?_ ⟨lo,hi,rfl,rfl,h1,h2,by lia,h3,h4⟩) ?_)
 intro x c f_ g1 g2 hz;obtain⟨lo,hi,rfl,rfl,g3,g4,g5,g6,g7⟩:=hz;dsimp only;by_cases N2:lo>=hi;refine aR N2 ?_;obtain rfl:lo=hi:=by lia
 exact Zx ⟨lo,rfl,rfl,g4,g6,g7⟩;refine aN N2 ?_;refine ZF (oU H hk s_ (by lia) (hx _ (by lia)) ?_);dsimp only;cases hl:fB LT left key arr base (lo+(hi - lo) / 2)with
 |true=>exact Zx ⟨lo+(hi - lo) / 2+1,hi,rfl,rfl,by lia,g4,by lia,λi k_=>ji O hu (show i<=lo+(hi - lo) / 2 by lia) (by lia) hl,g7⟩
 |false=>exact Zx ⟨lo,lo+(hi - lo) / 2,rfl,rfl,by lia,by lia,by lia,g6,λ_=>hl⟩
 intro c f_ hz;obtain⟨lo,hi,rfl,rfl,g3,g4,g5,g6,g7⟩:=hz;obtain rfl:lo=hi:=by lia
 exact⟨lo,rfl,rfl,g4,g6,g7⟩;intro c f_ hz;obtain⟨hi,rfl,rfl,g4,g6,g7⟩:=hz;exact Zx (fin hi g4 g6 g7)
def cn(O:aaI LT)(H:Ans prog w A s κ LT T)(hk:kindOf st=κ)(s_:key∈T)(hb:base+n<=arr.size)(hh:hint<n)(hx:∀i,i<n->K arr (base+i)∈T)(hu:Up LT arr base (base+n))(h:∀k,k<=n->(∀i,i<k->fB LT left key arr base i=L)->(∀i,k<=i->i<n->fB LT left key arr base i=Y)->Q (U k) st):wpS (model prog w) A E s (da left key arr base n hint) Q st:=by
 rw[qU];dsimp only;refine ZF (oU H hk s_ (by lia) (hx _ hh) ?_);dsimp only;cases hr:fB LT left key arr base hint with
 |true=>
  simp only[Y8];refine ZF (XH (Yv (I:=λx c f_=>∃la of,c=(M,la,of)/\f_=st/\x+1<=of/\la+1<=of/\la<n - hint/\fB LT left key arr base (hint+la)=L)
   (Q:=λc f_=>∃la of,c=(M,la,of)/\f_=st/\la+1<=of/\la<n - hint/\fB LT left key arr base (hint+la)=L/\(of<n - hint->fB LT left key arr base (hint+of)=Y)) ?_ ?_ ⟨0,1,rfl,rfl,by lia,by lia,by lia,hr⟩) ?_)
  intro x c f_ g1 g2 hz;obtain⟨la,of,rfl,rfl,g3,g4,g5,g6⟩:=hz;dsimp only;by_cases ho:of>=n - hint;refine aR ho ?_;exact Zx ⟨la,of,rfl,rfl,g4,g5,g6,λq=>absurd q (by lia)⟩;refine aN ho ?_;refine ZF (oU H hk s_ (by lia) (hx _ (by lia)) ?_);dsimp only;cases hm:fB LT left key arr base (hint+of)with
  |false=>exact Zx ⟨la,of,rfl,rfl,g4,g5,g6,λ_=>hm⟩
  |true=>exact Zx ⟨of,2*of+1,rfl,rfl,by lia,by lia,by lia,hm⟩
  intro c f_ hz;obtain⟨la,of,rfl,rfl,g3,g4,g5,g6⟩:=hz;exact⟨la,of,rfl,rfl,g4,g5,g6,λq=>absurd q (by lia)⟩;intro c f_ hz;obtain⟨la,of,rfl,rfl,g4,g5,g6,g7⟩:=hz;dsimp only;refine yF O H hk s_ hb hx hu (by lia) (by lia) (λi hi=>ji O hu (show i<=hint+la by lia) (by lia) g6) (λj_=>?_) h;by_cases c:of<n - hint;rw[show min of (n - hint)=of by lia];exact g7 c;lia
 |false=>
  simp only[ZY,Zj];refine ZF (XH (Yv (I:=λx c f_=>∃la of,c=(M,la,of)/\f_=st/\x+1<=of/\la+1<=of/\la<=hint/\fB LT left key arr base (hint - la)=Y)
   (Q:=λc f_=>∃la of,c=(M,la,of)/\f_=st/\la+1<=of/\la<=hint/\fB LT left key arr base (hint - la)=Y/\(of<hint+1->fB LT left key arr base (hint - of)=L)) ?_ ?_ ⟨0,1,rfl,rfl,by lia,by lia,by lia,hr⟩) ?_)
  intro x c f_ g1 g2 hz;obtain⟨la,of,rfl,rfl,g3,g4,g5,g6⟩:=hz;dsimp only;by_cases ho:of>=hint+1;refine aR ho ?_;exact Zx ⟨la,of,rfl,rfl,g4,g5,g6,λq=>absurd q (by lia)⟩;refine aN ho ?_;refine ZF (oU H hk s_ (by lia) (hx _ (by lia)) ?_);dsimp only;cases hm:fB LT left key arr base (hint - of)with
  |true=>exact Zx ⟨la,of,rfl,rfl,g4,g5,g6,λ_=>hm⟩
  |false=>exact Zx ⟨of,2*of+1,rfl,rfl,by lia,by lia,by lia,hm⟩
  intro c f_ hz;obtain⟨la,of,rfl,rfl,g3,g4,g5,g6⟩:=hz;exact⟨la,of,rfl,rfl,g4,g5,g6,λq=>absurd q (by lia)⟩;intro c f_ hz;obtain⟨la,of,rfl,rfl,g4,g5,g6,g7⟩:=hz;dsimp only;refine yF O H hk s_ hb hx hu (by lia) (by lia) (λi hi=>?_) (λ_=>g6) h;by_cases c:of<hint+1;exact ji O hu (show i<=hint - of by lia) (by lia) (g7 c);lia
end
def bh:Nat->StateT SortSt Sem Unit:=sortPriv%PySem.Builtin.setMinGallop
abbrev ao(st:SortSt)(g:Nat):SortSt:=SortSt.mk' (kindOf st) (arrOf st) (pendingOf st) g (failedOf st)
theorem aZ(g:Nat):bh g=modify λs=>ao s g:=rfl
def jA:Array Keyed->Array Keyed->StateT SortSt Sem (Array Keyed):=sortPriv%PySem.Builtin.mergeLo
def jI:Array Keyed->Array Keyed->StateT SortSt Sem (Array Keyed):=sortPriv%PySem.Builtin.mergeHi
section
variable{LT:Keyed->Keyed->Bool}
def fu(a:Array Keyed)(i:Nat):K a i=(a.toList[i]?).getD nK:=by unfold K;rw[Wn]
def fK{a:Array Keyed}{i:Nat}(h:i<a.size):a.toList.drop i=[K a i]++a.toList.drop (i+1):=by
 rw[Zn (by simpa using h),fu];simp[h]
def cb(a:Array Keyed)(i k:Nat):a.toList.drop i=(a.extract i (i+k)).toList++a.toList.drop (i+k):=by
 rw[XA,List.extract_eq_take_drop,show i+k - i=k by lia,<-List.drop_drop,X7]
def fj(a:Array Keyed)(i:Nat):(a.extract i a.size).toList=a.toList.drop i:=by
 rw[XA,List.extract_eq_take_drop];exact YN (by simp)
def dh{a:Array Keyed}{i:Nat}(h:a.size<=i):a.toList.drop i=[]:=List.drop_of_length_le (by simpa using h)
def cU{a:Array Keyed}(h:x∈a.toList.drop i):∃j,i<=j/\j<a.size/\x=K a j:=by
 obtain⟨k,hk,e⟩:=List.mem_drop_iff_getElem.mp h;simp at hk;exact⟨i+k,by lia,by lia,by rw[fu];simp[show i+k<a.size by lia,<-e]⟩
def cY{a:Array Keyed}(h:x∈a.toList.take i):∃j,j<i/\j<a.size/\x=K a j:=by
 obtain⟨k,hk,e⟩:=List.mem_take_iff_getElem.mp h;simp at hk;exact⟨k,by lia,by lia,by rw[fu];simp[show k<a.size by lia,<-e]⟩
def aY{a:Array Keyed}(h:x∈(a.extract i j).toList):∃k,i<=k/\k<j/\k<a.size/\x=K a k:=by
 rw[XA,List.extract_eq_take_drop]at h;obtain⟨k,hk,e⟩:=List.mem_take_iff_getElem.mp h;simp at hk;exact⟨i+k,by lia,by lia,by lia,by rw[fu];simp[show i+k<a.size by lia,<-e]⟩
def fM{a:Array Keyed}{i:Nat}(h:i<a.size):(a.toList.take (i+1)).reverse=[K a i]++(a.toList.take i).reverse:=by
 rw[List.take_succ_eq_append_getElem (by simpa using h),XW,fu];simp[h]
def kO(a:Array Keyed){i k:Nat}(h:i<=k):(a.toList.take k).reverse=(a.extract i k).reverse.toList++(a.toList.take i).reverse:=by
 rw[XZ,<-XW,XA,List.extract_eq_take_drop];congr 1;rw[<-X7 i (a.toList.take k),List.take_take,Wv h,List.drop_take]
def dg(a:Array Keyed)(i:Nat):(a.extract 0 i).toList=a.toList.take i:=by
 rw[XA,List.extract_eq_take_drop];simp
def R(LT:Keyed->Keyed->Bool)(x y:Keyed):Prop:=LT y x=Y
structure J (LT:Keyed->Keyed->Bool)(T out ra rb:List Keyed):Prop where
 pm:(out++ra++rb).Perm T
 sa:(out++ra).Pairwise (R LT)
 sb:(out++rb).Pairwise (R LT)
structure Good (LT:Keyed->Keyed->Bool)(T l:List Keyed):Prop where
 pm:l.Perm T
 so:l.Pairwise (R LT)
def J.swap(h:J LT T out ra rb):J LT T out rb ra:=⟨by
 have:=h.pm;rw[Zd]at this⊢;exact((List.Perm.append_left out List.perm_append_comm).trans this),h.sb,h.sa⟩
def J.push(h:J LT T out (c++ra) rb)(q:∀x∈c,∀y∈rb,LT y x=Y):J LT T (out++c) ra rb:=by
 obtain⟨h1,h2,h3⟩:=h;refine⟨by rw[<-Zd]at h1;exact h1,by rw[<-Zd]at h2;exact h2,?_⟩;rw[<-Zd]at h2;rw[Yh]at h3⊢;refine⟨(Yh.mp h2).1,h3.2.1,λx hx y hy=>?_⟩;rcases Zr.mp hx with hx|hx;exact h3.2.2 x hx y hy;exact q x hx y hy
def J.done(h:J LT T out ra []):Good LT T (out++ra):=⟨by simpa using h.pm,h.sa⟩
def J.last(h:J LT T out [z] rb)(q:∀y∈rb,LT z y=Y):Good LT T (out++rb++[z]):=by
 refine⟨h.swap.pm,?_⟩;rw[Yh];refine⟨h.sb,List.pairwise_singleton _ _,λx hx y hy=>?_⟩;rw[Zv]at hy;subst hy;rcases Zr.mp hx with hx|hx;exact(Yh.mp h.sa).2.2 x hx y (.head _);exact q x hx
end
abbrev LS:=Z8 (Array Keyed)×Array Keyed×Nat×Nat×Nat×Nat×Nat
abbrev dn'(a b out:Array Keyed)(ia ib:Nat):Array Keyed:=out++a.extract ia a.size++b.extract ib b.size
abbrev la'(a b out:Array Keyed)(ia ib:Nat):Array Keyed:=out++b.extract ib b.size++a.extract ia a.size
noncomputable def loC(a b out:Array Keyed)(ia ib mg ac bc:Nat):StateT SortSt Sem (ForInStep LS):=do
 let x <-elem' a ia
 if ia+1+1==a.size then pure (.done (U (la' a b (out.push x) (ia+1) ib),out.push x,ia+1,ib,mg,ac,bc))
 else if ac<7&&bc<7 then pure (.done (M,out.push x,ia+1,ib,mg,ac,bc)) else pure (.yield (M,out.push x,ia+1,ib,mg,ac,bc))
noncomputable def loB(a b out:Array Keyed)(ia ib mg ac bc:Nat):StateT SortSt Sem (ForInStep LS):=do
 let x <-elem' b ib
 if ib+1==b.size then pure (.done (U (dn' a b (out.push x) ia (ib+1)),out.push x,ia,ib+1,mg,ac,bc))
 else do
  let y <-elem' a ia
  match <-da L y b (ib+1) (b.size - (ib+1)) 0 with
  |some k=>
   if k>0 then
    if ib+1+k==b.size then pure (.done (U (dn' a b (out.push x++b.extract (ib+1) (ib+1+k)) ia (ib+1+k)),out.push x++b.extract (ib+1) (ib+1+k),ia,ib+1+k,mg,ac,k))
    else loC a b (out.push x++b.extract (ib+1) (ib+1+k)) ia (ib+1+k) mg ac k
   else loC a b (out.push x) ia (ib+1) mg ac k
  |_=>pure (.done (U (dn' a b (out.push x) ia (ib+1)),out.push x,ia,ib+1,mg,ac,bc))
noncomputable def loA(a b out:Array Keyed)(ia ib mg ac bc:Nat):StateT SortSt Sem (ForInStep LS):=do
 bh mg
 let y <-elem' b ib
 match <-da Y y a ia (a.size - ia) 0 with
 |some k=>
  if k>0 then
   if ia+k+1==a.size then pure (.done (U (la' a b (out++a.extract ia (ia+k)) (ia+k) ib),out++a.extract ia (ia+k),ia+k,ib,mg,k,bc))
   else if ia+k==a.size then pure (.done (U (dn' a b (out++a.extract ia (ia+k)) (ia+k) ib),out++a.extract ia (ia+k),ia+k,ib,mg,k,bc))
   else loB a b (out++a.extract ia (ia+k)) (ia+k) ib mg k bc
  else loB a b out ia ib mg k bc
 |_=>pure (.done (U (dn' a b out ia ib),out,ia,ib,mg,ac,bc))
abbrev WS:=Z8 (Array Keyed)×Array Keyed×Nat×Nat×Nat×Nat
abbrev OS:=Z8 (Array Keyed)×Array Keyed×Nat×Nat×Nat
noncomputable def Sk(a b out:Array Keyed)(ia ib mg ac bc:Nat):StateT SortSt Sem (ForInStep WS):=do
 let x <-elem' b ib
 let y <-elem' a ia
 match <-lt' x y with
 |some t=>
  if t then do
   let x <-elem' b ib
   if ib+1==b.size then pure (.done (U (dn' a b (out.push x) ia (ib+1)),out.push x,ia,ib+1,0,bc+1))
   else if bc+1>=mg then pure (.done (M,out.push x,ia,ib+1,0,bc+1)) else pure (.yield (M,out.push x,ia,ib+1,0,bc+1))
  else do
   let x <-elem' a ia
   if ia+1+1==a.size then pure (.done (U (la' a b (out.push x) (ia+1) ib),out.push x,ia+1,ib,ac+1,0))
   else if ac+1>=mg then pure (.done (M,out.push x,ia+1,ib,ac+1,0)) else pure (.yield (M,out.push x,ia+1,ib,ac+1,0))
 |_=>pure (.done (U (dn' a b out ia ib),out,ia,ib,ac,bc))
noncomputable def Ql(a b out:Array Keyed)(ia ib mg ac bc:Nat):StateT SortSt Sem (ForInStep LS):=if mg>1 then loA a b out ia ib (mg - 1) ac bc else loA a b out ia ib mg ac bc
noncomputable def Sl(a b out:Array Keyed)(ia ib mg:Nat):StateT SortSt Sem (ForInStep OS):=do
 let d <-forIn [:a.size+b.size] ((M,out,ia,ib,0,0):WS) λ_ c=>Sk a b c.2.1 c.2.2.1 c.2.2.2.1 mg c.2.2.2.2.1 c.2.2.2.2.2
 Break.runK.match_1 (λ_=>StateT SortSt Sem (ForInStep OS)) d.1 (λr=>pure (.done (U r,d.2.1,d.2.2.1,d.2.2.2.1,mg))) λ_=>do
  rule "list.sort.gallop"
  let c <-forIn [:a.size+b.size] ((M,d.2.1,d.2.2.1,d.2.2.2.1,mg+1,d.2.2.2.2.1,d.2.2.2.2.2):LS) λ_ c=>Ql a b c.2.1 c.2.2.1 c.2.2.2.1 c.2.2.2.2.1 c.2.2.2.2.2.1 c.2.2.2.2.2.2
  Break.runK.match_1 (λ_=>StateT SortSt Sem (ForInStep OS)) c.1 (λr=>pure (.done (U r,c.2.1,c.2.2.1,c.2.2.2.1,c.2.2.2.2.1))) λ_=>do
   bh (c.2.2.2.2.1+1)
   pure (.yield (M,c.2.1,c.2.2.1,c.2.2.2.1,c.2.2.2.2.1+1))
def Fh(a b:Array Keyed):jA a b=(do
 rule "list.sort.merge-lo"
 let x <-elem' b 0
 if 1==b.size then pure (dn' a b #[x] 0 1)
 else if 0+1==a.size then pure (la' a b #[x] 0 1)
 else do
  let s <-get
  let c <-forIn [:a.size+b.size] ((M,#[x],0,1,gallopOf s):OS) λ_ c=>Sl a b c.2.1 c.2.2.1 c.2.2.2.1 c.2.2.2.2
  Break.runK.match_1 (λ_=>StateT SortSt Sem (Array Keyed)) c.1 pure λ_=>unsupported "internal:list.sort.merge-bound"):=rfl
section
variable{LT:Keyed->Keyed->Bool}{T:Array Keyed}{st:SortSt}{a b:Array Keyed}
structure Two (LT:Keyed->Keyed->Bool)(T a b:Array Keyed):Prop where
 ha:∀i,i<a.size->K a i∈T
 hb:∀i,i<b.size->K b i∈T
 ua:Up LT a 0 a.size
 ub:Up LT b 0 b.size
 za:0<a.size
 zb:0<b.size
 h0:∀j,j<a.size->LT (K a j) (K b 0)=false
 hl:∀j,j<b.size->LT (K a (a.size - 1)) (K b j)=false
abbrev JL(LT:Keyed->Keyed->Bool)(a b out:Array Keyed)(ia ib:Nat):Prop:=J LT (a.toList++b.toList) out.toList (a.toList.drop ia) (b.toList.drop ib)
variable{out:Array Keyed}{ia ib:Nat}
def JL.dB(j:JL LT a b out ia ib)(e:ib=b.size):Good LT (a.toList++b.toList) (dn' a b out ia ib).toList:=by
 rw[Zi,Zi,fj,fj];rw[JL,dh (a:=b) (by lia)]at j;rw[dh (a:=b) (by lia),YX];exact j.done
def JL.dA(j:JL LT a b out ia ib)(e:ia=a.size):Good LT (a.toList++b.toList) (dn' a b out ia ib).toList:=by
 rw[Zi,Zi,fj,fj];rw[JL,dh (a:=a) (by lia)]at j;rw[dh (a:=a) (by lia),YX];exact j.swap.done
def JL.lA(W:Two LT T a b)(j:JL LT a b out ia ib)(e:ia+1=a.size):Good LT (a.toList++b.toList) (la' a b out ia ib).toList:=by
 rw[Zi,Zi,fj,fj];rw[JL,fK (show ia<a.size by lia),dh (a:=a) (show a.size<=ia+1 by lia),YX]at j;rw[fK (show ia<a.size by lia),dh (a:=a) (show a.size<=ia+1 by lia),YX];refine j.last λy hy=>?_;obtain⟨k,_,hk,rfl⟩:=cU hy;rw[show ia=a.size - 1 by lia];exact W.hl k hk
def JL.pB(j:JL LT a b out ia ib)(e:ib<b.size)(q:∀k,ia<=k->k<a.size->LT (K a k) (K b ib)=Y):JL LT a b (out.push (K b ib)) ia (ib+1):=by
 rw[JL,YD];rw[JL,fK e]at j;refine(j.swap.push λx hx y hy=>?_).swap;obtain rfl:=Zv.mp hx;obtain⟨k,h1,h2,rfl⟩:=cU hy;exact q k h1 h2
def JL.pA(j:JL LT a b out ia ib)(e:ia<a.size)(q:∀k,ib<=k->k<b.size->LT (K b k) (K a ia)=Y):JL LT a b (out.push (K a ia)) (ia+1) ib:=by
 rw[JL,YD];rw[JL,fK e]at j;refine j.push λx hx y hy=>?_;obtain rfl:=Zv.mp hx;obtain⟨k,h1,h2,rfl⟩:=cU hy;exact q k h1 h2
def JL.cA(k:Nat)(j:JL LT a b out ia ib)(q:∀i,i<k->ia+i<a.size->∀j,ib<=j->j<b.size->LT (K b j) (K a (ia+i))=Y):JL LT a b (out++a.extract ia (ia+k)) (ia+k) ib:=by
 rw[JL,Zi];rw[JL,cb a ia k]at j;refine j.push λx hx y hy=>?_;obtain⟨i,h1,h2,h3,rfl⟩:=aY hx;obtain⟨k,h4,h5,rfl⟩:=cU hy;have:=q (i - ia) (by lia) (by lia) k h4 h5;rwa[show ia+(i - ia)=i by lia]at this
def JL.cB(k:Nat)(j:JL LT a b out ia ib)(q:∀i,i<k->ib+i<b.size->∀j,ia<=j->j<a.size->LT (K a j) (K b (ib+i))=Y):JL LT a b (out++b.extract ib (ib+k)) ia (ib+k):=by
 rw[JL,Zi];rw[JL,cb b ib k]at j;refine(j.swap.push λx hx y hy=>?_).swap;obtain⟨i,h1,h2,h3,rfl⟩:=aY hx;obtain⟨k,h4,h5,rfl⟩:=cU hy;have:=q (i - ib) (by lia) (by lia) k h4 h5;rwa[show ib+(i - ib)=i by lia]at this
def abD(u:Up LT c 0 c.size):c.toList.Pairwise (R LT):=Xx.mpr λi j hi hj K8=>by
 simp at hi hj;have:=u i j (Zs _) (by lia) hj;unfold R;unfold K at this;simpa[hi,hj]using this
def Two.j0(W:Two LT T a b):JL LT a b #[K b 0] 0 1:=by
 have j:JL LT a b #[] 0 0:=⟨Yy _,abD W.ua,abD W.ub⟩;exact j.pB W.zb λk _ hk=>W.h0 k hk
abbrev IL(LT:Keyed->Keyed->Bool)(a b:Array Keyed)(n:Nat)(out:Array Keyed)(ia ib:Nat):Prop:=JL LT a b out ia ib/\ia+1<a.size/\ib<b.size/\n<=ia+ib
structure acm (LT:Keyed->Keyed->Bool)(a b:Array Keyed)(st:SortSt)(n0:Nat)(P:ForInStep LS->SortSt->Prop):Prop where
 good:∀m r g,Good LT (a.toList++b.toList) m.toList->P (.done (some m,r)) (ao st g)
 next:∀out ia ib mg ac bc g,IL LT a b (n0+1) out ia ib->P (.done (none,out,ia,ib,mg,ac,bc)) (ao st g)/\P (.yield (none,out,ia,ib,mg,ac,bc)) (ao st g)
variable{n0 mg ac bc:Nat}
def yx(W:Two LT T a b)(j:IL LT a b n0 out ia ib)(Z:acm LT a b st n0 P)(q:∀k,ib<=k->k<b.size->LT (K b k) (K a ia)=Y):
  wpS (model prog w) A E s (loC a b out ia ib mg ac bc) P (ao st g):=by
 obtain⟨j,h1,h2,h3⟩:=j;refine ZF (aH (by lia) ?_);have j1:=j.pA (by lia) q;by_cases e:ia+1+1=a.size;refine aR (Zw.mpr e) ?_;exact Zx (Z.good _ _ _ (j1.lA W e))
 .refine aN (λq=>e (Zw.mp q)) ?_
  have z:=λac bc=>Z.next _ _ _ mg ac bc g ⟨j1,by lia,h2,by lia⟩;by_cases c:(decide (ac<7)&&decide (bc<7))=L;refine aR c ?_;exact Zx (z ac bc).1;refine aN c ?_;exact Zx (z ac bc).2
variable(O:aaI LT)(H:Ans prog w A s κ LT T)(hk:kindOf st=κ)(W:Two LT T a b)
include O H hk W
section
variable(j:IL LT a b n0 out ia ib)
include j
def ym(Z:acm LT a b st n0 P)(q:∀k,ia<=k->k<a.size->LT (K a k) (K b ib)=Y):
  wpS (model prog w) A E s (loB a b out ia ib mg ac bc) P (ao st g):=by
 obtain⟨j,h1,h2,h3⟩:=j;refine ZF (aH h2 ?_);have j1:=j.pB h2 q;by_cases e:ib+1=b.size;refine aR (Zw.mpr e) ?_;exact Zx (Z.good _ _ _ (j1.dB e));refine aN (λq=>e (Zw.mp q)) ?_;refine ZF (aH (by lia) ?_);refine ZF (cn (st:=ao st g) O H hk (W.ha _ (by lia)) (by lia) (by lia) (λi hi=>W.hb _ (by lia)) (λp q a1 a2 a3=>W.ub p q (Zs _) a2 (by lia)) λk k1 k2 k3=>?_);have q2:∀m,ib+1+k<=m->m<b.size->LT (K b m) (K a ia)=Y:=λm m1 m2=>by
  have:=k3 (m - (ib+1)) (by lia) (by lia);unfold fB at this;simpa only[Y8,show ib+1+(m - (ib+1))=m by lia]using this
 dsimp only;by_cases c:k>0;refine aR c ?_;have j2:=j1.cB k λi i1 i2 m m1 m2=>O.tr _ _ _ (O.aa_ _ _ (by simpa only[fB,Y8]using k2 i i1)) (W.ua ia m (Zs _) m1 m2);by_cases e2:ib+1+k=b.size;refine aR (Zw.mpr e2) ?_;exact Zx (Z.good _ _ _ (j2.dB e2));refine aN (λq=>e2 (Zw.mp q)) ?_;exact yx W ⟨j2,h1,by lia,by lia⟩ Z q2;refine aN c ?_;exact yx W ⟨j1,h1,by lia,by lia⟩ Z (by rw[show k=0 by lia]at q2;exact q2)
def Dq(Z:acm LT a b st n0 P):wpS (model prog w) A E s (loA a b out ia ib mg ac bc) P (ao st g):=by
 obtain⟨j,h1,h2,h3⟩:=j;unfold loA;rw[aZ];refine ZF (XQ ?_);refine ZF (aH h2 ?_);refine ZF (cn (st:=ao st mg) O H hk (W.hb _ h2) (by lia) (by lia) (λi hi=>W.ha _ (by lia)) (λp q a1 a2 a3=>W.ua p q (Zs _) a2 (by lia)) λk k1 k2 k3=>?_);have q2:∀m,ia+k<=m->m<a.size->LT (K a m) (K b ib)=Y:=λm m1 m2=>by
  have:=k3 (m - ia) (by lia) (by lia);unfold fB at this;simp only[ZY,Zj,Bool.not_eq_false',show ia+(m - ia)=m by lia]at this;exact O.aa_ _ _ this
 dsimp only;by_cases c:k>0;refine aR c ?_;have j2:=j.cA k λi i1 i2 m m1 m2=>O.tr _ _ _ (by simpa only[fB,ZY,Zj,Yu]using k2 i i1) (W.ub ib m (Zs _) m1 m2);by_cases e1:ia+k+1=a.size;refine aR (Zw.mpr e1) ?_;exact Zx (Z.good _ _ _ (j2.lA W e1));refine aN (λq=>e1 (Zw.mp q)) ?_;by_cases e2:ia+k=a.size;refine aR (Zw.mpr e2) ?_;exact Zx (Z.good _ _ _ (j2.dA e2));refine aN (λq=>e2 (Zw.mp q)) ?_;exact ym O H hk W ⟨j2,by lia,h2,by lia⟩ Z q2;refine aN c ?_;exact ym O H hk W ⟨j,h1,h2,h3⟩ Z (by rw[show k=0 by lia]at q2;exact q2)
def CF{P:ForInStep WS->SortSt->Prop}(z1:∀m r,Good LT (a.toList++b.toList) m.toList->P (.done (U m,r)) (ao st g))(z2:∀out ia ib ac bc,IL LT a b n0 out ia ib->P (.done (M,out,ia,ib,ac,bc)) (ao st g)/\P (.yield (M,out,ia,ib,ac,bc)) (ao st g)):
  wpS (model prog w) A E s (Sk a b out ia ib mg ac bc) P (ao st g):=by
 obtain⟨j,i1,i2,i3⟩:=j;refine ZF (aH i2 (ZF (aH (by lia) (ZF (qZ (st:=ao st g) H hk (W.hb _ i2) (W.ha _ (by lia)) ?_)))));dsimp only;cases hw:LT (K b ib) (K a ia)with
 |true=>
  simp only[Y8];refine ZF (aH i2 ?_);have j1:=j.pB i2 λk k1 k2=>O.tr _ _ _ (O.aa_ _ _ hw) (W.ua ia k (Zs _) k1 k2);by_cases e:ib+1=b.size;refine aR (Zw.mpr e) ?_;exact Zx (z1 _ _ (j1.dB e));refine aN (λq=>e (Zw.mp q)) ?_;have z:=λac bc=>z2 _ _ _ ac bc ⟨j1,i1,by lia,by lia⟩;by_cases c:bc+1>=mg;refine aR c ?_;exact Zx (z _ _).1;refine aN c ?_;exact Zx (z _ _).2
 |false=>
  simp only[ZY,Zj];refine ZF (aH (by lia) ?_);have j1:=j.pA (by lia) λk k1 k2=>O.tr _ _ _ hw (W.ub ib k (Zs _) k1 k2);by_cases e:ia+1+1=a.size;refine aR (Zw.mpr e) ?_;exact Zx (z1 _ _ (j1.lA W e));refine aN (λq=>e (Zw.mp q)) ?_;have z:=λac bc=>z2 _ _ _ ac bc ⟨j1,by lia,i2,by lia⟩;by_cases c:ac+1>=mg;refine aR c ?_;exact Zx (z _ _).1;refine aN c ?_;exact Zx (z _ _).2
def DB(Z:acm LT a b st n0 P):wpS (model prog w) A E s (Ql a b out ia ib mg ac bc) P (ao st g):=by
 unfold Ql;split<;>exact Dq O H hk W j Z
def Bw{P:ForInStep OS->SortSt->Prop}(z1:∀m r g,Good LT (a.toList++b.toList) m.toList->P (.done (U m,r)) (ao st g))(z2:∀out ia ib mg g,IL LT a b (n0+1) out ia ib->P (.yield (M,out,ia,ib,mg)) (ao st g)):
  wpS (model prog w) A E s (Sl a b out ia ib mg) P (ao st g):=by
 have za:=W.za;refine ZF (XH (Yv (I:=λy c f_=>∃out ia ib ac bc,c=(M,out,ia,ib,ac,bc)/\f_=ao st g/\IL LT a b n0 out ia ib)
  (Q:=λc f_=>f_=ao st g/\((∃m r,c=(U m,r)/\Good LT (a.toList++b.toList) m.toList)\/∃out ia ib ac bc,c=(M,out,ia,ib,ac,bc)/\IL LT a b n0 out ia ib)) ?_ ?_ ⟨out,ia,ib,0,0,rfl,rfl,j⟩) ?_)
 intro y c f_ _ _ hz;obtain⟨out,ia,ib,ac,bc,rfl,rfl,j⟩:=hz;exact CF O H hk W j (λm r hm=>⟨rfl,.inl ⟨m,r,rfl,hm⟩⟩) λout ia ib ac bc j=>⟨⟨rfl,.inr ⟨_,_,_,_,_,rfl,j⟩⟩,⟨_,_,_,_,_,rfl,rfl,j⟩⟩
 intro c f_ hz;obtain⟨out,ia,ib,ac,bc,rfl,rfl,j⟩:=hz;exact⟨rfl,.inr ⟨_,_,_,_,_,rfl,j⟩⟩;intro c f_ hz;obtain⟨rfl,hz⟩:=hz;rcases hz with hz|hz;obtain⟨m,r,rfl,hm⟩:=hz;exact Zx (z1 m _ g hm);obtain⟨out,ia,ib,ac,bc,rfl,j⟩:=hz;refine ZF (wpS_lift (YC ⟨rfl,?_⟩));refine ZF (XH (Yv (I:=λy c f_=>∃out ia ib mg ac bc g,c=(M,out,ia,ib,mg,ac,bc)/\f_=ao st g/\IL LT a b n0 out ia ib/\(1<=y->n0<ia+ib))
  (Q:=λc f_=>∃g,f_=ao st g/\((∃m r,c=(U m,r)/\Good LT (a.toList++b.toList) m.toList)\/∃out ia ib mg ac bc,c=(M,out,ia,ib,mg,ac,bc)/\IL LT a b (n0+1) out ia ib)) ?_ ?_ ⟨out,ia,ib,_,ac,bc,g,rfl,rfl,j,λq=>absurd q (by lia)⟩) ?_)
 intro y c f_ _ _ hz;obtain⟨out,ia,ib,mg,ac,bc,g,rfl,rfl,j,_⟩:=hz;exact DB O H hk W j ⟨λm r g hm=>⟨g,rfl,.inl ⟨m,r,rfl,hm⟩⟩,λout ia ib mg ac bc g j=>⟨⟨g,rfl,.inr ⟨_,_,_,_,_,_,rfl,j⟩⟩,⟨_,_,_,_,_,_,g,rfl,rfl,⟨j.1,j.2.1,j.2.2.1,by lia⟩,λ_=>j.2.2.2⟩⟩⟩;intro c f_ hz;obtain⟨out,ia,ib,mg,ac,bc,g,rfl,rfl,⟨j,i1,i2,i3⟩,i4⟩:=hz;exact⟨g,rfl,.inr ⟨_,_,_,_,_,_,rfl,j,i1,i2,i4 (by lia)⟩⟩;intro c f_ hz;obtain⟨g,rfl,hz⟩:=hz;rcases hz with hz|hz;obtain⟨m,r,rfl,hm⟩:=hz;exact Zx (z1 m _ g hm);obtain⟨out,ia,ib,mg,ac,bc,rfl,j⟩:=hz;dsimp only;rw[aZ];exact ZF (XQ (Zx (z2 _ _ _ _ _ j)))
end
def pK(h:∀m g,Good LT (a.toList++b.toList) m.toList->Q m (ao st g)):wpS (model prog w) A E s (jA a b) Q st:=by
 rw[Fh];refine ZF (wpS_lift (YC ⟨rfl,?_⟩));refine ZF (aH W.zb ?_);by_cases e1:1=b.size;refine aR (Zw.mpr e1) ?_;exact Zx (h _ (gallopOf st) (W.j0.dB e1));refine aN (λq=>e1 (Zw.mp q)) ?_;by_cases e2:0+1=a.size;refine aR (Zw.mpr e2) ?_;exact Zx (h _ (gallopOf st) (W.j0.lA W e2));refine aN (λq=>e2 (Zw.mp q)) ?_;have za:=W.za;have zb:=W.zb;refine ZF (Wb ?_);refine ZF (XH (Yv (I:=λx c f_=>∃out ia ib mg g,c=(M,out,ia,ib,mg)/\f_=ao st g/\IL LT a b (x+1) out ia ib)
  (Q:=λc f_=>∃m g r,c=(U m,r)/\f_=ao st g/\Good LT (a.toList++b.toList) m.toList) ?_ ?_ ⟨_,_,_,_,gallopOf st,rfl,rfl,W.j0,by lia,by lia,by lia⟩) ?_)
 intro x c f_ g1 g2 hz;obtain⟨out,ia,ib,mg,g,rfl,rfl,j⟩:=hz;exact Bw O H hk W j (λm r g hm=>⟨m,g,_,rfl,rfl,hm⟩) λout ia ib mg g j=>⟨_,_,_,_,_,rfl,rfl,j⟩
 intro c f_ hz;obtain⟨out,ia,ib,mg,g,rfl,rfl,j,i1,i2,i3⟩:=hz;exfalso;lia;intro c f_ hz;obtain⟨m,g,r,rfl,rfl,hm⟩:=hz;exact Zx (h m g hm)
end
abbrev HS:=Z8 (Array Keyed)×Nat×Nat×Array Keyed×Nat×Nat×Nat
abbrev dh'(a b out:Array Keyed)(na nb:Nat):Array Keyed:=a.extract 0 na++b.extract 0 nb++out.reverse
abbrev fh'(a b out:Array Keyed)(na nb:Nat):Array Keyed:=b.extract 0 nb++a.extract 0 na++out.reverse
noncomputable def hiC(a b out:Array Keyed)(na nb mg ac bc:Nat):StateT SortSt Sem (ForInStep HS):=do
 let x <-elem' a (na - 1)
 if na - 1==0 then pure (.done (U (dh' a b (out.push x) (na - 1) nb),na - 1,nb,out.push x,mg,ac,bc))
 else if ac<7&&bc<7 then pure (.done (M,na - 1,nb,out.push x,mg,ac,bc)) else pure (.yield (M,na - 1,nb,out.push x,mg,ac,bc))
noncomputable def hiB(a b out:Array Keyed)(na nb mg ac bc:Nat):StateT SortSt Sem (ForInStep HS):=do
 let x <-elem' b (nb - 1)
 if nb - 1==1 then pure (.done (U (fh' a b (out.push x) na (nb - 1)),na,nb - 1,out.push x,mg,ac,bc))
 else do
  let y <-elem' a (na - 1)
  match <-da L y b 0 (nb - 1) (nb - 1 - 1)with
  |some t=>
   if nb - 1 - t>0 then
    if t==1 then pure (.done (U (fh' a b (out.push x++(b.extract t (nb - 1)).reverse) na t),na,t,out.push x++(b.extract t (nb - 1)).reverse,mg,ac,nb - 1 - t))
    else if t==0 then pure (.done (U (dh' a b (out.push x++(b.extract t (nb - 1)).reverse) na t),na,t,out.push x++(b.extract t (nb - 1)).reverse,mg,ac,nb - 1 - t))
    else hiC a b (out.push x++(b.extract t (nb - 1)).reverse) na t mg ac (nb - 1 - t)
   else hiC a b (out.push x) na (nb - 1) mg ac (nb - 1 - t)
  |_=>pure (.done (U (dh' a b (out.push x) na (nb - 1)),na,nb - 1,out.push x,mg,ac,bc))
noncomputable def hiA(a b out:Array Keyed)(na nb mg ac bc:Nat):StateT SortSt Sem (ForInStep HS):=do
 bh mg
 let y <-elem' b (nb - 1)
 match <-da Y y a 0 na (na - 1)with
 |some t=>
  if na - t>0 then
   if t==0 then pure (.done (U (dh' a b (out++(a.extract t na).reverse) t nb),t,nb,out++(a.extract t na).reverse,mg,na - t,bc))
   else hiB a b (out++(a.extract t na).reverse) t nb mg (na - t) bc
  else hiB a b out na nb mg (na - t) bc
 |_=>pure (.done (U (dh' a b out na nb),na,nb,out,mg,ac,bc))
abbrev VS:=Z8 (Array Keyed)×Nat×Nat×Array Keyed×Nat×Nat
abbrev PS:=Z8 (Array Keyed)×Nat×Nat×Array Keyed×Nat
noncomputable def S4(a b out:Array Keyed)(na nb mg ac bc:Nat):StateT SortSt Sem (ForInStep VS):=do
 let x <-elem' b (nb - 1)
 let y <-elem' a (na - 1)
 match <-lt' x y with
 |some t=>
  if t then do
   let x <-elem' a (na - 1)
   if na - 1==0 then pure (.done (U (dh' a b (out.push x) (na - 1) nb),na - 1,nb,out.push x,ac+1,0))
   else if ac+1>=mg then pure (.done (M,na - 1,nb,out.push x,ac+1,0)) else pure (.yield (M,na - 1,nb,out.push x,ac+1,0))
  else do
   let x <-elem' b (nb - 1)
   if nb - 1==1 then pure (.done (U (fh' a b (out.push x) na (nb - 1)),na,nb - 1,out.push x,0,bc+1))
   else if bc+1>=mg then pure (.done (M,na,nb - 1,out.push x,0,bc+1)) else pure (.yield (M,na,nb - 1,out.push x,0,bc+1))
 |_=>pure (.done (U (dh' a b out na nb),na,nb,out,ac,bc))
noncomputable def QL(a b out:Array Keyed)(na nb mg ac bc:Nat):StateT SortSt Sem (ForInStep HS):=if mg>1 then hiA a b out na nb (mg - 1) ac bc else hiA a b out na nb mg ac bc
noncomputable def S5(a b out:Array Keyed)(na nb mg:Nat):StateT SortSt Sem (ForInStep PS):=do
 let d <-forIn [:a.size+b.size] ((M,na,nb,out,0,0):VS) λ_ c=>S4 a b c.2.2.2.1 c.2.1 c.2.2.1 mg c.2.2.2.2.1 c.2.2.2.2.2
 Break.runK.match_1 (λ_=>StateT SortSt Sem (ForInStep PS)) d.1 (λr=>pure (.done (U r,d.2.1,d.2.2.1,d.2.2.2.1,mg))) λ_=>do
  rule "list.sort.gallop"
  let c <-forIn [:a.size+b.size] ((M,d.2.1,d.2.2.1,d.2.2.2.1,mg+1,d.2.2.2.2.1,d.2.2.2.2.2):HS) λ_ c=>QL a b c.2.2.2.1 c.2.1 c.2.2.1 c.2.2.2.2.1 c.2.2.2.2.2.1 c.2.2.2.2.2.2
  Break.runK.match_1 (λ_=>StateT SortSt Sem (ForInStep PS)) c.1 (λr=>pure (.done (U r,c.2.1,c.2.2.1,c.2.2.2.1,c.2.2.2.2.1))) λ_=>do
   bh (c.2.2.2.2.1+1)
   pure (.yield (M,c.2.1,c.2.2.1,c.2.2.2.1,c.2.2.2.2.1+1))
theorem D5(a b:Array Keyed):jI a b=(do
 rule "list.sort.merge-hi"
 let x <-elem' a (a.size - 1)
 if a.size - 1==0 then pure (dh' a b #[x] (a.size - 1) b.size)
 else if b.size==1 then pure (fh' a b #[x] (a.size - 1) b.size)
 else do
  let s <-get
  let c <-forIn [:a.size+b.size] ((M,a.size - 1,b.size,#[x],gallopOf s):PS) λ_ c=>S5 a b c.2.2.2.1 c.2.1 c.2.2.1 c.2.2.2.2
  Break.runK.match_1 (λ_=>StateT SortSt Sem (Array Keyed)) c.1 pure λ_=>unsupported "internal:list.sort.merge-bound"):=rfl
def fl(LT:Keyed->Keyed->Bool)(x y:Keyed):Bool:=LT y x
section
variable{LT:Keyed->Keyed->Bool}{st:SortSt}{a b:Array Keyed}
abbrev JH(LT:Keyed->Keyed->Bool)(a b out:Array Keyed)(na nb:Nat):Prop:=J (fl LT) (a.toList++b.toList) out.toList (a.toList.take na).reverse (b.toList.take nb).reverse
def Good.rev{T l:Z9 Keyed}(h:Good (fl LT) T l):Good LT T l.reverse:=⟨(List.reverse_perm l).trans h.pm,List.pairwise_reverse.mpr h.so⟩
variable{out:Array Keyed}{na nb:Nat}
def JH.dA(j:JH LT a b out na nb)(e:na=0):Good LT (a.toList++b.toList) (dh' a b out na nb).toList:=by
 subst e;rw[JH,List.take_zero,List.reverse_nil]at j;have:=j.swap.done.rev;rw[XW,Xd]at this;rwa[Zi,Zi,dg,dg,XZ,List.take_zero,List.nil_append]
def JH.dB(j:JH LT a b out na nb)(e:nb=0):Good LT (a.toList++b.toList) (dh' a b out na nb).toList:=by
 subst e;rw[JH,List.take_zero,List.reverse_nil]at j;have:=j.done.rev;rw[XW,Xd]at this;rwa[Zi,Zi,dg,dg,XZ,List.take_zero,YX]
def JH.fB(W:Two LT T a b)(j:JH LT a b out na nb)(e:nb=1):Good LT (a.toList++b.toList) (fh' a b out na nb).toList:=by
 subst e;rw[JH,fM (a:=b) (i:=0) W.zb,List.take_zero,List.reverse_nil,YX]at j;have:=(j.swap.last λy hy=>?_).rev;rw[XW,XW,Xd]at this;have e:=fM (a:=b) (i:=0) W.zb;rw[List.take_zero,List.reverse_nil,YX]at e;have e':=congrArg List.reverse e;rw[Xd]at e';rw[Zi,Zi,dg,dg,XZ,e',Zd];exact this;obtain⟨k,_,hk,rfl⟩:=cY (XT.mp hy);exact W.h0 k hk
def JH.pA(j:JH LT a b out (na+1) nb)(e:na<a.size)(q:∀k,k<nb->k<b.size->LT (K a na) (K b k)=Y):JH LT a b (out.push (K a na)) na nb:=by
 rw[JH,YD];rw[JH,fM e]at j;refine j.push λx hx y hy=>?_;obtain rfl:=Zv.mp hx;obtain⟨k,h1,h2,rfl⟩:=cY (XT.mp hy);exact q k h1 h2
def JH.pB(j:JH LT a b out na (nb+1))(e:nb<b.size)(q:∀k,k<na->k<a.size->LT (K b nb) (K a k)=Y):JH LT a b (out.push (K b nb)) na nb:=by
 rw[JH,YD];rw[JH,fM e]at j;refine(j.swap.push λx hx y hy=>?_).swap;obtain rfl:=Zv.mp hx;obtain⟨k,h1,h2,rfl⟩:=cY (XT.mp hy);exact q k h1 h2
def JH.cA(ht:t<=na)(j:JH LT a b out na nb)(q:∀i,t<=i->i<na->i<a.size->∀j,j<nb->j<b.size->LT (K a i) (K b j)=Y):JH LT a b (out++(a.extract t na).reverse) t nb:=by
 rw[JH,Zi];rw[JH,kO a ht]at j;refine j.push λx hx y hy=>?_;rw[XZ,XT]at hx;obtain⟨i,h1,h2,h3,rfl⟩:=aY hx;obtain⟨k,h4,h5,rfl⟩:=cY (XT.mp hy);exact q i h1 h2 h3 k h4 h5
def JH.cB(ht:t<=nb)(j:JH LT a b out na nb)(q:∀i,t<=i->i<nb->i<b.size->∀j,j<na->j<a.size->LT (K b i) (K a j)=Y):JH LT a b (out++(b.extract t nb).reverse) na t:=by
 rw[JH,Zi];rw[JH,kO b ht]at j;refine(j.swap.push λx hx y hy=>?_).swap;rw[XZ,XT]at hx;obtain⟨i,h1,h2,h3,rfl⟩:=aY hx;obtain⟨k,h4,h5,rfl⟩:=cY (XT.mp hy);exact q i h1 h2 h3 k h4 h5
def Two.k0(W:Two LT T a b):JH LT a b #[K a (a.size - 1)] (a.size - 1) b.size:=by
 have rv:∀{c:Array Keyed},Up LT c 0 c.size->(c.toList.take c.size).reverse.Pairwise (R (fl LT)):=λ{c} u=>by
  rw[YN (by simp)];exact List.pairwise_reverse.mpr (abD u)
 have j:JH LT a b #[] a.size b.size:=⟨by
  rw[YN (by simp),YN (by simp)];exact((List.reverse_perm _).append (List.reverse_perm _)),rv W.ua,rv W.ub⟩
 have za:=W.za;rw[show a.size=a.size - 1+1 by lia]at j;exact j.pA (by lia) λk k1 k2=>W.hl k k2
abbrev IH(LT:Keyed->Keyed->Bool)(a b:Array Keyed)(n:Nat)(out:Array Keyed)(na nb:Nat):Prop:=JH LT a b out na nb/\1<=na/\na<=a.size/\2<=nb/\nb<=b.size/\na+nb+n<=a.size+b.size
structure acn (LT:Keyed->Keyed->Bool)(a b:Array Keyed)(st:SortSt)(n0:Nat)(P:ForInStep HS->SortSt->Prop):Prop where
 good:∀m r g,Good LT (a.toList++b.toList) m.toList->P (.done (some m,r)) (ao st g)
 next:∀out na nb mg ac bc g,IH LT a b (n0+1) out na nb->P (.done (none,na,nb,out,mg,ac,bc)) (ao st g)/\P (.yield (none,na,nb,out,mg,ac,bc)) (ao st g)
variable{n0 mg ac bc:Nat}
def yC(W:Two LT T a b)(j:IH LT a b n0 out na nb)(Z:acn LT a b st n0 P)(q:∀k,k<nb->k<b.size->LT (K a (na - 1)) (K b k)=Y):
  wpS (model prog w) A E s (hiC a b out na nb mg ac bc) P (ao st g):=by
 obtain⟨j,h1,Li,h2,J4,h3⟩:=j;refine ZF (aH (by lia) ?_);have j1:=JH.pA (na:=na - 1) (by rw[show na - 1+1=na by lia];exact j) (by lia) q;by_cases e:na - 1=0;refine aR (Zw.mpr e) ?_;exact Zx (Z.good _ _ _ (j1.dA e))
 .refine aN (λq=>e (Zw.mp q)) ?_
  have z:=λac bc=>Z.next _ _ _ mg ac bc g ⟨j1,by lia,by lia,h2,J4,by lia⟩;by_cases c:(decide (ac<7)&&decide (bc<7))=L;refine aR c ?_;exact Zx (z ac bc).1;refine aN c ?_;exact Zx (z ac bc).2
variable(O:aaI LT)(H:Ans prog w A s κ LT T)(hk:kindOf st=κ)(W:Two LT T a b)
include O H hk W
section
variable(j:IH LT a b n0 out na nb)
include j
def xL(Z:acn LT a b st n0 P)(q:∀k,k<na->k<a.size->LT (K b (nb - 1)) (K a k)=Y):
  wpS (model prog w) A E s (hiB a b out na nb mg ac bc) P (ao st g):=by
 obtain⟨j,h1,Li,h2,J4,h3⟩:=j;refine ZF (aH (by lia) ?_);have j1:=JH.pB (nb:=nb - 1) (by rw[show nb - 1+1=nb by lia];exact j) (by lia) q;by_cases e:nb - 1=1;refine aR (Zw.mpr e) ?_;exact Zx (Z.good _ _ _ (j1.fB W e));refine aN (λq=>e (Zw.mp q)) ?_;refine ZF (aH (by lia) ?_);refine ZF (cn (st:=ao st g) O H hk (W.ha _ (by lia)) (by lia) (by lia) (λi hi=>W.hb _ (by lia)) (λp q a1 a2 a3=>W.ub p q (Zs _) a2 (by lia)) λt k1 k2 k3=>?_);have q2:∀m,m<t->m<b.size->LT (K a (na - 1)) (K b m)=Y:=λm m1 m2=>by
  have:=k2 m m1;unfold fB at this;simp only[Y8,Yj]at this;exact O.aa_ _ _ this
 dsimp only;by_cases c:nb - 1 - t>0;refine aR c ?_;have j2:=j1.cB (t:=t) (by lia) λi i1 i2 i3 m m1 m2=>O.tr _ _ _ (W.ua m (na - 1) (Zs _) (by lia) (by lia)) (by simpa only[fB,Y8,Yj]using k3 i i1 i2);by_cases e2:t=1;refine aR (Zw.mpr e2) ?_;exact Zx (Z.good _ _ _ (j2.fB W e2));refine aN (λq=>e2 (Zw.mp q)) ?_;by_cases e3:t=0;refine aR (Zw.mpr e3) ?_;exact Zx (Z.good _ _ _ (j2.dB e3));refine aN (λq=>e3 (Zw.mp q)) ?_;exact yC W ⟨j2,h1,Li,by lia,by lia,by lia⟩ Z q2;refine aN c ?_;exact yC W ⟨j1,h1,Li,by lia,by lia,by lia⟩ Z (by rw[show t=nb - 1 by lia]at q2;exact q2)
def CL(Z:acn LT a b st n0 P):
  wpS (model prog w) A E s (hiA a b out na nb mg ac bc) P (ao st g):=by
 obtain⟨j,h1,Li,h2,J4,h3⟩:=j;unfold hiA;rw[aZ];refine ZF (XQ ?_);refine ZF (aH (by lia) ?_);refine ZF (cn (st:=ao st mg) O H hk (W.hb _ (by lia)) (by lia) (by lia) (λi hi=>W.ha _ (by lia)) (λp q a1 a2 a3=>W.ua p q (Zs _) a2 (by lia)) λt k1 k2 k3=>?_);have q2:∀m,m<t->m<a.size->LT (K b (nb - 1)) (K a m)=Y:=λm m1 m2=>by
  have:=k2 m m1;unfold fB at this;simpa only[ZY,Zj,Yu,Yj]using this
 dsimp only;by_cases c:na - t>0;refine aR c ?_;have j2:=j.cA (t:=t) (by lia) λi i1 i2 i3 m m1 m2=>O.tr _ _ _ (W.ub m (nb - 1) (Zs _) (by lia) (by lia)) (O.aa_ _ _ (by simpa only[fB,ZY,Zj,Bool.not_eq_false',Yj]using k3 i i1 i2));by_cases e1:t=0;refine aR (Zw.mpr e1) ?_;exact Zx (Z.good _ _ _ (j2.dA e1));refine aN (λq=>e1 (Zw.mp q)) ?_;exact xL O H hk W ⟨j2,by lia,by lia,h2,J4,by lia⟩ Z q2;refine aN c ?_;exact xL O H hk W ⟨j,h1,Li,h2,J4,h3⟩ Z (by rw[show t=na by lia]at q2;exact q2)
def Dp{P:ForInStep VS->SortSt->Prop}(z1:∀m r,Good LT (a.toList++b.toList) m.toList->P (.done (U m,r)) (ao st g))(z2:∀out na nb ac bc,IH LT a b n0 out na nb->P (.done (M,na,nb,out,ac,bc)) (ao st g)/\P (.yield (M,na,nb,out,ac,bc)) (ao st g)):
  wpS (model prog w) A E s (S4 a b out na nb mg ac bc) P (ao st g):=by
 obtain⟨j,i1,Pa,i2,O_,i3⟩:=j;refine ZF (aH (by lia) (ZF (aH (by lia) (ZF (qZ (st:=ao st g) H hk (W.hb _ (by lia)) (W.ha _ (by lia)) ?_)))));dsimp only;cases hw:LT (K b (nb - 1)) (K a (na - 1))with
 |true=>
  simp only[Y8];refine ZF (aH (by lia) ?_);have j1:=JH.pA (na:=na - 1) (by rw[show na - 1+1=na by lia];exact j) (by lia) λk k1 k2=>O.tr _ _ _ (W.ub k (nb - 1) (Zs _) (by lia) (by lia)) (O.aa_ _ _ hw);by_cases e:na - 1=0;refine aR (Zw.mpr e) ?_;exact Zx (z1 _ _ (j1.dA e));refine aN (λq=>e (Zw.mp q)) ?_;have z:=λac bc=>z2 _ _ _ ac bc ⟨j1,by lia,by lia,i2,O_,by lia⟩;by_cases c:ac+1>=mg;refine aR c ?_;exact Zx (z _ _).1;refine aN c ?_;exact Zx (z _ _).2
 |false=>
  simp only[ZY,Zj];refine ZF (aH (by lia) ?_);have j1:=JH.pB (nb:=nb - 1) (by rw[show nb - 1+1=nb by lia];exact j) (by lia) λk k1 k2=>O.tr _ _ _ (W.ua k (na - 1) (Zs _) (by lia) (by lia)) hw;by_cases e:nb - 1=1;refine aR (Zw.mpr e) ?_;exact Zx (z1 _ _ (j1.fB W e));refine aN (λq=>e (Zw.mp q)) ?_;have z:=λac bc=>z2 _ _ _ ac bc ⟨j1,i1,Pa,by lia,by lia,by lia⟩;by_cases c:bc+1>=mg;refine aR c ?_;exact Zx (z _ _).1;refine aN c ?_;exact Zx (z _ _).2
def Dd(Z:acn LT a b st n0 P):wpS (model prog w) A E s (QL a b out na nb mg ac bc) P (ao st g):=by
 unfold QL;split<;>exact CL O H hk W j Z
def BD{P:ForInStep PS->SortSt->Prop}(z1:∀m r g,Good LT (a.toList++b.toList) m.toList->P (.done (U m,r)) (ao st g))(z2:∀out na nb mg g,IH LT a b (n0+1) out na nb->P (.yield (M,na,nb,out,mg)) (ao st g)):
  wpS (model prog w) A E s (S5 a b out na nb mg) P (ao st g):=by
 have za:=W.za;refine ZF (XH (Yv (I:=λy c f_=>∃na nb out ac bc,c=(M,na,nb,out,ac,bc)/\f_=ao st g/\IH LT a b n0 out na nb)
  (Q:=λc f_=>f_=ao st g/\((∃m r,c=(U m,r)/\Good LT (a.toList++b.toList) m.toList)\/∃na nb out ac bc,c=(M,na,nb,out,ac,bc)/\IH LT a b n0 out na nb)) ?_ ?_ ⟨na,nb,out,0,0,rfl,rfl,j⟩) ?_)
 intro y c f_ _ _ hz;obtain⟨na,nb,out,ac,bc,rfl,rfl,j⟩:=hz;exact Dp O H hk W j (λm r hm=>⟨rfl,.inl ⟨m,r,rfl,hm⟩⟩) λout na nb ac bc j=>⟨⟨rfl,.inr ⟨_,_,_,_,_,rfl,j⟩⟩,⟨_,_,_,_,_,rfl,rfl,j⟩⟩
 intro c f_ hz;obtain⟨na,nb,out,ac,bc,rfl,rfl,j⟩:=hz;exact⟨rfl,.inr ⟨_,_,_,_,_,rfl,j⟩⟩;intro c f_ hz;obtain⟨rfl,hz⟩:=hz;rcases hz with hz|hz;obtain⟨m,r,rfl,hm⟩:=hz;exact Zx (z1 m _ g hm);obtain⟨na,nb,out,ac,bc,rfl,j⟩:=hz;refine ZF (wpS_lift (YC ⟨rfl,?_⟩));refine ZF (XH (Yv (I:=λy c f_=>∃na nb out mg ac bc g,c=(M,na,nb,out,mg,ac,bc)/\f_=ao st g/\IH LT a b n0 out na nb/\(1<=y->na+nb+n0<a.size+b.size))
  (Q:=λc f_=>∃g,f_=ao st g/\((∃m r,c=(U m,r)/\Good LT (a.toList++b.toList) m.toList)\/∃na nb out mg ac bc,c=(M,na,nb,out,mg,ac,bc)/\IH LT a b (n0+1) out na nb)) ?_ ?_ ⟨na,nb,out,_,ac,bc,g,rfl,rfl,j,λq=>absurd q (by lia)⟩) ?_)
 intro y c f_ _ _ hz;obtain⟨na,nb,out,mg,ac,bc,g,rfl,rfl,j,_⟩:=hz;exact Dd O H hk W j ⟨λm r g hm=>⟨g,rfl,.inl ⟨m,r,rfl,hm⟩⟩,λout na nb mg ac bc g j=>⟨⟨g,rfl,.inr ⟨_,_,_,_,_,_,rfl,j⟩⟩,⟨_,_,_,_,_,_,g,rfl,rfl,⟨j.1,j.2.1,j.2.2.1,j.2.2.2.1,j.2.2.2.2.1,by lia⟩,λ_=>by lia⟩⟩⟩;intro c f_ hz;obtain⟨na,nb,out,mg,ac,bc,g,rfl,rfl,⟨j,i1,Pa,i2,O_,i3⟩,i4⟩:=hz;exact⟨g,rfl,.inr ⟨_,_,_,_,_,_,rfl,j,i1,Pa,i2,O_,i4 (by lia)⟩⟩;intro c f_ hz;obtain⟨g,rfl,hz⟩:=hz;rcases hz with hz|hz;obtain⟨m,r,rfl,hm⟩:=hz;exact Zx (z1 m _ g hm);obtain⟨na,nb,out,mg,ac,bc,rfl,j⟩:=hz;dsimp only;rw[aZ];exact ZF (XQ (Zx (z2 _ _ _ _ _ j)))
end
def qR(h:∀m g,Good LT (a.toList++b.toList) m.toList->Q m (ao st g)):wpS (model prog w) A E s (jI a b) Q st:=by
 have za:=W.za;have zb:=W.zb;rw[D5];refine ZF (wpS_lift (YC ⟨rfl,?_⟩));refine ZF (aH (by lia) ?_);by_cases e1:a.size - 1=0;refine aR (Zw.mpr e1) ?_;exact Zx (h _ (gallopOf st) (W.k0.dA e1));refine aN (λq=>e1 (Zw.mp q)) ?_;by_cases e2:b.size=1;refine aR (Zw.mpr e2) ?_;exact Zx (h _ (gallopOf st) (W.k0.fB W e2));refine aN (λq=>e2 (Zw.mp q)) ?_;refine ZF (Wb ?_);refine ZF (XH (Yv (I:=λx c f_=>∃na nb out mg g,c=(M,na,nb,out,mg)/\f_=ao st g/\IH LT a b (x+1) out na nb)
  (Q:=λc f_=>∃m g r,c=(U m,r)/\f_=ao st g/\Good LT (a.toList++b.toList) m.toList) ?_ ?_ ⟨_,_,_,_,gallopOf st,rfl,rfl,W.k0,by lia,by lia,by lia,by lia,by lia⟩) ?_)
 intro x c f_ g1 g2 hz;obtain⟨na,nb,out,mg,g,rfl,rfl,j⟩:=hz;exact BD O H hk W j (λm r g hm=>⟨m,g,_,rfl,rfl,hm⟩) λout na nb mg g j=>⟨_,_,_,_,_,rfl,rfl,j⟩
 intro c f_ hz;obtain⟨na,nb,out,mg,g,rfl,rfl,j,i1,Pa,i2,O_,i3⟩:=hz;exfalso;lia;intro c f_ hz;obtain⟨m,g,r,rfl,rfl,hm⟩:=hz;exact Zx (h m g hm)
end
theorem m5(i:Nat):mergeAt' i=(do
 let s <-get
 let (some (sa,na,power),some (sb,nb,_)):=((pendingOf s)[i]?,(pendingOf s)[i+1]?)|unsupported "internal:list.sort.pending"
 set (setPending s (((pendingOf s).setIfInBounds i (sa,na+nb,power)).eraseIdxIfInBounds (i+1)))
 let some k <-da false (<-elem' (arrOf s) sb) (arrOf s) sa na 0|return false
 let (sa,na):=(sa+k,na - k)
 if na==0 then return true
 let some nb <-da true (<-elem' (arrOf s) (sa+na - 1)) (arrOf s) sb nb (nb - 1)|return false
 if nb==0 then return true
 let x:=(arrOf s).extract sa sb
 let y:=(arrOf s).extract sb (sb+nb)
 let merged <-if na<=nb then jA x y else jI x y
 modify λs=>setArr s (merged.toList.zipIdx.foldl (λa (p,j)=>a.setIfInBounds (sa+j) p) (arrOf s))
 return (failedOf (<-get)).isNone):=rfl
def fE(h:s+i<e):K (a.extract s e) i=K a (s+i):=by
 apply Br;rw[Array.getElem?_extract];split;rfl;rw[XJ];lia
def zH{P Lq L' S:Z9 Keyed}{q:Nat}(e:Lq.length=L'.length)(h:q<P.length\/P.length+Lq.length<=q):(P++Lq++S)[q]?=(P++L'++S)[q]?:=by
 rcases h with h|h;rw[Zd,Zd,YY h,YY h];rw[Yo (by rw[Zz];exact h),Yo (by rw[Zz,<-e];exact h),Zz,Zz,e]
def wS(m:Z9 Keyed):∀(mid pre post:Z9 Keyed)(a:Array Keyed)(o st:Nat),a.toList=pre++mid++post->pre.length=o+st->m.length=mid.length->
  ((m.zipIdx st).foldl (λa (p:Keyed×Nat)=>a.setIfInBounds (o+p.2) p.1) a).toList=pre++m++post:=by
 induction m with
 |nil=>intro mid pre post a o st h _ h3;rw[List.eq_nil_of_length_eq_zero h3.symm]at h;exact h
 |cons x m ih=>
  intro mid pre post a o st h h2 h3;cases mid with
  |nil=>cases h3
  |cons c mid=>
   rw[List.zipIdx_cons,List.foldl_cons];have:=ih mid (pre++[x]) post (a.setIfInBounds (o+st) x) o (st+1) (by
    rw[W4,h,<-h2,Zd,List.set_append_right _ _ (ZU _),Nat.sub_self];simp) (by simp;lia) (Nat.succ.inj h3)
   rw[this];simp
section
variable{prog:Y0}{w:YM}{A:Za}{E:Z3->ZR->Prop}{s:ZR}{LT:Keyed->Keyed->Bool}{T:Array Keyed}{κ:SortKind}{a:Array Keyed}
def o0(u:Up LT a i j):(a.extract i j).toList.Pairwise (R LT):=by
 apply abD;intro p q _ h1 h2;rw[Array.size_extract]at h2;rw[fE (by lia),fE (by lia)];exact u _ _ (by lia) (by lia) (by lia)
def wB(O:aaI LT)(h:a.toList=P++Lq++S)(hl:Lq.Pairwise (R LT)):Up LT a P.length (P.length+Lq.length):=λp q h1 h2 h3=>by
 have e:∀i (hi:i<Lq.length),K a (P.length+i)=Lq[i]:=λi hi=>by
  rw[fu,h,Zd,Yo (by lia),show P.length+i - P.length=i by lia,YY hi];simp[hi]
 obtain⟨p,rfl⟩:∃p',p=P.length+p':=⟨p - P.length,by lia⟩
 obtain⟨q,rfl⟩:∃p',q=P.length+p':=⟨q - P.length,by lia⟩
 rw[e p (by lia),e q (by lia)];by_cases c:p=q;subst c;exact O.irr _;exact Xx.mp hl p q (by lia) (by lia) (by lia)
def qB(O:aaI LT)(H:Ans prog w A s κ LT T)(hT:a.Perm T)(hp:p.toList=l1++(sa,na,pw)::(sa+na,nb,Qb)::l2)(hi:i=l1.length)(h1:1<=na)(h2:1<=nb)(hz:sa+na+nb<=T.size)(u1:Up LT a sa (sa+na))(u2:Up LT a (sa+na) (sa+na+nb))(h:∀a' p' g,a'.Perm T->(∀k,k<sa\/sa+na+nb<=k->K a' k=K a k)->Up LT a' sa (sa+(na+nb))->p'.toList=l1++(sa,na+nb,pw)::l2->Q L (SortSt.mk' κ a' p' g M)):
  wpS (model prog w) A E s (mergeAt' i) Q (SortSt.mk' κ a p g M):=by
 have ez:=hT.size_eq;have mT:∀k,k<T.size->K a k∈T:=λk hk=>hT.mem_iff.mp (zS (by lia));subst hi;have g1:p[l1.length]?=U (sa,na,pw):=by rw[<-Wn,hp];simp
 have g2:p[l1.length+1]?=U (sa+na,nb,Qb):=by rw[<-Wn,hp];simp
 rw[m5];refine ZF (Wb ?_);have ea:∀p g,arrOf (SortSt.mk' κ a p g M)=a:=λ_ _=>rfl;simp only[ea];rw[g1,g2];dsimp only;have I_:((p.setIfInBounds l1.length (sa,na+nb,pw)).eraseIdxIfInBounds (l1.length+1)).toList=l1++(sa,na+nb,pw)::l2:=by
  rw[Array.toList_eraseIdxIfInBounds,W4,hp];simp[List.eraseIdx_append_of_length_le]
 generalize ((p.setIfInBounds l1.length (sa,na+nb,pw)).eraseIdxIfInBounds (l1.length+1))=p' at I_⊢;refine ZF (?_:wpS (model prog w) A E s (set _:StateT SortSt Sem PUnit) _ _);unfold wpS;rw[StateT.run_set];refine Z5 ⟨rfl,?_⟩;refine ZF (aH (by lia) ?_);refine ZF (cn (st:=SortSt.mk' κ a p' g M) O H rfl (mT _ (by lia)) (by lia) (by lia) (λj hj=>mT _ (by lia)) u1 λk k1 k2 k3=>?_);dsimp only;have whole:∀(e:∀q,q<na->LT (K a (sa+na)) (K a (sa+q))=Y),Up LT a sa (sa+(na+nb)):=λe x y a1 a2 a3=>by
  by_cases c1:y<sa+na;exact u1 x y a1 a2 c1;by_cases c2:x<sa+na;have:=e (x - sa) (by lia);rw[show sa+(x - sa)=x by lia]at this;exact O.tr _ _ _ this (u2 (sa+na) y (ZU _) (by lia) (by lia));exact u2 x y (by lia) a2 (by lia)
 by_cases c:na - k=0;refine aR (Zw.mpr c) ?_;exact Zx (h a p' g hT (λ_ _=>rfl) (whole λq hq=>by simpa only[fB,ZY,Zj,Yu]using k2 q (by lia)) I_);refine aN (λq=>c (Zw.mp q)) ?_;have el:sa+k+(na - k) - 1=sa+na - 1:=by lia
 rw[el];refine ZF (aH (by lia) ?_);refine ZF (cn (st:=SortSt.mk' κ a p' g M) O H rfl (mT _ (by lia)) (by lia) (by lia) (λj hj=>mT _ (by lia)) u2 λJp n1 n2 n3=>?_);dsimp only;by_cases c':Jp=0;refine aR (Zw.mpr c') ?_;refine Zx (h a p' g hT (λ_ _=>rfl) (whole λq hq=>?_) I_);have:=n3 0 (by lia) (by lia);simp only[fB,Y8,Nat.add_zero]at this;exact O.tr _ _ _ (u1 (sa+q) (sa+na - 1) (by lia) (by lia) (by lia)) this;refine aN (λq=>c' (Zw.mp q)) ?_;have W:Two LT T (a.extract (sa+k) (sa+na)) (a.extract (sa+na) (sa+na+Jp)):=by
  have zx:(a.extract (sa+k) (sa+na)).size=na - k:=by rw[Array.size_extract];lia
  have zy:(a.extract (sa+na) (sa+na+Jp)).size=Jp:=by rw[Array.size_extract];lia
  refine⟨λi hi=>?_,λi hi=>?_,λx y a1 a2 a3=>?_,λx y a1 a2 a3=>?_,by lia,by lia,λj hj=>?_,λj hj=>?_⟩;rw[fE (by lia)];exact mT _ (by lia);rw[fE (by lia)];exact mT _ (by lia);rw[fE (by lia),fE (by lia)];exact u1 _ _ (by lia) (by lia) (by lia);rw[fE (by lia),fE (by lia)];exact u2 _ _ (by lia) (by lia) (by lia);rw[fE (by lia),fE (by lia)];have:=k3 (k+j) (by lia) (by lia);simp only[fB,ZY,Zj,Bool.not_eq_false']at this;rw[show sa+k+j=sa+(k+j) by lia];exact O.aa_ _ _ this;rw[zx,fE (by lia),fE (by lia),show sa+k+(na - k - 1)=sa+na - 1 by lia];have:=n2 j (by lia);simp only[fB,Y8]at this;exact O.aa_ _ _ this
 have fin:∀(m:Array Keyed)(g':Nat),Good LT ((a.extract (sa+k) (sa+na)).toList++(a.extract (sa+na) (sa+na+Jp)).toList) m.toList->
   wpS (model prog w) A E s (do
    modify λs=>setArr s (m.toList.zipIdx.foldl (λa (p:Keyed×Nat)=>a.setIfInBounds (sa+k+p.2) p.1) (arrOf s))
    return (failedOf (<-get)).isNone) Q (SortSt.mk' κ a p' g' M):=λm g' hm=>by
  refine ZF (XQ (ZF (Wb (Zx ?_))));have dec:a.toList=a.toList.take sa++((a.extract sa (sa+k)).toList++((a.extract (sa+k) (sa+na)).toList++(a.extract (sa+na) (sa+na+Jp)).toList)++(a.extract (sa+na+Jp) (sa+na+nb)).toList)++a.toList.drop (sa+na+nb):=by
   have d1:=cb a sa k;have d2:=cb a (sa+k) (na - k);have d3:=cb a (sa+na) Jp;have d4:=cb a (sa+na+Jp) (nb - Jp);rw[show sa+k+(na - k)=sa+na by lia]at d2;rw[show sa+na+Jp+(nb - Jp)=sa+na+nb by lia]at d4;rw[d2,d3,d4]at d1;have:=(X7 sa a.toList).symm;rw[d1]at this
   conv=>lhs;rw[this]
   simp only[Zd]
  have ml:m.toList.length=((a.extract (sa+k) (sa+na)).toList++(a.extract (sa+na) (sa+na+Jp)).toList).length:=hm.pm.length_eq;have RL:a.toList=a.toList.take sa++(a.extract sa (sa+k)).toList++((a.extract (sa+k) (sa+na)).toList++(a.extract (sa+na) (sa+na+Jp)).toList)++((a.extract (sa+na+Jp) (sa+na+nb)).toList++a.toList.drop (sa+na+nb)):=by
   conv=>lhs;rw[dec]
   simp only[Zd]
  have res:=wS m.toList _ _ _ a (sa+k) 0 RL (by simp;lia) ml;have MM:(m.toList.zipIdx.foldl (λa (p:Keyed×Nat)=>a.setIfInBounds (sa+k+p.2) p.1) a).toList=a.toList.take sa++((a.extract sa (sa+k)).toList++m.toList++(a.extract (sa+na+Jp) (sa+na+nb)).toList)++a.toList.drop (sa+na+nb):=by
   rw[res];simp only[Zd]
  have pl:(a.toList.take sa).length=sa:=by simp;lia
  have len:((a.extract sa (sa+k)).toList++m.toList++(a.extract (sa+na+Jp) (sa+na+nb)).toList).length=na+nb:=by
   rw[Zz,Zz,ml];simp;lia
  refine h _ p' g' ?_ (λq hq=>?_) ?_ I_
  .refine Array.Perm.trans (Array.perm_iff_toList_perm.mpr ?_) hT
   rw[MM]
   conv=>rhs;rw[dec]
   exact((((Yy _).append hm.pm).append (Yy _)).append_left _).append_right _
  .rw[fu,fu,MM]
   conv=>rhs;rw[dec]
   congr 1;exact zH (by simp only[Zz]at ml⊢;lia) (by rw[pl,len];lia)
  have:=wB O MM ?_;rw[pl,len]at this;exact this;have ux:∀v∈(a.extract (sa+k) (sa+na)).toList,LT (K a (sa+na - 1)) v=Y:=λv hv=>by
   obtain⟨i,i1,i2,_,rfl⟩:=aY hv;exact u1 i (sa+na - 1) (by lia) (by lia) (by lia)
  have uc:∀v∈(a.extract sa (sa+k)).toList,LT (K a (sa+na - 1)) v=Y:=λv hv=>by
   obtain⟨i,i1,i2,_,rfl⟩:=aY hv;exact u1 i (sa+na - 1) (by lia) (by lia) (by lia)
  have uz:∀z∈(a.extract (sa+na+Jp) (sa+na+nb)).toList,LT z (K a (sa+na - 1))=Y:=λz hz=>by
   obtain⟨i,i1,i2,_,rfl⟩:=aY hz;have:=n3 (i - (sa+na)) (by lia) (by lia);simpa only[fB,Y8,show sa+na+(i - (sa+na))=i by lia]using this
  rw[Yh,Yh];refine⟨⟨o0 λx y a1 a2 a3=>u1 x y a1 a2 (by lia),hm.so,λu hu v hv=>?_⟩,o0 λx y a1 a2 a3=>u2 x y (by lia) a2 a3,λv hv z hz=>?_⟩;obtain⟨i,i1,i2,_,rfl⟩:=aY hu;rcases Zr.mp (hm.pm.mem_iff.mp hv)with hv|hv;obtain⟨j,j1,j2,_,rfl⟩:=aY hv;exact u1 i j (by lia) (by lia) (by lia);obtain⟨j,j1,j2,_,rfl⟩:=aY hv;have:=k2 (i - sa) (by lia);simp only[fB,ZY,Zj,Yu,show sa+(i - sa)=i by lia]at this;exact O.tr _ _ _ this (u2 (sa+na) j (ZU _) (by lia) (by lia));rcases Zr.mp hv with hv|hv;exact O.tr _ _ _ (uc v hv) (uz z hz);rcases Zr.mp (hm.pm.mem_iff.mp hv)with hv|hv;exact O.tr _ _ _ (ux v hv) (uz z hz);obtain⟨j,j1,j2,_,rfl⟩:=aY hv;obtain⟨i,i1,i2,_,rfl⟩:=aY hz;exact u2 j i (by lia) (by lia) (by lia)
 by_cases c3:na - k<=Jp;refine aR c3 ?_;exact ZF (pK (st:=SortSt.mk' κ a p' g M) O H rfl W λm g' hm=>fin m g' hm);refine aN c3 ?_;exact ZF (qR (st:=SortSt.mk' κ a p' g M) O H rfl W λm g' hm=>fin m g' hm)
end
abbrev P3:=Nat×Nat×Nat
def aaM:Z9 P3->Nat->Nat->Prop
 |[],s,e=>s=e
 |q::r,s,e=>q.1=s/\1<=q.2.1/\aaM r (s+q.2.1) e
theorem aaM.le:∀{l:Z9 P3}{s e:Nat},aaM l s e->s+l.length<=e
 |[],_,_,h=>by simp only[aaM]at h;simp;lia
 |q::r,s,e,h=>by have:=h.2.2.le;have:=h.2.1;simp;lia
theorem aaM.app:∀{l m:Z9 P3}{s e:Nat},aaM (l++m) s e->∃t,aaM l s t/\aaM m t e
 |[],m,s,e,h=>⟨s,rfl,h⟩
 |q::r,m,s,e,h=>by
  obtain⟨t,a,b⟩:=h.2.2.app;exact⟨t,⟨h.1,h.2.1,a⟩,b⟩
theorem aaM.join:∀{l m:Z9 P3}{s t e:Nat},aaM l s t->aaM m t e->aaM (l++m) s e
 |[],m,s,t,e,h,h'=>by simp only[aaM]at h;subst h;exact h'
 |q::r,m,s,t,e,h,h'=>⟨h.1,h.2.1,h.2.2.join h'⟩
theorem aaM.bound:∀{l:Z9 P3}{s e:Nat},aaM l s e->∀q∈l,s<=q.1/\q.1+q.2.1<=e
 |p::r,s,e,h,q,hq=>by
  have:=h.2.2.le;rcases ZZ.mp hq with rfl|hq;have:=h.1;lia;have:=h.2.2.bound q hq;lia
section
variable{LT:Keyed->Keyed->Bool}{T:Array Keyed}{a:Array Keyed}
structure Wait (LT:Keyed->Keyed->Bool)(T a:Array Keyed)(p:Array P3)(lo:Nat):Prop where
 pm:a.Perm T
 ti:aaM p.toList 0 lo
 up:∀q∈p.toList,Up LT a q.1 (q.1+q.2.1)
def Wait.merge(O:aaI LT)(H:Ans prog w A s κ LT T){lo g i:Nat}(hz:lo<=T.size)(h:Wait LT T a p lo)(hi:i+1<p.size)(hQ:∀a' p' g,Wait LT T a' p' lo->p'.size+1=p.size->(∀k,lo<=k->K a' k=K a k)->Q L (SortSt.mk' κ a' p' g M)):wpS (model prog w) A E s (mergeAt' i) Q (SortSt.mk' κ a p g M):=by
 obtain⟨l1,l2,x,y,e,hl⟩:∃l1 l2 x y,p.toList=l1++x::y::l2/\l1.length=i:=by
  have k_:i+1<p.toList.length:=by simpa using hi
  refine⟨p.toList.take i,p.toList.drop (i+2),p.toList[i],p.toList[i+1],?_,by simp;lia⟩;rw[<-Zn k_,<-Zn (by lia),X7]
 obtain⟨sa,na,pw⟩:=x;obtain⟨sb,nb,Qb⟩:=y;have ti:=h.ti;rw[e]at ti;obtain⟨t,t1,t2⟩:=ti.app;obtain⟨r1,r2,r3,r4,r5⟩:=t2;dsimp only at r1 r2 r3 r4 r5;subst r1 r3;have b1:=r5.le;have u1:=h.up (sa,na,pw) (by rw[e];simp);have u2:=h.up (sa+na,nb,Qb) (by rw[e];simp);refine qB O H h.pm e hl.symm r2 r4 (by lia) u1 u2 λa' p' g hp hk hu he=>hQ a' p' g ⟨hp,?_,λq hq=>?_⟩ ?_ λk Kw=>hk k (by lia);rw[he];exact t1.join ⟨rfl,by dsimp only;lia,by dsimp only;rw[<-Nat.add_assoc];exact r5⟩;rw[he]at hq;have cg:∀q∈p.toList,q.1+q.2.1<=sa\/sa+na+nb<=q.1->Up LT a' q.1 (q.1+q.2.1):=λq hq hd x y a1 a2 a3=>by
  rw[hk x (by lia),hk y (by lia)];exact h.up q hq x y a1 a2 a3
 rcases Zr.mp hq with hq|hq;exact cg q (by rw[e];exact Y9 _ hq) (.inl (t1.bound q hq).2);rcases ZZ.mp hq with rfl|hq;exact hu;exact cg q (by rw[e];exact ZI _ (.tail _ (.tail _ hq))) (.inr (r5.bound q hq).1);have l1:=congrArg List.length he;have l2:=congrArg List.length e;simp at l1 l2;lia
theorem Wait.push{lo n z:Nat}(h:Wait LT T a p lo)(hn:1<=n)(hu:Up LT a lo (lo+n)):Wait LT T a (p.push (lo,n,z)) (lo+n):=by
 refine⟨h.pm,by rw[YD];exact h.ti.join ⟨rfl,hn,rfl⟩,λq hq=>?_⟩;rw[YD]at hq;rcases Zr.mp hq with hq|hq;exact h.up q hq;obtain rfl:=Zv.mp hq;exact hu
theorem nZ(hf:∀q,(f q).1=q.1/\(f q).2.1=q.2.1):∀{l:Z9 P3}{i s e:Nat},aaM l s e->aaM (l.modify i f) s e
 |[],i,s,e,h=>by simpa using h
 |q::r,0,s,e,h=>by
  simp only[List.modify_zero_cons,aaM,(hf q).1,(hf q).2];exact h
 |q::r,i+1,s,e,h=>by
  simp only[List.modify_succ_cons];exact⟨h.1,h.2.1,nZ hf h.2.2⟩
theorem ix:∀{l:Z9 P3}{i:Nat}{q:P3},q∈l.modify i f->q∈l\/∃r∈l,q=f r
 |[],i,q,h=>by simp at h
 |p::r,0,q,h=>by
  simp only[List.modify_zero_cons]at h;rcases ZZ.mp h with rfl|h;exact .inr ⟨p,.head _,rfl⟩;exact .inl (.tail _ h)
 |p::r,i+1,q,h=>by
  simp only[List.modify_succ_cons]at h;rcases ZZ.mp h with rfl|h;exact .inl (.head _);rcases ix h with h|⟨x,h,e⟩;exact .inl (.tail _ h);exact .inr ⟨x,.tail _ h,e⟩
def Wait.mod{lo i z:Nat}(h:Wait LT T a p lo):Wait LT T a (p.modify i λ(st,len,_)=>(st,len,z)) lo:=by
 refine⟨h.pm,by rw[Array.toList_modify];exact nZ (f:=λ(st,len,_)=>(st,len,z)) (λq=>⟨rfl,rfl⟩) h.ti,λq hq=>?_⟩;rw[Array.toList_modify]at hq;rcases ix hq with hq|⟨r,hr,rfl⟩;exact h.up q hq;exact h.up r hr
def abz(O:aaI LT)(H:Ans prog w A s κ LT T)(h2:2<=T.size)(hQ:∀a p g,a.Perm T->Up LT a 0 T.size->Q () (SortSt.mk' κ a p g M)):wpS (model prog w) A E s sortRuns' Q (SortSt.mk' κ T #[] g M):=by
 rw[sortRuns'_eq];refine ZF (Wb ?_);have ea:∀a p g,arrOf (SortSt.mk' κ a p g M)=a:=λ_ _ _=>rfl;have ep:∀a p g,pendingOf (SortSt.mk' κ a p g M)=p:=λ_ _ _=>rfl;simp only[ea];generalize minRun' T.size T.size 0=mr;refine ZF (XH (Yv (I:=λx c f_=>∃a p g lo,c=(M,lo)/\f_=SortSt.mk' κ a p g M/\Wait LT T a p lo/\lo<=T.size/\x<=lo)
  (Q:=λc f_=>∃a p g,c=(M,T.size)/\f_=SortSt.mk' κ a p g M/\Wait LT T a p T.size) ?_ ?_ ⟨T,#[],g,0,rfl,rfl,⟨Array.Perm.refl _,rfl,λq hq=>nomatch hq⟩,Zs _,ZU _⟩) ?_)
 .intro x c f_ _ hx hz;obtain⟨a,p,g,lo,rfl,rfl,hw,Kj,Pb⟩:=hz
  dsimp only;by_cases c1:lo>=T.size;rw[ZO c1];have:lo=T.size:=by lia
  exact Zx ⟨a,p,g,by rw[this],rfl,by rw[<-this];exact hw⟩;rw[ZJ c1];refine ZF (my (st:=SortSt.mk' κ a p g M) O H rfl hw.pm (by lia) (by lia) λm a1 m1 m2 C1 U1=>?_);have wt:∀a2,Chg T a lo a2->Wait LT T a2 p lo:=λa2 C=>⟨C.perm,hw.ti,λq hq x y h1 h2 h3=>by
   have:=(hw.ti.bound q hq).2;rw[C.keep x (by lia),C.keep y (by lia)];exact hw.up q hq x y h1 h2 h3⟩
  dsimp only;by_cases c2:m<mr
  all_goals first
   |rw[ZJ c2]
   |(rw[ZO c2]
     refine ZF (wpS_lift (YC ⟨rfl,?_⟩));have C0:=C1;have n0:1<=min (T.size - lo) mr/\min (T.size - lo) mr<=T.size - lo:=by lia
     refine ZF (jG (st:=SortSt.mk' κ a1 p g M) O H rfl C1.perm (by lia) (by lia) (by lia) U1 λa1 C2 U1=>?_);have C1:Chg T a lo a1:=⟨C2.perm,λk hk=>(C2.keep k hk).trans (C0.keep k hk)⟩
     simp only[YJ,ZY,Zj];obtain⟨m1,m2⟩:=n0;generalize min (T.size - lo) mr=m at U1 m1 m2⊢)
  all_goals
   have W1:=wt a1 C1;clear wt C1;refine ZF (Wb ?_);have e0:pendingOf (setArr (SortSt.mk' κ a p g M) a1)=p:=rfl;cases hb:(pendingOf (SortSt.mk' κ a1 p g M)).back? with
   |none=>
    have Jj:p.back?=M:=hb;simp only[ep,Jj];exact ZF (XQ (Zx ⟨_,_,_,_,rfl,rfl,W1.push m1 U1,by lia,by lia⟩))
   |some q=>
    obtain⟨s1,n1,z⟩:=q;have Jj:p.back?=U (s1,n1,z):=hb;simp only[ep,Jj];generalize power' T.size (2*s1+n1) (2*s1+n1+n1+m) T.size=pw;refine ZF (XH (Yv (I:=λ_ c f_=>c=(M,())/\∃a' p' g',f_=SortSt.mk' κ a' p' g' M/\Wait LT T a' p' lo/\∀k,lo<=k->K a' k=K a1 k)
     (Q:=λc f_=>c=(M,())/\∃a' p' g',f_=SortSt.mk' κ a' p' g' M/\Wait LT T a' p' lo/\∀k,lo<=k->K a' k=K a1 k) ?_ (λ_ _ h=>h) ⟨rfl,a1,p,g,rfl,W1,λ_ _=>rfl⟩) ?_)
    intro x c f_ _ _ hz;obtain⟨rfl,a',p',g',rfl,NY,Kw⟩:=hz;refine ZF (Wb ?_);simp only[ep];by_cases c:p'.size>1;rw[ZO c,getElem?_pos p' (p'.size - 2) (by lia)];generalize p'[p'.size - 2]=q;obtain⟨u1,u2,old⟩:=q;dsimp only;by_cases c2:old<=pw;rw[ZO c2];exact Zx ⟨rfl,a',p',g',rfl,NY,Kw⟩;rw[ZJ c2];refine ZF (NY.merge O H (by lia) (by lia) λa2 p2 g2 Qv _ LR=>?_);exact Zx ⟨rfl,a2,p2,g2,rfl,Qv,λk hk=>(LR k hk).trans (Kw k hk)⟩;rw[ZJ c];exact Zx ⟨rfl,a',p',g',rfl,NY,Kw⟩;intro c f_ hz;obtain⟨rfl,a',p',g',rfl,NY,Kw⟩:=hz;have Jb:Up LT a' lo (lo+m):=λx y h1 h2 h3=>by rw[Kw x h1,Kw y (by lia)];exact U1 x y h1 h2 h3
    exact ZF (XQ (ZF (XQ (Zx ⟨_,_,_,_,rfl,rfl,NY.mod.push m1 Jb,by lia,by lia⟩))))
 intro c f_ hz;obtain⟨a,p,g,lo,rfl,rfl,hw,Kj,Pb⟩:=hz;have:lo=T.size:=by lia
 exact⟨a,p,g,by rw[this],rfl,by rw[<-this];exact hw⟩
 .intro c f_ hz;obtain⟨a,p,g,rfl,rfl,hw⟩:=hz
  dsimp only;have hl:=hw.ti.le;refine ZF (XH (Yv (I:=λx c f_=>c=(M,())/\∃a p g,f_=SortSt.mk' κ a p g M/\Wait LT T a p T.size/\p.size+x<=T.size)
   (Q:=λc f_=>c=(M,())/\∃a p g,f_=SortSt.mk' κ a p g M/\Wait LT T a p T.size/\p.size<=1) ?_ ?_ ⟨rfl,a,p,g,rfl,hw,by simp at hl;lia⟩) ?_)
  .intro x c f_ _ _ hz;obtain⟨rfl,a,p,g,rfl,hw,hx⟩:=hz
   refine ZF (Wb ?_);simp only[ep];by_cases c:p.size<=1;rw[ZO c];exact Zx ⟨rfl,a,p,g,rfl,hw,c⟩
   .rw[ZJ c]
    refine ZF (hw.merge O H (ZU _) ?_ λa2 p2 g2 Qv hs _=>?_)
    .have:∀b:Bool,(if b=L then p.size - 2 - 1 else p.size - 2)+1<p.size:=λb=>by cases b<;>simp<;>lia
     exact this _
    exact Zx ⟨rfl,a2,p2,g2,rfl,Qv,by lia⟩
  intro c f_ hz;obtain⟨rfl,a,p,g,rfl,hw,hx⟩:=hz;exact⟨rfl,a,p,g,rfl,hw,by lia⟩;intro c f_ hz;obtain⟨rfl,a,p,g,rfl,hw,hx⟩:=hz;refine Zx (hQ a p g hw.pm ?_);have ti:=hw.ti;have up:=hw.up;have JU:p.toList.length<=1:=by simpa using hx
  rcases hp:p.toList with _|⟨q,_|⟨r,l⟩⟩;rw[hp]at ti;simp only[aaM]at ti;lia;rw[hp]at ti up;obtain⟨t1,t2,t3⟩:=ti;simp only[aaM]at t3;have:=up q (.head _);rw[t1,t3]at this;exact this;rw[hp]at JU;simp at JU
end
end SM
namespace L2
open PySem PySem.Spec PyProof.Rows PySem.W
variable[Lams]
section
variable{vs:Z9 Z3}
def xE{n:Nat}{P:PySem.Fin->ZR->Prop}{κ:SortKind}{LT:Z3->Z3->Bool}(ho:s.heap.get? a=U (seqObj "list" vs.toArray n))(hz:vs.length<=sizeLine)(O:SM.aaI λx y=>LT x.1 y.1)
  (hk:2<=vs.length->∀h',(∀b o,b≠a->s.heap.get? b=U o->h'.get? b=U o)->∀Q:SortKind->ZR->Prop,Q κ {s with heap:=h'}->wpAny (model prog w) A (keyKind' vs.toArray) Q (λ_ _=>False) {s with heap:=h'})
  (j_:2<=vs.length->∀h',(∀b o,b≠a->s.heap.get? b=U o->h'.get? b=U o)->∀(u v:Z3)(C:Bool->ZR->Prop),u∈vs->v∈vs->C (LT u v) {s with heap:=h'}->wpAny (model prog w) A (keyLt' κ u v) C (λ_ _=>False) {s with heap:=h'})
  (h:∀us:Z9 Z3,us.Perm vs->us.Pairwise (λu v=>LT v u=Y)->∀h' c,(∀b o,b≠a->s.heap.get? b=U o->h'.get? b=U o)->h'.get? a=U (seqObj "list" us.toArray c)->P (.done (.ret .none)) {s with heap:=h'}):
  wpAny (model prog w) A (Builtin.«list.sort» ⟨[.ref a],[]⟩) P E s:=by
 have ha:a<s.z:=ZQ ho;rw[list_sort_plain];refine Z_ (V5 ho rfl (Z_ (Xb ho rfl ?_ (by rw[ZT];exact hz) (Zs _))));obtain⟨e1,g1⟩:∃e1,(s.heap.update a (Obj.mapSeq λ_=>(#[]:Array Z3))).get? a=U (seqObj "list" #[] e1):=⟨_,Ww ho λ_=>#[]⟩
 refine Z_ (seqEpoch_at g1 rfl (Z_ (V9 ?_ hz)));refine Z_ (wpAny_newList ?_ (Zs _));refine Y4 ?_;have keep:∀b o,b≠a->s.heap.get? b=U o->(((s.heap.update a (Obj.mapSeq λ_=>(#[]:Array Z3))).push (seqObj "tuple" vs.toArray 0)).push (seqObj "list" #[] 0)).get? b=U o:=λb o hb e=>
  Z4 _ (Z4 _ ((Zk s.heap _ (Zy hb)).trans e))
 have g3:(((s.heap.update a (Obj.mapSeq λ_=>(#[]:Array Z3))).push (seqObj "tuple" vs.toArray 0)).push (seqObj "list" #[] 0)).get? a=U (seqObj "list" #[] e1):=Z4 _ (Z4 _ g1);show wpAny (model prog w) A _ P E {s with heap:=((s.heap.update a (Obj.mapSeq λ_=>(#[]:Array Z3))).push (seqObj "tuple" vs.toArray 0)).push (seqObj "list" #[] 0)};generalize hH:(((s.heap.update a (Obj.mapSeq λ_=>(#[]:Array Z3))).push (seqObj "tuple" vs.toArray 0)).push (seqObj "list" #[] 0))=H1 at*;dsimp only;have fin:∀st:SortSt,((arrOf st).map (·.2)).toList.Perm vs->((arrOf st).map (·.2)).toList.Pairwise (λu v=>LT v u=Y)->failedOf st=M->
   wpAny (model prog w) A (do
    let touched:=(<-seqEpoch a) != e1
    Builtin.List.listUpdate (.ref a) λ_=>(arrOf st).map (·.2)
    if let some e:=failedOf st then rule "list.sort.comparison-raised";throw e
    if touched then rule "list.sort.modified";raiseError "ValueError" "list modified during sort"
    ret .none) P E {s with heap:=H1}:=λst hp hs hf=>by
  rw[hf];refine Z_ (seqEpoch_at g3 rfl (Z_ (Xb g3 rfl ?_ (Zs _) ?_)));simp only[bne_self_eq_false,ZY,Zj];obtain⟨c,g4⟩:∃c,(H1.update a (Obj.mapSeq λ_=>(arrOf st).map (·.2))).get? a=U (seqObj "list" ((arrOf st).map (·.2)) c):=⟨_,Ww g3 λ_=>(arrOf st).map (·.2)⟩
  exact Z5 (h _ hp hs _ c (λb o hb e=>(Zk H1 _ (Zy hb)).trans (keep b o hb e)) (by rw[Array.toArray_toList];exact g4));have:=hp.length_eq;rw[Array.length_toList]at this;lia
 have zs:∀l:Z9 Z3,(l.toArray.zip l.toArray).map (·.2)=l.toArray:=λl=>by
  rw[show l.toArray.zip l.toArray=(l.zip l).toArray by simp];simp[List.map_snd_zip]
 by_cases h2:vs.toArray.size<2;rw[ZO h2,ZO h2];refine Z_ (Z5 ?_);rw[StateT.run_pure];refine Z_ (Z5 ?_);rw[ZT]at h2;have e0:(arrOf (SortSt.mk' general' (vs.toArray.zip vs.toArray) #[] 7 M)).map (·.2)=vs.toArray:=zs vs;refine fin (SortSt.mk' general' (vs.toArray.zip vs.toArray) #[] 7 M) (by rw[e0]) ?_ rfl;rw[e0];show vs.Pairwise _;clear fin j_ hk h ho keep hH g3 g1 e0;rcases vs with _|⟨v,_|⟨v',r⟩⟩;exact .nil;exact List.pairwise_singleton _ _;exact absurd h2 (by simp);rw[ZJ h2,ZJ h2];rw[ZT]at h2;refine Z_ (YK (hk (by lia) H1 keep _ ?_) (λ_ _ q=>q) λ_ _ x=>x.elim);have mz:∀x∈vs.toArray.zip vs.toArray,x.1=x.2/\x.1∈vs:=λx hx=>mem_zip_self (by simpa using hx)
 have sz:(vs.toArray.zip vs.toArray).size=vs.length:=by simp
 have run:=SM.abz (prog:=prog) (w:=w) (A:=A) (E:=E) (s:={s with heap:=H1}) (κ:=κ) (T:=vs.toArray.zip vs.toArray) (g:=7) (LT:=λx y=>LT x.1 y.1) O
  (λx hx y hy C hC=>j_ (by lia) H1 keep x.1 y.1 C (mz x hx).2 (mz y hy).2 hC) (by lia)
  (Q:=λ_ st=>((arrOf st).map (·.2)).toList.Perm vs/\((arrOf st).map (·.2)).toList.Pairwise (λu v=>LT v u=Y)/\failedOf st=M) (λb p g hp hu=>by
   have he:∀x∈b,x.1=x.2:=λx hx=>(mz x (hp.mem_iff.mp hx)).1;refine⟨?_,?_,rfl⟩;show(b.map (·.2)).toList.Perm vs;have:=(Array.perm_iff_toList_perm.mp hp).map (·.2);rw[<-Array.toList_map,<-Array.toList_map,zs]at this;exact this;show(b.map (·.2)).toList.Pairwise _;rw[Array.toList_map,List.pairwise_map];have bz:b.size=vs.length:=by rw[hp.size_eq,sz]
   rw[sz,<-bz]at hu;refine(SM.abD hu).imp_of_mem λ{x y} hx hy q=>?_;rw[<-he x (by simpa using hx),<-he y (by simpa using hy)];exact q)
 refine Z_ (YK run ?_ λ_ _ e=>e)
 rintro⟨⟨⟩,f_⟩ s' ⟨rfl,hp,hs,hf⟩
 exact fin f_ hp hs hf
end
noncomputable def cx(lt:D->D->Z8 Bool):Z9 D->Z9 D->Z8 Bool
 |[],[]=>U Y
 |[],_::_=>U L
 |_::_,[]=>U Y
 |x::xs,y::ys=>if x=y then cx lt xs ys else lt x y
noncomputable def ltD:Nat->D->D->Z8 Bool
 |_,.int i,.int j=>U (decide (i<j))
 |_,.str x,.str y=>U (decide (x.cps.toList<y.cps.toList))
 |n+1,.tup xs,.tup ys=>cx (ltD n) xs ys
 |n+1,.lst xs,.lst ys=>cx (ltD n) xs ys
 |_,_,_=>M
def t4{x y:Str}(h:x.cps.toList=y.cps.toList):x=y:=by
 obtain⟨a⟩:=x;obtain⟨b⟩:=y;simp only at h;rw[Array.toList_inj.mp h]
section
variable{lt:D->D->Z8 Bool}
theorem mA(h:∀x y z,lt x y=U L->lt y z=U L->lt x z=U L)(hi:∀x y,lt x y=U L->lt y x≠U L):∀xs ys zs,cx lt xs ys=U L->cx lt ys zs=U L->cx lt xs zs=U L
 |[],[],_,a,_=>by simp[cx]at a
 |[],_::_,[],_,b=>by simp[cx]at b
 |[],_::_,_::_,_,_=>by simp[cx]
 |_::_,[],_,a,_=>by simp[cx]at a
 |_::_,_::_,[],_,b=>by simp[cx]at b
 |x::xs,y::ys,z::zs,a,b=>by
  simp only[cx]at a b⊢;by_cases e1:x=y;subst e1;rw[ZO rfl]at a;by_cases e2:x=z;subst e2;rw[ZO rfl]at b⊢;exact mA h hi xs ys zs a b;rw[ZJ e2]at b⊢;exact b;rw[ZJ e1]at a;by_cases e2:y=z;subst e2;rw[ZJ e1];exact a;rw[ZJ e2]at b;by_cases e3:x=z;subst e3;exact absurd b (hi _ _ a);rw[ZJ e3];exact h _ _ _ a b
theorem mH(hi:∀x y,lt x y=U L->lt y x≠U L):∀xs ys,cx lt xs ys=U L->cx lt ys xs≠U L
 |[],[],a=>by simp[cx]at a
 |[],_::_,_=>by simp[cx]
 |_::_,[],a=>by simp[cx]at a
 |x::xs,y::ys,a=>by
  simp only[cx]at a⊢;by_cases e1:x=y;subst e1;rw[ZO rfl]at a⊢;exact mH hi xs ys a;rw[ZJ e1]at a;rw[ZJ (Zy e1)];exact hi _ _ a
theorem jq(h:∀x y,lt x y=U Y->x=y\/lt y x=U L):∀xs ys,cx lt xs ys=U Y->xs=ys\/cx lt ys xs=U L
 |[],[],_=>.inl rfl
 |[],_::_,a=>by simp[cx]at a
 |_::_,[],_=>.inr (by simp[cx])
 |x::xs,y::ys,a=>by
  simp only[cx]at a⊢;by_cases e1:x=y;subst e1;rw[ZO rfl]at a⊢;rcases jq h xs ys a with q|q;exact .inl (by rw[q]);exact .inr q;rw[ZJ e1]at a;rcases h x y a with q|q;exact absurd q e1;rw[ZJ (Zy e1)];exact .inr q
end
def lD:∀(n:Nat)(x y:D),ltD n x y=U L->ltD n y x≠U L:=by
 intro n
 induction n with
 |zero=>
  intro x y h;cases x<;>cases y<;>simp only[ltD,ZE,Zf,reduceCtorEq]at h<;>simp only[ltD,ne_eq,ZE,Zf];lia;exact List.lt_asymm h
 |succ n ih=>
  intro x y h;cases x<;>cases y<;>simp only[ltD,ZE,Zf,reduceCtorEq]at h<;>simp only[ltD,ne_eq,ZE,Zf];lia;exact List.lt_asymm h;exact mH ih _ _ h;exact mH ih _ _ h
def Dx:∀(n:Nat)(x y z:D),ltD n x y=U L->ltD n y z=U L->ltD n x z=U L:=by
 intro n
 induction n with
 |zero=>
  intro x y z h h';cases x<;>cases y<;>simp only[ltD,ZE,Zf,reduceCtorEq]at h<;>cases z<;>simp only[ltD,ZE,Zf,reduceCtorEq]at h'<;>simp only[ltD,ZE,Zf];lia;exact List.lt_trans h h'
 |succ n ih=>
  intro x y z h h';cases x<;>cases y<;>simp only[ltD,ZE,Zf,reduceCtorEq]at h<;>cases z<;>simp only[ltD,ZE,Zf,reduceCtorEq]at h'<;>simp only[ltD,ZE,Zf];lia;exact List.lt_trans h h';exact mA ih (lD n) _ _ _ h h';exact mA ih (lD n) _ _ _ h h'
set_option tactic.hygienic true in
def mO:∀(n:Nat)(x y:D),ltD n x y=U Y->x=y\/ltD n y x=U L:=by
 intro n
 induction n with
 |zero=>
  intro x y h;cases x<;>cases y<;>simp only[ltD,ZE,Xp,reduceCtorEq]at h<;>simp only[ltD,ZE,Zf,D.int.injEq,D.str.injEq];lia;rename_i x y;by_cases q:y.cps.toList<x.cps.toList;exact .inr q;exact .inl (t4 (List.le_antisymm (List.not_lt.mp q) (List.not_lt.mp h)))
 |succ n ih=>
  intro x y h;cases x<;>cases y<;>simp only[ltD,ZE,Xp,reduceCtorEq]at h<;>simp only[ltD,ZE,Zf,D.int.injEq,D.str.injEq,D.tup.injEq,D.lst.injEq];lia;rename_i x y;by_cases q:y.cps.toList<x.cps.toList;exact .inr q;exact .inl (t4 (List.le_antisymm (List.not_lt.mp q) (List.not_lt.mp h)));exact jq ih _ _ h;exact jq ih _ _ h
def abo(A:Za)(s:ZR)(y x:Z3)(b:Bool):Prop:=
 ∀(prog:Y0)(w:YM)(E:Z3->ZR->Prop)(Q:Z3->ZR->Prop),Q (.bool b) s->wpAny (model prog w) A (richCompare .Lt y x) Q E s
inductive aaJ (A:Za)(s:ZR):List Z3->List Z3->Bool->Prop
 |none:aaJ A s [] [] false
 |less {w:Z3}{ws:List Z3}:aaJ A s [] (w::ws) true
 |more {v:Z3}{vs:List Z3}:aaJ A s (v::vs) [] false
 |eq {v w:Z3}{vs ws:List Z3}{b:Bool}:SeqAt.EqAt A s v w true->aaJ A s vs ws b->aaJ A s (v::vs) (w::ws) b
 |ne {v w:Z3}{vs ws:List Z3}{b:Bool}:SeqAt.EqAt A s v w false->abo A s v w b->aaJ A s (v::vs) (w::ws) b
section
open PySem.SeqAt
open PySem.AutoSeq1 (wpAny_loadPart')
open PySem.MeetsSeq PySem.MeetsSeq2 PySem.MeetsSeq3
def sQ(l b:ZM)(items e_:Array Z3)(n n2:Nat)(dd Jk:Z8 ZM)(sl Jg:Array (Z8 Z3))(r:Bool):
  Meets (Builtin.«tuple.__lt__» ⟨[.ref l,.ref b],[]⟩)
   (λA R s=>s.heap.get? l=U {cls:=.type "tuple",dict:=dd,data:=.seq items n,slots:=sl}/\s.heap.get? b=U {cls:=.type "tuple",dict:=Jk,data:=.seq e_ n2,slots:=Jg}/\
    aaJ A.in1 s items.toList e_.toList r/\R (.ok (.ret (.bool r))) s):=
 .of_wp λprog w A R s h=>by
  obtain⟨hp,g,d,tk,os⟩:=s;obtain⟨hl,hb,hx,h⟩:=h;have f2:=Wo
  wp_walk using wpAny_loadPart' hl,wpAny_loadPart' hb,X4 _ (λaq b s'=>b.1=M/\s'=⟨hp,g,d,tk,os⟩/\∃(vs ws:Z9 Z3),aq=vs.zip ws/\
   aaJ A.in1 ⟨hp,g,d,tk,os⟩ vs ws r/\vs.length+e_.size=ws.length+items.size) _
  case turn=>
   rintro⟨y,x⟩ aq b s' ⟨Jj,rfl,vs,ws,hz,MY,hlen⟩
   cases MY with
   |none=>rw[List.zip_nil_left]at hz;trivial
   |less=>rw[List.zip_nil_left]at hz;trivial
   |more=>rw[List.zip_nil_right]at hz;trivial
   |eq he ht=>
    rw[List.zip_cons_cons]at hz;injection hz with NX JR;injection NX with hy JU;subst hy JU;simp only[cK]at hlen;refine Z_ (he prog w _ _ ?_)
    wp_walk
    exact⟨rfl,rfl,_,_,JR,ht,by lia⟩
   |ne he j_=>
    rw[List.zip_cons_cons]at hz;injection hz with NX JR;injection NX with hy JU;subst hy JU;refine Z_ (he prog w _ _ ?_);have QC:=j_ prog w
    wp_walk using QC
    exact⟨_,rfl,by simpa using h⟩
  case fin=>
   rintro⟨b1,b2⟩ s' ⟨Jj,rfl,vs,ws,hz,MY,hlen⟩
   simp only at Jj;subst Jj;have hv:r=decide (items.size<e_.size):=by
    cases MY with
    |none=>simp only[jQ]at hlen;exact(ZD (by lia)).symm
    |less=>simp only[jQ,cK]at hlen;exact(Zu (by lia)).symm
    |more=>simp only[jQ,cK]at hlen;exact(ZD (by lia)).symm
    |eq _ _=>rw[List.zip_cons_cons]at hz;trivial
    |ne _ _=>rw[List.zip_cons_cons]at hz;trivial
   rw[hv]at h
   wp_walk
   exact⟨_,rfl,by simpa[Builtin.Tuple.tupleCompareSizes]using h⟩
  case h=>exact⟨rfl,rfl,items.toList,e_.toList,rfl,hx,by simp only[Array.length_toList];lia⟩
end
def abo.tuples(hl:s.heap.IsTuple l items)(hb:s.heap.IsTuple b e_)(hu:A.units<cLine)(hx:aaJ A.in1 s items.toList e_.toList r):abo A s (.ref l) (.ref b) r:=λprog w E Q h=>by
 obtain⟨⟨cls,dd,data,sl⟩,ho,hc,n,hd⟩:=id hl;obtain⟨⟨L9,Jk,data2,Jg⟩,JD,Jr,n2,hd2⟩:=id hb;simp only at hc hd Jr hd2;subst hc hd Jr hd2;exact Wk (op:=.Lt) ⟨_,ho,rfl⟩ ⟨_,JD,rfl⟩ F.slot_tuple_lt F.entry_tuple_lt (F.args_tuple_lt_2 _ _) (sQ l b items e_ n n2 dd Jk sl Jg r)
  ⟨ho,JD,hx,show Value.bool r≠Value.notImplemented/\Q (.bool r) s from⟨(λx=>nomatch x),h⟩⟩ hu
section
open PySem.SeqAt
open PySem.AutoSeq1 (wpAny_loadPart')
open PySem.MeetsSeq PySem.MeetsSeq2 PySem.MeetsSeq3
def tw(l b:ZM)(items e_:Array Z3)(n n2:Nat)(dd Jk:Z8 ZM)(sl Jg:Array (Z8 Z3))(r:Bool)(k:Nat):
  ∀i:Nat,i<=items.size->i<=e_.size->items.size - i=k->Meets (Builtin.«list.__eq__.loop» ⟨[.ref l,.ref b,rawInt i,rawInt 0],[]⟩)
   (λA R s=>s.heap.get? l=U {cls:=.type "list",dict:=dd,data:=.seq items n,slots:=sl}/\s.heap.get? b=U {cls:=.type "list",dict:=Jk,data:=.seq e_ n2,slots:=Jg}/\
    aaJ A.in1 s (items.toList.drop i) (e_.toList.drop i) r/\R (.ok (.ret (.bool r))) s):=by
 induction k with
 |zero=>
  intro i hi hj hk prog w A R s h;obtain⟨hp,g,d,tk,os⟩:=s;obtain⟨hl,hb,hx,h⟩:=h
  wp_walk using wpAny_loadPart' hl,wpAny_loadPart' hb
  have MC:items[((i:Nat):Int).toNat]?=M:=by simp;lia
  have e1:items.toList.drop i=[]:=Wz (by rw[Array.length_toList];lia);rw[e1]at hx;have hr:r=decide (items.size<e_.size):=by
   generalize e2:e_.toList.drop i=ws at hx;have hz:=congrArg List.length e2;rw[List.length_drop,Array.length_toList]at hz;cases hx with
   |none=>simp at hz;exact(ZD (by lia)).symm
   |less=>simp at hz;exact(Zu (by lia)).symm
  rw[MC]
  wp_walk using wpAny_loadPart' hl,wpAny_loadPart' hb
  show R (.ok (.ret (.bool (decide (items.size<e_.size))))) _;rw[<-hr];exact h
 |succ k ih=>
  intro i hi hj hk prog w A R s h;obtain⟨hp,g,d,tk,os⟩:=s;obtain⟨hl,hb,hx,h⟩:=h
  wp_walk using wpAny_loadPart' hl,wpAny_loadPart' hb
  have j_:i<items.size:=by lia
  have MC:items[((i:Nat):Int).toNat]?=U items[i]:=by simp[j_]
  have d1:items.toList.drop i=items[i]::items.toList.drop (i+1):=by rw[Zn (by simpa using j_)];simp
  have hc:((i:Int)+1)=((i+1:Nat):Int):=by push_cast;rfl
  rw[d1]at hx;by_cases OA:i<e_.size
  .have Ky:e_[((i:Nat):Int).toNat]?=U e_[i]:=by simp[OA]
   have d2:e_.toList.drop i=e_[i]::e_.toList.drop (i+1):=by rw[Zn (by simpa using OA)];simp
   rw[d2]at hx;rw[MC,Ky];cases hx with
   |eq he ht=>
    refine Z_ (he prog w _ _ ?_)
    wp_walk
    rw[hc];exact⟨Ys plain_eq_loop _,YO entry_eq_loop (by
     rw[Y7 plain_eq_loop _];exact ih (i+1) (by lia) (by lia) (by lia) prog w A R _ ⟨hl,hb,ht,h⟩)⟩
   |ne he ht=>
    refine Z_ (he prog w _ _ ?_);have QC:=ht prog w
    wp_walk using wpAny_loadPart' hl,wpAny_loadPart' hb
    rw[MC,Ky]
    wp_walk using QC
    exact h
  .have Ky:e_[((i:Nat):Int).toNat]?=M:=by simp;lia
   have e2:e_.toList.drop i=[]:=Wz (by rw[Array.length_toList];lia);rw[e2]at hx;cases hx;rw[MC,Ky]
   wp_walk using wpAny_loadPart' hl,wpAny_loadPart' hb
   show R (.ok (.ret (.bool (decide (items.size<e_.size))))) _;rw[ZD (by lia)];exact h
def o9(l b:ZM)(items e_:Array Z3)(n n2:Nat)(dd Jk:Z8 ZM)(sl Jg:Array (Z8 Z3))(r:Bool):
  Meets (Builtin.«list.__lt__» ⟨[.ref l,.ref b],[]⟩)
   (λA R s=>s.heap.get? l=U {cls:=.type "list",dict:=dd,data:=.seq items n,slots:=sl}/\s.heap.get? b=U {cls:=.type "list",dict:=Jk,data:=.seq e_ n2,slots:=Jg}/\
    aaJ A.in1 s items.toList e_.toList r/\R (.ok (.ret (.bool r))) s):=by
 intro prog w A R s h;obtain⟨hp,g,d,tk,os⟩:=s;obtain⟨hl,hb,hx,h⟩:=h;have f3:=AutoSeq1.sub_list_list
 wp_walk using wpAny_loadPart' hl,wpAny_loadPart' hb
 exact⟨Ys plain_eq_loop _,YO entry_eq_loop (by
  rw[Y7 plain_eq_loop _];exact tw l b items e_ n n2 dd Jk sl Jg r _ 0 (Zs _) (Zs _) rfl prog w A R _ ⟨hl,hb,hx,h⟩)⟩
end
def abo.lists(hl:s.heap.IsList l items)(hb:s.heap.IsList b e_)(hu:A.units<cLine)(hx:aaJ A.in1 s items.toList e_.toList r):abo A s (.ref l) (.ref b) r:=λprog w E Q h=>by
 obtain⟨⟨cls,dd,data,sl⟩,ho,hc,n,hd⟩:=id hl;obtain⟨⟨L9,Jk,data2,Jg⟩,JD,Jr,n2,hd2⟩:=id hb;simp only at hc hd Jr hd2;subst hc hd Jr hd2;exact Wk (op:=.Lt) ⟨_,ho,rfl⟩ ⟨_,JD,rfl⟩ Wm F.entry_list_lt (F.args_list_lt_2 _ _) (o9 l b items e_ n n2 dd Jk sl Jg r)
  ⟨ho,JD,hx,show Value.bool r≠Value.notImplemented/\Q (.bool r) s from⟨(λx=>nomatch x),h⟩⟩ hu
def pL(hl:s.heap.IsList l items)(hb:s.heap.IsList b e_)(hu:A.units<cLine)(hx:aaJ A.in1 s items.toList e_.toList r)(h:Q r s):
  wpAny (model prog w) A (oneLt' L (.ref l) (.ref b)) Q E s:=by
 obtain⟨⟨cls,dd,data,sl⟩,ho,hc,n,hd⟩:=id hl;obtain⟨⟨L9,Jk,data2,Jg⟩,JD,Jr,n2,hd2⟩:=id hb;simp only at hc hd Jr hd2;subst hc hd Jr hd2;rw[oneLt'_eq];simp only[Y8];refine Z_ (wpAny_cRoomFor hu ?_);refine Z_ (wpAny_callSpecialIfBound?_slot ⟨_,ho,rfl⟩ Wm (Wj Wm ⟨_,ho,rfl⟩ F.entry_list_lt (F.args_list_lt_2 _ _) (o9 l b items e_ n n2 dd Jk sl Jg r) ⟨ho,JD,hx,?_⟩));exact Xy h
section
theorem ql(I:Inv X pins σ H s)(hA:A.units+n+1<cLine)(ih:∀(d e:D)(x y:V)(u w:Z3)(r:Bool),okD n d=L->okD n e=L->Rep X.K B H d x->Rep X.K B' H e y->RelV x u->RelV y w->ltD n d e=U r->abo A s u w r):
  ∀(ds es:Z9 D)(xs ys:Z9 V)(us ws:Z9 Z3)(r:Bool),ds.all (okD n)=L->es.all (okD n)=L->M1 X.K B H ds xs->M1 X.K B' H es ys->aab xs us->aab ys ws->cx (ltD n) ds es=U r->aaJ A s us ws r
 |[],[],xs,ys,us,ws,r,hd,he,r1,r2,v1,v2,h=>by
  simp only[M1]at r1 r2;subst r1 r2;cases v1;cases v2;simp only[cx,ZE]at h;subst h;exact .none
 |[],e::es,xs,ys,us,ws,r,hd,he,r1,r2,v1,v2,h=>by
  simp only[M1]at r1 r2;subst r1;obtain⟨y,t,rfl,_,_⟩:=r2;cases v1;cases v2;simp only[cx,ZE]at h;subst h;exact .less
 |d::ds,[],xs,ys,us,ws,r,hd,he,r1,r2,v1,v2,h=>by
  simp only[M1]at r1 r2;subst r2;obtain⟨y,t,rfl,_,_⟩:=r1;cases v1;cases v2;simp only[cx,ZE]at h;subst h;exact .more
 |d::ds,e::es,xs,ys,us,ws,r,hd,he,r1,r2,v1,v2,h=>by
  simp only[M1]at r1 r2;obtain⟨x,xt,rfl,NS,P7⟩:=r1;obtain⟨y,yt,rfl,NQ,P6⟩:=r2;cases v1 with
  |cons va vb=>
   cases v2 with
   |cons wa wb=>
    rw[jR,ZK]at hd he;have q:=(Bl I n d e x y _ _ A hd.1 he.1 hA NS NQ va wa).2.1;simp only[cx]at h;by_cases c:d=e;rw[ZO c]at h;rw[Zu c]at q;exact .eq q (ql I hA ih ds es xt yt _ _ r hd.2 he.2 P7 P6 vb wb h);rw[ZJ c]at h;rw[ZD c]at q;exact .ne q (ih d e x y _ _ r hd.1 he.1 NS NQ va wa h)
def EX(I:Inv X pins σ H s):∀(n:Nat)(d e:D)(x y:V)(u w:Z3)(r:Bool)(A:Za),okD n d=L->okD n e=L->A.units+n+1<cLine->Rep X.K B H d x->Rep X.K B' H e y->RelV x u->RelV y w->ltD n d e=U r->abo A s u w r:=by
 intro n;have flat:∀(d e:D)(x y:V)(u w:Z3)(r:Bool)(A:Za),Rep X.K B H d x->Rep X.K B' H e y->RelV x u->RelV y w->ltD 0 d e=U r->abo A s u w r:=λd e x y u w r A rd re rx ry h=>by
  cases d with
  |int i=>
   cases e with
   |int j=>
    simp only[Rep]at rd re;subst rd re;obtain⟨t,rfl⟩:=rx;obtain⟨t',rfl⟩:=ry;simp only[ltD,ZE]at h;subst h;exact λprog w E Q hq=>HT.ab3 A s i t j t' prog w E Q hq
   |_=>simp[ltD]at h
  |str i=>
   cases e with
   |str j=>
    simp only[Rep]at rd re;subst rd re;obtain⟨t,rfl⟩:=rx;obtain⟨t',rfl⟩:=ry;simp only[ltD,ZE]at h;subst h;exact λprog w E Q hq=>(lt_str hq:wpAny (model prog w) A (compareOp .Lt (.str i t) (.str j t')) Q E s)
   |_=>simp[ltD]at h
  |_=>simp[ltD]at h
 induction n with
 |zero=>exact λd e x y u w r A _ _ _ rd re rx ry h=>flat d e x y u w r A rd re rx ry h
 |succ n ih=>
  intro d e x y u w r A hd he hA rd re rx ry h;cases d with
  |tup ds=>
   cases e with
   |tup es=>
    simp only[Rep]at rd re;obtain⟨a,xs,rfl,hq,r1⟩:=rd;obtain⟨b,ys,rfl,Kv,r2⟩:=re;cases rx;cases ry;obtain⟨its,v1,t1,_⟩:=I.tuple (SqT.of hq);obtain⟨ka,v2,t2,_⟩:=I.tuple (SqT.of Kv);simp only[okD]at hd he;simp only[ltD]at h;have Kk:A.in1.units+n+1<cLine:=by show A.units+1+n+1<cLine;lia
    exact abo.tuples t1 t2 (by lia) (by simpa using ql I Kk (λd e x y u w r o1 o2 r1 r2 v1 v2 hl=>ih d e x y u w r A.in1 o1 o2 Kk r1 r2 v1 v2 hl) ds es xs ys its ka r hd he r1 r2 v1 v2 h)
   |_=>simp[ltD]at h
  |lst ds=>
   cases e with
   |lst es=>
    simp only[Rep]at rd re;obtain⟨a,xs,rfl,hq,r1⟩:=rd;obtain⟨b,ys,rfl,Kv,r2⟩:=re;cases rx;cases ry;obtain⟨its,v1,t1,_⟩:=I.list hq.sq;obtain⟨ka,v2,t2,_⟩:=I.list Kv.sq;simp only[okD]at hd he;simp only[ltD]at h;have Kk:A.in1.units+n+1<cLine:=by show A.units+1+n+1<cLine;lia
    exact abo.lists t1.isList t2.isList (by lia) (by simpa using ql I Kk (λd e x y u w r o1 o2 r1 r2 v1 v2 hl=>ih d e x y u w r A.in1 o1 o2 Kk r1 r2 v1 v2 hl) ds es xs ys its ka r hd he r1 r2 v1 v2 h)
   |_=>simp[ltD]at h
  |int i=>cases e<;>first|(simp[ltD]at h;done)|exact flat _ _ x y u w r A rd re rx ry (by simpa only[ltD]using h)
  |str i=>cases e<;>first|(simp[ltD]at h;done)|exact flat _ _ x y u w r A rd re rx ry (by simpa only[ltD]using h)
  |_=>simp[ltD]at h
end
def leD(x y:D):Prop:=ltD 15 y x≠U L
def mR(x:D):Z9 D->Z9 D
 |[]=>[x]
 |y::ys=>if ltD 15 y x=U L then y::mR x ys else x::y::ys
def b7(ds:Z9 D):Z9 D:=ds.foldr mR []
def cN(ds:Z9 D):Bool:=ds.all λx=>okD 15 x&&ds.all λy=>(ltD 15 x y).isSome
def eR(h:cN ds=L)(hx:x∈ds)(hy:y∈ds):∃b,ltD 15 x y=U b:=by
 unfold cN at h;have h1:=ZX.mp h x hx;rw[ZK]at h1;exact Option.isSome_iff_exists.mp (ZX.mp h1.2 y hy)
def fm(h:cN ds=L)(hx:x∈ds):okD 15 x=L:=by
 unfold cN at h;have h1:=ZX.mp h x hx;rw[ZK]at h1;exact h1.1
theorem fU(x:D):∀l:Z9 D,(mR x l).Perm (x::l)
 |[]=>Yy _
 |y::ys=>by
  unfold mR;split
  .exact((fU x ys).cons y).trans (List.Perm.swap x y ys)
  exact Yy _
theorem aA:∀ds:Z9 D,(b7 ds).Perm ds
 |[]=>Yy _
 |d::ds=>by
  show(mR d (b7 ds)).Perm (d::ds);exact(fU d _).trans ((aA ds).cons d)
def yp(h:cN ds=L)(hx:x∈ds)(hy:y∈ds)(hz:z∈ds)(a:leD x y)(b:leD y z):leD x z:=by
 unfold leD at*;intro c;obtain⟨r1,e1⟩:=eR h hy hx;obtain⟨r2,e2⟩:=eR h hz hy;cases r1 with
 |true=>exact a e1
 |false=>
  cases r2 with
  |true=>exact b e2
  |false=>
   rcases mO 15 _ _ e1 with q1|q1;subst q1;exact b c;rcases mO 15 _ _ e2 with q2|q2;subst q2;exact a c;exact lD 15 _ _ (Dx 15 _ _ _ q1 q2) c
def CM(h:cN ds=L)(hx:x∈ds)(hy:y∈ds)(a:leD x y)(b:leD y x):x=y:=by
 unfold leD at*;obtain⟨r1,e1⟩:=eR h hx hy;cases r1 with
 |true=>exact absurd e1 b
 |false=>
  rcases mO 15 _ _ e1 with q|q;exact q;exact absurd q a
theorem gn(h:cN ds=L)(hx:x∈ds):∀l:Z9 D,(∀y∈l,y∈ds)->l.Pairwise leD->(mR x l).Pairwise leD
 |[],_,_=>by simp[mR]
 |y::ys,hm,hp=>by
  unfold mR;obtain⟨h1,h2⟩:=XN.mp hp;have hy:=hm y ZW;split;rename_i c;refine XN.mpr ⟨λz hz=>?_,gn h hx ys (λz hz=>hm z (Z2 _ hz)) h2⟩;rcases ZZ.mp ((fU x ys).mem_iff.mp hz)with q|q;subst q;exact lD 15 _ _ c;exact h1 z q;rename_i c;refine XN.mpr ⟨λz hz=>?_,hp⟩;rcases ZZ.mp hz with q|q;subst q;exact c;exact yp h hx hy (hm z hz) c (h1 z q)
def bW(h:cN ds=L):(b7 ds).Pairwise leD:=by
 have key:∀l:Z9 D,(∀y∈l,y∈ds)->(b7 l).Pairwise leD:=by
  intro l
  induction l with
  |nil=>intro _;exact List.Pairwise.nil
  |cons y l ih=>
   intro hm;exact gn h (hm y ZW) _ (λz hz=>hm z (Z2 _ ((aA l).mem_iff.mp hz))) (ih λz hz=>hm z (Z2 _ hz))
 exact key ds λ_ h=>h
theorem dk(h:cN ds=L):∀(l1 l2:Z9 D),(∀y∈l1,y∈ds)->l1.Perm l2->l1.Pairwise leD->l2.Pairwise leD->l1=l2
 |[],l2,_,hp,_,_=>(List.nil_perm.mp hp).symm
 |a::l1,[],_,hp,_,_=>(List.perm_nil.mp hp)
 |a::l1,b::l2,hm,hp,h1,h2=>by
  obtain⟨p1,q1⟩:=XN.mp h1;obtain⟨p2,q2⟩:=XN.mp h2;have MA:∀y∈b::l2,y∈ds:=λy hy=>hm y (hp.mem_iff.mpr hy);have ab:a=b:=by
   have ha:a∈b::l2:=hp.mem_iff.mp ZW;have hb:b∈a::l1:=hp.mem_iff.mpr ZW;rcases ZZ.mp ha with z|z;exact z;rcases ZZ.mp hb with y|y;exact y.symm;exact CM h (hm a ZW) (MA b ZW) (p1 b y) (p2 a z)
  subst ab;rw[dk h l1 l2 (λy hy=>hm y (Z2 _ hy)) (List.perm_cons a |>.mp hp) q1 q2]
inductive KD|st|it|ts|tt|ls
def du:KD->D->Bool
 |.st,.str _=>L
 |.it,.int _=>L
 |.ts,.tup (.str _::_)=>L
 |.tt,.tup (.tup _::_)=>L
 |.ls,.lst _=>L
 |_,_=>Y
def mY(h:du .ts d=L):∃x ds,d=.tup (.str x::ds):=by
 unfold du at h;split at h;trivial;trivial;exact⟨_,_,rfl⟩;trivial;trivial;trivial
def mL(h:du .tt d=L):∃x ds,d=.tup (.tup x::ds):=by
 unfold du at h;split at h;trivial;trivial;trivial;exact⟨_,_,rfl⟩;trivial;trivial
def Ag:KD->SortKind
 |.st=>oneType'
 |.it=>oneType'
 |.ts=>tuples' L
 |.tt=>tuples' Y
 |.ls=>oneType'
section
def hV:∀{vs ws:Z9 Z3}{i:Nat},aaJ A s vs ws r->(b=Y\/1<=i)->(fin=decide (vs.length<ws.length))->Q r s->KatLex prog w A b fin Q (vs.zip ws) i s:=by
 intro vs ws i h
 induction h generalizing i with
 |none=>
  intro hb hf q;subst hf;exact kat_nil (by simpa using q)
 |less=>
  intro hb hf q;rw[List.zip_nil_left];subst hf;exact kat_nil (by simpa using q)
 |more=>
  intro hb hf q;rw[List.zip_nil_right];subst hf;exact kat_nil (by simpa using q)
 |eq he ht ih=>
  intro hb hf q;rw[List.zip_cons_cons];refine kat_cons (he prog w _ _ (kat_yes ?_));exact ih (.inr (by lia)) (by rw[hf];simp) q
 |ne he hl=>
  intro hb hf q;rw[List.zip_cons_cons];refine kat_cons (he prog w _ _ (kat_no ?_));have hz:(b&&i==0)=Y:=by
   rcases hb with z|z;rw[z,Bool.false_and];have:(i==0)=Y:=by simp;lia
   rw[this,XB]
  rw[hz];exact kat_one _ _ (hl prog w _ _ q)
end
section
def Dr(I:Inv X pins σ H s)(hA:A.units+20<cLine)(hd:okD 15 d=L)(he:okD 15 e=L)(kd:du c d=L)(ke:du c e=L)(rd:Rep X.K B H d x)(re:Rep X.K B' H e y)(rx:RelV x u)(ry:RelV y w')(h:ltD 15 d e=U r)(q:C r s):wpAny (model X.prog X.w) A (keyLt' (Ag c) u w') C (λ_ _=>False) s:=by
 cases c with
 |st=>
  cases d<;>simp only[du,ZY]at kd;cases e<;>simp only[du,ZY]at ke;simp only[Rep]at rd re;subst rd re;obtain⟨t,rfl⟩:=rx;obtain⟨t',rfl⟩:=ry;simp only[ltD,ZE]at h;subst h;show wpAny _ _ (keyLt' oneType' _ _) _ _ _;rw[keyLt'_oneType];exact oneLt_str q
 |it=>
  cases d<;>simp only[du,ZY]at kd;cases e<;>simp only[du,ZY]at ke;simp only[Rep]at rd re;subst rd re;obtain⟨t,rfl⟩:=rx;obtain⟨t',rfl⟩:=ry;simp only[ltD,ZE]at h;subst h;show wpAny _ _ (keyLt' oneType' _ _) _ _ _;rw[keyLt'_oneType];exact oneLt_int q
 |ts=>
  obtain⟨i,ds,rfl⟩:=mY kd;obtain⟨j,es,rfl⟩:=mY ke;simp only[Rep]at rd re;obtain⟨a,xs,rfl,hq,r1⟩:=rd;obtain⟨b,ys,rfl,Kv,r2⟩:=re;cases rx;cases ry;obtain⟨its,v1,⟨o1,g1,c1,n1,d1⟩,_⟩:=I.tuple (SqT.of hq);obtain⟨ka,v2,⟨o2,g2,c2,n2,d2⟩,_⟩:=I.tuple (SqT.of Kv);refine kat_lt g1 d1 g2 d2 ?_;simp only[M1]at r1 r2;obtain⟨x,xt,rfl,NS,P7⟩:=r1;obtain⟨y,yt,rfl,NQ,P6⟩:=r2;simp only[Rep]at NS NQ;subst NS NQ;simp only[okD,jR,ZK]at hd he;simp only[ltD,cx,D.str.injEq]at h;cases v1 with
  |cons va vb=>
   cases v2 with
   |cons wa wb=>
    obtain⟨t,rfl⟩:=va;obtain⟨t',rfl⟩:=wa;show KatLex _ _ _ _ _ _ ((Value.str i t::_).zip (Value.str j t'::_)) 0 s;rw[List.zip_cons_cons];by_cases Q8:i=j;subst Q8;rw[ZO rfl]at h;have q1:=SeqAt.EqAt.str_str (A:=A) (s:=s) i t i t';rw[Yr]at q1;refine kat_cons (q1 _ _ _ _ (kat_yes ?_));have lx:=ql (B:=B) (B':=B') I (n:=14) (A:=A) (by lia) (λd e x y u w r o1 o2 r1 r2 v1 v2 hl=>EX I 14 d e x y u w r A o1 o2 (by lia) r1 r2 v1 v2 hl) ds es xt yt _ _ r
     hd.2 he.2 P7 P6 vb wb h
    exact hV lx (.inr (ZU _)) (by simp) q;rw[ZJ Q8]at h;have q1:=SeqAt.EqAt.str_str (A:=A) (s:=s) i t j t';have eb:(i==j)=Y:=by simpa using Q8
    rw[eb]at q1;refine kat_cons (q1 _ _ _ _ (kat_no ?_));simp only[ZE]at h;subst h;exact oneLt_str q
 |tt=>
  obtain⟨i,ds,rfl⟩:=mL kd;obtain⟨j,es,rfl⟩:=mL ke;have Jh:=rd;have re':=re;simp only[Rep]at rd re;obtain⟨a,xs,rfl,hq,r1⟩:=rd;obtain⟨b,ys,rfl,Kv,r2⟩:=re;cases rx;cases ry;obtain⟨its,v1,⟨o1,g1,c1,n1,d1⟩,_⟩:=I.tuple (SqT.of hq);obtain⟨ka,v2,⟨o2,g2,c2,n2,d2⟩,_⟩:=I.tuple (SqT.of Kv);refine kat_lt g1 d1 g2 d2 ?_;have z_:(D.tup i::ds).all (okD 14)=L:=by simpa only[okD]using hd
  have LU:(D.tup j::es).all (okD 14)=L:=by simpa only[okD]using he
  simp only[ltD]at h;have lx:=ql (B:=B) (B':=B') I (n:=14) (A:=A) (by lia) (λd e x y u w r o1 o2 r1 r2 v1 v2 hl=>EX I 14 d e x y u w r A o1 o2 (by lia) r1 r2 v1 v2 hl) _ _ xs ys _ _ r z_ LU (by simpa only[M1]using r1) (by simpa only[M1]using r2) v1 v2 h;exact hV lx (.inl rfl) (by simp) q
 |ls=>
  cases d<;>simp only[du,ZY]at kd;cases e<;>simp only[du,ZY]at ke;simp only[Rep]at rd re;obtain⟨a,xs,rfl,hq,r1⟩:=rd;obtain⟨b,ys,rfl,Kv,r2⟩:=re;cases rx;cases ry;obtain⟨its,v1,t1,_⟩:=I.list hq.sq;obtain⟨ka,v2,t2,_⟩:=I.list Kv.sq;simp only[okD]at hd he;simp only[ltD]at h;have Kk:A.in1.units+14+1<cLine:=by show A.units+1+14+1<cLine;lia
  show wpAny _ _ (keyLt' oneType' _ _) _ _ _;rw[keyLt'_oneType];exact pL t1.isList t2.isList (by lia) (by simpa using ql I Kk (λd e x y u w r o1 o2 r1 r2 v1 v2 hl=>EX I 14 d e x y u w r A.in1 o1 o2 Kk r1 r2 v1 v2 hl) _ _ xs ys its ka r hd he r1 r2 v1 v2 h) q
def vW(I:Inv X pins σ H s)(h2:2<=us.length)(hk:ds.all (du c)=L)(r:M1 X.K B H ds xs)(v:aab xs us)(q:Q (Ag c) s):
  wpAny (model X.prog X.w) A (keyKind' us.toArray) Q (λ_ _=>False) s:=by
 have each:∀u∈us,∃d x,du c d=L/\Rep X.K B H d x/\RelV x u:=λu hu=>by
  obtain⟨j,hj⟩:=X0 hu;have hl:=v.length;have j_:j<xs.length:=by rw[hl];exact(ZP.mp hj).1
  obtain⟨u',Jb,ru⟩:=v.get (i:=j) (x:=xs[j]) (by simp[j_]);rw[hj]at Jb;obtain rfl:=Z7 Jb;obtain⟨d,hd,rd⟩:=r.get' (i:=j) (x:=xs[j]) (by simp[j_]);exact⟨d,xs[j],ZX.mp hk d (Zg hd),rd,ru⟩
 cases c with
 |st=>
  refine kas_kind (T:=.type "str") h2 (λu hu=>?_) (by decide) (by decide) q;obtain⟨d,x,k1,rd,ru⟩:=each u hu;cases d<;>simp only[du,ZY]at k1;simp only[Rep]at rd;subst rd;obtain⟨t,rfl⟩:=ru;exact .now
 |it=>
  refine kas_kind (T:=.type "int") h2 (λu hu=>?_) (by decide) (by decide) q;obtain⟨d,x,k1,rd,ru⟩:=each u hu;cases d<;>simp only[du,ZY]at k1;simp only[Rep]at rd;subst rd;obtain⟨t,rfl⟩:=ru;exact .now
 |ls=>
  refine kas_kind (T:=.type "list") h2 (λu hu=>?_) (by decide) (by decide) q;obtain⟨d,x,k1,rd,ru⟩:=each u hu;cases d<;>simp only[du,ZY]at k1;simp only[Rep]at rd;obtain⟨a,xs,rfl,hq,r1⟩:=rd;cases ru;obtain⟨its,v1,t1,_⟩:=I.list hq.sq;obtain⟨o,ho,hc,_⟩:=t1.isList;have:=(show Looks (model X.prog X.w) s.heap (typeOf (.ref a)) o.cls from(Looks.ld ho).andThen .now)
  rw[hc]at this;exact this
 |ts=>
  have mk:∀(ds:Z9 D)(xs:Z9 V)(us:Z9 Z3),ds.all (du .ts)=L->M1 X.K B H ds xs->aab xs us->∃fs,KatTups s.heap us fs/\fs.length=us.length/\∀f∈fs,∃z t,f=.str z t:=by
   intro ds
   induction ds with
   |nil=>intro xs us _ r v;simp only[M1]at r;subst r;cases v;exact⟨[],.nil,rfl,λ_ h=>by cases h⟩
   |cons d ds ih=>
    intro xs us hk r v;simp only[M1]at r;obtain⟨x,xt,rfl,ra,rb⟩:=r;cases v with
    |cons va vb=>
     rw[jR,ZK]at hk;obtain⟨fs,f1,f2,f3⟩:=ih xt _ hk.2 rb vb;obtain⟨z,es,rfl⟩:=mY hk.1;simp only[Rep]at ra;obtain⟨a,ys,rfl,hq,rs⟩:=ra;cases va;obtain⟨its,v1,⟨o1,g1,c1,n1,d1⟩,_⟩:=I.tuple (SqT.of hq);simp only[M1]at rs;obtain⟨y,yt,rfl,ry,_⟩:=rs;simp only[Rep]at ry;subst ry;cases v1 with
     |cons w1 w2=>
      obtain⟨t,rfl⟩:=w1;exact⟨.str z t::fs,.cons g1 c1 d1 (by simp) f1,by simp[f2],λf hf=>by
       rcases ZZ.mp hf with q|q;exact⟨z,t,q⟩;exact f3 f q⟩
  obtain⟨fs,f1,f2,f3⟩:=mk ds xs us hk r v;refine kat_kind (T:=.type "str") f1 (by lia) (λf hf=>?_) (by decide) q;obtain⟨z,t,rfl⟩:=f3 f hf;exact .now
 |tt=>
  have mk:∀(ds:Z9 D)(xs:Z9 V)(us:Z9 Z3),ds.all (du .tt)=L->M1 X.K B H ds xs->aab xs us->∃fs,KatTups s.heap us fs/\fs.length=us.length/\∀f∈fs,∃b o,f=.ref b/\s.heap.get? b=U o/\o.cls=.type "tuple":=by
   intro ds
   induction ds with
   |nil=>intro xs us _ r v;simp only[M1]at r;subst r;cases v;exact⟨[],.nil,rfl,λ_ h=>by cases h⟩
   |cons d ds ih=>
    intro xs us hk r v;simp only[M1]at r;obtain⟨x,xt,rfl,ra,rb⟩:=r;cases v with
    |cons va vb=>
     rw[jR,ZK]at hk;obtain⟨fs,f1,f2,f3⟩:=ih xt _ hk.2 rb vb;obtain⟨z,es,rfl⟩:=mL hk.1;simp only[Rep]at ra;obtain⟨a,ys,rfl,hq,rs⟩:=ra;cases va;obtain⟨its,v1,⟨o1,g1,c1,n1,d1⟩,_⟩:=I.tuple (SqT.of hq);simp only[M1]at rs;obtain⟨y,yt,rfl,ry,_⟩:=rs;simp only[Rep]at ry;obtain⟨b,zs,rfl,Vj,_⟩:=ry;cases v1 with
     |cons w1 w2=>
      cases w1;obtain⟨_,_,⟨o2,g2,c2,_⟩,_⟩:=I.tuple (SqT.of Vj);exact⟨.ref b::fs,.cons g1 c1 d1 (by simp) f1,by simp[f2],λf hf=>by
       rcases ZZ.mp hf with q|q;exact⟨b,o2,q,g2,c2⟩;exact f3 f q⟩
  obtain⟨fs,f1,f2,f3⟩:=mk ds xs us hk r v;refine kat_kind (T:=.type "tuple") f1 (by lia) (λf hf=>?_) (by decide) q;obtain⟨b,o,rfl,g,hc⟩:=f3 f hf;rw[<-hc];exact(Looks.ld g).andThen .now
end
def Er(h:cN ds=L){f:Z3->D}(hf:ds≠[]->∀u,f u∈ds)(h0:ds=[]->∀u,f u=.non):SM.aaI λx y=>decide (ltD 15 (f x.1) (f y.1)=U L):=by
 by_cases hn:ds=[];have e:=h0 hn;exact⟨λi j q=>by simp only[e,ltD]at q;simp at q,λi j k _ _=>by simp[e,ltD]⟩;exact⟨λi j q=>ZD (lD 15 _ _ (Zo q)),λi j k a b=>ZD (yp h (hf hn _) (hf hn _) (hf hn _) (X9 a) (X9 b))⟩
section
variable{X:Cx}
def Bu(I:Inv X pins σ H s)(r:M1 X.K B H ds ys)(v:aab ys us)(hc:cN ds=L):
  ∃f:Z3->D,(ds≠[]->∀u,f u∈ds)/\(ds=[]->∀u,f u=.non)/\us.map f=ds/\∀u∈us,∃y,Rep X.K B H (f u) y/\RelV y u:=by
 refine⟨λu=>open Classical in if h:∃d,d∈ds/\∃y,Rep X.K B H d y/\RelV y u then h.choose else ds.headD .non,λhn u=>?_,λhn u=>?_,?_⟩;dsimp only;split;rename_i h;exact h.choose_spec.1;cases ds with
 |nil=>exact absurd rfl hn
 |cons d ds=>exact .head _
 subst hn;dsimp only;split;rename_i h;exact nomatch h.choose_spec.1;rfl;have key:∀i,i<us.length->∃d y u,ds[i]?=U d/\us[i]?=U u/\Rep X.K B H d y/\RelV y u:=λi hi=>by
  have l1:=r.length;have l2:=v.length;have k_:i<ds.length:=by lia
  obtain⟨x,hx,rx⟩:=r.get (i:=i) (d:=ds[i]) (by simp[k_]);obtain⟨u,hu,ru⟩:=v.get hx;exact⟨ds[i],x,u,by simp[k_],hu,rx,ru⟩
 have val:∀d y u,d∈ds->Rep X.K B H d y->RelV y u->(open Classical in if h:∃d,d∈ds/\∃y,Rep X.K B H d y/\RelV y u then h.choose else ds.headD .non)=d:=λd y u hd hr hv=>by
  rw[dif_pos ⟨d,hd,y,hr,hv⟩];have h:∃d,d∈ds/\∃y,Rep X.K B H d y/\RelV y u:=⟨d,hd,y,hr,hv⟩;obtain⟨h1,y',h2,h3⟩:=h.choose_spec;cases RelV.inj h3 hv;exact Rep.inj I (fm hc h1) (fm hc hd) h2 hr
 constructor;refine WR λi=>?_;rw[YQ];by_cases hi:i<us.length;obtain⟨d,y,u,h1,h2,h3,h4⟩:=key i hi;rw[h1,h2,Option.map_some,val d y u (Zg h1) h3 h4];have l1:=r.length;have l2:=v.length;rw[YG (by lia),YG (by lia)];rfl;intro u hu;obtain⟨i,hi⟩:=X0 hu;obtain⟨d,y,u',h1,h2,h3,h4⟩:=key i (ZP.mp hi).1;cases hi.symm.trans h2;exact⟨y,by dsimp only;rw[val d y u (Zg h1) h3 h4];exact h3,h4⟩
theorem tR:∀{us:Z9 Z3},(∀u∈us,∃y,Rep X.K B H (f u) y/\RelV y u)->∃zs,M1 X.K B H (us.map f) zs/\aab zs us
 |[],_=>⟨[],M1.nil,.nil⟩
 |u::us,h=>by
  obtain⟨y,r,v⟩:=h u (.head _);obtain⟨zs,rs,vs⟩:=tR (us:=us) λu hu=>h u (.tail _ hu);exact⟨y::zs,M1.cons r rs,.cons v vs⟩
end
section
variable{X:Cx}{m:Bool}{a b:Expr}
def gA(hu:X.A.units+64<cLine)(I:Inv X pins σ H s)(k1:∀b o,s.heap.get? b=U o->h1.get? b=U o)(hsz:s.z<=h1.objs.size)(r:M1 X.K B H ds ys)(v:aab ys us)(hz:us.length<=sizeLine)(hc:cN ds=L)(hk:(decide (ds.length<2)||ds.all (du c))=L)(q:∀l zs,H l=M->M1 X.K B H (b7 ds) zs->Q (.ref l) (upd H l (.lst zs))):
  wpAny (model X.prog X.w) X.A.in1 (do
   let l <-newList us
   let _ <-holding [l] (call (.builtin "list.sort") [l] [])
   ret l) (λfin s'=>∃w,fin=.done (.ret w)/\EP X pins σ Q w s') X.xe {s with heap:=h1,toks:=t1}:=by
 obtain⟨f,f1,f0,f2,f3⟩:=Bu I r v hc;have Kw:2<=us.length->ds.all (du c)=L:=λh=>by
  rw[Bool.or_eq_true]at hk;rcases hk with hk|hk;have:=Zo hk;have l1:=r.length;have l2:=v.length;lia;exact hk
 refine Z_ (wpAny_newList ?_ hz);have g0:(h1.push (seqObj "list" us.toArray 0)).get? h1.objs.size=U (seqObj "list" us.toArray 0):=ZN _ rfl;have k2:∀b o,s.heap.get? b=U o->b≠h1.objs.size/\(h1.push (seqObj "list" us.toArray 0)).get? b=U o:=λb o e=>⟨Zt (ZQ (k1 b o e)),Z4 _ (k1 b o e)⟩
 refine Z_ (Y4 (YV slot_list_sort ⟨_,g0,rfl⟩ entry_list_sort ?_ (args_list_sort _)));have hA:X.A.in1.in1.units+20<cLine:=by show X.A.units+1+1+20<cLine;lia
 refine xE (s:={s with heap:=h1.push (seqObj "list" us.toArray 0),toks:=t1}) (vs:=us) (κ:=Ag c) (LT:=λu v=>decide (ltD 15 (f u) (f v)=U L)) g0 hz (Er hc f1 f0) (λh2 h' kp Q' q'=>?_) (λh2 h' kp u u' C hu Jb hC=>?_) (λPJ hp hs h' cc kp g=>?_);have I1:Inv X pins σ H {s with heap:=h',toks:=t1}:=I.kept λb o e=>kp b o (k2 b o e).1 (k2 b o e).2;exact vW I1 h2 (Kw h2) r v q';have I1:Inv X pins σ H {s with heap:=h',toks:=t1}:=I.kept λb o e=>kp b o (k2 b o e).1 (k2 b o e).2;obtain⟨x,rx,vx⟩:=f3 u hu;obtain⟨y,ry,vy⟩:=f3 u' Jb;have m1:f u∈ds:=by rw[<-f2];exact XU hu
 have m2:f u'∈ds:=by rw[<-f2];exact XU Jb
 obtain⟨rr,er⟩:=eR hc m1 m2;refine Dr I1 hA (fm hc m1) (fm hc m2) (ZX.mp (Kw h2) _ m1) (ZX.mp (Kw h2) _ m2) rx ry vx vy er ?_;simp only[er]at hC;cases rr with
 |true=>simpa using hC
 |false=>simpa using hC
 have es:PJ.map f=b7 ds:=by
  have perm:(PJ.map f).Perm ds:=by rw[<-f2];exact hp.map f
  refine dk hc _ _ (λy hy=>perm.mem_iff.mp hy) (perm.trans (aA ds).symm) ?_ (bW hc);rw[List.pairwise_map];exact hs.imp λq=>X9 q
 obtain⟨zs,rz,vz⟩:=tR (us:=PJ) λu hu=>f3 u (hp.mem_iff.mp hu);rw[es]at rz;have hlen:zs.length<=sizeLine:=by rw[vz.length,hp.length_eq];exact hz
 have K9:H h1.objs.size=M:=I.hok.fresh hsz;refine⟨_,rfl,Z5 ⟨_,rfl,.ref h1.objs.size,_,I.laid (a:=h1.objs.size) (o:=.lst zs) (h':=h') (t':=t1) (λb o e=>kp b o (k2 b o e).1 (k2 b o e).2) hsz ?_,rfl,q _ _ K9 rz⟩⟩;exact⟨hlen,_,cc,vz,g⟩
def mV(hu:X.A.units+64<cLine):fG X (.builtin "sorted") (λxs H Q=>∃B p ds ys,xs=[.ref p]/\SqL X.K H p ys/\M1 X.K B H ds ys/\cN ds=L/\(decide (ds.length<2)||ds.all (du c))=L/\
  ∀l zs,H l=M->M1 X.K B H (b7 ds) zs->Q (.ref l) (upd H l (.lst zs))):=by
 intro pins s σ H xs us Q I r h;obtain⟨B,p,ds,ys,rfl,hq,rs,hc,hk,q⟩:=h;obtain⟨u,rfl,rx⟩:=hU r;cases rx;obtain⟨its,rv,pl,hz⟩:=I.list hq;have l1:=rs.length;have l2:=rv.length;refine Calls.call_function_entry kind_sorted plain_sorted entry_sorted (args_sorted1 _) ?_;unfold Builtin.«sorted»;refine Z_ (m:=checkCount "sorted" 1 1 _) (Z5 (Z_ (collect_list pl.isList ?_ (by lia))));have hsz:((s.heap.push (seqObj "list" #[] 0)).update s.z (Obj.mapSeq (· ++its.toArray))).objs.size=s.z+1:=by
  rw[Xs,size_push']
 refine gA (t1:=s.toks) hu I (λb o e=>?_) (by rw[hsz];lia) rs rv (by lia) hc hk q;exact(Zk _ _ (Nat.ne_of_gt (ZQ e))).trans (Z4 _ e)
noncomputable def gT(c:KD)(x:Z8 D):Z8 D:=match x with|some (.lst ds)=>if(cN ds&&(decide (ds.length<2)||ds.all (du c)))=L then U (.lst (b7 ds)) else M|_=>M
def jr(h2:cN ds=L)(h3:ds.length<2\/ds.all (du c)=L):gT c (U (.lst ds))=U (.lst (b7 ds)):=by
 unfold gT;have:(cN ds&&(decide (ds.length<2)||ds.all (du c)))=L:=by rcases h3 with h3|h3<;>simp[h2,h3]
 simp only[this,Y8]
theorem tW(hu:X.A.units+64<cLine)(g:Gl X "sorted")(hm:X.mg "sorted"=M)(ha:DE X Y a fa)(hs:starEach [a] X.env=[(Y,eval a X.env)]:=by rfl):DF X (.Call (.Name "sorted" p) [a] [] pos) (λq=>gT c (fa q)):=
 (dU (mV (c:=c) hu) g hm gN (ay ha aQ hs) (he:=hs)).imp λσ H Q hz=>by
  obtain⟨B,Hk,q,d,R,e,k⟩:=hz;unfold gT at e;dsimp only at e;split at e;rename_i ds qd;by_cases cc:(cN ds&&(decide (ds.length<2)||ds.all (du c)))=L;rw[ZO cc]at e;obtain rfl:=Z7 e;rw[ZK]at cc;obtain⟨c2,c3⟩:=cc;refine pW R qd λv H' s R' r=>?_;simp only[Rep]at r;obtain⟨l,xs,rfl,hq,rs⟩:=r;refine⟨_,l,ds,xs,rfl,hq.sq,rs,c2,c3,λl' zs hl rz=>?_⟩;have s2:=ar (o:=.lst zs) hl;exact k l' _ (s.trans s2) (s.free hl) ⟨_,ah,rz.same (m:=Y) R' s2⟩;rw[ZJ cc]at e;trivial;trivial
end
def dz:entryFor table "dict.update.loop"=U Builtin.«dict.update.loop»:=entryFor_of_tree (by kernel_rfl)
def bC:plainId "dict.update.loop"=L:=by decide +kernel
def uA:typeLookup (.type "list") "keys"=pure M:=by rw[W3,Xz];kernel_rfl
def zl(hx:s.heap.get? a=U o)(hc:o.cls=.type "list")(r_:o.data=.seq xs k)(hd:o.dict=M)(hA:A.handled=M)(h:∀h' tk,(∀b o,s.heap.get? b=U o->h'.get? b=U o)->Q M {s with heap:=h',toks:=tk}):wpAny (model prog w) A (getAttr? (.ref a) "keys") Q E s:=by
 obtain⟨c,dct,dat,sl⟩:=o;simp only at hc r_ hd;subst hc r_ hd;obtain⟨hp,g,d,tk,os⟩:=s;have hT:∀Ma,(⟨hp,g,d,Ma,os⟩:ZR).TypeIs (.ref a) "list":=λ_=>⟨_,hx,rfl⟩
 have f1:=sub_AttributeError;have f3:=Wp.lookup;have f4:=Wp.bind (.ref a);have f5:=am_list_getattr_none;unfold getAttr? getAttrBy? getAttrBy
 repeat (any_goals (first|assumption|exact hT _|((with_reducible show wpAny _ _ (call (Value.builtin "list.__getattribute__") _ _) _ _ _);refine Wj Wp (hT _) am_entry_list_getattribute (F.args_list_getattribute_2 _ _) (meets_getattribute_miss_list a xs k sl _ _ uA (by decide) (by decide)) ⟨hx,hA,λh' Ma e JU=>?_⟩)|wp_step))
 obtain⟨t',u',he⟩:=JU.there;show wpAny _ _ (getattributeRaised _ _ _ _ _ _ _) _ _ _;unfold getattributeRaised
 repeat (any_goals (first|assumption|wp_step))
 exact h _ _ JU.keeps
section
end
section
end
def iB:D->Z8 Key
 |.int i=>U (.inl i)
 |.str x=>U (.inr x)
 |_=>M
section
end
def dG:Z9 D->Z8 (Z9 Str)
 |[]=>U []
 |.str i::ds=>(match dG ds with|some l=>U (i::l)|none=>M)
 |_=>M
def uj(ns:Z9 Str):dG (ns.map D.str)=U ns:=by
 induction ns with
 |nil=>rfl
 |cons n ns ih=>simp only[Z1,dG,ih]
theorem iN:∀{ds:Z9 D}{ns:Z9 Str},dG ds=U ns->ds=ns.map D.str
 |[],ns,h=>by simp only[dG,ZE]at h;subst h;rfl
 |.str i::ds,ns,h=>by
  simp only[dG]at h;cases q:dG ds with
  |none=>rw[q]at h;trivial
  |some l=>
   rw[q]at h;simp only[ZE]at h;subst h;rw[Z1,iN q]
 |.non::ds,ns,h=>by simp[dG]at h
 |.bl _::ds,ns,h=>by simp[dG]at h
 |.int _::ds,ns,h=>by simp[dG]at h
 |.tup _::ds,ns,h=>by simp[dG]at h
 |.lst _::ds,ns,h=>by simp[dG]at h
 |.dK _ _::ds,ns,h=>by simp[dG]at h
 |.dD _ _::ds,ns,h=>by simp[dG]at h
theorem M1.strs{K:Z6}{B:ZM->Prop}{H:Hp}:∀{ns:Z9 Str}{xs:Z9 V},M1 K B H (ns.map D.str) xs->xs=ns.map V.str
 |[],xs,h=>by simpa only[YT,M1]using h
 |n::ns,xs,h=>by
  simp only[Z1,M1]at h;obtain⟨x,r,rfl,h1,h2⟩:=h;simp only[Rep]at h1;rw[Z1,h1,M1.strs h2]
def qb:∀{us:Z9 Z3},aab (ns.map V.str) us->StrsAre us ns:=by
 induction ns with
 |nil=>intro us r;rw[YT]at r;cases r;exact .nil
 |cons n ns ih=>
  intro us r;rw[Z1]at r;cases r with
  |cons r1 r2=>
   obtain⟨t,e⟩:=r1;subst e;exact .cons n t (ih r2)
section
variable{X:Cx}{m:Bool}{a b:Expr}{fa fb:Mk->Z8 D}{pos p:Pos}
def Am:MtM X "str.join" (λx vs H Q=>∃(z:Str)(p:ZM)(ys:Z9 Str),x=.str z/\vs=[.ref p]/\SqL X.K H p (ys.map V.str)/\(ys.map (·.length)).sum+ys.length*z.length<=16777216/\Q (.str (Txt.join z ys)) H):=by
 intro pins s σ H x vs v us Q I rx rv h;obtain⟨z,p,ys,rfl,rfl,hq,hl,q⟩:=h;obtain⟨t,rfl⟩:=rx;obtain⟨u,rfl,ru⟩:=rv.one;cases ru;obtain⟨its,r,pl,hz⟩:=I.list hq;exact join_list pl.isList (by simpa using qb r) hl λt' k=>⟨.str _,H,I.tok k,⟨t',rfl⟩,q⟩
noncomputable def u6(x y:Z8 D):Z8 D:=match x,y with|some (.str z),some (.lst ds)=>(match dG ds with|some ys=>if(ys.map (·.length)).sum+ys.length*z.length<=16777216 then U (.str (Txt.join z ys)) else M|none=>M)|_,_=>M
set_option tactic.hygienic true in
theorem zZ(ha:DE X m a fa)(hb:DE X m' b fb)(mc:Mc X.env a "join" b [] apos i_):DE X mm (.Call (.Attribute a "join" apos) [b] [] i_) (λq=>u6 (fa q) (fb q)):=
 (pQ F.plainAttrs_str F.slot_str_join F.type_str_join Am ha (ay hb aQ mc.s) mc).imp λσ H Q hz=>by
  obtain⟨B,Hk,q,d,R,e,k⟩:=hz;unfold u6 at e;dsimp only at e;split at e;rename_i z ds q1 q2;split at e;rename_i ys qs;obtain rfl:=iN qs;by_cases c:(ys.map (·.length)).sum+ys.length*z.length<=16777216;rw[ZO c]at e;obtain rfl:=Z7 e;refine⟨B,Hk,q,_,R,q1,λv H1 s1 r1=>?_⟩;simp only[Rep]at r1;subst r1;refine⟨rfl,pW (R.to s1) q2 λw H2 s2 R2 r2=>?_⟩;simp only[Rep]at r2;obtain⟨l,xs,rfl,hq,rs⟩:=r2;obtain rfl:=rs.strs;exact⟨z,l,ys,rfl,rfl,hq.sq,c,k _ H2 (s1.trans s2) (by simp only[Rep])⟩;rw[ZJ c]at e;trivial;trivial;trivial
def zM:MtM X "str.find" (λx vs H Q=>∃(z y:Str),x=.str z/\vs=[.str y]/\Q (.int (Txt.find z y)) H):=by
 intro pins s σ H x vs v us Q I rx rv h;obtain⟨z,y,rfl,rfl,q⟩:=h;obtain⟨t,rfl⟩:=rx;obtain⟨u,rfl,ru⟩:=rv.one;obtain⟨t',rfl⟩:=ru;exact SC.find ⟨.int _,H,I.tok _,⟨_,rfl⟩,q⟩
def vY(x y:Z8 D):Z8 D:=match x,y with|some (.str z),some (.str w)=>U (.int (Txt.find z w))|_,_=>M
set_option tactic.hygienic true in
theorem Aj(ha:DE X m a fa)(hb:DE X m' b fb)(mc:Mc X.env a "find" b [] apos i_):DE X mm (.Call (.Attribute a "find" apos) [b] [] i_) (λq=>vY (fa q) (fb q)):=
 (pQ F.plainAttrs_str F.slot_str_find F.type_str_find zM ha (ay hb aQ mc.s) mc).imp λσ H Q hz=>by
  obtain⟨B,Hk,q,d,R,e,k⟩:=hz;unfold vY at e;dsimp only at e;split at e;rename_i z y q1 q2;obtain rfl:=Z7 e;refine⟨B,Hk,q,_,R,q1,λv H1 s1 r1=>?_⟩;simp only[Rep]at r1;subst r1;refine⟨rfl,pW (R.to s1) q2 λw H2 s2 R2 r2=>?_⟩;simp only[Rep]at r2;subst r2;exact⟨z,y,rfl,rfl,k _ H2 (s1.trans s2) (by simp only[Rep])⟩;trivial
def tN(l:ZM)(items:Array Z3)(n:Nat)(b:ZM)(e_:Array Z3)(n2:Nat)(s1 s2:Array (Z8 Z3))(QS:items.size+e_.size<=sizeLine):
  Meets (Builtin.«list.__add__» ⟨[.ref l,.ref b],[]⟩) (λ_ R s=>s.heap.get? l=U ⟨.type "list",M,.seq items n,s1⟩/\s.heap.get? b=U ⟨.type "list",M,.seq e_ n2,s2⟩/\R (.ok (.ret (Value.ref s.z))) {s with heap:=s.heap.push {cls:=Value.type "list",data:=Data.seq (items++e_)}}):=
 .of_wp λprog w A R s h=>by
  obtain⟨hp,g,d,tk,os⟩:=s;obtain⟨hl,hb,h⟩:=h;have f1:=AutoSeq1.idx_int;have f2:=Wo;have f3:=AutoSeq1.sub_list_list;have f4:=AutoSeq1.sub_tuple_list;have f5:=AutoSeq1.sub_list_tuple
  wp_walk using AutoSeq1.wpAny_loadPart' hl,AutoSeq1.wpAny_loadPart' hb
  exact⟨_,rfl,h⟩
def sE{l b:ZM}(hl:PlainL s.heap l its)(hb:PlainL s.heap b ka)(h:Q (.ref s.z) {s with heap:=s.heap.push {cls:=.type "list",data:=.seq (its++ka)}})(hsz:its.size+ka.size<=sizeLine):wpAny (model P w) A (binaryOp .Add (.ref l) (.ref b)) Q E s:=by
 obtain⟨⟨c1,d1,a1,s1⟩,n1,e1,rfl,rfl,rfl⟩:=hl;obtain⟨⟨c2,d2,a2,s2⟩,n2,e2,rfl,rfl,rfl⟩:=hb;exact concat_meets ⟨_,e1,rfl⟩ ⟨_,e2,rfl⟩ noFill_list_add seq_list_add F.slot_list_add F.entry_list_add (F.args_list_add_2 _ _) (tN l its n1 b ka n2 s1 s2 hsz) ⟨e1,e2,h⟩
def yX:OpR X (binaryOp .Add) (λx y H Q=>∃l b xs zs,x=.ref l/\y=.ref b/\SqL X.K H l xs/\SqL X.K H b zs/\xs.length+zs.length<=sizeLine/\∀p,H p=M->Q (.ref p) (upd H p (.lst (xs++zs)))):=by
 intro pins s σ H x y v u Q I rx ry h;obtain⟨l,b,xs,zs,rfl,rfl,hH,hB,hz,q⟩:=h;cases rx;cases ry;obtain⟨its,r,pl,_⟩:=I.list hH;obtain⟨ka,r2,Nv,_⟩:=I.list hB;have hl:=r.length;have Lh:=r2.length;refine sE pl Nv ?_ (by rw[ZT,ZT];lia);have ea:its.toArray++ka.toArray=(its++ka).toArray:=by simp
 rw[ea];exact⟨.ref _,_,I.acH (t':=s.toks) (r.append r2) (by rw[Zz];lia),rfl,q _ I.fresh⟩
noncomputable def lO(x y:Z8 D):Z8 D:=match x,y with|some (.lst i),some (.lst j)=>if i.length+j.length<=lim then U (.lst (i++j)) else M|_,_=>M
set_option tactic.hygienic true in
theorem yB(ha:DE X Y a fa)(hb:DE X Y b fb):DF X (.BinOp a .Add b pos) (λq=>lO (fa q) (fb q)):=
 (v8 yX ha hb).imp λσ H Q hz=>by
  obtain⟨B,Hk,q,d,R,e,k⟩:=hz;unfold lO at e;dsimp only at e;split at e;rename_i i j q1 q2;by_cases hz:i.length+j.length<=lim;rw[ZO hz]at e;obtain rfl:=Z7 e;refine two R q1 q2 λv u H' s R' r1 r2=>?_;simp only[Rep]at r1 r2;obtain⟨c,xs,rfl,hq,rs⟩:=r1;obtain⟨c2,RP,rfl,LO,Lf⟩:=r2;refine⟨c,c2,xs,RP,rfl,rfl,hq.sq,LO.sq,by rw[<-rs.length,<-Lf.length];exact aJ hz,λp hp=>?_⟩;have s2:=ar (o:=.lst (xs++RP)) hp;exact k p _ (s.trans s2) (s.free hp) ⟨_,ah,(rs.append Lf).same (m:=Y) R' s2⟩;rw[ZJ hz]at e;trivial;trivial
noncomputable def zR(i:Nat)(x:Z8 D)(q:Mk):Z8 Out:=match ca i q,x with|some (.lst ds),some (.lst es)=>if ds.length+es.length<=lim then U (.next (q.set i (U (.lst (ds++es),L)))) else M|_,_=>M
set_option tactic.hygienic true in
def rO(h:zR i x O=U o):∃ds es,O[i]?=U (U (.lst ds,L))/\x=U (.lst es)/\ds.length+es.length<=lim/\o=.next (O.set i (U (.lst (ds++es),L))):=by
 unfold zR at h;split at h;rename_i ds d q;by_cases hl:ds.length+d.length<=lim;rw[ZO hl]at h;obtain rfl:=Z7 h;exact⟨ds,d,cf q,rfl,hl,rfl⟩;rw[ZJ hl]at h;trivial;trivial
def rf(ha:DF X a fa)(hN:X.N[i]?=U x:=by rfl)(hv:Vis X.env.scope x:=by first|exact Or.inl rfl|exact Or.inr (Or.inl rfl)|exact Or.inr (Or.inr rfl))(mc:Mc X.env (.Name x px) "extend" a [] apos i_)(hd:(x==("__debug__":Str))=Y:=by decide)(Ja:(x==("__classdict__":Str))=Y:=by decide)(Ku:swapsWith (.Call (.Attribute (.Name x px) "extend" apos) [a] [] i_) M pos.line X.env=pure Y:=by rfl):DS X (.Expr (.Call (.Attribute (.Name x px) "extend" apos) [a] [] i_) pos) (λq=>zR i (fa q) q):=
 (mW (pQ Xo F.slot_list_extend F.type_list_extend sj (bF hN hv hd Ja) (ay ha aQ mc.s) mc) Ku).imp λDn σ H hz=>by
  obtain⟨B,Hk,q,o,R,e,k⟩:=hz;obtain⟨ds,es,h1,e1,hl,rfl⟩:=rO e;obtain⟨l,h2,h3,xs,h4,h5⟩:=R.own i _ h1;refine⟨.ref l,h2,.inl ⟨rfl,xs,SqL.of h4⟩,B,Hk,q,_,R,e1,λp H' s hp ob=>?_⟩;have R':=R.to s;have LJ:=s l _ h4;have Q0:M1 X.K B H' ds xs:=h5.ext (R.ext s);obtain⟨zs,h6,h7⟩:=ob;obtain⟨x1,x2⟩:=R'.abK (ds':=ds++es) (xs':=xs++zs) h1 h2 LJ (Q0.append h7);exact⟨l,p,xs,zs,rfl,rfl,LJ,h6,by rw[<-h5.length,<-h7.length];exact aJ hl,k σ _ ((R.ext s).trans x1) x2⟩
end
noncomputable def l9(O5:Scope)(scope:Scope)(N:Z9 Str)(bs:Z9 Bool):Bool:=
 decide (scope.kind=.function)&&scope.names.all (λy=>!decide (y.2=.cell))&&scope.names.all (λy=>!decide (y.2=.local)||decide (scope.names.lookup y.1=U .local))&&
 scope.names.all (λy=>!decide (y.2=.free)||(decide (scope.names.lookup y.1=U .free)&&(decide (O5.names.lookup y.1=U .cell)||decide (O5.names.lookup y.1=U .free))))&&
 decide (bs.length=N.length)&&(N.zip bs).all (λp=>!p.2||decide (scope.names.lookup p.1=U .free))
def kN(h1:X.env.scope=O5)(h2:X.N=N)(h:l9 O5 scope N bs=L):aag X scope bs:=by
 unfold l9 at h;simp only[ZK,Zf]at h;obtain⟨⟨⟨⟨⟨a,b⟩,c⟩,d⟩,e⟩,f⟩:=h;refine⟨a,λy hy z=>?_,λy hy z=>?_,λy hy z=>?_,by rw[h2];exact e,λi x hx hb=>?_⟩;have:=ZX.mp b y hy;rw[Zu z]at this;trivial;have:=ZX.mp c y hy;rw[Zu z]at this;simpa using this;have:=ZX.mp d y hy;rw[Zu z]at this;simp only[YJ,Bool.false_or,ZK,Bool.or_eq_true,Zf]at this;refine⟨this.1,?_⟩;unfold Env.kindOf;rw[h1];exact this.2;rw[h2]at hx;have hz:(N.zip bs)[i]?=U (x,L):=by rw[List.getElem?_zip_eq_some];exact⟨hx,hb⟩
 have:=ZX.mp f _ (Zg hz);simpa using this
structure Nm (X:Cx)(i:Nat)(x:Str):Prop where
 at':X.N[i]?=some x
 vis:Vis X.env.scope x
 d1:(x==("__debug__":Str))=false
 d2:(x==("__classdict__":Str))=false
structure Lc (X:Cx)(i:Nat)(x:Str):Prop where
 at':X.N[i]?=some x
 loc:Loc X.env.scope x
 fnl:X.fn x=true\/X.env.scope.names.lookup x=some .local
structure Gb (X:Cx)(x:Str):Prop where
 gl:Gl X x
 d1:(x==("__debug__":Str))=false
def D6:Z8 NameKind->Bool
 |some .local=>L|some .cell=>L|some .free=>L|_=>Y
def Ed:Z8 NameKind->Bool
 |some .local=>L|some .cell=>L|_=>Y
noncomputable def nmB(N:Z9 Str)(sc:Scope)(i:Nat)(x:Str):Bool:=decide (N[i]?=U x)&&D6 (sc.names.lookup x)&&!(x==("__debug__":Str))&&!(x==("__classdict__":Str))
def lcB(N:Z9 Str)(sc:Scope)(i:Nat)(x:Str):Bool:=decide (N[i]?=U x)&&Ed (sc.names.lookup x)
def FY(N:Z9 Str)(sc:Scope)(i:Nat)(x:Str):Bool:=decide (N[i]?=U x)&&decide (sc.names.lookup x=U .local)
def gbB(sc:Scope)(x:Str):Bool:=decide (sc.names.lookup x=U .globalImplicit)&&!(x==("__debug__":Str))
def wz(h:D6 (sc.names.lookup x)=L):Vis sc x:=by
 unfold D6 at h;split at h;rename_i e;exact .inl e;rename_i e;exact .inr (.inl e);rename_i e;exact .inr (.inr e);trivial
def wf(h:Ed (sc.names.lookup x)=L):Loc sc x:=by
 unfold Ed at h;split at h;rename_i e;exact .inl e;rename_i e;exact .inr e;trivial
structure Has (X:Cx)(N:List Str)(sc:Scope):Prop where
 n:X.N=N
 sc:X.env.scope=sc
 calm:X.calm=true
 nd:X.N.Nodup
def Has.nm{X:Cx}{N:Z9 Str}{sc:Scope}{i:Nat}{x:Str}(h:Has X N sc)(b:nmB N sc i x=L):Nm X i x:=by
 unfold nmB at b;simp only[ZK,Zf,Yu]at b;exact⟨by rw[h.n];exact b.1.1.1,by rw[h.sc];exact wz b.1.1.2,b.1.2,b.2⟩
def Has.lc{X:Cx}{N:Z9 Str}{sc:Scope}{i:Nat}{x:Str}(h:Has X N sc)(hf:∀x,X.fn x=L)(b:lcB N sc i x=L):Lc X i x:=by
 unfold lcB at b;simp only[ZK,Zf]at b;exact⟨by rw[h.n];exact b.1,by rw[h.sc];exact wf b.2,.inl (hf x)⟩
def Has.lcl{X:Cx}{N:Z9 Str}{sc:Scope}{i:Nat}{x:Str}(h:Has X N sc)(b:FY N sc i x=L):Lc X i x:=by
 unfold FY at b;simp only[ZK,Zf]at b;exact⟨by rw[h.n];exact b.1,by rw[h.sc];exact .inl b.2,.inr (by rw[h.sc];exact b.2)⟩
def Has.gb{X:Cx}{N:Z9 Str}{sc:Scope}{x:Str}(h:Has X N sc)(b:gbB sc x=L):Gb X x:=by
 unfold gbB at b;simp only[ZK,Zf,Yu]at b;refine⟨?_,b.2⟩;unfold Gl Env.kindOf;rw[h.sc];exact b.1
noncomputable def Gi(scope sc:Scope):Scope:=
 {scope with names:=scope.names.map λ(n,k)=>if(k==.free&&sc.kind==.function&&sc.names.lookup n==U .cell) then(n,.cell) else(n,k)}
def zD(h:env.scope=sc):relabel scope env=Gi scope sc:=by subst h;rfl
def Has.comp{X:Cx}{N:Z9 Str}{sc:Scope}(h:Has X N sc)(scope:Scope)(cl:Z9 (Str×ZM))(C:ZM)(a_:ZR)(b_:Hp)(ex:Z9 ZM)(pn:Z9 (ZM×Obj)):Has (aE X scope cl C a_ b_ ex pn) N (Gi scope sc):=
 ⟨h.n,zD h.sc,h.calm,h.nd⟩
def aag.of'(h:Has X N sc)(b:l9 sc scope N bs=L):aag X scope bs:=kN h.sc h.n b
section
variable{X:Cx}{m mm:Bool}{a e:Expr}{es:Z9 Expr}{fa:Mk->Z8 D}{fs:Mk->Z8 (Z9 D)}{pos p:Pos}{k:Nat}{x:Str}{f:Z9 D->Z8 (D×Bool)}{i:Nat}
theorem nv(m:Bool)(n:Nm X i x):DE X m (.Name x pos) (rd m i):=Cm n.at' n.vis n.d1 n.d2
theorem uE{pos':Pos}(n:X.N.Nodup)(l:Lc X i x)(ha:DE X Y a fa)(hs:swapsWith a (U (.Name x pos')) pos.line X.env=pure Y:=by rfl):DS X (.Assign [.Name x pos'] a pos) (λq=>bx i (fa q) q):=C5 (i:=i) (x:=x) (pos:=pos) (pos':=pos') n ha l.at' l.loc hs l.fnl
theorem jH{pos':Pos}(n:X.N.Nodup)(l:Lc X i x)(ha:DF X a fa)(hs:swapsWith a (U (.Name x pos')) pos.line X.env=pure Y:=by rfl):DS X (.Assign [.Name x pos'] a pos) (λq=>eM i (fa q) q):=A5 (i:=i) (x:=x) (pos:=pos) (pos':=pos') n ha l.at' l.loc hs l.fnl
theorem iQ(n:X.N.Nodup)(l:Lc X i x):DG X (.Name x pos) (af i):=zw n l.at' l.loc l.fnl
theorem nI{px:Pos}(n:Nm X i x):DS X (.Return (U (.Name x px)) pos) (λq=>dJ (ca i q)):=Bk (i:=i) (x:=x) (px:=px) (pos:=pos) n.at' n.vis n.d1 n.d2
theorem nU(F:FnM X.prog X.w X.K X.mg X.base k x f)(hr:aaq k X.A)(g:Gb X x)(ha:DA X m (e::es) fs)(he:starEach (e::es) X.env=(Y,eval e X.env)::starEach es X.env:=by rfl)
  (q_:(backTo pos (starEach es X.env)).any (·.1)=Y:=by rfl):DE X m (.Call (.Name x p) (e::es) [] pos) (λq=>shO (ae (fs q) f)):=Ao F hr g.gl ha g.d1 he q_
theorem oA(F:FnM X.prog X.w X.K X.mg X.base k x f)(hr:aaq k X.A)(g:Gb X x)(ha:DA X Y (e::es) fs)(he:starEach (e::es) X.env=(Y,eval e X.env)::starEach es X.env:=by rfl)
  (q_:(backTo pos (starEach es X.env)).any (·.1)=Y:=by rfl):DF X (.Call (.Name x p) (e::es) [] pos) (λq=>frO (ae (fs q) f)):=Ai (p:=p) F hr g.gl ha g.d1 he q_
theorem j9(F:FnM X.prog X.w X.K X.mg X.base k x f)(hr:aaq k X.A)(g:Gb X x)(ha:DA X L (e::es) fs)(he:starEach (e::es) X.env=(Y,eval e X.env)::starEach es X.env:=by rfl)
  (q_:(backTo pos (starEach es X.env)).any (·.1)=Y:=by rfl):DF X (.Call (.Name x p) (e::es) [] pos) (λq=>flO (ae (fs q) f)):=wq (p:=p) F hr g.gl ha g.d1 he q_
theorem sZ{p:Pos}(g:Gb X "len")(hm:X.mg "len"=M)(ha:DE X m a fa)(hs:starEach [a] X.env=[(Y,eval a X.env)]:=by rfl):DE X mm (.Call (.Name "len" p) [a] [] pos) (λq=>mq (fa q)):=B2 g.gl hm ha hs g.d1
variable{apos i_ px:Pos}
theorem iC(n:Nm X i x)(ha:DE X Y a fa)
  (mc:Mc X.env (.Name x px) "append" a [] apos i_)
  (Ku:swapsWith (.Call (.Attribute (.Name x px) "append" apos) [a] [] i_) M pos.line X.env=pure Y:=by rfl):DS X (.Expr (.Call (.Attribute (.Name x px) "append" apos) [a] [] i_) pos) (λq=>jv i (fa q) q):=
 uq ha n.at' n.vis mc n.d1 n.d2 Ku
theorem qh(n:Nm X i x)(ha:DF X a fa)(mc:Mc X.env (.Name x px) "extend" a [] apos i_)(Ku:swapsWith (.Call (.Attribute (.Name x px) "extend" apos) [a] [] i_) M pos.line X.env=pure Y:=by rfl):DS X (.Expr (.Call (.Attribute (.Name x px) "extend" apos) [a] [] i_) pos) (λq=>zR i (fa q) q):=
 rf ha n.at' n.vis mc n.d1 n.d2 Ku
noncomputable def swB(sc scope:Scope)(t:Str)(l1 l2:Nat):Bool:=
 ((if sc.kind.isAnnotationScope then ScopeKind.function else sc.kind)==.function)&&sc.names.lookup t==U .local&&l1==l2&&!(scope.names.any λ(n,k)=>n==t&&(k==.local||k==.cell))
def eW(h:Has X N sc)(q:swB sc scope x pos'.line pos.line=c):
  swapsWith (.ListComp elt gens scope pos) (U (.Name x pos')) l X.env=pure c:=by
 subst q;unfold swB;rw[<-h.sc];rfl
def jX(h:Has X N sc)(b:decide (sc.names.lookup y=U .local)=L):X.env.scope.names.lookup y=U .local:=by rw[h.sc];exact Zo b
theorem wW(h:Has X N sc)(l:Lc X i y)(Kh:abk O)(hi:DI X Y tg iter fi)(S:aag X scope bs)(hg:∀cl C a_ b_ ex pn,DG (aE X scope cl C a_ b_ ex pn) tg O)(ht:∀cl C a_ b_ ex pn,DTs (aE X scope cl C a_ b_ ex pn) ifs ft)(he:∀cl C a_ b_ ex pn,DE (aE X scope cl C a_ b_ ex pn) Y elt fe)(b1:decide (sc.names.lookup y=U .local)=L)(b2:swB sc scope y py.line pos.line=L)(hs:∀x,foldedSetIterable iter X.env x=pure x:=by intro _;rfl):DS X (.Assign [.Name y py] (.ListComp elt [⟨tg,iter,ifs,0⟩] scope pos) J7) (λq=>eM i (am (ae (fi q) (bL Y bs O ft fe q))) q):=
 y0 h.nd h.calm Kh hi S hg ht he l.at' (jX h b1) (eW h b2) hs
end
def DN{P:Y0}{w:YM}{K:Z6}{mg:Str->Z8 Z3}{base:Heap}{f:ZM}{Jd:Z3}{A:Za}{outer:Z9 Env}{s:ZR}{H:Hp}{E:XK}{N:Z9 Str}{q:Str}{sc:Scope}(nd:N.Nodup):
  Has (pR CX0 P w K mg base N q sc f Jd A outer s H E).nox N sc:=⟨rfl,rfl,rfl,nd⟩
def spM_law{K:Z6}{H:Hp}{a:ZM}{ns:Z9 Int}{f:Z9 D->Z8 (D×Bool)}(hS:SqL K H a (ns.map V.int))(h:f [.lst (ns.map D.int)]=U (.bl L,Y)):
  spM K f [.ref a] H (λv _=>v=.bl L) λ_ _ _=>False:=by
 have hr:M1 K (λb=>∃o:HOn,H b=U o.1) H (ns.map D.int) (ns.map V.int):=by
  clear hS h
  induction ns with
  |nil=>exact M1.nil
  |cons n ns ih=>exact M1.cons (by simp only[Rep]) ih
 refine⟨λb=>∃o:HOn,H b=U o.1,[.lst (ns.map D.int)],.bl L,Y,λ_ h=>h,M1.cons ?_ M1.nil,h,λv H' _ r=>?_⟩;simp only[Rep];refine⟨a,_,rfl,?_,hr⟩;rcases hS with(h1|⟨o,h1⟩)|h1;exact .inl ⟨⟨⟨_,rfl⟩,h1⟩,h1⟩;exact .inr (.inl ⟨o,h1⟩);exact .inr (.inr h1);unfold oh at r;rw[ZJ Zl]at r;simpa only[Rep]using r
def qw{pos pos':Pos}(l:Z9 Z3)(ht:TriplesOk l)(h:codeAmong pos' (l++[rawInt pos.line,rawInt pos.col,c])=U cv):codeAmong pos' l=U cv\/cv=c:=by
 fun_induction TriplesOk l with
 |case1=>
  simp only[List.nil_append,rawInt,codeAmong]at h;split at h;obtain rfl:=Z7 h;exact .inr rfl;trivial
 |case2 a t b u x aq ih=>
  simp only[List.cons_append,codeAmong]at h⊢;split at h;rename_i hc;rw[ZO hc];exact .inl h;rename_i hc;rw[ZJ hc];exact ih ht h
 |case3 l h1 h2=>exact ht.elim
section
def Inv.grow{pos:Pos}{t':Nat}(I:Inv X pins σ H s)(hP:H P=U (.tbl lq ps))(hx:Heap.ExtBut P s.heap h')(MD:s.z<=c')(j_:c'<h'.objs.size)(MW:h'.CodeRec (.ref c') lq)(B_:h'.get? P=U (W.tabObj (ps++#[rawInt pos.line,rawInt pos.col,.ref c']))):
  Inv X pins σ (upd (upd H P (.tbl lq (ps++#[rawInt pos.line,rawInt pos.col,.ref c']))) c' (.own P)) {s with heap:=h',toks:=t'}/\
  aad H (upd (upd H P (.tbl lq (ps++#[rawInt pos.line,rawInt pos.col,.ref c']))) c' (.own P)):=by
 have hc:H c'=M:=I.hok.fresh MD;have QR:P≠c':=λz=>by rw[z,hc]at hP;trivial
 have up:∀b,b≠P->b≠c'->(upd (upd H P (.tbl lq (ps++#[rawInt pos.line,rawInt pos.col,.ref c']))) c' (.own P)) b=H b:=λb h1 h2=>by rw[ai h2,ai h1]
 have PL:(upd (upd H P (.tbl lq (ps++#[rawInt pos.line,rawInt pos.col,.ref c']))) c' (.own P)) P=U (.tbl lq (ps++#[rawInt pos.line,rawInt pos.col,.ref c'])):=by rw[ai QR,ah]
 have nP:∀{b u},H b=U u->(∀l p,u≠.tbl l p)->b≠P:=λ{b u} e n z=>by rw[z,hP]at e;obtain rfl:=Z7 e;exact n _ _ rfl
 have nc:∀{b u},H b=U u->b≠c':=λ{b u} e z=>by rw[z,hc]at e;trivial
 have n0:∀{b},H b=M->b≠P:=λ{b} e z=>by rw[z,hP]at e;trivial
 obtain⟨L8,oc,vs,t,e2,N0,hd,hv⟩:=MW;cases e2;refine⟨I.un ⟨λb o e n _ _=>hx b o (n0 n) e,λb o e n _ _=>⟨o.slots,hx b o (n0 n) e⟩,λb o e n _=>?_,λb o e _=>?_,λb xs e=>?_,λb o u e=>?_,λb l p e=>?_⟩ λb u q=>?_,λb o n e=>?_,λb l p e=>?_⟩;rw[up b (n0 n) (Zt (ZA (ZQ e) MD))];exact n;by_cases hb:b=P;subst hb;exact⟨_,B_⟩;exact⟨o,hx b o hb e⟩;rw[up b (nP e λl p z=>by trivial) (nc e)];exact e;rw[up b (nP e λl p z=>by trivial) (nc e)];exact e;by_cases hb:b=P;subst hb;rw[hP]at e;cases e;exact⟨_,PL⟩;exact⟨#[],by rw[up b hb (nc e),Array.append_empty];exact e⟩;by_cases S_:b=c';subst S_;rw[ah]at q;obtain rfl:=Z7 q;exact⟨oc,N0⟩;by_cases hb:b=P;subst hb;rw[PL]at q;obtain rfl:=Z7 q;obtain⟨e1,tr,rc⟩:=I.hok b _ hP;refine⟨B_,by rw[Zi];exact TriplesOk_snoc _ _ _ _ tr,λpos' cv e=>?_⟩;rw[Zi]at e;rcases qw _ tr e with e|e;obtain⟨c2,o2,v2,t2,z1,z2,z3,z4⟩:=rc pos' cv e;have m1:=nP z2 λl p z=>by trivial
 exact⟨c2,o2,v2,t2,z1,by rw[up c2 m1 (nc z2)];exact z2,hx _ _ m1 z3,z4⟩;subst e;exact⟨c',oc,vs,t,rfl,ah,N0,hd,hv⟩;rw[up b hb S_]at q;refine(I.hok b u q).abl (λd v hd r=>hx d v ?_ r) (λd r=>by rw[up d (nP r λl p z=>by trivial) (nc r)];exact r) λd xs r=>by rw[up d (nP r λl p z=>by trivial) (nc r)];exact r
 rcases hd with z|z;rw[z];exact hb;exact nP z λl p z=>by trivial
 rw[up b (nP e λl p z=>by subst z;trivial) (nc e)];exact e;by_cases hb:b=P;subst hb;rw[hP]at e;cases e;exact⟨_,PL⟩;exact⟨#[],by rw[up b hb (nc e),Array.append_empty];exact e⟩
def wx(I:Inv X pins σ H s)(hP:(P,lq)∈Lams.tb)(hq:X.env.qual++"<lambda>"=lq)(hC:W.CodeHd X.base c P)(Ja:X.env.code=.ref c)(JV:closureFor scope X.env=pure [])(M0:defaultsOf params X.env=([],[]))(h:∀f c' pm Km h' tk H' ps,Inv X ((f,W.kla_obj "<lambda>" lq params body scope [] pm c' Km)::pins) σ H' {s with heap:=h',toks:=tk}->aad H H'->H' P=U (.tbl lq ps)->codeAmong pos ps.toList=U (.ref c')->
   Q (.ref f) {s with heap:=h',toks:=tk}):wpAny (model X.prog X.w) X.A (eval (.Lambda params body scope pos) X.env) Q E s:=by
 refine W.kla_eval M0 ?_;rw[hq];obtain⟨ps,JA⟩:=(I.ok.tabs.to I.base.aa3) (P,lq) hP;obtain⟨e1,tr,rc⟩:=I.hok P _ JA;have hg:s.heap.Ns mainGlobals X.mg:=I.mod.glob.keeps I.bk;have VI:mainGlobals≠P:=λz=>by
  obtain⟨o,es,ep,e,d,_⟩:=hg;rw[z,e1]at e;obtain rfl:=Z7 e;trivial
 obtain⟨bm,ob,b1,b2,b3,b4,b5,b6⟩:=I.mod.bmain;have NJ:=I.bk _ _ b3;have Ta:bm≠P:=λz=>by rw[z,e1]at NJ;obtain rfl:=Z7 NJ;trivial
 have Tg:bm≠mainGlobals:=λz=>by
  obtain⟨o,es,ep,e,d,_⟩:=hg;rw[z,e]at NJ;obtain rfl:=Z7 NJ;rw[d]at b6;trivial
 have fin:∀{H':Hp}{h1:Heap}{tk:Nat}{o:Obj},Inv X pins σ H' {s with heap:=h1,toks:=tk}->(∀v,o.data≠.cell v)->o.isFreed=Y->Inv X ((h1.objs.size,o)::pins) σ H' {s with heap:=h1.push o,toks:=tk}:=λ{H' h1 tk o} I1 Vp Vn=>by
  have I2:Inv X pins σ H' {s with heap:=h1.push o,toks:=tk}:=I1.kept (h':=h1.push o) λb u e=>Z4 _ e;refine I2.aaL λp hp=>?_;rcases ZZ.mp hp with rfl|hp
  exact⟨ZN _ Vn,I1.hok.fresh (ZU _),Nat.ne_of_gt I1.lt,I1.acr (ZU _),Vp⟩;exact I2.pin p (ZI _ hp)
 cases hf:codeAmong pos ps.toList with
 |none=>
  refine W.kla_makeFunction (mg:=X.mg) JV I.ok.glob hg Ja (hC.keeps I.bk) e1 tr hf VI ⟨bm,ob,b1,b2,Tg,Ta,NJ,b4,b5,b6⟩ λc' Km h' tk hx MD j_ MW B_=>?_;obtain⟨I1,s1⟩:=I.grow (t':=tk) JA hx MD j_ MW B_;have hc:H c'=M:=I.hok.fresh MD;have QR:P≠c':=λz=>by rw[z,hc]at JA;trivial
  exact h _ c' _ Km _ tk _ _ (fin I1 (λv z=>by trivial) rfl) s1 (by rw[ai QR,ah]) (by rw[Zi];exact codeAmong_snoc _ tr hf)
 |some cv=>
  obtain⟨c',oc,vs,t,rfl,o1,o2,o3,o4⟩:=rc pos cv hf;refine W.kla_makeFunctionHit (mg:=X.mg) JV I.ok.glob hg Ja (hC.keeps I.bk) e1 tr hf ⟨bm,ob,b1,b2,Tg,Ta,NJ,b4,b5,b6⟩ λKm h' tk hk hsz=>?_;exact h _ c' _ Km _ tk _ _ (fin (I.kept (h':=h') (t':=tk) hk) (λv z=>by trivial) rfl) (aad.refl H) JA hf
end
def Al{CX:CXT}{P:Y0}{w:YM}{K:Z6}{mg:Str->Z8 Z3}{base:Heap}{k:Nat}{f c':ZM}{name qual:Str}{params:Arguments}{body:Expr}{scope:Scope}{pm Km:Z3}{N ps:Z9 Str}{A:Za}{outer:Z9 Env}{s:ZR}{H:Hp}
  {args:Args}{us:Z9 Z3}{vs:Z9 V}{Q:VK}{E:XK}(hr:aaq (k+1) A) (e0:abq P w K mg base A outer s H) (hf:s.heap.get? f=U (W.kla_obj name qual params body scope [] pm c' Km)) (hc:s.heap.CodeRec (.ref c') qual) (S:aaC N ps scope)
  (hb:BindsTo s (W.kla_fn name qual params body scope [] pm (.ref c') Km) args (ps.zip us)) (r:aab vs us) (hl:vs.length=ps.length)
  (IU:aaq k (A.deeper (envOfC qual scope s.z f (.ref c')))->∃t,PE (pR CX P w K mg base N qual scope f (.ref c') A outer s H E) body t/\t (dr N vs) H Q):
  codeAny (model P w) A (.call (.ref f) args) (CR CX outer P w H s Q E) s:=by
 have lim:s.heap.NoLimit:=e0.mod.nolimit.keeps λb o e=>(e0.bs b o e).1;have LD:∀y∈ps.zip us,scope.names.lookup y.1=U .local\/(scope.names.lookup y.1=U .cell/\((cellsFrom (s.z+1) scope.names []).lookup y.1).isSome=L):=λ⟨n,v⟩ hy=>by
  rcases S.par n (Wu hy).1 with q|q;exact .inl q;exact .inr ⟨q,WH _ _ _ (.inl q)⟩
 refine W.kla_callFunE hr.depth hf rfl S.co S.gen rfl hc (hb _ _ _ _ ?_);refine wpAny_newFunctionEnv_cells S.kind LD λenv he s1 x=>?_;subst he;refine⟨lim.keeps x.toInCall.keep,W.kla_codeExpr ?_⟩;obtain⟨t,ht,hq⟩:=IU (hr.deeper _);have I:Inv (pR CX P w K mg base N qual scope f (.ref c') A outer s H E) [] (dr N vs) H s1:=kE S hr.hd e0 hl r x;exact YK (ht [] s1 (dr N vs) H _ I hq) (λu s' hz=>by obtain⟨v,H',J,rv,q⟩:=hz;exact⟨v,H',J.os,J.bare,J.base,J.hok,rv,q⟩) λe s' hs=>hs
section
def vS{k:Nat}{f c' P:ZM}{lq:Str}{PV:Array Z3}{params:Arguments}{body:Expr}{scope:Scope}{pos:Pos}{pm Km:Z3}{N ps:Z9 Str}{us:Z9 Z3}{vs:Z9 V}{Q:VK}{A:Za}{E:Z3->ZR->Prop}
  (I:Inv X pins σ H s) (hA:aaq (k+1) A) (hE:abq X.prog X.w X.K X.mg X.base X.A X.stack s H->abq X.prog X.w X.K X.mg X.base A X.stack s H) (hf:(f,W.kla_obj "<lambda>" lq params body scope [] pm c' Km)∈pins) (hP:H P=U (.tbl lq PV)) (QQ:codeAmong pos PV.toList=U (.ref c')) (S:aaC N ps scope)
  (hb:BindsTo s (W.kla_fn "<lambda>" lq params body scope [] pm (.ref c') Km) ⟨us,[]⟩ (ps.zip us)) (r:aab vs us) (hl:vs.length=ps.length)
  (IU:aaq k (A.deeper (envOfC lq scope s.z f (.ref c')))->∃t,PE (pR CX0 X.prog X.w X.K X.mg X.base N lq scope f (.ref c') A X.stack s H (λ_ _ _=>False)) body t/\t (dr N vs) H Q):
  wpAny (model X.prog X.w) A (call (.ref f) us) (EP X pins σ Q) E s:=by
 obtain⟨e1,tr,rc⟩:=I.hok P _ hP;obtain⟨c2,oc,Uh,t2,z1,z2,z3,z4,z5⟩:=rc pos _ QQ;cases z1;refine wpAny_call (WO (Al (CX:=CX0) hA (hE I.acI) (I.pin _ (ZI _ hf)).1 ⟨c',oc,Uh,t2,rfl,z3,z4,z5⟩ S hb r hl IU) λr s' hq=>?_);cases r with
 |error e=>exact False.elim hq
 |ok fl=>
  cases fl with
  |ret u=>exact I.after hq
  |next=>exact False.elim hq
  |brk=>exact False.elim hq
  |cont=>exact False.elim hq
end
section
def Inv.abZ(I:Inv X pins σ H s)(f:fq X pins H a)(hs:X.n_.z<=a)(new:aam X.prog X.w (upd H a o) s.heap a o):Inv X pins σ (upd H a o) s:=by
 have hn:=f.1;refine⟨I.ok,I.os,I.bare,⟨I.base.keep,I.base.slot,λb ob e n hx=>?_,I.base.there,λb xs e=>?_,λb ob u e=>?_,λb lq ps e=>?_⟩,I.loc,I.cell,?_,λx c e=>?_,λp hp=>?_,λb u q=>?_,I.len⟩;rw[ai (Zt (ZA (ZQ e) hs))];exact I.base.free b ob e n hx;have z:=I.base.aaZ b xs e;rw[ai (av z hn)];exact z;have z:=I.base.aaT b ob u e;rw[ai (av z hn)];exact z;obtain⟨m,z⟩:=I.base.aa3 b lq ps e;exact⟨m,by rw[ai (av z hn)];exact z⟩;rw[ai (Zy f.2.1)];exact I.free;rw[ai (f.2.2.2.2.1 x c e)];exact I.aaR x c e;obtain⟨p1,p2,p3⟩:=I.pin p hp;exact⟨p1,by rw[ai (f.2.2.2.2.2 p hp)];exact p2,p3⟩;by_cases hb:b=a;subst hb;rw[ah]at q;obtain rfl:=Z7 q;exact new;rw[ai hb]at q;exact(I.hok b u q).abl (λ_ _ _ r=>r) (λd r=>by rw[ai (av r hn)];exact r) λd xs r=>by rw[ai (av r hn)];exact r
def AR(kA vs:Array Z3)(h:kA.size=vs.size):(kA.zip vs).map (·.2)=vs:=by
 apply Array.ext;simp[h];intro i h1 h2;simp
noncomputable def fN(h:Heap)(vs:Z9 Z3):Heap:=Heap.push (Heap.update (h.push (seqObj "list" #[] 0)) h.objs.size (Obj.mapSeq (· ++vs.toArray))) (seqObj "list" vs.toArray 0)
def uI(h:Heap)(vs:Z9 Z3):(Heap.update (h.push (seqObj "list" #[] 0)) h.objs.size (Obj.mapSeq (· ++vs.toArray))).objs.size=h.objs.size+1/\(fN h vs).objs.size=h.objs.size+2/\
  (fN h vs).get? (h.objs.size+1)=U (seqObj "list" vs.toArray 0)/\∀b o,h.get? b=U o->(fN h vs).get? b=U o:=by
 have e:(Heap.update (h.push (seqObj "list" #[] 0)) h.objs.size (Obj.mapSeq (· ++vs.toArray))).objs.size=h.objs.size+1:=by
  rw[Xs,size_push']
 refine⟨e,by unfold fN;rw[size_push',e],?_,λb o q=>?_⟩;unfold fN;rw[<-e];exact ZN _ rfl;exact Z4 _ ((Heap.get?_update_ne _ _ _ _ (Zt (ZQ q))).trans (Z4 _ q))
end
end L2
namespace L2
open PySem PySem.Spec PyProof.Rows PySem.W
def Bm{q:Type}(lt:Nat->Nat->Bool):KasT q->q
 |.ret a=>a
 |.ask i j k=>Bm lt (k (lt i j))
def A2(n:Nat):KasT (Array Nat)->Bool
 |.ret a=>a.toList.isPerm (List.range n)
 |.ask i j k=>decide (i<n)&&decide (j<n)&&(A2 n (k L)&&A2 n (k Y))
theorem gO(lt:Nat->Nat->Bool):∀t:KasT (Array Nat),A2 n t=L->(Bm lt t).toList.Perm (List.range n)
 |.ret a,h=>List.isPerm_iff.mp h
 |.ask i j k,h=>by
  simp only[A2,ZK]at h;unfold Bm;cases lt i j with
  |true=>exact gO lt _ h.2.1
  |false=>exact gO lt _ h.2.2
theorem xX(hc:∀i j C,i<n->j<n->C (lt i j) s->cmp i j C s):∀t:KasT (Array Nat),A2 n t=L->Q (Bm lt t) s->t.kasWp cmp Q s
 |.ret a,_,h=>h
 |.ask i j k,h,h'=>by
  simp only[A2,ZK,Zf]at h;refine hc i j _ h.1.1 h.1.2 (xX hc (k (lt i j)) ?_ h');cases lt i j with
  |true=>exact h.2.1
  |false=>exact h.2.2
def o6:∀{n:Nat},n<5->A2 n (kas_sort n)=L
 |0,_=>by kernel_rfl
 |1,_=>by kernel_rfl
 |2,_=>by kernel_rfl
 |3,_=>by kernel_rfl
 |4,_=>by kernel_rfl
 |n+5,h=>absurd h (by lia)
variable[Lams]
def ltK(ks:Z9 Int)(i j:Nat):Bool:=decide (ks.getD i 0<ks.getD j 0)
def iX(ks:Z9 Int):Z9 Nat:=if ks.length<2 then List.range ks.length else(Bm (ltK ks) (kas_sort ks.length)).toList
def f7(h:ks.length<5):(iX ks).Perm (List.range ks.length):=by
 unfold iX;split;exact Yy _;exact gO _ _ (o6 h)
def bv(vs:Z9 Z3)(p:Z9 Nat):Z9 Z3:=p.map λi=>vs.getD i Value.none
section
theorem cr(m:Z9 Z3):∀(l:Z9 Z3),codeAmong pos l=U c->codeAmong pos (l++m)=U c
 |.int line t::.int col u::x::aq,h=>by
  simp only[List.cons_append,codeAmong]at h⊢;split at h;rename_i q;rw[ZO q];exact h;rename_i q;rw[ZJ q];exact cr m aq h
 |[],h=>by simp[codeAmong]at h
 |[_],h=>by simp[codeAmong]at h
 |[_,_],h=>by simp[codeAmong]at h
 |a::b::x::aq,h=>by
  unfold codeAmong at h;split at h;rename_i q;cases q;show codeAmong pos (_::_::_::(aq++m))=_;unfold codeAmong;split at h;rename_i q;rw[ZO q];exact h;rename_i q;rw[ZJ q];exact cr m aq h;trivial
theorem c9:∀{us:Z9 Z3}{ks:Z9 Int}{i:Nat},IntsAre us ks->i<us.length->∃t,us.getD i Value.none=.int (ks.getD i 0) t
 |_,_,i,.nil,h=>by simp at h
 |_,_,0,.cons n t h,_=>⟨t,rfl⟩
 |_,_,i+1,.cons n t h,hi=>by simpa using c9 (i:=i) h (by simpa using hi)
def tY{A:Za}{E:Z3->ZR->Prop}{kS D:ZM}{kA:Array Z3}{e e1:Nat}{vs:Z9 Z3}{ks:Z9 Int}{P:PySem.Fin->ZR->Prop}(J:Inv X ((kS,seqObj "list" kA e)::(D,seqObj "list" #[] e1)::pins) σ H s)
  (fk:fq X pins H kS) (fD:fq X pins H D) (sk:X.n_.z<=kS) (sD:X.n_.z<=D) (Pl:kS≠D) (hk:IntsAre kA.toList ks) (hl:vs.length=ks.length) (N_:vs.length<5) {ys:Z9 V}(rv:aab ys (bv vs (iX ks)))
  (h:∀h' tk,Inv X pins σ (upd H D (.lst ys)) {s with heap:=h',toks:=tk}->P (.done (.ret .none)) {s with heap:=h',toks:=tk}):
  wpAny (model X.prog X.w) A (ksk_end D Y vs.toArray e1 (.ref kS) kA) P E s:=by
 have nk:=J.pin (kS,seqObj "list" kA e) (ZI _ (.head _));have nD:=J.pin (D,seqObj "list" #[] e1) (ZI _ (.tail _ (.head _)));have hz:(64:Nat)<=sizeLine:=by rw[Yk];lia
 have Mh:kA.size=vs.length:=by have:=hk.length;rw[Array.length_toList]at this;lia
 have I0:Inv X pins σ H s:=J.aaL λp hp=>J.pin p (ZI _ (.tail _ (.tail _ hp)));have s1:=Ze s.heap kS (Obj.mapSeq λ_=>(#[]:Array Z3));have Qj:(s.heap.update kS (Obj.mapSeq λ_=>(#[]:Array Z3))).get? D=U (seqObj "list" #[] e1):=(s1.2 D (Zy Pl)).trans nD.1;have DP:(bv vs (iX ks)).length=vs.length:=by unfold bv;rw[Z0,(f7 (ks:=ks) (by lia)).length_eq,Xk];lia
 have tail:∀st:SortSt,(arrOf st).map (·.2)=(bv vs (iX ks)).toArray->failedOf st=M->wpAny (model X.prog X.w) A (ksk_tail D Y e1 (.ref kS) st) P E s:=by
  intro st es hf;unfold ksk_tail
  try dsimp only
  refine Z_ (Xb nk.1 rfl ?_ (by rw[Mh];lia) (Zs _));refine Z_ (V8 ?_);refine Z_ (seqEpoch_at Qj rfl ?_);rw[es,hf];refine Z_ (Xb Qj rfl ?_ (Zs _) (by simp only[ZY,Zj];rw[ZT,DP];lia));simp only[bne_self_eq_false,ZY,Zj];refine Z5 (h _ s.toks ?_);have I1:Inv X pins σ H {s with heap:=s.heap.update kS (Obj.mapSeq λ_=>(#[]:Array Z3)),toks:=s.toks}:=I0.turned (it:=kS) (λb o hb q=>(s1.2 b hb).trans q) fk.1 fk.2.1 (.inr sk) fk.2.2.2.2.1 fk.2.2.2.2.2;have s2:=Ze (s.heap.update kS (Obj.mapSeq λ_=>(#[]:Array Z3))) D (Obj.mapSeq λ_=>(bv vs (iX ks)).toArray);have I2:Inv X pins σ H {s with heap:=(s.heap.update kS (Obj.mapSeq λ_=>(#[]:Array Z3))).update D (Obj.mapSeq λ_=>(bv vs (iX ks)).toArray),toks:=s.toks}:=Inv.turned (s:={s with heap:=s.heap.update kS (Obj.mapSeq λ_=>(#[]:Array Z3)),toks:=s.toks}) (it:=D) I1 (λb o hb q=>(s2.2 b hb).trans q) fD.1 fD.2.1 (.inr sD) fD.2.2.2.2.1 fD.2.2.2.2.2;exact I2.abZ fD sD ⟨by rw[rv.length,DP];lia,_,_,rv,Ww Qj λ_=>(bv vs (iX ks)).toArray⟩
 unfold ksk_end
 try dsimp only
 simp only[ZY,Zj];by_cases h2:vs.toArray.size<2
 .rw[ZO h2,ZO h2]
  refine Z_ (Z5 ?_);rw[StateT.run_pure];refine Z_ (Z5 ?_)
  try dsimp only
  refine tail _ ?_ rfl;rw[ZT]at h2;have e0:(arrOf (SortSt.mk' general' (kA.zip vs.toArray) #[] 7 M)).map (·.2)=vs.toArray:=AR kA vs.toArray (by rw[Mh,ZT]);rw[e0];unfold iX;rw[ZO (by lia),<-hl];clear tail h rv DP e0 J
  match vs,h2 with
  |[],_=>simp[bv]
  |[v],_=>simp[bv,List.range_succ]
 rw[ZJ h2,ZJ h2];rw[ZT]at h2;have J4:2<=vs.length:=by lia
 have N4:keyKind' kA=pure oneType':=by
  have e0:kA=kA.toList.toArray:=by simp
  rw[e0];have lk:2<=kA.toList.length:=by rw[Array.length_toList];lia
  generalize kA.toList=us at hk lk
  match us,hk,lk with
  |v1::v2::r,hk,_=>exact keyKind_ints hk
 rw[N4];refine Z_ (Z5 ?_);have Us:=o6 N_;have SV:kA.toList.length=vs.length:=by rw[Array.length_toList];exact Mh
 have run:=kat_run (prog:=X.prog) (w:=X.w) (A:=A) (E:=E) (s:=s) (κ:=oneType') (vs:=vs) (ks:=kA.toList) (Q:=λf_ s'=>s'=s/\(arrOf f_).map (·.2)=(bv vs (iX ks)).toArray/\failedOf f_=M)
  (G:=λp s'=>s'=s/\p=Bm (ltK ks) (kas_sort vs.length)) SV J4 (by lia) (λp f_ s' hp QU hf ⟨e1,e2⟩=>⟨e1,by
   rw[kat_snds SV QU,e2];unfold iX bv;rw[ZJ (by lia),<-hl],hf⟩)
  (xX (λi j C hi hj hC=>by
   obtain⟨t1,q1⟩:=c9 hk (i:=i) (by lia);obtain⟨t2,q2⟩:=c9 hk (i:=j) (by lia);unfold kas_ask;rw[q1,q2,keyLt'_oneType];exact oneLt_int hC) _ Us ⟨rfl,rfl⟩)
 have ez:kA.toList.toArray.zip vs.toArray=kA.zip vs.toArray:=by simp
 rw[ez]at run;refine Z_ (YK run ?_ λ_ _ e=>e)
 rintro⟨⟨⟩,f_⟩ s' ⟨rfl,QU,hf⟩
 exact tail f_ QU hf
def mF{A:Za}{E:Z3->ZR->Prop}{l f:ZM}{vs:Z9 Z3}{xs ys:Z9 V}{ks:Z9 Int}{Q:Z3->ZR->Prop}{T:Hp->Prop}(I:Inv X pins σ H s)(hl:s.heap.IsList l vs.toArray)(rv:aab xs vs)(N_:vs.length<5)(Mh:vs.length=ks.length)(t0:T H)
  (turn:∀(IT:Z9 (ZM×Obj))(s':ZR)(H':Hp)(i:Nat)(u:Z3)(v:V)(k:Int),vs[i]?=U u->xs[i]?=U v->ks[i]?=U k->(∀p∈pins,p∈IT)->T H'->Inv X IT σ H' s'->wpAny (model X.prog X.w) A.in1.in1 (call (.ref f) [u]) (EP X IT σ λy KC=>y=V.int k/\T KC) (λ_ _=>False) s')
  (Qs:aab ys (bv vs (iX ks)))
  (h:∀D H' s',Inv X pins σ (upd H' D (.lst ys)) s'->T H'->H' D=M->Q (.ref D) s'):
  wpAny (model X.prog X.w) A (call (.builtin "sorted") [.ref l] [(Str.ofString "key",.ref f)]) Q E s:=by
 have hz:(64:Nat)<=sizeLine:=by rw[Yk];lia
 refine call_function_entry_kw kind_sorted plain_sorted entry_sorted (ksk_s1 _ _) ?_;unfold Builtin.«sorted»;refine Z_ (m:=checkCount "sorted" 1 1 _) (Z5 ?_);refine Z_ (collect_list hl ?_ (by lia));refine Z_ (wpAny_newList ?_ (by lia));obtain⟨n1,n2,n3,n4⟩:=uI s.heap vs;rw[n1];show wpAny _ _ _ _ _ {s with heap:=fN s.heap vs};generalize fN s.heap vs=g at n2 n3 n4⊢;have My:=n3;have keep:=n4;have VH:g.objs.size=s.z+2:=n2;generalize hD:s.z+1=D at My⊢;have PD:s.z<=D:=by lia
 refine Z_ (Y4 (wpAny_call_entry_kw slot_list_sort ⟨_,My,rfl⟩ entry_list_sort ?body (ksk_l1 _ _)));show wpAny (model X.prog X.w) A.in1.in1 (Builtin.«list.sort» ⟨[.ref D],[(Str.ofString "key",.ref f)]⟩) _ _ _;rw[ksk_t1];have s1:=Ze g D (Obj.mapSeq λ_=>(#[]:Array Z3));obtain⟨e1,N1⟩:∃e1,(g.update D (Obj.mapSeq λ_=>(#[]:Array Z3))).get? D=U (seqObj "list" #[] e1):=⟨_,Ww My λ_=>#[]⟩
 unfold ksk_tree;refine Z_ (V5 My rfl ?_);refine Z_ (Xb My rfl ?_ (by rw[ZT];lia) (Zs _));refine Z_ (seqEpoch_at N1 rfl ?_);refine Z_ (V9 ?_ (by show vs.length<=_;lia));refine Z_ (wpAny_newList ?_ (Zs _));refine Y4 ?_;have VJ:(g.update D (Obj.mapSeq λ_=>(#[]:Array Z3))).objs.size=s.z+2:=by rw[Xs,VH]
 have VB:((g.update D (Obj.mapSeq λ_=>(#[]:Array Z3))).push (seqObj "tuple" vs.toArray 0)).objs.size=s.z+3:=by rw[size_push',VJ]
 generalize VA:((g.update D (Obj.mapSeq λ_=>(#[]:Array Z3))).push (seqObj "tuple" vs.toArray 0)).objs.size=kS at VB;have gk:(((g.update D (Obj.mapSeq λ_=>(#[]:Array Z3))).push (seqObj "tuple" vs.toArray 0)).push (seqObj "list" #[] 0)).get? kS=U (seqObj "list" #[] 0):=by rw[<-VA];exact ZN _ rfl
 have gD:(((g.update D (Obj.mapSeq λ_=>(#[]:Array Z3))).push (seqObj "tuple" vs.toArray 0)).push (seqObj "list" #[] 0)).get? D=U (seqObj "list" #[] e1):=Z4 _ (Z4 _ N1);have Kq:∀b o,s.heap.get? b=U o->(((g.update D (Obj.mapSeq λ_=>(#[]:Array Z3))).push (seqObj "tuple" vs.toArray 0)).push (seqObj "list" #[] 0)).get? b=U o:=λb o q=>
  Z4 _ (Z4 _ ((s1.2 b (Zt (ZA (ZQ q) PD))).trans (keep b o q)))
 generalize hg2:((g.update D (Obj.mapSeq λ_=>(#[]:Array Z3))).push (seqObj "tuple" vs.toArray 0)).push (seqObj "list" #[] 0)=g2 at gk gD Kq;have fk:fq X pins H kS:=I.abm (by lia) (I.hok.fresh (by lia));have fD:fq X pins H D:=I.abm PD (I.hok.fresh PD);have sk:X.n_.z<=kS:=ZH I.sz (by lia);have sD:X.n_.z<=D:=ZH I.sz PD;have Pl:kS≠D:=by lia
 have I1:Inv X pins σ H {s with heap:=g2,toks:=s.toks}:=I.kept (h':=g2) Kq;have I2:Inv X ((kS,seqObj "list" #[] 0)::(D,seqObj "list" #[] e1)::pins) σ H {s with heap:=g2,toks:=s.toks}:=I1.aaL λp hp=>by
  rcases ZZ.mp hp with rfl|hp;exact⟨gk,fk.1,fk.2.1,fk.2.2.1,λv z=>by cases z⟩;rcases ZZ.mp hp with rfl|hp;exact⟨gD,fD.1,fD.2.1,fD.2.2.1,λv z=>by cases z⟩;exact I1.pin p (ZI _ hp)
 show wpAny (model X.prog X.w) A.in1.in1 (ksk_rest D (.ref f) Y vs.toArray e1 _) _ _ {s with heap:=_,toks:=s.toks};unfold ksk_rest;refine Z_ (YC ?_);rw[List.forIn_toArray];have hP:∀h' tk H',Inv X pins σ (upd H' D (.lst ys)) {s with heap:=h',toks:=tk}->True:=λ_ _ _ _=>trivial;refine Z_ (X4 _
  (λaq _ s'=>∃(i:Nat)(kA:Array Z3)(c:Nat)(H':Hp),aq=vs.drop i/\i<=vs.length/\IntsAre kA.toList (ks.take i)/\T H'/\fq X pins H' kS/\fq X pins H' D/\Inv X ((kS,seqObj "list" kA c)::(D,seqObj "list" #[] e1)::pins) σ H' s') _ ?step ?fin _ _ ⟨0,#[],0,H,by simp,Zs _,by simpa using IntsAre.nil,t0,fk,fD,I2⟩)
 case step=>
  rintro u aq b s' ⟨i,kA,c,H',hr,hi,MB,tH,Tv,Q2,J⟩
  have j_:i<vs.length:=by
   rcases Nat.lt_or_ge i vs.length with q|q;exact q;rw[Wz q]at hr;trivial
  rw[Zn j_]at hr;obtain⟨rfl,rfl⟩:=List.cons.inj hr;have hu:vs[i]?=U vs[i]:=by simp[j_]
  obtain⟨v,hv⟩:∃v,xs[i]?=U v:=⟨xs[i]'(by rw[rv.length];exact j_),by simp[rv.length,j_]⟩
  have SU:i<ks.length:=by lia
  refine Z_ (XO (YK (turn _ s' H' i vs[i] v ks[i] hu hv (by simp[SU]) (λp hp=>.tail _ (.tail _ hp)) tH J) (λy Ks he=>?_) λ_ _ hF=>hF.elim));obtain⟨yv,KC,J',ry,rfl,Uo⟩:=he;obtain⟨t,rfl⟩:=ry;have nk:=J'.pin (kS,seqObj "list" kA c) (ZI _ (.head _));have nD:=J'.pin (D,seqObj "list" #[] e1) (ZI _ (.tail _ (.head _)));have JM:fq X pins KC kS:=⟨nk.2.1,fk.2⟩;have L7:fq X pins KC D:=⟨nD.2.1,fD.2⟩;have J0:Inv X pins σ KC Ks:=J'.aaL λp hp=>J'.pin p (ZI _ (.tail _ (.tail _ hp)));have s3:=Ze Ks.heap kS (Obj.mapSeq (·.push (.int ks[i] t)));obtain⟨c2,Jr⟩:∃c2,(Ks.heap.update kS (Obj.mapSeq (·.push (.int ks[i] t)))).get? kS=U (seqObj "list" (kA.push (.int ks[i] t)) c2):=⟨_,Ww nk.1 (·.push (.int ks[i] t))⟩
  have J1:Inv X pins σ KC {Ks with heap:=Ks.heap.update kS (Obj.mapSeq (·.push (.int ks[i] t))),toks:=Ks.toks}:=J0.turned (it:=kS) (λb o hb q=>(s3.2 b hb).trans q) JM.1 JM.2.1 (.inr sk) JM.2.2.2.2.1 JM.2.2.2.2.2;have J2:Inv X ((kS,seqObj "list" (kA.push (.int ks[i] t)) c2)::(D,seqObj "list" #[] e1)::pins) σ KC {Ks with heap:=Ks.heap.update kS (Obj.mapSeq (·.push (.int ks[i] t))),toks:=Ks.toks}:=J1.aaL λp hp=>by
   rcases ZZ.mp hp with rfl|hp;exact⟨Jr,JM.1,JM.2.1,JM.2.2.1,λv z=>by cases z⟩;rcases ZZ.mp hp with rfl|hp;exact⟨(s3.2 D (Zy Pl)).trans nD.1,L7.1,L7.2.1,L7.2.2.1,λv z=>by cases z⟩;exact J1.pin p (ZI _ hp)
  have hsz:kA.size=i:=by have:=MB.length;rw[Array.length_toList,X_]at this;lia
  refine Z_ (Xb nk.1 rfl ?_ (by rw[hsz];lia) (by show(kA.push _).size<=_;rw[Array.size_push,hsz];lia));refine Z5 ⟨i+1,kA.push (.int ks[i] t),c2,KC,rfl,j_,?_,Uo,JM,L7,J2⟩;rw[YD,List.take_succ_eq_append_getElem SU];exact MB.append (.cons _ _ .nil)
 case fin=>
  rintro b s' ⟨i,kA,c,H',hr,hi,MB,tH,Tv,Q2,J⟩
  have JB:i=vs.length:=by
   rcases Nat.lt_or_ge i vs.length with q|q;rw[Zn q]at hr;trivial;lia
  subst JB;have nk:=J.pin (kS,seqObj "list" kA c) (ZI _ (.head _));refine Z_ (V5 nk.1 rfl ?_);rw[Mh,List.take_length]at MB;exact tY J Tv Q2 sk sD Pl MB Mh N_ Qs λh' tk J3=>⟨_,rfl,Z5 ⟨_,rfl,h D H' _ J3 tH Q2.1⟩⟩
end
noncomputable def gX(fk:D->Z8 D):Z9 D->Z8 (Z9 Int)
 |[]=>U []
 |d::ds=>match fk d,gX fk ds with|some (.int i),some l=>U (i::l)|_,_=>M
set_option tactic.hygienic true in
theorem kZ:∀{ds:Z9 D}{ks:Z9 Int},gX fk ds=U ks->ds.length=ks.length
 |[],ks,h=>by simp only[gX,ZE]at h;subst h;rfl
 |d::ds,ks,h=>by
  simp only[gX]at h;split at h;rename_i i l q1 q2;obtain rfl:=Z7 h;simp[kZ q2];trivial
set_option tactic.hygienic true in
theorem lJ:∀{ds:Z9 D}{ks:Z9 Int}{i:Nat}{d:D}{k:Int},gX fk ds=U ks->ds[i]?=U d->ks[i]?=U k->fk d=U (.int k)
 |[],ks,i,d,k,h,hd,hk=>by simp at hd
 |d'::ds,ks,i,d,k,h,hd,hk=>by
  simp only[gX]at h;split at h;rename_i i' l q1 q2;obtain rfl:=Z7 h;cases i with
  |zero=>simp at hd hk;subst hd;subst hk;exact q1
  |succ i=>simp at hd hk;exact lJ q2 hd hk
  trivial
def pj(ds:Z9 D)(ks:Z9 Int):Z9 D:=(iX ks).map λi=>ds.getD i .non
noncomputable def io(x:Z8 D)(fk:D->Z8 D):Z8 D:=match x with
 |some (.lst ds)=>if ds.length<5 then(match gX fk ds with|some ks=>U (.lst (pj ds ks))|none=>M) else M
 |_=>M
set_option tactic.hygienic true in
def mP(h:io x fk=U d):∃ds ks,x=U (.lst ds)/\ds.length<5/\gX fk ds=U ks/\d=.lst (pj ds ks):=by
 unfold io at h;split at h;rename_i ds;split at h;rename_i hl;split at h;rename_i ks q;obtain rfl:=Z7 h;exact⟨ds,ks,rfl,hl,q,rfl⟩;trivial;trivial;trivial
theorem M1.order{K:Z6}{B:ZM->Prop}{H:Hp}{ds:Z9 D}{xs:Z9 V}(r:M1 K B H ds xs):∀(p:Z9 Nat),(∀i∈p,i<ds.length)->M1 K B H (p.map λi=>ds.getD i .non) (p.map λi=>xs.getD i .non)
 |[],_=>M1.nil
 |i::p,h=>by
  have hi:=h i (ZW ..);have hd:ds[i]?=U ds[i]:=by simp[hi]
  obtain⟨x,hx,rx⟩:=r.get hd;refine M1.cons ?_ (M1.order r p λj hj=>h j (Z2 _ hj));dsimp only;rw[Yz,Yz,hd,hx];exact rx
theorem aab.order(r:aab xs us):∀(p:Z9 Nat),(∀i∈p,i<xs.length)->aab (p.map λi=>xs.getD i .non) (bv us p)
 |[],_=>.nil
 |i::p,h=>by
  have hi:=h i (ZW ..);have hx:xs[i]?=U xs[i]:=by simp[hi]
  obtain⟨u,hu,ru⟩:=r.get hx;refine .cons ?_ (aab.order r p λj hj=>h j (Z2 _ hj));dsimp only;rw[Yz,Yz,hx,hu];exact ru
section
variable{X:Cx}{a Kp:Expr}{fa fb:Mk->Z8 D}{params:Arguments}{Iy:Scope}{Ou kp pos p:Pos}{c P:ZM}{lq x:Str}{k:Nat}
theorem nu(hr:aaq (k+3) X.A)(g:Gl X "sorted")(hm:X.mg "sorted"=M)(hP:(P,lq)∈Lams.tb)(hq:X.env.qual++"<lambda>"=lq)(hC:W.CodeHd X.base c P)(Ja:X.env.code=.ref c)(JV:closureFor Iy X.env=pure [])(M0:defaultsOf params X.env=([],[]))
  (S:aaC [x] [x] Iy) (LF:∀(s:ZR)(u pm Km:Z3)(c':ZM),BindsTo s (W.kla_fn "<lambda>" lq params Kp Iy [] pm (.ref c') Km) ⟨[u],[]⟩ [(x,u)])
  (hb:∀(f c':ZM)(A:Za)(s:ZR)(H:Hp),aaq k (A.deeper (envOfC lq Iy s.z f (.ref c')))->DE (pR CX0 X.prog X.w X.K X.mg X.base [x] lq Iy f (.ref c') A X.stack s H (λ_ _ _=>False)).nox Y Kp fb)
  (ha:DE X Y a fa)(hs:starEach [a] X.env=(Y,eval a X.env)::starEach [] X.env:=by rfl):
  DF X (.Call (.Name "sorted" p) [a] [⟨U "key",.Lambda params Kp Iy Ou,kp⟩] pos) (λq=>io (fa q) λd=>fb [U (d,Y)]):=by
 intro pins s σ H Q I SH;obtain⟨B,Hk,q,d,R,e,kk⟩:=SH;obtain⟨ds,ks,Pp,hlen,s_,rfl⟩:=mP e;refine XE (fA I g hm gN ?_ (by decide) (by decide));refine callWith_kw (thn ((ay ha aQ hs) pos pins s σ H (λvs H1=>∃v,vs=[v]/\aad H H1/\Rep X.K B H1 (.lst ds) v) I ⟨B,Hk,q,_,R,Pp,λv H1 s1 r1=>⟨v,rfl,s1,r1⟩⟩) λus s1 ⟨vs,H1,I1,r1,v,hv,sm,rp⟩=>?_) ?_ ?_ rfl rfl;subst hv;obtain⟨u,rfl,ru⟩:=hU r1;show wpAny _ _ (evalAll [do let v <-eval (.Lambda params Kp Iy Ou) X.env;standAt pos;pure v]) _ _ _;unfold evalAll;refine Z_ (Z_ (wx I1 hP hq hC Ja JV M0 λf c' pm Km h' tk H2 PV I2 Md hH2 QQ=>Z_ (wpAny_standAt (Z5 ?_))));unfold evalAll;refine Z_ (Y4 (Z5 (Z5 ?_)));have R1:Rel X.K B Hk q σ H1:=R.to sm;have Nr:Rep X.K B H2 (.lst ds) v:=rp.ext (Md.ext R1.abx);simp only[Rep]at Nr;obtain⟨l,xs,rfl,NC,rs⟩:=Nr;cases ru;obtain⟨its,hv,hp,hz⟩:=I2.list NC.sq;have l1:=rs.length;have l2:=hv.length;have l3:=kZ s_;have q_:∀i∈iX ks,i<ds.length:=λi hi=>by
  have:=(f7 (ks:=ks) (by lia)).mem_iff.mp hi;rw[Y5]at this;lia
 show wpAny (model X.prog X.w) X.A (call (.builtin "sorted") [.ref l] [(Str.ofString "key",.ref f)]) _ _ _;have R2:Rel X.K B Hk q σ H2:=R1.to Md;refine mF (ks:=ks) (T:=λH'=>aad H2 H') I2 (let ⟨o,n,ho,hc,_,hd⟩:=hp;⟨o,ho,hc,n,hd⟩) hv (by lia) (by lia) (aad.refl H2) (λIT s' H' i u' v' k' e1 e2 e3 sub tH I'=>?_) (hv.order (iX ks) λi hi=>by have:=q_ i hi;lia) λD H' s' J tH hD=>?_;have hi:i<ds.length:=by have:=(ZP.mp e2).1;lia
 have hd:ds[i]?=U ds[i]:=by simp[hi]
 obtain⟨y,hy,ry⟩:=rs.get hd;rw[e2]at hy;obtain rfl:=Z7 hy;obtain⟨w',hw,Iu⟩:=hv.get e2;rw[e1]at hw;obtain rfl:=Z7 hw;have k_:=lJ s_ hd e3;have bo:∀a,B a->∃o:HOn,H' a=U o.1:=(R2.to tH).abx;obtain⟨more,hH3⟩:=tH.tbl _ _ _ hH2;refine vS I' hr.in1.in1 (λe=>e.in1.in1) (sub _ (.head _)) hH3 (by rw[Zi];exact cr _ _ QQ) S (LF _ _ _ _ _) (.cons Iu .nil) rfl λhR=>⟨_,(hb f c' _ _ _ hR).nox,B,H',[U (ds[i],Y)],.int k',lB (N:=[x]) (ds:=[ds[i]]) bo (M1.cons (ry.ext (R2.ext tH)) M1.nil) (ZU _),k_,λv KC s r=>⟨?_,tH.trans s⟩⟩
 simp only[Rep]at r;exact r;have tD:H D=M:=(sm.trans (Md.trans tH)).free hD;refine⟨.ref D,_,J.aaL λp hp=>J.pin p (ZI _ (.tail _ hp)),rfl,kk D _ ((sm.trans (Md.trans tH)).trans (ar hD)) tD ⟨_,ah,(rs.order (iX ks) q_).ext ((R2.ext tH).trans ((R2.to tH).ext (ar hD)))⟩⟩;rw[hs];rfl;rw[hs];rfl
end
section
open PySem.SeqAt
open PySem.AutoSeq1 (wpAny_loadPart')
open PySem.MeetsSeq PySem.MeetsSeq2 PySem.MeetsSeq3
def rX(l b:ZM)(v w:Z3)(vs ws:Z9 Z3)(n n2:Nat)(dd Jk:Z8 ZM)(sl Jg:Array (Z8 Z3)):
  Meets (Builtin.«tuple.__eq__» ⟨[.ref l,.ref b],[]⟩)
   (λA R s=>s.heap.get? l=U {cls:=.type "tuple",dict:=dd,data:=.seq (v::vs).toArray n,slots:=sl}/\s.heap.get? b=U {cls:=.type "tuple",dict:=Jk,data:=.seq (w::ws).toArray n2,slots:=Jg}/\
    EqAt A.in1 s v w Y/\R (.ok (.ret (.bool Y))) s):=
 .of_wp λprog w' A R s h=>by
  obtain⟨hp,g,d,tk,os⟩:=s;obtain⟨hl,hb,he,h⟩:=h;have f2:=Wo
  wp_walk using wpAny_loadPart' hl,wpAny_loadPart' hb,X4 _ (λaq b s'=>b.1=M/\s'=⟨hp,g,d,tk,os⟩/\aq=(v::vs).zip (w::ws)) _
  case turn=>
   rintro⟨y,x⟩ aq b s' ⟨Jj,rfl,hz⟩
   rw[List.zip_cons_cons]at hz;injection hz with NX JR;injection NX with hy JU;subst hy JU;refine Z_ (he prog w' _ _ ?_)
   wp_walk
   exact⟨_,rfl,by simpa using h⟩
  case fin=>
   rintro⟨b1,b2⟩ s' ⟨Jj,rfl,hz⟩
   rw[List.zip_cons_cons]at hz;trivial
  case h=>exact⟨rfl,rfl,rfl⟩
end
def EqAt.acu(y_:l≠b)(hl:s.heap.IsTuple l (v::vs).toArray)(hb:s.heap.IsTuple b (w::ws).toArray)(hu:A.units<cLine)(he:SeqAt.EqAt A.in1 s v w Y):SeqAt.EqAt A s (.ref l) (.ref b) Y:=by
 refine SeqAt.EqAt.of_refs y_ λprog w' E Q h=>?_;obtain⟨⟨cls,dd,data,sl⟩,ho,hc,n,hd⟩:=id hl;obtain⟨⟨L9,Jk,data2,Jg⟩,JD,Jr,n2,hd2⟩:=id hb;simp only at hc hd Jr hd2;subst hc hd Jr hd2;exact Wk (op:=.Eq) ⟨_,ho,rfl⟩ ⟨_,JD,rfl⟩ F.slot_tuple_eq F.entry_tuple_eq (F.args_tuple_eq_2 _ _) (rX l b v w vs ws n n2 dd Jk sl Jg)
  ⟨ho,JD,he,show Value.bool Y≠Value.notImplemented/\Q (.bool Y) s from⟨(λx=>nomatch x),h⟩⟩ hu
section
variable{A:Za}
def lS(hj:j<items.size)(hz:items.size<=sizeLine)(hl:s.heap.get? l=U (seqObj "list" items n))(hit:SeqAt.EqAt A.in1 s items[j] x L)(h:R (.ok (.ret .none)) {s with heap:=s.heap.update l (Obj.mapSeq λxs=>xs.eraseIdxIfInBounds j)}):∀(k i:Nat),j - i=k->i<=j->(∀m (hm:m<items.size),i<=m->m<j->SeqAt.EqAt A.in1 s items[m] x Y)->
  codeAny (model prog w) A (.builtin "list.remove.loop" ⟨[.ref l,x,rawInt i],[]⟩) R s:=by
 intro k
 induction k with
 |zero=>
  intro i hk hi Ji;have e:i=j:=by lia
  subst e;refine YO PySem.MeetsSeq.entry_remove_loop ?_;rw[Y7 X2 _];show wpAny _ A.in1 (Builtin.List.listItems (.ref l) >>= _) _ _ s;refine Z_ (V5 hl rfl ?_);simp only[Int.toNat_natCast];rw[Zb hj];refine Z_ (hit prog w _ _ ?_);simp only[Y8];refine Z_ (Xb hl rfl (Z5 h) hz (by show(items.eraseIdxIfInBounds i).size<=_;exact ZH (by unfold Array.eraseIdxIfInBounds;split<;>simp[Array.size_eraseIdx]) (Nat.le_succ_of_le hz)))
 |succ k ih=>
  intro i hk hi Ji;refine YO PySem.MeetsSeq.entry_remove_loop ?_;rw[Y7 X2 _];show wpAny _ A.in1 (Builtin.List.listItems (.ref l) >>= _) _ _ s;refine Z_ (V5 hl rfl ?_);simp only[Int.toNat_natCast];have k_:i<items.size:=by lia
  rw[Zb k_];refine Z_ (Ji i k_ (ZU _) (by lia) prog w _ _ ?_);simp only[ZY,Zj];exact Z5 ⟨Ys X2 _,ih (i+1) (by lia) (by lia) λm hm h1 h2=>Ji m hm (by lia) h2⟩
def me(hj:j<items.size)(hz:items.size<=sizeLine)(hl:s.heap.get? l=U (seqObj "list" items n))(hit:SeqAt.EqAt A.in1 s items[j] x L)(Ji:∀m (hm:m<items.size),m<j->SeqAt.EqAt A.in1 s items[m] x Y)(h:Q .none {s with heap:=s.heap.update l (Obj.mapSeq λxs=>xs.eraseIdxIfInBounds j)}):wpAny (model prog w) A (call (.builtin "list.remove") [.ref l,x]) Q E s:=by
 refine Wj (S:=λA' R s'=>s'=s/\A'=A/\R (.ok (.ret .none)) {s with heap:=s.heap.update l (Obj.mapSeq λxs=>xs.eraseIdxIfInBounds j)}) F.slot_list_remove (show s.TypeIs (.ref l) "list" from⟨_,hl,rfl⟩) F.entry_list_remove (F.args_list_remove_2 _ _) ?_ ⟨rfl,rfl,h⟩
 rintro prog w A' R s' ⟨rfl,rfl,hR⟩
 show wpAny _ _ (pure _) _ _ _;exact Z5 ⟨Ys X2 _,lS hj hz hl hit hR _ 0 rfl (Zs _) λm hm _ h2=>Ji m hm h2⟩
end
noncomputable def cS(f:D->Z8 Bool):Z9 D->Z8 (Z9 Bool)
 |[]=>U []
 |d::ds=>match f d,cS f ds with|some b,some bl=>U (b::bl)|_,_=>M
set_option tactic.hygienic true in
theorem ii:∀{ds:Z9 D}{bl:Z9 Bool},cS f ds=U bl->bl.length=ds.length
 |[],bl,h=>by simp only[cS,ZE]at h;subst h;rfl
 |d::ds,bl,h=>by
  simp only[cS]at h;split at h;rename_i b l q1 q2;obtain rfl:=Z7 h;simp[ii q2];trivial
set_option tactic.hygienic true in
theorem iK:∀{ds:Z9 D}{bl:Z9 Bool}{i:Nat}{d:D}{b:Bool},cS f ds=U bl->ds[i]?=U d->bl[i]?=U b->f d=U b
 |[],bl,i,d,b,h,hd,hb=>by simp at hd
 |d'::ds,bl,i,d,b,h,hd,hb=>by
  simp only[cS]at h;split at h;rename_i b' l q1 q2;obtain rfl:=Z7 h;cases i with
  |zero=>simp at hd hb;subst hd;subst hb;exact q1
  |succ i=>simp at hd hb;exact iK q2 hd hb
  trivial
def aK(bl:Z9 Bool):Nat:=if L∈bl then bl.idxOf L else 0
def eT(d e:D):Bool:=match d,e with|.tup (a::_),.tup (b::_)=>okD 15 a&&okD 15 b&&decide (a≠b)|_,_=>Y
def rK:D->Bool
 |.tup _=>L
 |_=>Y
noncomputable def se(r iL iT j:Nat)(bs:Z9 Bool)(ft:Mk->Z8 Bool)(q:Mk)(gr:Mk->Z8 Out):Z8 Out:=match q[r]? with
 |some (some (.lst ds,true))=>(match cS (λd=>ft ((ax L bs q).set j (U (d,Y)))) ds,ds[0]? with
  |some bl,some _=>if(iL<q.length/\iT<q.length/\j<q.length/\ds.length<=lim)/\(ds.all rK&&(ds.take (aK bl)).all λd=>eT d (ds.getD (aK bl) .non))=L then
    gr (((q.set iL (U (.lst (eN ds bl),L))).set iT (U (ds.getD (aK bl) .non,Y))).set r (U (.lst (ds.eraseIdx (aK bl)),L))) else M
  |_,_=>M)
 |_=>M
set_option tactic.hygienic true in
def pZ(h:se r iL iT j bs ft q gr=U o):∃ds bl,q[r]?=U (U (.lst ds,L))/\cS (λd=>ft ((ax L bs q).set j (U (d,Y)))) ds=U bl/\0<ds.length/\(iL<q.length/\iT<q.length/\j<q.length/\ds.length<=lim)/\
  ds.all rK=L/\((ds.take (aK bl)).all λd=>eT d (ds.getD (aK bl) .non))=L/\
  gr (((q.set iL (U (.lst (eN ds bl),L))).set iT (U (ds.getD (aK bl) .non,Y))).set r (U (.lst (ds.eraseIdx (aK bl)),L)))=U o:=by
 unfold se at h;split at h;rename_i ds e;split at h;rename_i bl x eb ex;split at h;rename_i c;rw[ZK]at c;exact⟨ds,bl,e,eb,(ZP.mp ex).1,c.1,c.2.1,c.2.2,h⟩;trivial;trivial;trivial
theorem M1.erase{K:Z6}{B:ZM->Prop}{H:Hp}:∀{ds:Z9 D}{xs:Z9 V}(i:Nat),M1 K B H ds xs->M1 K B H (ds.eraseIdx i) (xs.eraseIdx i)
 |[],xs,i,r=>by simp only[M1]at r;subst r;exact M1.nil
 |d::ds,xs,0,r=>by simp only[M1]at r;obtain⟨x,q,rfl,r1,r2⟩:=r;exact r2
 |d::ds,xs,i+1,r=>by simp only[M1]at r;obtain⟨x,q,rfl,r1,r2⟩:=r;exact M1.cons r1 (M1.erase i r2)
theorem aab.erase:∀{xs:Z9 V}{us:Z9 Z3}(i:Nat),aab xs us->aab (xs.eraseIdx i) (us.eraseIdx i)
 |_,_,i,.nil=>by simpa using Paired.nil
 |_,_,0,.cons a b=>b
 |_,_,i+1,.cons a b=>.cons a (aab.erase i b)
theorem kg{q:Type}:∀{xs:Z9 q}{bl:Z9 Bool},bl.length=xs.length->(L∈bl->(eN xs bl)[0]?=xs[aK bl]?)/\(L∉bl->eN xs bl=[])
 |[],bl,h=>by cases bl with
  |nil=>exact⟨λh=>(by trivial),λ_=>rfl⟩
  |cons _ _=>simp at h
 |x::xs,bl,h=>by
  cases bl with
  |nil=>simp at h
  |cons b bl=>
   have ih:=kg (xs:=xs) (bl:=bl) (by simpa using h);cases b with
   |true=>exact⟨λ_=>by unfold eN aK;simp,λn=>absurd (ZW ..) n⟩
   |false=>
    refine⟨λm=>?_,λn=>?_⟩;have m':L∈bl:=by simpa using m
    have:=ih.1 m';unfold eN;simp only[ZY,Zj];rw[this];unfold aK;rw[ZO m',ZO m,List.idxOf_cons];simp;unfold eN;simp only[ZY,Zj];exact ih.2 (λz=>n (Z2 _ z))
def nM{q:Type}{xs:Z9 q}{x:q}(h:xs[0]?=U x):atI xs 0=U x:=by
 have hl:=(ZP.mp h).1;have:=(ZP.mp h).2;simpa[atI,ixN,hl]using this
section
variable{X:Cx}
set_option tactic.hygienic true in
def pI(hu:X.A.units+64<cLine):MtR X "list.remove" (λx vs H Q=>∃B l p ds xs j,x=.ref l/\vs=[.ref p]/\H l=U (.lst xs)/\M1 X.K B H ds xs/\xs[j]?=U (.ref p)/\ds.all rK=L/\((ds.take j).all λd=>eT d (ds.getD j .non))=L/\Q .non (upd H l (.lst (xs.eraseIdx j)))):=by
 intro pins s σ H x vs v us Q I rx rv h;obtain⟨B,l,p,ds,xs,j,rfl,rfl,hH,rs,hj,hT,Qx,q⟩:=h;cases rx;obtain⟨u,rfl,ru⟩:=rv.one;cases ru;obtain⟨z,its,n,r,hl,e⟩:=I.acg hH;have l1:=r.length;have l2:=rs.length;have hjx:j<xs.length:=(ZP.mp hj).1;have SX:j<its.length:=by lia
 have SY:j<ds.length:=by lia
 obtain⟨w,hw,Iu⟩:=r.get hj;cases Iu;have ej:its[j]=Value.ref p:=by have:=ZP.mp hw;exact this.2
 refine me (j:=j) (items:=its.toArray) (n:=n) (by simpa using SX) (by rw[ZT];lia) e ?_ (λm hm Vt=>?_) ?_;rw[List.getElem_toArray,ej];exact SeqAt.EqAt.same _;rw[List.getElem_toArray];have hmi:m<its.length:=by simpa using hm
 have SQ:m<ds.length:=by lia
 have Kt:=(ZX.mp Qx) ds[m] (by
  rw[List.mem_iff_getElem?];exact⟨m,by rw[List.getElem?_take,ZO Vt];simp[SQ]⟩)
 have Pn:ds.getD j .non=ds[j]:=by rw[Yz];simp[SY]
 rw[Pn]at Kt;obtain⟨xm,U8,rm⟩:=rs.get (i:=m) (d:=ds[m]) (by simp[SQ]);obtain⟨xj,Su,rj⟩:=rs.get (i:=j) (d:=ds[j]) (by simp[SY]);rw[hj]at Su;obtain rfl:=Z7 Su;unfold eT at Kt;split at Kt;rename_i d1 d2 a as b bs e1 e2;rw[ZK,ZK]at Kt;obtain⟨⟨oa,ob⟩,ne⟩:=Kt;rw[e1]at rm;rw[e2]at rj;simp only[Rep]at rm rj;obtain⟨t1,y1,rfl,g1,q1⟩:=rm;obtain⟨t2,y2,z2,g2,q2⟩:=rj;cases z2;obtain⟨um,Vb,Uz⟩:=r.get U8;cases Uz;have em:its[m]=Value.ref t1:=by have:=ZP.mp Vb;exact this.2
 rw[em];simp only[M1]at q1 q2;obtain⟨v1,r1,rfl,ra,_⟩:=q1;obtain⟨v2,r2,rfl,rb,_⟩:=q2;obtain⟨i1,w1,Uk,_⟩:=I.tuple (SqT.of g1);obtain⟨i2,w2,Uj,_⟩:=I.tuple (SqT.of g2);cases w1 with
 |cons a1 a2=>cases w2 with
  |cons b1 b2=>
   have y_:t1≠p:=λz=>by
    subst z;rw[g1]at g2;cases g2;exact(Zo ne) (Rep.inj I oa ob ra rb)
   have q:=(Bl I 15 a b v1 v2 _ _ (X.A.in1.in1) oa ob (by show X.A.units+1+1+15+1<cLine;lia) ra rb a1 b1).2.1;rw[ZD (Zo ne)]at q;exact EqAt.acu y_ Uk Uj (by show X.A.units+1<cLine;lia) q
 trivial;refine⟨.non,_,I.abK (its':=its.eraseIdx j) (ys:=xs.eraseIdx j) hH e ?_ (aab.erase j r) ?_,rfl,q⟩;simp[Array.eraseIdxIfInBounds,SX];have:=List.length_eraseIdx_le xs j;lia
variable{r j iL iT:Nat}{xr xl xt xp:Str}{bs:Z9 Bool}{ifs:Z9 Expr}{scope:Scope}{ft:Mk->Z8 Bool}{aq:Z9 Stmt}{gr:Mk->Z8 Out}{pe pp pr Ms py J7 RW IB Nw Nv RZ Qa P9 R9 RY apos i_ pt Om pf Qc:Pos}{k1 k2:Nat}
theorem uD(hu:X.A.units+64<cLine)(hN:X.N.Nodup)(hc:X.calm=L)(nr:Nm X r xr)(nl:Nm X iL xl)(nt:Nm X iT xt)(lt:Lc X iT xt)(hy:X.env.scope.names.lookup xl=U .local)(QB:r≠iL)(Sz:r≠iT)(j_:iL≠iT)(S:aag X scope bs)
  (hg:∀cl C a_ b_ ex pn,PG (aE X scope cl C a_ b_ ex pn) (.Name xp pp) (gY j)) (ht:∀cl C a_ b_ ex pn,DTs (aE X scope cl C a_ b_ ex pn) ifs ft) (he:∀cl C a_ b_ ex pn,PE (aE X scope cl C a_ b_ ex pn) (.Name xp pe) (vi j))
  (JR:DSs X aq gr)
  (Ku:swapsWith (.ListComp (.Name xp pe) [⟨.Name xp pp,.Name xr pr,ifs,0⟩] scope Ms) (U (.Name xl py)) J7.line X.env=pure L)
  (hs:∀x,foldedSetIterable (.Name xr pr) X.env x=pure x)
  (MU:swapsWith (.IfExp (.Name xl Nw) (.Subscript (.Name xl Nv) (.Constant (.int 0) k1 Qa) R9) (.Subscript (.Name xr RZ) (.Constant (.int 0) k2 P9) RY) pf) (U (.Name xt RW)) IB.line X.env=pure Y)
  (Rp:∀whole,isTrue (.Name xl Nw) X.env whole=(do let v <-whole;standAt (Expr.pos (.Name xl Nw));holding [v] (truthy v)))
  (MC:gw (.Constant (.int 0) k1 Qa)) (Ky:gw (.Constant (.int 0) k2 P9))
  (mc:Mc X.env (.Name xr Qc) "remove" (.Name xt pt) [] apos i_)
  (MT:swapsWith (.Call (.Attribute (.Name xr Qc) "remove" apos) [.Name xt pt] [] i_) M Om.line X.env=pure Y):
  DSs X (.Assign [.Name xl py] (.ListComp (.Name xp pe) [⟨.Name xp pp,.Name xr pr,ifs,0⟩] scope Ms) J7::
   .Assign [.Name xt RW] (.IfExp (.Name xl Nw) (.Subscript (.Name xl Nv) (.Constant (.int 0) k1 Qa) R9) (.Subscript (.Name xr RZ) (.Constant (.int 0) k2 P9) RY) pf) IB::
   .Expr (.Call (.Attribute (.Name xr Qc) "remove" apos) [.Name xt pt] [] i_) Om::aq) (λO=>se r iL iT j bs ft O gr):=by
 intro pins s σ H Dn I hq;obtain⟨B,Hk,O,o,R,e,kk⟩:=hq;obtain⟨ds,bl,hr,hb,h0,⟨q1,q2,q3,q4⟩,hT,Qx,e'⟩:=pZ e;have Qr:=R.len;have Sn:=ii hb;refine bV (ro (tt:=tMT X.K ft) hc (u0 (bF nr.at' nr.vis nr.d1 nr.d2)) S hg ht he hN nl.at' hy Ku hs)
  (bV (iq hN lt.at' lt.loc (wI (ou (bF nl.at' nl.vis nl.d1 nl.d2) Rp) (xo mD (bF nl.at' nl.vis nl.d1 nl.d2) rN MC) (xo mD (bF nr.at' nr.vis nr.d1 nr.d2) rN Ky)) MU lt.fnl)
   (bV (mW (pQ Xo F.slot_list_remove F.type_list_remove (pI hu) (bF nr.at' nr.vis nr.d1 nr.d2) (ay (bF nt.at' nt.vis nt.d1 nt.d2) aQ mc.s) mc) MT) JR)) pins s σ H Dn I ?_
 unfold Eh A4;refine rR (bl:=bl) (by rw[S.len,<-I.len]) R hr (by lia) Sn q4 (λi d c h1 h2=>iK hb h1 h2) λl xs a H' h1 h3 h4 sm SK ha=>?_;have lx:=h4.length;have Ni:aK bl<ds.length:=by
  unfold aK;split;rename_i m;rw[<-Sn];exact YF m;exact h0
 have IM:H' l=U (.lst xs):=sm l _ h3;have R0:=R.to sm;have LJ:M1 X.K B H' ds xs:=h4.ext (R.ext sm);have NG:ds[aK bl]?=U (ds.getD (aK bl) .non):=by rw[Yz];simp[Ni]
 obtain⟨w,hw,Ol⟩:=LJ.get NG;obtain⟨ts,ets⟩:∃ts,ds.getD (aK bl) .non=.tup ts:=by
  have:=(ZX.mp hT) _ (Zg NG);cases q:ds.getD (aK bl) .non with
  |tup ts=>exact⟨ts,rfl⟩
  |_=>rw[q]at this;simp[rK]at this
 have Nr:=Ol;rw[ets]at Nr;simp only[Rep]at Nr;obtain⟨p,ws,rfl,hp,rws⟩:=Nr;have PH:(σ.set iL (U (.ref a)))[iL]?=U (U (.ref a)):=ZG (by lia);have RM:(σ.set iL (U (.ref a)))[r]?=U (U (.ref l)):=by rw[ZL (Zy QB)];exact h1
 have Vz:Hk a=M:=R.same.free SK;have R1:Rel X.K B Hk (O.set iL (U (.lst (eN ds bl),L))) (σ.set iL (U (.ref a))) H':=R0.abJ (by lia) Vz ⟨_,ha,gx LJ⟩ (λm f hm z1 z2=>by
  obtain⟨c,y1,_,y3⟩:=R.own m f z1;rw[z2]at y1;cases y1;obtain⟨u,hu⟩:=y3.there;rw[SK]at hu;trivial)
 have R2:=R1.set (i:=iT) (by rw[ZC];lia) Ol;have JW:((O.set iL (U (.lst (eN ds bl),L))).set iT (U (ds.getD (aK bl) .non,Y)))[r]?=U (U (.lst ds,L)):=by
  rw[ZL (Zy Sz),ZL (Zy QB)];exact hr
 have Ob:((σ.set iL (U (.ref a))).set iT (U (.ref p)))[r]?=U (U (.ref l)):=by rw[ZL (Zy Sz)];exact RM
 have Q_:((σ.set iL (U (.ref a))).set iT (U (.ref p)))[iT]?=U (U (.ref p)):=ZG (by rw[ZC];lia);obtain⟨x5,R3⟩:=R2.abK (ds':=ds.eraseIdx (aK bl)) (xs':=xs.eraseIdx (aK bl)) JW Ob IM (LJ.erase _);have fin:CI (tBM X.K "list" (λx vs H Q=>∃B l p ds xs j,x=.ref l/\vs=[.ref p]/\H l=U (.lst xs)/\M1 X.K B H ds xs/\xs[j]?=U (.ref p)/\ds.all rK=L/\((ds.take j).all λd=>eT d (ds.getD j .non))=L/\Q .non (upd H l (.lst (xs.eraseIdx j)))) (vi r) (pJ (vi iT) ab0)) {Dn with nx:=tD X.K gr Dn} ((σ.set iL (U (.ref a))).set iT (U (.ref p))) H':=
  ⟨.ref l,Ob,.inl ⟨rfl,_,SqL.of IM⟩,.ref p,Q_,B,l,p,ds,xs,aK bl,rfl,rfl,IM,LJ,hw,hT,Qx,B,Hk,_,o,R3,e',kk.ext ((R.ext sm).trans x5)⟩
 have ph:=kg (xs:=xs) (bl:=bl) (by lia);by_cases m:L∈bl;have y_:(eN xs bl)[0]?=U (.ref p):=(ph.1 m).trans hw;refine⟨.ref a,PH,L,.inl ⟨_,SqL.of ha,?_⟩,?_⟩;cases q:eN xs bl with
 |nil=>rw[q]at y_;trivial
 |cons _ _=>simp
 exact zG ⟨.ref a,PH,a,_,0,.ref p,rfl,rfl,SqL.of ha,nM y_,fin⟩;have Ry:=ph.2 m;have f0:aK bl=0:=by unfold aK;rw[ZJ m]
 refine⟨.ref a,PH,Y,.inl ⟨_,SqL.of ha,by rw[Ry];rfl⟩,?_⟩;rw[f0]at hw;exact Aw ⟨.ref l,RM,l,xs,0,.ref p,rfl,rfl,SqL.of IM,nM hw,fin⟩
end
section
end
section
end
inductive acT where
 |o (x:Out)|rai
section
end
section
end
end L2
namespace L2
open PySem
def abi(t:Bool)(h:Heap)(c q:ZM)(n:Nat):Prop:=if t=L then h.IsTupleIter c q n else h.IsListIter c q n
def aau(t:Bool)(h:Heap)(q:ZM)(vs:Array Z3):Prop:=if t=L then h.IsTuple q vs else h.IsList q vs
def abi.obj(x:abi t h c q n):∃o,h.get? c=U o/\o.cls=.type (if t=L then "tuple_iterator" else "list_iterator")/\o.data=.fields #[.ref q,.int n 0]:=by
 cases t<;>exact x
def abi.to(x:abi t h c q n)(k:∀o,h.get? c=U o->h'.get? c=U o):abi t h' c q n:=by
 cases t<;>(obtain⟨o,e,r⟩:=x;exact⟨o,k o e,r⟩)
def aau.to(x:aau t h q vs)(k:∀o,h.get? q=U o->h'.get? q=U o):aau t h' q vs:=by
 cases t<;>(obtain⟨o,e,r⟩:=x;exact⟨o,k o e,r⟩)
section
variable{A:Za}{E:Z3->ZR->Prop}
def wg(hh:A.handled=M)(hc:s.heap.IsTupleIter c q n)(hq:s.heap.IsTuple q vs)(Kn:∀v,vs[n]?=U v->∀h',h'.IsTupleIter c q (n+1)->Heap.SameBut c s.heap h'->Q v {s with heap:=h'})(Ko:vs[n]?=M->∀h' e,Heap.ExtBut c s.heap h'->(∃o,h'.get? e=U o/\o.cls=.type "StopIteration")->E (.ref e) {s with heap:=h'}):
  wpAny (model prog w) A (Builtin.SmallTypes.nextOf (.ref c)) Q E s:=by
 have ty:=hc.typeIs;obtain⟨oc,gc,kc,dc⟩:=hc;obtain⟨oq,gq,_,m,dq⟩:=hq;unfold Builtin.SmallTypes.nextOf;refine Z_ (Yx (name:=Str.ofString "__next__") ty F.slot_tuple_iterator_next (YV F.slot_tuple_iterator_next ty F.entry_tuple_iterator_next ?body (F.args_tuple_iterator_next_1 _)));change wpAny _ _ (field (.ref c) 0 >>= _) _ E s;refine Z_ (XG gc dc (x:=.ref q) rfl ?_);change wpAny _ _ (if(Value.ref q==Value.none)=L then _ else _) _ E s;refine dM (by exact Zl) ?_;change wpAny _ _ (field (.ref c) 1 >>= _) _ E s;refine Z_ (XG gc dc (x:=.int n 0) rfl (Z_ (Yw gq dq ?_)));simp only[Int.toNat_natCast];rcases hv:vs[n]? with _|v
 .simp only[newExc,newTuple,raiseNew]
  refine Z_ (YC (Z_ (Ye gc dc (by simp) (Z_ (Z_ (Y1 ?_ (by size_fits)))))));refine Z_ (m:=firstArgMember _ _) (V_ (a:=Value.none) (by first|rfl|(simp only[firstArgMember];rfl)) (Y1 ?_ (by size_fits)));refine Z_ (wpAny_handled ?_);rw[show A.in1.handled=M from hh];exact Z_ (Z5 (wpAny_throw (Ko hv _ _ (((Ze ..).extBut.push _).push _) ⟨_,ZN _ rfl,rfl⟩)))
 refine Z_ (Ye gc dc (by simp) (Z5 ⟨v,rfl,Z5 (Kn v hv _ ⟨_,Zh _ gc (XY (Y3 dc _)),?_,?_⟩ (Ze ..))⟩));rw[Xe];exact kc;rw[Y3 dc];simp[rawInt]
def DZ(hh:A.handled=M)(hc:abi t s.heap c q n)(hq:aau t s.heap q vs)(Kn:∀v,vs[n]?=U v->∀h',abi t h' c q (n+1)->Heap.SameBut c s.heap h'->Q v {s with heap:=h'})(Ko:vs[n]?=M->∀h' e,Heap.ExtBut c s.heap h'->(∃o,h'.get? e=U o/\o.cls=.type "StopIteration")->E (.ref e) {s with heap:=h'}):
  wpAny (model prog w) A (Builtin.SmallTypes.nextOf (.ref c)) Q E s:=by
 cases t with
 |true=>exact wg hh hc hq Kn Ko
 |false=>
  rcases hv:vs[n]? with _|v;exact wpAny_nextOf_list_end hh hc hq hv (Ko hv);exact wpAny_nextOf_list_item hc hq hv (Kn v hv)
end
structure Zp (t u:Bool)(h:Heap)(z P O c d p q:ZM)(n:Nat)(f:Z3):Prop where
 zz:IsZip h z P O f
 pp:IsPair h P (.ref c) (.ref d)
 oo:∃a b,IsPair h O a b
 cc:abi t h c p n
 dd:abi u h d q n
structure Ap (z P O c d p q:ZM):Prop where
 nd:[z,P,O,c,d].Nodup
 p:p∉[z,P,O,c,d]
 q:q∉[z,P,O,c,d]
def ag(k:Heap.SameBut a h h')(n:b≠a)(e:h.get? b=U o):h'.get? b=U o:=(k.2 b n).trans e
section
variable{prog:Y0}{w:YM}{A:Za}{E:Z3->ZR->Prop}{s:ZR}
def xd{Q:Z3->ZR->Prop}(hh:A.handled=M)(ap:Ap z P O c d p q)(Z:Zp t u s.heap z P O c d p q n .none)(hp:aau t s.heap p xs)(hq:aau u s.heap q ys)(item:∀x y,xs[n]?=U x->ys[n]?=U y->∀h',Zp t u h' z P O c d p q (n+1) (rawInt s.z)->IsPair h' s.z x y->h'.objs.size=s.z+1->
   (∀b o,b∉[z,P,O,c,d]->s.heap.get? b=U o->h'.get? b=U o)->Q (.ref s.z) {s with heap:=h'}) (stop:(xs[n]?=M\/ys[n]?=M)->∀h' e,(∀b o,b∉[z,P,O,c,d]->s.heap.get? b=U o->h'.get? b=U o)->(∃o,h'.get? e=U o/\o.cls=.type "StopIteration")->E (.ref e) {s with heap:=h'}):
  wpAny (model prog w) A (Builtin.«zip.__next__» ⟨[.ref z],[]⟩) (λr s'=>∃v,r=.done (.ret v)/\Q v s') E s:=by
 obtain⟨zz,pp,⟨a,b,oo⟩,cc,dd⟩:=Z;have nd:=ap.nd;have np:=ap.p;have nq:=ap.q;simp only[YS,ZZ,Zm,YA,Xm,Yt,and_true,WX]at nd np nq;obtain⟨⟨zP,zO,zc,zd⟩,⟨PO,Pc,Pd⟩,⟨Oc,Od⟩,cd⟩:=nd;obtain⟨pz,pP,pO,pc,pd⟩:=np;obtain⟨qz,qP,qO,qc,qd⟩:=nq;change wpAny _ _ (field (.ref z) 2 >>= _) _ E s;refine Z_ (XG zz rfl (x:=.bool Y) rfl ?_);change wpAny _ _ (field (.ref z) 3 >>= _) _ E s;refine Z_ (XG zz rfl (x:=.ref P) rfl (Z_ (Yw pp rfl ?_)));change wpAny _ _ (Builtin.SmallTypes.ownedTupleIsFree (.ref z) >>= _) _ E s;unfold Builtin.SmallTypes.ownedTupleIsFree;refine Z_ (Z_ (XG zz rfl (x:=.none) rfl (Z5 ?_)));simp only[Y8];refine Z_ (YC (Z_ (XG zz rfl (x:=.ref O) rfl (Z_ (X3 zz (by simp) λJK M4 v_=>Z_ ?_)))));have Lk:IsZip JK z P O .ellipsis:=M4;simp only[List.zipIdx_cons,List.zipIdx_nil,Wt,List.forIn_nil];refine Z_ (Z_ (wpAny_onRaise ?_));change wpAny _ _ (Builtin.SmallTypes.nextOf (.ref c) >>= _) _ _ _;refine Z_ (DZ (t:=t) hh (cc.to λo e=>ag v_ (Zy zc) e) (hp.to λo e=>ag v_ pz e) (λx hx KI L8 u_=>Z5 ?_) λhx KI e u_ he=>?_);have Ot:IsPair KI O a b:=ag u_ Oc (ag v_ (Zy zO) oo);refine Z_ (Yw Ot rfl (Z_ (wpAny_updateSeq_pair Ot λMQ RF IQ=>Z_ (V8 (Z5 ?_)))));have Rg:IsPair MQ O x b:=RF;refine Z_ (Z_ (wpAny_onRaise ?_));change wpAny _ _ (Builtin.SmallTypes.nextOf (.ref d) >>= _) _ _ _;refine Z_ (DZ (t:=u) hh (dd.to λo e=>ag IQ (Zy Od) (ag u_ (Zy cd) (ag v_ (Zy zd) e))) (hq.to λo e=>ag IQ qO (ag u_ qc (ag v_ qz e))) (λy hy F_ M7 Iw=>Z5 ?_) λhy F_ e Iw he=>?_);have Oq:IsPair F_ O x b:=ag Iw Od Rg;refine Z_ (Yw Oq rfl (Z_ (wpAny_updateSeq_pair Oq λIC RE JJ=>Z_ (V8 (Z5 (Z5 ?_))))));have Oo:IsPair IC O x y:=RE;have old:∀f o,f≠z->f≠O->f≠c->f≠d->s.heap.get? f=U o->IC.get? f=U o:=λf o n1 n2 n3 n4 e=>ag JJ n2 (ag Iw n4 (ag IQ n2 (ag u_ n3 (ag v_ n1 e))));have sz:IC.objs.size=s.z:=by rw[JJ.1,Iw.1,IQ.1,u_.1,v_.1]
 have Of:IsZip IC z P O .ellipsis:=ag JJ zO (ag Iw zd (ag IQ zO (ag u_ zc Lk)));refine Z_ (Yw Oo rfl (Z_ (V9 ?_)));have Rb:IsZip (IC.push {cls:=.type "tuple",data:=.seq #[x,y]}) z P O .ellipsis:=Z4 _ Of;change wpAny _ _ (Builtin.SmallTypes.ownedTupleHandOut (.ref z) (.ref IC.objs.size) >>= _) _ E _;unfold Builtin.SmallTypes.ownedTupleHandOut;refine Z_ (Z_ (X3 Rb (by simp) λRk RD MP=>?_));have Ra:IsZip Rk z P O (rawInt IC.objs.size):=RD;refine X3 Ra (by simp) λLm RC MO=>Z5 ⟨_,rfl,?_⟩;have Oe:IsZip Lm z P O (rawInt IC.objs.size):=RC;have up:∀f o,f≠z->IC.get? f=U o->Lm.get? f=U o:=λf o n1 e=>ag MO n1 (ag MP n1 (Z4 _ e));have lz:=ZQ Of;have new:IsPair Lm IC.objs.size x y:=ag MO (Nat.ne_of_gt lz) (ag MP (Nat.ne_of_gt lz) (ZN _ rfl));have NM:Lm.objs.size=IC.objs.size+1:=by rw[MO.1,MP.1,YE]
 change Q (.ref IC.objs.size) _;rw[sz]at Oe new NM⊢;refine item x y hx hy Lm ⟨Oe,up _ _ (Zy zP) (old _ _ (Zy zP) PO Pc Pd pp),⟨x,y,up _ _ (Zy zO) Oo⟩,?_,?_⟩ new NM λf o hf e=>?_;exact L8.to λo e=>up _ o (Zy zc) (ag JJ (Zy Oc) (ag Iw cd (ag IQ (Zy Oc) e)));exact M7.to λo e=>up _ o (Zy zd) (ag JJ (Zy Od) e);simp only[ZZ,Zm,YA,Xm]at hf;exact up f o hf.1 (old f o hf.1 hf.2.2.1 hf.2.2.2.1 hf.2.2.2.2 e);obtain⟨oe,ge,ke⟩:=he;have LY:IsZip F_ z P O .ellipsis:=Iw _ _ zd (ag IQ zO (ag u_ zc Lk));have ez:e≠z:=λr=>by rw[r]at ge;rw[LY]at ge;obtain rfl:=Z7 ge;simp at ke
 refine X3 LY (by simp) λIC _ JJ=>stop (.inr hy) IC e (λf o hf g=>?_) ⟨oe,ag JJ ez ge,ke⟩;simp only[ZZ,Zm,YA,Xm]at hf;obtain⟨n1,_,n2,n3,n4⟩:=hf;exact ag JJ n1 (Iw _ _ n4 (ag IQ n2 (ag u_ n3 (ag v_ n1 g))));obtain⟨oe,ge,ke⟩:=he;have Og:IsZip KI z P O .ellipsis:=u_ _ _ zc Lk;have ez:e≠z:=λr=>by rw[r]at ge;rw[Og]at ge;obtain rfl:=Z7 ge;simp at ke
 refine X3 Og (by simp) λMQ _ IQ=>stop (.inl hx) MQ e (λf o hf g=>?_) ⟨oe,ag IQ ez ge,ke⟩;simp only[ZZ,Zm,YA,Xm]at hf;exact ag IQ hf.1 (u_ _ _ hf.2.2.2.1 (ag v_ hf.1 g))
end
variable[Lams]
section
variable{h':Heap}
def Inv.abN{t':Nat}{fp:Z9 ZM}{T:ZM}{o:HO}(I:Inv X pins σ H s)(k:∀b u,b∉fp->s.heap.get? b=U u->h'.get? b=U u)(hf:∀b∈fp,fq X pins H b)
  (hT:s.z<=T)(new:aam X.prog X.w (upd H T o) h' T o):Inv X pins σ (upd H T o) {s with heap:=h',toks:=t'}:=by
 have hn:H T=M:=I.hok.fresh hT;have JG:∀b u,H b=U u->b∉fp:=λb u e z=>by rw[(hf b z).1]at e;trivial
 have lo:∀b u,s.heap.get? b=U u->b≠T:=λb u e=>Zt (ZA (ZQ e) hT);refine I.step (g':=s.gens) (d':=s.drawn) (ch:=fp) (λb hb=>?_) (λb u _ _ hc e _=>k b u hc e) (λb u _ _ hc e _=>⟨u.slots,k b u hc e⟩) (λb u _ e n=>by rw[ai (lo b u e)];exact n)
  (λb u hc e=>⟨u,k b u hc e⟩) (λb xs e=>by rw[ai (av e hn)];exact e) (λb u v e=>by rw[ai (av e hn)];exact e) (λb lq ps e=>⟨#[],by rw[ai (av e hn),e];simp⟩) (λm hm=>?_) (λb u e=>?_) I.bare
 obtain⟨_,f1,_,f3,f4,f5⟩:=hf b hb;exact⟨f3,f1,f4,f5⟩;obtain⟨ob,es,ep,ho,r⟩:=hm;exact⟨ob,es,ep,k _ ob (λz=>(hf _ z).2.1 rfl) ho,r⟩;by_cases hb:b=T;subst hb;rw[ah]at e;obtain rfl:=Z7 e;exact new;rw[ai hb]at e;refine(I.hok b u e).abl (λc v hc q=>k c v ?_ q) (λc q=>by rw[ai (av q hn)];exact q) λc xs q=>by rw[ai (av q hn)];exact q
 rcases hc with z|z;rw[z];exact JG b u e;exact JG c _ z
def Inv.turns{t':Nat}{fp:Z9 ZM}(I:Inv X pins σ H s)(k:∀b u,b∉fp->s.heap.get? b=U u->h'.get? b=U u)(hf:∀b∈fp,fq X pins H b):Inv X pins σ H {s with heap:=h',toks:=t'}:=by
 have JG:∀b u,H b=U u->b∉fp:=λb u e z=>by rw[(hf b z).1]at e;trivial
 refine I.step (g':=s.gens) (d':=s.drawn) (ch:=fp) (λb hb=>?_) (λb u _ _ hc e _=>k b u hc e) (λb u _ _ hc e _=>⟨u.slots,k b u hc e⟩) (λb u _ e n=>n)
  (λb u hc e=>⟨u,k b u hc e⟩) (λb xs e=>e) (λb u v e=>e) (λb lq ps e=>⟨#[],by rw[e];simp⟩) (λm hm=>?_) (λb u e=>?_) I.bare
 obtain⟨_,f1,_,f3,f4,f5⟩:=hf b hb;exact⟨f3,f1,f4,f5⟩;obtain⟨ob,es,ep,ho,r⟩:=hm;exact⟨ob,es,ep,k _ ob (λz=>(hf _ z).2.1 rfl) ho,r⟩;refine(I.hok b u e).abl (λc v hc q=>k c v ?_ q) (λ_ q=>q) λ_ _ q=>q;rcases hc with z|z
 rw[z];exact JG b u e;exact JG c _ z
end
def SqV(t:Bool)(K:Z6)(H:Hp)(a:ZM)(xs:Z9 V):Prop:=if t=L then SqT K H a xs else SqL K H a xs
section
variable{A:Za}
def jo(hh:A.handled=M)(ap:Ap z P O c d p q)(Z:Zp t u s.heap z P O c d p q n .none)(hp:aau t s.heap p xs)(hq:aau u s.heap q ys)(item:∀x y,xs[n]?=U x->ys[n]?=U y->∀h',Zp t u h' z P O c d p q (n+1) (rawInt s.z)->IsPair h' s.z x y->h'.objs.size=s.z+1->
   (∀b o,b∉[z,P,O,c,d]->s.heap.get? b=U o->h'.get? b=U o)->Q (U (.ref s.z)) {s with heap:=h'}) (stop:(xs[n]?=M\/ys[n]?=M)->∀h',(∀b o,b∉[z,P,O,c,d]->s.heap.get? b=U o->h'.get? b=U o)->Q M {s with heap:=h'}):
  wpAny (model prog w) A (pyNext (.ref z)) Q E s:=by
 have ty:s.TypeIs (.ref z) "zip":=⟨_,Z.zz,rfl⟩;unfold pyNext;refine Z_ (XO (Yx (name:=Str.ofString "__next__") ty Wc (YV Wc ty F.entry_zip_next (xd hh ap Z hp hq (λx y hx hy h' b1 b2 b3 b4=>Z5 (item x y hx hy h' b1 b2 b3 b4)) λhn h' e k he=>?_) (F.args_zip_next_1 _))));obtain⟨o,ho,hc⟩:=he;exact Z_ (X5 (T:="StopIteration") (b:=L) ⟨o,ho,hc⟩ WK (Z5 (stop hn h' k)))
end
section
def Inv.abB(I:Inv X pins σ H s)(h:SqV t X.K H a xs):∃its,aab xs its/\aau t s.heap a its.toArray:=by
 cases t with
 |true=>obtain⟨its,rv,p,_⟩:=I.tuple h;exact⟨its,rv,p⟩
 |false=>obtain⟨its,rv,p,_⟩:=I.list h;exact⟨its,rv,p.isList⟩
def Inv.abA(I:Inv X pins σ H s)(h:SqV t X.K H a xs)(h':SqV t X.K H a ys):xs=ys:=by
 cases t with
 |true=>exact I.aaW h h'
 |false=>exact I.aaN h h'
end
noncomputable def Itz(t u:Bool)(K:Z6)(p q:ZM):It:=
 ⟨λi H=>∃xs ys x y,SqV t K H p xs/\SqV u K H q ys/\xs[i]?=U x/\ys[i]?=U y,
  λi H v H'=>∃T x y,H T=M/\v=.ref T/\H'=upd H T (.tup [x,y])/\(∀xs,SqV t K H p xs->xs[i]?=U x)/\∀ys,SqV u K H q ys->ys[i]?=U y,
  λi H=>∃xs ys,SqV t K H p xs/\SqV u K H q ys/\(xs.length<=i\/ys.length<=i)⟩
def vE{x1}(ap:Ap z Pr O c d p q):
  Turn P w K (.Tuple elts x1 pos) (Itz t u K p q) [z,Pr,O,c,d] z (λn h=>Zp t u h z Pr O c d p q n .none) where
 mem:=by simp
 obj:=λi h st b hb=>by
  obtain⟨zz,pp,⟨a,a',oo⟩,cc,dd⟩:=st;simp only[ZZ,Zm,YA]at hb;rcases hb with rfl|rfl|rfl|rfl|rfl;exact⟨_,zz,λv e=>by cases e⟩;exact⟨_,pp,λv e=>by cases e⟩;exact⟨_,oo,λv e=>by cases e⟩;obtain⟨o,e,_,hd⟩:=cc.obj;exact⟨o,e,λv e'=>by rw[hd]at e';cases e'⟩;obtain⟨o,e,_,hd⟩:=dd.obj;exact⟨o,e,λv e'=>by rw[hd]at e';cases e'⟩
 keep:=λi h h' st k=>by
  obtain⟨zz,pp,⟨a,a',oo⟩,cc,dd⟩:=st;exact⟨k z (by simp) _ zz,k Pr (by simp) _ pp,⟨a,a',k O (by simp) _ oo⟩,cc.to λo e=>k c (by simp) o e,dd.to λo e=>k d (by simp) o e⟩
 item:=by
  intro X hP hw hK hc i pins s σ H E I hf st hg;subst hP hw hK;obtain⟨xs,ys,x,y,h1,h2,hx,hy⟩:=hg;obtain⟨is,ri,sp⟩:=I.abB h1;obtain⟨js,rj,sq⟩:=I.abB h2;obtain⟨ux,e1,r1⟩:=ri.get hx;obtain⟨uy,e2,r2⟩:=rj.get hy;refine jo (I.ok.hd hc) ap st sp sq (λvx vy Nz Ny h' Z' new sz k=>?_) λhn=>?_;have ex:vx=ux:=by simp at Nz;rw[e1]at Nz;exact(Z7 Nz).symm
  have ey:vy=uy:=by simp at Ny;rw[e2]at Ny;exact(Z7 Ny).symm
  subst ex ey;refine⟨_,rfl,?_⟩;have hT:H s.z=M:=I.hok.fresh (ZU _);have nT:∀b∈[z,Pr,O,c,d],b≠s.z:=λb hb e=>by
   obtain⟨o,g,_⟩:=(show ∀b∈[z,Pr,O,c,d],∃o,s.heap.get? b=U o/\∀v,o.data≠.cell v from λb hb=>by
    obtain⟨zz,pp,⟨a,a',oo⟩,cc,dd⟩:=st;simp only[ZZ,Zm,YA]at hb;rcases hb with rfl|rfl|rfl|rfl|rfl;exact⟨_,zz,λv e=>by cases e⟩;exact⟨_,pp,λv e=>by cases e⟩;exact⟨_,oo,λv e=>by cases e⟩;obtain⟨o,e,_,hd⟩:=cc.obj;exact⟨o,e,λv e'=>by rw[hd]at e';cases e'⟩;obtain⟨o,e,_,hd⟩:=dd.obj;exact⟨o,e,λv e'=>by rw[hd]at e';cases e'⟩) b hb
   rw[e]at g;exact absurd (ZQ g) (Zc _)
  have I1:Inv X pins σ (upd H s.z (.tup [x,y])) {s with heap:=h'}:=I.abN (t':=s.toks) k hf (ZU _) ⟨by show 2<=sizeLine;decide,[vx,vy],.cons r1 (.cons r2 .nil),⟨_,new,rfl,_,rfl⟩⟩;obtain⟨zz,pp,oo,cc,dd⟩:=Z';have nd:=ap.nd;simp only[YS,ZZ,Zm,YA,Xm,Yt,and_true,WX]at nd;refine wpAny_letOwnedTupleGo_zip zz λg2 z2 m2=>?_;have hz:=hf z (by simp);refine⟨.ref s.z,upd H s.z (.tup [x,y]),I1.turned (t':=s.toks) (λb o hb e=>ag m2 hb e) (by rw[ai (nT z (by simp))];exact hz.1) hz.2.1 hz.2.2.2.1 hz.2.2.2.2.1 hz.2.2.2.2.2,rfl,
   ⟨s.z,x,y,hT,rfl,rfl,λxs' h=>by rw[I.abA h h1];exact hx,λUe h=>by rw[I.abA h h2];exact hy⟩,?_,λb hb=>by rw[ai (nT b hb)];exact(hf b hb).1⟩
  obtain⟨a,a',oo⟩:=oo;exact⟨z2,ag m2 (Zy nd.1.1) pp,⟨a,a',ag m2 (Zy nd.1.2.1) oo⟩,cc.to λo e=>ag m2 (Zy nd.1.2.2.1) e,dd.to λo e=>ag m2 (Zy nd.1.2.2.2) e⟩;exfalso;rcases hn with hn|hn;simp at hn;have:=(ZP.mp e1).1;lia;simp at hn;have:=(ZP.mp e2).1;lia
 done:=by
  intro X hP hw hK hc i pins s σ H E I hf st hg;subst hP hw hK;obtain⟨xs,ys,h1,h2,hl⟩:=hg;obtain⟨is,ri,sp⟩:=I.abB h1;obtain⟨js,rj,sq⟩:=I.abB h2;have l1:=ri.length;have l2:=rj.length;refine jo (I.ok.hd hc) ap st sp sq (λvx vy Nz Ny h' Z' new sz k=>?_) λhn h' k=>⟨rfl,I.turns (t':=s.toks) k hf⟩
  exfalso;simp at Nz Ny;have a1:=(ZP.mp Nz).1;have a2:=(ZP.mp Ny).1;lia
 self:=λ_ _ _ _ _ st h=>wpAny_pyIter_zip st.zz h
open PySem.Spec PyProof.Rows
def itO(t:Bool)(p:ZM):Obj:={cls:=.type (if t=L then "tuple_iterator" else "list_iterator"),data:=.fields #[.ref p,.int 0 0]}
def eF(hp:aau t s.heap p xs)(h:Q (.ref s.z) {s with heap:=s.heap.push (itO t p)}):wpAny (model prog w) A (pyIter (.ref p)) Q E s:=by
 cases t with
 |true=>exact wpAny_pyIter_tuple hp h
 |false=>exact Xf hp h
def zO(a b:Z3):Obj:={cls:=.type "tuple",data:=.seq #[a,b]}
noncomputable def vQ(t u:Bool)(h:Heap)(p q:ZM):Heap:=
 ((((h.push (itO t p)).push (itO u q)).push (zO (.ref h.objs.size) (.ref (h.push (itO t p)).objs.size))).push (zO .none .none)).push
  {cls:=.type "zip",data:=.fields #[.none,.bool Y,.bool Y,.ref ((h.push (itO t p)).push (itO u q)).objs.size,.ref (((h.push (itO t p)).push (itO u q)).push (zO (.ref h.objs.size) (.ref (h.push (itO t p)).objs.size))).objs.size]}
def zu(t u:Bool)(p q:ZM)(xs ys:Array Z3):
  Meets (Builtin.«zip.__new__» ⟨[.type "zip",.ref p,.ref q],[]⟩) (λ_ R s=>aau t s.heap p xs/\aau u s.heap q ys/\
   R (.ok (.ret (.ref (((((s.heap.push (itO t p)).push (itO u q)).push (zO (.ref s.z) (.ref (s.heap.push (itO t p)).objs.size))).push (zO .none .none)).objs.size)))) {s with heap:=vQ t u s.heap p q}):=
 .of_wp λprog w A R s h=>by
  obtain⟨hp,g,d,tk,os⟩:=s;obtain⟨h1,h2,h⟩:=h;have Lo:=sub_zip;have k1:aau t (Shared.heap ⟨hp,g,d,tk,os⟩) p xs:=h1;have k2:aau u (Shared.heap ⟨hp.push (itO t p),g,d,tk,os⟩) q ys:=h2.to λo e=>Z4 _ e
  wp_walk using eF k1,eF k2
  exact⟨_,rfl,h⟩
def oE(hp:aau t s.heap p xs)(hq:aau u s.heap q ys)(h:∀z P O c d h',Ap z P O c d p q->Zp t u h' z P O c d p q 0 .none->(∀b∈[z,P,O,c,d],s.z<=b)->(∀b o,s.heap.get? b=U o->h'.get? b=U o)->Q (.ref z) {s with heap:=h'}):
  wpAny (model prog w) A (call (.type "zip") [.ref p,.ref q]) Q E s:=by
 refine callType_new F.called_zip (by decide) (F.typeCall_zip_2 _ _) (F.newCall_zip_2 _ _) (λobj=>F.args_object_init_3 obj _ _) F.entry_zip_new (zu t u p q xs ys) ⟨hp,hq,?_⟩;have lp:p<s.z:=by cases t<;>(obtain⟨o,e,_⟩:=hp;exact ZQ e)
 have lq:q<s.z:=by cases u<;>(obtain⟨o,e,_⟩:=hq;exact ZQ e)
 generalize e1:s.heap.push (itO t p)=k1;generalize e2:k1.push (itO u q)=k2;generalize e3:k2.push (zO (.ref s.z) (.ref k1.objs.size))=k3;generalize e4:k3.push (zO .none .none)=k4;have hL:vQ t u s.heap p q=k4.push {cls:=.type "zip",data:=.fields #[.none,.bool Y,.bool Y,.ref k2.objs.size,.ref k3.objs.size]}:=by unfold vQ;rw[e1,e2,e3,e4]
 have s1:k1.objs.size=s.z+1:=by rw[<-e1];exact YE ..
 have s2:k2.objs.size=s.z+2:=by rw[<-e2,YE,s1]
 have s3:k3.objs.size=s.z+3:=by rw[<-e3,YE,s2]
 have s4:k4.objs.size=s.z+4:=by rw[<-e4,YE,s3]
 have u1:∀{b o},s.heap.get? b=U o->k1.get? b=U o:=λe=>by rw[<-e1];exact Z4 _ e
 have u2:∀{b o},k1.get? b=U o->k2.get? b=U o:=λe=>by rw[<-e2];exact Z4 _ e
 have u3:∀{b o},k2.get? b=U o->k3.get? b=U o:=λe=>by rw[<-e3];exact Z4 _ e
 have u4:∀{b o},k3.get? b=U o->k4.get? b=U o:=λe=>by rw[<-e4];exact Z4 _ e
 have u5:∀{b o},k4.get? b=U o->(vQ t u s.heap p q).get? b=U o:=λe=>by rw[hL];exact Z4 _ e
 have z5:IsZip (vQ t u s.heap p q) k4.objs.size k2.objs.size k3.objs.size .none:=by rw[hL];exact ZN _ rfl
 have o5:IsPair (vQ t u s.heap p q) k3.objs.size .none .none:=u5 (by rw[<-e4];exact ZN _ rfl);have p5:IsPair (vQ t u s.heap p q) k2.objs.size (.ref s.z) (.ref k1.objs.size):=u5 (u4 (by rw[<-e3];exact ZN _ rfl));have d5:(vQ t u s.heap p q).get? k1.objs.size=U (itO u q):=u5 (u4 (u3 (by rw[<-e2];exact ZN _ rfl)));have c5:(vQ t u s.heap p q).get? s.z=U (itO t p):=u5 (u4 (u3 (u2 (by rw[<-e1];exact ZN _ rfl))));refine⟨⟨_,z5,rfl⟩,h k4.objs.size k2.objs.size k3.objs.size s.z k1.objs.size _ ⟨?_,?_,?_⟩ ⟨z5,p5,⟨_,_,o5⟩,?_,?_⟩ ?_ λb o e=>u5 (u4 (u3 (u2 (u1 e))))⟩
 .rw[s1,s2,s3,s4]
  simp only[YS,ZZ,Zm,YA,Xm,Yt,and_true,WX];refine⟨⟨?_,?_,?_,?_⟩,⟨?_,?_,?_⟩,⟨?_,?_⟩,?_⟩<;>(intro e;have e':(_:Nat)=_:=e;lia)
 rw[s1,s2,s3,s4];simp only[ZZ,Zm,YA,Xm];have JG:∀k:Nat,p≠s.z+k:=λk=>Zt (ZA lp (Nat.le_add_right _ k));exact⟨JG 4,JG 2,JG 3,JG 0,JG 1⟩;rw[s1,s2,s3,s4];simp only[ZZ,Zm,YA,Xm];have JG:∀k:Nat,q≠s.z+k:=λk=>Zt (ZA lq (Nat.le_add_right _ k));exact⟨JG 4,JG 2,JG 3,JG 0,JG 1⟩
 .cases t<;>exact⟨_,c5,rfl,rfl⟩
 .cases u<;>exact⟨_,d5,rfl,rfl⟩
 .rw[s1,s2,s3,s4]
  intro b hb;simp only[ZZ,Zm,YA]at hb;have:(s.z:Nat)<=(b:Nat):=by rcases hb with rfl|rfl|rfl|rfl|rfl<;>lia
  exact this
section
noncomputable def HA(t u:Bool)(K:Z6)(ta:TA):TI:=λσ H R=>ta σ H λvs H1=>∃p q,vs=[.ref p,.ref q]/\(∃xs,SqV t K H1 p xs)/\(∃ys,SqV u K H1 q ys)/\R (Itz t u K p q) H1
def BG(hg:Gl X "zip")(hm:X.mg "zip"=M)(ha:PA X [a,b] ta)(hs:starEach [a,b] X.env=[(Y,eval a X.env),(Y,eval b X.env)]:=by rfl)(Jq:starEach [b] X.env=[(Y,eval b X.env)]:=by rfl):
  PI X (.Tuple elts x1 tp) (.Call (.Name "zip" p) [a,b] [] pos) (HA t u X.K ta):=by
 intro pins s σ H R I h;refine Call_ (fA I hg hm boot_zip (Yp (thn (ha pos pins s σ H _ I h) λus s1 ⟨vs,H1,I1,r1,q1⟩=>?_) (by rw[hs,Jq]) (by rw[Jq];rfl)));obtain⟨l1,l2,e,⟨xs,h1⟩,⟨ys,h2⟩,q⟩:=q1;subst e;cases r1 with
 |cons r rr=>
  cases rr with
  |cons r' rr=>
   cases rr;cases r;cases r';obtain⟨is,ri,sp⟩:=I1.abB h1;obtain⟨js,rj,sq⟩:=I1.abB h2;refine oE sp sq λz P O c d h' ap Z hi k=>?_;have I2:Inv X pins σ H1 {s1 with heap:=h'}:=I1.kept (t':=s1.toks) k;refine wpAny_pyIter_zip (s:={s1 with heap:=h'}) Z.zz ⟨z,[z,P,O,c,d],_,_,H1,rfl,I2,vE ap,Z,λb hb=>?_,q⟩;have hn:H1 b=M:=I1.hok.fresh (hi b hb);obtain⟨f0,f1,f2,f3,f4,f5⟩:=I1.abm (hi b hb) hn;exact⟨f0,f1,f2,f3,f4,f5⟩
def cz:Z9 D->Z9 D->Z9 D
 |d::ds,e::es=>.tup [d,e]::cz ds es
 |_,_=>[]
theorem kK:∀(ds es:Z9 D)(i:Nat)(x:D),(cz ds es)[i]?=U x->∃d e,ds[i]?=U d/\es[i]?=U e/\x=.tup [d,e]
 |[],_,i,x,h=>by simp[cz]at h
 |d::ds,[],i,x,h=>by simp[cz]at h
 |d::ds,e::es,0,x,h=>by simp[cz]at h;exact⟨d,e,rfl,rfl,h.symm⟩
 |d::ds,e::es,i+1,x,h=>by simp[cz]at h;simpa using kK ds es i x h
theorem fY:∀ds es:Z9 D,(cz ds es).length=min ds.length es.length
 |[],_=>by simp[cz]
 |d::ds,[]=>by simp[cz]
 |d::ds,e::es=>by simp[cz,fY ds es]
def DQ(t:Bool)(x:Z8 D):Z8 (Z9 D):=if t=L then yZ x else b9 x
def Bz(t u:Bool)(x y:Z8 D):Z8 (Z9 D):=ae (DQ t x) λds=>ae (DQ u y) λes=>U (cz ds es)
def fI{K:Z6}{B:ZM->Prop}{H:Hp}{t:Bool}{x:Z8 D}{ds:Z9 D}{v:V}{d:D}(h:DQ t x=U ds)(e:x=U d)(r:Rep K B H d v):∃l xs,v=.ref l/\M1 K B H ds xs/\∀H',Ext B H H'->SqV t K H' l xs:=by
 cases t with
 |true=>
  have:=lh h;rw[e]at this;obtain rfl:=Z7 this;simp only[Rep]at r;obtain⟨l,xs,rfl,hq,rs⟩:=r;exact⟨l,xs,rfl,rs,λH' x=>SqT.of (x.aaZ _ _ hq)⟩
 |false=>
  have:=kj h;rw[e]at this;obtain rfl:=Z7 this;simp only[Rep]at r;obtain⟨l,xs,rfl,hq,rs⟩:=r;exact⟨l,xs,rfl,rs,λH' x=>(hq.ext x).sq⟩
theorem Dg{t u m:Bool}{a b:Expr}{fa fb:Mk->Z8 D}{p pos:Pos}(g:Gl X "zip")(hm:X.mg "zip"=M)(h:DE X m a fa)(h':DE X m b fb)(hs:starEach [a,b] X.env=[(Y,eval a X.env),(Y,eval b X.env)]:=by rfl)(Jq:starEach [b] X.env=[(Y,eval b X.env)]:=by rfl):
  DI X m (.Tuple elts x1 tp) (.Call (.Name "zip" p) [a,b] [] pos) (λO=>Bz t u (fa O) (fb O)):=
 (BG (t:=t) (u:=u) g hm (ay h (ay h' aQ Jq) (by rw[hs,Jq])) hs Jq).imp λσ H Q hz=>by
  obtain⟨B,Hk,O,ds,R,e,k⟩:=hz;obtain⟨as,q1,e⟩:=ak e;obtain⟨bs,q2,e⟩:=ak e;obtain rfl:=Z7 e;obtain⟨d1,e1⟩:∃d,fa O=U d:=by
   cases q:fa O with
   |none=>rw[q]at q1;cases t<;>trivial
   |some d=>exact⟨d,rfl⟩
  obtain⟨d2,e2⟩:∃d,fb O=U d:=by
   cases q:fb O with
   |none=>rw[q]at q2;cases u<;>trivial
   |some d=>exact⟨d,rfl⟩
  refine two R e1 e2 λv w H' s R' r1 r2=>?_;obtain⟨l1,xs,rfl,O3,O0⟩:=fI q1 e1 r1;obtain⟨l2,ys,rfl,Lf,OZ⟩:=fI q2 e2 r2;refine⟨l1,l2,rfl,⟨xs,O0 _ Ext.refl⟩,⟨ys,OZ _ Ext.refl⟩,k _ H' s λH2 x=>?_⟩;have hx:=O0 H2 x;have hy:=OZ H2 x;have rx:=O3.ext x;have ry:=Lf.ext x;refine⟨⟨xs,ys,hx,hy,?_⟩,λi d hd=>?_⟩;rw[fY,<-rx.length,<-ry.length];lia;obtain⟨d1,d2,g1,g2,rfl⟩:=kK _ _ _ _ hd;obtain⟨y1,w1,z1⟩:=rx.get g1;obtain⟨y2,w2,z2⟩:=ry.get g2;refine⟨⟨xs,ys,y1,y2,hx,hy,w1,w2⟩,λv H3 ⟨T,v1,v2,hT,ev,e3,n1,n2⟩=>?_⟩;have:=n1 xs hx;rw[w1]at this;obtain rfl:=Z7 this;have:=n2 ys hy;rw[w2]at this;obtain rfl:=Z7 this;have sm:aad H2 (upd H2 T (.tup [y1,y2])):=ar hT;have bo:∀a,ba m B O σ a->∃o:HOn,H2 a=U o.1:=λa ha=>by
   obtain⟨o,ho⟩:=R'.bsH m a ha;exact⟨o,(x.abE a ha).trans ho⟩
  have ex:=sm.ext bo;rw[e3,ev];refine⟨sm,?_⟩;simp only[Rep];exact⟨T,[y1,y2],rfl,ah,M1.cons (z1.ext ex) (M1.cons (z2.ext ex) M1.nil)⟩
end
end L2
namespace L2
open PySem PySem.Spec PyProof.Rows
def uS:Z9 Str->Z9 Str
 |[]=>[]
 |x::l=>if x∈l then uS l else x::uS l
theorem hZ(x:Str):∀l:Z9 Str,x∈uS l↔x∈l
 |[]=>Iff.rfl
 |d::l=>by
  unfold uS;split;rename_i h;rw[hZ x l,ZZ];exact⟨.inr,λz=>z.elim (λe=>e▸h) id⟩;rw[ZZ,ZZ,hZ x l]
theorem dQ:∀l:Z9 Str,(uS l).Nodup
 |[]=>Yt
 |d::l=>by
  unfold uS;split;exact dQ l;rename_i h;exact YS.mpr ⟨λz=>h ((hZ d l).mp z),dQ l⟩
theorem sG:∀l:Z9 Str,(uS l).length<=l.length
 |[]=>ZU _
 |d::l=>by
  have:=sG l;unfold uS;split<;>simp<;>lia
section
end
variable[Lams]
theorem Inv.drawn(I:Inv X pins σ H s)(d:Drawn):Inv X pins σ H {s with drawn:=d}:=
 ⟨I.ok,I.os,I.bare,I.base,I.loc,I.cell,I.free,I.aaR,I.pin,I.hok,I.len⟩
@[simp] theorem aak:lim=1000000:=by decide
@[simp] theorem PK {q O:Type}(a:q)(f:q->Z8 O):ae (U a) f=f a:=(rfl)
@[simp] theorem aat (d:D)(b:Bool):shO (U (d,b))=U d:=(rfl)
@[simp] theorem aao (ds:Z9 D):frO (U (.lst ds,L))=U (.lst ds):=(rfl)
@[simp] theorem VV (a:D)(l:Z9 D):aa (U a) (U l)=U (a::l):=(rfl)
@[simp] theorem aae (q:Mk)(k:Mk->Z8 Out):aG (U (.next q)) k=k q:=(rfl)
@[simp] theorem acO (d:D)(b:Bool)(k:Mk->Z8 Out):aG (U (.ret d b)) k=U (.ret d b):=(rfl)
@[simp] theorem abF (x y:Z8 Out):ifO (U L) x y=x:=(rfl)
@[simp] theorem aa1 (x y:Z8 Out):ifO (U Y) x y=y:=(rfl)
@[simp] theorem abf (d:D):d9 (U d)=U (.ret d Y):=(rfl)
@[simp] theorem abg (d:D):dJ (U d)=U (.ret d L):=(rfl)
@[simp] theorem aa4 (d:D)(b:Bool):jP (U (.ret d b))=U (d,b):=(rfl)
@[simp] theorem aaF (q:Mk):aaz q=U (.next q):=(rfl)
@[simp] theorem aal (i:Nat)(d:D)(q:Mk)(h:i<q.length):bx i (U d) q=U (.next (q.set i (U (d,Y)))):=by unfold bx;simp only[ZO h]
@[simp] theorem aaA (i:Nat)(d:D)(q:Mk)(h:i<q.length):eM i (U d) q=U (.next (q.set i (U (d,L)))):=by unfold eM;simp only[ZO h]
@[simp] theorem aac (i:Nat)(d:D)(q:Mk)(h:i<q.length):af i d q=U (q.set i (U (d,Y))):=by unfold af;simp only[ZO h]
@[simp] theorem aaP (q:Z9 D->Mk->Z8 Mk)(ds:Z9 D)(O:Mk):be q (.tup ds) O=q ds O:=(rfl)
@[simp] theorem aay (q:D->Mk->Z8 Mk)(O:Z9 D->Mk->Z8 Mk)(d:D)(ds:Z9 D)(Z:Mk):aj q O (d::ds) Z=ae (q d Z) (O ds):=(rfl)
@[simp] theorem aaE (q:Mk):aan [] q=U q:=(rfl)
@[simp] theorem aaB (i j:Int):eL (U (.int i)) (U (.int j))=U (.int (i+j)):=(rfl)
@[simp] theorem acN (i j:Int):DU (U (.int i)) (U (.int j))=U (.int (i - j)):=(rfl)
@[simp] theorem aa5 (i j:Int)(h:(-(2 ^ 64)<i/\i<2 ^ 64)\/(-(2 ^ 64)<j/\j<2 ^ 64)):tq (U (.int i)) (U (.int j))=U (.int (i*j)):=AF (by unfold F9;exact Zu h)
@[simp] theorem aap (i j:Int)(h:0<j):dv (U (.int i)) (U (.int j))=U (.int (i%j)):=AF (by unfold Gd;exact Zu h)
@[simp] theorem aca (i j:Int)(h:0<j/\j<1073741824):AN (U (.int i)) (U (.int j))=U (.int (i / j)):=AF (by unfold FL;exact Zu h)
@[simp] theorem aax (ds:Z9 D)(h:ds.length<=lim):dO (U ds)=U (.tup ds):=by unfold dO;simp only[ZO h]
@[simp] theorem aas (ds:Z9 D)(h:ds.length<=lim):cF (U ds)=U (.lst ds):=by unfold cF;simp only[ZO h]
@[simp] theorem aaj (ds:Z9 D):am (U ds)=U (.lst ds):=(rfl)
@[simp] theorem aai (ds:Z9 D):b9 (U (.lst ds))=U ds:=(rfl)
@[simp] theorem abY (ds:Z9 D):yZ (U (.tup ds))=U ds:=(rfl)
@[simp] theorem abd (ds:Z9 D):c8 (U (.lst ds))=U (.tup ds):=(rfl)
@[simp] theorem abR (ds:Z9 D):jh (U (.lst ds))=U (.lst ds):=(rfl)
@[simp] theorem abL (ds:Z9 D):mq (U (.lst ds))=U (.int ds.length):=(rfl)
@[simp] theorem ab8 (ds:Z9 D):mq (U (.tup ds))=U (.int ds.length):=(rfl)
@[simp] theorem abr (ds:Z9 D)(i:Int):ixO (U (.lst ds)) (U (.int i))=atI ds i:=(rfl)
@[simp] theorem ab9 (ds:Z9 D)(i:Int):ixO (U (.tup ds)) (U (.int i))=atI ds i:=(rfl)
@[simp] theorem aa0 (i:Int):eQ (U (.int i))=U (U i):=(rfl)
@[simp] theorem aa2 (ds:Z9 D)(l u:Z8 Int):g9 (U (.lst ds)) (U l) (U u)=U (.lst (nA ds l u)):=(rfl)
@[simp] theorem abw (z:Str)(l u:Z8 Int)(h:z.length<=lim):ny (U (.str z)) (U l) (U u)=U (.str (vh z l u)):=by unfold ny;simp only[ZO h]
@[simp] theorem abM (x y:Str)(h:x.length+y.length<=lim):Ba (U (.str x)) (U (.str y))=U (.str (x++y)):=by unfold Ba;simp only[ZO h]
@[simp] theorem acL (x y:Str):vY (U (.str x)) (U (.str y))=U (.int (Txt.find x y)):=(rfl)
@[simp] theorem aaU (x y:Z9 D)(h:x.length+y.length<=lim):lO (U (.lst x)) (U (.lst y))=U (.lst (x++y)):=by unfold lO;simp only[ZO h]
@[simp] theorem abu (b:Bool):g8 (U b)=U (!b):=(rfl)
@[simp] theorem aco (b:Bool):tyB (U (.bl b))=U b:=(rfl)
@[simp] theorem ab5 (b:Bool):ofB (U b)=U (.bl b):=(rfl)
@[simp] theorem acR (g:Int->Int->Bool)(i j:Int):cI g (U (.int i)) (U (.int j))=U (g i j):=(rfl)
@[simp] theorem acS (y:Z8 Bool):orO (U L) y=U L:=(rfl)
@[simp] theorem ab4 (y:Z8 Bool):orO (U Y) y=y:=(rfl)
@[simp] theorem acb (y:Z8 Bool):yJ (U L) y=y:=(rfl)
@[simp] theorem acv (y:Z8 Bool):yJ (U Y) y=U Y:=(rfl)
def pG(x y:D)(h:ok2 x y=L):eqO (U x) (U y)=U (decide (x=y)):=by unfold eqO;simp only[ZO h]
@[simp] theorem abS (i j:Int):eqO (U (.int i)) (U (.int j))=U (decide (i=j)):=by
 rw[pG _ _ (by rfl)];simp only[D.int.injEq]
def C4(x y:D)(h:ok2 x y=L):neO (U x) (U y)=U (!decide (x=y)):=by unfold neO;rw[pG _ _ h];rfl
def eB(j:Int)(h: -(2 ^ 62)<=j/\j<2 ^ 62):oH (U (.int j))=U (fF 0 j.toNat):=by unfold oH;simp only[Zu h,Y8]
def Ca(ns:Z9 Int):Bo (U (.lst (ns.map D.int)))=U (.int ns.sum):=by
 have:dN (ns.map D.int)=U ns:=by
  induction ns with
  |nil=>rfl
  |cons n ns ih=>simp only[Z1,dN,ih]
 unfold Bo;simp only[this]
def iP(d:D)(h:q[i]?=U (U (.lst ds,L)))(hl:ds.length<lim):jv i (U d) q=U (.next (q.set i (U (.lst (ds++[d]),L)))):=by
 unfold jv ca;simp only[h,ZO hl]
@[simp] theorem aaf (m:Bool)(d:D)(q:Mk):rd m 0 (U (d,Y)::q)=U d:=(rfl)
@[simp] theorem acE (d:D)(q:Mk):rd L 0 (U (d,L)::q)=U d:=(rfl)
@[simp] theorem aah (m:Bool)(i:Nat)(x:Z8 (D×Bool))(q:Mk):rd m (i+1) (x::q)=rd m i q:=(rfl)
@[simp] theorem abb (d:D)(q:Mk):ca 0 (U (d,L)::q)=U d:=(rfl)
@[simp] theorem aba (i:Nat)(x:Z8 (D×Bool))(q:Mk):ca (i+1) (x::q)=ca i q:=(rfl)
@[simp] theorem aa7 (d:D)(b:Bool)(q:Mk):aaK 0 (U (d,b)::q)=U (d,Y)::q:=by cases b<;>rfl
@[simp] theorem aa6 (i:Nat)(x:Z8 (D×Bool))(q:Mk):aaK (i+1) (x::q)=x::aaK i q:=by
 unfold aaK;rw[List.getElem?_cons_succ];split<;>simp_all
set_option tactic.hygienic true in
def CA(i:Nat)(d:D)(q:Mk):jv i (U d) q=(match ca i q with|some (.lst ds)=>if ds.length<lim then U (.next (q.set i (U (.lst (ds++[d]),L)))) else M|_=>M):=by
 unfold jv;split;rename_i e1 e2;obtain rfl:=Z7 e2;rw[e1];rename_i h;split;rename_i ds e;exact absurd rfl (h ds d e);rfl
set_option tactic.hygienic true in
def C8(i:Nat)(es:Z9 D)(q:Mk):zR i (U (.lst es)) q=(match ca i q with|some (.lst ds)=>if ds.length+es.length<=lim then U (.next (q.set i (U (.lst (ds++es),L)))) else M|_=>M):=by
 unfold zR;split;rename_i e1 e2;cases e2;rw[e1];rename_i h;split;rename_i ds e;exact absurd rfl (h ds es e);rfl
def Cs(h:ds.length=np):bO n np g ds=jP (g (dP n ds)):=by unfold bO;rw[ZO h]
def au(hf:f=bO n np g)(hl:ds.length=np)(hs:dP n ds=d):f ds=jP (g d):=by subst hf hs;exact Cs hl
def oK{q:Type}{xs:Z9 q}{i:Int}(h0:0<=i)(h1:i<xs.length):∃v,v∈xs/\xs[i.toNat]?=U v/\atI xs i=U v:=by
 have hi:i.toNat<xs.length:=by lia
 refine⟨xs[i.toNat],Xh hi,by simp[hi],?_⟩;have:=sL (xs:=xs) (j:=i.toNat) (v:=xs[i.toNat]) (by simp[hi]);rwa[We h0]at this
def t6{q:Type}{xs:Z9 q}{i:Int}{v:q}(h0:0<=i)(h:xs[i.toNat]?=U v):atI xs i=U v:=by
 have:=sL h;rwa[We h0]at this
theorem gJ:∀{ds:Z9 D},(∀d∈ds,h d=U (U (g d)))->bE h ds=U (ds.map g)
 |[],_=>rfl
 |d::ds,e=>by
  unfold bE;rw[e d (ZW ..),gJ λx hx=>e x (Z2 _ hx)];rfl
theorem de{h:D->Z8 (Z8 D)}{P:D->D->Prop}:∀{ds:Z9 D},(∀d∈ds,∃y,h d=U (U y)/\P d y)->∃g:Z9 D,bE h ds=U g/\g.length=ds.length/\∀(i:Nat) d,ds[i]?=U d->∃y,g[i]?=U y/\P d y
 |[],_=>⟨[],rfl,rfl,λi d h=>by simp at h⟩
 |d::ds,e=>by
  obtain⟨y,e1,p⟩:=e d (ZW ..);obtain⟨g,e2,hl,hp⟩:=de λx hx=>e x (Z2 _ hx);refine⟨y::g,?_,by simp[hl],λi z hz=>?_⟩;unfold bE;rw[e1,e2];cases i with
  |zero=>simp at hz;subst hz;exact⟨y,rfl,p⟩
  |succ i=>simpa using hp i z (by simpa using hz)
def aI(h:ds.length<=lim):bL bo bs q ft fe O ds=bE (aC q ft fe (ax bo bs O)) ds:=by unfold bL;rw[ZO h]
theorem cX(I:Z9 D->Mk->Prop):∀(post pre:Z9 D)(O:Mk),I pre O->(∀p d q O,p++d::q=pre++post->I p O->∃d_,(body d O=U (.next d_)\/body d O=U (.cont d_))/\I (p++[d]) d_)->
  ∃d_,aw body post O=U (.next d_)/\I (pre++post) d_
 |[],pre,O,h,_=>⟨O,rfl,by simpa using h⟩
 |d::post,pre,O,h,st=>by
  obtain⟨x_,e1,i1⟩:=st pre d post O rfl h;obtain⟨d_,e',i'⟩:=cX I post (pre++[d]) x_ i1 λp d' q O e i=>st p d' q O (by simpa using e) i;refine⟨d_,?_,by simpa using i'⟩;unfold aw;rcases e1 with e1|e1<;>rw[e1]<;>exact e'
def bY{lo:Int}(h:d∈fF lo n):∃i:Nat,i<n/\d=.int (lo+i):=by
 unfold fF at h;obtain⟨i,hi,e⟩:=ZV.mp h;exact⟨i,Y5.mp hi,e.symm⟩
def aL(lo:Int)(n:Nat):(fF lo n).length=n:=by unfold fF;simp
def uM:∀(ts:Z9 Str),(Txt.join "" ts).length=(ts.map (·.length)).sum:=by
 intro ts;show(Builtin.Str.glued "" ts).length=_;rw[StrLaws.glued_eq_join]
 induction ts with
 |nil=>rfl
 |cons x r ih=>
  cases r with
  |nil=>show x.length=_;simp
  |cons y r=>
   show(x++("":Str)++Str.join "" (y::r)).length=_;rw[Str.length_append,Str.length_append,ih];have:Str.length ""=0:=by decide +kernel
   simp only[Z1,List.sum_cons];lia
def sB{P:D->D->Prop}{ds g:Z9 D}{Q:Str->Prop}(hl:g.length=ds.length)(h:∀(i:Nat) d,ds[i]?=U d->∃y,g[i]?=U y/\P d y)(hP:∀d y,P d y->∃x,y=.str x/\Q x):∃ss:Z9 Str,g=ss.map D.str/\∀x∈ss,Q x:=by
 have hy:∀y∈g,∃x,y=.str x/\Q x:=λy hy=>by
  obtain⟨i,hi,e⟩:=YW.mp hy;obtain⟨z,ez,p⟩:=h i (ds[i]'(by lia)) (by simp[show i<ds.length by lia]);rw[YU hi]at ez;obtain rfl:=Z7 ez;rw[<-e];exact hP _ _ p
 clear h hl
 induction g with
 |nil=>exact⟨[],rfl,by simp⟩
 |cons y g ih=>
  obtain⟨x,e,q⟩:=hy y (ZW ..);obtain⟨ss,e2,q2⟩:=ih λz hz=>hy z (Z2 _ hz);refine⟨x::ss,by rw[e,e2];rfl,λz hz=>?_⟩;rcases ZZ.mp hz with hz|hz
  rw[hz];exact q;exact q2 z hz
def Ar(z:Str)(ys:Z9 Str)(h:(ys.map (·.length)).sum+ys.length*z.length<=16777216):u6 (U (.str z)) (U (.lst (ys.map D.str)))=U (.str (Txt.join z ys)):=by
 unfold u6;simp only[uj,ZO h]
def nG{ss:Z9 Str}(h:∀x∈ss,x.length=1):(ss.map (·.length)).sum=ss.length:=by
 induction ss with
 |nil=>rfl
 |cons x r ih=>
  have h1:=h x (ZW ..);have h2:=ih λy hy=>h y (Z2 _ hy);simp only[Z1,List.sum_cons,cK,h1,h2];lia
def gR(z:Str)(i:Int)(hz:z.length<=lim)(h0:0<=i)(h1:i<z.length):∃x:Str,x.length=1/\vg (U (.str z)) (U (.int i))=U (.str x):=by
 obtain⟨c,_,_,e⟩:=oK (xs:=z.cps.toList) (i:=i) h0 (by simpa[Str.length]using h1);refine⟨⟨#[c]⟩,rfl,?_⟩;unfold vg;simp only[ZO hz,e]
def yR(x:Z8 D)(q:D->Mk->Z8 Mk)(O:Mk):Z8 Out:=match x with|some d=>(match q d O with|some d_=>U (.next d_)|none=>M)|none=>M
theorem uK(ha:DE X Y a fa)(hg:DG X tg O)(hs:swapsWithSole [tg] a pos.line X.env=pure Y:=by rfl)(hw:swappedStores [tg] a X.env=pure M:=by rfl)(h1:(assignEach [tg] X.env).map (·.2)=[assign tg X.env]:=by rfl):
  DS X (.Assign [tg] a pos) (λq=>yR (fa q) O q):=
 (Ci ha hg hs hw h1).imp λDn σ H hz=>by
  obtain⟨B,Hk,q,o,R,e,k⟩:=hz;unfold yR at e;dsimp only at e;split at e;rename_i d qd;split at e;rename_i d_ UH;obtain rfl:=Z7 e;refine⟨B,Hk,q,d,R,qd,λv H1 s1 r1=>?_⟩;exact⟨B,Hk,q,d,d_,R.to s1,r1,UH,λh_ R'=>k h_ H1 (s1.ext R.abx) R'⟩;trivial;trivial
@[simp] theorem acM (d:D)(q:D->Mk->Z8 Mk)(O:Mk):yR (U d) q O=ae (q d O) λd_=>U (.next d_):=by
 unfold yR ae;dsimp only;cases q d O<;>rfl
noncomputable def dy(t:Mk->Z8 Bool)(b:Mk->Z8 Out):Nat->Mk->Z8 Out
 |0,_=>M
 |n+1,q=>match t q with
  |none=>M
  |some false=>U (.next q)
  |some true=>match b q with
   |some (.next d_)=>dy t b n d_
   |some (.cont d_)=>dy t b n d_
   |some (.brk d_)=>U (.next d_)
   |some (.ret e fr)=>U (.ret e fr)
   |none=>M
section
variable{X:Cx}{c a b:Expr}{body:Z9 Stmt}{ft:Mk->Z8 Bool}{gb:Mk->Z8 Out}{pos:Pos}{fa fb:Mk->Z8 D}{m:Bool}
theorem pi(n:Nat)(hp:PassesOwn (model X.prog X.w) X.A X.env X.xe)(hc:DT X c ft)(hb:DSs X body gb):DS X (.While c body [] pos) (λO=>dy ft gb n O):=
 (vK hp hc hb).imp λDn σ H hz=>by
  obtain⟨B,Hk,O,o,R,e,k⟩:=hz;refine⟨λj h_ H'=>∃d_,Ext B H H'/\Rel X.K B Hk d_ h_ H'/\dy ft gb j d_=U o,⟨n,O,Ext.refl,R,e⟩,?_⟩
  rintro j LK H1 ⟨x_,x1,R1,e1⟩
  cases j with
  |zero=>trivial
  |succ j=>
   unfold dy at e1;cases q:ft x_ with
   |none=>rw[q]at e1;trivial
   |some t=>
    refine⟨B,Hk,x_,t,R1,q,λH2 s2=>?_⟩;rw[q]at e1;have x2:=x1.trans (R1.ext s2);have R2:=R1.to s2;cases t with
    |false=>
     obtain rfl:=Z7 e1;rw[ZJ Zl];exact k LK H2 x2 R2
    |true=>
     rw[ZO rfl];simp only at e1;cases q2:gb x_ with
     |none=>rw[q2]at e1;trivial
     |some o1=>
      rw[q2]at e1;refine⟨λh_ H'=>∃d_,Ext B H H'/\Rel X.K B Hk d_ h_ H'/\dy ft gb j d_=U o,λh_ H' z=>⟨j,Yl j,z⟩,B,Hk,x_,o1,R2,q2,?_⟩;cases o1 with
      |next LL=>exact λMt H4 x4 R4=>⟨LL,x2.trans x4,R4,e1⟩
      |cont LL=>exact λMt H4 x4 R4=>⟨LL,x2.trans x4,R4,e1⟩
      |brk LL=>simp only at e1;obtain rfl:=Z7 e1;exact λMt H4 x4 R4=>k Mt H4 (x2.trans x4) R4
      |ret d fr=>simp only at e1;obtain rfl:=Z7 e1;exact λv4 H4 x4 R4=>k v4 H4 (x2.trans x4) R4
noncomputable def uh(x:Z8 D):Z8 Bool:=match x with
 |some .non=>U Y
 |some (.bl b)=>U b
 |some (.int i)=>U (i != 0)
 |some (.str y)=>if y.length<=lim then U ((y.length:Int) != 0) else M
 |some (.lst ds)=>U (!ds.isEmpty)
 |some (.tup ds)=>U (!ds.isEmpty)
 |_=>M
def M1.empty{K:Z6}{B:ZM->Prop}{H:Hp}{ds:Z9 D}{xs:Z9 V}(r:M1 K B H ds xs):ds.isEmpty=xs.isEmpty:=by
 have:=r.length;cases ds<;>cases xs<;>simp at this<;>rfl
theorem yS(ha:DE X m a fa)(he:∀whole,isTrue a X.env whole=(do let v <-whole;standAt a.pos;holding [v] (truthy v)):=by intro _;rfl):DT X a (λO=>uh (fa O)):=
 (ou ha he).imp λσ H Q hz=>by
  obtain⟨B,Hk,O,d,R,e,k⟩:=hz;dsimp only at e;cases q:fa O with
  |none=>rw[q]at e;trivial
  |some z=>
   rw[q]at e;refine⟨B,Hk,O,z,R,q,λv H' s r=>⟨d,?_,k H' s⟩⟩;cases z with
   |non=>simp only[Rep]at r;subst r;simp only[uh]at e;obtain rfl:=Z7 e;rfl
   |bl b=>simp only[Rep]at r;subst r;simp only[uh]at e;obtain rfl:=Z7 e;rfl
   |int i=>simp only[Rep]at r;subst r;simp only[uh]at e;obtain rfl:=Z7 e;rfl
   |str y=>
    simp only[Rep]at r;subst r;simp only[uh]at e;by_cases hl:y.length<=lim;rw[ZO hl]at e;obtain rfl:=Z7 e;exact⟨aJ hl,rfl⟩;rw[ZJ hl]at e;trivial
   |lst ds=>
    simp only[Rep]at r;obtain⟨p,xs,rfl,hq,rs⟩:=r;simp only[uh]at e;obtain rfl:=Z7 e;exact .inl ⟨xs,hq.sq,by rw[rs.empty]⟩
   |tup ds=>
    simp only[Rep]at r;obtain⟨p,xs,rfl,hq,rs⟩:=r;simp only[uh]at e;obtain rfl:=Z7 e;exact .inr (.inl ⟨xs,SqT.of hq,by rw[rs.empty]⟩)
   |dK ks vs=>simp only[uh]at e;trivial
   |dD ks vs=>simp only[uh]at e;trivial
def yf(x:Z8 D):Z8 Bool:=match x with|some d=>U (decide (d=.non))|none=>M
theorem Rep.non{K:Z6}{B:ZM->Prop}{H:Hp}{d:D}{v:V}(r:Rep K B H d v):(v=.non)=(d=.non):=by
 cases d
 all_goals simp only[Rep]at r
 case non=>simp[r]
 all_goals first
  |(subst r;simp)
  |(obtain⟨p,xs,rfl,_⟩:=r;simp)
def AK{K:Z6}{B:ZM->Prop}{H:Hp}{d:D}{v:V}(r:Rep K B H d v):decide (v=.non)=decide (d=.non):=by
 by_cases h:d=.non;rw[Zu h,Zu (by rw[r.non];exact h)];rw[ZD h,ZD (by rw[r.non];exact h)]
def qW{c:Bool}(h:yf x=U c):∃d,x=U d/\c=decide (d=.non):=by
 unfold yf at h;split at h;obtain rfl:=Z7 h;exact⟨_,rfl,rfl⟩;trivial
theorem zh{tk:Nat}{p:Pos}(ha:DE X m a fa)(hm:behindInMarks .IsNot (.Constant .none tk p)=Y:=by rfl):DT X (.Compare a [.IsNot] [.Constant .none tk p] pos) (λO=>g8 (yf (fa O))):=
 (cq zf ha (uY (m:=Y)) hm).imp λσ H Q hz=>by
  obtain⟨B,Hk,O,d,R,e,k⟩:=hz;cases h:yf (fa O)with
  |none=>simp only[h,g8]at e;trivial
  |some c=>
   simp only[h,g8]at e;obtain rfl:=Z7 e;obtain⟨z,q,rfl⟩:=qW h;refine two (fb:=λ_=>U .non) R q rfl λv u H' s R' r1 r2=>?_;simp only[Rep]at r2;exact⟨r2,_,rfl,by rw[AK r1];exact k H' s⟩
end
noncomputable def Ite(K:Z6)(p:ZM):It:=
 ⟨λi H=>∃xs x,SqL K H p xs/\xs[i]?=U x,
  λi H v H'=>∃T x,H T=M/\v=.ref T/\H'=upd H T (.tup [.int i,x])/\∀xs,SqL K H p xs->xs[i]?=U x,
  λi H=>∃xs,SqL K H p xs/\xs.length<=i⟩
structure En (h:Heap)(e c p:ZM)(n:Nat):Prop where
 ee:∃old,IsEnum h e c n old
 cc:h.IsListIter c p n
def AQ{x1}(he:IsEnumOut s.heap e c i x T)(hQ:∀h',IsEnum h' e c i x->Heap.SameBut e s.heap h'->Q () {s with heap:=h'}):wpAny (model prog w) A (letOwnedTupleGo (.Tuple elts x1 pos) (.ref e) (.ref T)) Q E s:=by
 unfold letOwnedTupleGo;refine Z_ (wpAny_load he ?_);change wpAny _ _ (if(["enumerate","zip","dict_itemiterator","dict_reverseitemiterator","odict_iterator","itertools.zip_longest","itertools.pairwise"].contains "enumerate"&&(#[rawInt T,.bool Y,.ref c,rawInt i,.none,x]:Array Z3)[0]?==U (rawInt T))=L then _ else _) Q E s;refine eS (by simp) ?_;refine Z_ (YC (X3 he (by simp) λh' g' m'=>hQ h' g' m'))
def sw{P:Y0}{w:YM}{K:Z6}{elts:Z9 Expr}{x1}{pos:Pos}{e c p:ZM}(ne:e≠c):
  Turn P w K (.Tuple elts x1 pos) (Ite K p) [e,c] e (λn h=>En h e c p n) where
 mem:=by simp
 obj:=λi h st b hb=>by
  obtain⟨⟨old,ee⟩,cc⟩:=st;simp only[ZZ,Zm,YA]at hb;rcases hb with rfl|rfl;exact⟨_,ee,λv e=>by cases e⟩;obtain⟨o,g,_,hd⟩:=cc;exact⟨o,g,λv e'=>by rw[hd]at e';cases e'⟩
 keep:=λi h h' st k=>by
  obtain⟨⟨old,ee⟩,cc⟩:=st;exact⟨⟨old,k e (by simp) _ ee⟩,cc.at λo g=>k c (by simp) o g⟩
 item:=by
  intro X hP hw hK hc i pins s σ H E I hf st hg;subst hP hw hK;obtain⟨xs,x,h1,hx⟩:=hg;obtain⟨is,ri,sp,_⟩:=I.list h1;obtain⟨ux,e1,r1⟩:=ri.get hx;obtain⟨⟨old,ee⟩,cc⟩:=st;refine wpAny_pyNext_enum_item ee cc sp.isList (x:=ux) (by simpa using e1) ne λh' out cc' new sz k=>⟨_,rfl,?_⟩
  have hT:H s.z=M:=I.hok.fresh (ZU _);have nT:∀b∈[e,c],b≠s.z:=λb hb q=>by
   simp only[ZZ,Zm,YA]at hb;rcases hb with rfl|rfl;rw[q]at ee;exact absurd (ZQ ee) (Zc _);obtain⟨o,g,_⟩:=cc;rw[q]at g;exact absurd (ZQ g) (Zc _)
  have I1:Inv X pins σ (upd H s.z (.tup [.int i,x])) {s with heap:=h',toks:=s.toks+1}:=I.abN (fp:=[e,c]) (λb o hb q=>k b o (λz=>hb (by simp[z])) (λz=>hb (by simp[z])) q) hf (ZU _)
   ⟨by show 2<=sizeLine;decide,[.int i s.toks,ux],.cons ⟨_,rfl⟩ (.cons r1 .nil),⟨_,new,rfl,_,rfl⟩⟩
  refine AQ (s:={s with heap:=h',toks:=s.toks+1}) out λg2 e2 m2=>?_;have hz:=hf e (by simp);refine⟨.ref s.z,upd H s.z (.tup [.int i,x]),I1.turned (t':=s.toks+1) (λb o hb q=>ag m2 hb q) (by rw[ai (nT e (by simp))];exact hz.1) hz.2.1 hz.2.2.2.1 hz.2.2.2.2.1 hz.2.2.2.2.2,rfl,
   ⟨s.z,x,hT,rfl,rfl,λxs' h=>by rw[I.aaN h h1];exact hx⟩,⟨⟨_,e2⟩,cc'.at λo g=>ag m2 (Zy ne) g⟩,λb hb=>by rw[ai (nT b hb)];exact(hf b hb).1⟩
 done:=by
  intro X hP hw hK hc i pins s σ H E I hf st hg;subst hP hw hK;obtain⟨xs,h1,hl⟩:=hg;obtain⟨is,ri,sp,_⟩:=I.list h1;have l1:=ri.length;obtain⟨⟨old,ee⟩,cc⟩:=st;exact wpAny_pyNext_enum_end (I.ok.hd hc) ee cc sp.isList (by simp;lia) λh' k=>⟨rfl,I.turns (t':=s.toks) (fp:=[e,c]) (λb o hb q=>k b o (λz=>hb (by simp[z])) q) hf⟩
 self:=λ_ _ _ _ _ st h=>by obtain⟨⟨old,ee⟩,cc⟩:=st;exact wpAny_pyIter_enum ee h
noncomputable def enL(h:Heap)(p:ZM):Heap:=(h.push (itO Y p)).push {cls:=.type "enumerate",data:=.fields #[.none,.bool Y,.ref h.objs.size,rawInt 0,.none,.none]}
set_option tactic.hygienic true in
def we(p:ZM)(xs:Array Z3):Meets (Builtin.«enumerate.__new__» ⟨[.type "enumerate",.ref p],[]⟩) (λ_ R s=>aau Y s.heap p xs/\R (.ok (.ret (.ref (s.heap.push (itO Y p)).objs.size))) {s with heap:=enL s.heap p}):=
 .of_wp λprog w A R s h=>by
  obtain⟨hp,g,d,tk,os⟩:=s;obtain⟨h1,h⟩:=h;have Lo:=sub_enumerate;have k1:aau Y (Shared.heap ⟨hp,g,d,tk,os⟩) p xs:=h1
  wp_walk using eF k1
  refine wpAny_stack_any λst=>Z5 ?_;split
  .rename_i c0 _ _ _ _ _
   cases (c0==Value.type "enumerate")<;>(wp_walk using eF k1;exact⟨_,rfl,h⟩)
  .wp_walk using eF k1
   exact⟨_,rfl,h⟩
def sS(hp:aau Y s.heap p xs)(h:∀h',IsEnum h' (s.z+1) s.z 0 .none->h'.IsListIter s.z p 0->(∀b o,s.heap.get? b=U o->h'.get? b=U o)->Q (.ref (s.z+1)) {s with heap:=h'}):
  wpAny (model prog w) A (call (.type "enumerate") [.ref p]) Q E s:=by
 refine callType_new F.called_enumerate (by decide) (F.typeCall_enumerate_1 _) (F.newCall_enumerate_1 _) (λobj=>F.args_object_init_2 obj _) F.entry_enumerate_new (we p xs) ⟨hp,?_⟩;have s1:(s.heap.push (itO Y p)).objs.size=s.z+1:=YE ..;have e5:(enL s.heap p).get? (s.heap.push (itO Y p)).objs.size=U {cls:=.type "enumerate",data:=.fields #[.none,.bool Y,.ref s.z,rawInt 0,.none,.none]}:=ZN _ rfl;have c5:(enL s.heap p).get? s.z=U (itO Y p):=Z4 _ (ZN _ rfl);rw[s1]at e5;refine⟨⟨_,by rw[s1];exact e5,rfl⟩,?_⟩;rw[s1];exact h _ e5 ⟨_,c5,rfl,rfl⟩ λb o e=>Z4 _ (Z4 _ e)
section
variable{p:Pos}
def Fn(K:Z6)(ta:TA):TI:=λσ H R=>ta σ H λvs H1=>∃p,vs=[.ref p]/\(∃xs,SqL K H1 p xs)/\R (Ite K p) H1
def AZ{ta:TA}(hg:Gl X "enumerate")(hm:X.mg "enumerate"=M)(ha:PA X [a] ta)(hs:starEach [a] X.env=[(Y,eval a X.env)]:=by rfl):
  PI X (.Tuple elts x1 tp) (.Call (.Name "enumerate" p) [a] [] pos) (Fn X.K ta):=by
 intro pins s σ H R I h;refine Call_ (fA I hg hm boot_enumerate (Yp (thn (ha pos pins s σ H _ I h) λus s1 ⟨vs,H1,I1,r1,q1⟩=>?_) hs rfl));obtain⟨l1,e,⟨xs,h1⟩,q⟩:=q1;subst e;cases r1 with
 |cons r rr=>
  cases rr;cases r;obtain⟨is,ri,sp,_⟩:=I1.list h1;refine sS (p:=l1) sp.isList λh' ee cc k=>?_;have I2:Inv X pins σ H1 {s1 with heap:=h'}:=I1.kept (t':=s1.toks) k;refine wpAny_pyIter_enum (s:={s1 with heap:=h'}) ee ⟨s1.z+1,[s1.z+1,s1.z],_,_,H1,rfl,I2,sw (Nat.ne_of_gt (Yl _)),⟨⟨_,ee⟩,cc⟩,λb hb=>?_,q⟩;have Jj:s1.z<=b:=by
   simp only[ZZ,Zm,YA]at hb;rcases hb with rfl|rfl;exact WT _;exact ZU _
  obtain⟨f0,f1,f2,f3,f4,f5⟩:=I1.abm Jj (I1.hok.fresh Jj);exact⟨f0,f1,f2,f3,f4,f5⟩
def gW(i:Nat):Z9 D->Z9 D
 |[]=>[]
 |d::ds=>.tup [.int i,d]::gW (i+1) ds
theorem lu:∀(ds:Z9 D)(j i:Nat)(x:D),(gW j ds)[i]?=U x->∃d,ds[i]?=U d/\x=.tup [.int ((j+i:Nat):Int),d]
 |[],j,i,x,h=>by simp[gW]at h
 |d::ds,j,0,x,h=>by simp[gW]at h;exact⟨d,rfl,by rw[<-h];simp⟩
 |d::ds,j,i+1,x,h=>by
  simp[gW]at h;obtain⟨e,h1,h2⟩:=lu ds (j+1) i x h;exact⟨e,by simpa using h1,by rw[h2,show j+1+i=j+(i+1) by lia]⟩
theorem lG:∀(j:Nat)(ds:Z9 D),(gW j ds).length=ds.length
 |_,[]=>rfl
 |j,d::ds=>by simp[gW,lG (j+1) ds]
def wK(x:Z8 D):Z8 (Z9 D):=match x with|some (.lst ds)=>U (gW 0 ds)|_=>M
theorem AE(g:Gl X "enumerate")(hm:X.mg "enumerate"=M)(h:DE X m a fa)(hs:starEach [a] X.env=[(Y,eval a X.env)]:=by rfl):
  DI X m (.Tuple elts x1 tp) (.Call (.Name "enumerate" p) [a] [] pos) (λq=>wK (fa q)):=
 (AZ g hm (ay h aQ hs) hs).imp λσ H Q hz=>by
  obtain⟨B,Hk,q,ds,R,e,k⟩:=hz;dsimp only at e;unfold wK at e;split at e;rename_i as q1;obtain rfl:=Z7 e;refine pW R q1 λv H' s R' r1=>?_;simp only[Rep]at r1;obtain⟨l1,xs,rfl,hq,rs⟩:=r1;refine⟨l1,rfl,⟨xs,hq.sq⟩,k _ H' s λH2 x=>?_⟩;have hx:=(hq.ext x).sq;have rx:=rs.ext x;refine⟨⟨xs,hx,by rw[lG,rx.length];exact ZU _⟩,λi d hd=>?_⟩;obtain⟨d1,g1,rfl⟩:=lu _ _ _ _ hd;obtain⟨y1,w1,z1⟩:=rx.get g1;refine⟨⟨xs,y1,hx,w1⟩,λv H3 ⟨T,v1,hT,ev,e3,n1⟩=>?_⟩;have:=n1 xs hx;rw[w1]at this;obtain rfl:=Z7 this;have sm:aad H2 (upd H2 T (.tup [.int i,y1])):=ar hT;have bo:∀a,ba m B q σ a->∃o:HOn,H2 a=U o.1:=λa ha=>by
   obtain⟨o,ho⟩:=R'.bsH m a ha;exact⟨o,(x.abE a ha).trans ho⟩
  have ex:=sm.ext bo;rw[e3,ev];refine⟨sm,?_⟩;simp only[Rep];refine⟨T,[.int i,y1],rfl,ah,M1.cons ?_ (M1.cons (z1.ext ex) M1.nil)⟩;simp only[Rep,Yj];trivial
end
mutual
theorem KR.raw(ok:HOk P w H h):∀{d:D}{v:V}{u:Z3},KR H d v->RelV v u->RH h d u
 |.int i,v,u,r,q=>by simp only[KR]at r;subst r;obtain⟨t,rfl⟩:=q;simp only[RH];exact⟨t,rfl⟩
 |.str i,v,u,r,q=>by simp only[KR]at r;subst r;obtain⟨t,rfl⟩:=q;simp only[RH];exact⟨t,rfl⟩
 |.tup ds,v,u,r,q=>by
  simp only[KR]at r;obtain⟨a,xs,rfl,g,rs⟩:=r;cases q;obtain⟨_,its,rv,ht⟩:=(show aam P w H h a (.tup xs) from ok a _ g)
  simp only[RH];exact⟨a,its,rfl,ht,KRs.raw ok rs rv⟩
 |.non,v,u,r,_=>by simp only[KR]at r
 |.bl _,v,u,r,_=>by simp only[KR]at r
 |.lst _,v,u,r,_=>by simp only[KR]at r
 |.dK _ _,v,u,r,_=>by simp only[KR]at r
 |.dD _ _,v,u,r,_=>by simp only[KR]at r
theorem KRs.raw(ok:HOk P w H h):∀{ds:Z9 D}{xs:Z9 V}{us:Z9 Z3},KRs H ds xs->aab xs us->RHs h ds us
 |[],xs,us,r,q=>by simp only[KRs]at r;subst r;cases q;simp only[RHs]
 |d::ds,xs,us,r,q=>by
  simp only[KRs]at r;obtain⟨x,t,rfl,r1,r2⟩:=r;cases q with
  |cons q1 q2=>simp only[RHs];exact⟨_,_,rfl,KR.raw ok r1 q1,KRs.raw ok r2 q2⟩
end
mutual
theorem Rep.key{K:Z6}{B:ZM->Prop}{H:Hp}:∀{n:Nat}{d:D}{v:V},aW n d=L->Rep K B H d v->KR H d v
 |n,.int i,v,_,r=>by simp only[Rep]at r;simp only[KR];exact r
 |n,.str i,v,_,r=>by simp only[Rep]at r;simp only[KR];exact r
 |n,.tup ds,v,h,r=>by
  simp only[Rep]at r;obtain⟨a,xs,rfl,g,rs⟩:=r;obtain⟨k,_,hd⟩:=cw h;simp only[KR];exact⟨a,xs,rfl,g,M1.key hd rs⟩
 |n,.non,v,h,_=>by cases n<;>simp[aW]at h
 |n,.bl _,v,h,_=>by cases n<;>simp[aW]at h
 |n,.lst _,v,h,_=>by cases n<;>simp[aW]at h
 |n,.dK _ _,v,h,_=>by cases n<;>simp[aW]at h
 |n,.dD _ _,v,h,_=>by cases n<;>simp[aW]at h
theorem M1.key{K:Z6}{B:ZM->Prop}{H:Hp}:∀{n:Nat}{ds:Z9 D}{xs:Z9 V},ds.all (aW n)=L->M1 K B H ds xs->KRs H ds xs
 |n,[],xs,_,r=>by simp only[M1]at r;simp only[KRs];exact r
 |n,d::ds,xs,h,r=>by
  rw[jR,ZK]at h;simp only[M1]at r;obtain⟨x,t,rfl,r1,r2⟩:=r;simp only[KRs];exact⟨x,t,rfl,Rep.key h.1 r1,M1.key h.2 r2⟩
end
mutual
theorem KR.rep{K:Z6}{B:ZM->Prop}{H:Hp}:∀{d:D}{v:V},KR H d v->Rep K B H d v
 |.int i,v,r=>by simp only[KR]at r;simp only[Rep];exact r
 |.str i,v,r=>by simp only[KR]at r;simp only[Rep];exact r
 |.tup ds,v,r=>by
  simp only[KR]at r;obtain⟨a,xs,rfl,g,rs⟩:=r;simp only[Rep];exact⟨a,xs,rfl,g,KRs.rep rs⟩
 |.non,v,r=>by simp only[KR]at r
 |.bl _,v,r=>by simp only[KR]at r
 |.lst _,v,r=>by simp only[KR]at r
 |.dK _ _,v,r=>by simp only[KR]at r
 |.dD _ _,v,r=>by simp only[KR]at r
theorem KRs.rep{K:Z6}{B:ZM->Prop}{H:Hp}:∀{ds:Z9 D}{xs:Z9 V},KRs H ds xs->M1 K B H ds xs
 |[],xs,r=>by simp only[KRs]at r;simp only[M1];exact r
 |d::ds,xs,r=>by
  simp only[KRs]at r;obtain⟨x,t,rfl,r1,r2⟩:=r;simp only[M1];exact⟨x,t,rfl,KR.rep r1,KRs.rep r2⟩
end
def aar.val(r:aar H kvs xs)(k:D):aaV (eO kvs k) ((atKey xs k).map (·.2)):=by
 induction r with
 |nil=>exact True.intro
 | @cons p q ps qs h t ih=>
  by_cases e:p.1=k;rw[bU e,show atKey (q::qs) k=U q.2 by simp[atKey,List.find?_cons,h.1.symm.trans e]];exact h.2.2.2;have e':¬q.1=k:=λz=>e (h.1.trans z);rw[bT e,show atKey (q::qs) k=atKey qs k by simp[atKey,List.find?_cons,e']];exact ih
def aar.ab2(r:aar H kvs xs)(k:D)(ry:RelV y u):aar H (kvs.map λkv=>if kv.1=k then(kv.1,y) else kv) (xs.map (putAt k u)):=by
 induction r with
 |nil=>exact .nil
 | @cons p q ps qs h t ih=>
  refine .cons ?_ ih;dsimp only;by_cases e:p.1=k;rw[ZO e,putAt,ZO (h.1.symm.trans e)];exact⟨h.1,h.2.1,h.2.2.1,ry⟩;rw[ZJ e,putAt,ZJ λz=>e (h.1.trans z)];exact h
def aar.put(r:aar H kvs xs)(k:D)(hk:aW 8 k=L)(hb:KR H k (.ref b))(ry:RelV y u):aar H (dn kvs k y) (storedH xs k b u):=by
 have e:(kvs.any λkv=>decide (kv.1=k))=(atKey xs k).isSome:=by rw[d8,(r.val k).aaX,WV]
 unfold dn storedH;rw[e];by_cases q:(atKey xs k).isSome=L;rw[ZO q,ZO q];exact r.ab2 k ry;rw[ZJ q,ZJ q];exact Paired.snoc r ⟨rfl,hk,hb,ry⟩
section
variable{h:Heap}
def jK(ok:HOk P w H h)(e:Rd H a (.dD kvs ep)):kvs.length<=sizeLine/\(a==sysModules)=Y/\∃xs,aar H kvs xs/\h.DictOfH (bi P w) a xs:=by
 obtain⟨z,y,xs,r,o,es,h1,h2,h3,h4,h5⟩:=(show aam P w H h a (.dD kvs ep) from qI ok e)
 refine⟨z,y,xs,r,o,es,ep,h1,h2,h3,h4,?_,h5⟩;have all:∀{l:Z9 (D×V)}{m:Z9 (D×ZM×Z3)},aar H l m->∀x∈m,(bi P w).is h x.1 x.2.1:=by
  intro l m q
  induction q with
  |nil=>intro x hx;exact nomatch hx
  | @cons p q ps qs hq t ih=>
   intro x hx;rcases ZZ.mp hx with rfl|hx;exact⟨by rw[<-hq.1];exact hq.2.1,by rw[<-hq.1];exact KR.raw ok hq.2.2.1 rfl⟩;exact ih x hx
 exact all r
def nN(hb:sysModules<h.objs.size):aam P w H (h.push {cls:=.type "dict",data:=.dict #[]}) h.objs.size (.dD [] 0):=
 ⟨Zs _,by simpa using Nat.ne_of_gt hb,[],.nil,_,#[],ZN _ rfl,⟨rfl,rfl,rfl⟩,rfl,rfl,Yt⟩
end
section
variable{A:Za}
def cC(I:Inv X pins σ H s)(hk:aW 8 k=L)(kb:KR H k (.ref b)):(bi X.prog X.w).is s.heap k b:=⟨hk,KR.raw I.hok kb rfl⟩
def qV(hu:A.units+40<cLine)(I:Inv X pins σ H s)(e:Rd H a (.dD kvs ep))(hk:aW 8 k=L)(kb:KR H k (.ref b))(l:eO kvs k=U v)(h:∀w' s',Inv X pins σ H s'->RelV v w'->Q w' s'):
  wpAny (model X.prog X.w) A (getItem (.ref a) (.ref b)) Q E s:=by
 obtain⟨z,hd,xs,rel,dd⟩:=jK I.hok e;obtain⟨w',hw,Iu⟩:=aaV.some_of (v:=v) (o:=(atKey xs k).map (·.2)) (by rw[<-l];exact rel.val k);obtain⟨p,hp,LP⟩:=Xl.mp hw;refine wpAny_getItem_heap (knd:=bi X.prog X.w) (by show A.units+1+30<cLine;lia) (cC I hk kb) dd hp ?_;rw[LP];exact h w' _ (I.tok _) Iu
def wC(hu:A.units+40<cLine)(I:Inv X pins σ H s)(e:Rd H a (.dD kvs ep))(hk:aW 8 k=L)(kb:KR H k (.ref b))(h:∀s',Inv X pins σ H s'->Q (.bool (!(eO kvs k).isSome)) s'):
  wpAny (model X.prog X.w) A (compareOp .NotIn (.ref b) (.ref a)) Q E s:=by
 obtain⟨z,hd,xs,rel,dd⟩:=jK I.hok e;refine wpAny_notIn_heap (knd:=bi X.prog X.w) (by show A.units+1+30<cLine;lia) (cC I hk kb) hd dd ?_;have q:=(rel.val k).aaX;rw[WV]at q;rw[<-q];exact h _ (I.tok _)
def pM(hu:A.units+40<cLine)(I:Inv X pins σ H s)(e:H a=U (.dD kvs ep))(hk:aW 8 k=L)(kb:KR H k (.ref b))(l:kvs.length<sizeLine)(rv:RelV v r)(h:∀C_ s',Inv X pins σ (upd H a (.dD (dn kvs k v) C_)) s'->Q () s'):
  wpAny (model X.prog X.w) A (setItem (.ref a) (.ref b) r) Q E s:=by
 obtain⟨z,hd,xs,rel,dd⟩:=jK I.hok (.inl e);have hl:(dn kvs k v).length<=sizeLine:=by have:=bA kvs k v;lia
 refine wpAny_setItem_heap (knd:=bi X.prog X.w) (hsz:=by rw[<-Yn rel];exact z) (by show A.units+1+30<cLine;lia) (cC I hk kb) dd λh' KA hs=>?_;obtain⟨q,es,C_,hq,h2,h3,h4,_,h5⟩:=KA;refine h C_ _ (gh I (by rw[e];exact True.intro) hs ⟨q,hq⟩ ⟨hl,hd,_,Paired.abV (rel.put k hk kb rv) λp q z=>⟨z.1,z.2.1,KR.to (λc ys ec=>?_) z.2.2.1,z.2.2.2⟩,q,es,hq,h2,h3,h4,h5⟩);rw[ai (mf ec e (λz=>nomatch z))];exact ec
end
def Rel.oset{K:Z6}{B:ZM->Prop}{Hk H:Hp}{O:Mk}{σ:St}{i:Nat}{d d':D}{l:ZM}{o:HO}(R:Rel K B Hk O σ H)(h:O[i]?=U (U (d,L)))(hl:σ[i]?=U (U (.ref l)))(new:Ext B H (upd H l o)->ObR K B (upd H l o) d' l):
  Ext B H (upd H l o)/\Rel K B Hk (O.set i (U (d',L))) σ (upd H l o):=by
 obtain⟨a,e1,e2,ob⟩:=R.own i _ h;rw[hl]at e1;cases e1;obtain⟨u,hx,mu⟩:=ob.mut;have hb:¬B l:=λz=>by obtain⟨o,q⟩:=R.bor l z;rw[e2]at q;trivial
 have ex:Ext B H (upd H l o):=bZ hx mu hb;have k_:i<O.length:=(ZP.mp h).1;have RQ:∀j e,(O.set i (U (d',L)))[j]?=U (U (e,L))->∃e',O[j]?=U (U (e',L)):=λj e q=>by
  by_cases hj:j=i;subst hj;exact⟨_,h⟩;rw[ZL (Zy hj)]at q;exact⟨_,q⟩
 refine⟨ex,⟨R.same.put e2,R.bor,by simpa using R.len,λj e q=>?_,λj e q=>?_,λj k e f q K7 h1 h2 h3 h4=>?_⟩⟩;by_cases hj:j=i;subst hj;rw[ZG k_]at q;cases q;rw[ZL (Zy hj)]at q;obtain⟨v,q1,q2⟩:=R.var j e q;exact⟨v,q1,q2.ext ex⟩;by_cases hj:j=i;subst hj;rw[ZG k_]at q;cases q;exact⟨l,hl,e2,new ex⟩;rw[ZL (Zy hj)]at q;obtain⟨c,q1,q2,q3⟩:=R.own j e q;have hc:c≠l:=λz=>by subst z;exact R.dis j i e _ c hj q h q1 hl
 exact⟨c,q1,q2,q3.ext ex λo q _=>by rw[ai hc];exact q⟩;obtain⟨e',z1⟩:=RQ j e h1;obtain⟨f',z2⟩:=RQ k f h2;exact R.dis j k e' f' q K7 z1 z2 h3 h4
def l8:D->Bool
 |.tup _=>L
 |_=>Y
def cj{κ:Type}[DecidableEq κ](k:κ):Z9 κ->Z9 D->Z8 D
 |x::ks,d::ds=>if x=k then U d else cj k ks ds
 |_,_=>M
def qL{κ:Type}[DecidableEq κ](k:κ)(v:D):Z9 κ->Z9 D->Z9 D
 |x::ks,d::ds=>(if x=k then v else d)::qL k v ks ds
 |_,_=>[]
def xN{κ:Type}[DecidableEq κ](k:κ)(v:D)(ks:Z9 κ)(ds:Z9 D):Z9 D:=if k∈ks then qL k v ks ds else ds++[v]
def jM{κ:Type}[DecidableEq κ](k:κ)(ks:Z9 κ):Z9 κ:=if k∈ks then ks else ks++[k]
section
variable{K:Z6}{B:ZM->Prop}{H:Hp}{κ:Type}[DecidableEq κ]
theorem c6(k:κ):∀{kvs:Z9 (κ×V)}{ds:Z9 D},M1 K B H ds (kvs.map (·.2))->(cj k (kvs.map (·.1)) ds=M->eO kvs k=M)/\∀d,cj k (kvs.map (·.1)) ds=U d->∃v,eO kvs k=U v/\Rep K B H d v
 |[],ds,r=>⟨λ_=>rfl,λd h=>by cases ds<;>simp[cj]at h⟩
 |p::kvs,ds,r=>by
  cases ds with
  |nil=>simp only[Z1,M1]at r;trivial
  |cons d ds=>
   rw[Z1]at r;obtain⟨r1,r2⟩:=r.abI;rw[Z1];unfold cj;by_cases e:p.1=k;rw[ZO e];exact⟨λz=>(by trivial),λd2 z=>(by obtain rfl:=Z7 z;exact⟨p.2,bU e,r1⟩)⟩;rw[ZJ e,bT e];exact c6 k r2
def sA(k:κ)(kvs:Z9 (κ×V)):(kvs.any λkv=>decide (kv.1=k))=decide (k∈kvs.map (·.1)):=by
 rw[YL,XR,Y_,ZV];constructor
 rintro⟨x,h1,h2⟩;exact⟨x,h1,Zo h2⟩
 rintro⟨x,h1,h2⟩;exact⟨x,h1,Zu h2⟩
def eK(k:κ)(v:V)(kvs:Z9 (κ×V)):(dn kvs k v).map (·.1)=jM k (kvs.map (·.1)):=by
 unfold dn jM;rw[sA];by_cases hk:k∈kvs.map (·.1)
 .rw[Zu hk,ZO rfl,ZO hk,Yi]
  refine YZ λx _=>?_;simp only[Function.comp];split<;>rfl
 rw[ZD hk,ZJ Zl,ZJ hk];simp
theorem lw(r:Rep K B H d v)(k:κ):∀{kvs:Z9 (κ×V)}{ds:Z9 D},M1 K B H ds (kvs.map (·.2))->M1 K B H (qL k d (kvs.map (·.1)) ds) ((kvs.map λkv=>if kv.1=k then(kv.1,v) else kv).map (·.2))
 |[],ds,q=>by
  cases ds with
  |nil=>exact M1.nil
  |cons _ _=>simp only[YT,M1]at q;obtain⟨_,_,z,_⟩:=q;trivial
 |p::kvs,ds,q=>by
  cases ds with
  |nil=>simp only[Z1,M1]at q;trivial
  |cons d0 ds=>
   rw[Z1]at q;obtain⟨r1,r2⟩:=q.abI;have ih:=lw r k r2;rw[Z1,Z1,Z1];unfold qL;by_cases e:p.1=k;rw[ZO e,ZO e];exact M1.cons r ih;rw[ZJ e,ZJ e];exact M1.cons r1 ih
def jw(r:Rep K B H d v)(k:κ)(q:M1 K B H ds (kvs.map (·.2))):M1 K B H (xN k d (kvs.map (·.1)) ds) ((dn kvs k v).map (·.2)):=by
 unfold dn xN;rw[sA];by_cases hk:k∈kvs.map (·.1);rw[Zu hk,ZO rfl,ZO hk];exact lw r k q;rw[ZD hk,ZJ Zl,ZJ hk,Y2];exact q.append (M1.cons r M1.nil)
end
def DGA(H:Hp)(a:ZM)(y:V)(r:Z8 V):Prop:=B6 H a y r\/∃kvs ep k b,Rd H a (.dD kvs ep)/\y=.ref b/\aW 8 k=L/\KR H k (.ref b)/\r=eO kvs k
def DPA(H:Hp)(a:ZM)(y v:V)(N:Hp->Prop):Prop:=(∃H',Gv H a y v H'/\N H')\/∃kvs ep k b,H a=U (.dD kvs ep)/\y=.ref b/\aW 8 k=L/\KR H k (.ref b)/\kvs.length<sizeLine/\∀C_,N (upd H a (.dD (dn kvs k v) C_))
section
variable{A:Za}
def qE(hu:A.units+40<cLine)(I:Inv X pins σ H s)(g:DGA H a y (U v))(ry:RelV y u)(h:∀w' s',Inv X pins σ H s'->RelV v w'->Q w' s'):wpAny (model X.prog X.w) A (getItem (.ref a) u) Q E s:=by
 rcases g with g|⟨kvs,ep,k,b,e,rfl,hk,kb,l⟩;exact uk (by lia) I g ry h;cases (show u=Value.ref b from ry);exact qV hu I e hk kb l.symm h
def wD(hu:A.units+40<cLine)(I:Inv X pins σ H s)(g:DGA H a y o)(ry:RelV y u)(h:∀s',Inv X pins σ H s'->Q (.bool (!o.isSome)) s'):wpAny (model X.prog X.w) A (compareOp .NotIn u (.ref a)) Q E s:=by
 rcases g with g|⟨kvs,ep,k,b,e,rfl,hk,kb,rfl⟩;exact zX (by lia) I g ry h;cases (show u=Value.ref b from ry);exact wC hu I e hk kb h
def qD(hu:A.units+40<cLine)(I:Inv X pins σ H s)(g:DPA H a y v N)(ry:RelV y u)(rv:RelV v r)(h:∀H' s',Inv X pins σ H' s'->N H'->Q () s'):wpAny (model X.prog X.w) A (setItem (.ref a) u r) Q E s:=by
 rcases g with⟨H',g,n⟩|⟨kvs,ep,k,b,e,rfl,hk,kb,l,n⟩;exact ut (by lia) I g ry rv λs' I'=>h H' s' I' n
 cases (show u=Value.ref b from ry);exact pM hu I e hk kb l rv λC_ s' I'=>h _ s' I' (n C_)
def kU(I:Inv X pins σ H s)(g:DGA H a y o):s.TypeIs (.ref a) "dict":=by
 rcases g with g|⟨kvs,ep,k,b,e,_⟩;exact mJ I g;obtain⟨_,_,xs,_,dd⟩:=jK I.hok e;exact dd.typeIs
end
def tGA(td ty:TE):TE:=λσ H Q=>td σ H λx H1=>ty σ H1 λy H2=>∃a v,x=.ref a/\DGA H2 a y (U v)/\Q v H2
def rIA(neg:Bool):R2:=λy x H Q=>∃a o,x=.ref a/\DGA H a y o/\Q (.bl (if neg then !o.isSome else o.isSome)) H
def sPA(td ty tv:TE):TS:=λD σ H=>tv σ H λv H1=>td σ H1 λx H2=>ty σ H2 λy H3=>∃a,x=.ref a/\DPA H3 a y v λH4=>D.nx σ H4
section
variable{X:Cx}{o:Expr}{pos:Pos}
def wQ(hu:X.A.units+64<cLine)(ho:PE X o td)(hi:PE X i ty)(hs:Fb i):PE X (.Subscript o i pos) (tGA td ty):=by
 intro pins s σ H Q I h;refine zi F.slot_dict_getitem.lookup hs (thn (ho pins s σ H _ I h) λu s1 ⟨x,H1,I1,rx,q1⟩=>thn (hi pins s1 σ H1 _ I1 q1) λiv s2 hz=>?_);obtain⟨y,H2,I2,ry,a,v,ex,g,q2⟩:=hz;subst ex;obtain rfl:u=Value.ref a:=rx;exact⟨kU I2 g,qE (by lia) I2 g ry λw' s3 I3 Iu=>⟨v,H2,I3,Iu,q2⟩⟩
def rF(hu:X.A.units+64<cLine):OpR X (compareOp .NotIn) (rIA L):=by
 intro pins s σ H y x v u Q I ry rx ⟨a,o,ex,g,q⟩;subst ex;obtain rfl:u=Value.ref a:=rx;exact wD (by lia) I g ry λs3 I3=>⟨.bl (!o.isSome),H,I3,rfl,q⟩
def nE(hu:X.A.units+64<cLine)(ho:PE X o td)(hi:PE X i ty)(hv:PE X value tv)(hs:swapsWith value (U (.Subscript o i pos')) pos.line X.env=pure Y):PS X (.Assign [.Subscript o i pos'] value pos) (sPA td ty tv):=by
 intro pins s σ H D I h;refine wpAny_Assign_Subscript (thn (hv pins s σ H _ I h) λr s1 ⟨v,H1,I1,rv,q1⟩=>thn (ho pins s1 σ H1 _ I1 q1) λu s2 ⟨x,H2,I2,rx,q2⟩=>thn (hi pins s2 σ H2 _ I2 q2) λiv s3 ⟨y,H3,I3,ry,a,ex,g⟩=>?_) hs;subst ex;obtain rfl:u=Value.ref a:=rx;exact qD (by lia) I3 g ry rv λH4 s4 I4 q3=>⟨σ,H4,I4,q3⟩
end
noncomputable def bP(x k:Z8 D):Z8 (Z8 D):=match x,k with
 |some (.dK ks vs),some d=>(match iB d with|some kk=>U (cj kk ks vs)|none=>M)
 |some (.dD ks vs),some d=>if(aW 8 d&&l8 d)=L then U (cj d ks vs) else M
 |_,_=>M
def eY{K:Z6}{B:ZM->Prop}{H:Hp}{d:D}{k:Key}{v:V}(h:iB d=U k)(r:Rep K B H d v):v=kV k:=by
 cases d<;>simp only[iB]at h<;>first
  |(cases h;simp only[Rep]at r;exact r)
  |trivial
def dj{K:Z6}{B:ZM->Prop}{H:Hp}{d:D}{v:V}(h:l8 d=L)(r:Rep K B H d v):∃b,v=.ref b:=by
 cases d<;>simp only[l8]at h<;>first
  |(simp only[Rep]at r;obtain⟨a,xs,e,_⟩:=r;exact⟨a,e⟩)
  |trivial
set_option tactic.hygienic true in
def cQ{K:Z6}{B B':ZM->Prop}{H:Hp}{x k:Z8 D}{o:Z8 D}(h:bP x k=U o):∃d e,x=U d/\k=U e/\∀{v u:V},Rep K B H d v->Rep K B' H e u->∃a r,v=.ref a/\DGA H a u r/\r.isSome=o.isSome/\∀z,o=U z->∃w,r=U w/\Rep K B H z w:=by
 unfold bP at h;split at h;rename_i ks vs d;split at h;rename_i kk hk;obtain rfl:=Z7 h;refine⟨_,_,rfl,rfl,λ{v u} r1 r2=>?_⟩;simp only[Rep]at r1;obtain⟨a,kvs,rfl,hq,rfl,rs⟩:=r1;have hu:=eY hk r2;obtain⟨n1,n2⟩:=c6 kk rs;refine⟨a,eO kvs kk,rfl,.inl ⟨kvs,kk,hq.imp And.right id,hu,rfl⟩,?_,λz hz=>n2 z hz⟩;cases q:cj kk (kvs.map (·.1)) vs with
 |none=>rw[n1 q];rfl
 |some z=>obtain⟨w,e,_⟩:=n2 z q;rw[e];rfl
 trivial;rename_i ks vs d;split at h;rename_i hk;obtain rfl:=Z7 h;rw[ZK]at hk;refine⟨_,_,rfl,rfl,λ{v u} r1 r2=>?_⟩;simp only[Rep]at r1;obtain⟨a,kvs,rfl,⟨ep,hq⟩,rfl,rs⟩:=r1;obtain⟨b,rfl⟩:=dj hk.2 r2;obtain⟨n1,n2⟩:=c6 d rs;refine⟨a,eO kvs d,rfl,.inr ⟨kvs,ep,d,b,hq.imp And.right id,rfl,hk.1,r2.key hk.1,rfl⟩,?_,λz hz=>n2 z hz⟩;cases q:cj d (kvs.map (·.1)) vs with
 |none=>rw[n1 q];rfl
 |some z=>obtain⟨w,e,_⟩:=n2 z q;rw[e];rfl
 trivial;trivial
def Bp(x k:Z8 D):Z8 D:=match bP x k with|some (some d)=>U d|_=>M
def Av(k x:Z8 D):Z8 Bool:=match bP x k with|some o=>U o.isSome|none=>M
section
variable{X:Cx}{a b:Expr}{fa fb:Mk->Z8 D}{m m' mm:Bool}{pos:Pos}
theorem Db(hu:X.A.units+64<cLine)(ha:DE X m a fa)(hb:DE X m' b fb)(hs:Fb b:=by intro _ _;rfl):DE X m (.Subscript a b pos) (λO=>Bp (fa O) (fb O)):=
 (wQ hu ha hb hs).imp λσ H Q hz=>by
  obtain⟨B,Hk,O,d,R,e,k⟩:=hz;dsimp only at e;unfold Bp at e;cases q:bP (fa O) (fb O)with
  |none=>rw[q]at e;trivial
  |some o=>
   rw[q]at e;cases o with
   |none=>trivial
   |some z=>
    obtain rfl:=Z7 e;obtain⟨d1,d2,e1,e2,_⟩:=cQ (K:=X.K) (B:=ba m B O σ) (B':=ba m' B O σ) (H:=H) q;refine two R e1 e2 λv u H' s R' r1 r2=>?_;obtain⟨TF,TC,Mm,Ml,go⟩:=cQ (K:=X.K) (B:=ba m B O σ) (B':=ba m' B O σ) (H:=H') q;rw[e1]at Mm;obtain rfl:=Z7 Mm;rw[e2]at Ml;obtain rfl:=Z7 Ml;obtain⟨c,r,ev,g,_,hz⟩:=go r1 r2;obtain⟨w,rfl,Iu⟩:=hz _ rfl;exact⟨c,w,ev,g,k w H' s Iu⟩
def tQ{K:Z6}{B B':ZM->Prop}{H:Hp}{x y:Z8 D}{c:Bool}(h:Av y x=U c):∃d e,x=U d/\y=U e/\∀{v u:V},Rep K B H d v->Rep K B' H e u->∃a r,v=.ref a/\DGA H a u r/\r.isSome=c:=by
 unfold Av at h;cases q:bP x y with
 |none=>rw[q]at h;trivial
 |some o=>
  rw[q]at h;obtain rfl:=Z7 h;obtain⟨d,e,e1,e2,go⟩:=cQ (K:=K) (B:=B) (B':=B') (H:=H) q;exact⟨d,e,e1,e2,λr1 r2=>by obtain⟨a,r,ev,g,hs,_⟩:=go r1 r2;exact⟨a,r,ev,g,hs⟩⟩
theorem rJ(hu:X.A.units+64<cLine)(ha:DE X m a fa)(hb:DE X m' b fb)(hm:behindInMarks .NotIn b=Y:=by rfl):DT X (.Compare a [.NotIn] [b] pos) (λO=>g8 (Av (fa O) (fb O))):=
 (cq (rF hu) ha hb hm).imp λσ H Q hz=>by
  obtain⟨B,Hk,O,d,R,e,k⟩:=hz;cases q:Av (fa O) (fb O)with
  |none=>simp only[q,g8]at e;trivial
  |some c=>
   simp only[q,g8]at e;obtain rfl:=Z7 e;obtain⟨d1,d2,e1,e2,_⟩:=tQ (K:=X.K) (B:=ba m' B O σ) (B':=ba m B O σ) (H:=H) q;refine two R e2 e1 λv u H' s R' r1 r2=>?_;obtain⟨TF,TC,Mm,Ml,go⟩:=tQ (K:=X.K) (B:=ba m' B O σ) (B':=ba m B O σ) (H:=H') q;rw[e1]at Mm;obtain rfl:=Z7 Mm;rw[e2]at Ml;obtain rfl:=Z7 Ml;obtain⟨p,r,ev,g,rfl⟩:=go r2 r1;exact⟨p,r,ev,g,_,rfl,k H' s⟩
end
section
def n9{κ:Type}[DecidableEq κ]{knd:PySem.KeyKind prog w κ}{d:ZM}{kvs:Z9 (κ×Z3)}{k:κ}{key dflt:Z3}{Q:Z3->ZR->Prop}(s_:knd.is k key=true)(hm:s.heap.DictOf knd d kvs)(hsz:kvs.length<=sizeLine)
  (old:∀v,valueAt kvs k=some v->Q v {s with toks:=s.toks+1})(new:valueAt kvs k=none->∀h',h'.DictOf knd d (stored kvs k dflt)->Heap.SameBut d s.heap h'->Q dflt {s with heap:=h',toks:=s.toks+1}):
  wpAny (model prog w) A (dictSetDefault d key dflt) Q E s:=by
 obtain⟨o,es,ep,ho,hc,hd,hk,hp,hn⟩:=hm;have Pq:es.size<=sizeLine:=by
  have e1:=hp.length;rw[Array.length_toList]at e1;lia
 have VD:(es.findIdx? λe=>knd.is k e.key)=kvs.findIdx? λkv=>decide (kv.1=k):=by rw[<-hp.findIdx k];obtain⟨l⟩:=es;simp
 have Ov:=hp.find k;unfold dictSetDefault
 try with_reducible refine Y4 ?_
 refine Z_ (knd.pyHash s_ (Z_ (wpAny_dictFind_of (s:={s with toks:=s.toks+1}) s_ ho hd hk ?_)));rcases hi:(es.findIdx? λe=>knd.is k e.key)with _|i<;>rw[hi];have L4:k∉kvs.map (·.1):=not_mem_of_findIdx_none (VD▸hi);have M3:¬(kvs.any λkv=>decide (kv.1=k))=true:=by
  rw[XR]
  rintro⟨kv,Vw,he⟩
  exact L4 (ZV.mpr ⟨kv,Vw,Zo he⟩)
 have hv:valueAt kvs k=none:=by
  unfold valueAt;rw[Option.map_eq_none_iff,W5];exact λx hx he=>M3 (XR.mpr ⟨x,hx,he⟩)
 refine Z_ (YC (Z_ (wpAny_updateDictKeys (hz:=Pq) (s:={s with toks:=s.toks+1}) ho hd (Z5 (new hv _ ⟨_,_,ep+1,Zh _ ho (Obj.isFreed_of_dict (W7 hd _)),hc.mapDictKeys _,W7 hd _,hk.push s_ _,?_,?_⟩ (Ze ..))))));rw[stored,ZJ M3];have q:=hp.append s_ (knd.hash k) dflt;obtain⟨l⟩:=es;simpa using q;rw[stored,ZJ M3,Y2,X1];refine⟨hn,by simp,λa ha b hb=>?_⟩;have Jj:b=k:=by simpa using hb
 exact λe=>L4 (by rw[<-Jj,<-e];exact ha);obtain⟨j_,_⟩:=Array.findIdx?_eq_some_iff_findIdx_eq.mp hi;have hv:valueAt kvs k=some es[i].val:=by
  have q:=hp.find k;rw[<-q];have hf:(es.toList.findIdx? λe=>knd.is k e.key)=some i:=by rw[<-hi];obtain⟨l⟩:=es;simp
  obtain⟨h1,h2,h3⟩:=List.findIdx?_eq_some_iff_getElem.mp hf;have:es.toList.find? (λe=>knd.is k e.key)=some es.toList[i]:=by
   rw[List.find?_eq_some_iff_getElem];exact⟨h2,i,h1,rfl,λj hj=>by simpa using h3 j hj⟩
  rw[this];simp
 refine Z_ (Wx (s:={s with toks:=s.toks+1}) ho hd ?_);rw[Zb j_];exact Z_ (YC (Z5 (old _ hv)))
def uo{κ:Type}[DecidableEq κ]{knd:HeapKind prog w κ}{d a:ZM}{xs:Z9 (κ×ZM×Z3)}{k:κ}{dflt:Z3}{Q:Z3->ZR->Prop}(hu:knd.room A)(s_:knd.is s.heap k a)(hm:s.heap.DictOfH knd d xs)(hsz:xs.length<=sizeLine)
  (old:∀p,atKey xs k=U p->Q p.2 {s with toks:=s.toks+knd.draws k})(new:atKey xs k=M->∀h',h'.DictOfH knd d (storedH xs k a dflt)->Heap.SameBut d s.heap h'->Q dflt {s with heap:=h',toks:=s.toks+knd.draws k}):
  wpAny (model prog w) A (dictSetDefault d (.ref a) dflt) Q E s:=by
 obtain⟨o,es,ep,ho,hc,hd,he,S1,hn⟩:=hm;unfold dictSetDefault
 try with_reducible refine Y4 ?_
 refine Z_ (knd.pyHash hu s_ (Z_ (wpAny_dictFind_heap (s:={s with toks:=s.toks+knd.draws k}) hu s_ ho hd he S1 hn (λJi=>?_) λj p hj=>?_)));have JZ:=atKey_none_of_get Ji;have L4:=not_mem_keys_of_get Ji;refine Z_ (YC (Z_ (wpAny_updateDictKeys (hz:=by have e:=W2 he;lia) (s:={s with toks:=s.toks+knd.draws k}) ho hd (Z5 (new JZ _ ⟨_,_,ep+1,Zh _ ho (Obj.isFreed_of_dict (W7 hd _)),hc.mapDictKeys _,W7 hd _,?_,?_,?_⟩ (Ze ..))))));rw[storedH_new JZ];simp[he,entryOfKey];rw[storedH_new JZ];intro x hx;rcases Zr.mp hx with hx|hx;exact knd.keeps (S1 x hx) ho hd (Ze ..);rw[Zv.mp hx];exact knd.keeps s_ ho hd (Ze ..);rw[storedH_new JZ,Y2,X1];refine⟨hn,by simp,λx hx y hy=>?_⟩;have U6:y=k:=by simpa using hy
 exact λe=>L4 (by rw[<-U6,<-e];exact hx);have JZ:=atKey_of_get hn hj;refine Z_ (Wx (s:={s with toks:=s.toks+knd.draws k}) ho hd ?_);rw[entry_at he j,hj];exact Z_ (YC (Z5 (old p JZ)))
end
section
variable{s:ZR}{v:V}{A:Za}
def jO{Q:Z3->ZR->Prop}{P:Y0}{w:YM}{d:ZM}{key dflt:Z3}(ty:s.TypeIs (.ref d) "dict")(hd:(d==sysModules)=Y)(h:wpAny (model P w) A.in1 (dictSetDefault d key dflt) Q E s):
  wpAny (model P w) A (call (.builtin "dict.setdefault") [.ref d,key,dflt]) Q E s:=by
 refine YV F.slot_dict_setdefault ty F.entry_dict_setdefault ?_ (F.args_dict_setdefault_3 _ _ _);unfold Builtin.«dict.setdefault»;refine Z_ ?_;unfold Builtin.Dict.keyAndDefault;refine Z_ (Wa ty (Z5 ?_));change wpAny _ _ (if(d==sysModules)=L then _ else(dictSetDefault d key dflt >>= _)) _ _ s;refine dM (by rw[hd];exact Zl) ?_;refine Z_ (YK h (λv s' q=>Z5 ⟨v,rfl,q⟩) λ_ _ q=>q)
end
def DSd(H:Hp)(a:ZM)(y z v:V)(N:Hp->Prop):Prop:=(DGA H a y (U v)/\N H/\((∃kvs,H a=U (.dK kvs))\/∃kvs ep,H a=U (.dD kvs ep)))\/(DGA H a y M/\v=z/\DPA H a y z N)
section
variable{A:Za}
def rZ{Q:Z3->ZR->Prop}(hu:A.units+40<cLine)(I:Inv X pins σ H s)(g:DSd H a y z v N)(ry:RelV y u)(rz:RelV z r)(h:∀w' H' s',Inv X pins σ H' s'->N H'->RelV v w'->Q w' s'):
  wpAny (model X.prog X.w) A (call (.builtin "dict.setdefault") [.ref a,u,r]) Q E s:=by
 have ty:s.TypeIs (.ref a) "dict":=by rcases g with⟨g,_⟩|⟨g,_⟩<;>exact kU I g
 rcases g with⟨g,nn,own⟩|⟨g,rfl,p⟩;rcases g with⟨kvs,k,e,ey,l⟩|⟨kvs,ep,k,b,e,ey,hk,kb,l⟩;subst ey;obtain⟨z1,hd,vs,rel,dd⟩:=m7 I.hok e;obtain⟨w',hw,Iu⟩:=aaV.some_of (v:=v) (o:=valueAt vs k) (by rw[l];exact rel.val k);refine jO ty hd (n9 (lR ry) dd (by rw[<-rel.length];exact z1) (λv' Jz=>?_) λhn=>?_);rw[hw]at Jz;obtain rfl:=Z7 Jz;exact h w' _ _ (I.tok _) nn Iu;rw[hw]at hn;trivial;subst ey;cases (show u=Value.ref b from ry);obtain⟨z1,hd,xs,rel,dd⟩:=jK I.hok e;obtain⟨w',hw,Iu⟩:=aaV.some_of (v:=v) (o:=(atKey xs k).map (·.2)) (by rw[l];exact rel.val k);obtain⟨p,hp,LP⟩:=Xl.mp hw;refine jO ty hd (uo (knd:=bi X.prog X.w) (by show A.units+1+30<cLine;lia) (cC I hk kb) dd (by rw[<-Yn rel];exact z1) (λp' I_=>?_) λhn=>?_);rw[hp]at I_;obtain rfl:=Z7 I_;rw[LP];exact h w' _ _ (I.tok _) nn Iu;rw[hp]at hn;trivial
 .rcases p with⟨H',⟨kvs,k,e,ey,l,eH⟩,nn⟩|⟨kvs,ep,k,b,e,ey,hk,kb,l,nn⟩
  .subst ey eH
   obtain⟨z1,hd,vs,rel,dd⟩:=Cr I.hok e;have hn:valueAt vs k=M:=by
    rcases g with⟨MR,k',e',NI,l'⟩|⟨MR,C_,k',b',e',NI,_,_,l'⟩
    .have N4:k'=k:=by cases k<;>cases k'<;>simp[kV]at NI<;>rw[NI]
     subst N4;rcases e' with e'|⟨o,e'⟩;rw[e]at e';cases e';exact aaV.none_of (by rw[l'];exact rel.val k');rw[e]at e';cases e'
    .rcases e' with e'|⟨o,e'⟩<;>(rw[e]at e';cases e')
   refine jO ty hd (n9 (lR ry) dd (by rw[<-rel.length];exact z1) (λv' Jz=>?_) λ_ h' KA hs=>?_);rw[hn]at Jz;trivial;have hl:(dn kvs k v).length<=sizeLine:=by have:=bA kvs k v;lia
   have he:∃q,h'.get? a=U q:=let ⟨q,_,_,hq,_⟩:=KA;⟨q,hq⟩
   exact h r _ _ (gh I (by rw[e];exact True.intro) hs he (yw hl hd (rel.put k rz) KA)) nn rz
  .subst ey
   cases (show u=Value.ref b from ry);obtain⟨z1,hd,xs,rel,dd⟩:=jK I.hok (.inl e);have hn:(atKey xs k).map (·.2)=M:=by
    rcases g with⟨MR,k',e',NI,l'⟩|⟨MR,C_,k',b',e',NI,Kw,U3,l'⟩
    .rcases e' with e'|⟨o,e'⟩<;>(rw[e]at e';cases e')
    cases NI;have N4:k'=k:=RH.inj (cC I Kw U3).2 (cC I hk kb).2;subst N4;rcases e' with e'|⟨o,e'⟩;rw[e]at e';cases e';exact aaV.none_of (by rw[l'];exact rel.val k');rw[e]at e';cases e'
   refine jO ty hd (uo (knd:=bi X.prog X.w) (by show A.units+1+30<cLine;lia) (cC I hk kb) dd (by rw[<-Yn rel];exact z1) (λp' I_=>?_) λ_ h' KA hs=>?_);rw[I_]at hn;trivial;have hl:(dn kvs k v).length<=sizeLine:=by have:=bA kvs k v;lia
   obtain⟨q,es,C_,hq,h2,h3,h4,_,h5⟩:=KA;refine h r (upd H a (.dD (dn kvs k v) C_)) _ (gh I (by rw[e];exact True.intro) hs ⟨q,hq⟩ ⟨hl,hd,_,Paired.abV (rel.put k hk kb rz) λp q z=>⟨z.1,z.2.1,KR.to (λc ys ec=>?_) z.2.2.1,z.2.2.2⟩,q,es,hq,h2,h3,h4,h5⟩) (nn C_) rz;rw[ai (mf ec e (λz=>nomatch z))];exact ec
end
def ab1:TE:=λ_ H Q=>∀p,H p=M->Q (.ref p) (upd H p (.dD [] 0))
section
variable{X:Cx}{pos:Pos}{a b:Expr}{i:Nat}{x:Str}
def jC:PE X (.Dict [] [] pos) ab1:=λpins s σ H Q I h=>
 wpAny_Dict_empty ⟨.ref s.z,_,I.laid (a:=s.z) (o:=.dD [] 0) (t':=s.toks) (λ_ _ q=>Z4 _ q) (ZU _) (nN I.big),rfl,h _ (I.hok.fresh (ZU _))⟩
theorem vt:DF X (.Dict [] [] pos) (λ_=>U (.dK [] [])):=xi.imp λσ H Q hz=>by
 obtain⟨B,Hk,q,d,R,e,k⟩:=hz;obtain rfl:=Z7 e;intro p hp;exact k p _ (ar hp) hp ⟨[],ah,rfl,M1.nil⟩
theorem vR:DF X (.Dict [] [] pos) (λ_=>U (.dD [] [])):=jC.imp λσ H Q hz=>by
 obtain⟨B,Hk,q,d,R,e,k⟩:=hz;obtain rfl:=Z7 e;intro p hp;exact k p _ (ar hp) hp ⟨[],⟨0,ah⟩,rfl,M1.nil⟩
noncomputable def kD(x:D)(k v:D):Z8 D:=match x with
 |.dK ks vs=>(match iB k with|some kk=>if ks.length<lim then U (.dK (jM kk ks) (xN kk v ks vs)) else M|none=>M)
 |.dD ks vs=>if(aW 8 k&&l8 k&&decide (ks.length<lim))=L then U (.dD (jM k ks) (xN k v ks vs)) else M
 |_=>M
noncomputable def wu(i:Nat)(k v:Z8 D)(q:Mk):Z8 Out:=match ca i q,k,v with
 |some x,some k,some v=>(match kD x k v with|some y=>U (.next (q.set i (U (y,L))))|none=>M)
 |_,_,_=>M
set_option tactic.hygienic true in
def oM{K:Z6}{B B':ZM->Prop}{H:Hp}{x k v y:D}{l:ZM}{u z:V}(h:kD x k v=U y)(ob:ObR K B H x l)(rk:Rep K B' H k u)(rz:Rep K B H v z):
  ∀{N:Hp->Prop},(∀o,(Ext B H (upd H l o)->ObR K B (upd H l o) y l)->N (upd H l o))->DPA H l u z N:=by
 intro N go;unfold kD at h;split at h;rename_i ks vs;obtain⟨kvs,e,rfl,rs⟩:=ob;split at h;rename_i kk hk;split at h;rename_i hl;obtain rfl:=Z7 h;rw[Z0]at hl;exact .inl ⟨_,⟨kvs,kk,e,eY hk rk,ZA hl (aJ (ZU _)),rfl⟩,go _ λex=>⟨_,ah,eK kk z kvs,(jw rz kk rs).ext ex⟩⟩;trivial;trivial;rename_i ks vs;obtain⟨kvs,⟨ep,e⟩,rfl,rs⟩:=ob;split at h;rename_i hc;obtain rfl:=Z7 h;rw[ZK,ZK,Y_,Z0]at hc;obtain⟨⟨h1,h2⟩,h3⟩:=hc;obtain⟨b,rfl⟩:=dj h2 rk;exact .inr ⟨kvs,ep,k,b,e,rfl,h1,rk.key h1,ZA h3 (aJ (ZU _)),λC_=>go _ λex=>⟨_,⟨C_,ah⟩,eK k z kvs,(jw rz k rs).ext ex⟩⟩;trivial;trivial
set_option tactic.hygienic true in
theorem Be(hu:X.A.units+64<cLine)(n:Nm X i x)(hb:DE X m b fb)(hv:DE X Y c fc)(hs:swapsWith c (U (.Subscript (.Name x px) b pos')) pos.line X.env=pure Y:=by rfl):
  DS X (.Assign [.Subscript (.Name x px) b pos'] c pos) (λO=>wu i (fb O) (fc O) O):=
 (nE hu (bF n.at' n.vis n.d1 n.d2) hb hv hs).imp λDn σ H hz=>by
  obtain⟨B,Hk,O,o,R,e,k⟩:=hz;dsimp only at e;unfold wu at e;split at e;rename_i d0 kd vd q0 q1 q2;split at e;rename_i y qy;obtain rfl:=Z7 e;have h1:=cf q0;refine⟨B,Hk,O,vd,R,q2,λz H1 s1 rz=>?_⟩;have R1:=R.to s1;obtain⟨l,h2,h3,ob⟩:=R1.own i _ h1;refine⟨.ref l,h2,B,Hk,O,kd,R1,q1,λu H2 s2 rk=>?_⟩;have R2:=R1.to s2;have US:=ob.ext (R1.ext s2) λo q n=>s2.get l o n q;refine⟨l,rfl,oM qy US rk (rz.ext (R1.ext s2)) λho new=>?_⟩;obtain⟨x1,x2⟩:=R2.oset h1 h2 new;exact k σ _ ((R.ext (s1.trans s2)).trans x1) x2;trivial;trivial
end
def oX(x:V)(H:Hp):Prop:=∃a,x=.ref a/\((∃kvs,Rd H a (.dK kvs))\/∃kvs ep,Rd H a (.dD kvs ep))
section
variable{X:Cx}{pos i_ apos px:Pos}{m m' mm:Bool}{o a b c e:Expr}{es:Z9 Expr}{fa fb fc:Mk->Z8 D}{i:Nat}{x:Str}{to:TE}{t:TA}{name:Str}{id:String}{r:V->Z9 V->Hp->VK->Prop}
def sJ(I:Inv X pins σ H s)(rv:RelV v u)(d:oX v H):s.TypeIs u "dict"/\∀a,u=.ref a->∃ob,s.heap.get? a=U ob/\ob.dict=M:=by
 obtain⟨a,rfl,d⟩:=d;obtain rfl:u=Value.ref a:=rv;rcases d with⟨kvs,e⟩|⟨kvs,ep,e⟩;obtain⟨_,_,vs,_,dd⟩:=m7 I.hok e;refine⟨dd.typeIs,λb q=>?_⟩;cases q;obtain⟨ob,_,_,h1,h2,_⟩:=dd;exact⟨ob,h1,h2.2.1⟩;obtain⟨_,_,xs,_,dd⟩:=jK I.hok e;refine⟨dd.typeIs,λb q=>?_⟩;cases q;obtain⟨ob,_,_,h1,h2,_⟩:=dd;exact⟨ob,h1,h2.2.1⟩
def FO(r:V->Z9 V->Hp->VK->Prop)(to:TE)(t:TA):TE:=λσ H Q=>to σ H λx H1=>oX x H1/\t σ H1 λxs H2=>r x xs H2 Q
def uP(slot:Slot "dict" name id)(Qy:typeOf (.builtin id)=pure (.type "method_descriptor"))(hm:MtM X id r)(ho:PE X o to)(ha:PA X (e::es) t)(base:attributeBase o name X.env (eval o X.env)=eval o X.env:=by rfl)(few:((backTo i_ (starEach (e::es) X.env)).all (λx=>!x.1)&&(backToKw i_ (keywordEach [] X.env)).all (λx=>x.1.isSome)&&decide ((e::es).length+([]:Z9 Keyword).length+(if([]:Z9 Keyword).isEmpty then 0 else 1)<30))=L:=by rfl)(line:(apos.endLine==i_.line)=L:=by rfl)(Ir:starEach (e::es) X.env=(Y,eval e X.env)::starEach es X.env:=by rfl)(plain:(backTo i_ (starEach es X.env)).any (·.1)=Y:=by rfl):
  PE X (.Call (.Attribute o name apos) (e::es) [] i_) (FO r to t):=by
 intro pins s σ H Q I h;refine wpAny_Call_method_late base few line rfl (thn (ho pins s σ H _ I h) λv s1 hz=>?_);obtain⟨x,H1,I1,r1,d1,q1⟩:=hz;obtain⟨h1,h2⟩:=sJ I1 r1 d1;have hA:=ha i_ pins s1 σ H1 _ I1 q1;refine⟨"dict",id,F.plainAttrs_dict,slot,Qy,h1,h2,?_⟩;rw[Ir]at hA⊢;exact Calls.callWith_builtin (by show(Y||(backTo i_ (starEach es X.env)).any (·.1))=Y;rw[plain]<;>rfl) (Calls.evalArgs_plain (thn hA λus s2 hz=>by obtain⟨vs,H2,I2,r2,q2⟩:=hz;exact hm pins s2 σ H2 x vs v us Q I2 r1 r2 q2))
def abQ:V->Z9 V->Hp->VK->Prop:=λx vs H Q=>∃l y z v,x=.ref l/\vs=[y,z]/\DSd H l y z v λH'=>Q v H'
def kY(hu:X.A.units+64<cLine):MtM X "dict.setdefault" abQ:=by
 intro pins s σ H x vs v us Q I rx rv h;obtain⟨l,y,z,w,rfl,rfl,g⟩:=h;cases rx;obtain⟨u1,u2,rfl,r1,r2⟩:=rv.two;exact rZ (by lia) I g r1 r2 λw' H' s' I' q Iu=>⟨w,H',I',Iu,q⟩
noncomputable def tMX(K:Z6)(g:Mk->Z8 (D×Mk)):TE:=λσ H Q=>∃B Hk q d d_,Rel K B Hk q σ H/\g q=U (d,d_)/\∀v H',Ext B H H'->Rel K B Hk d_ σ H'->Rep K B H' d v->Q v H'
noncomputable def Ib(K:Z6)(g:Mk->Z8 (Bool×Mk)):TT:=λσ H Q=>∃B Hk q b d_,Rel K B Hk q σ H/\g q=U (b,d_)/\∀H',Ext B H H'->Rel K B Hk d_ σ H'->Q b H'
abbrev DX(X:Cx)(e:Expr)(g:Mk->Z8 (D×Mk)):Prop:=PE X e (tMX X.K g)
abbrev DTX(X:Cx)(e:Expr)(g:Mk->Z8 (Bool×Mk)):Prop:=PT X e (Ib X.K g)
noncomputable def sdO(i:Nat)(k v:Z8 D)(q:Mk):Z8 (D×Mk):=match ca i q,k,v with
 |some x,some kd,some vd=>(match bP (U x) (U kd)with
  |some (some d)=>U (d,q)
  |some none=>(match kD x kd vd with|some y=>U (vd,q.set i (U (y,L)))|none=>M)
  |none=>M)
 |_,_,_=>M
def ObR.dictAt{K:Z6}{B:ZM->Prop}{H:Hp}{x k v y:D}{l:ZM}{o:Z8 D}(ob:ObR K B H x l)(h:bP (U x) (U k)=U o):oX (.ref l) H/\((∃kvs,H l=U (.dK kvs))\/∃kvs ep,H l=U (.dD kvs ep)):=by
 cases x with
 |dK ks vs=>obtain⟨kvs,e,_⟩:=ob;exact⟨⟨l,rfl,.inl ⟨kvs,.inl e⟩⟩,.inl ⟨kvs,e⟩⟩
 |dD ks vs=>obtain⟨kvs,⟨ep,e⟩,_⟩:=ob;exact⟨⟨l,rfl,.inr ⟨kvs,ep,.inl e⟩⟩,.inr ⟨kvs,ep,e⟩⟩
 |_=>simp only[bP]at h;trivial
def ObR.get{K:Z6}{B B':ZM->Prop}{H:Hp}{x k:D}{l:ZM}{o:Z8 D}{u:V}(ob:ObR K B H x l)(h:bP (U x) (U k)=U o)(rk:Rep K B' H k u):
  ∃r,DGA H l u r/\r.isSome=o.isSome/\∀z,o=U z->∃w,r=U w/\Rep K B H z w:=by
 cases x with
 |dK ks vs=>
  obtain⟨kvs,e,rfl,rs⟩:=ob;simp only[bP]at h;split at h;rename_i kk hk;obtain⟨n1,n2⟩:=c6 kk rs;have h':cj kk (kvs.map (·.1)) vs=o:=Z7 h;refine⟨eO kvs kk,.inl ⟨kvs,kk,.inl e,eY hk rk,rfl⟩,?_,λz hz=>n2 z (h'.trans hz)⟩;rw[<-h'];cases q:cj kk (kvs.map (·.1)) vs with
  |none=>rw[n1 q];rfl
  |some z=>obtain⟨w,e,_⟩:=n2 z q;rw[e];rfl
  trivial
 |dD ks vs=>
  obtain⟨kvs,⟨ep,e⟩,rfl,rs⟩:=ob;simp only[bP]at h;split at h;rename_i hk;rw[ZK]at hk;obtain⟨b,rfl⟩:=dj hk.2 rk;obtain⟨n1,n2⟩:=c6 k rs;have h':cj k (kvs.map (·.1)) vs=o:=Z7 h;refine⟨eO kvs k,.inr ⟨kvs,ep,k,b,.inl e,rfl,hk.1,rk.key hk.1,rfl⟩,?_,λz hz=>n2 z (h'.trans hz)⟩;rw[<-h'];cases q:cj k (kvs.map (·.1)) vs with
  |none=>rw[n1 q];rfl
  |some z=>obtain⟨w,e,_⟩:=n2 z q;rw[e];rfl
  trivial
 |_=>simp only[bP]at h;trivial
set_option tactic.hygienic true in
theorem qX(hu:X.A.units+64<cLine)(n:Nm X i x)(hb:DE X Y b fb)(hc:DE X Y c fc)(base:attributeBase (.Name x px) "setdefault" X.env (eval (.Name x px) X.env)=eval (.Name x px) X.env:=by rfl)(few:((backTo i_ (starEach [b,c] X.env)).all (λx=>!x.1)&&(backToKw i_ (keywordEach [] X.env)).all (λx=>x.1.isSome)&&decide (([b,c]).length+([]:Z9 Keyword).length+(if([]:Z9 Keyword).isEmpty then 0 else 1)<30))=L:=by rfl)(line:(apos.endLine==i_.line)=L:=by rfl)(Ir:starEach [b,c] X.env=(Y,eval b X.env)::starEach [c] X.env:=by rfl)(IW:starEach [c] X.env=[(Y,eval c X.env)]:=by rfl)(plain:(backTo i_ (starEach [c] X.env)).any (·.1)=Y:=by rfl):
  DX X (.Call (.Attribute (.Name x px) "setdefault" apos) [b,c] [] i_) (λO=>sdO i (fb O) (fc O) O):=
 (uP F.slot_dict_setdefault F.type_dict_setdefault (kY hu) (bF n.at' n.vis n.d1 n.d2) (ay hb (ay hc aQ IW) Ir) base few line Ir plain).imp λσ H Q hz=>by
  obtain⟨B,Hk,O,d,d_,R,e,k⟩:=hz;dsimp only at e;unfold sdO at e;split at e;rename_i d0 kd vd q0 q1 q2;have h1:=cf q0;obtain⟨l,h2,h3,ob⟩:=R.own i _ h1;obtain⟨og,Pg⟩:∃o,bP (U d0) (U kd)=U o:=by
   cases q:bP (U d0) (U kd)with
   |none=>rw[q]at e;trivial
   |some o=>exact⟨o,rfl⟩
  refine⟨.ref l,h2,(ob.dictAt (v:=vd) (y:=d0) Pg).1,two (m:=Y) (m':=Y) R q1 q2 λu z H' s R' r1 r2=>?_⟩;have Mu:=ob.ext (R.ext s) λo q n=>s.get l o n q;have ow:=(Mu.dictAt (v:=vd) (y:=d0) Pg).2;obtain⟨rr,g,gs,gz⟩:=Mu.get Pg r1;rw[Pg]at e;cases og with
  |some dd=>
   simp only at e;cases e;obtain⟨w,rfl,Iu⟩:=gz _ rfl;exact⟨l,u,z,w,rfl,rfl,.inl ⟨g,k w H' (R.ext s) R' Iu,ow⟩⟩
  |none=>
   simp only at e;split at e;rename_i y qy;cases e;have hr:rr=M:=by cases rr with
    |none=>rfl
    |some _=>simp at gs
   subst hr;refine⟨l,u,z,z,rfl,rfl,.inr ⟨g,rfl,oM qy Mu r1 r2 λho new=>?_⟩⟩;obtain⟨x1,x2⟩:=R'.oset h1 h2 new;exact k z _ ((R.ext s).trans x1) x2 (r2.ext x1);trivial
  trivial
def BR(hu:X.A.units+64<cLine)(ha:DX X a ga)(hb:DE X Y b fb)(hm:behindInMarks .NotEq b=Y:=by rfl):
  DTX X (.Compare a [.NotEq] [b] pos) (λO=>ae (ga O) λp=>match neO (U p.1) (fb p.2)with|some c=>U (c,p.2)|none=>M):=
 (cq (tZ hu) ha hb hm).imp λσ H Q hz=>by
  obtain⟨B,Hk,O,t,d_,R,e,k⟩:=hz;obtain⟨⟨d1,x_⟩,e1,e2⟩:=ak e;simp only at e2;split at e2;rename_i cc qc;cases e2;refine⟨B,Hk,O,d1,_,R,e1,λv H1 x1 R1 r1=>?_⟩;unfold neO g8 at qc;cases q:eqO (U d1) (fb d_)with
  |none=>rw[q]at qc;trivial
  |some c0=>
   rw[q]at qc;obtain rfl:=Z7 qc;obtain⟨d,d2,z1,z2,h1,h2,rfl⟩:=d6 q;obtain rfl:=Z7 z1;refine⟨B,Hk,d_,d2,R1,z2,λu H2 s2 r2=>⟨B,_,d1,d2,h1,h2,r1.ext (R1.ext s2),r2,_,rfl,k H2 (x1.trans (R1.ext s2)) (R1.to s2)⟩⟩
  trivial
noncomputable def ifX(t:Z8 (Bool×Mk))(g1 g2:Mk->Z8 Out):Z8 Out:=match t with
 |some (true,q)=>g1 q
 |some (false,q)=>g2 q
 |none=>M
set_option tactic.hygienic true in
theorem Ch{x y:Z9 Stmt}(hc:DTX X c gt)(ha:DSs X x g1)(hb:DSs X y g2):DS X (.If c x y pos) (λO=>ifX (gt O) g1 g2):=
 (B5 hc ha hb).imp λDn σ H hz=>by
  obtain⟨B,Hk,O,o,R,e,k⟩:=hz;dsimp only at e;unfold ifX at e;split at e;rename_i d_ q;exact⟨B,Hk,O,L,d_,R,q,λH1 x1 R1=>zG ⟨B,Hk,d_,o,R1,e,k.ext x1⟩⟩;rename_i d_ q;exact⟨B,Hk,O,Y,d_,R,q,λH1 x1 R1=>Aw ⟨B,Hk,d_,o,R1,e,k.ext x1⟩⟩;trivial
end
section
variable{A:Za}
def j4(hd:(d==sysModules)=Y)(ho:s.heap.get? d=U o)(hc:o.ExactDict)(r_:o.data=.dict es ep)(hQ:Q (.ref s.z) {s with heap:=s.heap.push {cls:=.type "dict_keyiterator",data:=.fields #[.ref d,.int 0 0,.int es.size 0,.int ep 0]}}):wpAny (model prog w) A (pyIter (.ref d)) Q E s:=by
 have ty:s.TypeIs (.ref d) "dict":=⟨o,ho,hc.1⟩;refine wpAny_pyIter_slot ty F.slot_dict_iter (YV F.slot_dict_iter ty F.entry_dict_iter ?_ (F.args_dict_iter_1 _));unfold Builtin.«dict.__iter__»;refine Z_ ?_;unfold Builtin.Dict.dictSlotNone;refine Z_ (Wa ty (Z5 ?_));change wpAny _ _ (Builtin.Dict.showsAll d >>= _) _ E s;unfold Builtin.Dict.showsAll;rw[ZJ (by rw[hd];exact Zl)];refine Z_ (Z5 (Z_ (Wx ho r_ (Z_ (wpAny_dictEpoch ho r_ (Z_ (Y1 (Z5 ⟨_,rfl,"dict_keyiterator",_,⟨_,ZN _ rfl,rfl⟩,WZ.lookup,?_⟩))))))));simpa[rawInt]using hQ
def eC(hh:A.handled=M)(hit:s.heap.IsKeyIter it d i es.size ep)(ho:s.heap.get? d=U o)(r_:o.data=.dict es ep)(item:∀e,es[i]?=U e->∀h',h'.IsKeyIter it d (i+1) es.size ep->Heap.SameBut it s.heap h'->Q (U e.key) {s with heap:=h'})(stop:es[i]?=M->∀h',Heap.ExtBut it s.heap h'->Q M {s with heap:=h'}):wpAny (model prog w) A (pyNext (.ref it)) Q E s:=by
 obtain⟨oi,gi,ci,di⟩:=id hit;unfold pyNext;refine Z_ (XO (Yx (name:=Str.ofString "__next__") hit.typeIs WZ (YV WZ hit.typeIs F.entry_dict_keyiterator_next ?_ (F.args_dict_keyiterator_next_1 _))));refine Z_ (Z5 (Z_ (Z_ ?_)))
 first|refine Z_ (W8 hit.typeIs (Z5 ?_))|refine Z_ (Ws hit.typeIs (Z5 ?_))
 refine Z_ (WL gi di ?_);simp only[show Builtin.Dict_items.ownsTuple "dict_keyiterator"=Y by decide,ZY,Zj];change wpAny _ _ (if(Value.ref d==Value.none)=L then _ else _) _ _ s;refine dM (by exact Zl) ?_;refine Z_ (Z5 (Z_ (Wx ho r_ ?_)));refine dM (by simp) ?_;refine Z_ (Z5 (Z_ (wpAny_dictEpoch ho r_ ?_)));refine dM (by simp) ?_;refine Z5 ?_;by_cases j_:i<es.size
 .have hx:=Zb j_
  simp only[show ¬((i:Int)<0) from by lia,Zj,Int.toNat_natCast,hx];refine Z_ ?_
  first|refine Z_ (W8 hit.typeIs (Z5 ?_))|refine Z_ (Ws hit.typeIs (Z5 ?_))
  refine Z_ (wpAny_isOneOf_keyiter hit.typeIs ?_);change wpAny _ _ (setField (.ref it) 1 (rawInt ((i:Int)+1)) >>= _) _ _ s;have nx:(s.heap.update it (Obj.mapFields (·.setIfInBounds 1 (rawInt ((i:Int)+1))))).IsKeyIter it d (i+1) es.size ep:=⟨_,Zh _ gi (XY (Y3 di _)),(Xe ..).trans ci,by rw[Y3 di];simp[rawInt]⟩
  refine Z_ (Ye gi di (by simp) (Z_ (Y4 (Z_ (wpAny_isOneOf_keyiter (s:={s with heap:=s.heap.update it (Obj.mapFields (·.setIfInBounds 1 (rawInt ((i:Int)+1))))}) nx.typeIs ?_)))));change wpAny _ _ (pure es[i].key) _ _ _;exact Z5 (Z5 ⟨_,rfl,Z5 (item _ hx _ nx (Ze ..))⟩)
 .have hx:es[i]?=M:=XJ (by lia)
  simp only[show ¬((i:Int)<0) from by lia,Zj,Int.toNat_natCast,hx];refine Z_ ?_
  first|refine Z_ (W8 hit.typeIs (Z5 ?_))|refine Z_ (Ws hit.typeIs (Z5 ?_))
  change wpAny _ _ (setField (.ref it) 0 .none >>= _) _ _ s;refine Z_ (Ye gi di (by simp) ?_);change wpAny _ _ (newExc (.type "StopIteration") [] >>= _) _ _ _;simp only[newExc,newTuple,raiseNew];refine Z_ (Z_ (Y1 ?_ (by size_fits)));refine Z_ (m:=firstArgMember _ _) (V_ (a:=Value.none) (by first|rfl|(simp only[firstArgMember];rfl)) (Y1 ?_ (by size_fits)));refine Z_ (wpAny_handled ?_);rw[show A.in1.handled=M from hh];refine Z_ (Z5 (wpAny_throw ?_));refine Z_ (X5 (T:="StopIteration") (b:=L) ⟨_,ZN _ rfl,rfl⟩ WK ?_);exact Z5 (stop hx _ (((Ze ..).extBut.push _).push _))
end
noncomputable def Itk(a:ZM)(kvs:Z9 (D×V))(ep:Nat):It:=
 ⟨λi H=>Rd H a (.dD kvs ep)/\i<kvs.length,λi H v H'=>H'=H/\∃p,kvs[i]?=U p/\KR H p.1 v,λi H=>Rd H a (.dD kvs ep)/\kvs.length<=i⟩
theorem aar.get:∀{kvs:Z9 (D×V)}{xs:Z9 (D×ZM×Z3)}{i:Nat}{p:D×V},aar H kvs xs->kvs[i]?=U p->∃q,xs[i]?=U q/\KR H p.1 (.ref q.2.1)
 |_,_,_,_,.nil,h=>by simp at h
 |_,_,0,_,.cons r _,h=>by simp at h;subst h;exact⟨_,rfl,r.2.2.1⟩
 |_,_,i+1,p,.cons _ t,h=>by
  obtain⟨q,h1,h2⟩:=aar.get (i:=i) (p:=p) t (by simpa using h);exact⟨q,by simpa using h1,h2⟩
def sr{P:Y0}{w:YM}{K:Z6}{tg:Expr}{a it:ZM}{kvs:Z9 (D×V)}{ep:Nat}:Turn P w K tg (Itk a kvs ep) [it] it (λi h=>h.IsKeyIter it a i kvs.length ep) where
 mem:=by simp
 obj:=λi h st b hb=>by
  have e:b=it:=by simpa using hb
  subst e;obtain⟨o,e,c,d⟩:=st;exact⟨o,e,λv z=>by rw[d]at z;cases z⟩
 keep:=λi h h' st k=>st.at λo e=>k it (by simp) o e
 item:=by
  intro X hP hw hK hc i pins s σ H E I hf st hg;subst hP hw hK;obtain⟨rd,hi⟩:=hg;obtain⟨z,y,xs,r,o,es,h1,h2,h3,h4,h5⟩:=(show aam X.prog X.w H s.heap a (.dD kvs ep) from qI I.hok rd)
  have hsz:es.size=kvs.length:=by rw[W2 h4,<-Yn r]
  have hp:kvs[i]?=U kvs[i]:=by simp[hi]
  obtain⟨q,hq,kr⟩:=r.get hp;obtain⟨f0,f1,f2,f3,f4,f5⟩:=hf it (by simp);rw[<-hsz]at st;refine eC (I.ok.hd hc) st h1 h3 (λe he h' f_ sb=>?_) λhn=>?_;have ek:e.key=.ref q.2.1:=by
   rw[entry_at h4 i,hq]at he;have:=Z7 he;rw[<-this];rfl
  have I1:Inv X pins σ H {s with heap:=h'}:=I.turned (t':=s.toks) (λb o hb e=>(sb.2 b hb).trans e) f0 f1 f3 f4 f5;rw[hsz]at f_;obtain⟨o',e',c',d'⟩:=id f_;rw[ek];exact⟨_,rfl,vT (s:={s with heap:=h'}) e' c' d' (by decide) ⟨.ref q.2.1,H,I1,rfl,⟨rfl,kvs[i],hp,kr⟩,f_,λb hb=>(hf b hb).1⟩⟩;exfalso;rw[Zb (by lia)]at hn;trivial
 done:=by
  intro X hP hw hK hc i pins s σ H E I hf st hg;subst hP hw hK;obtain⟨rd,hi⟩:=hg;obtain⟨z,y,xs,r,o,es,h1,h2,h3,h4,h5⟩:=(show aam X.prog X.w H s.heap a (.dD kvs ep) from qI I.hok rd)
  have hsz:es.size=kvs.length:=by rw[W2 h4,<-Yn r]
  obtain⟨f0,f1,f2,f3,f4,f5⟩:=hf it (by simp);rw[<-hsz]at st;refine eC (I.ok.hd hc) st h1 h3 (λe he h' f_ sb=>?_) λhn h' eb=>⟨rfl,I.turned (t':=s.toks) (λb o hb e=>eb b o hb e) f0 f1 f3 f4 f5⟩
  exfalso;rw[XJ (by lia)]at he;trivial
 self:=λ_ _ _ _ _ st h=>wpAny_pyIter_keyiter st h
section
variable{a:Expr}
def Em(te:TE):TI:=λσ H R=>te σ H λx H1=>∃a kvs ep,x=.ref a/\Rd H1 a (.dD kvs ep)/\R (Itk a kvs ep) H1
def AS{te:TE}(h:PE X a te):PI X tg a (Em te):=by
 intro pins s σ H R I hq;refine thn (h pins s σ H _ I hq) λv s1 hz=>?_;obtain⟨x,H1,I1,r1,l,kvs,ep,e,rd,q⟩:=hz;subst e;cases r1;obtain⟨z,y,xs,r,o,es,h1,h2,h3,h4,h5⟩:=(show aam X.prog X.w H1 s1.heap l (.dD kvs ep) from qI I1.hok rd)
 have hsz:es.size=kvs.length:=by rw[W2 h4,<-Yn r]
 refine j4 y h1 h2 h3 ?_;rw[hsz];refine⟨s1.z,[s1.z],_,_,H1,rfl,I1.kept (t':=s1.toks) λb o e=>Z4 _ e,sr,⟨_,ZN _ rfl,rfl,rfl⟩,λb hb=>?_,q⟩;have e:b=s1.z:=by simpa using hb
 subst e;exact I1.abm (ZU _) (I1.hok.fresh (ZU _))
def vw(x:Z8 D):Z8 (Z9 D):=match x with|some (.dD ks vs)=>U ks|_=>M
set_option tactic.hygienic true in
theorem zt(h:DE X m a fa):DI X m tg a (λq=>vw (fa q)):=
 (AS h).imp λσ H Q hz=>by
  obtain⟨B,Hk,q,ds,R,e,k⟩:=hz;dsimp only at e;unfold vw at e;split at e;rename_i ks vs q1;obtain rfl:=Z7 e;refine⟨B,Hk,q,_,R,q1,λv H' s r=>?_⟩;simp only[Rep]at r;obtain⟨l,kvs,rfl,⟨ep,hq⟩,rfl,rs⟩:=r;have rd:∀{H2:Hp},Ext (ba m B q σ) H' H2->Rd H2 l (.dD kvs ep):=λ{H2} x=>by
   rcases hq with⟨b,hq⟩|⟨o,hq⟩;exact .inl ((x.abE l b).trans hq);exact .inr ⟨o,x.aaT _ _ _ hq⟩
  refine⟨l,kvs,ep,rfl,rd Ext.refl,k _ H' s λH2 x=>?_⟩;refine⟨⟨rd x,by simp⟩,λi d hd=>?_⟩;rw[YQ]at hd;cases hp:kvs[i]? with
  |none=>rw[hp]at hd;trivial
  |some p=>
   rw[hp]at hd;have z_:p.1=d:=Z7 hd;refine⟨⟨rd x,(ZP.mp hp).1⟩,λz H3 ⟨e3,p',I_,kr⟩=>?_⟩;rw[hp]at I_;obtain rfl:=Z7 I_;rw[e3];exact⟨aad.refl _,by rw[<-z_];exact kr.rep⟩
  trivial
end
section
variable{X:Cx}{apos p:Pos}{m':Bool}{a b c:Expr}
noncomputable def BK(K:Z6):R2:=λx y H Q=>∃a b xs ys,x=.ref a/\y=.ref b/\SqT K H a xs/\SqT K H b ys/\xs.length+ys.length<=sizeLine/\(xs=[]->Q (.ref b) H)/\(ys=[]->Q (.ref a) H)/\∀p,H p=M->Q (.ref p) (upd H p (.tup (xs++ys)))
def vj:OpR X (binaryOp .Add) (BK X.K):=by
 intro pins s σ H x y v u Q I rx ry h;obtain⟨t,b,xs,ys,rfl,rfl,ht,hb,hz,q0,q1,q2⟩:=h;cases rx;cases ry;obtain⟨vs,r1,p1,_⟩:=I.tuple ht;obtain⟨ws,r2,p2,_⟩:=I.tuple hb;have l1:=r1.length;have l2:=r2.length;obtain⟨⟨cls,dd,data,sl⟩,ho,hc,n,hd⟩:=id p1;obtain⟨⟨L9,Jk,data2,Jg⟩,JD,Jr,n2,hd2⟩:=id p2;simp only at hc hd Jr hd2;subst hc hd Jr hd2;by_cases hv:vs=[];have hx:xs=[]:=by cases xs with
  |nil=>rfl
  |cons _ _=>rw[hv]at l1;simp at l1
 exact concat_meets ⟨_,ho,rfl⟩ ⟨_,JD,rfl⟩ noFill_tuple_add seq_tuple_add WG WJ (WN _ _) (tuple_addW0 t b vs.toArray ws.toArray n n2 dd Jk sl Jg (by simp[hv])) ⟨ho,JD,.ref b,H,I,rfl,q0 hx⟩;by_cases hw:ws=[];have hy:ys=[]:=by cases ys with
  |nil=>rfl
  |cons _ _=>rw[hw]at l2;simp at l2
 exact concat_meets ⟨_,ho,rfl⟩ ⟨_,JD,rfl⟩ noFill_tuple_add seq_tuple_add WG WJ (WN _ _) (tuple_addW1 t b vs.toArray ws.toArray n n2 dd Jk sl Jg (by simpa using hv) (by simp[hw])) ⟨ho,JD,.ref t,H,I,rfl,q1 hy⟩;refine concat_meets ⟨_,ho,rfl⟩ ⟨_,JD,rfl⟩ noFill_tuple_add seq_tuple_add WG WJ (WN _ _) (tuple_addW2 t b vs.toArray ws.toArray n n2 dd Jk sl Jg (by simpa using hv) (by simpa using hw) (by rw[ZT,ZT];lia)) ⟨ho,JD,.ref s.z,_,?_,rfl,q2 _ (I.hok.fresh (ZU _))⟩;refine I.laid (t':=s.toks) (λb u e=>Z4 _ e) (ZU _) ⟨by rw[Zz];exact hz,vs++ws,r1.append r2,⟨_,ZN _ rfl,rfl,0,?_⟩⟩;simp
noncomputable def sM(x y:Z8 D):Z8 D:=match x,y with|some (.tup xs),some (.tup ys)=>if xs.length+ys.length<=lim then U (.tup (xs++ys)) else M|_,_=>M
set_option tactic.hygienic true in
theorem vN(ha:DE X m a fa)(hb:DE X m b fb):DE X m (.BinOp a .Add b pos) (λq=>sM (fa q) (fb q)):=
 (v8 vj ha hb).imp λσ H Q hz=>by
  obtain⟨B,Hk,q,d,R,e,k⟩:=hz;dsimp only at e;unfold sM at e;split at e;rename_i ds es q1 q2;split at e;rename_i hl;obtain rfl:=Z7 e;refine two R q1 q2 λv u H' s R' r1 r2=>?_;simp only[Rep]at r1 r2;obtain⟨t,xs,rfl,ht,rx⟩:=r1;obtain⟨b,ys,rfl,hb,ry⟩:=r2;have l1:=rx.length;have l2:=ry.length;refine⟨t,b,xs,ys,rfl,rfl,SqT.of ht,SqT.of hb,by rw[<-l1,<-l2];exact aJ hl,λhx=>?_,λhy=>?_,λp hp=>?_⟩;have:ds=[]:=by cases ds with
   |nil=>rfl
   |cons _ _=>rw[hx]at l1;simp at l1
  subst this;exact k _ H' s (by simp only[Rep,List.nil_append];exact⟨b,ys,rfl,hb,ry⟩);have:es=[]:=by cases es with
   |nil=>rfl
   |cons _ _=>rw[hy]at l2;simp at l2
  subst this;exact k _ H' s (by simp only[Rep,YX];exact⟨t,xs,rfl,ht,rx⟩);have s2:=ar (o:=.tup (xs++ys)) hp;exact k _ _ (s.trans s2) (by simp only[Rep];exact⟨p,xs++ys,rfl,ah,(rx.append ry).same R' s2⟩);trivial;trivial
def eV:Z9 D->Z8 (Z9 Bool)
 |[]=>U []
 |.bl b::ds=>(match eV ds with|some bs=>U (b::bs)|none=>M)
 |_=>M
theorem iw:∀{ds:Z9 D}{bs:Z9 Bool},eV ds=U bs->ds=bs.map D.bl
 |[],bs,h=>by obtain rfl:=Z7 h;rfl
 |.bl b::ds,bs,h=>by
  simp only[eV]at h;split at h;rename_i bs' q;obtain rfl:=Z7 h;rw[iw q];rfl;trivial
 |.non::ds,bs,h=>by simp[eV]at h
 |.int _::ds,bs,h=>by simp[eV]at h
 |.str _::ds,bs,h=>by simp[eV]at h
 |.tup _::ds,bs,h=>by simp[eV]at h
 |.lst _::ds,bs,h=>by simp[eV]at h
 |.dK _ _::ds,bs,h=>by simp[eV]at h
 |.dD _ _::ds,bs,h=>by simp[eV]at h
def t8(hc:X.calm=L):fG X (.builtin "any") (λxs H Q=>∃(q:ZM)(bs:Z9 Bool),xs=[.ref q]/\SqL X.K H q (bs.map V.bl)/\Q (.bl (bs.any id)) H):=by
 intro pins s σ H xs us Q I rv h;obtain⟨q,bs,rfl,hq,k⟩:=h;obtain⟨u,rfl,ru⟩:=rv.one;cases ru;obtain⟨its,r,pl,hz⟩:=I.list hq;have hl:=r.length;rw[Z0]at hl;have y_:q≠s.z:=Zt (by obtain⟨o,e,_⟩:=pl.isList;exact ZQ e);refine call_any_walk (Xf pl.isList ⟨s.z,_,_,its.toArray.size,_,_,λi=>bs.getD i Y,rfl,Walks.list (A:=X.A.in1) (show X.A.in1.handled=M from I.ok.hd hc) s.z q y_ its.toArray,⟨⟨_,ZN _ rfl,rfl,rfl⟩,pl.isList.push _⟩,λi v s' Q' E' hv QY=>?_,λh' tk hk=>?_⟩);have Jz:its[i]?=U v:=by simpa using hv
 have hi:i<bs.length:=by have:=(ZP.mp Jz).1;lia
 obtain⟨v',e1,e2⟩:=r.get (i:=i) (x:=.bl bs[i]) (by simp[hi]);rw[Jz]at e1;obtain rfl:=Z7 e1;cases e2;refine Xy ?_;rw[show bs[i]=bs.getD i Y by simp[hi]];exact QY;have e:(List.range its.toArray.size).any (λi=>bs.getD i Y)=bs.any id:=by
  rw[ZT,<-hl,YL,XR,XR];constructor
  rintro⟨i,hi,h1⟩
  have k_:=Y5.mp hi;exact⟨bs[i],Xh k_,by simpa[k_]using h1⟩
  rintro⟨x,hx,h1⟩
  obtain⟨i,hi,rfl⟩:=YW.mp hx;exact⟨i,Y5.mpr hi,by simpa[hi]using h1⟩
 rw[e];refine⟨.bl (bs.any id),H,?_,rfl,k⟩;exact(I.kept (t':=tk) λb o eb=>hk b o (λz=>by
  have:b=s.z:=by simpa using z
  rw[this]at eb;exact absurd (ZQ eb) (Zc _)) (Z4 _ eb))
def DV(x:Z8 D):Z8 D:=match x with|some (.lst ds)=>(match eV ds with|some bs=>U (.bl (bs.any id))|none=>M)|_=>M
theorem M1.acK{K:Z6}{B:ZM->Prop}{H:Hp}:∀{bs:Z9 Bool}{xs:Z9 V},M1 K B H (bs.map D.bl) xs->xs=bs.map V.bl
 |[],xs,r=>r
 |b::bs,xs,r=>by
  rw[Z1]at r;simp only[M1]at r;obtain⟨x,t,rfl,r1,r2⟩:=r;simp only[Rep]at r1;rw[r1,M1.acK r2];rfl
theorem CH(hc:X.calm=L)(g:Gl X "any")(hm:X.mg "any"=M)(ha:DE X m a fa)(hs:starEach [a] X.env=[(Y,eval a X.env)]:=by rfl):DE X mm (.Call (.Name "any" p) [a] [] pos) (λO=>DV (fa O)):=
 (dU (t8 hc) g hm boot_any (ay ha aQ hs) (he:=hs)).imp λσ H Q hz=>by
  obtain⟨B,Hk,O,d,R,e,k⟩:=hz;unfold DV at e;dsimp only at e;split at e;rename_i ds q;split at e;rename_i bs qn;obtain rfl:=Z7 e;obtain rfl:=iw qn;refine pW R q λv H' s R' r=>?_;simp only[Rep]at r;obtain⟨c,xs,rfl,hq,rs⟩:=r;obtain rfl:=rs.acK;exact⟨c,bs,rfl,hq.sq,k _ H' s (by simp only[Rep])⟩;trivial;trivial
def acG:V->Z9 V->Hp->VK->Prop:=λx vs H Q=>∃l y z o,x=.ref l/\vs=[y,z]/\DGA H l y o/\Q (o.getD z) H
def AM(hu:X.A.units+64<cLine):MtM X "dict.get" acG:=by
 intro pins s σ H x vs v us Q I rx rv h;obtain⟨l,y,z,o,rfl,rfl,g,q⟩:=h;cases rx;obtain⟨u1,u2,rfl,r1,r2⟩:=rv.two;rcases g with g|⟨kvs,ep,k,b,e,rfl,hk,kb,rfl⟩;exact Dc (by lia) I g r1 r2 λw' s' I' Iu=>⟨_,H,I',Iu,q⟩
 cases (show u1=Value.ref b from r1);obtain⟨z1,hd,xs,rel,dd⟩:=jK I.hok e;refine call_meetsIn Wq dd.typeIs F.entry_dict_get (F.args_dict_get_3 _ _ _) (meetsH_dict_get_default (bi X.prog X.w) l b hd u2) ⟨by show X.A.units+1+30<cLine;lia,k,xs,cC I hk kb,dd,⟨_,H,I.tok _,?_,q⟩⟩;exact(rel.val k).getD r2
def ce(x k y:Z8 D):Z8 D:=match bP x k,y with|some o,some z=>U (o.getD z)|_,_=>M
set_option tactic.hygienic true in
theorem Bj(hu:X.A.units+64<cLine)(ha:DE X m a fa)(hb:DE X m b fb)(hc:DE X m c fc)(base:attributeBase a "get" X.env (eval a X.env)=eval a X.env:=by rfl)(few:((backTo i_ (starEach [b,c] X.env)).all (λx=>!x.1)&&(backToKw i_ (keywordEach [] X.env)).all (λx=>x.1.isSome)&&decide (([b,c]).length+([]:Z9 Keyword).length+(if([]:Z9 Keyword).isEmpty then 0 else 1)<30))=L:=by rfl)(line:(apos.endLine==i_.line)=L:=by rfl)(Ir:starEach [b,c] X.env=(Y,eval b X.env)::starEach [c] X.env:=by rfl)(IW:starEach [c] X.env=[(Y,eval c X.env)]:=by rfl)(plain:(backTo i_ (starEach [c] X.env)).any (·.1)=Y:=by rfl):
  DE X m (.Call (.Attribute a "get" apos) [b,c] [] i_) (λq=>ce (fa q) (fb q) (fc q)):=
 (uP Wq F.type_dict_get (AM hu) ha (ay hb (ay hc aQ IW) Ir) base few line Ir plain).imp λσ H Q hz=>by
  obtain⟨B,Hk,q,d,R,e,k⟩:=hz;dsimp only at e;unfold ce at e;split at e;rename_i o z q1 q2;obtain rfl:=Z7 e;obtain⟨d1,d2,e1,e2,_⟩:=cQ (K:=X.K) (B:=ba m B q σ) (B':=ba m B q σ) (H:=H) q1;refine⟨B,Hk,q,d1,R,e1,λv H1 s1 r1=>?_⟩;have R1:=R.to s1;have VQ:oX v H1:=by
   unfold bP at q1;rw[e1,e2]at q1;cases d1 with
   |dK ks vs=>simp only[Rep]at r1;obtain⟨a,kvs,rfl,hq,_⟩:=r1;exact⟨a,rfl,.inl ⟨kvs,hq.imp And.right id⟩⟩
   |dD ks vs=>simp only[Rep]at r1;obtain⟨a,kvs,rfl,⟨ep,hq⟩,_⟩:=r1;exact⟨a,rfl,.inr ⟨kvs,ep,hq.imp And.right id⟩⟩
   |_=>simp at q1
  refine⟨VQ,two (m:=m) (m':=m) R1 e2 q2 λu w H' s R' r2 r3=>?_⟩;obtain⟨TF,TC,Mm,Ml,go⟩:=cQ (K:=X.K) (B:=ba m B q σ) (B':=ba m B q σ) (H:=H') q1;rw[e1]at Mm;obtain rfl:=Z7 Mm;rw[e2]at Ml;obtain rfl:=Z7 Ml;obtain⟨c',r,ev,g,gs,gz⟩:=go (r1.same R1 s) r2;refine⟨c',u,w,r,ev,rfl,g,?_⟩;cases o with
  |none=>
   cases r with
   |none=>exact k w H' (s1.trans s) r3
   |some _=>simp at gs
  |some dd=>
   obtain⟨w',rfl,Iu⟩:=gz _ rfl;exact k w' H' (s1.trans s) Iu
  trivial
end
section
variable{A:Za}{E:Z3->ZR->Prop}{s:ZR}
def pY(hh:A.handled=M)(I d:ZM)(y_:d≠I)(r_:o.data=.dict es ep):
  Walks prog w A I [I,d] [I] es.size (λi v=>∃e,es[i]?=U e/\v=e.key) (λi h=>h.IsKeyIter I d i es.size ep/\h.get? d=U o) where
 sub:=λb hb=>by simp at hb;simp[hb]
 frame:=λ_ _ _ st hk=>⟨st.1.at λo e=>hk I (by simp) o e,hk d (by simp) _ st.2⟩
 item:=λi s Q E hi st hQ=>eC hh st.1 st.2 r_ (λe he h' Lg sb=>hQ _ h' s.toks ⟨e,he,rfl⟩ ⟨Lg,(sb.2 d y_).trans st.2⟩ λb o hb e=>(sb.2 b (λz=>hb (by simp[z]))).trans e) λhn=>by
  rw[Zb hi]at hn;trivial
 done:=λs Q E st hQ=>eC hh st.1 st.2 r_ (λe he=>by rw[XJ (ZU _)]at he;trivial) λ_ h' eb=>hQ h' s.toks λb o hb e=>eb b o (λz=>hb (by simp[z])) e
 self:=λ_ _ _ _ st hQ=>wpAny_pyIter_keyiter st.1 hQ
def lX(hh:A.handled=M)(hd:(d==sysModules)=Y)(ho:s.heap.get? d=U o)(hc:o.ExactDict)(r_:o.data=.dict es ep)(hn:es.size<=sizeLine)(res:Z3)(hS:s.heap.get? S=U {cls:=.type "list",data:=.seq #[] M8})(hR:∀h' tk l_ c',(∀b o,b≠S->s.heap.get? b=U o->h'.get? b=U o)->h'.get? S=U {cls:=.type "list",dict:=M,data:=.seq l_ c',slots:=#[]}->ItemsOf (λi v=>∃e,es[i]?=U e/\v=e.key) l_ es.size->R (.ok (.ret res)) {s with heap:=h',toks:=tk}):
  wpAny (model prog w) A.in1 (Builtin.List.listExtendWith (.ref S) (.ref d) res)
   (λfin s'=>match fin with|.done f=>R (.ok f) s'|.again c'=>c'.quiet=L/\codeAny (model prog w) A c' R s') (λe s'=>R (.error e) s') s:=by
 have ty:s.TypeIs (.ref d) "dict":=⟨o,ho,hc.1⟩;have Qi:S≠d:=λe=>by rw[e,ho]at hS;have:=Z7 hS;rw[this]at r_;trivial
 have Sh:S≠s.z:=Zt (ZQ hS);have UW:d≠s.z:=Zt (ZQ ho);have UY:S∉[s.z,d]:=λhm=>by
  rcases ZZ.mp hm with e|hm;exact Sh e;exact Qi (Zv.mp hm)
 unfold Builtin.List.listExtendWith;refine Z_ (Xv ty ?_);simp only[show Builtin.List.listSameRef (.ref S) (.ref d)=Y by simp[Builtin.List.listSameRef,Qi],show(Value.type "dict"==Value.type "list")=Y by decide,show(Value.type "dict"==Value.type "tuple")=Y by decide,Bool.or_false,ZY,Zj];refine Z_ (j4 hd ho hc r_ (Z_ (Y4 ?_)));have N1:(s.heap.push {cls:=.type "dict_keyiterator",data:=.fields #[.ref d,.int 0 0,.int es.size 0,.int ep 0]}).get? d=U o:=Z4 _ ho;have PN:Shared.TypeIs {s with heap:=s.heap.push {cls:=.type "dict_keyiterator",data:=.fields #[.ref d,.int 0 0,.int es.size 0,.int ep 0]}} (.ref d) "dict":=⟨o,N1,hc.1⟩
 unfold Builtin.List.listLengthHint;refine Z_ (Yb PN F.slot_dict_len.lookup ?_)
 wp_delta
 refine Z_ (X5 PN (b:=L) (by rw[V7];kernel_rfl) ?_);change wpAny _ _ (typeOf (Value.ref d) >>= _) _ _ _;refine Z_ (Xv PN (Z5 ?_));refine eS (by decide) ?_;have N6:(s.heap.push {cls:=.type "dict_keyiterator",data:=.fields #[.ref d,.int 0 0,.int es.size 0,.int ep 0]}).get? S=U {cls:=.type "list",data:=.seq #[] M8}:=Z4 _ hS;refine Z_ (YC (Z_ ?_));change wpAny _ A.in1 (updateSeq S (·.push .none) >>= λ_=>updateSeq S (·.pop)) _ _ _;have LV:=Zh (Obj.mapSeq (·.push Value.none)) N6 rfl;refine Z_ (Yc N6 rfl (Yc (hz:=by seq_fits) LV rfl ?_));have MJ:=Zh (Obj.mapSeq (·.pop)) LV rfl;have Jy:∀b o,b≠S->(s.heap.push {cls:=.type "dict_keyiterator",data:=.fields #[.ref d,.int 0 0,.int es.size 0,.int ep 0]}).get? b=U o->(((s.heap.push {cls:=.type "dict_keyiterator",data:=.fields #[.ref d,.int 0 0,.int es.size 0,.int ep 0]}).update S (Obj.mapSeq (·.push Value.none))).update S (Obj.mapSeq (·.pop))).get? b=U o:=
  λb o hb e=>(Zk _ _ (Zy hb)).trans ((Zk _ _ (Zy hb)).trans e)
 refine Z5 ⟨Ys XI _,codeAny_extend_loopS (pY (A:=A.in1) (show A.in1.handled=M from hh) s.z d UW r_).toS hn _ UY _ es.size 0 _ _ _ rfl (Zs _) ⟨⟨_,Jy _ _ (Zy Sh) (ZN _ rfl),rfl,rfl⟩,Jy _ _ (Zy Qi) N1⟩ MJ (ItemsOf.nil _) λs' l_ c' hm LW t_=>?_⟩;rw[Moved.eq_with hm];refine hR s'.heap s'.toks l_ c' (λb ob hb e=>hm.heap b ob (λII=>?_) (Jy b ob hb (Z4 _ e))) LW t_;rcases ZZ.mp II with e'|II;exact hb e';rw[Zv.mp II]at e;exact absurd (ZQ e) (Zc _)
def gZ(hh:A.handled=M)(hd:(d==sysModules)=Y)(ho:s.heap.get? d=U o)(hc:o.ExactDict)(r_:o.data=.dict es ep)(hn:es.size<=sizeLine)(hQ:∀h' tk l_ c',(∀b o,s.heap.get? b=U o->h'.get? b=U o)->h'.get? s.z=U {cls:=.type "list",dict:=M,data:=.seq l_ c',slots:=#[]}->ItemsOf (λi v=>∃e,es[i]?=U e/\v=e.key) l_ es.size->Q (.ref s.z) {s with heap:=h',toks:=tk}):
  wpAny (model prog w) A (call (.type "list") [.ref d]) Q E s:=by
 refine callType_codes (Q₁:=λobj g_=>obj=.ref s.z/\g_={s with heap:=s.heap.push {cls:=.type "list",data:=.seq #[]}}) F.called_list (F.typeCall_list_1 _) F.entry_list_init (code_list_new _ ⟨rfl,rfl⟩) λobj g_ IG=>?_;obtain⟨rfl,rfl⟩:=IG;have hS:(s.heap.push {cls:=.type "list",data:=.seq #[]}).get? s.z=U {cls:=.type "list",data:=.seq #[]}:=ZN _ rfl;refine⟨⟨_,hS,rfl⟩,F.args_list_init_2 _ _,?_⟩;change wpAny _ _ (do let old <-Builtin.List.listItems (.ref s.z);Builtin.List.listUpdate (.ref s.z) (λ_=>#[]);letGo old.toList.reverse;Builtin.List.listExtendWith (.ref s.z) (.ref d) .none) _ _ _;refine Z_ ?_;unfold Builtin.List.listItems;refine Z_ (Yw hS rfl (Z5 ?_));change wpAny _ _ (updateSeq s.z (λ_=>#[]) >>= λ_=>letGo (#[]:Array Z3).toList.reverse >>= λ_=>Builtin.List.listExtendWith (.ref s.z) (.ref d) .none) _ _ _;have LV:=Zh (Obj.mapSeq (λ_=>(#[]:Array Z3))) hS rfl;have up:∀b ob,s.heap.get? b=U ob->((s.heap.push {cls:=.type "list",data:=.seq #[]}).update s.z (Obj.mapSeq (λ_=>(#[]:Array Z3)))).get? b=U ob:=λb ob e=>(Zk _ _ (Zy (Zt (ZQ e)))).trans (Z4 _ e);refine Z_ (Yc hS rfl (Z_ (V8 ?_)));exact lX (A:=A.in1) hh hd (up d o ho) hc r_ hn .none LV λh' tk l_ c' hk LW t_=>⟨rfl,hQ h' tk l_ c' (λb ob e=>hk b ob (Zt (ZQ e)) (up b ob e)) LW t_⟩
end
section
variable{X:Cx}{m:Bool}
theorem aar.keys:∀{kvs:Z9 (D×V)}{xs:Z9 (D×ZM×Z3)},aar H kvs xs->KRs H (kvs.map (·.1)) (xs.map λq=>V.ref q.2.1)
 |_,_,.nil=>by simp only[YT,KRs]
 |_,_,.cons r t=>by
  simp only[Z1,KRs];exact⟨_,_,rfl,r.2.2.1,aar.keys t⟩
def qC(hc:X.calm=L):fG X (.type "list") (λxs H Q=>∃d kvs ep,xs=[.ref d]/\Rd H d (.dD kvs ep)/\∀ks p,KRs H (kvs.map (·.1)) ks->H p=M->Q (.ref p) (upd H p (.lst ks))):=by
 intro pins s σ H xs us Q I rv h;obtain⟨d,kvs,ep,rfl,rd,k⟩:=h;obtain⟨u,rfl,ru⟩:=rv.one;cases ru;obtain⟨z,y,xs,r,o,es,h1,h2,h3,h4,h5⟩:=(show aam X.prog X.w H s.heap d (.dD kvs ep) from qI I.hok rd)
 have hsz:es.size=kvs.length:=by rw[W2 h4,<-Yn r]
 refine gZ (I.ok.hd hc) y h1 h2 h3 (by rw[hsz];exact z) λh' tk acc c' hk hS t_=>?_;have hf:H s.z=M:=I.hok.fresh (ZU _);have Pb:xs.length=kvs.length:=(Yn r).symm;have hv:aab (xs.map λq=>V.ref q.2.1) acc.toList:=by
  have hlen:acc.toList.length=xs.length:=by rw[Array.length_toList,t_.1,hsz,Pb]
  have key:∀(l:Z9 (D×ZM×Z3))(m:Z9 Z3),m.length=l.length->(∀(i:Nat) q v,l[i]?=U q->m[i]?=U v->v=.ref q.2.1)->aab (l.map λq=>V.ref q.2.1) m:=by
   intro l
   induction l with
   |nil=>intro m hm _;cases m with
    |nil=>exact .nil
    |cons _ _=>simp at hm
   |cons q l ih=>intro m hm hp;cases m with
    |nil=>simp at hm
    |cons v m=>exact .cons (hp 0 q v rfl rfl) (ih m (by simpa using hm) λi q' v' a1 a2=>hp (i+1) q' v' (by simpa using a1) (by simpa using a2))
  refine key xs acc.toList hlen λi q v a1 a2=>?_;obtain⟨e,he,rfl⟩:=t_.2 i v (by simpa using a2);rw[entry_at h4 i,a1]at he;rw[<-Z7 he];rfl
 refine⟨.ref s.z,_,I.laid (t':=tk) (o:=.lst (xs.map λq=>V.ref q.2.1)) hk (ZU _) ⟨by rw[Z0,Pb];exact z,acc.toList,c',hv,by rw[hS]⟩,rfl,k _ _ r.keys hf⟩
def oj(x:Z8 D):Z8 D:=match x with|some (.dD ks vs)=>U (.lst ks)|_=>M
def om:bootBuiltins "list"=U (.type "list"):=by decide +kernel
set_option tactic.hygienic true in
theorem wT(hc:X.calm=L)(g:Gl X "list")(hm:X.mg "list"=M)(ha:DE X Y a fa)(hs:starEach [a] X.env=[(Y,eval a X.env)]:=by rfl):DF X (.Call (.Name "list" p) [a] [] pos) (λO=>oj (fa O)):=
 (cW (qC hc) g hm om (ay ha aQ hs) (he:=hs)).imp λσ H Q hz=>by
  obtain⟨B,Hk,O,d,R,e,k⟩:=hz;dsimp only at e;unfold oj at e;split at e;rename_i ks vs q;obtain rfl:=Z7 e;refine pW R q λv H' s R' r=>?_;simp only[Rep]at r;obtain⟨c,kvs,rfl,⟨ep,hq⟩,rfl,rs⟩:=r;refine⟨c,kvs,ep,rfl,hq.imp And.right id,λks p kr hp=>?_⟩;have s2:=ar (o:=.lst ks) hp;exact k p _ (s.trans s2) (s.free hp) ⟨_,ah,(KRs.rep kr).same (m:=Y) R' s2⟩;trivial
end
open PySem.W
section
variable{X:Cx}{pins:Z9 (ZM×Obj)}{σ:St}{H:Hp}{s:ZR}{A:Za}{E:Z3->ZR->Prop}
def qx(hu:A.units+30<cLine)(I:Inv X pins σ H s)(e:H d=U (.dD kvs ep))(hk:aW 8 k=L)(kb:KR H k (.ref b))(l:kvs.length<sizeLine)(rv:RelV v r)(h:∀C_ h' tk,Heap.SameBut d s.heap h'->Inv X pins σ (upd H d (.dD (dn kvs k v) C_)) {s with heap:=h',toks:=tk}->Q () {s with heap:=h',toks:=tk}):wpAny (model X.prog X.w) A (dictSet d (.ref b) r) Q E s:=by
 obtain⟨z,hd,xs,rel,dd⟩:=jK I.hok (.inl e);have hl:(dn kvs k v).length<=sizeLine:=by have:=bA kvs k v;lia
 refine wpAny_dictSet_heap (knd:=bi X.prog X.w) (hsz:=by rw[<-Yn rel];exact z) (show A.units+30<cLine from hu) (cC I hk kb) dd λh' KA hs=>?_;obtain⟨q,es,C_,hq,h2,h3,h4,_,h5⟩:=KA;refine h C_ h' _ hs (gh I (by rw[e];exact True.intro) hs ⟨q,hq⟩ ⟨hl,hd,_,Paired.abV (rel.put k hk kb rv) λp q z=>⟨z.1,z.2.1,KR.to (λc ys ec=>?_) z.2.2.1,z.2.2.2⟩,q,es,hq,h2,h3,h4,h5⟩);rw[ai (mf ec e (λz=>nomatch z))];exact ec
def abt(H:Hp)(y:V)(p:D×V):Prop:=∃b kb,y=.ref b/\H b=U (.tup [.ref kb,p.2])/\aW 8 p.1=L/\KR H p.1 (.ref kb)
theorem abt.upd(h:abt H y p)(e:H d=U (.dD kvs ep)):abt (L2.upd H d o) y p:=by
 obtain⟨b,kb,h1,h2,h3,h4⟩:=h;exact⟨b,kb,h1,by rw[ai (mf h2 e (λz=>nomatch z))];exact h2,h3,h4.to λc ys ec=>by rw[ai (mf ec e (λz=>nomatch z))];exact ec⟩
def gF(kvs:Z9 (D×V))(ps:Z9 (D×V)):Z9 (D×V):=ps.foldl (λm p=>dn m p.1 p.2) kvs
def SqL.acA{K:Z6}{l d:ZM}{ys:Z9 V}{kvs:Z9 (D×V)}{ep:Nat}{o:HO}(h:SqL K H l ys)(e:H d=U (.dD kvs ep)):SqL K (upd H d o) l ys:=by
 rcases h with(h|⟨ob,h⟩)|h;exact .inl (.inl (by rw[ai (mf h e (λz=>nomatch z))];exact h));exact .inl (.inr ⟨ob,by rw[ai (mf h e (λz=>nomatch z))];exact h⟩);exact .inr h
def qH(hu:A.units+40<cLine)(hh:A.handled=M)(ps:Z9 (D×V))(ys:Z9 V)(hlen:ys.length=ps.length):
  ∀(n i:Nat)(t:Tok)(H:Hp)(s:ZR)(kvs:Z9 (D×V))(ep:Nat),i+n=ps.length->Inv X pins σ H s->H d=U (.dD kvs ep)->kvs.length+n<lim->SqL X.K H l ys->(∀(j:Nat) y p,ys[j]?=U y->ps[j]?=U p->abt H y p)->s.heap.IsListIter it l i->fq X pins H it->it≠d->
   (∀H' s',Inv X pins σ H' s'->(∃C_,H'=upd H d (.dD (gF kvs (ps.drop i)) C_))->R (.ok (.ret .none)) s')->
   codeAny (model X.prog X.w) A (.builtin "dict.update.loop" ⟨[.ref d,.ref it,.int i t,.none],[]⟩) R s:=by
 intro n
 induction n with
 |zero=>
  intro i t H s kvs ep hi I e hl hq hp st hf y_ hR;refine YO dz ?_;rw[Y7 bC _];obtain⟨its,rv,pl,hz⟩:=I.list hq;have QF:=rv.length;show wpAny _ A.in1 (pyNext (.ref it) >>= _) _ _ s;obtain⟨f0,f1,f2,f3,f4,f5⟩:=hf;refine Z_ (wpAny_pyNext_list_end hh st pl.isList (by simp;lia) λh' eb=>?_);show wpAny _ A.in1 (Builtin.Dict.addKeywords d [] >>= λ_=>ret .none) _ _ _;refine Z_ (Z5 (Z5 (hR H _ (I.turned (t':=s.toks) (λb o hb e=>eb b o hb e) f0 f1 f3 f4 f5) ⟨ep,?_⟩)));rw[List.drop_of_length_le (by lia)];show H=upd H d (.dD kvs ep)
  funext b
  by_cases hb:b=d;subst hb;rw[ah];exact e;rw[ai hb]
 |succ n ih=>
  intro i t H s kvs ep hi I e hl hq hp st hf y_ hR;refine YO dz ?_;rw[Y7 bC _];obtain⟨its,rv,pl,hz⟩:=I.list hq;have Kx:i<ps.length:=by lia
  have S0:i<ys.length:=by lia
  obtain⟨b,kb,ey,hb,Pm,Vy⟩:=hp i ys[i] ps[i] (by simp[S0]) (by simp[Kx]);obtain⟨u,Kt,ru⟩:=rv.get (i:=i) (x:=ys[i]) (by simp[S0]);rw[ey]at ru;cases ru;show wpAny _ A.in1 (pyNext (.ref it) >>= _) _ _ s;obtain⟨f0,f1,f2,f3,f4,f5⟩:=id hf;refine Z_ (wpAny_pyNext_list_item st pl.isList (x:=.ref b) (by simpa using Kt) λh' f_ sb=>?_);have I1:Inv X pins σ H {s with heap:=h'}:=I.turned (t':=s.toks) (λb o hb e=>(sb.2 b hb).trans e) f0 f1 f3 f4 f5;obtain⟨tz,tis,tv,⟨to,tg,tc,tn,td⟩⟩:=(show aam X.prog X.w H h' b (.tup [.ref kb,ps[i].2]) from I1.hok b _ hb)
  obtain⟨ku,vu,rfl,rk,Uy⟩:=aab.two tv;cases rk;refine Z_ (Y4 (Z_ (wpAny_tryCatch ?_)));unfold Builtin.Dict.pairItems;refine Z_ (Xv (show Shared.TypeIs {s with heap:=h'} (.ref b) "tuple" from⟨_,tg,tc⟩) ?_);refine eS (by decide) ?_;unfold seqItems?;refine Z_ (Z_ (wpAny_load tg ?_));rw[td];refine Z5 (Z5 ?_);show wpAny _ A.in1 (holding [Value.ref kb,vu] (dictSet d (.ref kb) vu)) _ _ _;refine Y4 (qx (by show A.units+1+30<cLine;lia) I1 e Pm Vy (by have:=aJ (ZU lim);lia) Uy λC_ h2 PX Jq I2=>?_);refine Z5 ⟨Ys bC _,?_⟩;have TV:=bA kvs ps[i].1 ps[i].2;refine ih (i+1) 0 (upd H d (.dD (dn kvs ps[i].1 ps[i].2) C_)) _ (dn kvs ps[i].1 ps[i].2) C_ (by lia) I2 ah (by lia) (hq.acA e) (λj y p h1 h2=>(hp j y p h1 h2).upd e) ?_ ?_ y_ ?_;obtain⟨o,ho,hc,z_⟩:=f_;exact⟨o,(Jq.2 it y_).trans ho,hc,z_⟩;exact⟨by rw[ai y_];exact f0,f1,f2,f3,f4,f5⟩
  rintro H' s' I' ⟨Kl,eH⟩
  refine hR H' s' I' ⟨Kl,?_⟩;rw[eH,uU,Zn Kx];rfl
def pX(hc:X.calm=L)(hu:X.A.units+64<cLine):fG X (.type "dict") (λxs H Q=>∃(l:ZM)(ys:Z9 V)(ps:Z9 (D×V)),xs=[.ref l]/\SqL X.K H l ys/\ys.length=ps.length/\ps.length<lim/\
  (∀(j:Nat) y p,ys[j]?=U y->ps[j]?=U p->abt H y p)/\∀d ep,H d=M->Q (.ref d) (upd H d (.dD (gF [] ps) ep))):=by
 intro pins s σ H xs us Q I r h;obtain⟨l,ys,ps,rfl,hq,hl,G_,hp,q⟩:=h;obtain⟨u,rfl,rx⟩:=r.one;cases rx;have hh:X.A.handled=M:=I.ok.hd hc;refine callType_codes (Q₁:=λobj g_=>obj=.ref s.z/\g_={s with heap:=s.heap.push {cls:=.type "dict",data:=.dict #[]}}) F.kt_called_dict (F.kt_typeCall_dict_1 _) F.entry_dict_init (kt_code_dict_new _ ⟨rfl,rfl⟩) ?_
 rintro obj g_ ⟨rfl,rfl⟩
 have K9:H s.z=M:=I.fresh;have I1:Inv X pins σ (upd H s.z (.dD [] 0)) {s with heap:=s.heap.push {cls:=.type "dict",data:=.dict #[]}}:=
  I.laid (t':=s.toks) (λ_ _ q=>Z4 _ q) (ZU _) (nN I.big)
 have hT:Shared.TypeIs {s with heap:=s.heap.push {cls:=.type "dict",data:=.dict #[]}} (.ref s.z) "dict":=⟨_,ZN _ rfl,rfl⟩
 have sm:aad H (upd H s.z (.dD [] 0)):=ar K9;have SG:SqL X.K (upd H s.z (.dD [] 0)) l ys:=sm.seq hq;obtain⟨its,rv,⟨ol,nl,Mx,JV,Px,NA⟩,hz⟩:=I1.list SG;refine⟨hT,F.args_dict_init_2 _ _,?_⟩;unfold Builtin.«dict.__init__»;refine Z_ ?_;unfold Builtin.Dict.selfAndRest;refine Z_ (Wa hT ?_);show wpAny _ _ (pure (s.z,[Value.ref l])) _ _ _;refine Z5 ?_;show wpAny _ _ (Builtin.Dict.updateFrom "dict.__init__" s.z (.ref l) [] .none) _ _ _;unfold Builtin.Dict.updateFrom;refine Z_ (Xv (show Shared.TypeIs {s with heap:=s.heap.push {cls:=.type "dict",data:=.dict #[]}} (.ref l) "list" from⟨_,Mx,JV⟩) ?_);refine eS (by decide) ?_;refine Z_ (zl Mx JV NA Px (by simp[hh]) λh2 PX Qn=>?_);have I2:Inv X pins σ (upd H s.z (.dD [] 0)) {s with heap:=h2,toks:=PX}:=I1.kept Qn;refine eS (by decide) ?_;refine Z_ (YC ?_);have Nv:h2.IsList l its.toArray:=⟨ol,Qn _ _ Mx,JV,nl,NA⟩;refine Z_ (Xf Nv ?_);refine Z5 ⟨Ys bC _,?_⟩;have I3:Inv X pins σ (upd H s.z (.dD [] 0)) {s with heap:=h2.push {cls:=.type "list_iterator",data:=.fields #[.ref l,.int 0 0]},toks:=PX}:=I2.kept λb o e=>Z4 _ e;have j_:s.z<h2.objs.size:=ZQ (Qn _ _ (ZN (h:=s.heap) (o:={cls:=.type "dict",data:=.dict #[]}) rfl));have fp:fq X pins (upd H s.z (.dD [] 0)) h2.objs.size:=I2.abm (ZU _) (I2.hok.fresh (ZU _));refine qH (X:=X) (A:=X.A.in1) (by show X.A.units+1+40<cLine;lia) (by simp[hh]) ps ys hl ps.length 0 0 (upd H s.z (.dD [] 0)) _ [] 0 (by lia) I3 ah (by simpa using G_) SG (λj y p h1 J4=>?_) ⟨_,ZN _ rfl,rfl,rfl⟩ fp (Nat.ne_of_gt j_) ?_;obtain⟨b,kb,e1,e2,e3,e4⟩:=hp j y p h1 J4;exact⟨b,kb,e1,sm _ _ e2,e3,e4.to λc ys ec=>sm _ _ ec⟩
 rintro H' s' I' ⟨ep,eH⟩
 rw[uU,List.drop_zero]at eH;subst eH;exact⟨rfl,⟨.ref s.z,_,I',rfl,q _ ep K9⟩⟩
end
def rE:D->Z8 (D×D)
 |.tup [k,v]=>if(aW 8 k&&l8 k)=L then U (k,v) else M
 |_=>M
def eZ:Z9 D->Z8 (Z9 (D×D))
 |[]=>U []
 |d::ds=>match rE d,eZ ds with|some p,some ps=>U (p::ps)|_,_=>M
def iW:Z9 D->Z9 D->Z9 (D×D)->Z9 D×Z9 D
 |ks,vs,[]=>(ks,vs)
 |ks,vs,p::ps=>iW (jM p.1 ks) (xN p.1 p.2 ks vs) ps
noncomputable def iy(x:Z8 D):Z8 D:=match x with|some (.lst ds)=>(match eZ ds with|some ps=>if ds.length<lim then U (.dD (iW [] [] ps).1 (iW [] [] ps).2) else M|none=>M)|_=>M
section
variable{K:Z6}{B:ZM->Prop}{H:Hp}
def PQ(K:Z6)(B:ZM->Prop)(H:Hp):Z9 (D×D)->Z9 (D×V)->Prop:=Paired λp q=>p.1=q.1/\Rep K B H p.2 q.2
theorem kG:∀{ps:Z9 (D×D)}{qs:Z9 (D×V)}{kvs:Z9 (D×V)}{vs:Z9 D},PQ K B H ps qs->M1 K B H vs (kvs.map (·.2))->(gF kvs qs).map (·.1)=(iW (kvs.map (·.1)) vs ps).1/\M1 K B H (iW (kvs.map (·.1)) vs ps).2 ((gF kvs qs).map (·.2))
 |_,_,kvs,vs,.nil,r=>⟨rfl,r⟩
 |_,_,kvs,vs,@Paired.cons _ _ _ p q ps qs h t,r=>by
  have h1:=eK q.1 q.2 kvs;have h2:=jw h.2 q.1 r;have ih:=kG (kvs:=dn kvs q.1 q.2) t h2;rw[h1]at ih;unfold iW;rw[h.1];exact ih
set_option tactic.hygienic true in
theorem gP:∀{ds:Z9 D}{ps:Z9 (D×D)}{ys:Z9 V},eZ ds=U ps->M1 K B H ds ys->∃qs,PQ K B H ps qs/\ys.length=qs.length/\∀(j:Nat) y q,ys[j]?=U y->qs[j]?=U q->abt H y q
 |[],ps,ys,h,r=>by
  obtain rfl:=Z7 h;have:ys=[]:=r;subst this;exact⟨[],.nil,rfl,λj y q h=>by simp at h⟩
 |d::ds,ps,ys,h,r=>by
  simp only[eZ]at h;split at h;rename_i p ps' q1 q2;obtain rfl:=Z7 h;obtain⟨y,Ue,rfl,r1,r2⟩:=r;obtain⟨qs,h1,h2,h3⟩:=gP q2 r2;unfold rE at q1;split at q1;rename_i k v;split at q1;rename_i hc;obtain rfl:=Z7 q1;rw[ZK]at hc;simp only[Rep]at r1;obtain⟨b,xs,rfl,hb,rr⟩:=r1;obtain⟨ku,r3,rfl,rk,RV⟩:=rr;simp only[M1]at RV;obtain⟨vu,r4,rfl,rv,rfl⟩:=RV;obtain⟨kb,rfl⟩:=dj hc.2 rk;refine⟨(k,vu)::qs,.cons ⟨rfl,rv⟩ h1,by simp[h2],λj y q e1 e2=>?_⟩;cases j with
  |zero=>
   simp at e1 e2;subst e1 e2;exact⟨b,kb,rfl,hb,hc.1,rk.key hc.1⟩
  |succ j=>exact h3 j y q (by simpa using e1) (by simpa using e2)
  trivial;trivial;trivial
end
section
variable{X:Cx}
def xC:bootBuiltins "dict"=U (.type "dict"):=by decide +kernel
theorem v0(hc:X.calm=L)(hu:X.A.units+64<cLine)(g:Gl X "dict")(hm:X.mg "dict"=M)(ha:DE X Y a fa)(hs:starEach [a] X.env=[(Y,eval a X.env)]:=by rfl):DF X (.Call (.Name "dict" p) [a] [] pos) (λO=>iy (fa O)):=
 (cW (pX hc hu) g hm xC (ay ha aQ hs) (he:=hs)).imp λσ H Q hz=>by
  obtain⟨B,Hk,O,d,R,e,k⟩:=hz;dsimp only at e;unfold iy at e;split at e;rename_i ds q;split at e;rename_i ps qp;split at e;rename_i hl;obtain rfl:=Z7 e;refine pW R q λv H' s R' r=>?_;simp only[Rep]at r;obtain⟨l,ys,rfl,hq,rs⟩:=r;obtain⟨qs,h1,h2,h3⟩:=gP qp rs;have hlen:qs.length=ds.length:=by rw[<-h2,rs.length]
  refine⟨l,ys,qs,rfl,hq.sq,h2,by rw[hlen];exact hl,h3,λd ep hd=>?_⟩;have s2:=ar (o:=.dD (gF [] qs) ep) hd;obtain⟨g1,g2⟩:=kG (kvs:=[]) (vs:=[]) h1 M1.nil;exact k d _ (s.trans s2) (s.free hd) ⟨_,⟨ep,ah⟩,g1,M1.same (m:=Y) g2 R' s2⟩;trivial;trivial;trivial
end
section
variable{K:Z6}{B:ZM->Prop}{Hk H H' H1:Hp}
def Rel.unset(R:Rel K B Hk O σ H)(hi:i<σ.length):Rel K B Hk (O.set i M) (σ.set i (U v)) H:=by
 have k_:i<O.length:=by rw[R.len];exact hi
 have key:∀(j:Nat) p,(O.set i M)[j]?=U (U p)->j≠i/\O[j]?=U (U p)/\(σ.set i (U v))[j]?=σ[j]?:=λj p q=>by
  by_cases hj:j=i;subst hj;rw[ZG k_]at q;cases q;rw[ZL (Zy hj)]at q;exact⟨hj,q,by rw[ZL (Zy hj)]⟩
 refine⟨R.same,R.bor,by simpa using R.len,λj e q=>?_,λj e q=>?_,λj k e f q K7 h1 h2 h3 h4=>?_⟩;obtain⟨_,q1,q2⟩:=key j _ q;obtain⟨u,q3,q4⟩:=R.var j e q1;exact⟨u,by rw[q2];exact q3,q4⟩;obtain⟨_,q1,q2⟩:=key j _ q;obtain⟨a,q3,q4⟩:=R.own j e q1;exact⟨a,by rw[q2];exact q3,q4⟩;obtain⟨_,q1,q2⟩:=key j _ h1;obtain⟨_,q3,q4⟩:=key k _ h2;rw[q2]at h3;rw[q4]at h4;exact R.dis j k e f q K7 q1 q3 h3 h4
end
section
end
section
end
section
variable{X:Cx}
open Classical in
def Dk(hu:X.A.units+64<cLine)(I:Inv X pins σ H s)(hd:okD 16 d=L)(he:es.all (okD 16)=L)(r1:Rep X.K B H d x)(r2:M1 X.K B' H es xs)(rx:RelV x v)(rv:aab xs its):∃e:Z3->Bool,(∀y,y∈its.toArray->SeqAt.EqAt X.A.in1 s y v (e y))/\∀(j:Nat) u d',its[j]?=U u->es[j]?=U d'->e u=decide (d'=d):=by
 have one:∀j u,its[j]?=U u->∃d' x',es[j]?=U d'/\okD 16 d'=L/\Rep X.K B' H d' x'/\RelV x' u:=λj u hj=>by
  have hl:=rv.length;have j_:j<xs.length:=by rw[hl];exact(ZP.mp hj).1
  obtain⟨u',Jb,ru⟩:=rv.get (i:=j) (x:=xs[j]) (by simp[j_]);rw[hj]at Jb;obtain rfl:=Z7 Jb;obtain⟨d',z_,Jh⟩:=r2.get' (i:=j) (x:=xs[j]) (by simp[j_]);exact⟨d',xs[j],z_,(ZX.mp he) d' (Zg z_),Jh,ru⟩
 have key:∀u d' x',okD 16 d'=L->Rep X.K B' H d' x'->RelV x' u->decide (∃d' x',okD 16 d'=L/\Rep X.K B' H d' x'/\RelV x' u/\d'=d)=decide (d'=d):=λu d' x' o' Jh ru=>by
  rw[YL,Y_,Y_];constructor
  rintro⟨d2,x2,o2,NR,NP,e2⟩
  rw[<-e2];have ex:=ru.inj NP;subst ex;exact Rep.inj I o' o2 Jh NR;intro e2;exact⟨d',x',o',Jh,ru,e2⟩
 refine⟨λu=>decide (∃d' x',okD 16 d'=L/\Rep X.K B' H d' x'/\RelV x' u/\d'=d),λu Jb=>?_,λj u d' hj z_=>?_⟩;obtain⟨j,hj⟩:=X0 (show u∈its by simpa using Jb);obtain⟨d',x',_,o',Jh,ru⟩:=one j u hj;have q:=(Bl I 16 d' d x' x u v X.A.in1 o' hd (by show X.A.units+1+16+1<cLine;lia) Jh r1 ru rx).2.1;show SeqAt.EqAt X.A.in1 s u v (decide (∃d' x',okD 16 d'=L/\Rep X.K B' H d' x'/\RelV x' u/\d'=d));rw[key u d' x' o' Jh ru];exact q;obtain⟨d2,x',e2,o',Jh,ru⟩:=one j u hj;rw[z_]at e2;obtain rfl:=Z7 e2;exact(key u d' x' o' Jh ru).trans (by congr)
noncomputable def Bn(x y:Z8 D):Z8 D:=match x,y with
 |some (.lst ds),some d=>if okD 16 d=L/\ds.all (okD 16)=L/\ds.idxOf d<ds.length/\ds.length<=lim then U (.int (ds.idxOf d)) else M
 |_,_=>M
def wZ(hu:X.A.units+64<cLine):MtR X "list.index" (λx vs H Q=>∃B B' l y ds d,x=.ref l/\vs=[y]/\Rep X.K B H (.lst ds) x/\Rep X.K B' H d y/\okD 16 d=L/\ds.all (okD 16)=L/\ds.idxOf d<ds.length/\ds.length<=lim/\Q (.int (ds.idxOf d)) H):=by
 intro pins s σ H x vs v us Q I rx rv h;obtain⟨B,B',l,y,ds,d,rfl,rfl,r1,r2,o1,o2,hj,hz,q⟩:=h;cases rx;obtain⟨u,rfl,ru⟩:=rv.one;simp only[Rep]at r1;obtain⟨l',xs,e,hq,rs⟩:=r1;cases e;obtain⟨its,r,pl,_⟩:=I.list hq.sq;obtain⟨e,g1,g2⟩:=Dk hu I o1 o2 r2 rs ru r;obtain⟨⟨cl,dd,dt,sl⟩,n,e1,e2,e3,e4⟩:=pl;simp only at e2 e3 e4;subst e2;subst e3;subst e4;have JY:=r.length;have Lh:=rs.length;have hsz:ds.idxOf d<its.toArray.size:=by rw[ZT];lia
 have at1:∀(i:Nat)(hi:i<its.length),e its[i]=decide (ds[i]'(by lia)=d):=λi hi=>g2 i its[i] (ds[i]'(by lia)) (by simp) (by simp);refine Wj F.slot_list_index ⟨_,e1,rfl⟩ F.entry_list_index (F.args_list_index_2 _ _) (SeqAt.list_indexAt l its.toArray n M sl u e (ds.idxOf d) hsz ?_ ?_ ?_) ⟨e1,g1,?_⟩;have:lim<2 ^ 63 - 1:=by decide +kernel
 lia;rw[List.getElem_toArray,at1];simp;intro i hi j_;rw[List.getElem_toArray,at1 i (by simpa using hi)];have:=List.not_of_lt_findIdx (p:=λz=>z==d) (xs:=ds) (i:=i) j_;simpa using this;exact⟨.int _,H,I.tok _,⟨_,rfl⟩,q⟩
set_option tactic.hygienic true in
def t5(h:Bn x y=U z):∃ds d,x=U (.lst ds)/\y=U d/\okD 16 d=L/\ds.all (okD 16)=L/\ds.idxOf d<ds.length/\ds.length<=lim/\z=.int (ds.idxOf d):=by
 unfold Bn at h;split at h;rename_i ds d;split at h;rename_i c;obtain rfl:=Z7 h;exact⟨ds,d,rfl,rfl,c.1,c.2.1,c.2.2.1,c.2.2.2,rfl⟩;trivial;trivial
theorem xw(hu:X.A.units+64<cLine)(ha:DE X m a fa)(hb:DE X m' b fb)(mc:Mc X.env a "index" b [] apos i_):DE X mm (.Call (.Attribute a "index" apos) [b] [] i_) (λq=>Bn (fa q) (fb q)):=
 (pQ Xo F.slot_list_index F.type_list_index (wZ hu) ha (ay hb aQ mc.s) mc).imp λσ H Q hz=>by
  obtain⟨B,Hk,q,d,R,e,k⟩:=hz;obtain⟨ds,d0,e1,e2,o1,o2,h1,h2,rfl⟩:=t5 e;refine⟨B,Hk,q,_,R,e1,λv H1 s1 r1=>?_⟩;have R1:=R.to s1;obtain⟨l,xs,ev,hq,rs⟩:∃l xs,v=.ref l/\abp X.K (ba m B q σ) H1 l xs/\M1 X.K (ba m B q σ) H1 ds xs:=by simpa only[Rep]using r1
  subst ev;refine⟨.inl ⟨rfl,xs,hq.sq⟩,B,Hk,q,_,R1,e2,λy H2 s2 r2=>?_⟩;exact⟨_,_,l,y,ds,d0,rfl,rfl,r1.same R1 s2,r2,o1,o2,h1,h2,k _ H2 (s1.trans s2) (by simp only[Rep])⟩
end
end L2
namespace L2
open PySem
def bg:Z9 (D×Z9 D)->D->D->Z9 (D×Z9 D)
 |[],k,e=>[(k,[e])]
 |p::r,k,e=>if p.1=k then(p.1,if e∈p.2 then p.2 else p.2++[e])::r else p::bg r k e
def oV(g:Z9 (D×Z9 D)):D:=.dD (g.map (·.1)) (g.map λp=>.dD p.2 (p.2.map λ_=>.bl L))
open PySem.Spec PyProof.Rows
variable[Lams]
def aby(Hk H:Hp)(l:ZM)(v:V)(es:Z9 D):Prop:=∃a ks ep,v=.ref a/\a≠l/\Hk a=M/\H a=U (.dD ks ep)/\ks.map (·.1)=es/\∀x∈ks,x.2=.bl L
def GL(Hk H:Hp)(l:ZM):Z9 (D×V)->Z9 (D×Z9 D)->Prop
 |[],g=>g=[]
 |p::r,g=>∃q g',g=q::g'/\p.1=q.1/\aby Hk H l p.2 q.2/\GL Hk H l r g'
def aby.to(h:aby Hk H l v es)(k:∀a ks ep,v=.ref a->H a=U (.dD ks ep)->H' a=U (.dD ks ep)):aby Hk H' l v es:=by
 obtain⟨a,ks,ep,h1,h2,h3,h4,h5⟩:=h;exact⟨a,ks,ep,h1,h2,h3,k a ks ep h1 h4,h5⟩
theorem GL.to:∀{kvs:Z9 (D×V)}{g:Z9 (D×Z9 D)},GL Hk H l kvs g->(∀p∈kvs,∀a ks ep,p.2=.ref a->H a=U (.dD ks ep)->H' a=U (.dD ks ep))->GL Hk H' l kvs g
 |[],g,h,k=>h
 |p::r,g,h,k=>by
  obtain⟨q,g',h1,h2,h3,h4⟩:=h;exact⟨q,g',h1,h2,h3.to (k p (ZW ..)),GL.to h4 λp' hp=>k p' (Z2 _ hp)⟩
theorem GL.length:∀{kvs:Z9 (D×V)}{g:Z9 (D×Z9 D)},GL Hk H l kvs g->kvs.length=g.length
 |[],g,h=>by rw[show g=[] from h];rfl
 |p::r,g,h=>by obtain⟨q,g',rfl,_,_,h4⟩:=h;simp[GL.length h4]
theorem GL.mem:∀{kvs:Z9 (D×V)}{g:Z9 (D×Z9 D)}{p:D×V},GL Hk H l kvs g->p∈kvs->∃es,aby Hk H l p.2 es/\∃q∈g,q.2=es
 |[],g,p,h,hp=>by trivial
 |p'::r,g,p,h,hp=>by
  obtain⟨q,g',rfl,h2,h3,h4⟩:=h;rcases ZZ.mp hp with rfl|hp;exact⟨q.2,h3,q,ZW ..,rfl⟩;obtain⟨es,h5,q',h6,h7⟩:=GL.mem h4 hp;exact⟨es,h5,q',Z2 _ h6,h7⟩
def jn{kvs:Z9 (D×V)}{k:D}{v:V}(h:eO kvs k=U v):∃p∈kvs,p.2=v/\p.1=k:=by
 unfold eO at h;obtain⟨p,h1,h2⟩:=Xl.mp h;exact⟨p,W0 h1,h2,by simpa using List.find?_some h1⟩
theorem GL.add{Hk H:Hp}{l a:ZM}{ks:Z9 (D×V)}{k e:D}{ep:Nat}:∀{kvs:Z9 (D×V)}{g:Z9 (D×Z9 D)},GL Hk H l kvs g->(kvs.map (·.2)).Nodup->eO kvs k=U (.ref a)->H a=U (.dD ks ep)->∀C_,GL Hk (upd H a (.dD (dn ks e (.bl L)) C_)) l kvs (bg g k e)
 |[],g,h,nd,hv,ha=>by trivial
 |p::r,g,h,nd,hv,ha=>by
  intro C_;obtain⟨q,g',rfl,h2,h3,h4⟩:=h;rw[Z1,YS]at nd;unfold bg;by_cases c:p.1=k;rw[bU c]at hv;rw[ZO (by rw[<-h2];exact c)];refine⟨_,_,rfl,h2,?_,h4.to λp' I_ a' So Kl e1 e2=>?_⟩;obtain⟨a',So,Kl,e1,e2,e3,e4,e5,e6⟩:=h3;have Jz:p.2=.ref a:=Z7 hv;rw[e1]at Jz;cases Jz;rw[ha]at e4;cases e4;refine⟨a,_,C_,e1,e2,e3,ah,?_,λx hx=>?_⟩;rw[eK];unfold jM;rw[e5];unfold dn at hx;split at hx;obtain⟨y,hy,rfl⟩:=ZV.mp hx;split;rfl;exact e6 y hy;rcases Zr.mp hx with hx|hx;exact e6 x hx;rw[Zv.mp hx];have:a'≠a:=λz=>by
   subst z;exact nd.1 (ZV.mpr ⟨p',I_,by rw[e1];exact(Z7 hv).symm⟩)
  rw[ai this];exact e2;rw[bT c]at hv;rw[ZJ (by rw[<-h2];exact c)];refine⟨_,_,rfl,h2,h3.to λa' So Kl e1 e2=>?_,GL.add h4 nd.2 hv ha C_⟩;obtain⟨p',I_,e3,_⟩:=jn hv;have:a'≠a:=λz=>by
   subst z;exact nd.1 (ZV.mpr ⟨p',I_,by rw[e3,e1]⟩)
  rw[ai this];exact e2
theorem GL.keys:∀{kvs:Z9 (D×V)}{g:Z9 (D×Z9 D)},GL Hk H l kvs g->kvs.map (·.1)=g.map (·.1)
 |[],g,h=>by rw[show g=[] from h];rfl
 |p::r,g,h=>by obtain⟨q,g',rfl,h2,_,h4⟩:=h;simp[GL.keys h4,h2]
theorem GL.snoc:∀{kvs:Z9 (D×V)}{g:Z9 (D×Z9 D)},GL Hk H l kvs g->aby Hk H l (.ref a) es->GL Hk H l (kvs++[(k,.ref a)]) (g++[(k,es)])
 |[],g,h,i=>by rw[show g=[] from h];exact⟨_,_,rfl,rfl,i,rfl⟩
 |p::r,g,h,i=>by obtain⟨q,g',rfl,h2,h3,h4⟩:=h;exact⟨_,_,rfl,h2,h3,GL.snoc h4 i⟩
theorem GL.ab7{n:Nat}{Hk H:Hp}{l:ZM}:∀{g:Z9 (D×Z9 D)},(∀q∈g,q.2.length<=n)->∀q∈bg g k e,q.2.length<=n+1
 |[],h,q,hq=>by unfold bg at hq;rw[Zv.mp hq];simp
 |p::r,h,q,hq=>by
  unfold bg at hq;split at hq;rcases ZZ.mp hq with rfl|hq;have:=h p (ZW ..);dsimp only;split;lia;rw[Zz,List.length_singleton];lia;have:=h q (Z2 _ hq);lia;rcases ZZ.mp hq with rfl|hq;have:=h q (ZW ..);lia;exact GL.ab7 (Hk:=Hk) (H:=H) (l:=l) (λq' Kv=>h q' (Z2 _ Kv)) q hq
theorem hW:∀(g:Z9 (D×Z9 D))(k e:D),(bg g k e).length<=g.length+1
 |[],k,e=>by simp[bg]
 |p::r,k,e=>by
  unfold bg;split;simp;have:=hW r k e;simp only[cK];lia
def InM(K:Z6)(B:ZM->Prop)(Hk H:Hp)(l:ZM)(v:V)(es:Z9 D):Prop:=Rep K B H (.dD es (es.map λ_=>.bl L)) v\/aby Hk H l v es
def GM(K:Z6)(B:ZM->Prop)(Hk H:Hp)(l:ZM):Z9 (D×V)->Z9 (D×Z9 D)->Prop
 |[],g=>g=[]
 |p::r,g=>∃q g',g=q::g'/\p.1=q.1/\InM K B Hk H l p.2 q.2/\GM K B Hk H l r g'
theorem GL.m{K:Z6}{B:ZM->Prop}{Hk H:Hp}{l:ZM}:∀{kvs:Z9 (D×V)}{g:Z9 (D×Z9 D)},GL Hk H l kvs g->GM K B Hk H l kvs g
 |[],g,h=>h
 |p::r,g,h=>by obtain⟨q,g',h1,h2,h3,h4⟩:=h;exact⟨q,g',h1,h2,.inr h3,GL.m h4⟩
theorem CJ{K:Z6}{B:ZM->Prop}{H:Hp}:∀{ks:Z9 (D×V)},(∀x∈ks,x.2=.bl L)->M1 K B H ((ks.map (·.1)).map λ_=>.bl L) (ks.map (·.2))
 |[],h=>M1.nil
 |p::r,h=>M1.cons (by simp only[Rep];exact h p (ZW ..)) (CJ λx hx=>h x (Z2 _ hx))
def aby.obR{K:Z6}{B:ZM->Prop}{Hk H:Hp}{l:ZM}{v:V}{es:Z9 D}(h:aby Hk H l v es):∃a,v=.ref a/\a≠l/\Hk a=M/\ObR K B H (.dD es (es.map λ_=>.bl L)) a:=by
 obtain⟨a,ks,ep,h1,h2,h3,h4,rfl,h6⟩:=h;exact⟨a,h1,h2,h3,ks,⟨ep,h4⟩,rfl,CJ h6⟩
theorem GM.ab_{K:Z6}{B:ZM->Prop}{Hk H:Hp}{l b:ZM}{u:HO}{o:Obj}(hx:H b=U u)(mu:Mut (U u))(nb:¬B b):∀{kvs:Z9 (D×V)}{g:Z9 (D×Z9 D)},GM K B Hk H l kvs g->GM K B Hk (upd H b (.frz o u)) l kvs g
 |[],g,h=>h
 |p::r,g,h=>by
  obtain⟨q,g',h1,h2,h3,h4⟩:=h;refine⟨q,g',h1,h2,?_,GM.ab_ hx mu nb h4⟩;rcases h3 with h3|h3;exact .inl (h3.ext (bZ hx mu nb));by_cases c:p.2=.ref b;obtain⟨a,e1,e2,e3,ob⟩:=h3.obR (K:=K) (B:=B);rw[c]at e1;cases e1;rw[c];exact .inl (ob.frozen hx nb λ_ z=>z);exact .inr (h3.to λa ks ep e1 e2=>by rw[ai (λz=>c (by rw[e1,z]))];exact e2)
theorem EN{X:Cx}{pins:Z9 (ZM×Obj)}{σ:St}{s:ZR}{B:ZM->Prop}{Hk:Hp}{l:ZM}{ol:HO}(hB:∀a,B a->∃o:HOn,Hk a=U o.1):∀(kvs:Z9 (D×V))(g:Z9 (D×Z9 D))(H:Hp),Inv X pins σ H s->GM X.K B Hk H l kvs g->H l=U ol->
  ∃H',Inv X pins σ H' s/\Ext B H H'/\(∀c o o',Hk c=U o'->H c=U o->H' c=U o)/\H' l=U ol/\M1 X.K B H' (g.map λp=>.dD p.2 (p.2.map λ_=>.bl L)) (kvs.map (·.2))
 |[],g,H,I,h,hl=>⟨H,I,Ext.refl,λ_ _ _ _ q=>q,hl,by rw[show g=[] from h];exact M1.nil⟩
 |p::r,g,H,I,h,hl=>by
  obtain⟨q,g',rfl,h2,h3,h4⟩:=h;rcases h3 with h3|h3;obtain⟨H',I',e',k',l',r'⟩:=EN hB r g' H I h4 hl;exact⟨H',I',e',k',l',M1.cons (h3.ext e') r'⟩;obtain⟨a,e1,e2,e3,ob⟩:=h3.obR (K:=X.K) (B:=B);obtain⟨u,hu,mu⟩:=ob.mut;obtain⟨o,I1⟩:=I.frz hu mu;have nb:¬B a:=λz=>by obtain⟨o',w⟩:=hB a z;rw[e3]at w;trivial
  have ex:Ext B H (upd H a (.frz o u)):=bZ hu mu nb;obtain⟨H',I',e',k',l',r'⟩:=EN hB r g' _ I1 (GM.ab_ hu mu nb h4) (by rw[ai (Zy e2)];exact hl);refine⟨H',I',ex.trans e',λc o' o2 q1 q2=>k' c o' o2 q1 (by rw[ai (av q1 e3)];exact q2),l',M1.cons ?_ r'⟩;dsimp only;rw[e1];exact(ob.frozen hu nb λ_ z=>z).ext e'
def yu(q:Mk):Bool:=q.all λo=>match o with|some (_,true)=>Y|_=>L
def sx(h:yu q=L):bf q:=λi d e=>by
 have:=(ZX.mp h) _ (Zg e);simp at this
def eX(h:bf O):bf (O.set i M):=λj e q=>by
 by_cases hj:i=j
 .subst hj
  rw[List.getElem?_set]at q;split at q
  .split at q<;>cases q
  exact h i e q
 rw[ZL hj]at q;exact h j e q
def Rel.acz{K:Z6}{B:ZM->Prop}{Hk H:Hp}{O:Mk}{σ:St}{l:ZM}{u o:HO}(R:Rel K B Hk O σ H)(no:bf O)(hk:Hk l=M)(hl:H l=U u)(mu:Mut (U u)):Ext B H (upd H l o)/\Rel K B Hk O σ (upd H l o):=by
 have nb:¬B l:=λz=>by obtain⟨o,q⟩:=R.bor l z;rw[hk]at q;trivial
 have ex:Ext B H (upd H l o):=bZ hl mu nb;refine⟨ex,R.same.put hk,R.bor,R.len,λj e q=>?_,λj e q=>(no j e q).elim,R.dis⟩;obtain⟨v,q1,q2⟩:=R.var j e q;exact⟨v,q1,q2.ext ex⟩
noncomputable def cu(ib ik ir:Nat)(fk fe:Mk->Z8 D):Z9 D->Mk->Z9 (D×Z9 D)->Z8 (Z9 (D×Z9 D))
 |[],_,g=>U g
 |d::ds,q,g=>match fk (q.set ib (U (d,Y)))with
  |some k=>(match fe (((q.set ib (U (d,Y))).set ik (U (k,Y))).set ir M)with
   |some e=>if(aW 8 k&&l8 k&&(aW 8 e&&l8 e))=L then cu ib ik ir fk fe ds (((q.set ib (U (d,Y))).set ik (U (k,Y))).set ir M) (bg g k e) else M
   |none=>M)
  |none=>M
noncomputable def Cu(ig ib ik ir:Nat)(fi:Mk->Z8 (Z9 D))(fk fe:Mk->Z8 D)(q:Mk):Z8 Out:=
 if yu q=L/\ig<q.length/\ib<q.length/\ik<q.length/\ir<q.length then
  (match fi (q.set ig M)with
  |some ds=>if ds.length<lim then(match cu ib ik ir fk fe ds (q.set ig M) []with|some g=>U (.ret (oV g) L)|none=>M) else M
  |none=>M) else M
def qY(h:Cu ig ib ik ir fi fk fe q=U o):bf q/\(ig<q.length/\ib<q.length/\ik<q.length/\ir<q.length)/\∃ds g,fi (q.set ig M)=U ds/\ds.length<lim/\cu ib ik ir fk fe ds (q.set ig M) []=U g/\o=.ret (oV g) L:=by
 unfold Cu at h;split at h;rename_i c;split at h;rename_i ds q1;split at h;rename_i hl;split at h;rename_i g q2;cases h;exact⟨sx c.1,c.2,ds,g,q1,hl,q2,rfl⟩;trivial;trivial;trivial;trivial
theorem gj:∀{g:Z9 (D×Z9 D)}{k e:D},¬k∈g.map (·.1)->bg (g++[(k,[])]) k e=bg g k e
 |[],k,e,_=>by simp[bg]
 |p::r,k,e,h=>by
  simp only[Z1,ZZ,Xm]at h;show bg (p::(r++[(k,[])])) k e=_;unfold bg;rw[ZJ (λz=>h.1 z.symm),ZJ (λz=>h.1 z.symm),gj h.2]
def ww{kvs:Z9 (D×V)}{k:D}{v:V}(h:eO kvs k=M):eO (kvs++[(k,v)]) k=U v:=by
 induction kvs with
 |nil=>exact bU rfl
 |cons p r ih=>
  by_cases c:p.1=k;rw[bU c]at h;trivial;rw[bT c]at h;rw[List.cons_append,bT c];exact ih h
structure ack (K:Z6)(B:ZM->Prop)(Hk:Hp)(ig l n:Nat)(δ:Mk)(σ:St)(H:Hp)(g:List (D×List D)):Prop where
 rel:Rel K B Hk δ σ H
 no:bf δ
 at':σ[ig]?=some (some (.ref l))
 new:Hk l=none
 dict:∃kvs ep,H l=some (.dD kvs ep)/\GL Hk H l kvs g/\(kvs.map (·.2)).Nodup
 len:g.length<=n
 ab7:∀q∈g,q.2.length<=n
section
variable{X:Cx}{ig ib ik ir:Nat}{fk fe:Mk->Z8 D}{p3 Sa R_:Pos}
noncomputable def tGR(K:Z6)(ig:Nat):TS:=λDn σ H=>∃B Hk l kvs ep g,(∀a,B a->∃o:HOn,Hk a=U o.1)/\σ[ig]?=U (U (.ref l))/\H l=U (.dD kvs ep)/\GL Hk H l kvs g/\
 ∀H',Ext B H H'->(∀c o o',Hk c=U o'->H c=U o->H' c=U o)->ObR K B H' (oV g) l->Dn.rt (.ref l) H'
def zF(ng:Nm X ig xg):PS X (.Return (U (.Name xg UK)) UJ) (tGR X.K ig):=by
 intro pins s σ H Dn I ⟨B,Hk,l,kvs,ep,g,hB,Qr,hl,gl,k⟩;obtain⟨H',I',e',k',l',r'⟩:=EN hB kvs g H I gl.m hl;exact n8 (bF ng.at' ng.vis ng.d1 ng.d2) pins s σ H' Dn I' ⟨.ref l,Qr,k H' e' k' ⟨kvs,⟨ep,l'⟩,gl.keys,r'⟩⟩
def vC{K:Z6}{B:ZM->Prop}{Hk:Hp}{l n:Nat}{O:Mk}{σ:St}{H H3 H4:Hp}{g:Z9 (D×Z9 D)}{d k e:D}{v vk:V}{N:St->Hp->Prop}{Dn:Ends}
  (j_:ig<σ.length/\ib<σ.length/\ik<σ.length/\ir<σ.length) (h1:ig≠ib) (h2:ig≠ik) (h3:ig≠ir) (h5:ik≠ir) (hn:n<lim)
  (G:ack K B Hk ig l n O σ H g) (sy:aad H H3) (rv:Rep K B H3 d v) (qk:fk (O.set ib (U (d,Y)))=U k) (s4:aad H3 H4) (rk:Rep K B H4 k vk)
  (qe:fe (((O.set ib (U (d,Y))).set ik (U (k,Y))).set ir M)=U e) (Pm:(aW 8 k&&l8 k&&(aW 8 e&&l8 e))=L)
  (fin:∀h_ H',Ext B H H'->ack K B Hk ig l (n+1) (((O.set ib (U (d,Y))).set ik (U (k,Y))).set ir M) h_ H' (bg g k e)->N h_ H'):
  Eh (A4 (FO abQ (vi ig) (pJ (vi ik) (pJ ab1 ab0))) (gY ir)) (sPA (vi ir) (tM K Y fe) (tC (.bl L))) {Dn with nx:=N} ((σ.set ib (U v)).set ik (U vk)) H4:=by
 simp only[ZK]at Pm;obtain⟨⟨k8,kt⟩,e8,et⟩:=Pm;obtain⟨lg,lb,lk,lr⟩:=j_;have R3:=(G.rel.to sy).set (i:=ib) lb rv;have R4:=(R3.to s4).set (i:=ik) (by rw[ZC];exact lk) rk;have Qg:bf ((O.set ib (U (d,Y))).set ik (U (k,Y))):=gE (gE G.no);obtain⟨kvs,ep,hl,gl,nd⟩:=G.dict;have O2:=sy.trans s4;have QG:H4 l=U (.dD kvs ep):=O2 l _ hl;have Tq:GL Hk H4 l kvs g:=gl.to λp hp a ks Kl e1 e2=>O2 a _ e2;obtain⟨b,rfl⟩:=dj kt rk;have kr:KR H4 k (.ref b):=rk.key k8;have RN:((σ.set ib (U v)).set ik (U (.ref b)))[ig]?=U (U (.ref l)):=by
  rw[ZL (Zy h2),ZL (Zy h1)];exact G.at'
 have TZ:((σ.set ib (U v)).set ik (U (.ref b)))[ik]?=U (U (.ref b)):=ZG (by rw[ZC];exact lk);refine⟨.ref l,RN,⟨l,rfl,.inr ⟨kvs,ep,.inl QG⟩⟩,.ref b,TZ,λc hc=>?_⟩;have cl:c≠l:=λz=>by subst z;rw[QG]at hc;trivial
 have sc:=ar (o:=.dD [] 0) hc;have ND:upd H4 c (.dD [] 0) l=U (.dD kvs ep):=sc l _ QG;have PF:GL Hk (upd H4 c (.dD [] 0)) l kvs g:=Tq.to λp hp a ks Kl e1 e2=>sc a _ e2;have Qm:KR (upd H4 c (.dD [] 0)) k (.ref b):=(rk.ext (R4.ext sc)).key k8;have Rc:=R4.to sc;have xc:Ext B H (upd H4 c (.dD [] 0)):=G.rel.ext (O2.trans sc);have aq:∀(H5:Hp)(a:ZM)(J8:Z9 (D×V))(LX:Nat)(g1:Z9 (D×Z9 D)),Ext B H H5->Rel K B Hk ((O.set ib (U (d,Y))).set ik (U (k,Y))) ((σ.set ib (U v)).set ik (U (.ref b))) H5->H5 l=U (.dD J8 LX)->GL Hk H5 l J8 g1->(J8.map (·.2)).Nodup->
   eO J8 k=U (.ref a)->bg g1 k e=bg g k e->(∀q∈g1,q.2.length<=n)->
   sPA (vi ir) (tM K Y fe) (tC (.bl L)) {Dn with nx:=N} (((σ.set ib (U v)).set ik (U (.ref b))).set ir (U (.ref a))) H5:=by
  intro H5 a J8 LX g1 x5 R5 Vv Tp Sg Sy Tw Sm;have R6:=R5.unset (i:=ir) (v:=.ref a) (by rw[ZC,ZC];exact lr);refine⟨.ref a,ZG (by rw[ZC,ZC];exact lr),B,Hk,_,e,R6,qe,λy H6 s6 ry=>?_⟩;obtain⟨b2,rfl⟩:=dj et ry;obtain⟨p,hp,e1,e2⟩:=jn Sy;obtain⟨es,⟨a',ks,Kl,f1,f2,f3,f4,f5,f6⟩,q,hq,SF⟩:=Tp.mem hp;rw[e1]at f1;cases f1;have Q3:H6 a=U (.dD ks Kl):=s6 a _ f4;have Mh:ks.length<=n:=by
   have:=Sm q hq;rw[SF,<-f5,Z0]at this;exact this
  refine⟨a,rfl,.inr ⟨ks,Kl,e,b2,Q3,rfl,e8,ry.key e8,?_,λC_=>?_⟩⟩;exact ZA (Nat.lt_of_le_of_lt Mh hn) (aJ (ZU _));have R7:=R6.to s6;have gl6:GL Hk H6 l J8 g1:=Tp.to λp hp a ks Kl e1 e2=>s6 a _ e2;obtain⟨x8,R8⟩:=R7.acz (o:=.dD (dn ks e (.bl L)) C_) (eX Qg) f3 Q3 trivial;refine fin _ _ ((x5.trans (R5.ext s6)).trans x8) ⟨R8,eX Qg,?_,G.new,⟨J8,LX,?_,?_,Sg⟩,?_,?_⟩;rw[ZL (Zy h3)];exact RN;rw[ai (Zy f2)];exact s6 l _ Vv;rw[<-Tw];exact gl6.add Sg Sy Q3 C_;have:=hW g k e;have:=G.len;lia;rw[<-Tw];exact GL.ab7 (Hk:=Hk) (H:=H) (l:=l) Sm
 cases hv:eO kvs k with
 |some w=>
  obtain⟨p,hp,e1,e2⟩:=jn hv;obtain⟨es,⟨a,ks,Kl,f1,f2,f3,f4,f5,f6⟩,q,hq,SF⟩:=PF.mem hp;have ew:w=.ref a:=by rw[<-e1,f1]
  subst ew;refine⟨l,.ref b,.ref c,.ref a,rfl,rfl,.inl ⟨.inr ⟨kvs,ep,k,b,.inl ND,rfl,k8,Qm,hv.symm⟩,?_,.inr ⟨kvs,ep,ND⟩⟩⟩;exact aq _ a kvs ep g xc Rc ND PF nd hv rfl G.ab7
 |none=>
  refine⟨l,.ref b,.ref c,.ref c,rfl,rfl,.inr ⟨.inr ⟨kvs,ep,k,b,.inl ND,rfl,k8,Qm,hv.symm⟩,rfl,.inr ⟨kvs,ep,k,b,ND,rfl,k8,Qm,?_,λC_=>?_⟩⟩⟩;rw[gl.length];exact ZA (Nat.lt_of_le_of_lt G.len hn) (aJ (ZU _));have Vx:Hk c=M:=G.rel.same.free ((O2.free hc));obtain⟨x5,R5⟩:=Rc.acz (o:=.dD (dn kvs k (.ref c)) C_) Qg G.new ND trivial;have ek:¬k∈g.map (·.1):=by rw[<-gl.keys];exact vA hv
  refine aq _ c (dn kvs k (.ref c)) C_ (g++[(k,[])]) (xc.trans x5) R5 ah ?_ ?_ ?_ (gj ek) ?_;rw[ja _ hv];refine GL.snoc (PF.to λp hp a ks Kl e1 e2=>?_) ⟨c,[],0,rfl,cl,Vx,?_,rfl,λx hx=>by cases hx⟩;have:a≠l:=λz=>by
   obtain⟨es,⟨a2,U0,ep3,z1,z2,_⟩,_⟩:=PF.mem hp;rw[e1]at z1;cases z1;exact z2 z
  rw[ai this];exact e2;rw[ai cl];exact ah;rw[ja _ hv,Y2];refine X1.mpr ⟨nd,by simp,λx hx y hy z=>?_⟩;obtain rfl:y=.ref c:=by simpa using hy
  subst z;obtain⟨p,hp,e1⟩:=ZV.mp hx;obtain⟨es,⟨a2,U0,ep3,z1,z2,z3,z4,_⟩,_⟩:=Tq.mem hp;rw[e1]at z1;cases z1;rw[hc]at z4;trivial;rw[ja _ hv];exact ww hv;intro q hq;rcases Zr.mp hq with hq|hq;exact G.ab7 q hq;rw[Zv.mp hq];exact Zs _
set_option tactic.hygienic true in
theorem tO(hp:PassesOwn (model X.prog X.w) X.A X.env X.xe)(hc:X.calm=L)(hu:X.A.units+64<cLine)(hN:X.N.Nodup)(ng:Nm X ig xg)(lg:Lc X ig xg)(lb:Lc X ib xb)(nk:Nm X ik xk)(lk:Lc X ik xk)(nr:Nm X ir xr)(lr:Lc X ir xr)
  (h1:ig≠ib) (h2:ig≠ik) (h3:ig≠ir) (h5:ik≠ir) (hi:DI X Y (.Name xb p4) iter fi) (hk:DE X Y ke fk) (he:DE X Y ve fe)
  (hs:∀x,foldedSetIterable iter X.env x=pure x)
  (Rt:swapsWith (.Dict [] [] p2) (U (.Name xg p1)) p3.line X.env=pure Y)
  (MU:swapsWith ke (U (.Name xk p5)) p6.line X.env=pure Y)
  (MT:swapsWith (.Call (.Attribute (.Name xg p8) "setdefault" ap) [.Name xk p9,.Dict [] [] Mf] [] cp) (U (.Name xr p7)) Sa.line X.env=pure Y)
  (Rr:swapsWith (.Constant (.bool L) kk UL) (U (.Subscript (.Name xr UN) ve UM)) R_.line X.env=pure Y)
  (base:attributeBase (.Name xg p8) "setdefault" X.env (eval (.Name xg p8) X.env)=eval (.Name xg p8) X.env)
  (few:((backTo cp (starEach [.Name xk p9,.Dict [] [] Mf] X.env)).all (λx=>!x.1)&&(backToKw cp (keywordEach [] X.env)).all (λx=>x.1.isSome)&&decide (([Expr.Name xk p9,.Dict [] [] Mf]).length+([]:Z9 Keyword).length+(if([]:Z9 Keyword).isEmpty then 0 else 1)<30))=L)
  (line:(ap.endLine==cp.line)=L)(Ir:starEach [.Name xk p9,.Dict [] [] Mf] X.env=(Y,eval (.Name xk p9) X.env)::starEach [.Dict [] [] Mf] X.env)(IW:starEach [.Dict [] [] Mf] X.env=[(Y,eval (.Dict [] [] Mf) X.env)])(plain:(backTo cp (starEach [.Dict [] [] Mf] X.env)).any (·.1)=Y):
  DSs X (.Assign [.Name xg p1] (.Dict [] [] p2) p3::
   .For (.Name xb p4) iter (.Assign [.Name xk p5] ke p6::
    .Assign [.Name xr p7] (.Call (.Attribute (.Name xg p8) "setdefault" ap) [.Name xk p9,.Dict [] [] Mf] [] cp) Sa::
    .Assign [.Subscript (.Name xr UN) ve UM] (.Constant (.bool L) kk UL) R_::[]) [] p16::
   .Return (U (.Name xg UK)) UJ::[]) (Cu ig ib ik ir fi fk fe):=by
 intro pins s σ H Dn I hq;obtain⟨B,Hk,O,o,R,e,U2⟩:=hq;obtain⟨no,⟨q1,q2,q3,q4⟩,ds,g,Jc,hl,hg,rfl⟩:=qY e;have Qr:=R.len;refine bV (iq hN lg.at' lg.loc jC Rt lg.fnl)
  (bV (xQ hp hc hi (mI hN lb.at' lb.loc lb.fnl)
   (bV (iq hN lk.at' lk.loc hk MU lk.fnl)
    (bV (iq hN lr.at' lr.loc (uP F.slot_dict_setdefault F.type_dict_setdefault (kY hu) (bF ng.at' ng.vis ng.d1 ng.d2) (ay (bF nk.at' nk.vis nk.d1 nk.d2) (ay jC aQ IW) Ir) base few line Ir plain) MT lr.fnl)
     (mZ (nE hu (bF nr.at' nr.vis nr.d1 nr.d2) he Dw Rr)))) hs)
   (mZ (zF ng))) pins s σ H Dn I ?_
 intro p SJ;have s1:=ar (o:=.dD [] 0) SJ;have R1:=(R.to s1).unset (i:=ig) (v:=.ref p) (by lia);have Pk:Hk p=M:=R.same.free SJ;refine⟨B,Hk,_,ds,R1,Jc,λJ H2 s2 it=>?_⟩;have Lg:ItD X.K B H2 J ds:=it;refine⟨λi n h_ H'=>n=ds.length - i/\i<=ds.length/\Ext B H2 H'/\∃d_ g',ack X.K B Hk ig p i d_ h_ H' g'/\h_.length=σ.length/\cu ib ik ir fk fe (ds.drop i) d_ g'=U g,
  ⟨ds.length,by simp,Zs _,Ext.refl,_,[],⟨R1.to s2,eX no,ZG (by lia),Pk,⟨[],0,s2 p _ ah,rfl,Yt⟩,Zs _,λq hq=>by cases hq⟩,by rw[ZC],by simpa using hg⟩,?_⟩
 intro i n h_ H' hz;obtain⟨rfl,k_,x,d_,g',G,hlen,e'⟩:=hz;obtain⟨IF,N5⟩:=Lg H' x;by_cases j_:i<ds.length;obtain⟨go,yl⟩:=N5 i ds[i] (by simp[j_]);refine .inr ⟨go,λJo H3=>Ext B H2 H3/\∃d_ g',ack X.K B Hk ig p (i+1) d_ Jo H3 g'/\Jo.length=σ.length/\cu ib ik ir fk fe (ds.drop (i+1)) d_ g'=U g,λJo H3 z=>⟨_,by lia,rfl,j_,z⟩,λv H3 hy=>?_⟩;obtain⟨sy,rv⟩:=yl v H3 hy;rw[Zn j_]at e';simp only[cu]at e';split at e';rename_i k qk;split at e';rename_i e2 qe;split at e';rename_i h8;refine⟨B,Hk,_,k,(G.rel.to sy).set (i:=ib) (by lia) rv,qk,λvk H4 s4 rk=>?_⟩;refine vC (Dn:=Dn) ⟨by lia,by lia,by lia,by lia⟩ h1 h2 h3 h5 (by lia) G sy rv qk s4 rk qe h8 λJo H5 x5 G5=>⟨x.trans x5,_,_,G5,?_,e'⟩
 have r1:=G5.rel.len;have r2:=G.rel.len;simp only[ZC]at r1;lia;trivial;trivial;trivial;have Ky:i=ds.length:=by lia
 subst Ky;rw[WI]at e';simp only[cu]at e';cases e';obtain⟨kvs,ep,JY,gl,nd⟩:=G.dict;refine .inl ⟨IF,B,Hk,p,kvs,ep,g,R.bor,G.at',JY,gl,λH' x' k' ob=>?_⟩;have same:aad Hk H':=G.rel.same.keep k';exact U2 (.ref p) H' (((R.ext s1).trans (R1.ext s2)).trans (x.trans x')) same (by unfold oh;rw[ZO rfl];exact .inl ⟨p,rfl,Pk,ob⟩)
end
abbrev IsZ(h:Heap)(z P O:ZM)(f:Z3)(b:Bool):Prop:=
 h.get? z=U {cls:=.type "zip",dict:=M,data:=.fields #[f,.bool b,.bool Y,.ref P,.ref O],slots:=#[]}
structure Zq (t u:Bool)(h:Heap)(z P O c d p q:ZM)(n:Nat)(T:ZM)(b:Bool):Prop where
 zz:IsZ h z P O (rawInt T) b
 al:∃o,h.get? T=some o
 pp:IsPair h P (.ref c) (.ref d)
 oo:∃a b,IsPair h O a b
 cc:abi t h c p n
 dd:abi u h d q n
section
variable{A:Za}{E:Z3->ZR->Prop}{s:ZR}
def fg(h:Q (s.heap.get? a) s):wpAny Mq A (loadIfAlive a) Q E s:=λΓ p _=>by
 unfold loadIfAlive;rw[Sem.wp_loadIfAlive];exact(Sem.wp_pure ..).mpr h
def wH{bo:Bool}{z P O T:ZM}{oT:Obj}{Q:Bool->ZR->Prop}(zz:IsZ s.heap z P O (rawInt T) bo)(al:s.heap.get? T=U oT)(h:∀JK,IsZ JK z P O (rawInt T) L->Heap.SameBut z s.heap JK->Q Y {s with heap:=JK}):
  wpAny (model prog w) A (Builtin.SmallTypes.ownedTupleIsFree (.ref z)) Q E s:=by
 unfold Builtin.SmallTypes.ownedTupleIsFree;have VX:s.heap.get? (Int.toNat (T:Int))=U oT:=by rw[Int.toNat_natCast];exact al
 refine Z_ (XG zz rfl (x:=rawInt T) rfl ?_);unfold rawInt;dsimp only;refine Z_ (fg ?_);rw[VX];simp only[Option.isNone_some,ZY,Zj];refine Z_ (XG zz rfl (x:=.bool bo) rfl ?_);cases bo with
 |true=>
  refine dM (by decide) ?_;exact Z5 (h _ zz ⟨rfl,λ_ _=>rfl⟩)
 |false=>
  refine eS (by decide) ?_;exact Z_ (X3 zz (by simp) λJK M4 v_=>Z5 (h JK M4 v_))
def sR{t u bo:Bool}{z P O c d p q T:ZM}{n:Nat}{xs ys:Array Z3}{Q:Z3->ZR->Prop}(hh:A.handled=M)(ap:Ap z P O c d p q)(hT:T∉[z,P,O,c,d])(Z:Zq t u s.heap z P O c d p q n T bo)
  (hp:aau t s.heap p xs) (hq:aau u s.heap q ys)
  (item:∀x y,xs[n]?=U x->ys[n]?=U y->∀h',Zq t u h' z P O c d p q (n+1) T L->IsPair h' s.z x y->h'.objs.size=s.z+1->
   (∀b o,b∉[z,P,O,c,d]->s.heap.get? b=U o->h'.get? b=U o)->Q (.ref s.z) {s with heap:=h'})
  (stop:(xs[n]?=M\/ys[n]?=M)->∀h' e,(∀b o,b∉[z,P,O,c,d]->s.heap.get? b=U o->h'.get? b=U o)->(∃o,h'.get? e=U o/\o.cls=.type "StopIteration")->E (.ref e) {s with heap:=h'}):
  wpAny (model prog w) A (Builtin.«zip.__next__» ⟨[.ref z],[]⟩) (λr s'=>∃v,r=.done (.ret v)/\Q v s') E s:=by
 obtain⟨zz,⟨oT,al⟩,pp,⟨a,b,oo⟩,cc,dd⟩:=Z;have nd:=ap.nd;have np:=ap.p;have nq:=ap.q;simp only[YS,ZZ,Zm,YA,Xm,Yt,and_true,WX]at nd np nq hT;obtain⟨⟨zP,zO,zc,zd⟩,⟨PO,Pc,Pd⟩,⟨Oc,Od⟩,cd⟩:=nd;obtain⟨pz,pP,pO,pc,pd⟩:=np;obtain⟨qz,qP,qO,qc,qd⟩:=nq;obtain⟨Tz,TP,TO,Tc,Td⟩:=hT;change wpAny _ _ (field (.ref z) 2 >>= _) _ E s;refine Z_ (XG zz rfl (x:=.bool Y) rfl ?_);change wpAny _ _ (field (.ref z) 3 >>= _) _ E s;refine Z_ (XG zz rfl (x:=.ref P) rfl (Z_ (Yw pp rfl ?_)));change wpAny _ _ (Builtin.SmallTypes.ownedTupleIsFree (.ref z) >>= _) _ E s;refine Z_ (wH zz al λJK Lk v_=>?_);simp only[ZY,Zj];rw[<-Xq];simp only[Wt,List.forIn_nil];refine Z_ (Z_ (Z_ (Y4 ?_)));change wpAny _ _ (Builtin.SmallTypes.nextOf (.ref c) >>= _) _ _ _;refine Z_ (DZ (t:=t) hh (cc.to λo e=>ag v_ (Zy zc) e) (hp.to λo e=>ag v_ pz e) (λx hx KI L8 u_=>Z5 ?_) λhx KI e u_ he=>?_);dsimp only;refine Z5 ?_;dsimp only;refine Z_ (Z_ (Y4 ?_));change wpAny _ _ (Builtin.SmallTypes.nextOf (.ref d) >>= _) _ _ _;refine Z_ (DZ (t:=u) hh (dd.to λo e=>ag u_ (Zy cd) (ag v_ (Zy zd) e)) (hq.to λo e=>ag u_ qc (ag v_ qz e)) (λy hy F_ M7 Iw=>Z5 ?_) λhy F_ e Iw he=>?_);dsimp only;refine Z5 (Z5 ?_);dsimp only;refine Z_ (V9 (Z5 ⟨_,rfl,?_⟩) (by show 2<=sizeLine;rw[Yk];lia));have sz:F_.objs.size=s.z:=by rw[Iw.1,u_.1,v_.1]
 have old:∀f o,f≠z->f≠c->f≠d->s.heap.get? f=U o->F_.get? f=U o:=λf o n1 n3 n4 e=>ag Iw n4 (ag u_ n3 (ag v_ n1 e));have LY:IsZ F_ z P O (rawInt T) L:=ag Iw zd (ag u_ zc Lk);have up:∀f o,F_.get? f=U o->(F_.push {cls:=.type "tuple",data:=.seq #[x,y]}).get? f=U o:=λf o e=>Z4 _ e;have new:IsPair (F_.push {cls:=.type "tuple",data:=.seq #[x,y]}) F_.objs.size x y:=ZN _ rfl;have NM:(F_.push {cls:=.type "tuple",data:=.seq #[x,y]}).objs.size=F_.objs.size+1:=YE ..;show Q (.ref F_.objs.size) _;rw[sz]at new NM⊢;refine item x y hx hy _ ⟨up _ _ LY,⟨oT,up _ _ (old _ _ Tz Tc Td al)⟩,up _ _ (old _ _ (Zy zP) Pc Pd pp),⟨a,b,up _ _ (old _ _ (Zy zO) Oc Od oo)⟩,?_,?_⟩ new NM λf o hf e=>?_;exact L8.to λo e=>up _ o (ag Iw cd e);exact M7.to λo e=>up _ o e;simp only[ZZ,Zm,YA,Xm]at hf;exact up f o (old f o hf.1 hf.2.2.2.1 hf.2.2.2.2 e);refine stop (.inr hy) F_ e (λf o hf g=>?_) he;simp only[ZZ,Zm,YA,Xm]at hf;obtain⟨n1,_,n2,n3,n4⟩:=hf;exact Iw _ _ n4 (ag u_ n3 (ag v_ n1 g));refine stop (.inl hx) KI e (λf o hf g=>?_) he;simp only[ZZ,Zm,YA,Xm]at hf;exact u_ _ _ hf.2.2.2.1 (ag v_ hf.1 g)
def ZS(t u:Bool)(h:Heap)(z P O c d p q:ZM)(n:Nat):Prop:=Zp t u h z P O c d p q n .none\/∃T b,T∉[z,P,O,c,d]/\Zq t u h z P O c d p q n T b
theorem ZS.to(Z:ZS t u h z P O c d p q n)(k:∀b o,b≠S->h.get? b=U o->h'.get? b=U o)(hS:S∉[z,P,O,c,d])(he:∃o,h'.get? S=U o):ZS t u h' z P O c d p q n:=by
 have ne:∀b∈[z,P,O,c,d],b≠S:=λb hb e=>hS (by rw[<-e];exact hb);rcases Z with⟨zz,pp,⟨a,b,oo⟩,cc,dd⟩|⟨T,bo,nT,⟨zz,⟨o,al⟩,pp,⟨a,b,oo⟩,cc,dd⟩⟩
 exact .inl ⟨k _ _ (ne z (by simp)) zz,k _ _ (ne P (by simp)) pp,⟨a,b,k _ _ (ne O (by simp)) oo⟩,cc.to λo e=>k _ o (ne c (by simp)) e,dd.to λo e=>k _ o (ne d (by simp)) e⟩;refine .inr ⟨T,bo,nT,k _ _ (ne z (by simp)) zz,?_,k _ _ (ne P (by simp)) pp,⟨a,b,k _ _ (ne O (by simp)) oo⟩,cc.to λo e=>k _ o (ne c (by simp)) e,dd.to λo e=>k _ o (ne d (by simp)) e⟩;by_cases e:T=S;rw[e];exact he;exact⟨o,k _ _ e al⟩
def kX(hh:A.handled=M)(ap:Ap z P O c d p q)(Z:ZS t u s.heap z P O c d p q n)(hp:aau t s.heap p xs)(hq:aau u s.heap q ys)(item:∀x y,xs[n]?=U x->ys[n]?=U y->∀h',ZS t u h' z P O c d p q (n+1)->IsPair h' s.z x y->h'.objs.size=s.z+1->
   (∀b o,b∉[z,P,O,c,d]->s.heap.get? b=U o->h'.get? b=U o)->Q (U (.ref s.z)) {s with heap:=h'}) (stop:(xs[n]?=M\/ys[n]?=M)->∀h',(∀b o,b∉[z,P,O,c,d]->s.heap.get? b=U o->h'.get? b=U o)->Q M {s with heap:=h'}):
  wpAny (model prog w) A (pyNext (.ref z)) Q E s:=by
 have Qk:∀b∈[z,P,O,c,d],b<s.z:=λb hb=>by
  rcases Z with⟨zz,pp,⟨a,b',oo⟩,cc,dd⟩|⟨T,bo,nT,⟨zz,⟨o,al⟩,pp,⟨a,b',oo⟩,cc,dd⟩⟩<;>
   (simp only[ZZ,Zm,YA]at hb
    rcases hb with rfl|rfl|rfl|rfl|rfl;exact ZQ zz;exact ZQ pp;exact ZQ oo;obtain⟨o,e,_⟩:=cc.obj;exact ZQ e;obtain⟨o,e,_⟩:=dd.obj;exact ZQ e)
 rcases Z with Z|⟨T,bo,nT,Z⟩;refine jo hh ap Z hp hq (λx y hx hy h' Z' new sz k=>item x y hx hy h' (.inr ⟨s.z,Y,λhm=>Zc _ (Qk _ hm),?_⟩) new sz k) stop;obtain⟨zz,pp,oo,cc,dd⟩:=Z';exact⟨zz,⟨_,new⟩,pp,oo,cc,dd⟩;have ty:s.TypeIs (.ref z) "zip":=⟨_,Z.zz,rfl⟩
 unfold pyNext;refine Z_ (XO (Yx (name:=Str.ofString "__next__") ty Wc (YV Wc ty F.entry_zip_next (sR hh ap nT Z hp hq (λx y hx hy h' b1 b2 b3 b4=>Z5 (item x y hx hy h' (.inr ⟨T,L,nT,b1⟩) b2 b3 b4)) λhn h' e k he=>?_) (F.args_zip_next_1 _))));obtain⟨o,ho,hc⟩:=he;exact Z_ (X5 (T:="StopIteration") (b:=L) ⟨o,ho,hc⟩ WK (Z5 (stop hn h' k)))
def Made(h:Heap)(lo:ZM)(xs ys:Array Z3):Nat->Z9 Z3->Prop
 |_,[]=>True
 |i,v::r=>∃T x y,v=.ref T/\lo<=T/\xs[i]?=U x/\ys[i]?=U y/\IsPair h T x y/\(∀v'∈r,v'≠v)/\Made h lo xs ys (i+1) r
theorem Made.to{h h':Heap}{lo:ZM}{xs ys:Array Z3}:∀{i:Nat}{l:Z9 Z3},Made h lo xs ys i l->(∀T,.ref T∈l->∀o,h.get? T=U o->h'.get? T=U o)->Made h' lo xs ys i l
 |_,[],_,_=>trivial
 |i,v::r,hz,k=>by obtain⟨T,x,y,h1,h2,h3,h4,h5,h6,h7⟩:=hz;exact⟨T,x,y,h1,h2,h3,h4,k T (by rw[h1];simp) _ h5,h6,h7.to λT' hT=>k T' (Z2 _ hT)⟩
theorem Made.snoc{h:Heap}{lo T:ZM}{xs ys:Array Z3}{x y:Z3}:∀{i:Nat}{l:Z9 Z3},Made h lo xs ys i l->lo<=T->xs[i+l.length]?=U x->ys[i+l.length]?=U y->IsPair h T x y->(∀v∈l,v≠.ref T)->Made h lo xs ys i (l++[.ref T])
 |i,[],_,a1,a2,a3,a4,_=>⟨T,x,y,rfl,a1,a2,a3,a4,λv hv=>(by trivial),trivial⟩
 |i,v::r,hz,a1,a2,a3,a4,a5=>by
  obtain⟨T',x',y',h1,h2,h3,h4,h5,h6,h7⟩:=hz;refine⟨T',x',y',h1,h2,h3,h4,h5,λv' Jz=>?_,h7.snoc a1 (by rw[cK]at a2;rw[show i+1+r.length=i+(r.length+1) by lia];exact a2) (by rw[cK]at a3;rw[show i+1+r.length=i+(r.length+1) by lia];exact a3) a4 λv' Jz=>a5 v' (Z2 _ Jz)⟩;rcases Zr.mp Jz with Jz|Jz;exact h6 v' Jz;rw[Zv.mp Jz];exact Zy (a5 v (ZW ..))
theorem Made.lt{h:Heap}{lo:ZM}{xs ys:Array Z3}:∀{i:Nat}{l:Z9 Z3},Made h lo xs ys i l->∀v∈l,∃T,v=.ref T/\T<h.objs.size/\lo<=T
 |_,[],_,v,hv=>by trivial
 |i,v::r,hz,v',hv=>by
  obtain⟨T,x,y,h1,h2,h3,h4,h5,h6,h7⟩:=hz;rcases ZZ.mp hv with rfl|hv;exact⟨T,h1,ZQ h5,h2⟩;exact h7.lt v' hv
def m3{R:Result->ZR->Prop}{t u:Bool}{z P O c d p q S lo:ZM}{xs ys:Array Z3}{res:Z3}{n:Nat}(hh:A.handled=M)(ap:Ap z P O c d p q)(hS:S∉[z,P,O,c,d])(pS:p≠S)(qS:q≠S)(Oz:n=min xs.size ys.size)(hn:n<=sizeLine)(bl:∀b∈[z,P,O,c,d],lo<=b)(bS:lo<=S):
  ∀(k i:Nat)(s:ZR)(acc:Array Z3)(e:Nat),n - i=k->i<=n->ZS t u s.heap z P O c d p q i->aau t s.heap p xs->aau u s.heap q ys->s.heap.get? S=U {cls:=.type "list",dict:=M,data:=.seq acc e,slots:=#[]}->acc.size=i->Made s.heap lo xs ys 0 acc.toList->lo<=s.z->(∀T,.ref T∈acc.toList->T∉S::[z,P,O,c,d])->
  (∀s' l_ e',(∀b o,b∉S::[z,P,O,c,d]->s.heap.get? b=U o->s'.heap.get? b=U o)->s'.heap.get? S=U {cls:=.type "list",dict:=M,data:=.seq l_ e',slots:=#[]}->l_.size=n->Made s'.heap lo xs ys 0 l_.toList->(∃h' tk,s'={s with heap:=h',toks:=tk})->R (.ok (.ret res)) s')->
  codeAny (model prog w) A (.builtin "list.extend.loop" ⟨[.ref S,.ref z,res],[]⟩) R s:=by
 intro k
 induction k with
 |zero=>
  intro i s acc e hk hi Z hp hq hL ha hm Kj hT hR;have JB:i=n:=by lia
  subst JB;refine YO F.entry_extend_loop ?_;rw[Y7 XI _];show wpAny _ A.in1 (pyNext (.ref z) >>= _) _ _ s;refine Z_ (kX (show A.in1.handled=M from hh) ap Z hp hq (λx y hx hy=>?_) λ_ h' kp=>?_);exfalso;have a1:=(YR.mp hx).1;have a2:=(YR.mp hy).1;lia;refine Z5 (hR _ acc e (λb o hb g=>kp b o (λz=>hb (Z2 _ z)) g) (kp S _ hS hL) ha (hm.to λT JF o g=>kp T o (λz=>hT T JF (Z2 _ z)) g) ⟨h',s.toks,rfl⟩)
 |succ k ih=>
  intro i s acc e hk hi Z hp hq hL ha hm Kj hT hR;have j_:i<n:=by lia
  refine YO F.entry_extend_loop ?_;rw[Y7 XI _];show wpAny _ A.in1 (pyNext (.ref z) >>= _) _ _ s;refine Z_ (kX (show A.in1.handled=M from hh) ap Z hp hq (λx y hx hy h' Z' new sz kp=>?_) λLQ h' kp=>?_)
  .have Tn:=kp S _ hS hL
   have RO:∀b∈S::[z,P,O,c,d],b≠s.z:=λb hb e'=>by
    rcases ZZ.mp hb with rfl|hb;exact absurd (ZQ hL) (by rw[e'];exact Zc _)
    .have:b<s.z:=by
      rcases Z with⟨zz,pp,⟨a,b',oo⟩,cc,dd⟩|⟨T,bo,nT,⟨zz,⟨o,al⟩,pp,⟨a,b',oo⟩,cc,dd⟩⟩<;>
       (simp only[ZZ,Zm,YA]at hb
        rcases hb with rfl|rfl|rfl|rfl|rfl;exact ZQ zz;exact ZQ pp;exact ZQ oo;obtain⟨o,e,_⟩:=cc.obj;exact ZQ e;obtain⟨o,e,_⟩:=dd.obj;exact ZQ e)
     rw[e']at this;exact Zc _ this
   show wpAny _ A.in1 (updateSeq S (·.push (.ref s.z)) >>= _) _ _ _;refine Z_ (Yc Tn rfl (Z5 ⟨Ys XI _,?_⟩) (by rw[ha];lia) (by show(acc.push _).size<=sizeLine+1;rw[Array.size_push,ha];lia));have sb:=Ze h' S (Obj.mapSeq (·.push (.ref s.z)));have Jy:∀b o,b≠S->h'.get? b=U o->(h'.update S (Obj.mapSeq (·.push (.ref s.z)))).get? b=U o:=λb o hb g=>(sb.2 b hb).trans g;have gS:=Zh (Obj.mapSeq (·.push (Value.ref s.z))) Tn rfl;refine ih (i+1) _ (acc.push (.ref s.z)) _ (by lia) j_ (Z'.to Jy hS ⟨_,gS⟩) (hp.to λo g=>Jy _ o pS (kp _ o ap.p g)) (hq.to λo g=>Jy _ o qS (kp _ o ap.q g)) gS (by rw[Array.size_push,ha]) ?_ ?_ ?_ λs' l_ e' k1 k2 k3 k4 k5=>?_;rw[YD];refine(hm.to λT JF o g=>Jy _ o (λz=>hT T JF (by rw[z];exact ZW ..)) (kp T o (λz=>hT T JF (Z2 _ z)) g)).snoc Kj ?_ ?_ (Jy _ _ (Zy (RO S (ZW ..))) new) λv hv z=>?_;rw[Array.length_toList,ha,Yj];exact hx;rw[Array.length_toList,ha,Yj];exact hy;obtain⟨T,rfl,lt,_⟩:=hm.lt v hv;cases z;exact Zc _ lt;show lo<=(Heap.update h' S _).objs.size;rw[sb.1,sz];exact ZH Kj (WT _);intro T JF;rw[YD]at JF;rcases Zr.mp JF with JF|JF
   exact hT T JF;have:T=s.z:=by simpa using JF
   intro LH;exact RO T LH this;refine hR s' l_ e' (λb o hb g=>k1 b o hb (Jy b o (λz=>hb (by rw[z];exact ZW ..)) (kp b o (λz=>hb (Z2 _ z)) g))) k2 k3 k4 ?_;obtain⟨h2,tk,e2⟩:=k5;exact⟨h2,tk,e2⟩
  exfalso;rcases LQ with LQ|LQ;rw[Array.getElem?_eq_none_iff]at LQ;lia;rw[Array.getElem?_eq_none_iff]at LQ;lia
def kW:typeLookup (.type "zip") "__len__"=pure M:=by rw[W3,Xz];kernel_rfl
def iR:typeLookup (.type "zip") "__length_hint__"=pure M:=by rw[W3,Xz];kernel_rfl
def qF{R:Result->ZR->Prop}(hh:A.handled=M){t u:Bool}{z P O c d p q S lo:ZM}{xs ys:Array Z3}{M8:Nat}(ap:Ap z P O c d p q)(hS:S∉[z,P,O,c,d])(pS:p≠S)(qS:q≠S)(hn:min xs.size ys.size<=sizeLine)(bl:∀b∈[z,P,O,c,d],lo<=b)(bS:lo<=S)(res:Z3)
  (Z:Zp t u s.heap z P O c d p q 0 .none) (hp:aau t s.heap p xs) (hq:aau u s.heap q ys) (Kj:lo<=s.z)
  (hL:s.heap.get? S=U {cls:=.type "list",data:=.seq #[] M8})
  (hR:∀s' l_ e',(∀b o,b∉S::[z,P,O,c,d]->s.heap.get? b=U o->s'.heap.get? b=U o)->s'.heap.get? S=U {cls:=.type "list",dict:=M,data:=.seq l_ e',slots:=#[]}->l_.size=min xs.size ys.size->Made s'.heap lo xs ys 0 l_.toList->(∃h' tk,s'={s with heap:=h',toks:=tk})->R (.ok (.ret res)) s'):
  wpAny (model prog w) A.in1 (Builtin.List.listExtendWith (.ref S) (.ref z) res)
   (λfin s'=>match fin with|.done f=>R (.ok f) s'|.again c'=>c'.quiet=L/\codeAny (model prog w) A c' R s') (λe s'=>R (.error e) s') s:=by
 have ty:s.TypeIs (.ref z) "zip":=⟨_,Z.zz,rfl⟩;have UX:S≠z:=λe=>hS (by rw[e];simp);unfold Builtin.List.listExtendWith;refine Z_ (Xv ty ?_);simp only[show Builtin.List.listSameRef (.ref S) (.ref z)=Y by simp[Builtin.List.listSameRef,UX],show(Value.type "zip"==Value.type "list")=Y by decide,show(Value.type "zip"==Value.type "tuple")=Y by decide,Bool.or_false,ZY,Zj];refine Z_ (wpAny_pyIter_zip Z.zz (Z_ (Y4 ?_)));unfold Builtin.List.listLengthHint;refine Z_ (Yb ty kW ?_);dsimp only;change wpAny _ _ (specialOf (.ref z) "__length_hint__" >>= _) _ _ _;refine Z_ (Yb ty iR (Z5 ?_));refine eS (by simp) ?_;refine Z_ (YC (Z_ ?_));change wpAny _ A.in1 (updateSeq S (·.push .none) >>= λ_=>updateSeq S (·.pop)) _ _ _;have LV:=Zh (Obj.mapSeq (·.push Value.none)) hL rfl;refine Z_ (Yc hL rfl (Yc (hz:=by seq_fits) LV rfl ?_));have MJ:=Zh (Obj.mapSeq (·.pop)) LV rfl;have Jy:∀b o,b≠S->s.heap.get? b=U o->((s.heap.update S (Obj.mapSeq (·.push Value.none))).update S (Obj.mapSeq (·.pop))).get? b=U o:=
  λb o hb e=>(Zk _ _ (Zy hb)).trans ((Zk _ _ (Zy hb)).trans e)
 refine Z5 ⟨Ys XI _,m3 hh ap hS pS qS rfl hn bl bS _ 0 _ _ _ rfl (Zs _) ((show ZS t u s.heap z P O c d p q 0 from .inl Z).to Jy hS ⟨_,MJ⟩) (hp.to λo e=>Jy _ o pS e) (hq.to λo e=>Jy _ o qS e) MJ (by simp) (by simp[Made]) ?_ (by simp) λs' l_ e' k1 k2 k3 k4 k5=>?_⟩;show lo<=(Heap.update (Heap.update s.heap S _) S _).objs.size;rw[Xs,Xs];exact Kj;obtain⟨h',tk,e2⟩:=k5;exact hR s' l_ e' (λb o hb e=>k1 b o hb (Jy b o (λz=>hb (by rw[z];exact ZW ..)) e)) k2 k3 k4 ⟨h',tk,e2⟩
def jB{Q:Z3->ZR->Prop}(hh:A.handled=M){t u:Bool}{z P O c d p q:ZM}{xs ys:Array Z3}(ap:Ap z P O c d p q)(hn:min xs.size ys.size<=sizeLine){lo:ZM}(bl:∀b∈[z,P,O,c,d],lo<=b)(Kj:lo<=s.z)
  (Z:Zp t u s.heap z P O c d p q 0 .none) (hp:aau t s.heap p xs) (hq:aau u s.heap q ys)
  (hQ:∀h' tk l_ e',(∀b o,b∉[z,P,O,c,d]->s.heap.get? b=U o->h'.get? b=U o)->h'.get? s.z=U {cls:=.type "list",dict:=M,data:=.seq l_ e',slots:=#[]}->l_.size=min xs.size ys.size->Made h' lo xs ys 0 l_.toList->Q (.ref s.z) {s with heap:=h',toks:=tk}):
  wpAny (model prog w) A (call (.type "list") [.ref z]) Q E s:=by
 refine callType_codes (Q₁:=λobj g_=>obj=.ref s.z/\g_={s with heap:=s.heap.push {cls:=.type "list",data:=.seq #[]}}) F.called_list (F.typeCall_list_1 _) F.entry_list_init (code_list_new _ ⟨rfl,rfl⟩) λobj g_ IG=>?_;obtain⟨rfl,rfl⟩:=IG;have hS:(s.heap.push {cls:=.type "list",data:=.seq #[]}).get? s.z=U {cls:=.type "list",data:=.seq #[]}:=ZN _ rfl;refine⟨⟨_,hS,rfl⟩,F.args_list_init_2 _ _,?_⟩;change wpAny _ _ (do let old <-Builtin.List.listItems (.ref s.z);Builtin.List.listUpdate (.ref s.z) (λ_=>#[]);letGo old.toList.reverse;Builtin.List.listExtendWith (.ref s.z) (.ref z) .none) _ _ _;refine Z_ ?_;unfold Builtin.List.listItems;refine Z_ (Yw hS rfl (Z5 ?_));change wpAny _ _ (updateSeq s.z (λ_=>#[]) >>= λ_=>letGo (#[]:Array Z3).toList.reverse >>= λ_=>Builtin.List.listExtendWith (.ref s.z) (.ref z) .none) _ _ _;have LV:=Zh (Obj.mapSeq (λ_=>(#[]:Array Z3))) hS rfl;have up:∀b ob,s.heap.get? b=U ob->((s.heap.push {cls:=.type "list",data:=.seq #[]}).update s.z (Obj.mapSeq (λ_=>(#[]:Array Z3)))).get? b=U ob:=λb ob e=>(Zk _ _ (Zy (Zt (ZQ e)))).trans (Z4 _ e);have Qk:∀b∈[z,P,O,c,d],b<s.z:=λb hb=>by
  obtain⟨zz,pp,⟨a,b',oo⟩,cc,dd⟩:=Z;simp only[ZZ,Zm,YA]at hb;rcases hb with rfl|rfl|rfl|rfl|rfl;exact ZQ zz;exact ZQ pp;exact ZQ oo;obtain⟨o,e,_⟩:=cc.obj;exact ZQ e;obtain⟨o,e,_⟩:=dd.obj;exact ZQ e
 have lp:p<s.z:=by cases t<;>(obtain⟨o,e,_⟩:=hp;exact ZQ e)
 have lq:q<s.z:=by cases u<;>(obtain⟨o,e,_⟩:=hq;exact ZQ e)
 refine Z_ (Yc hS rfl (Z_ (V8 ?_)));obtain⟨zz,pp,⟨a,b',oo⟩,cc,dd⟩:=Z;refine qF (A:=A.in1) hh ap (λhm=>Zc _ (Qk _ hm)) (Zt lp) (Zt lq) hn bl Kj .none ⟨up _ _ zz,up _ _ pp,⟨a,b',up _ _ oo⟩,cc.to λo e=>up _ o e,dd.to λo e=>up _ o e⟩ (hp.to λo e=>up _ o e) (hq.to λo e=>up _ o e) ?_ LV λs' l_ e' k1 k2 k3 k4 k5=>?_;show lo<=(Heap.update (Heap.push s.heap _) _ _).objs.size;rw[Xs,YE];exact ZH Kj (WT _);obtain⟨h',tk,rfl⟩:=k5;exact⟨rfl,hQ h' tk l_ e' (λb ob hb e=>k1 b ob (λhm=>(ZZ.mp hm).elim (λz=>Zt (ZQ e) z) hb) (up b ob e)) k2 k3 k4⟩
end
def abn(H:Hp):Z9 V->Z9 V->Z9 V->Prop
 |x::xs,y::ys,vs=>∃T r,vs=.ref T::r/\H T=U (.tup [x,y])/\abn H xs ys r
 |_,_,vs=>vs=[]
section
variable{X:Cx}{pins:Z9 (ZM×Obj)}{σ:St}{s:ZR}
theorem il{lo:ZM}{is js:Z9 Z3}(Kj:X.n_.z<=lo):∀(l:Z9 Z3)(i:Nat)(H:Hp)(xs ys:Z9 V),Inv X pins σ H s->Made s.heap lo is.toArray js.toArray i l->(∀T,.ref T∈l->fq X pins H T)->aab xs (is.drop i)->aab ys (js.drop i)->l.length=min xs.length ys.length->
  ∃H' vs,Inv X pins σ H' s/\aad H H'/\(∀c,.ref c∉l->H' c=H c)/\abn H' xs ys vs/\aab vs l
 |[],i,H,xs,ys,I,m,f,vx,vy,hl=>by
  refine⟨H,[],I,aad.refl H,λ_ _=>rfl,?_,.nil⟩;cases xs with
  |nil=>exact rfl
  |cons x xs=>cases ys with
   |nil=>exact rfl
   |cons y ys=>simp at hl
 |v::r,i,H,xs,ys,I,hz,f,vx,vy,hl=>by
  obtain⟨T,x,y,e1,e2,e3,e4,e5,e6,e7⟩:=hz;subst e1;cases xs with
  |nil=>simp at hl
  |cons x' xs=>cases ys with
   |nil=>simp at hl
   |cons y' ys=>
    have hi:i<is.length:=by simpa using(YR.mp e3).1
    have hj:i<js.length:=by simpa using(YR.mp e4).1
    rw[Zn hi]at vx;rw[Zn hj]at vy;cases vx with
    |cons a1 a2=>cases vy with
     |cons b1 b2=>
      have ex:is[i]=x:=by simpa[hi]using e3
      have ey:js[i]=y:=by simpa[hj]using e4
      rw[ex]at a1;rw[ey]at b1;have fT:=f T (ZW ..);have I1:=I.abZ (o:=.tup [x',y']) fT (ZH Kj e2) ⟨by show 2<=sizeLine;rw[Yk];lia,[x,y],.cons a1 (.cons b1 .nil),⟨_,e5,rfl,_,rfl⟩⟩;have ne:∀T',Value.ref T'∈r->T'≠T:=λT' JF z=>e6 _ JF (by rw[z]);obtain⟨H',vs,i1,i2,i3,i4,i5⟩:=il Kj r (i+1) (upd H T (.tup [x',y'])) xs ys I1 e7 (λT' JF=>⟨by rw[ai (ne T' JF)];exact(f T' (Z2 _ JF)).1,(f T' (Z2 _ JF)).2⟩) a2 b2 (by simp at hl;lia);have sT:=ar (o:=.tup [x',y']) fT.1;refine⟨H',.ref T::vs,i1,sT.trans i2,λc hc=>?_,⟨T,vs,rfl,i2 T _ ah,i4⟩,.cons rfl i5⟩;rw[i3 c (λz=>hc (Z2 _ z)),ai (λz=>hc (by rw[z];exact ZW ..))]
variable{t u:Bool}{ta:TA}{p:Pos}
noncomputable def tLZ(t u:Bool)(K:Z6)(ta:TA):TE:=λσ H Q=>ta σ H λvs H1=>∃p q xs ys,vs=[.ref p,.ref q]/\SqV t K H1 p xs/\SqV u K H1 q ys/\min xs.length ys.length<=sizeLine/\∀S H2,aad H1 H2->H1 S=M->(∃vs,H2 S=U (.lst vs)/\abn H2 xs ys vs)->Q (.ref S) H2
theorem abn.to(s:∀T xs,H T=U (.tup xs)->H' T=U (.tup xs)):∀{xs ys vs:Z9 V},abn H xs ys vs->abn H' xs ys vs
 |[],ys,vs,h=>by cases ys<;>exact h
 |x::xs,[],vs,h=>h
 |x::xs,y::ys,vs,hz=>by obtain⟨T,r,h1,h2,h3⟩:=hz;exact⟨T,r,h1,s _ _ h2,h3.to s⟩
def qJ(hc:X.calm=L)(gl:Gl X "list")(hl:X.mg "list"=M)(gz:Gl X "zip")(hz:X.mg "zip"=M)(ha:PA X [a,b] ta)(hs:starEach [a,b] X.env=[(Y,eval a X.env),(Y,eval b X.env)]:=by rfl)(Jq:starEach [b] X.env=[(Y,eval b X.env)]:=by rfl)
  (NZ:starEach [.Call (.Name "zip" p2) [a,b] [] IB] X.env=[(Y,eval (.Call (.Name "zip" p2) [a,b] [] IB) X.env)]:=by rfl):
  PE X (.Call (.Name "list" p) [.Call (.Name "zip" p2) [a,b] [] IB] [] pos) (tLZ t u X.K ta):=by
 intro pins s σ H Q I h;refine XE (fA I gl hl om (Yp ?_ NZ (by rfl)) (by decide) (by decide));rw[NZ];show wpAny _ _ (spliced ((Y,eval (.Call (.Name "zip" p2) [a,b] [] IB) X.env)::backTo pos (starEach [] X.env))) _ _ s;refine Calls.spliced_cons (XE (fA I gz hz boot_zip (Yp (thn (ha IB pins s σ H _ I h) λus s1 ⟨vs,H1,I1,r1,q1⟩=>?_) (by rw[hs,Jq]) (by rw[Jq];rfl)) (by decide) (by decide)));obtain⟨l1,l2,xs,ys,e,h1,h2,hm,q⟩:=q1;subst e;cases r1 with
 |cons r rr=>
  cases rr with
  |cons r' rr=>
   cases rr;cases r;cases r';obtain⟨is,ri,sp⟩:=I1.abB h1;obtain⟨js,rj,sq⟩:=I1.abB h2;refine oE sp sq λz P O c d h' ap Z hi k=>Calls.spliced_nil ?_;have up1:aau t h' l1 is.toArray:=sp.to λo e=>k _ o e;have Ui:aau u h' l2 js.toArray:=sq.to λo e=>k _ o e;have hsz:s1.z<=h'.objs.size:=ZH (hi z (by simp)) (WD (ZQ Z.zz));refine jB (s:={s1 with heap:=h'}) (I1.ok.hd hc) ap (by rw[ZT,ZT,<-ri.length,<-rj.length];exact hm) (lo:=s1.z) hi hsz Z up1 Ui λh2 tk acc e' k1 k2 k3 k4=>?_;have kk:∀b o,s1.heap.get? b=U o->h2.get? b=U o:=λb o e=>k1 b o (λhm=>absurd (ZA (ZQ e) (hi b hm)) (Zc _)) (k b o e);have I2:Inv X pins σ H1 {s1 with heap:=h2,toks:=tk}:=I1.kept kk;have nw:∀T,s1.z<=T->fq X pins H1 T:=λT hT=>I1.abm hT (I1.hok.fresh hT);obtain⟨H3,vs,i1,i2,i3,i4,i5⟩:=il (lo:=s1.z) (is:=is) (js:=js) (X:=X) I1.sz acc.toList 0 H1 xs ys I2 k4 (λT hT=>by
    obtain⟨T',e,_,lo⟩:=k4.lt _ hT;cases e;exact nw T lo) (by simpa using ri) (by simpa using rj) (by rw[Array.length_toList,k3,ZT,ZT,<-ri.length,<-rj.length])
   have fS:=nw h'.objs.size hsz;have nS:Value.ref h'.objs.size∉acc.toList:=λhm=>by
    have key:∀(l:Z9 Z3)(i:Nat),Made h2 s1.z is.toArray js.toArray i l->∀T,.ref T∈l->∃x y,IsPair h2 T x y:=by
     intro l
     induction l with
     |nil=>intro i _ T hT;trivial
     |cons v l ih=>
      rintro i ⟨T',x,y,e1,e2,e3,e4,e5,e6,e7⟩ T hT
      rcases ZZ.mp hT with e|hT;rw[e1]at e;cases e;exact⟨x,y,e5⟩;exact ih _ e7 T hT
    obtain⟨x,y,g⟩:=key _ _ k4 _ hm;have g':=Eq.trans (Eq.symm (show h2.get? h'.objs.size=_ from k2)) g;have g2:=congrArg (λo:Z8 Obj=>o.map (·.cls)) g';simp at g2
   have MJ:H3 h'.objs.size=M:=by rw[i3 _ nS];exact fS.1
   have lv:=i5.length;have I4:=i1.abZ (a:=h'.objs.size) (o:=.lst vs) ⟨MJ,fS.2⟩ (ZH I1.sz hsz) ⟨by rw[lv,Array.length_toList,k3,ZT,ZT,<-ri.length,<-rj.length];exact hm,acc.toList,e',i5,by simpa using k2⟩;have s4:=ar (o:=.lst vs) MJ;exact⟨.ref h'.objs.size,_,I4,rfl,q _ _ (i2.trans s4) fS.1 ⟨vs,ah,i4.to λT xs e=>s4 T _ e⟩⟩
end
section
variable{X:Cx}{t u:Bool}
def qq(t u:Bool)(x y:Z8 D):Z8 D:=match Bz t u x y with|some ds=>if ds.length<=lim then U (.lst ds) else M|none=>M
theorem abn.acD{K:Z6}{B:ZM->Prop}{H:Hp}:∀{ds es:Z9 D}{xs ys vs:Z9 V},M1 K B H ds xs->M1 K B H es ys->abn H xs ys vs->M1 K B H (cz ds es) vs
 |[],es,xs,ys,vs,r1,r2,h=>by
  simp only[M1]at r1;subst r1;cases ys<;>(rw[show vs=[] from h];exact M1.nil)
 |d::ds,[],xs,ys,vs,r1,r2,h=>by
  simp only[M1]at r1 r2;obtain⟨x,r,rfl,_⟩:=r1;subst r2;rw[show vs=[] from h];exact M1.nil
 |d::ds,e::es,xs,ys,vs,r1,r2,h=>by
  simp only[M1]at r1 r2;obtain⟨x,r,rfl,q1,q2⟩:=r1;obtain⟨y,r',rfl,q3,q4⟩:=r2;obtain⟨T,w,rfl,hT,z⟩:=h;exact M1.cons (by simp only[Rep];exact⟨T,[x,y],rfl,hT,M1.cons q1 (M1.cons q3 M1.nil)⟩) (abn.acD q2 q4 z)
theorem qg(t u:Bool)(hc:X.calm=L)(gl:Gl X "list")(hl:X.mg "list"=M)(gz:Gl X "zip")(hz:X.mg "zip"=M)(h:DE X Y a fa)(h':DE X Y b fb)(hs:starEach [a,b] X.env=[(Y,eval a X.env),(Y,eval b X.env)]:=by rfl)(Jq:starEach [b] X.env=[(Y,eval b X.env)]:=by rfl)(NZ:starEach [.Call (.Name "zip" p2) [a,b] [] IB] X.env=[(Y,eval (.Call (.Name "zip" p2) [a,b] [] IB) X.env)]:=by rfl):
  DF X (.Call (.Name "list" p) [.Call (.Name "zip" p2) [a,b] [] IB] [] pos) (λO=>qq t u (fa O) (fb O)):=
 (qJ (t:=t) (u:=u) hc gl hl gz hz (ay h (ay h' aQ Jq) (by rw[hs,Jq])) hs Jq NZ).imp λσ H Q hz=>by
  obtain⟨B,Hk,O,d,R,e,k⟩:=hz;dsimp only at e;unfold qq at e;split at e
  .rename_i ds e0
   split at e
   .rename_i G_
    obtain rfl:=Z7 e;obtain⟨as,q1,e⟩:=ak e0;obtain⟨bs,q2,e⟩:=ak e;obtain rfl:=Z7 e;obtain⟨d1,e1⟩:∃d,fa O=U d:=by
     cases q:fa O with
     |none=>rw[q]at q1;cases t<;>trivial
     |some d=>exact⟨d,rfl⟩
    obtain⟨d2,e2⟩:∃d,fb O=U d:=by
     cases q:fb O with
     |none=>rw[q]at q2;cases u<;>trivial
     |some d=>exact⟨d,rfl⟩
    refine two R e1 e2 λv w H' s R' r1 r2=>?_;obtain⟨l1,xs,rfl,O3,O0⟩:=fI q1 e1 r1;obtain⟨l2,ys,rfl,Lf,OZ⟩:=fI q2 e2 r2;refine⟨l1,l2,xs,ys,rfl,O0 _ Ext.refl,OZ _ Ext.refl,?_,λS H2 s2 hS ⟨vs,Va,zv⟩=>?_⟩;rw[fY,O3.length,Lf.length]at G_;exact aJ G_;exact k S H2 (s.trans s2) (s.free hS) ⟨vs,Va,abn.acD (O3.same (m:=Y) R' s2) (Lf.same (m:=Y) R' s2) zv⟩
   trivial
  trivial
end
def jY:Expr->Z8 D
 |.Constant (.int i) _ _=>U (.int i)
 |.Constant (.str x) _ _=>U (.str x)
 |.Constant .none _ _=>U .non
 |_=>M
section
def xB(h:jY e=U d):DE X m e (λ_=>U d):=by
 unfold jY at h;split at h;obtain rfl:=Z7 h;exact kQ;obtain rfl:=Z7 h;exact xU;obtain rfl:=Z7 h;exact uY;trivial
def qu(h:jY e=U d):starEach (e::es) env=(Y,eval e env)::starEach es env:=by
 unfold jY at h;split at h;rfl;rfl;rfl;trivial
theorem kI:∀{es:Z9 Expr}{ds:Z9 D},es.map jY=ds.map U->DA X m es (λ_=>U ds)
 |[],[],_=>fX
 |[],_::_,h=>by simp at h
 |_::_,[],h=>by simp at h
 |e::es,d::ds,h=>by
  rw[Z1,Z1,Yg]at h;exact cH (xB h.1) (kI h.2) (qu h.1)
end
def leT(a b:Str):Bool:=!decide (b.cps.toList<a.cps.toList)
def sg(a b c:Str)(h1:leT a b=L)(h2:leT b c=L):leT a c=L:=by
 unfold leT at*;simp only[Yu,Xp]at*;exact List.le_trans h1 h2
def r6(a b:Str):(leT a b||leT b a)=L:=by
 unfold leT;by_cases h:b.cps.toList<a.cps.toList;have:¬a.cps.toList<b.cps.toList:=λh'=>absurd (List.lt_trans h h') (List.lt_irrefl _);simp[this];simp[h]
def DL(a b:Str)(h1:leT a b=L)(h2:leT b a=L):a=b:=by
 unfold leT at*;simp only[Yu,Xp]at*;exact Str.ext' (Array.toList_inj.mp (List.le_antisymm h1 h2))
def vU(ss:Z9 Str):Z9 Str:=ss.mergeSort leT
def bM(ss:Z9 Str):(vU ss).Perm ss:=List.mergeSort_perm ss leT
section
end
open PySem.StrLaws
def sU(ss:Z9 Str):Z9 D:=(vU (uS ss)).map D.str
def CW:x∈sU ss↔x∈ss.map D.str:=by
 unfold sU;rw[((bM (uS ss)).map D.str).mem_iff];simp[hZ]
def b8(x y:Str):eqO (U (.str x)) (U (.str y))=U (decide (x=y)):=by
 rw[pG _ _ rfl];congr 1;simp
section
variable{a b:Expr}
def Dz(x y:Z8 D):Z8 Bool:=match x,y with|some (.bl a),some (.bl b)=>U (!(a==b))|_,_=>M
def rB(g:Bool->Bool->Bool):R2:=λx y H Q=>∃a b,x=.bl a/\y=.bl b/\Q (.bl (g a b)) H
def De:OpR X (compareOp .NotEq) (rB λa b=>!(a==b)):=by
 intro pins s σ H x y v u Q I rx ry ⟨a,b,e1,e2,q⟩;subst e1 e2;cases rx;cases ry;exact SeqAt.RcNeAt.bool_bool a b X.prog X.w X.xe _ ⟨.bl _,H,I,rfl,q⟩
set_option tactic.hygienic true in
theorem Ds(ha:DE X m a fa)(hb:DE X m' b fb):DT X (.Compare a [.NotEq] [b] pos) (λq=>Dz (fa q) (fb q)):=
 (cq De ha hb (lm _)).imp λσ H Q hz=>by
  obtain⟨B,Hk,q,d,R,e,k⟩:=hz;dsimp only at e;unfold Dz at e;split at e;rename_i a b q1 q2;obtain rfl:=Z7 e;exact two R q1 q2 λv u H' s R' r1 r2=>by simp only[Rep]at r1 r2;exact⟨a,b,r1,r2,_,rfl,k H' s⟩
  trivial
end
def neX(x:Z8 (D×Mk))(fb:Mk->Z8 D):Z8 (Bool×Mk):=ae x λp=>match neO (U p.1) (fb p.2)with|some c=>U (c,p.2)|none=>M
section
variable{X:Cx}{m mm:Bool}{a b c:Expr}{aq:Z9 Expr}{fa fb:Mk->Z8 D}{fc:Mk->Z8 Bool}{pos:Pos}
theorem ze(hu:X.A.units+64<cLine)(ha:DX X a ga)(hb:DE X Y b fb)(hm:behindInMarks .NotEq b=Y:=by rfl):DTX X (.Compare a [.NotEq] [b] pos) (λq=>neX (ga q) fb):=BR hu ha hb hm
end
end L2
namespace L2.G
open PySem
def Ris(xs:Z9 Nat):Prop:=xs.Pairwise (· < ·)
def Ris.at(h:Ris xs)(K8:i<j)(hj:j<xs.length):xs[i]'(Nat.lt_trans K8 hj)<xs[j]:=(Xx.mp h) i j (Nat.lt_trans K8 hj) hj K8
theorem iU(h:Ris xs.toList)(j:Nat):∀(fuel lo hi:Nat),hi - lo<=fuel->lo<=hi->hi<=xs.size->(∀i (k_:i<xs.size),i<lo->xs[i]<j)->(∀i (k_:i<xs.size),hi<=i->j<=xs[i])->
  (∀i (k_:i<xs.size),i<SetTable.below.go xs j fuel lo hi->xs[i]<j)/\(∀i (k_:i<xs.size),SetTable.below.go xs j fuel lo hi<=i->j<=xs[i])/\SetTable.below.go xs j fuel lo hi<=xs.size
 |0,lo,hi,h1,h2,h3,h4,h5=>by
  have:lo=hi:=by lia
  subst this;exact⟨λi k_ q=>h4 i k_ q,λi k_ q=>h5 i k_ q,h3⟩
 |fuel+1,lo,hi,h1,h2,h3,h4,h5=>by
  unfold SetTable.below.go;by_cases hl:lo<hi;rw[ZO hl];have LG:(lo+hi) / 2<hi:=by lia
  have MA:lo<=(lo+hi) / 2:=by lia
  have hm:(lo+hi) / 2<xs.size:=by lia
  have hg:xs.getD ((lo+hi) / 2) j=xs[(lo+hi) / 2]:=by simp[Array.getD,hm]
  dsimp only;rw[hg];have mono:∀a b (ha:a<xs.size) (hb:b<xs.size),a<=b->xs[a]<=xs[b]:=λa b ha hb IP=>by
   rcases Nat.lt_or_eq_of_le IP with q|q;have:=Ris.at h q (by simpa using hb);simp only[Array.getElem_toList]at this;lia;subst q;exact ZU _
  by_cases hq:xs[(lo+hi) / 2]<j;rw[ZO hq];refine iU h j fuel ((lo+hi) / 2+1) hi (by lia) (by lia) h3 (λi k_ q=>?_) h5;exact Nat.lt_of_le_of_lt (mono i ((lo+hi) / 2) k_ hm (by lia)) hq;rw[ZJ hq];refine iU h j fuel lo ((lo+hi) / 2) (by lia) MA (by lia) h4 (λi k_ q=>?_);exact ZH (by lia) (mono ((lo+hi) / 2) i hm k_ q);rw[ZJ hl];have:lo=hi:=by lia
  subst this;exact⟨λi k_ q=>h4 i k_ q,λi k_ q=>h5 i k_ q,h3⟩
def eA(h:Ris xs.toList)(j:Nat):(∀i (k_:i<xs.size),i<SetTable.below xs j->xs[i]<j)/\(∀i (k_:i<xs.size),SetTable.below xs j<=i->j<=xs[i])/\SetTable.below xs j<=xs.size:=
 iU h j xs.size 0 xs.size (by lia) (Zs _) (ZU _) (λi _ q=>absurd q (Xw i)) λi k_ q=>absurd q (by lia)
def wE(h:Ris xs.toList)(hi:i<xs.size):SetTable.below xs xs[i]=i:=by
 obtain⟨h1,h2,h3⟩:=eA h xs[i];rcases WU (SetTable.below xs xs[i]) i with q|q|q;have hb:SetTable.below xs xs[i]<xs.size:=by lia
 have:=h2 _ hb (ZU _);have q2:=Ris.at h q (by simpa using hi);simp only[Array.getElem_toList]at q2;lia;exact q;have:=h1 i hi q;lia
def pC(h:Ris xs.toList)(hi:i<xs.size):SetTable.below xs (xs[i]+1)=i+1:=by
 obtain⟨h1,h2,h3⟩:=eA h (xs[i]+1);rcases WU (SetTable.below xs (xs[i]+1)) (i+1)with q|q|q;have:=h2 i hi (by lia);lia;exact q;have hb:i+1<xs.size:=by lia
 have:=h1 (i+1) hb q;have q2:=Ris.at h (show i<i+1 by lia) (by simpa using hb);simp only[Array.getElem_toList]at q2;lia
def pD(h:Ris xs.toList)(hj:∀i (hi:i<xs.size),xs[i]≠j):Ris (SetTable.insertAt xs (SetTable.below xs j) j).toList:=by
 obtain⟨h1,h2,h3⟩:=eA h j;rw[Wr];generalize SetTable.below xs j=p at h1 h2 h3⊢;unfold Ris;rw[Yh,XN];have hx:=Xx.mp h;have ht:∀a∈xs.toList.take p,a<j:=λa ha=>by
  obtain⟨i,hi,rfl⟩:=YW.mp ha;rw[X_]at hi;rw[List.getElem_take];have Ky:i<xs.size:=by have:xs.toList.length=xs.size:=Array.length_toList;lia
  have:=h1 i Ky (by lia);simpa using this
 have hd:∀a∈xs.toList.drop p,j<a:=λa ha=>by
  obtain⟨i,hi,rfl⟩:=YW.mp ha;rw[List.length_drop]at hi;rw[List.getElem_drop];have Ky:p+i<xs.size:=by have:xs.toList.length=xs.size:=Array.length_toList;lia
  have:=h2 (p+i) Ky (by lia);have:=hj (p+i) Ky;simp only[Array.getElem_toList];lia
 refine⟨h.sublist (List.take_sublist _ _),⟨hd,h.sublist (List.drop_sublist _ _)⟩,λa ha b hb=>?_⟩;rcases ZZ.mp hb with rfl|hb;exact ht a ha;exact Nat.lt_trans (ht a ha) (hd b hb)
def cR{t:SetTable}(h:Ris t.place.toList){i:Nat}(hi:i<t.place.size):t.slot t.place[i]=.live i:=by
 unfold SetTable.slot;dsimp only;rw[wE h hi];simp[hi]
def nY{t:SetTable}(h:Ris t.place.toList)(hd:t.dummies=#[])(hj:∀i (hi:i<t.place.size),t.place[i]≠j):t.slot j=.empty:=by
 unfold SetTable.slot;dsimp only;have:(t.place[SetTable.below t.place j]?==U j)=Y:=by
  cases q:t.place[SetTable.below t.place j]? with
  |none=>rfl
  |some v=>
   obtain⟨hi,e⟩:=YR.mp q;have:=hj _ hi;rw[e]at this;simpa using this
 rw[this,hd];simp[SetTable.has]
def lE{t:SetTable}{j i:Nat}(h:t.slot j=.live i):∃hi:i<t.place.size,t.place[i]=j:=by
 unfold SetTable.slot at h;dsimp only at h;split at h;rename_i q;cases h;obtain⟨hi,e⟩:=YR.mp (Zw.mp q);exact⟨hi,e⟩
 .split at h<;>cases h
def bH(t:SetTable):Nat->SetTable.Probe->SetTable.Probe
 |0,p=>p
 |n+1,p=>bH t n (t.advance p)
def fR(t:SetTable)(n:Nat)(p:SetTable.Probe):bH t (n+1) p=t.advance (bH t n p):=by
 induction n generalizing p with
 |zero=>rfl
 |succ n ih=>show bH t (n+1) (t.advance p)=_;rw[ih];rfl
def d7(t:SetTable)(m n:Nat)(p:SetTable.Probe):bH t (m+n) p=bH t n (bH t m p):=by
 induction m generalizing p with
 |zero=>rw[Yj];rfl
 |succ m ih=>rw[Nat.succ_add];show bH t (m+n) (t.advance p)=_;rw[ih];rfl
def rS(t:SetTable)(p:SetTable.Probe):(t.advance p).dummy=p.dummy:=by
 unfold SetTable.advance;split<;>rfl
def ff(t:SetTable)(n:Nat)(p:SetTable.Probe):(bH t n p).dummy=p.dummy:=by
 induction n generalizing p with
 |zero=>rfl
 |succ n ih=>show(bH t n (t.advance p)).dummy=_;rw[ih,rS]
def xz{t u:SetTable}(h:t.mask=u.mask)(p:SetTable.Probe):t.advance p=u.advance p:=by
 unfold SetTable.advance;rw[h]
def t7(h:t.mask=u.mask)(n:Nat)(p:SetTable.Probe):bH t n p=bH u n p:=by
 induction n generalizing p with
 |zero=>rfl
 |succ n ih=>show bH t n (t.advance p)=bH u n (u.advance p);rw[xz h,ih]
def qf{t u:SetTable}(h:t.mask=u.mask)(x:Int):t.probeStart x=u.probeStart x:=by
 unfold SetTable.probeStart;rw[h]
def az(mask:Nat)(h:Int):Nat->Nat×Nat
 |0=>(SetTable.bits h%(mask+1),SetTable.bits h)
 |m+1=>SetTable.leap mask (az mask h m).1 (az mask h m).2
def dS(mask:Nat)(b:Nat×Nat):SetTable.Probe:={j:=b.1,more:=SetTable.runEnd mask b.1 - b.1,i:=b.1,perturb:=b.2,dummy:=M}
def ye(mask i:Nat):SetTable.runEnd mask i - i<=9:=by unfold SetTable.runEnd;split<;>lia
theorem jy(t:SetTable):∀(k:Nat)(p:SetTable.Probe),k<=p.more->bH t k p={p with j:=p.j+k,more:=p.more - k}
 |0,p,_=>rfl
 |k+1,p,h=>by
  show bH t k (t.advance p)=_;have:t.advance p={p with j:=p.j+1,more:=p.more - 1}:=by unfold SetTable.advance;rw[ZO (by lia)]
  rw[this,jy t k _ (show k<=p.more - 1 by lia)];show SetTable.Probe.mk _ _ _ _ _=SetTable.Probe.mk _ _ _ _ _;congr 1<;>(dsimp only;lia)
def uC(t:SetTable)(b:Nat×Nat):bH t (SetTable.runEnd t.mask b.1 - b.1+1) (dS t.mask b)=dS t.mask (SetTable.leap t.mask b.1 b.2):=by
 rw[fR,jy t (SetTable.runEnd t.mask b.1 - b.1) _ (show SetTable.runEnd t.mask b.1 - b.1<=(dS t.mask b).more from ZU _)];unfold SetTable.advance dS;rw[ZJ (by dsimp only;lia)]
theorem uF(t:SetTable)(h:Int):∀m:Nat,∃n,n<=10*m/\bH t n (t.probeStart h)=dS t.mask (az t.mask h m)
 |0=>⟨0,ZU _,rfl⟩
 |m+1=>by
  obtain⟨n,hn,e⟩:=uF t h m;have hr:=ye t.mask (az t.mask h m).1;refine⟨n+(SetTable.runEnd t.mask (az t.mask h m).1 - (az t.mask h m).1+1),by lia,?_⟩;rw[d7,e,uC];rfl
theorem F7(mask:Nat)(h:Int):∀m,(az mask h m).2=SetTable.bits h / 32 ^ m
 |0=>by simp[az]
 |m+1=>by
  show(az mask h m).2 / 32=_;rw[F7 mask h m,Nat.div_div_eq_div_mul,Nat.pow_succ]
def zK(h:Int):SetTable.bits h<2 ^ 64:=by unfold SetTable.bits;lia
def Fo(mask:Nat)(h:Int)(m:Nat):(az mask h (13+m)).2=0:=by
 rw[F7];apply Nat.div_eq_of_lt;refine ZA (zK h) ?_;rw[Nat.pow_add];exact ZH (by decide:2 ^ 64<=32 ^ 13) (Nat.le_mul_of_pos_right _ (Nat.pow_pos (by decide)))
def lcg(mask:Nat):Nat->Nat->Nat
 |0,x=>x
 |n+1,x=>(lcg mask n x*5+1)%(mask+1)
def nH(mask:Nat)(h:Int)(m:Nat):(az mask h (13+m)).1=lcg mask m (az mask h 13).1:=by
 induction m with
 |zero=>rfl
 |succ m ih=>
  show(SetTable.leap mask (az mask h (13+m)).1 (az mask h (13+m)).2).1=(lcg mask m _*5+1)%(mask+1);rw[Fo,ih];rfl
def ma(mask:Nat)(h:Int):∀m,(az mask h m).1<mask+1
 |0=>WE _ (W9 _)
 |m+1=>WE _ (W9 _)
def DJ(mask:Nat):Nat->Nat->Z9 Nat
 |0,_=>[]
 |n+1,x=>x::DJ mask n ((x*5+1)%(mask+1))
theorem lH(mask:Nat):∀n x,lcg mask n ((x*5+1)%(mask+1))=lcg mask (n+1) x
 |0,x=>rfl
 |n+1,x=>by
  show(lcg mask n ((x*5+1)%(mask+1))*5+1)%(mask+1)=(lcg mask (n+1) x*5+1)%(mask+1);rw[lH mask n x]
theorem nO{mask j:Nat}:∀{n x:Nat},j∈DJ mask n x->∃k,k<n/\lcg mask k x=j
 |0,x,h=>by simp[DJ]at h
 |n+1,x,h=>by
  rcases ZZ.mp h with rfl|h;exact⟨0,W9 _,rfl⟩;obtain⟨k,hk,e⟩:=nO h;exact⟨k+1,Nat.succ_lt_succ hk,by rw[<-lH];exact e⟩
def mM(mask:Nat)(m n x:Nat):lcg mask (m+n) x=lcg mask m (lcg mask n x):=by
 induction m with
 |zero=>rw[Yj];rfl
 |succ m ih=>rw[Nat.succ_add];show(lcg mask (m+n) x*5+1)%(mask+1)=(lcg mask m (lcg mask n x)*5+1)%(mask+1);rw[ih]
def fZ(mask:Nat):Bool:=let l:=DJ mask (mask+1) 0;((List.range (mask+1)).all λj=>l.contains j)&&lcg mask (mask+1) 0==0
def Io:fZ 7=L:=by decide +kernel
def Eo:fZ 31=L:=by decide +kernel
def CZ:fZ 127=L:=by decide +kernel
def Msk(mask:Nat):Prop:=mask=7\/mask=31\/mask=127
def Msk.cov{mask:Nat}(h:Msk mask):fZ mask=L:=by
 rcases h with rfl|rfl|rfl;exact Io;exact Eo;exact CZ
def sV{mask x j:Nat}(h:Msk mask)(hx:x<mask+1)(hj:j<mask+1):∃n,n<mask+1/\lcg mask n x=j:=by
 have hc:=h.cov;unfold fZ at hc;dsimp only at hc;rw[ZK,Zw]at hc;have at0:∀y,y<mask+1->∃k,k<mask+1/\lcg mask k 0=y:=λy hy=>nO (List.contains_iff_mem.mp (ZX.mp hc.1 y (Y5.mpr hy)));obtain⟨k0,h0,e0⟩:=at0 x hx;obtain⟨k1,h1,e1⟩:=at0 j hj;by_cases hk:k0<=k1;refine⟨k1 - k0,by lia,?_⟩;rw[<-e0,<-mM,Nat.sub_add_cancel hk,e1];refine⟨k1+(mask+1) - k0,by lia,?_⟩;rw[<-e0,<-mM,Nat.sub_add_cancel (by lia),mM,hc.2,e1]
def zQ{t:SetTable}(hm:Msk t.mask)(h:Int){j:Nat}(hj:j<t.mask+1):∃n,n<10*SetTable.turns t.mask/\(bH t n (t.probeStart h)).j=j:=by
 obtain⟨k,hk,e⟩:=sV hm (ma t.mask h 13) hj;obtain⟨n,hn,en⟩:=uF t h (13+k);refine⟨n,by unfold SetTable.turns;lia,?_⟩;rw[en];show(az t.mask h (13+k)).1=j;rw[nH,e]
theorem jm:∀(n fuel:Nat)(p:SetTable.Probe),n<fuel->(∀m,m<n->∃i,t.slot (bH t m p).j=.live i/\(hashAt i==h)=Y)->
  (t.slot (bH t n p).j=.empty->SetTable.probe.go t hashAt h fuel p=U (.empty (bH t n p).j (bH t n p).dummy))/\
  (∀i,t.slot (bH t n p).j=.live i->(hashAt i==h)=L->SetTable.probe.go t hashAt h fuel p=U (.candidate (bH t n p).j i (t.advance (bH t n p))))
 |0,fuel+1,p,_,_=>by
  refine⟨λe=>?_,λi e q=>?_⟩;unfold SetTable.probe.go;rw[show t.slot p.j=.empty from e];rfl;unfold SetTable.probe.go;rw[show t.slot p.j=.live i from e];dsimp only;rw[ZO q];rfl
 |n+1,fuel+1,p,hn,hm=>by
  obtain⟨i,e,q⟩:=hm 0 (W9 _);have ih:=jm (hashAt:=hashAt) (h:=h) n fuel (t.advance p) (by lia) λm LH=>hm (m+1) (by lia);have e0:SetTable.probe.go t hashAt h (fuel+1) p=SetTable.probe.go t hashAt h fuel (t.advance p):=by
   conv=>lhs;unfold SetTable.probe.go
   rw[show t.slot p.j=.live i from e];dsimp only;rw[ZJ (by rw[q];exact Zl)]
  rw[e0];exact ih
abbrev way(t:SetTable)(h:Int)(n:Nat):Nat:=(bH t n (t.probeStart h)).j
structure Tab (t:SetTable)(hs:List Int):Prop where
 msk:Msk t.mask
 dum:t.dummies=#[]
 len:t.place.size=hs.length
 ris:Ris t.place.toList
 le:∀j∈t.place.toList,j<=t.mask
 rch:∀(i:Nat) h j,hs[i]?=some h->t.place.toList[i]?=some j->∃n,n<10*SetTable.turns t.mask/\way t h n=j/\∀m,m<n->∃k,t.slot (way t h m)=.live k
theorem Tab.fresh(f m:Nat)(l:Bool):Tab (SetTable.fresh f m l) []:=by
 refine⟨.inl rfl,rfl,rfl,List.Pairwise.nil,λj hj=>absurd hj (by simp[SetTable.fresh]),λi h j e=>absurd e (by simp)⟩
def Tab.slots(T:Tab t hs)(j:Nat):t.slot j=.empty\/∃k,t.slot j=.live k:=by
 by_cases h:∃i,∃hi:i<t.place.size,t.place[i]=j;obtain⟨i,hi,e⟩:=h;exact .inr ⟨i,by rw[<-e];exact cR T.ris hi⟩;exact .inl (nY T.ris T.dum λi hi e=>h ⟨i,hi,e⟩)
def gap:∀(n:Nat)(xs:Z9 Nat),Ris xs->xs.length=n->∃j,j<=n/\j∉xs
 |n,xs,h,hl=>by
  by_cases q:∀i (hi:i<xs.length),xs[i]=i;refine⟨n,ZU _,λm=>?_⟩;obtain⟨i,hi,e⟩:=YW.mp m;rw[q i hi]at e;lia;have hex:∃i,∃hi:i<xs.length,xs[i]≠i:=by
   obtain⟨i,hi⟩:=Classical.not_forall.mp q;obtain⟨hi,ne⟩:=Classical.not_forall.mp hi;exact⟨i,hi,ne⟩
  obtain⟨i,⟨hi,ne⟩,Oz⟩:∃i,(∃hi:i<xs.length,xs[i]≠i)/\∀k,k<i->¬∃hk:k<xs.length,xs[k]≠k:=by
   obtain⟨i,hi⟩:=hex
   induction i using Nat.strongRecOn with
   |_ i ih=>
    by_cases z:∃k,k<i/\∃hk:k<xs.length,xs[k]≠k;obtain⟨k,hk,LR⟩:=z;exact ih k hk LR;exact⟨i,hi,λk hk hh=>z ⟨k,hk,hh⟩⟩
  have L5:∀k (hk:k<xs.length),k<i->xs[k]=k:=λk hk MB=>WY λz=>Oz k MB ⟨hk,z⟩;have hgt:i<xs[i]:=by
   rcases WU i xs[i]with z|z|z;exact z;exact absurd z.symm ne;have e1:=L5 xs[i] (by lia) z;have e2:=Ris.at h z hi;rw[e1]at e2;lia
  refine⟨i,by lia,λm=>?_⟩;obtain⟨k,hk,e⟩:=YW.mp m;rcases WU k i with z|z|z;have:=L5 k hk z;lia;subst z;lia;have:=Ris.at h z hk;lia
def BX{P:Nat->Prop}(h:P n):∃m,m<=n/\P m/\∀k,k<m->¬P k:=by
 induction n using Nat.strongRecOn with
 |_ n ih=>
  by_cases z:∃k,k<n/\P k;obtain⟨k,hk,pk⟩:=z;obtain⟨m,hm,r⟩:=ih k hk pk;exact⟨m,by lia,r⟩;exact⟨n,ZU _,h,λk hk pk=>z ⟨k,hk,pk⟩⟩
def Tab.free(T:Tab t hs)(hf:t.place.size<=t.mask)(h:Int):∃n,n<10*SetTable.turns t.mask/\t.slot (way t h n)=.empty/\∀m,m<n->∃k,t.slot (way t h m)=.live k:=by
 obtain⟨j,hj,nj⟩:=gap t.place.size t.place.toList T.ris (by simp);obtain⟨n,hn,e⟩:=zQ T.msk h (show j<t.mask+1 by lia);have:t.slot (way t h n)=.empty:=by
  show t.slot (bH t n (t.probeStart h)).j=.empty;rw[e];exact nY T.ris T.dum λi hi q=>nj (by rw[<-q];simp)
 obtain⟨m,hm,e1,e2⟩:=BX (P:=λn=>t.slot (way t h n)=.empty) this;refine⟨m,by lia,e1,λk hk=>?_⟩;rcases T.slots (way t h k)with q|q;exact absurd q (e2 k hk);exact q
def bX(h:t.mask=u.mask)(x:Int)(n:Nat):way t x n=way u x n:=by
 unfold way;rw[qf h,t7 h]
def kq{q:Type}(xs:Array q)(p:Nat)(x:q):(SetTable.insertAt xs p x).size=xs.size+1:=by
 have:=(Wh xs p x).length_eq;simpa using this
def lj{q:Type}(l:Z9 q)(x:q)(hp:p<=l.length)(i:Nat):(l.take p++x::l.drop p)[i]?=if i<p then l[i]? else if i=p then U x else l[i - 1]?:=by
 by_cases h1:i<p;rw[ZO h1,YY (by rw[X_];lia),List.getElem?_take_of_lt h1];rw[ZJ h1,Yo (by rw[X_];lia),X_,Wv hp];by_cases h2:i=p;rw[ZO h2,h2,Nat.sub_self];rfl;rw[ZJ h2];obtain⟨d,rfl⟩:∃d,i=p+1+d:=⟨i - p - 1,by lia⟩
 rw[show p+1+d - p=d+1 by lia,List.getElem?_cons_succ,List.getElem?_drop];congr 1;lia
theorem Tab.put(T:Tab t hs)(hn:n<10*SetTable.turns t.mask)(he:t.slot (way t h n)=.empty)(hw:∀m,m<n->∃k,t.slot (way t h m)=.live k)(hj:way t h n<=t.mask):
  Tab (t.put (way t h n)).1 (hs.take (t.put (way t h n)).2++h::hs.drop (t.put (way t h n)).2)/\(t.put (way t h n)).2<=hs.length:=by
 generalize hJ:way t h n=J at he hj⊢;have UU:∀i (hi:i<t.place.size),t.place[i]≠J:=λi hi q=>by
  rw[<-q,cR T.ris hi]at he;cases he
 have hp:(t.put J).1.place=SetTable.insertAt t.place (SetTable.below t.place J) J:=rfl;have h2:(t.put J).2=SetTable.below t.place J:=rfl;have q_:(t.put J).1.place.toList=t.place.toList.take (SetTable.below t.place J)++J::t.place.toList.drop (SetTable.below t.place J):=by rw[hp,Wr]
 have hd:(t.put J).1.dummies=#[]:=by
  show(if SetTable.has t.dummies J then SetTable.eraseAt t.dummies (SetTable.below t.dummies J) else t.dummies)=#[];rw[T.dum];simp[SetTable.has]
 have hr:Ris (t.put J).1.place.toList:=by rw[hp];exact pD T.ris UU
 have ble:=(eA T.ris J).2.2;have keep:∀j,(∃k,t.slot j=.live k)->∃k,(t.put J).1.slot j=.live k:=λj ⟨k,hk⟩=>by
  obtain⟨hi,e⟩:=lE hk;have:j∈(t.put J).1.place.toList:=by
   rw[hp];exact(Wh _ _ _).mem_iff.mpr (by rw[<-e];simp)
  obtain⟨i,hi,e⟩:=YW.mp this;have k_:i<(t.put J).1.place.size:=by simpa using hi
  exact⟨i,by rw[<-e];simpa using cR hr k_⟩
 have em:(t.put J).1.mask=t.mask:=rfl;have QF:=T.len;rw[h2];refine⟨⟨T.msk,hd,?_,hr,?_,?_⟩,by lia⟩;rw[hp,kq];simp;lia;intro j NF;rw[hp]at NF;have:=(Wh _ _ _).mem_iff.mp NF;simp only[YD,Zr,Zv]at this;rcases this with q|q;exact T.le j q;rw[q];exact hj;intro i h' j' e1 e2;rw[q_]at e2;rw[lj _ _ (by rw[<-QF];exact ble)]at e1;rw[lj _ _ (by simpa using ble)]at e2;have old:∀k,hs[k]?=U h'->t.place.toList[k]?=U j'->∃n,n<10*SetTable.turns (t.put J).1.mask/\way (t.put J).1 h' n=j'/\∀m,m<n->∃q,(t.put J).1.slot (way (t.put J).1 h' m)=.live q:=λk q1 q2=>by
  obtain⟨n,a1,a2,a3⟩:=T.rch k h' j' q1 q2;refine⟨n,a1,by rw[bX em];exact a2,λm hm=>?_⟩;rw[bX em];exact keep _ (a3 m hm)
 by_cases z1:i<SetTable.below t.place J;rw[ZO z1]at e1 e2;exact old i e1 e2;rw[ZJ z1]at e1 e2;by_cases z2:i=SetTable.below t.place J;rw[ZO z2]at e1 e2;cases e1;cases e2;refine⟨n,hn,by rw[bX em];exact hJ,λm hm=>?_⟩;rw[bX em];exact keep _ (hw m hm);rw[ZJ z2]at e1 e2;exact old (i - 1) e1 e2
abbrev ck(mask:Nat):SetTable:={mask:=mask,place:=#[],dummies:=#[],finger:=0,led:=L,moves:=0,plain:=L}
abbrev vv(mask:Nat)(h:Int)(n:Nat):Nat:=way (ck mask) h n
def Own(o:Array (Z8 Nat))(j:Nat):Prop:=∃k,o[j]?=U (U k)
def uQ{mask i:Nat}(h:i<mask+1):SetTable.runEnd mask i<mask+1:=by unfold SetTable.runEnd;split<;>lia
def rC(mask i:Nat):i<=SetTable.runEnd mask i:=by unfold SetTable.runEnd;split<;>lia
def Cg(mask:Nat)(b:Nat×Nat)(k:Nat)(hk:k<=SetTable.runEnd mask b.1 - b.1):(bH (ck mask) k (dS mask b)).j=b.1+k:=by
 rw[jy (ck mask) k (dS mask b) hk];rfl
theorem sF{mask:Nat}{o:Array (Z8 Nat)}(hs:o.size=mask+1)(h:Int):∀(fuel m n:Nat),n<=10*m->bH (ck mask) n ((ck mask).probeStart h)=dS mask (az mask h m)->(∀q,q<n->Own o (vv mask h q))->
  (∃j n',SetTable.layClean.free mask o fuel (az mask h m).1 (az mask h m).2=U j/\n'<10*(m+fuel)/\vv mask h n'=j/\o[j]?=U M/\∀q,q<n'->Own o (vv mask h q))\/
  (SetTable.layClean.free mask o fuel (az mask h m).1 (az mask h m).2=M/\∀k,k<fuel->Own o (az mask h (m+k)).1)
 |0,m,n,_,_,_=>.inr ⟨rfl,λk hk=>absurd hk (Xw k)⟩
 |fuel+1,m,n,hn,e,hq=>by
  have hb:=ma mask h m;have hr:=uQ hb;have hg:=rC mask (az mask h m).1;have h9:=ye mask (az mask h m).1;have Qo:∀k,k<=SetTable.runEnd mask (az mask h m).1 - (az mask h m).1->vv mask h (n+k)=(az mask h m).1+k:=λk hk=>by
   show(bH (ck mask) (n+k) ((ck mask).probeStart h)).j=_;rw[d7,e,Cg mask _ k hk]
  have own:∀k,k<=SetTable.runEnd mask (az mask h m).1 - (az mask h m).1->(o.getD ((az mask h m).1+k) (U 0)).isNone=Y->Own o ((az mask h m).1+k):=λk hk q=>by
   have j_:(az mask h m).1+k<o.size:=by lia
   have:o.getD ((az mask h m).1+k) (U 0)=o[(az mask h m).1+k]:=by simp[Array.getD,j_]
   rw[this]at q;cases z:o[(az mask h m).1+k]with
   |none=>rw[z]at q;cases q
   |some v=>exact⟨v,by rw[Zb j_,z]⟩
  unfold SetTable.layClean.free;cases hf:(List.range (SetTable.runEnd mask (az mask h m).1+1 - (az mask h m).1)).find? λk=>(o.getD ((az mask h m).1+k) (U 0)).isNone with
  |some k=>
   obtain⟨pk,as,bs,Q7,w_⟩:=List.find?_eq_some_iff_append.mp hf;have hkr:k<SetTable.runEnd mask (az mask h m).1+1 - (az mask h m).1:=Y5.mp (by rw[Q7];simp);have has:as.length=k:=by
    have h1:(List.range (SetTable.runEnd mask (az mask h m).1+1 - (az mask h m).1))[as.length]?=U k:=by rw[Q7];simp
    have h2:=(ZP.mp h1)
    obtain⟨hl,e2⟩:=h2;simpa using e2
   have L5:∀q,q<k->(o.getD ((az mask h m).1+q) (U 0)).isNone=Y:=λq hqk=>by
    have:q∈as:=by
     have h1:(List.range (SetTable.runEnd mask (az mask h m).1+1 - (az mask h m).1))[q]?=U q:=by rw[List.getElem?_range (by lia)]
     rw[Q7,YY (by lia)]at h1;exact Zg h1
    have:=w_ q this;rwa[Yu]at this
   refine .inl ⟨(az mask h m).1+k,n+k,rfl,by lia,Qo k (by lia),?_,λq Vi=>?_⟩;have j_:(az mask h m).1+k<o.size:=by lia
   have e3:o.getD ((az mask h m).1+k) (U 0)=o[(az mask h m).1+k]:=by simp[Array.getD,j_]
   rw[e3]at pk;rw[Zb j_];cases z:o[(az mask h m).1+k]with
   |none=>rfl
   |some v=>rw[z]at pk;cases pk
   by_cases z:q<n;exact hq q z;obtain⟨d,rfl⟩:∃d,q=n+d:=⟨q - n,by lia⟩
   rw[Qo d (by lia)];exact own d (by lia) (L5 d (by lia))
  |none=>
   dsimp only;have w_:=W5.mp hf;have Jt:∀k,k<=SetTable.runEnd mask (az mask h m).1 - (az mask h m).1->Own o ((az mask h m).1+k):=λk hk=>own k hk (by
    have:=w_ k (Y5.mpr (by lia));exact Bool.not_eq_true _▸this)
   have OJ:bH (ck mask) (n+(SetTable.runEnd mask (az mask h m).1 - (az mask h m).1+1)) ((ck mask).probeStart h)=dS mask (az mask h (m+1)):=by
    rw[d7,e];exact uC (ck mask) _
   have ih:=sF hs h fuel (m+1) (n+(SetTable.runEnd mask (az mask h m).1 - (az mask h m).1+1)) (by lia) OJ λq Vi=>by
    by_cases z:q<n;exact hq q z;obtain⟨d,rfl⟩:∃d,q=n+d:=⟨q - n,by lia⟩
    rw[Qo d (by lia)];exact Jt d (by lia)
   rcases ih with⟨j,n',a1,a2,a3,a4,a5⟩|⟨a1,a2⟩;exact .inl ⟨j,n',a1,by lia,a3,a4,a5⟩;refine .inr ⟨a1,λk hk=>?_⟩;cases k with
   |zero=>exact Jt 0 (by lia)
   |succ k=>
    have:=a2 k (by lia);rwa[show m+(k+1)=m+1+k by lia]
def AA{mask:Nat}{o:Array (Z8 Nat)}(hm:Msk mask)(hs:o.size=mask+1)(h:Int){j:Nat}(hj:j<mask+1)(Kr:o[j]?=U M):
  ∃J n,SetTable.layClean.free mask o (SetTable.turns mask) (SetTable.bits h%(mask+1)) (SetTable.bits h)=U J/\n<10*SetTable.turns mask/\vv mask h n=J/\o[J]?=U M/\∀q,q<n->Own o (vv mask h q):=by
 rcases sF hs h (SetTable.turns mask) 0 0 (ZU _) rfl (λq hq=>absurd hq (Xw q))with⟨J,n,a1,a2,a3⟩|⟨a1,a2⟩;exact⟨J,n,a1,by lia,a3⟩;obtain⟨k,hk,e⟩:=sV hm (ma mask h 13) hj;obtain⟨v,hv⟩:=a2 (13+k) (by unfold SetTable.turns;lia);rw[Yj,nH,e,Kr]at hv;cases hv
structure abh (mask:Nat)(hs:List Int)(o:Array (Z8 Nat)):Prop where
 sz:o.size=mask+1
 cnt:o.toList.countP (·.isSome)=hs.length
 lt:∀(j:Nat) v,o[j]?=some (some v)->v<hs.length
 inj:∀(j j':Nat) v,o[j]?=some (some v)->o[j']?=some (some v)->j=j'
 at':∀(v:Nat) h,hs[v]?=some h->∃j n,o[j]?=some (some v)/\n<10*SetTable.turns mask/\vv mask h n=j/\∀q,q<n->Own o (vv mask h q)
def abh.nil(mask:Nat):abh mask [] (Array.replicate (mask+1) M):=by
 refine⟨by simp,?_,λj v e=>?_,λj j' v e=>?_,λv h e=>by simp at e⟩;simp
 .rw[Array.getElem?_replicate]at e;split at e<;>cases e
 .rw[Array.getElem?_replicate]at e;split at e<;>cases e
def abh.hole{mask:Nat}{hs:Z9 Int}{o:Array (Z8 Nat)}(Lq:abh mask hs o)(h:hs.length<=mask):∃j,j<mask+1/\o[j]?=U M:=by
 apply WY;intro hn;have:∀x∈o.toList,x.isSome=L:=λx hx=>by
  obtain⟨i,hi,e⟩:=YW.mp hx;have k_:i<o.size:=by simpa using hi
  cases x with
  |some v=>rfl
  |none=>exact absurd ⟨i,by rw[<-Lq.sz];exact k_,by rw[Zb k_];simpa using e⟩ hn
 have e:=List.countP_eq_length.mpr this;have e2:=Lq.cnt;have e3:=Lq.sz;rw[e]at e2;simp only[Array.length_toList]at e2;lia
def abh.step{mask:Nat}{hs:Z9 Int}{o:Array (Z8 Nat)}(hm:Msk mask)(Lq:abh mask hs o)(h:Int)(hl:hs.length<=mask):
  ∃J,SetTable.layClean.free mask o (SetTable.turns mask) (SetTable.bits h%(mask+1)) (SetTable.bits h)=U J/\abh mask (hs++[h]) (o.setIfInBounds J (U hs.length)):=by
 obtain⟨j,hj,hf⟩:=Lq.hole hl;obtain⟨J,n,a1,a2,a3,a4,a5⟩:=AA hm Lq.sz h hj hf;obtain⟨hJ,eJ⟩:=YR.mp a4;have keep:∀(i:Nat),Own o i->Own (o.setIfInBounds J (U hs.length)) i:=λi ⟨v,hv⟩=>by
  refine⟨v,?_⟩;rw[Xa,ZJ (by intro e;rw[e,hv]at a4;cases a4)];exact hv
 have at0:(o.setIfInBounds J (U hs.length))[J]?=U (U hs.length):=by rw[Xa,ZO rfl,ZO hJ]
 have NK:∀i,i≠J->(o.setIfInBounds J (U hs.length))[i]?=o[i]?:=λi hi=>by rw[Xa,ZJ (λe=>hi e.symm)]
 refine⟨J,a1,⟨by simp[Lq.sz],?_,λi v e=>?_,λi i' v e e'=>?_,λv h' e=>?_⟩⟩;rw[W4,List.countP_set (by simpa using hJ),Lq.cnt];have:o.toList[J]'(by simpa using hJ)=M:=by simpa using eJ
 rw[this];simp;rw[Zz];by_cases z:i=J;rw[z,at0]at e;cases e;simp;rw[NK i z]at e;have:=Lq.lt i v e;simp;lia
 .by_cases z:i=J<;>by_cases z':i'=J
  rw[z,z'];rw[z,at0]at e;cases e;rw[NK i' z']at e';exact absurd (Lq.lt i' _ e') (Zc _);rw[z',at0]at e';cases e';rw[NK i z]at e;exact absurd (Lq.lt i _ e) (Zc _);rw[NK i z]at e;rw[NK i' z']at e';exact Lq.inj i i' v e e'
 by_cases z:v<hs.length;rw[YY z]at e;obtain⟨j,n,b1,b2,b3,b4⟩:=Lq.at' v h' e;refine⟨j,n,?_,b2,b3,λq hq=>keep _ (b4 q hq)⟩;rw[NK j (by intro e;rw[e,a4]at b1;cases b1)];exact b1;have hv:v=hs.length:=by
  have:=(ZP.mp e).1;simp at this;lia
 subst hv;simp at e;subst e;exact⟨J,n,at0,a2,a3,λq hq=>keep _ (a5 q hq)⟩
theorem ox{mask:Nat}(hm:Msk mask):∀(post pre:Z9 Int)(o:Array (Z8 Nat)),abh mask pre o->(pre++post).length<=mask->
  ∃o',post.foldl (λ(acc:Z8 (Array (Z8 Nat)×Nat)) h=>do
   let (owner,k) <-acc
   let j <-SetTable.layClean.free mask owner (SetTable.turns mask) (SetTable.bits h%(mask+1)) (SetTable.bits h)
   pure (owner.setIfInBounds j (U k),k+1)) (U (o,pre.length))=U (o',(pre++post).length)/\abh mask (pre++post) o'
 |[],pre,o,Lq,_=>⟨o,by simp,by simpa using Lq⟩
 |h::post,pre,o,Lq,hl=>by
  rw[Zz,cK]at hl;obtain⟨J,e,L1⟩:=Lq.step hm h (by lia);obtain⟨o',e',L'⟩:=ox hm post (pre++[h]) _ L1 (by simp;lia);refine⟨o',?_,by simpa using L'⟩;rw[List.foldl_cons];have:(do
   let (owner,k) <-U (o,pre.length)
   let j <-SetTable.layClean.free mask owner (SetTable.turns mask) (SetTable.bits h%(mask+1)) (SetTable.bits h)
   pure (owner.setIfInBounds j (U k),k+1))=U (o.setIfInBounds J (U pre.length),(pre++[h]).length):=by
   show(SetTable.layClean.free mask o (SetTable.turns mask) (SetTable.bits h%(mask+1)) (SetTable.bits h)).bind _=_;rw[e];simp
  rw[this,e'];simp
def Cf{mask:Nat}(hm:Msk mask)(hs:Z9 Int)(hl:hs.length<=mask):∃o,SetTable.layClean mask hs.toArray=some o/\abh mask hs o:=by
 obtain⟨o,e,Lq⟩:=ox hm hs [] _ (abh.nil mask) (by simpa using hl);refine⟨o,?_,by simpa using Lq⟩;unfold SetTable.layClean;rw[List.foldl_toArray];rw[show(some (Array.replicate (mask+1) (none:Z8 Nat),0))=some (Array.replicate (mask+1) none,([]:Z9 Int).length) from rfl];rw[e];rfl
theorem iV{q:Type}(g:Nat->Z8 q):∀l:Z9 Nat,(l.filterMap λj=>(g j).map (j,·)).map (·.1)=l.filter λj=>(g j).isSome
 |[]=>rfl
 |x::l=>by
  rw[List.filterMap_cons,List.filter_cons];cases e:g x with
  |none=>simpa using iV g l
  |some v=>simpa using iV g l
theorem jp{q:Type}(g:Nat->Z8 q):∀l:Z9 Nat,(l.filterMap λj=>(g j).map (j,·)).map (·.2)=l.filterMap g
 |[]=>rfl
 |x::l=>by
  rw[List.filterMap_cons,List.filterMap_cons];cases e:g x with
  |none=>simpa using jp g l
  |some v=>simpa using jp g l
def Af{mask:Nat}(hm:Msk mask)(hs:Z9 Int)(hl:hs.length<=mask)(finger moves:Nat)(led plain:Bool):∃t order,SetTable.laid mask finger moves led plain hs.toArray=U (t,order)/\
  order.toList.Perm (List.range hs.length)/\Tab t (order.toList.map λi=>hs.getD i 0)/\t.mask=mask/\t.led=led/\t.plain=plain/\t.place.size=hs.length:=by
 obtain⟨o,e,Lq⟩:=Cf hm hs hl;unfold SetTable.laid;rw[e];refine⟨_,_,rfl,?_⟩;dsimp only;have gd:∀j v,o.getD j M=U v↔o[j]?=U (U v):=λj v=>by
  unfold Array.getD;by_cases h:j<o.size;simp[h];simp[h]
 generalize LC:((List.range (mask+1)).filterMap λj=>(o.getD j M).map (j,·))=live;have hf:live.map (·.1)=(List.range (mask+1)).filter λj=>(o.getD j M).isSome:=by rw[<-LC];exact iV (λj=>o.getD j M) _
 have Vf:live.map (·.2)=(List.range (mask+1)).filterMap λj=>o.getD j M:=by rw[<-LC];exact jp (λj=>o.getD j M) _
 have mem:∀j v,(j,v)∈live↔o[j]?=U (U v):=λj v=>by
  rw[<-LC,XM];constructor
  rintro⟨i,_,h⟩
  cases q:o.getD i M with
  |none=>rw[q]at h;cases h
  |some u=>rw[q]at h;simp at h;rw[<-h.1,<-h.2];exact(gd i u).mp q
  intro h;refine⟨j,Y5.mpr ?_,by rw[(gd j v).mpr h];rfl⟩;have:=(YR.mp h).1;rw[Lq.sz]at this;exact this
 have nd:(live.map (·.2)).Nodup:=by
  rw[Vf];unfold List.Nodup;rw[List.pairwise_filterMap];refine List.Pairwise.imp ?_ (List.nodup_range (n:=mask+1));intro a b IP x hx y hy U7;subst U7;exact IP (Lq.inj a b x ((gd a x).mp hx) ((gd b x).mp hy))
 have perm:(live.map (·.2)).Perm (List.range hs.length):=by
  refine(W6 nd List.nodup_range).mpr λv=>?_;rw[Y5];constructor;intro h;obtain⟨⟨j,u⟩,hp,rfl⟩:=ZV.mp h;exact Lq.lt j u ((mem j u).mp hp);intro h;obtain⟨j,n,a1,_⟩:=Lq.at' v hs[v] (by simp[h]);exact ZV.mpr ⟨(j,v),(mem j v).mpr a1,rfl⟩
 have ris:Ris (live.map (·.1)):=by
  rw[hf];exact List.Pairwise.filter _ (List.pairwise_lt_range (n:=mask+1))
 have Ri:live.length=hs.length:=by have:=perm.length_eq;simpa using this
 refine⟨by simpa using perm,⟨hm,rfl,?_,by simpa using ris,?_,?_⟩,rfl,rfl,rfl,by simpa using Ri⟩;simp;intro j hj;have:j∈live.map (·.1):=by simpa using hj
 rw[hf]at this;have:=Y5.mp (Y6.mp this).1;show j<=mask;lia;intro i h j e1 e2;have e2:(live.map (·.1))[i]?=U j:=by simpa using e2
 have e1:((live.map (·.2)).map λi=>hs.getD i 0)[i]?=U h:=by simpa using e1
 obtain⟨⟨j',v⟩,hp,rfl⟩:∃p,live[i]?=U p/\p.1=j:=by
  rw[YQ]at e2;cases q:live[i]? with
  |none=>rw[q]at e2;cases e2
  |some p=>rw[q]at e2;cases e2;exact⟨p,rfl,rfl⟩
 have ho:=(mem j' v).mp (Zg hp);have hv:=Lq.lt j' v ho;have eh:h=hs[v]:=by
  rw[YQ,YQ,hp]at e1;simp[hv]at e1;exact e1.symm
 subst eh;obtain⟨j2,n,b1,b2,b3,b4⟩:=Lq.at' v hs[v] (by simp[hv]);have:j2=j':=Lq.inj j2 j' v b1 ho;subst this;refine⟨n,b2,?_,λm LH=>?_⟩;exact(bX (t:={mask:=mask,place:=(live.map (·.1)).toArray,dummies:=#[],finger:=finger,led:=led,moves:=moves,plain:=plain}) (u:=ck mask) rfl _ _).trans b3;rw[bX (t:={mask:=mask,place:=(live.map (·.1)).toArray,dummies:=#[],finger:=finger,led:=led,moves:=moves,plain:=plain}) (u:=ck mask) rfl];obtain⟨u,hu⟩:=b4 m LH;have II:vv mask hs[v] m∈live.map (·.1):=ZV.mpr ⟨(_,u),(mem _ u).mpr hu,rfl⟩;obtain⟨k,hk,ek⟩:=YW.mp II;refine⟨k,?_⟩;have LR:k<((live.map (·.1)).toArray).size:=by simpa using hk
 have:=cR (t:={mask:=mask,place:=(live.map (·.1)).toArray,dummies:=#[],finger:=finger,led:=led,moves:=moves,plain:=plain}) (by simpa using ris) LR;have ek2:((live.map (·.1)).toArray)[k]=way (ck mask) hs[v] m:=by simpa using ek
 rw[<-ek2];exact this
open PySem.Spec PyProof.Rows
variable[Lams]
def uH:∀(n:Nat)(d:D)(u:Z3)(A:Za)(Q:Bool->ZR->Prop)(E:Z3->ZR->Prop),aW n d=L->RH s.heap d u->Q Y s->wpAny (model P w) A (ofAClassStatement n u) Q E s:=by
 intro n
 induction n using Nat.strongRecOn with
 |ind n ih=>
 intro d u A Q E hd rd hQ;cases d with
 |int i=>simp only[RH]at rd;obtain⟨t,rfl⟩:=rd;unfold ofAClassStatement;exact Z5 hQ
 |str i=>simp only[RH]at rd;obtain⟨t,rfl⟩:=rd;unfold ofAClassStatement;exact Z5 hQ
 |tup ds=>
  simp only[RH]at rd;obtain⟨a,its,rfl,⟨o,ho,hc,m,r_⟩,hr⟩:=rd;obtain⟨k,rfl,z_⟩:=cw hd;unfold ofAClassStatement;refine Z_ (Xv ⟨o,ho,hc⟩ ?_);dsimp only;refine eS (by decide) ?_;refine Z_ (Z5 ?_);simp only[YJ,ZY,Zj];refine Z_ (Yw ho r_ ?_);dsimp only;rw[<-Xq];refine Z_ (X4 _ (λaq b s'=>b.1=M/\s'=s/\∃left,left.all (aW k)=L/\RHs s.heap left aq) _ ?_ ?_ _ _ ⟨rfl,rfl,ds,z_,by simpa using hr⟩);intro v aq b s' hz;obtain⟨hb,rfl,left,w_,hl⟩:=hz;cases left with
  |nil=>simp only[RHs]at hl;trivial
  |cons d' ID=>
   simp only[RHs]at hl;obtain⟨v',r',e',r1,r2⟩:=hl;cases e';rw[jR,ZK]at w_;refine Z_ (ih k (by lia) d' v _ _ _ w_.1 r1 ?_);simp only[ZY,Zj];exact Z5 ⟨rfl,rfl,ID,w_.2,r2⟩
  rintro⟨b1,b2⟩ s' ⟨hb,rfl,_⟩
  simp only at hb;subst hb;exact Z5 hQ
 |_=>simp[aW]at hd
def Bh:∀(n:Nat)(d:D)(u:Z3)(A:Za)(Q:Bool->ZR->Prop)(E:Z3->ZR->Prop),aW n d=L->RH s.heap d u->(∀b,Q b s)->wpAny (model P w) A (hashByValue n u) Q E s:=by
 intro n
 induction n using Nat.strongRecOn with
 |ind n ih=>
 intro d u A Q E hd rd hQ;cases d with
 |int i=>simp only[RH]at rd;obtain⟨t,rfl⟩:=rd;unfold hashByValue;exact Z5 (hQ _)
 |str i=>simp only[RH]at rd;obtain⟨t,rfl⟩:=rd;unfold hashByValue;exact Z5 (hQ _)
 |tup ds=>
  simp only[RH]at rd;obtain⟨a,its,rfl,⟨o,ho,hc,m,r_⟩,hr⟩:=rd;obtain⟨k,rfl,z_⟩:=cw hd;unfold hashByValue;refine Z_ (Yb ⟨o,ho,hc⟩ Xc.lookup ?_);dsimp only;refine Z_ (Yw ho r_ (Z_ ?_));simp only[Option.getD_some];rw[<-Xq];refine X4 _ (λaq b s'=>s'=s/\∃left,left.all (aW k)=L/\RHs s.heap left aq) _ ?_ ?_ _ _ ⟨rfl,ds,z_,by simpa using hr⟩
  .intro v aq b s' hz;obtain⟨rfl,left,w_,hl⟩:=hz
   cases left with
   |nil=>simp only[RHs]at hl;trivial
   |cons d' ID=>
    simp only[RHs]at hl;obtain⟨v',r',e',r1,r2⟩:=hl;cases e';rw[jR,ZK]at w_;refine Z_ (ih k (by lia) d' v _ _ _ w_.1 r1 λb=>?_);cases b with
    |true=>
     simp only[YJ,ZY,Zj];exact Z5 ⟨rfl,ID,w_.2,r2⟩
    |false=>
     simp only[X8,Y8];exact Z5 (by first|exact Z5 (hQ _)|exact hQ _|exact rfl)
  .rintro⟨b1,b2⟩ s' ⟨rfl,_⟩
   cases b1<;>exact Z5 (hQ _)
 |_=>simp[aW]at hd
theorem Tab.fits(T:Tab t hs)(hf:t.place.size<=t.mask):t.fits hs.length=L:=by
 unfold SetTable.fits SetTable.fill;rw[T.dum,T.len];rw[T.len]at hf;simp[hf]
def Tab.odd(T:Tab t hs):t.gaveWay=Y:=by
 unfold SetTable.gaveWay;rcases T.msk with h|h|h<;>rw[h]<;>rfl
section
variable{s:ZR}{es:Z9 (Int×Z3)}{hx:Int}
def gQ(ho:s.heap.get? a=U o)(hd:o.data=.set es.toArray ep t)(T:Tab t (es.map (·.1)))(hf:t.place.size<=t.mask)(J5:Z3->Bool)(hrefs:∀e∈es,∃b,e.2=.ref b)(heq:∀e∈es,e.1=hx->SeqAt.EqAt A s e.2 x (J5 e.2))(Jv:∀l:Z9 Z3,(∀y∈l,∃e∈es,e.2=y)->∀Q:Bool->ZR->Prop,Q Y s->wpAny (model prog w) A (searchCouldBeSeen x l) Q E s)(hN:N<10*SetTable.turns t.mask)(hw:∀m,m<N->∃k,t.slot (way t hx m)=.live k)(MZ:(t.slot (way t hx N)=.empty/\(∀e∈es,e.1=hx->J5 e.2=Y)/\Q (.free (way t hx N) Y) s)\/(∃i e,t.slot (way t hx N)=.live i/\es[i]?=U e/\e.1=hx/\J5 e.2=L)/\Q (.there M) s)(Nf:(∃e∈es,e.1=hx/\J5 e.2=L)->Q (.there M) s):
  ∀(fuel m:Nat)(st:Z8 SetTable.Probe),m<=N->N - m<fuel->st.getD (t.probeStart hx)=bH t m (t.probeStart hx)->wpAny (model prog w) A (setSearchFrom a x hx L fuel st) Q E s:=by
 intro fuel
 induction fuel with
 |zero=>intro m st _ h;exact absurd h (Xw _)
 |succ fuel ih=>
  intro m st hm hfu IF;have J9:t.fits es.toArray.size=L:=by simpa using T.fits hf
  unfold setSearchFrom;refine Z_ (YB ho hd J9 ?_);dsimp only;rw[T.odd];simp only[ZY,Zj];rw[IF]
  let hashAt:Nat->Int:=λi=>(es.toArray[i]?.map (·.1)).getD 0
  have JZ:∀i e,es[i]?=U e->hashAt i=e.1:=λi e h=>by show(es.toArray[i]?.map (·.1)).getD 0=_;simp[h]
  have Nb:t.slot (way t hx N)=.empty\/∃i,t.slot (way t hx N)=.live i/\(hashAt i==hx)=L:=by
   rcases MZ with⟨h,_⟩|⟨⟨i,e,h1,h2,h3,_⟩,_⟩;exact .inl h;exact .inr ⟨i,h1,by rw[JZ i e h2,h3];exact Yr _⟩
  obtain⟨n,hn,tell,before⟩:=BX (P:=λk=>t.slot (way t hx (m+k))=.empty\/∃i,t.slot (way t hx (m+k))=.live i/\(hashAt i==hx)=L) (n:=N - m) (by rw[show m+(N - m)=N by lia];exact Nb);have OE:∀k,(bH t k (bH t m (t.probeStart hx))).j=way t hx (m+k):=λk=>by rw[<-d7]
  have live:∀k,k<n->∃i,t.slot (way t hx (m+k))=.live i:=λk hk=>hw (m+k) (by lia);obtain⟨Q1,go2⟩:=jm (t:=t) (hashAt:=hashAt) (h:=hx) n (10*SetTable.turns t.mask) (bH t m (t.probeStart hx)) (by lia) λk hk=>by
   obtain⟨i,hi⟩:=live k hk;refine⟨i,by rw[OE];exact hi,?_⟩;cases q:(hashAt i==hx)with
   |false=>rfl
   |true=>exact absurd (.inr ⟨i,hi,q⟩) (before k hk)
  rw[OE]at Q1 go2;have RK:(bH t n (bH t m (t.probeStart hx))).dummy=M:=by rw[ff,ff];rfl
  rw[RK]at Q1;rcases tell with te|⟨i,ti,hi⟩
  .-- an empty one:it is the last
   have SN:m+n=N:=by
    rcases Nat.lt_or_ge (m+n) N with z|z;obtain⟨k,hk⟩:=hw (m+n) z;rw[te]at hk;cases hk;lia
   have hp:∀f:Nat->Int,f=hashAt->t.probe f hx (bH t m (t.probeStart hx))=U (.empty (way t hx (m+n)) M):=λf e=>by rw[e];exact Q1 te
   rw[hp]
   rotate_left
   rfl;dsimp only;rcases MZ with⟨_,_,h⟩|⟨⟨i,e,h1,_⟩,_⟩;rw[SN];exact Z5 h;rw[<-SN,te]at h1;cases h1
  .have hp:∀f:Nat->Int,f=hashAt->t.probe f hx (bH t m (t.probeStart hx))=U (.candidate (way t hx (m+n)) i (t.advance (bH t n (bH t m (t.probeStart hx))))):=λf e=>by rw[e];exact go2 i ti hi
   rw[hp]
   rotate_left
   rfl;dsimp only;obtain⟨QI,q_⟩:=lE ti;have QJ:i<es.length:=by have:=T.len;simp at this;lia
   have Pq:es[i]?=U es[i]:=by simp[QJ]
   have hh:es[i].1=hx:=by
    have:=JZ i _ Pq;rw[this]at hi;exact Zw.mp hi
   have II:es[i]∈es:=Xh QJ;obtain⟨b,hb⟩:=hrefs _ II;have tail:wpAny (model prog w) A (do
     let some (_,y):=es.toArray[i]?|unsupported "internal:set-entry"
     let equal <-holding [y] (eqBool y x)
     let (es',_,t') <-setState a
     if L&&equal then return .there M
     let some same:=t'.sameMemory t.moves t.mask|unsupported "set.changed-during-lookup:is-the-new-block-at-the-old-address"
     let OG <-match(if same then t'.slot (way t hx (m+n)) else .empty)with
      |.live i'=>match es'[i']? with
       |some (_,y')=>do pure (if <-isSame y' y then U i' else M)
       |none=>pure M
      |_=>pure M
     match OG with
     |none=>rule "set.search.anew";setSearchFrom a x hx L fuel M
     |some i'=>if equal then return .there (U i') else setSearchFrom a x hx L fuel (U (t.advance (bH t n (bH t m (t.probeStart hx)))))) Q E s:=by
    have e1:es.toArray[i]?=U es[i]:=by simp[QJ]
    rw[e1];dsimp only;refine Z_ (Y4 (heq _ II hh _ _ _ _ ?_));refine Z_ (YB ho hd J9 ?_);dsimp only;cases hq:J5 es[i].2 with
    |true=>
     simp only[Yd,Y8];exact Z5 (Nf ⟨_,II,hh,hq⟩)
    |false=>
     simp only[XB,ZY,Zj];have sm:t.sameMemory t.moves t.mask=U L:=by unfold SetTable.sameMemory;rw[ZO (Yr _)]
     rw[sm];dsimp only;simp only[Y8];rw[ti];dsimp only;rw[e1];dsimp only;rw[hb];have e3:isSame (.ref b) (.ref b)=pure L:=by unfold isSame;dsimp only;rw[ZO (Yr _)]
     rw[e3];refine Z_ (Z5 (Z_ (Z5 ?_)));simp only[Y8,ZY,Zj];have h1:m+n+1<=N:=by
      rcases Nat.lt_or_ge (m+n) N with z|z;lia;have zN:m+n=N:=by lia
      rcases MZ with⟨h,_⟩|⟨⟨i',e,h1,h2,h3,h4⟩,_⟩;rw[<-zN,ti]at h;cases h;rw[<-zN,ti]at h1;cases h1;rw[Pq]at h2;cases h2;rw[hq]at h4;cases h4
     refine ih (m+n+1) _ h1 (by lia) ?_;show t.advance (bH t n (bH t m (t.probeStart hx)))=_;rw[<-d7,fR]
   cases H_:t.led with
   |true=>
    simp only[YJ,ZY,Zj];exact tail
   |false=>
    simp only[X8,Y8];refine Z_ (Jv _ (λy hy=>?_) _ ?_);obtain⟨e,he,rfl⟩:=ZV.mp hy;refine⟨e,?_,rfl⟩;have:e∈(es.toArray.filter λz=>z.1==hx).toList:=he;simp at this;exact this.1;simp only[ZY,Zj];exact tail
end
def aaH(h:Heap)(a:ZM)(es:Z9 (Int×Z3))(led:Bool):Prop:=
 ∃o ep t,h.get? a=U o/\o.ExactSet/\o.data=.set es.toArray ep t/\Tab t (es.map (·.1))/\t.place.size*5<t.mask*3/\t.led=led
theorem Tab.plain(T:Tab t hs)(b:Bool):Tab {t with plain:=b} hs:=by
 refine⟨T.msk,T.dum,T.len,T.ris,T.le,λi h j e1 e2=>?_⟩;obtain⟨n,a1,a2,a3⟩:=T.rch i h j e1 e2;refine⟨n,a1,(bX (t:={t with plain:=b}) (u:=t) rfl _ _).trans a2,λm hm=>?_⟩;rw[bX (t:={t with plain:=b}) (u:=t) rfl];exact a3 m hm
def pv{es:Z9 (Int×Z3)}{order:Z9 Nat}(h:order.Perm (List.range es.length)):(order.filterMap (es[·]?)).Perm es/\(order.filterMap (es[·]?)).map (·.1)=order.map λi=>(es.map (·.1)).getD i 0:=by
 refine⟨?_,?_⟩;have h1:=h.filterMap (es[·]?);rw[List.filterMap_getElem?_range_length]at h1;exact h1;have hl:∀i∈order,i<es.length:=λi hi=>Y5.mp (h.mem_iff.mp hi);clear h
 induction order with
 |nil=>rfl
 |cons i order ih=>
  have hi:=hl i (ZW ..);rw[List.filterMap_cons,Z1];simp only[YU hi,Z1];rw[ih λk hk=>hl k (Z2 _ hk)];simp[hi]
section
variable{prog:Y0}{w:YM}{A:Za}{E:Z3->ZR->Prop}{s:ZR}{a:ZM}
theorem wM(a:ZM)(wanted:Nat):setRelay a wanted=(do
  let (es,_,t) <-setState a
  if SetTable.sizeAbove wanted>sizeLine then unsupported "set:memory"
  let (es,t) <-(do
   let some (t,order):=t.relaid (es.map (·.1)) wanted|unsupported "internal:set-table-without-room"
   let es':=order.filterMap (es[·]?)
   if es'.size != es.size then unsupported "internal:set-table-lost-an-element"
   pure (es',t))
  storeSet a es t):=rfl
def eI{h:Heap}(ho:h.get? a=U o)(hd:o.data=.set es ep t):(h.update a (Obj.putSet es' t')).get? a=U {o with data:=.set es' (ep+1) t'}:=by
 have:=Zh (Obj.putSet es' t') ho (by rw[putSet_of es' t' hd];rfl);rw[putSet_of es' t' hd]at this;exact this
def DH{t:SetTable}{p:SetTable.Probe}(h:p.j+p.more<=t.mask):(t.advance p).j+(t.advance p).more<=t.mask:=by
 unfold SetTable.advance;split;dsimp only;lia;unfold SetTable.leap;dsimp only;have h1:(p.i*5+1+p.perturb / 32)%(t.mask+1)<t.mask+1:=WE _ (W9 _);have:=uQ h1;have:=rC t.mask ((p.i*5+1+p.perturb / 32)%(t.mask+1));lia
def Bs(t:SetTable)(hx:Int)(n:Nat):∃m,m<=t.mask/\way t hx n=m:=by
 have:∀n,(bH t n (t.probeStart hx)).j+(bH t n (t.probeStart hx)).more<=t.mask:=λn=>by
  induction n with
  |zero=>
   show(t.probeStart hx).j+(t.probeStart hx).more<=t.mask;unfold SetTable.probeStart;dsimp only;have h1:SetTable.bits hx%(t.mask+1)<t.mask+1:=WE _ (W9 _);have:=uQ h1;have:=rC t.mask (SetTable.bits hx%(t.mask+1));lia
  |succ n ih=>rw[fR];exact DH ih
 exact⟨_,by have:=this n;show(bH t n (t.probeStart hx)).j<=t.mask;lia,rfl⟩
def oO(T:Tab t (es.map (·.1)))(hg:t.mask*3<=es.length*5)(hl:es.length*5<t.mask*3+5)(N9:es.length<=76):∃(Lj:Z9 (Int×Z3))(t2:SetTable)(order:Array Nat),t.relaid (es.toArray.map (·.1)) (SetTable.grown es.length)=U (t2,order)/\SetTable.sizeAbove (SetTable.grown es.length)<=128/\
  order.filterMap (es.toArray[·]?)=Lj.toArray/\order.toList.Perm (List.range es.length)/\Lj.Perm es/\Tab t2 (Lj.map (·.1))/\t2.place.size*5<t2.mask*3/\t2.led=t.led:=by
 obtain⟨m,e2,e3,e4⟩:∃m,SetTable.sizeAbove (SetTable.grown es.length)=m+1/\Msk m/\es.length*5<m*3:=by
  rcases T.msk with z|z|z;have h5:es.length=5:=by lia
  exact⟨31,by rw[h5];decide,.inr (.inl rfl),by lia⟩;have h5:es.length=19:=by lia
  exact⟨127,by rw[h5];decide,.inr (.inr rfl),by lia⟩;lia
 obtain⟨t',order,q1,q2,q3,q4,q5,q6,q7⟩:=Af e3 (es.map (·.1)) (by simp;lia) t.finger (t.movedTo m) t.led t.plain;rw[Z0]at q2 q7;obtain⟨p1,p2⟩:=pv q2;refine⟨order.toList.filterMap (es[·]?),t',order,?_,by rcases e3 with h|h|h<;>lia,by apply Array.ext';simp,q2,p1,by rw[p2];exact q3,by rw[q7,q4];exact e4,q5⟩;unfold SetTable.relaid;rw[List.map_toArray,e2,Nat.add_sub_cancel];exact q1
def xh(ho:s.heap.get? a=U o)(hex:o.ExactSet)(hd:o.data=.set es.toArray ep t)(T:Tab t (es.map (·.1)))(hf:t.place.size<=t.mask)(hg:t.mask*3<=es.length*5)(hl:es.length*5<t.mask*3+5)(N9:es.length<=76)(h:∀es' t',es'.Perm es->aaH (s.heap.update a (Obj.putSet es'.toArray t')) a es' t.led->Q () {s with heap:=s.heap.update a (Obj.putSet es'.toArray t')}):
  wpAny (model prog w) A (setRelay a (SetTable.grown es.length)) Q E s:=by
 obtain⟨Lj,t2,order,e1,e2,e3,e4,p1,e5,e6,e7⟩:=oO T hg hl N9;have hlen:=p1.length_eq;rw[wM];refine Z_ (YB ho hd (by simpa using T.fits hf) ?_);dsimp only;rw[ZJ (by rw[Yk];lia),e1];dsimp only;rw[e3,show(Lj.toArray.size != es.toArray.size)=Y by simp[hlen]];simp only[ZY,Zj];exact Z_ (Z5 (Wy ho hd (h _ t2 p1 ⟨_,ep+1,t2,eI ho hd,hex,rfl,e5,e6,e7⟩) (by rw[Yk];simp[hlen];lia)))
def rT(T:Tab t (es.map (·.1)))(hn:n<10*SetTable.turns t.mask)(he:t.slot (way t hx n)=.empty)(hw:∀m,m<n->∃k,t.slot (way t hx m)=.live k)(x:Z3):∃(t1:SetTable)(p:Nat)(Iv:Z9 (Int×Z3)),t.put (way t hx n)=(t1,p)/\t1.mask=t.mask/\t1.led=t.led/\
  SetTable.insertAt es.toArray p (hx,x)=Iv.toArray/\Iv.Perm ((hx,x)::es)/\Tab t1 (Iv.map (·.1)):=by
 obtain⟨m,hm,e⟩:=Bs t hx n;refine⟨_,_,es.take _++(hx,x)::es.drop _,rfl,rfl,rfl,Array.ext' (by rw[Wr]),?_,?_⟩;have:=List.perm_middle (a:=(hx,x)) (l₁:=es.take (t.put (way t hx n)).2) (l₂:=es.drop (t.put (way t hx n)).2);rwa[X7]at this;rw[Y2,Z1,List.map_take,List.map_drop];exact(T.put hn he hw (by lia)).1
def Tab.full(T:Tab t hs):t.tooFull=decide (t.place.size*5>=t.mask*3):=by
 unfold SetTable.tooFull SetTable.fill;rw[T.dum];rfl
def wX{es:Z9 (Int×Z3)}{n:Nat}{Q:Bool->ZR->Prop}(ho:s.heap.get? a=U o)(hex:o.ExactSet)(hd:o.data=.set es.toArray ep t)(T:Tab t (es.map (·.1)))(hf:t.place.size*5<t.mask*3)(Mj:es.length<=75)(hn:n<10*SetTable.turns t.mask)(he:t.slot (way t hx n)=.empty)(hw:∀m,m<n->∃k,t.slot (way t hx m)=.live k)(QT:∀R:Bool->ZR->Prop,(∀b,R b s)->wpAny (model prog w) A (hashByValue 8 x) R E s){J:Nat}(hJ:way t hx n=J)(h:∀h' es',Heap.SameBut a s.heap h'->es'.Perm ((hx,x)::es)->aaH h' a es' t.led->Q L {s with heap:=h'}):
  wpAny (model prog w) A (do
   let (es,_,t) <-setState a
   let (t,p):=t.put J
   let byValue <-if t.plain then hashByValue 8 x else pure L
   let t:=if byValue then t else{t with plain:=Y}
   storeSet a (SetTable.insertAt es p (hx,x)) t
   if !Y&&t.tooFull then setRelay a (SetTable.grown (es.size+1))
   return L) Q E s:=by
 subst hJ;have hl:=T.len;rw[Z0]at hl;refine Z_ (YB ho hd (by simpa using T.fits (by lia)) ?_);dsimp only;obtain⟨t1,p,Iv,LX,LG,JY,ei,IV,T1⟩:=rT T hn he hw x;have Kg:=IV.length_eq;rw[cK]at Kg;rw[LX];dsimp only;rw[ei];have core:∀tb:SetTable,Tab tb (Iv.map (·.1))->tb.mask=t.mask->tb.led=t.led->wpAny (model prog w) A (do
   storeSet a Iv.toArray tb
   if(!Y&&tb.tooFull)=L then do
     setRelay a (SetTable.grown (es.toArray.size+1))
     pure L
    else pure L) Q E s:=λtb Tb mb lb=>by
  have Qd:=Tb.len;rw[Z0]at Qd;refine Z_ (Wy ho hd ?_ (by rw[Yk];simp[Kg];lia));have IF:=eI (es':=Iv.toArray) (t':=tb) ho hd;have Ki:Heap.SameBut a s.heap (s.heap.update a (Obj.putSet Iv.toArray tb)):=Ze s.heap a _;have tf:=Tb.full;cases JT:tb.tooFull with
  |false=>
   simp only[X8,XB,ZY,Zj];rw[JT]at tf;have:=X9 tf.symm;exact Z5 (h _ Iv Ki IV ⟨_,ep+1,tb,IF,hex,rfl,Tb,by lia,lb⟩)
  |true=>
   simp only[X8,Yd,Y8];rw[JT]at tf;have MD:=Zo tf.symm;rw[ZT,<-Kg];refine Z_ (xh (s:={s with heap:=s.heap.update a (Obj.putSet Iv.toArray tb)}) (o:={o with data:=.set Iv.toArray (ep+1) tb}) IF hex rfl Tb (by lia) (by lia) (by lia) (by lia) λLj t2 p2 S2=>?_);rw[lb]at S2;exact Z5 (h _ Lj (Ki.trans (Ze _ a _)) (p2.trans IV) S2)
 cases q_:t1.plain with
 |true=>
  simp only[Y8];exact Z_ (QT _ λb=>by cases b;exact core _ (T1.plain Y) LG JY;exact core _ T1 LG JY)
 |false=>
  simp only[ZY,Zj];exact Z_ (Z5 (core _ T1 LG JY))
end
section
def An(S:aaH s.heap a es led)(Mj:es.length<=75)(J5:Z3->Bool)(hrefs:∀e∈es,∃b,e.2=.ref b)(heq:∀e∈es,e.1=hx->SeqAt.EqAt A s e.2 (.ref b) (J5 e.2))(himp:∀e∈es,J5 e.2=L->e.1=hx)(Jv:∀l:Z9 Z3,(∀y∈l,∃e∈es,e.2=y)->∀Q:Bool->ZR->Prop,Q Y s->wpAny (model prog w) A (searchCouldBeSeen (.ref b) l) Q E s)(QT:∀R:Bool->ZR->Prop,(∀b,R b s)->wpAny (model prog w) A (hashByValue 8 (.ref b)) R E s)(h1:(∃e∈es,J5 e.2=L)->Q Y s)(h2:(∀e∈es,J5 e.2=Y)->∀h' es',Heap.SameBut a s.heap h'->es'.Perm ((hx,.ref b)::es)->aaH h' a es' led->Q L {s with heap:=h'}):
  wpAny (model prog w) A (setAddHashed a (.ref b) hx) Q E s:=by
 obtain⟨o,ep,t,ho,hex,hd,T,hf,H_⟩:=S;have hl:=T.len;rw[Z0]at hl;have ME:t.place.size<=t.mask:=by lia
 have J9:t.fits es.toArray.size=L:=by simpa using T.fits ME
 unfold setAddHashed setAddHashedIn;refine Y4 (Z_ (YB ho hd J9 ?_));dsimp only;have VR:byScan (.ref b) es.toArray=Y:=by unfold byScan Value.scannable;rfl
 rw[VR];simp only[ZY,Zj];unfold setSearch;by_cases MS:∃e∈es,J5 e.2=L
 .obtain⟨e,Pt,Pu⟩:=MS
  obtain⟨i,hi,rfl⟩:=YW.mp Pt;have hh:=himp _ Pt Pu;have Kx:i<t.place.size:=by lia
  obtain⟨N,n1,n2,n3⟩:=T.rch i es[i].1 t.place[i] (by simp[hi]) (by simp[Kx]);rw[hh]at n2 n3;refine Z_ (gQ ho hd T ME J5 hrefs heq Jv n1 n3 (.inr ⟨⟨i,es[i],by rw[n2];exact cR T.ris Kx,by simp[hi],hh,Pu⟩,?_⟩) (λ_=>?_) 100000 0 M (Zs _) ?_ rfl);exact Z5 (h1 ⟨_,Pt,Pu⟩);exact Z5 (h1 ⟨_,Pt,Pu⟩)
  .have:SetTable.turns t.mask<=142:=by unfold SetTable.turns;rcases T.msk with z|z|z<;>lia
   lia
 .have Ji:∀e∈es,J5 e.2=Y:=λe he=>by
   cases q:J5 e.2 with
   |false=>rfl
   |true=>exact absurd ⟨e,he,q⟩ MS
  obtain⟨N,n1,n2,n3⟩:=T.free ME hx;refine Z_ (gQ ho hd T ME J5 hrefs heq Jv n1 n3 (.inl ⟨n2,λe he _=>Ji e he,?_⟩) (λ⟨e,he,_,q⟩=>absurd ⟨e,he,q⟩ MS) 100000 0 M (Zs _) ?_ rfl);exact wX ho hex hd T hf Mj n1 n2 n3 QT rfl λh' es' k p S'=>h2 Ji h' es' k p (H_▸S')
  .have:SetTable.turns t.mask<=142:=by unfold SetTable.turns;rcases T.msk with z|z|z<;>lia
   lia
def mQ(T:Tab t hs)(hn:n<10*SetTable.turns t.mask)(he:t.slot (way t hx n)=.empty)(hw:∀m,m<n->∃k,t.slot (way t hx m)=.live k):
  t.freeSlot hx=U (way t hx n,Y):=by
 unfold SetTable.freeSlot;have:=(jm (t:=t) (hashAt:=λ_=>hx+1) (h:=hx) n (10*SetTable.turns t.mask) (t.probeStart hx) hn λm hm=>by
  obtain⟨k,hk⟩:=hw m hm;refine⟨k,hk,?_⟩;simp only[Wi,ne_eq];lia).1 he
 have e:t.probe (λ_=>hx+1) hx (t.probeStart hx)=U (.empty (way t hx n) M):=by
  unfold SetTable.probe;rw[this,ff];rfl
 rw[e];rfl
def wo(S:aaH s.heap a es led)(Mj:es.length<=75)(s_:(aB prog w).is k x=L)(Pe:x.scannable=L)(QN:ElemsOf (aB prog w) es)(h1:(∃e∈es,(aB prog w).is k e.2=L)->Q Y s)(h2:(∀e∈es,(aB prog w).is k e.2=Y)->∀h' es',Heap.SameBut a s.heap h'->es'.Perm (((aB prog w).hash k,x)::es)->aaH h' a es' led->Q L {s with heap:=h'}):
  wpAny (model prog w) A (setAddHashed a x ((aB prog w).hash k)) Q E s:=by
 obtain⟨o,ep,t,ho,hex,hd,T,hf,H_⟩:=S;have hl:=T.len;rw[Z0]at hl;have ME:t.place.size<=t.mask:=by lia
 have J9:t.fits es.toArray.size=L:=by simpa using T.fits ME
 have OD:ElemsOf (aB prog w) es.toArray.toList:=by simpa using QN
 unfold setAddHashed setAddHashedIn;refine Y4 (Z_ (YB ho hd J9 ?_));dsimp only;rw[byScan_of Pe (by unfold scanBound;simp;lia) OD];simp only[↓reduceIte];unfold setAddByScan;refine Z_ ?_;refine Z_ (YC ?_);refine Z_ (wpAny_setScan_of s_ ho hd J9 OD ?_);cases hr:List.findIdx? (λe=>(aB prog w).is k e.2) es.toArray.toList with
 |some j=>
  dsimp only;obtain⟨hj,Vl,_⟩:=List.findIdx?_eq_some_iff_getElem.mp hr;refine Z5 (Z5 (h1 ⟨es[j]'(by simpa using hj),Xh _,by simpa using Vl⟩))
 |none=>
  dsimp only;have Ji:∀e∈es,(aB prog w).is k e.2=Y:=λe he=>List.findIdx?_eq_none_iff.mp hr e (by simpa using he);obtain⟨n,n1,n2,n3⟩:=T.free ME ((aB prog w).hash k);generalize hhx:(aB prog w).hash k=hx at n1 n2 n3 h2⊢;obtain⟨t1,p,Iv,LX,LG,JY,ei,IV,T1⟩:=rT T n1 n2 n3 x;have Kg:=IV.length_eq;rw[cK]at Kg;have Nw:=T1.len;rw[Z0]at Nw;have RJ:layNew t es.toArray hx x=(Iv.toArray,t1,Y,Y):=by
   unfold layNew;rw[mQ T n1 n2 n3];dsimp only;rw[LX];dsimp only;rw[ei];unfold SetTable.orStandIn;rw[show t1.fits Iv.toArray.size=L by simpa using T1.fits (by lia)];rfl
  rw[RJ];dsimp only;refine Z_ (Z5 ?_);have core:∀tb:SetTable,Tab tb (Iv.map (·.1))->tb.mask=t.mask->tb.led=t.led->wpAny (model prog w) A (do
    storeSet a Iv.toArray tb
    if(!Y&&tb.tooFull)=L then do
      (match(relayAll tb Iv.toArray (SetTable.grown Iv.toArray.size)).2.2 with|true=>rule "set.scan.the-table-gave-way"|false=>pure ())
      storeSet a (relayAll tb Iv.toArray (SetTable.grown Iv.toArray.size)).1 (relayAll tb Iv.toArray (SetTable.grown Iv.toArray.size)).2.1
      pure (U L)
     else pure (U L)) (λr s'=>wpAny (model prog w) A (match r with|some added=>pure added|none=>setAddHashedIn a x hx 99999) Q E s') E s:=λtb Tb mb lb=>by
   have Qd:=Tb.len;rw[Z0]at Qd;refine Z_ (Wy ho hd ?_ (by rw[Yk];simp[Kg];lia));have IF:=eI (es':=Iv.toArray) (t':=tb) ho hd;have Ki:Heap.SameBut a s.heap (s.heap.update a (Obj.putSet Iv.toArray tb)):=Ze s.heap a _;have tf:=Tb.full;cases JT:tb.tooFull with
   |false=>
    simp only[X8,XB,ZY,Zj];rw[JT]at tf;have:=X9 tf.symm;exact Z5 (Z5 (h2 Ji _ Iv Ki IV ⟨_,ep+1,tb,IF,hex,rfl,Tb,by lia,lb.trans H_⟩))
   |true=>
    simp only[X8,Yd,Y8];rw[JT]at tf;have MD:=Zo tf.symm;obtain⟨Lj,t2,order,e1,e2,e3,e4,p1,e5,e6,e7⟩:=oO Tb (by lia) (by lia) (by lia);have c2:=e5.fits (by lia);rw[Z0]at c2;have er:relayAll tb Iv.toArray (SetTable.grown Iv.toArray.size)=(Lj.toArray,t2,Y):=by
     unfold relayAll;rw[ZT,e1];dsimp only;rw[e3,show coversAll order Iv.length=L by unfold coversAll;rw[List.isPerm_iff];exact e4,show t2.fits Lj.toArray.size=L by simpa using c2];rfl
    rw[er];refine Z_ (Z5 ?_);refine Z_ (Wy (s:={s with heap:=s.heap.update a (Obj.putSet Iv.toArray tb)}) (o:={o with data:=.set Iv.toArray (ep+1) tb}) IF rfl ?_ (by rw[Yk];have:=p1.length_eq;simp[this,Kg];lia));exact Z5 (Z5 (h2 Ji _ Lj (Ki.trans (Ze _ a _)) (p1.trans IV) ⟨_,ep+2,t2,eI (o:={o with data:=.set Iv.toArray (ep+1) tb}) IF rfl,hex,rfl,e5,e6,e7.trans (lb.trans H_)⟩))
  split;refine Z_ ?_;rw[hashByValue_scannable 8 Pe];refine Z5 ?_;cases plainKind x with
  |true=>exact core _ T1 LG JY
  |false=>exact core _ (T1.plain Y) LG JY
  exact Z_ (Z5 (core _ T1 LG JY))
end
def scD:D->Bool
 |.int _=>L
 |.str _=>L
 |_=>Y
abbrev El:=D×V×Z3
structure aaQ (K:Z6)(B:ZM->Prop)(H:Hp)(sc:Bool)(t:El):Prop where
 rep:Rep K B H t.1 t.2.1
 rel:RelV t.2.1 t.2.2
 has:aW 8 t.1=true
 sc:scD t.1=sc
abbrev elE(w:YM)(t:El):Int×Z3:=(cE w t.1,t.2.2)
def bR{O Z:Type}(f:O->Z):∀{l1 l2:Z9 Z},l1.Perm l2->∀l:Z9 O,l2=l.map f->∃l':Z9 O,l'.Perm l/\l1=l'.map f:=by
 intro l1 l2 p
 induction p with
 |nil=>intro l h;exact⟨l,Yy _,h⟩
 |cons x p ih=>
  intro l h;cases l with
  |nil=>cases h
  |cons a l=>
   simp only[Z1,Yg]at h;obtain⟨l',p',e'⟩:=ih l h.2;exact⟨a::l',List.Perm.cons a p',by rw[Z1,h.1,e']⟩
 |swap x y l0=>
  intro l h;cases l with
  |nil=>cases h
  |cons a l=>
   cases l with
   |nil=>cases h
   |cons b l=>
    simp only[Z1,Yg]at h;exact⟨b::a::l,List.Perm.swap a b l,by rw[Z1,Z1,h.1,h.2.1,h.2.2]⟩
 |trans p q Qq Qp=>
  intro l h;obtain⟨l2,p2,e2⟩:=Qp l h;obtain⟨l1,p1,e1⟩:=Qq l2 e2;exact⟨l1,p1.trans p2,e1⟩
section
variable{X:Cx}{pins:Z9 (ZM×Obj)}{σ:St}{H:Hp}{s:ZR}{B:ZM->Prop}{A:Za}{E:Z3->ZR->Prop}{a:ZM}{sc led:Bool}
theorem aaQ.raw(h:aaQ X.K B H sc t)(I:Inv X pins σ H s):RH s.heap t.1 t.2.2:=KR.raw I.hok (Rep.key h.has h.rep) h.rel
def oS(h:aaQ X.K B H Y t):∃b,t.2.1=.ref b/\t.2.2=.ref b:=by
 obtain⟨d,x,u⟩:=t;have r:=h.rep;have q:=h.rel;have hs:=h.sc;have hh:=h.has;cases d with
 |tup ds=>
  simp only[Rep]at r;obtain⟨b,xs,rfl,_⟩:=r;exact⟨b,rfl,q⟩
 |int i=>cases hs
 |str i=>cases hs
 |_=>simp[aW]at hh
def li:D->Key
 |.int i=>.inl i
 |.str x=>.inr x
 |_=>.inl 0
def rV(h:scD d=L)(h':scD e=L)(q:li d=li e):d=e:=by
 cases d<;>cases e<;>simp_all [scD,li]
def Bc(h:aaQ X.K B H L t):(aB X.prog X.w).is (li t.1) t.2.2=L/\t.2.2.scannable=L/\(aB X.prog X.w).hash (li t.1)=cE X.w t.1:=by
 obtain⟨d,x,u⟩:=t;have r:=h.rep;have q:=h.rel;have hs:=h.sc;cases d with
 |int i=>simp only[Rep]at r;subst r;obtain⟨tk,rfl⟩:=q;exact⟨f8 _ _ _ _,rfl,by simp only[cE];rfl⟩
 |str i=>simp only[Rep]at r;subst r;obtain⟨tk,rfl⟩:=q;exact⟨fQ _ _ _ _,rfl,by simp only[cE];rfl⟩
 |_=>cases hs
def Gm(h:aaQ X.K B H L t)(h':aaQ X.K B H L t'):(aB X.prog X.w).is (li t.1) t'.2.2=decide (t'.1=t.1):=by
 rw[KeyKind.is_eq_decide (Bc h').1];exact Ym.mpr ⟨λe=>rV h'.sc h.sc e.symm,λe=>by rw[e]⟩
def BJ(I:Inv X pins σ H s)(ht:aaQ X.K B H Y t)(l:Z9 Z3)(hl:∀y∈l,∃t':El,aaQ X.K B H Y t'/\t'.2.2=y)(hQ:Q Y s):wpAny (model X.prog X.w) A (searchCouldBeSeen t.2.2 l) Q E s:=by
 unfold searchCouldBeSeen;refine Z_ ?_;refine X4 _ (λaq b s'=>b.1=M/\s'=s/\∀y∈aq,∃t':El,aaQ X.K B H Y t'/\t'.2.2=y) _ ?_ ?_ _ _ ⟨rfl,rfl,hl⟩
 rintro y aq b s' ⟨hb,rfl,hr⟩
 have SE:∀z∈aq,∃t':El,aaQ X.K B H Y t'/\t'.2.2=z:=λz hz=>hr z (Z2 _ hz);obtain⟨t',h',rfl⟩:=hr y (ZW ..);obtain⟨c,_,hc⟩:=oS ht;obtain⟨c',_,MG⟩:=oS h';have q1:=ht.raw I;have q2:=h'.raw I;rw[hc]at q1⊢;rw[MG]at q2⊢;dsimp only;split;exact Z5 ⟨rfl,rfl,SE⟩;refine Z_ (mE 8 _ _ _ _ _ _ ht.has q1 ?_);simp only[YJ,ZY,Zj];refine Z_ (mE 8 _ _ _ _ _ _ h'.has q2 ?_);simp only[YJ,ZY,Zj];refine Z_ (uH 8 _ _ _ _ _ ht.has q1 ?_);simp only[ZY,Zj];refine Z_ (uH 8 _ _ _ _ _ h'.has q2 ?_);simp only[ZY,Zj];exact Z5 ⟨rfl,rfl,SE⟩
 rintro⟨b1,b2⟩ s' ⟨hb,rfl,_⟩
 simp only at hb;subst hb;exact Z5 hQ
def Ee(I:Inv X pins σ H s)(hA:A.units+32<cLine){ts:Z9 El}{Q:Bool->ZR->Prop}(S:aaH s.heap a (ts.map (elE X.w)) led)(Mj:ts.length<=75)(LN:∀t∈ts,aaQ X.K B H sc t)(ht:aaQ X.K B H sc t)(h:∀h' JC tk,s.toks<=tk->Heap.SameBut a s.heap h'->(JC=ts/\t.1∈ts.map (·.1)\/JC.Perm (t::ts)/\t.1∉ts.map (·.1))->aaH h' a (JC.map (elE X.w)) led->∀b,Q b {s with heap:=h',toks:=tk}):
  wpAny (model X.prog X.w) A (setAdd a t.2.2) Q E s:=by
 unfold setAdd;refine Y4 (Z_ ?_);refine xS 8 t.1 t.2.2 A s _ _ ht.has (by lia) (ht.raw I) ?_;have Mw:=Nat.le_add_right s.toks (dw t.1);generalize s.toks+dw t.1=tk at Mw⊢;have I':Inv X pins σ H {s with toks:=tk}:=I.tok tk;cases sc with
 |false=>
  obtain⟨b,_,hb⟩:=oS ht;have inj:∀t1∈ts,∀t2∈ts,t1.2.2=t2.2.2->t1.1=t2.1:=λt1 h1 t2 h2 e=>RH.inj ((LN t1 h1).raw I) (e▸(LN t2 h2).raw I);have S':aaH {s with toks:=tk}.heap a (ts.map (elE X.w)) led:=S
  open Classical in
  rw[hb];refine An (s:={s with toks:=tk}) (led:=led) (es:=ts.map (elE X.w)) S' (by simpa using Mj) (λv=>decide (∃t1∈ts,t1.2.2=v/\t1.1=t.1)) ?_ ?_ ?_ ?_ ?_ ?_ ?_;intro e he;obtain⟨t1,h1,rfl⟩:=ZV.mp he;obtain⟨b1,_,u1⟩:=oS (LN t1 h1);exact⟨b1,u1⟩;intro e he _;obtain⟨t1,h1,rfl⟩:=ZV.mp he;have:=Ge 8 t1.1 t.1 t1.2.2 t.2.2 A (LN t1 h1).has ht.has (by lia) ((LN t1 h1).raw I') (ht.raw I');rw[hb]at this;have e2:decide (∃t2∈ts,t2.2.2=t1.2.2/\t2.1=t.1)=decide (t1.1=t.1):=by
   apply Ym.mpr;constructor
   rintro⟨t2,h2,e1,e2⟩
   rw[<-inj t2 h2 t1 h1 e1];exact e2;exact λe=>⟨t1,h1,rfl,e⟩
  show SeqAt.EqAt A _ t1.2.2 (.ref b) (decide (∃t2∈ts,t2.2.2=t1.2.2/\t2.1=t.1));rw[e2];exact this;intro e he hq;obtain⟨t1,h1,rfl⟩:=ZV.mp he;obtain⟨t2,h2,e1,e2⟩:=Zo hq;show cE X.w t1.1=cE X.w t.1;rw[<-inj t2 h2 t1 h1 e1,e2];intro l hl Q' QY;have:=BJ (A:=A) (E:=E) I' ht l (λy hy=>by
   obtain⟨e,he,rfl⟩:=hl y hy;obtain⟨t1,h1,rfl⟩:=ZV.mp he;exact⟨t1,LN t1 h1,rfl⟩) QY
  rw[hb]at this;exact this;intro R hR;have:=Bh (P:=X.prog) (w:=X.w) 8 t.1 t.2.2 A R E ht.has (ht.raw I') hR;rw[hb]at this;exact this
  rintro⟨e,he,hq⟩
  obtain⟨t2,h2,e1,e2⟩:=Zo hq;exact h s.heap ts tk Mw (Heap.SameBut.refl a s.heap) (.inl ⟨rfl,ZV.mpr ⟨t2,h2,e2⟩⟩) S Y;intro Ji h' es' Ki hp S2;obtain⟨JC,pt,rfl⟩:=bR (elE X.w) hp (t::ts) (by rw[Z1];show _=(cE X.w t.1,t.2.2)::_;rw[hb]);refine h h' JC tk Mw Ki (.inr ⟨pt,λhm=>?_⟩) S2 L;obtain⟨t2,h2,e2⟩:=ZV.mp hm;have:=Ji (elE X.w t2) (ZV.mpr ⟨t2,h2,rfl⟩);exact absurd ⟨t2,h2,rfl,e2⟩ (X9 this)
 |true=>
  obtain⟨k1,k2,k3⟩:=Bc ht;rw[<-k3];refine wo (s:={s with toks:=tk}) (led:=led) (es:=ts.map (elE X.w)) S (by simpa using Mj) k1 k2 ?_ ?_ ?_;intro e he;obtain⟨t1,h1,rfl⟩:=ZV.mp he;obtain⟨a1,a2,a3⟩:=Bc (LN t1 h1);exact⟨⟨_,a1,a3.symm⟩,a2⟩
  rintro⟨e,he,hq⟩
  obtain⟨t1,h1,rfl⟩:=ZV.mp he;have hq:(aB X.prog X.w).is (li t.1) t1.2.2=L:=hq;rw[Gm ht (LN t1 h1)]at hq;exact h s.heap ts tk Mw (Heap.SameBut.refl a s.heap) (.inl ⟨rfl,ZV.mpr ⟨t1,h1,Zo hq⟩⟩) S Y;intro Ji h' es' Ki hp S2;rw[k3]at hp;obtain⟨JC,pt,rfl⟩:=bR (elE X.w) hp (t::ts) rfl;refine h h' JC tk Mw Ki (.inr ⟨pt,λhm=>?_⟩) S2 L;obtain⟨t1,h1,e1⟩:=ZV.mp hm;have hq:=Ji (elE X.w t1) (ZV.mpr ⟨t1,h1,rfl⟩);have hq:(aB X.prog X.w).is (li t.1) t1.2.2=Y:=hq;rw[Gm ht (LN t1 h1)]at hq;exact absurd e1 (X9 hq)
end
structure abX (X:Cx)(B:ZM->Prop)(H:Hp)(sc led:Bool)(h:Heap)(a:ZM)(done:List D)(ts:List El):Prop where
 at':aaH h a (ts.map (elE X.w)) led
 ok:∀t∈ts,aaQ X.K B H sc t
 nd:(ts.map (·.1)).Nodup
 mem:∀d,d∈ts.map (·.1)↔d∈done
def aaH.same(S:aaH h a es led)(k:∀o,h.get? a=U o->h'.get? a=U o):aaH h' a es led:=by
 obtain⟨o,ep,t,ho,r⟩:=S;exact⟨o,ep,t,k o ho,r⟩
def n5{l m:Z9 D}(hl:l.Nodup)(h:∀x∈l,x∈m):l.length<=m.length:=by
 induction l generalizing m with
 |nil=>exact Zs _
 |cons x l ih=>
  have hx:=h x (ZW ..);obtain⟨h1,h2⟩:=YS.mp hl;have:=ih (m:=m.erase x) h2 λy hy=>(List.mem_erase_of_ne (λ(e:y=x)=>h1 (e▸hy))).mpr (h y (Z2 _ hy));rw[List.length_erase_of_mem hx]at this;have:0<m.length:=List.length_pos_of_mem hx;rw[cK];lia
def b0:Z9 D->Z9 D
 |[]=>[]
 |d::ds=>if d∈ds then b0 ds else d::b0 ds
theorem aM(x:D):∀ds:Z9 D,x∈b0 ds↔x∈ds
 |[]=>Iff.rfl
 |d::ds=>by
  unfold b0;split;rename_i h;rw[aM x ds,ZZ];exact⟨.inr,λz=>z.elim (λe=>e▸h) id⟩;rw[ZZ,ZZ,aM x ds]
theorem bb:∀ds:Z9 D,(b0 ds).Nodup
 |[]=>Yt
 |d::ds=>by
  unfold b0;split;exact bb ds;rename_i h;exact YS.mpr ⟨λz=>h ((aM d ds).mp z),bb ds⟩
def cP(ds:Z9 D):(b0 ds).length<=ds.length:=n5 (bb ds) λx hx=>(aM x ds).mp hx
section
variable{X:Cx}{pins:Z9 (ZM×Obj)}{σ:St}{H:Hp}{s:ZR}{B:ZM->Prop}{A:Za}{sc led:Bool}{R:Result->ZR->Prop}{It:ZM}{fp wr:Z9 ZM}{G:Array GenState->Array GenState->Prop}{n:Nat}{P:Nat->Z3->Prop}{St:Nat->ZR->Prop}
def xu(I:Inv X pins σ H s)(hA:A.units+40<cLine)(W:WalksS X.prog X.w A.in1 It fp wr G n P St)(hG:∀a b,G a b->b=a)(S:ZM)(PB:S∉fp)(QX:s.heap.get? S=M)(U_:∀b∈wr,s.heap.get? b=M)(ds:Z9 D)(hn:ds.length=n)(N9:(b0 ds).length<=75)(Ov:∀i v d,P i v->ds[i]?=U d->∃x,aaQ X.K B H sc (d,x,v)):
  ∀(k i:Nat)(h:Heap)(tk:Nat)(ts:Z9 El),n - i=k->i<=n->St i {s with heap:=h,toks:=tk}->(∀b o,s.heap.get? b=U o->h.get? b=U o)->abX X B H sc led h S (ds.take i) ts->
   (∀h' Ma JC,(∀b o,s.heap.get? b=U o->h'.get? b=U o)->abX X B H sc led h' S ds JC->R (.ok (.ret .none)) {s with heap:=h',toks:=Ma})->
   codeAny (model X.prog X.w) A (.builtin "set.update.loop" ⟨[.ref S,.ref It],[]⟩) R {s with heap:=h,toks:=tk}:=by
 have Ti:S∉wr:=λh=>PB (W.sub _ h);have back:∀{h:Heap}{tk:Nat}{s':ZR},(∀b o,s.heap.get? b=U o->h.get? b=U o)->Moved wr G {s with heap:=h,toks:=tk} s'->s'={s with heap:=s'.heap,toks:=s'.toks}/\∀b o,s.heap.get? b=U o->s'.heap.get? b=U o:=λ{h tk s'} hk hm=>by
  have e1:s'.gens=s.gens:=hG _ _ hm.gens;have e2:s'.drawn=s.drawn:=hm.drawn;have e3:s'.os=s.os:=hm.os;refine⟨?_,λb o e=>?_⟩;obtain⟨h',g',d',t',o'⟩:=s';simp only at e1 e2 e3;subst e1;subst e2;subst e3;rfl;refine hm.heap b o (λhb=>?_) (hk b o e);rw[U_ b hb]at e;cases e
 intro k
 induction k with
 |zero=>
  intro i h tk ts hk hi IF JS hF hR;have JB:i=n:=by lia
  subst JB;refine YO F.entry_set_update_loop ?_;rw[Y7 V6 _];show wpAny _ A.in1 (pyNext (.ref It) >>= _) _ _ _;refine Z_ (W.done _ _ _ IF λs' hm=>?_);obtain⟨es,Jw⟩:=back JS hm;show wpAny _ A.in1 (ret Value.none) _ _ s';rw[es];refine Z5 (hR s'.heap s'.toks ts Jw ⟨hF.at'.same λo e=>hm.heap S o Ti e,hF.ok,hF.nd,λd=>?_⟩);rw[hF.mem d,<-hn,List.take_length]
 |succ k ih=>
  intro i h tk ts hk hi IF JS hF hR;have j_:i<n:=by lia
  refine YO F.entry_set_update_loop ?_;rw[Y7 V6 _];show wpAny _ A.in1 (pyNext (.ref It) >>= _) _ _ _;refine Z_ (W.item i _ _ _ j_ IF λv s' hP Ow hm=>?_);obtain⟨es,Jw⟩:=back JS hm;have QI:i<ds.length:=by lia
  obtain⟨x,hx⟩:=Ov i v ds[i] hP (by simp[QI]);have JZ:aaH s'.heap S (ts.map (elE X.w)) led:=hF.at'.same λo e=>hm.heap S o Ti e;have I':Inv X pins σ H {s with heap:=s'.heap,toks:=s'.toks}:=I.kept Jw;have Mj:ts.length<=75:=by
   have:=n5 hF.nd λd hd=>(aM d ds).mpr (XC ((hF.mem d).mp hd));rw[Z0]at this;lia
  show wpAny _ A.in1 (holding [v] (setAdd S v) >>= _) _ _ s';refine Z_ (Y4 ?_);rw[es]at Ow⊢;refine Ee (t:=(ds[i],x,v)) I' (by show A.units+1+32<cLine;lia) JZ Mj hF.ok hx λh' JC Ma Mw Ki Vm LW b=>?_;have Kq:∀b o,s.heap.get? b=U o->h'.get? b=U o:=λb o e=>by
   rw[Ki.2 b (λz=>by rw[z,QX]at e;cases e)];exact Jw b o e
  have F':abX X B H sc led h' S (ds.take (i+1)) JC:=by
   have Mn:ds.take (i+1)=ds.take i++[ds[i]]:=by rw[List.take_succ];simp[QI]
   rcases Vm with⟨rfl,LH⟩|⟨hp,LH⟩;refine⟨LW,hF.ok,hF.nd,λd=>?_⟩;rw[hF.mem d,Mn,Zr,Zv];constructor;exact .inl
   rintro(h|rfl)
   exact h;exact(hF.mem _).mp LH;have LP:=hp.map (·.1);rw[Z1]at LP;refine⟨LW,λt ht=>?_,?_,λd=>?_⟩;rcases ZZ.mp (hp.mem_iff.mp ht)with rfl|h;exact hx;exact hF.ok t h;rw[LP.nodup_iff,YS];exact⟨LH,hF.nd⟩;rw[LP.mem_iff,ZZ,hF.mem d,Mn,Zr,Zv];exact Or.comm
  refine Z5 ⟨Ys V6 _,ih (i+1) h' Ma JC (by lia) j_ ?_ Kq F' hR⟩;exact W.frame _ {s with heap:=s'.heap,toks:=s'.toks} _ _ Ow Mw λb hb o e=>by
   rw[Ki.2 b (λh:b=S=>PB (by rw[<-h];exact hb))];exact e
end
abbrev cL(w:YM):Bool:=!w.params.followText "set-order"
abbrev dx(led:Bool):Obj:={cls:=.type "set",dict:=M,data:=.set #[] 0 (.fresh 0 0 led)}
section
def jS(a:Z3)(h:Q₁ (.ref s.z) {s with heap:=s.heap.push (dx (cL w))}):
  codeAny (model prog w) A (.call (.builtin "set.__new__") ⟨[.type "set",a],[]⟩) (wants Q₁ E) s:=by
 refine codeAny_of_tree ?_;show wpAny _ A.in1 (do checkBuiltinCall "set.__new__" ⟨[.type "set",a],[]⟩;again (.builtin "set.__new__" ⟨[.type "set",a],[]⟩)) _ _ s;refine Z_ (V_ (F.newCall_set_1 a) (Z5 ⟨Ys F.plain_set_new _,YO F.entry_set_new ?_⟩));rw[Y7 F.plain_set_new _];unfold Builtin.«set.__new__» Builtin.Frozenset.newClass;have Lo:=sub_set_self;obtain⟨hp,g,d,tk,os⟩:=s;dsimp only
 wp_walk
 refine Xu (Z5 ?_);dsimp only;simp only[newObj];refine Z_ (wpAny_alloc (Z5 ?_));exact Z5 h
end
section
variable{X:Cx}{A:Za}
def wn(e:h.get? a=U (dx (cL X.w))):abX X B H sc (cL X.w) h a [] []:=
 ⟨⟨_,0,_,e,⟨rfl,rfl,rfl⟩,rfl,Tab.fresh _ _ _,by simp[SetTable.fresh],rfl⟩,λt ht=>by simp at ht,Yt,λd=>Iff.rfl⟩
def qK(I:Inv X pins σ H s)(hh:A.handled=M)(hA:A.units+50<cLine)(hl:s.heap.IsList l items)(ds:Z9 D)(hlen:ds.length=items.size)(N9:(b0 ds).length<=75)(QN:∀(i:Nat) v d,items[i]?=U v->ds[i]?=U d->∃x,aaQ X.K B H sc (d,x,v))(h:∀(h':Heap)(tk:Nat) ts,(∀b o,s.heap.get? b=U o->h'.get? b=U o)->abX X B H sc (cL X.w) h' s.z ds ts->Q (.ref s.z) {s with heap:=h',toks:=tk}):
  wpAny (model X.prog X.w) A (call (.type "set") [.ref l]) Q E s:=by
 obtain⟨c,tl,hmro⟩:=Xr.mro;have TU:=Xr.made;have Lo:=Xr.sub;refine wpAny_call (codeAny_of_tree ?_);show wpAny _ _ (callAny (.type "set") _) _ _ _;refine Z5 ⟨Code.quiet_builtin _ (by decide +kernel),YO F.entry_type_call ?_⟩;rw[Around.under_plain (weight_type_call_type "set" [.ref l] []) rfl];have h1:=Xr.notType;have h2:=Xr.canCreate;have hct:=F.typeCall_set_1 (.ref l)
 repeat (any_goals (first|assumption|wp_step))
 refine WO (jS (.ref l) (E:=E) (Q₁:=λobj g_=>obj=.ref s.z/\g_={s with heap:=s.heap.push (dx (cL X.w))}) ⟨rfl,rfl⟩) λr g_ hr=>?_;cases r with
 |error e=>exact hr
 |ok fl=>
  cases fl with
  |ret obj=>
   obtain⟨rfl,rfl⟩:=hr;have hS:(s.heap.push (dx (cL X.w))).get? s.z=U (dx (cL X.w)):=ZN _ rfl;have hT:Shared.TypeIs {s with heap:=s.heap.push (dx (cL X.w))} (.ref s.z) "set":=⟨_,hS,rfl⟩
   have hli:=Xr.init.lookup;have hbi:=Xr.init.bind (.ref s.z)
   repeat (any_goals (first|assumption|wp_step))
   refine WO (codeAny_call_builtin (R:=wants (λr a_=>r=.none/\∃h' tk ts,a_={s with heap:=h',toks:=tk}/\abX X B H sc (cL X.w) h' s.z ds ts/\
     (∀b o,s.heap.get? b=U o->h'.get? b=U o)) E) Xr.init.plain F.entry_set_init (check_set_init_1 hT ?_)) λRf a_ LB=>?_
   .obtain⟨ol,Mx,JV,nl,Px⟩:=hl
    obtain⟨ocls,OH,TQ,Nc⟩:=ol;simp only at JV Px;subst JV;subst Px;have Rv:(s.heap.push (dx (cL X.w))).get? l=U {cls:=.type "list",dict:=OH,data:=.seq items nl,slots:=Nc}:=Z4 _ Mx;have hsls:=F.sub_list_set;have hslf:=F.sub_list_frozenset;have y_:(Value.type "list"==Value.type "dict")=Y:=by decide
    have JY:(s.heap.push (dx (cL X.w))).IsList l items:=⟨_,Rv,rfl,nl,rfl⟩;unfold Builtin.«set.__init__» noKeywords Builtin.Frozenset.updateFrom;generalize hPI:pyIter=PI
    wp_walk
    subst hPI;refine Xf JY ?_;refine Z_ (wpAny_runValue ?_);have SS:l<s.z:=ZQ Mx;have VF:A.in1.in1.in1.handled=M:=by simp[hh]
    have Rz:l≠(s.heap.push (dx (cL X.w))).objs.size:=by
     rw[YE];exact Zt (Nat.lt_succ_of_lt SS)
    have PB:s.z∉[(s.heap.push (dx (cL X.w))).objs.size,l]:=by
     rw[YE];simp only[ZZ,Zv,Zm,YA,Xm];exact⟨Zt (Yl _),Nat.ne_of_gt SS⟩
    have Mo:∀b,s.z<=b->s.heap.get? b=M:=λb hb=>by
     cases q:s.heap.get? b with
     |none=>rfl
     |some o=>exact absurd (ZQ q) (Nat.not_lt.mpr hb)
    refine xu (s:=s) (X:=X) (σ:=σ) (pins:=pins) (H:=H) (B:=B) (sc:=sc) (led:=cL X.w) I ?_ ((Walks.list VF _ l Rz items).toS) ?_ s.z
     PB (Mo _ (ZU _)) ?_ ds hlen N9 (λi v d hv hd=>QN i v d hv hd) (items.size - 0) 0 _ s.toks [] (by lia) (Zs _)
     ⟨⟨_,ZN _ rfl,rfl,rfl⟩,(JY.push _)⟩ (λb o e=>Z4 _ (Z4 _ e)) ?_ ?_
    show A.units+1+1+40<cLine;lia;intro a b e;exact e;intro b hb;simp only[Zv]at hb;rw[hb,YE];exact Mo _ (WT _);exact wn (Z4 _ hS);intro h' Ma ts hk hF;show wpAny _ _ _ _ _ _;refine Z5 ?_;show wpAny _ _ (ret Value.none) _ _ _;exact Z5 ⟨rfl,h',Ma,ts,rfl,hF,hk⟩
   .cases Rf with
    |error e=>exact LB
    |ok OP=>
     cases OP with
     |ret r=>
      obtain⟨rfl,h',tk,ts,rfl,hF,hk⟩:=LB
      repeat (any_goals (first|assumption|wp_step))
      exact h _ _ _ hk hF
     |_=>exact LB.elim
  |_=>exact hr.elim
end
def aD:Slot "set_iterator" "__next__" "set_iterator.__next__":=
 .of (owner:="set_iterator") (n:="__next__") (by rw[W3,Xz];kernel_rfl) (by decide +kernel) (by decide +kernel) (by decide +kernel)
  (by first|exact .inl (by decide +kernel)|exact .inr (by decide +kernel)) (by rw[V7];kernel_rfl)
def bJ:entryFor table "set_iterator.__next__"=U Builtin.«set_iterator.__next__»:=entryFor_of_tree (by kernel_rfl)
def fw:Slot "set_iterator" "__iter__" "set_iterator.__iter__":=
 .of (owner:="set_iterator") (n:="__iter__") (by rw[W3,Xz];kernel_rfl) (by decide +kernel) (by decide +kernel) (by decide +kernel)
  (by first|exact .inl (by decide +kernel)|exact .inr (by decide +kernel)) (by rw[V7];kernel_rfl)
def i0:entryFor table "set_iterator.__iter__"=U Builtin.«dict_keyiterator.__iter__»:=
 entryFor_alias (id':="dict_keyiterator.__iter__") (by kernel_rfl) rfl (by decide +kernel) (by kernel_rfl)
def gG:entryFor table "set.__iter__"=U Builtin.«frozenset.__iter__»:=
 entryFor_alias (id':="frozenset.__iter__") (by kernel_rfl) rfl (by decide +kernel) (by kernel_rfl)
def bQ(a:Z3):argsOk "set_iterator.__next__" ⟨[a],[]⟩:=by
 unfold argsOk;kernel_rfl
def kR(a:Z3):argsOk "set_iterator.__iter__" ⟨[a],[]⟩:=by
 unfold argsOk;kernel_rfl
def cm{q:Type}{l:Z9 q}{i:Nat}(h:i<l.length):(l[i]::l.eraseIdx i).Perm l:=by
 rw[Xj];refine List.perm_middle.symm.trans ?_;rw[<-Zn h,X7]
theorem iH{q:Type}:∀(n:Nat)(xs:Z9 q)(s:ZR)(Q:Z9 q->ZR->Prop),xs.length=n->
  (∀ys d,ys.Perm xs->Q ys {s with drawn:=d})->wpAny (model prog w) A (drawOrder n xs) Q E s
 |0,xs,s,Q,hl,hQ=>by
  have:xs=[]:=XS.mp hl;subst this;unfold drawOrder;exact Z5 (hQ [] s.drawn (Yy _))
 |n+1,[],s,Q,hl,hQ=>by cases hl
 |n+1,x::xs,s,Q,hl,hQ=>by
  unfold drawOrder;refine Z_ (Q:=Q) ?_;intro Γ p hΓ;refine⟨by simp,?_⟩;generalize hd:s.drawn.bump .order=d1;generalize hi:(model prog w).w.draws .order (s.drawn.get .order)%(x::xs).length=i;have j_:i<(x::xs).length:=by rw[<-hi];exact WE _ (by simp)
  have key:wpAny (model prog w) A (match(x::xs)[i]? with|some y=>(do return y::(<-drawOrder n ((x::xs).eraseIdx i)))|none=>unsupported "internal:drawOrder") Q E {s with drawn:=d1}:=by
   rw[YU j_];dsimp only;refine Z_ (iH n ((x::xs).eraseIdx i) _ _ (by rw[List.length_eraseIdx_of_lt j_,hl];rfl) λys d hp=>?_);refine Z5 (hQ _ d ?_);exact(List.Perm.cons _ hp).trans (cm j_)
  exact key
theorem tj{q:Type}(f:Nat->Nat):∀(fuel k:Nat)(left:Z9 q)(out:Array q),fuel=left.length->(pickOrder.go f fuel k left out).toList.Perm (out.toList++left)
 |0,k,left,out,h=>by
  have:left=[]:=XS.mp h.symm;subst this;unfold pickOrder.go;simp
 |fuel+1,k,left,out,h=>by
  unfold pickOrder.go;have j_:f k%left.length<left.length:=WE _ (by lia);rw[YU j_];dsimp only;refine(tj f fuel (k+1) _ _ (by rw[List.length_eraseIdx_of_lt j_];lia)).trans ?_;rw[YD,Zd];exact List.Perm.append_left _ (cm j_)
def gv{q:Type}(f:Nat->Nat)(xs:Array q):(pickOrder f xs).toList.Perm xs.toList:=by
 unfold pickOrder;simpa using tj f xs.size 0 xs.toList #[] (by simp)
structure aaw (h:Heap)(S:ZM)(es:List (Int×Z3))(ep:Nat)(t:SetTable):Prop where
 ob:∃o,h.get? S=some o/\o.ExactSet/\o.data=.set es.toArray ep t
 tab:Tab t (es.map (·.1))
 few:t.place.size<=t.mask
theorem aaw.fits(x:aaw h S es ep t):t.fits es.toArray.size=L:=by simpa using x.tab.fits x.few
def aaw.at{h h':Heap}(x:aaw h S es ep t)(k:∀o,h.get? S=U o->h'.get? S=U o):aaw h' S es ep t:=by
 obtain⟨⟨o,ho,r⟩,a,b⟩:=x;exact⟨⟨o,k o ho,r⟩,a,b⟩
def aav(h:Heap)(I:ZM)(first:Z3)(i:Nat)(S:ZM)(n ep:Nat):Prop:=∃o,h.get? I=U o/\o.cls=.type "set_iterator"/\o.data=.fields #[first,rawInt i,.ref S,rawInt n,rawInt ep]
def aav.typeIs{s:ZR}(x:aav s.heap I first i S n ep):s.TypeIs (.ref I) "set_iterator":=by
 obtain⟨o,ho,hc,_⟩:=x;exact⟨o,ho,hc⟩
def aav.at{h h':Heap}(x:aav h I first i S n ep)(k:∀o,h.get? I=U o->h'.get? I=U o):aav h' I first i S n ep:=by
 obtain⟨o,ho,r⟩:=x;exact⟨o,k o ho,r⟩
section
variable{A:Za}{s:ZR}{es:Z9 (Int×Z3)}
def fC{sl nx:Nat}{v:Z3}{Q:Z8 Z3->ZR->Prop}(y_:S≠I)(it:aav s.heap I (rawInt sl) i S es.length ep)(st:aaw s.heap S es ep t)
  (hn:∀(s:ZR)(R:Z8 (Z3×Nat)->ZR->Prop)(E:Z3->ZR->Prop),aaw s.heap S es ep t->R (U (v,nx)) s->wpAny (model prog w) A.in1 (setNext S sl i ep) R E s)
  (hQ:∀h',aav h' I (rawInt nx) (i+1) S es.length ep->(∀b o,b≠I->s.heap.get? b=U o->h'.get? b=U o)->Q (U v) {s with heap:=h'}):wpAny (model prog w) A (pyNext (.ref I)) Q E s:=by
 have hT:=it.typeIs;obtain⟨o,ho,hc,hd⟩:=it;unfold pyNext;refine Z_ (XO (Yx (name:=Str.ofString "__next__") hT aD (YV aD hT bJ ?_ (bQ _))));unfold Builtin.«set_iterator.__next__»;refine Z_ (m:=slotArgs "__next__" 0 _) (Z5 ?_);dsimp only;refine Z_ (WL ho hd ?_);dsimp only[rawInt];obtain⟨os,IK,hex,Jc⟩:=st.ob;refine Z_ (Xn IK Jc st.fits ?_);refine dM (by simp) ?_;simp only[Int.toNat_natCast];refine Z_ (hn s _ _ st ?_);dsimp only;refine Z_ (Ye ho hd (by simp) ?_);have g1:=Zh (Obj.mapFields (·.setIfInBounds 0 (rawInt nx))) ho (XY (Y3 hd _));refine Z_ (Ye g1 (Y3 hd _) (by simp) ?_);have g2:=Zh (Obj.mapFields (·.setIfInBounds 1 (rawInt ((i:Int)+1)))) g1 (XY (Y3 (Y3 hd _) _));refine Z5 ⟨_,rfl,Z5 (hQ _ ?_ ?_)⟩;exact⟨_,g2,(Xe ..).trans ((Xe ..).trans hc),by rw[Y3 (Y3 hd _)];simp[rawInt]⟩;intro b o' hb e;exact(Zk _ _ (Zy hb)).trans ((Zk _ _ (Zy hb)).trans e)
def jb{ps:Z9 Nat}{Q:Z8 Z3->ZR->Prop}(y_:S≠I)(it:aav s.heap I (.ref T) i S es.length ep)(st:aaw s.heap S es ep t)(ht:∃o n,s.heap.get? T=U o/\o.data=.seq (ps.map λ(k:Nat)=>rawInt k).toArray n)(hp:ps[i]?=U p)(he:es[p]?=U e)(hQ:∀h',aav h' I (.ref T) (i+1) S es.length ep->(∀b o,b≠I->s.heap.get? b=U o->h'.get? b=U o)->Q (U e.2) {s with heap:=h'}):wpAny (model prog w) A (pyNext (.ref I)) Q E s:=by
 have hT:=it.typeIs;obtain⟨o,ho,hc,hd⟩:=it;unfold pyNext;refine Z_ (XO (Yx (name:=Str.ofString "__next__") hT aD (YV aD hT bJ ?_ (bQ _))));unfold Builtin.«set_iterator.__next__»;refine Z_ (m:=slotArgs "__next__" 0 _) (Z5 ?_);dsimp only;refine Z_ (WL ho hd ?_);dsimp only[rawInt];obtain⟨os,IK,hex,Jc⟩:=st.ob;refine Z_ (Xn IK Jc st.fits ?_);refine dM (by simp) ?_;simp only[Int.toNat_natCast];obtain⟨oT,nT,QE,QO⟩:=ht;refine Z_ (Yw QE QO ?_);dsimp only;have e1:(ps.map λ(k:Nat)=>rawInt k).toArray[i]?=U (rawInt p):=by simp[hp]
 rw[e1];dsimp only[rawInt];simp only[Int.toNat_natCast];refine Z_ ?_;unfold setNextDrawn;refine Z_ (YB IK Jc st.fits ?_);dsimp only;refine dM (by simp) ?_;have e2:es.toArray[p]?=U e:=by simp[he]
 rw[e2];dsimp only;refine Z5 ?_;refine Z_ (Ye ho hd (by simp) ?_);have g2:=Zh (Obj.mapFields (·.setIfInBounds 1 (rawInt ((i:Int)+1)))) ho (XY (Y3 hd _));refine Z5 ⟨_,rfl,Z5 (hQ _ ?_ ?_)⟩;exact⟨_,g2,(Xe ..).trans hc,by rw[Y3 hd];simp[rawInt]⟩;intro b o' hb e;exact(Zk _ _ (Zy hb)).trans e
def gK{sl:Nat}{Q:Z8 Z3->ZR->Prop}(hh:A.handled=M)(it:aav s.heap I (rawInt sl) i S es.length ep)(st:aaw s.heap S es ep t)
  (hn:∀(s:ZR)(R:Z8 (Z3×Nat)->ZR->Prop)(E:Z3->ZR->Prop),aaw s.heap S es ep t->R M s->wpAny (model prog w) A.in1 (setNext S sl i ep) R E s)
  (hQ:∀h',(∀b o,b≠I->s.heap.get? b=U o->h'.get? b=U o)->Q M {s with heap:=h'}):wpAny (model prog w) A (pyNext (.ref I)) Q E s:=by
 have hT:=it.typeIs;obtain⟨o,ho,hc,hd⟩:=it;unfold pyNext;refine Z_ (XO (Yx (name:=Str.ofString "__next__") hT aD (YV aD hT bJ ?_ (bQ _))));unfold Builtin.«set_iterator.__next__»;refine Z_ (m:=slotArgs "__next__" 0 _) (Z5 ?_);dsimp only;refine Z_ (WL ho hd ?_);dsimp only[rawInt];obtain⟨os,IK,hex,Jc⟩:=st.ob;refine Z_ (Xn IK Jc st.fits ?_);refine dM (by simp) ?_;simp only[Int.toNat_natCast];refine Z_ (hn s _ _ st ?_);dsimp only;refine Z_ (Ye ho hd (by simp) ?_);refine Z_ ?_;simp only[newExc,newTuple];refine Z_ (Y1 ?_ (by size_fits));refine Z_ (m:=firstArgMember _ _) (V_ (a:=Value.none) (by first|rfl|(simp only[firstArgMember];rfl)) ?_);refine Y1 ?_ (by size_fits);simp only[raiseNew];refine Z_ (wpAny_handled ?_);rw[show A.in1.handled=M from hh];refine Z_ (Z5 (wpAny_throw ?_));refine Z_ (X5 (T:="StopIteration") (b:=L) ⟨_,ZN _ rfl,rfl⟩ WK ?_);exact Z5 (hQ _ λb o' hb e=>Z4 _ (Z4 _ ((Zk _ _ (Zy hb)).trans e)))
def j7{ps:Z9 Nat}{Q:Z8 Z3->ZR->Prop}(hh:A.handled=M)(it:aav s.heap I (.ref T) i S es.length ep)(st:aaw s.heap S es ep t)(ht:∃o n,s.heap.get? T=U o/\o.data=.seq (ps.map λ(k:Nat)=>rawInt k).toArray n)(hp:ps[i]?=M)(hQ:∀h',(∀b o,b≠I->s.heap.get? b=U o->h'.get? b=U o)->Q M {s with heap:=h'}):wpAny (model prog w) A (pyNext (.ref I)) Q E s:=by
 have hT:=it.typeIs;obtain⟨o,ho,hc,hd⟩:=it;unfold pyNext;refine Z_ (XO (Yx (name:=Str.ofString "__next__") hT aD (YV aD hT bJ ?_ (bQ _))));unfold Builtin.«set_iterator.__next__»;refine Z_ (m:=slotArgs "__next__" 0 _) (Z5 ?_);dsimp only;refine Z_ (WL ho hd ?_);dsimp only[rawInt];obtain⟨os,IK,hex,Jc⟩:=st.ob;refine Z_ (Xn IK Jc st.fits ?_);refine dM (by simp) ?_;simp only[Int.toNat_natCast];obtain⟨oT,nT,QE,QO⟩:=ht;refine Z_ (Yw QE QO ?_);dsimp only;have e1:(ps.map λ(k:Nat)=>rawInt k).toArray[i]?=M:=by simpa using hp
 rw[e1];dsimp only;refine Z_ (Ye ho hd (by simp) ?_);have g1:=Zh (Obj.mapFields (·.setIfInBounds 0 (rawInt 0))) ho (XY (Y3 hd _));refine Z_ (Ye g1 (Y3 hd _) (by simp) ?_);refine Z_ ?_;simp only[newExc,newTuple];refine Z_ (Y1 ?_ (by size_fits));refine Z_ (m:=firstArgMember _ _) (V_ (a:=Value.none) (by first|rfl|(simp only[firstArgMember];rfl)) ?_);refine Y1 ?_ (by size_fits);simp only[raiseNew];refine Z_ (wpAny_handled ?_);rw[show A.in1.handled=M from hh];refine Z_ (Z5 (wpAny_throw ?_));refine Z_ (X5 (T:="StopIteration") (b:=L) ⟨_,ZN _ rfl,rfl⟩ WK ?_);exact Z5 (hQ _ λb o' hb e=>Z4 _ (Z4 _ ((Zk _ _ (Zy hb)).trans ((Zk _ _ (Zy hb)).trans e))))
def lU{Q:Z3->ZR->Prop}(it:aav s.heap I first i S n ep)(hQ:Q (.ref I) s):wpAny (model prog w) A (pyIter (.ref I)) Q E s:=by
 refine wpAny_pyIter_slot it.typeIs fw (YV fw it.typeIs i0 ?_ (kR _));show wpAny _ _ (ret (.ref I)) _ _ s;exact Z5 ⟨_,rfl,"set_iterator",_,it.typeIs,aD.lookup,hQ⟩
end
section
variable{w:YM}{s:ZR}
theorem iO(a:ZM)(slot given Jl:Nat):setNext a slot given Jl=(do
  let (es,OQ,t) <-setState a
  if <-setsByText then
   if OQ != Jl then unsupported "set_iterator.__next__:elements-changed"
   return ((<-setWalk a)[given]?).map λe=>(e.2,slot)
  if !t.plain&&es.size>1 then unsupported "set_iterator.__next__:the-table-is-plain-no-more"
  (if(!t.led&&!es.isEmpty)=L then unsupported "set:maker-not-led" else pure ():Sem Unit)
  let i:=SetTable.below t.place slot
  return match es[i]?,t.place[i]? with
   |some (_,x),some j=>U (x,j+1)
   |_,_=>M):=rfl
def jT(hb:w.params.followText "set-order"=L)(st:aaw s.heap S es ep t)(h:R (((pickOrder (w.params.setOrder S ep) es.toArray)[i]?).map λe=>(e.2,sl)) s):wpAny (model prog w) A (setNext S sl i ep) R E s:=by
 obtain⟨os,IK,hex,Jc⟩:=st.ob;rw[iO];refine Z_ (YB IK Jc st.fits ?_);dsimp only;unfold setsByText;refine Z_ (Z_ (Xu (Z5 ?_)));show wpAny _ _ (if w.params.followText "set-order"=L then _ else _) _ _ _;rw[ZO hb,ZJ (by simp)];refine Z_ ?_;unfold setWalk setsByText;refine Z_ (YB IK Jc st.fits ?_);dsimp only;refine Z_ (Z_ (Xu (Z5 ?_)));show wpAny _ _ (if w.params.followText "set-order"=L then _ else _) _ _ _;refine eS hb ?_;refine Z_ (Xu (Z5 ?_));exact Z5 h
def lf(hb:w.params.followText "set-order"=Y)(st:aaw s.heap S es ep t)(H_:t.led=L)(q_:(!t.plain&&decide (es.toArray.size>1))=Y)(h:R (match es.toArray[SetTable.below t.place sl]?,t.place[SetTable.below t.place sl]? with|some (_,x),some j=>U (x,j+1)|_,_=>M) s):wpAny (model prog w) A (setNext S sl i ep) R E s:=by
 obtain⟨os,IK,hex,Jc⟩:=st.ob;rw[iO];refine Z_ (YB IK Jc st.fits ?_);dsimp only;unfold setsByText;refine Z_ (Z_ (Xu (Z5 ?_)));show wpAny _ _ (if w.params.followText "set-order"=L then _ else _) _ _ _;rw[ZJ (by rw[hb];exact Zl),ZJ (by rw[q_];exact Zl),ZJ (by rw[H_];simp)];refine Z_ (Z5 ?_);exact Z5 h
end
def lC(t:SetTable)(i:Nat):Nat:=match i with|0=>0|k+1=>t.place.getD k 0+1
def pF(T:Tab t hs):SetTable.below t.place 0=0:=by
 obtain⟨h1,h2,h3⟩:=eA T.ris 0;rcases Nat.eq_zero_or_pos (SetTable.below t.place 0)with z|z;exact z;have:=h1 0 (by lia) z;exact absurd this (Xw _)
def fv(T:Tab t hs)(hi:i<=t.place.size):SetTable.below t.place (lC t i)=i:=by
 cases i with
 |zero=>exact pF T
 |succ k=>
  have hk:k<t.place.size:=by lia
  show SetTable.below t.place (t.place.getD k 0+1)=k+1;have:t.place.getD k 0=t.place[k]:=by simp[Array.getD,hk]
  rw[this];exact pC T.ris hk
section
variable{w:YM}{A:Za}{E:Z3->ZR->Prop}{s:ZR}{es:Z9 (Int×Z3)}{t:SetTable}
def qG(hb:w.params.followText "set-order"=L)(hh:A.handled=M)(y_:S≠I):Walks prog w A I [I,S] [I] es.length (λi v=>((pickOrder (w.params.setOrder S ep) es.toArray).toList.map (·.2))[i]?=U v)
  (λi h=>aav h I (rawInt 0) i S es.length ep/\aaw h S es ep t) where
 sub:=λb hb=>by simp at hb;simp[hb]
 frame:=λ_ _ _ st hk=>⟨st.1.at λo e=>hk I (by simp) o e,st.2.at λo e=>hk S (by simp) o e⟩
 item:=λi s Q E hi st hQ=>by
  have hl:(pickOrder (w.params.setOrder S ep) es.toArray).toList.length=es.length:=by have:=(gv (w.params.setOrder S ep) es.toArray).length_eq;simpa using this
  have k_:i<(pickOrder (w.params.setOrder S ep) es.toArray).size:=by rw[<-Array.length_toList];lia
  refine fC (sl:=0) (nx:=0) (v:=((pickOrder (w.params.setOrder S ep) es.toArray)[i]).2) y_ st.1 st.2 (λs R E f_ hR=>jT hb f_ (by rw[Zb k_];exact hR)) λh' Lg k=>?_;exact hQ _ h' s.toks (by simp[k_]) ⟨Lg,st.2.at λo e=>k S o y_ e⟩ λb o hb e=>k b o (λz=>hb (by simp[z])) e
 done:=λs Q E st hQ=>by
  have hl:(pickOrder (w.params.setOrder S ep) es.toArray).size=es.length:=by have:=(gv (w.params.setOrder S ep) es.toArray).length_eq;simpa using this
  exact gK hh st.1 st.2 (λs R E f_ hR=>jT hb f_ (by rw[XJ (by lia)];exact hR)) λh' k=>hQ h' s.toks λb o hb e=>k b o (λz=>hb (by simp[z])) e
 self:=λ_ _ _ _ st hQ=>lU st.1 hQ
def pN(hb:w.params.followText "set-order"=Y)(H_:t.led=L)(q_:(!t.plain&&decide (es.toArray.size>1))=Y)(hh:A.handled=M)(y_:S≠I):Walks prog w A I [I,S] [I] es.length (λi v=>(es.map (·.2))[i]?=U v)
  (λi h=>aav h I (rawInt (lC t i)) i S es.length ep/\aaw h S es ep t) where
 sub:=λb hb=>by simp at hb;simp[hb]
 frame:=λ_ _ _ st hk=>⟨st.1.at λo e=>hk I (by simp) o e,st.2.at λo e=>hk S (by simp) o e⟩
 item:=λi s Q E hi st hQ=>by
  have hl:=st.2.tab.len;rw[Z0]at hl;have Kx:i<t.place.size:=by lia
  refine fC (sl:=lC t i) (nx:=lC t (i+1)) (v:=es[i].2) y_ st.1 st.2 (λs R E f_ hR=>lf hb f_ H_ q_ (by
   rw[fv st.2.tab (by lia)];rw[show es.toArray[i]?=U es[i] by simp[hi],Zb Kx];dsimp only;have:lC t (i+1)=t.place[i]+1:=by show t.place.getD i 0+1=_;simp[Array.getD,Kx]
   rw[this]at hR;exact hR)) λh' Lg k=>?_
  exact hQ _ h' s.toks (by simp[hi]) ⟨Lg,st.2.at λo e=>k S o y_ e⟩ λb o hb e=>k b o (λz=>hb (by simp[z])) e
 done:=λs Q E st hQ=>by
  have hl:=st.2.tab.len;rw[Z0]at hl;exact gK hh st.1 st.2 (λs R E f_ hR=>lf hb f_ H_ q_ (by
   rw[fv st.2.tab (by lia)];rw[show es.toArray[es.length]?=M by simp];exact hR)) λh' k=>hQ h' s.toks λb o hb e=>k b o (λz=>hb (by simp[z])) e
 self:=λ_ _ _ _ st hQ=>lU st.1 hQ
def nh{ps:Z9 Nat}(hp:ps.Perm (List.range es.length))(hh:A.handled=M)(y_:S≠I)(V2:T≠I):Walks prog w A I [I,S,T] [I] es.length (λi v=>((ps.filterMap (es[·]?)).map (·.2))[i]?=U v)
  (λi h=>aav h I (.ref T) i S es.length ep/\aaw h S es ep t/\∃o n,h.get? T=U o/\o.data=.seq (ps.map λ(k:Nat)=>rawInt k).toArray n) where
 sub:=λb hb=>by simp at hb;simp[hb]
 frame:=λ_ _ _ st hk=>⟨st.1.at λo e=>hk I (by simp) o e,st.2.1.at λo e=>hk S (by simp) o e,by obtain⟨o,n,e,r⟩:=st.2.2;exact⟨o,n,hk T (by simp) o e,r⟩⟩
 item:=λi s Q E hi st hQ=>by
  have q_:=hp.length_eq;rw[Xk]at q_;have Kx:i<ps.length:=by lia
  have QD:ps[i]<es.length:=Y5.mp (hp.mem_iff.mp (Xh Kx));refine jb (ps:=ps) (p:=ps[i]) (e:=es[ps[i]]) y_ st.1 st.2.1 st.2.2 (by simp[Kx]) (by simp[QD]) λh' Lg k=>?_;refine hQ _ h' s.toks ?_ ⟨Lg,st.2.1.at λo e=>k S o y_ e,by obtain⟨o,n,e,r⟩:=st.2.2;exact⟨o,n,k T o V2 e,r⟩⟩ λb o hb e=>k b o (λz=>hb (by simp[z])) e;have e1:ps.filterMap (es[·]?)=ps.map λk=>es.getD k (0,.none):=by
   have w_:∀k∈ps,k<es.length:=λk hk=>Y5.mp (hp.mem_iff.mp hk);clear q_ Kx QD hp hi hQ st
   induction ps with
   |nil=>rfl
   |cons k ps ih=>
    have hk:=w_ k (ZW ..);rw[List.filterMap_cons,YU hk,Z1,ih λz hz=>w_ z (Z2 _ hz)];simp[hk]
  rw[e1];simp[Kx,QD]
 done:=λs Q E st hQ=>by
  have q_:=hp.length_eq;rw[Xk]at q_;exact j7 hh st.1 st.2.1 st.2.2 (by rw[YG (by lia)]) λh' k=>hQ h' s.toks λb o hb e=>k b o (λz=>hb (by simp[z])) e
 self:=λ_ _ _ _ st hQ=>lU st.1 hQ
end
theorem mw(a:ZM):setDrawn a=(do
  let (es,_,t) <-setState a
  let Nj <-setsByText
  return !Nj&&(!t.plain&&es.size>1)):=rfl
def tL:typeLookup (.type "set") "__len__"=pure (U (.builtin "set.__len__")):=F.slot_set_len.lookup
section
variable{A:Za}
def v7(st:aaw s.heap S es ep t)(H_:t.led=cL w)(hn:es.length<=1000){Q:Z3->ZR->Prop}(hQ:∀(I:ZM)(vs:Z9 Z3)(fp:Z9 ZM)(St:Nat->Heap->Prop)(h':Heap)(d:Drawn),vs.Perm (es.map (·.2))->(∀A':Za,A'.handled=M->Walks prog w A' I fp [I] es.length (λi v=>vs[i]?=U v) St)->St 0 h'->
   (∀b o,s.heap.get? b=U o->h'.get? b=U o)->s.heap.objs.size<=I->I∈fp->(∀b∈fp,b=S\/s.heap.objs.size<=b)->Q (.ref I) {s with heap:=h',drawn:=d}):wpAny (model prog w) A (pyIter (.ref S)) Q E s:=by
 obtain⟨os,IK,hex,Jc⟩:=id st.ob;have hT:s.TypeIs (.ref S) "set":=⟨os,IK,hex.1⟩;have KL:S<s.heap.objs.size:=ZQ IK;refine wpAny_pyIter_slot hT F.slot_set_iter (YV F.slot_set_iter hT gG ?_ (F.args_set_iter_1 _));unfold Builtin.«frozenset.__iter__» Builtin.Frozenset.slot0 slotArgs;simp only[List.isEmpty_nil,YJ,ZY,↓reduceIte,bind_assoc,jQ,bne_self_eq_false];unfold Builtin.Frozenset.addrOf Builtin.Frozenset.sizeOf;refine Z_ (Z5 ?_)
 try dsimp only
 refine Z_ (Z5 ?_);refine Z_ (Z_ (Xn IK Jc st.fits (Z5 ?_)));refine Z_ ?_;rw[mw];refine Z_ (YB IK Jc st.fits ?_);dsimp only;refine Z_ ?_;unfold setsByText;refine Z_ (Xu (Z5 ?_));refine Z5 ?_;have hsz:es.toArray.size=es.length:=by simp
 show wpAny _ _ (if(!w.params.followText "set-order"&&(!t.plain&&decide (es.toArray.size>1)))=L then _ else _) _ _ _;by_cases Pw:(!w.params.followText "set-order"&&(!t.plain&&decide (es.toArray.size>1)))=L;refine eS Pw ?_;refine Z_ (iH es.toArray.size (List.range es.toArray.size) s _ (by simp) λps d hp=>?_);rw[hsz]at hp⊢;have q_:=hp.length_eq;rw[Xk]at q_;unfold newTuple;refine Z_ (Y1 ?_ (by show(ps.map λ(i:Nat)=>rawInt i).toArray.size<=sizeLine;rw[Yk];simp;lia));have g1:(s.heap.push {cls:=.type "tuple",data:=.seq (ps.map λ(i:Nat)=>rawInt i).toArray}).get? S=U os:=Z4 _ IK;refine Z_ (wpAny_setEpoch_of (s:={s with heap:=s.heap.push {cls:=.type "tuple",data:=.seq (ps.map λ(i:Nat)=>rawInt i).toArray},drawn:=d}) g1 Jc st.fits ?_);unfold newFields;refine Z_ (Y1 ?_ (by size_fits));refine Z5 ⟨_,rfl,"set_iterator",_,⟨_,ZN _ rfl,rfl⟩,aD.lookup,?_⟩;have OY:(s.heap.push {cls:=.type "tuple",data:=.seq (ps.map λ(i:Nat)=>rawInt i).toArray}).objs.size=s.heap.objs.size+1:=YE ..;refine hQ (s.heap.push {cls:=.type "tuple",data:=.seq (ps.map λ(i:Nat)=>rawInt i).toArray}).objs.size ((ps.filterMap (es[·]?)).map (·.2)) [(s.heap.push {cls:=.type "tuple",data:=.seq (ps.map λ(i:Nat)=>rawInt i).toArray}).objs.size,S,s.heap.objs.size] _ _ d ((pv hp).1.map _)
  (λA' Kk=>nh (T:=s.heap.objs.size) (ps:=ps) (es:=es) (S:=S) (ep:=ep) (t:=t) hp Kk ?_ ?_) ?_ (λb o e=>Z4 _ (Z4 _ e)) ?_ (by simp) ?_
 rw[OY];exact Zt (Nat.lt_succ_of_lt KL);rw[OY];exact Zt (Yl _);exact⟨⟨_,ZN _ rfl,rfl,rfl⟩,st.at λo e=>Z4 _ (Z4 _ e),_,_,Z4 _ (ZN _ rfl),rfl⟩;rw[OY];exact WT _;intro b hb;simp only[ZZ,Zm,YA]at hb;rcases hb with rfl|rfl|rfl
 right;rw[OY];exact WT _
 left;rfl
 right;exact ZU _
 refine dM Pw ?_;refine Z_ (Z5 ?_);refine Z_ (wpAny_setEpoch_of IK Jc st.fits ?_);unfold newFields;refine Z_ (Y1 ?_ (by size_fits));refine Z5 ⟨_,rfl,"set_iterator",_,⟨_,ZN _ rfl,rfl⟩,aD.lookup,?_⟩;rw[hsz];have fin:∀(vs:Z9 Z3)(St:Nat->Heap->Prop),vs.Perm (es.map (·.2))->(∀A':Za,A'.handled=M->Walks prog w A' s.heap.objs.size [s.heap.objs.size,S] [s.heap.objs.size] es.length (λi v=>vs[i]?=U v) St)->
   St 0 (s.heap.push {cls:=.type "set_iterator",data:=.fields [rawInt 0,rawInt 0,.ref S,rawInt es.length,rawInt ep].toArray})->
   Q (.ref s.heap.objs.size) {s with heap:=s.heap.push {cls:=.type "set_iterator",data:=.fields [rawInt 0,rawInt 0,.ref S,rawInt es.length,rawInt ep].toArray}}:=λvs St hp W h0=>by
  refine hQ s.heap.objs.size vs [s.heap.objs.size,S] St _ s.drawn hp W h0 (λb o e=>Z4 _ e) (ZU _) (by simp) λb hb=>?_;simp only[ZZ,Zm,YA]at hb;rcases hb with rfl|rfl
  exact .inr (ZU _);exact .inl rfl
 cases Pz:w.params.followText "set-order" with
 |true=>
  refine fin _ _ ?_ (λA' Kk=>qG (S:=S) (es:=es) (ep:=ep) (t:=t) Pz Kk (Zt KL)) ⟨⟨_,ZN _ rfl,rfl,rfl⟩,st.at λo e=>Z4 _ e⟩;have:=(gv (w.params.setOrder S ep) es.toArray).map (·.2);simpa using this
 |false=>
  have q_:(!t.plain&&decide (es.toArray.size>1))=Y:=by
   rw[Pz]at Pw;simpa using Pw
  exact fin _ _ (Yy _) (λA' Kk=>pN (S:=S) (es:=es) (ep:=ep) (t:=t) Pz (by rw[H_,cL,Pz];rfl) q_ Kk (Zt KL)) ⟨⟨_,ZN _ rfl,rfl,rfl⟩,st.at λo e=>Z4 _ e⟩
def mh(hh:A.handled=M)(st:aaw s.heap S es ep t)(H_:t.led=cL w)(hn:es.length<=1000)(hQ:∀(vs:Z9 Z3)(h':Heap)(d:Drawn)(tk:Nat),vs.Perm (es.map (·.2))->(∀b o,s.heap.get? b=U o->h'.get? b=U o)->s.heap.objs.size<=h'.objs.size->Q vs {s with heap:=h',drawn:=d,toks:=tk}):wpAny (model prog w) A (collect (.ref S)) Q E s:=by
 obtain⟨os,IK,hex,Jc⟩:=id st.ob;have KL:S<s.heap.objs.size:=ZQ IK;unfold collect;refine Z_ (wpAny_runValue (YO F.entry_proto_collect ?_));rw[Y7 F.plain_proto_collect _];show wpAny _ A.in1 (newList [] >>= λl=>again (.builtin "list.__iadd__" ⟨[l,.ref S],[]⟩)) _ _ s;refine Z_ (Y1 ?_);refine Z5 ⟨Ys F.plain_list_iadd _,YO F.entry_list_iadd ?_⟩;rw[Y7 F.plain_list_iadd _];generalize hL:s.heap.objs.size=Lq;have Ru:aaw (s.heap.push {cls:=.type "list",data:=.seq ([]:Z9 Z3).toArray}) S es ep t:=st.at λo e=>Z4 _ e;have g0:(s.heap.push {cls:=.type "list",data:=.seq ([]:Z9 Z3).toArray}).get? Lq=U {cls:=.type "list",data:=.seq ([]:Z9 Z3).toArray}:=by rw[<-hL];exact ZN _ rfl
 have N6:(s.heap.push {cls:=.type "list",data:=.seq ([]:Z9 Z3).toArray}).get? S=U os:=Z4 _ IK;have V3:Shared.TypeIs {s with heap:=s.heap.push {cls:=.type "list",data:=.seq ([]:Z9 Z3).toArray}} (.ref S) "set":=⟨os,N6,hex.1⟩
 show wpAny _ A.in1 (Builtin.List.listExtendWith (.ref Lq) (.ref S) (.ref Lq)) _ _ _;unfold Builtin.List.listExtendWith;refine Z_ (Xv V3 ?_);have h1:Builtin.List.listSameRef (.ref Lq) (.ref S)=Y:=by simp[Builtin.List.listSameRef];rw[<-hL];exact Nat.ne_of_gt KL
 have h2:(Value.type "set"==Value.type "list")=Y:=by decide
 have h3:(Value.type "set"==Value.type "tuple")=Y:=by decide
 simp only[h1,h2,h3,Bool.or_false,ZY,Zj];refine Z_ (v7 (s:={s with heap:=s.heap.push {cls:=.type "list",data:=.seq ([]:Z9 Z3).toArray}}) Ru H_ hn λI vs fp St h' d hp W QX hk hI hIf VM=>?_);have QW:Shared.TypeIs {s with heap:=h',drawn:=d} (.ref S) "set":=⟨os,hk S os N6,hex.1⟩
 have gL:h'.get? Lq=U {cls:=.type "list",data:=.seq ([]:Z9 Z3).toArray}:=hk Lq _ g0;refine Z_ (Y4 ?_);unfold Builtin.List.listLengthHint;refine Z_ (Yb QW tL ?_);generalize S3:("set.__len__":String)=U4
 wp_delta
 rw[show splitId U4=U ("set","__len__") from by subst S3;decide +kernel];subst S3;dsimp only;refine Z_ (X5 (b:=L) QW (by rw[V7];kernel_rfl) ?_);refine dM (by decide) ?_;refine eS (by decide +kernel) ?_;refine Z_ (Xv QW ?_);dsimp only;refine Z5 ?_;refine eS (by decide +kernel) ?_;refine Z_ (YC ?_);refine Z_ ?_;show wpAny _ A.in1 (updateSeq Lq (·.push .none) >>= λ_=>updateSeq Lq (·.pop)) _ _ _;refine Z_ (Yc gL rfl ?_);have Tr:=Zh (Obj.mapSeq (·.push Value.none)) gL rfl;refine Yc Tr rfl ?_;have gL3:=Zh (Obj.mapSeq (·.pop)) Tr rfl;have Jy:∀b o,b≠Lq->h'.get? b=U o->((h'.update Lq (Obj.mapSeq (·.push Value.none))).update Lq (Obj.mapSeq (·.pop))).get? b=U o:=
  λb o hb e=>(Zk _ _ (Zy hb)).trans ((Zk _ _ (Zy hb)).trans e)
 have WS:=(W A.in1 (by simp[hh])).toS;have hLS:Lq≠S:=by rw[<-hL];exact Nat.ne_of_gt KL
 have Tj:Lq∉fp:=λhm=>by
  rcases VM Lq hm with e|e;exact hLS e;have e2:s.heap.objs.size+1<=Lq:=by have:=e;rwa[YE]at this
  rw[hL]at e2;exact Zc _ e2
 refine Z5 ⟨Ys XI _,codeAny_extend_loopS WS (by rw[Yk];lia) Lq Tj _ es.length 0 _ _ _ rfl (Zs _)
  (WS.frame 0 ({s with heap:=h',drawn:=d}:ZR) _ s.toks QX (ZU _) λb hb o e=>Jy b o (λh=>Tj (h▸hb)) e) gL3 (ItemsOf.nil _) λs' l_ c' hm LW t_=>?_⟩
 show wpAny _ A (load Lq >>= _) _ _ s';refine Z_ (wpAny_load LW ?_);have e1:s'.gens=s.gens:=hm.gens;have e2:s'.drawn=d:=hm.drawn;have e3:s'.os=s.os:=hm.os;obtain⟨VG,gg',KA,Ul,oo'⟩:=s';simp only at e1 e2 e3;subst e1;subst e2;subst e3;refine Z5 (hQ l_.toList VG KA Ul ?_ (λb o e=>?_) (by rw[hL];exact WD (ZQ LW)));have:l_.toList=vs:=by
  have Sx:=hp.length_eq;rw[Z0]at Sx;apply WR;intro j;by_cases hj:j<l_.size;have:=t_.2 j l_[j] (by simp[hj]);rw[this];simp[hj];rw[YG (by simpa using hj),YG (by rw[Sx,<-t_.1];lia)]
 rw[this];exact hp;have Tf:b≠Lq:=by rw[<-hL];exact Zt (ZQ e)
 have VW:b≠I:=λz=>by
  have h5:s.heap.objs.size+1<=I:=by have:=hI;rwa[YE]at this
  have:=ZQ e;rw[z]at this;exact absurd (ZA (Nat.lt_succ_of_lt this) h5) (Zc _)
 refine hm.heap b o (by simp only[ZZ,Zm,YA,Xm];exact⟨Tf,VW⟩) (Jy b o Tf (hk b o (Z4 _ e)))
end
def wV(w:YM)(S:ZM)(ts:Z9 El):HO:=.ext λh=>∃JC:Z9 El,JC.Perm ts/\aaH h S (JC.map (elE w)) (cL w)
section
variable{X:Cx}{sc:Bool}
def tE(hc:X.calm=L)(hu:X.A.units+64<cLine):fG X (.type "set") (λxs H Q=>∃B l ds ys,xs=[.ref l]/\SqL X.K H l ys/\M1 X.K B H ds ys/\(b0 ds).length<64/\ds.all (aW 8)=L/\(ds.all λd=>scD d==sc)=L/\
  ∀S ts,H S=M->(∀t∈ts,aaQ X.K B H sc t)->(ts.map (·.1)).Nodup->(∀d,d∈ts.map (·.1)↔d∈ds)->Q (.ref S) (upd H S (wV X.w S ts))):=by
 intro pins s σ H xs us Q I r h;obtain⟨B,l,ds,ys,rfl,hq,rs,N_,VE,Pe,q⟩:=h;obtain⟨u,rfl,rx⟩:=hU r;cases rx;obtain⟨its,rv,pl,hz⟩:=I.list hq;have l1:=rs.length;have l2:=rv.length;refine qK (B:=B) (sc:=sc) I (I.ok.hd hc) (by lia) pl.isList ds (by simp;lia) (by lia) (λi v d hv hd=>?_) λh' tk ts hk hF=>?_;obtain⟨x,hx,rx⟩:=rs.get hd;obtain⟨u,Jb,ru⟩:=rv.get hx;have:u=v:=by
  have:its[i]?=U v:=by simpa using hv
  rw[Jb]at this;exact Z7 this
 subst this;have hm:=Zg hd;exact⟨x,rx,ru,ZX.mp VE d hm,Zw.mp (ZX.mp Pe d hm)⟩;have K9:H s.z=M:=I.fresh;refine⟨.ref s.z,_,I.laid (a:=s.z) (o:=wV X.w s.z ts) (h':=h') (t':=tk) hk (ZU _) ?_,rfl,q _ ts K9 hF.ok hF.nd hF.mem⟩;obtain⟨o,ep,t,ho,r⟩:=hF.at';exact⟨⟨ts,Yy _,o,ep,t,ho,r⟩,⟨o,ho⟩,λh1 h2 ⟨JC,p,a⟩ k=>⟨JC,p,a.same k⟩⟩
def ij(hc:cN ds=L)(hp:es.Perm ds):b7 es=b7 ds/\cN es=L:=by
 have Jr:cN es=L:=by
  unfold cN;rw[ZX];intro x hx;rw[ZK];have JU:=hp.mem_iff.mp hx;refine⟨fm hc JU,?_⟩;rw[ZX];intro y hy;obtain⟨b,e⟩:=eR hc JU (hp.mem_iff.mp hy);rw[e];rfl
 exact⟨dk hc _ _ (λy hy=>hp.mem_iff.mp ((aA es).mem_iff.mp hy)) ((aA es).trans (hp.trans (aA ds).symm)) (bW Jr) (bW hc),Jr⟩
theorem nB{K:Z6}{B:ZM->Prop}{H:Hp}:∀{ts:Z9 El},(∀t∈ts,aaQ K B H sc t)->M1 K B H (ts.map (·.1)) (ts.map (·.2.1))/\aab (ts.map (·.2.1)) (ts.map (·.2.2))
 |[],_=>⟨M1.nil,.nil⟩
 |t::ts,h=>by
  obtain⟨a,b⟩:=nB (ts:=ts) λz hz=>h z (Z2 _ hz);have ht:=h t (ZW ..);exact⟨M1.cons ht.rep a,.cons ht.rel b⟩
def kz(hc:X.calm=L)(hu:X.A.units+64<cLine):fG X (.builtin "sorted") (λxs H Q=>∃B S ts,xs=[.ref S]/\H S=U (wV X.w S ts)/\(∀t∈ts,aaQ X.K B H sc t)/\ts.length<64/\cN (ts.map (·.1))=L/\(ts.map (·.1)).all (du c)=L/\
  ∀l zs,H l=M->M1 X.K B H (b7 (ts.map (·.1))) zs->Q (.ref l) (upd H l (.lst zs))):=by
 intro pins s σ H xs us Q I r h;obtain⟨B,S,ts,rfl,hS,hok,N_,QP,hk,q⟩:=h;obtain⟨u,rfl,rx⟩:=hU r;cases rx;obtain⟨⟨PU,p1,o,ep,t,ho,hex,hd,T,hf,H_⟩,_,_⟩:=I.hok S _ hS;have hl:=T.len;have JY:=p1.length_eq;rw[Z0,Z0]at hl;have st:aaw s.heap S (PU.map (elE X.w)) ep t:=⟨⟨o,ho,hex,hd⟩,T,by lia⟩
 refine Calls.call_function_entry kind_sorted plain_sorted entry_sorted (args_sorted1 _) ?_;unfold Builtin.«sorted»;refine Z_ (m:=checkCount "sorted" 1 1 _) (Z5 (Z_ (mh (by simp[I.ok.hd hc]) st H_ (by rw[Z0];lia) λvs h' d tk hp JS hsz=>?_)));have LP:vs.Perm (PU.map (·.2.2)):=by rw[Yi]at hp;exact hp
 obtain⟨PR,p2,rfl⟩:=bR (λt:El=>t.2.2) LP PU rfl;have p3:PR.Perm ts:=p2.trans p1;have Rw:∀t∈PR,aaQ X.K B H sc t:=λt ht=>hok t (p3.mem_iff.mp ht);obtain⟨rs,rv⟩:=nB Rw;obtain⟨es,RA⟩:=ij QP (p3.map (·.1));have LR:(PR.map (·.1)).all (du c)=L:=by
  rw[ZX]at hk⊢;exact λx hx=>hk x ((p3.map (·.1)).mem_iff.mp hx)
 have hlen:=p3.length_eq;refine gA (s:={s with drawn:=d}) (t1:=tk) hu (I.drawn d) JS hsz rs rv (by rw[Z0,Yk];lia) RA (by rw[LR,Bool.or_true]) λl zs IM rz=>q l zs IM (es▸rz)
def wY(hc:cN ds=L)(h:∀x∈es,x∈ds):cN es=L:=by
 unfold cN;rw[ZX];intro x hx;rw[ZK];refine⟨fm hc (h x hx),?_⟩;rw[ZX];intro y hy;obtain⟨b,e⟩:=eR hc (h x hx) (h y hy);rw[e];rfl
noncomputable def _root_.L2.aaD(c:KD)(sc:Bool)(x:Z8 D):Z8 D:=match x with
 |some (.lst ds)=>if(decide ((b0 ds).length<64)&&cN ds&&ds.all (du c)&&ds.all (aW 8)&&ds.all λd=>scD d==sc)=L then U (.lst (b7 (b0 ds))) else M
 |_=>M
variable{a:Expr}{fa:Mk->Z8 D}{pos IB p p2:Pos}
theorem _root_.L2.abv(hu:X.A.units+64<cLine)(hc:X.calm=L)(g:Gl X "sorted")(hm:X.mg "sorted"=M)(g2:Gl X "set")(MA:X.mg "set"=M)(ha:DE X Y a fa)(hs:starEach [a] X.env=[(Y,eval a X.env)]:=by rfl)(Jq:starEach [.Call (.Name "set" p2) [a] [] IB] X.env=[(Y,eval (.Call (.Name "set" p2) [a] [] IB) X.env)]:=by rfl):
  DF X (.Call (.Name "sorted" p) [.Call (.Name "set" p2) [a] [] IB] [] pos) (λO=>aaD c sc (fa O)):=
 (dU (kz (c:=c) (sc:=sc) hc hu) g hm gN (ay (cW (tE (sc:=sc) hc hu) g2 MA CY (ay ha aQ hs) (he:=hs)) aQ Jq) (he:=Jq)).imp λσ H Q ⟨B,Hk,O,d,R,e,k⟩=>by
  unfold aaD at e;dsimp only at e;split at e;rename_i ds qd;by_cases cc:(decide ((b0 ds).length<64)&&cN ds&&ds.all (du c)&&ds.all (aW 8)&&ds.all λd=>scD d==sc)=L;rw[ZO cc]at e;cases e;rw[ZK,ZK,ZK,ZK]at cc;obtain⟨⟨⟨⟨c1,c2⟩,c3⟩,c4⟩,c5⟩:=cc;simp only[tCB,pJ,ab0];refine⟨B,Hk,O,_,R,qd,λv H' s r=>?_⟩;have R':=R.to s;simp only[Rep]at r;obtain⟨l,xs,rfl,hq,rs⟩:=r;refine⟨ba Y B O σ,l,ds,xs,rfl,hq.sq,rs,Zo c1,c4,c5,λS ts hS hok Vo II=>?_⟩;have s2:=ar (o:=wV X.w S ts) hS;have hp:(ts.map (·.1)).Perm (b0 ds):=(W6 Vo (bb ds)).mpr λx=>(II x).trans (aM x ds).symm;have hl:=hp.length_eq;rw[Z0]at hl;have Vc:=cP ds;have c1':=Zo c1;have c2':cN (b0 ds)=L:=wY c2 λx hx=>(aM x ds).mp hx;obtain⟨es,QP⟩:=ij c2' hp;refine⟨ba Y B O σ,S,ts,rfl,ah,λt ht=>?_,by lia,QP,?_,λl' zs IM rz=>?_⟩;have q:=hok t ht;exact⟨q.rep.same (m:=Y) R' s2,q.rel,q.has,q.sc⟩;rw[ZX]at c3⊢;exact λx hx=>c3 x ((II x).mp hx);have s3:=ar (o:=.lst zs) IM;have R2:=R'.to s2;rw[es]at rz;exact k l' _ (s.trans (s2.trans s3)) (s.free (s2.free IM)) ⟨_,ah,rz.same (m:=Y) R2 s3⟩;rw[ZJ cc]at e;cases e;cases e
end
end L2.G
namespace L2
open PySem PySem.Spec PyProof.Rows PySem.W
section
theorem iD:∀{l:Frag},l.lookup a=U o->(a,o)∈l
 |[],h=>nomatch h
 |(b,p)::l,h=>by
  rw[List.lookup_cons]at h;cases e:a==b with
  |true=>rw[e]at h;cases h;rw[Zw.mp e];exact .head _
  |false=>rw[e]at h;exact .tail _ (iD h)
def vB(h:Heap):(AD h).In h:=λa o e=>by
 obtain⟨b,_,hb⟩:=XM.mp (iD e);obtain⟨p,h1,h2⟩:=Option.bind_eq_some_iff.mp hb;split at h2;cases h2;exact h1;cases h2
structure Seen (defs:List (Str×Stmt))(bl:List Str)(cs:List (Str×ZM))(K:Frag):Prop where
 fn:defs.map (λp=>DM K p.1)=defs.map λp=>some (v5 p.1 p.2)
 bl:bl.map (nsIn K mainGlobals)=bl.map λ_=>some none
 cd:cs.map (λp=>oQ K p.1)=cs.map λp=>some (.ref p.2)
theorem pb{q O:Type}{f g:q->O}:∀{l:Z9 q}{i:Nat}{x:q},l.map f=l.map g->l[i]?=U x->f x=g x
 |[],_,_,_,h=>by simp at h
 |y::l,0,x,e,h=>by cases h;exact(List.cons.inj e).1
 |y::l,i+1,x,e,h=>pb (List.cons.inj e).2 h
def map_mem{q O:Type}{f g:q->O}{l:Z9 q}{x:q}(e:l.map f=l.map g)(h:x∈l):f x=g x:=by
 obtain⟨i,hi⟩:=X0 h;exact pb e hi
section
variable{defs:Z9 (Str×Stmt)}{bl:Z9 Str}{cs:Z9 (Str×ZM)}{K:Frag}{h:Heap}{mg:Str->Z8 Z3}
set_option tactic.hygienic true in
def Seen.df0(S:Seen defs bl cs K)(X:K.In h)(G:h.Ns mainGlobals mg)(i:Nat){x:Str}{st:Stmt}(e:defs[i]?=U (x,st)):∃f fd,Fun K x x st f fd/\mg x=U (.ref f)/\oQ K x=U fd.code:=by
 have q:DM K x=U (v5 x st):=pb S.fn e;unfold DM at q;unfold oQ;split at q;rename_i f hf;split at q;rename_i oc od fd sl hl;split at q;rename_i hc;refine⟨f,fd,⟨⟨oc,od,fd.kwdefaults,fd.doc,fd.pyModule,fd.annotations,fd.code,fd.closureTuple,sl,?_,hl,hc⟩,?_⟩,mg_of X G hf,rfl⟩;have q':=Z7 q;obtain⟨a1,a2,a3,a4,a5,a6,a7,a8,a9,a10,a11,a12,a13,a14,a15⟩:=fd;simp only[BN,v5,WM]at q';obtain⟨rfl,rfl,rfl,rfl,rfl,rfl,rfl,rfl,rfl⟩:=q';rfl;unfold keepIn;dsimp only;rw[hl];cases q;cases q;cases q
def Seen.df(S:Seen defs bl cs K)(X:K.In h)(G:h.Ns mainGlobals mg)(i:Nat){x:Str}{st:Stmt}(e:defs[i]?=U (x,st)):∃f fd,Fun K x x st f fd/\mg x=U (.ref f):=by
 obtain⟨f,fd,F,hm,_⟩:=S.df0 X G i e;exact⟨f,fd,F,hm⟩
def Seen.dfC(S:Seen defs bl cs K)(X:K.In h)(G:h.Ns mainGlobals mg)(i j:Nat){x:Str}{st:Stmt}{c:ZM}(e:defs[i]?=U (x,st))(e':cs[j]?=U (x,c)):∃f fd,Fun K x x st f fd/\mg x=U (.ref f)/\fd.code=.ref c:=by
 obtain⟨f,fd,F,hm,hc⟩:=S.df0 X G i e;exact⟨f,fd,F,hm,Z7 (hc.symm.trans (pb S.cd e'))⟩
def Seen.txt(S:Seen defs bl cs K)(X:K.In h)(G:h.Ns mainGlobals mg):∀x∈bl,mg x=M:=λx hx=>mg_none_of X G (map_mem S.bl hx)
end
variable[Lams]
def Gq(cs:Z9 (Str×ZM))(K:Frag):Prop:=(Lams.tb.zip cs).map (λq=>codeHdIn K q.2.2 q.1.1)=(Lams.tb.zip cs).map (λ_=>L)/\Lams.tb.map (λq=>K.lookup q.1)=Lams.tb.map (λ_=>M)
def YH(defs:Z9 (Str×Stmt))(bl:Z9 Str)(cs:Z9 (Str×ZM))(_:YM)(h:Heap):Prop:=∃K:Frag,K.In h/\Seen defs bl cs K/\Lams.tb.map (λq=>h.get? q.1)=Lams.tb.map (λ_=>U Gp)/\Gq cs K
def yh_of(w:YM)(s:ZR)(e:YfH defs bl cs s=YaH defs bl cs w):YH defs bl cs w s.heap:=by
 unfold YfH YaH at e;simp only[WM]at e;exact⟨AD s.heap,vB _,⟨e.1,e.2.1,e.2.2.1⟩,e.2.2.2.1,e.2.2.2.2.1,e.2.2.2.2.2⟩
def yh_keeps(w:YM)(h h':Heap)(y:YH defs bl cs w h)(k:∀b o,h.get? b=U o->h'.get? b=U o):YH defs bl cs w h':=by
 obtain⟨K,hK,hS,ht,hc⟩:=y;refine⟨K,hK.keeps k,hS,?_,hc⟩;exact YZ λq hq=>k _ _ (map_mem ht hq)
theorem u7{q O:Type}:∀{l:Z9 q}{m:Z9 O}{x:q},l.length=m.length->x∈l->∃y,(x,y)∈l.zip m
 |a::l,b::m,x,e,h=>by
  rcases ZZ.mp h with rfl|h;exact⟨b,.head _⟩;obtain⟨y,hy⟩:=u7 (Nat.succ.inj e) h;exact⟨y,.tail _ hy⟩
def walk_H{l:OpenLaw}{d:DefRec}{cs:Z9 (Str×ZM)}{sp:Frag->Sp}(hn:l.most=U n)(Vq:n<=sizeLine)(NG:d.params.defaults=[])(hr:aaq k callerA)(Py:Lams.tb.length=cs.length)(F:∀(w:YM)(mg:Str->Z8 Z3)(fa:ZM)(h:Heap)(K:Frag),Seen defs bl cs K->Gq cs K->K.In h->h.Ns mainGlobals mg->mg d.name=U (.ref fa)->
   ∃fd:FuncData,(∀(s:ZR)(u:Z3),BindsTo s fd ⟨[u],[]⟩ [(x,u)])/\
    ∀base:Heap,K.In base->base.Ns mainGlobals mg->abj l.prog w K mg base CX k fa fd [x] (sp K)) (Mg:∀(K:Frag)(H:Hp)(a:ZM)(ns:Z9 Int),ns.length<=n->Fa H->SqL K H a (ns.map V.int)->sp K [.ref a] H (λv _=>v=.bl L) λ_ _ _=>False) (QZ:∀(H:Hp)(s:ZR)(e:Z3)(s':ZR),CX [] H s (λ_ _ _=>False) e s'->False) (MI:∀q∈Lams.tb,∀r∈Lams.tb,q.1=r.1->q=r):
  WalkO q loose XP (YH defs bl cs) l.row.toRowW d [] (λf vs=>PySem.call f vs):=by
 refine Att.abG hn NG λw n_ g_ mg mb fa o pm cd doc a vs ns G Yq ho hd Ja hmg MX hints hlen hg=>?_;obtain⟨K,KX,S,ht,hL⟩:=Yq;obtain⟨fd,hb,hF⟩:=F w mg fa _ K S hL KX G.T.g hmg;exact xf KX G.T.g G.T.b G.T.builtins G.T.nolimit hg MX hints (ZH hlen Vq) hr hF hb (λH hO hS=>Mg K H a ns hlen hO hS) (λH e s'=>QZ H g_ e s') G.T.bmain (λq hq=>⟨map_mem ht hq,map_mem hL.2 hq,by
  obtain⟨c,hz⟩:=u7 Py hq;obtain⟨o,vs,_,_,_,_,_,_,_,e1,e2,e3,e4,_⟩:=codeHd_of_K KX (map_mem hL.1 hz);exact⟨c.2,o,vs,e1,e2,e3,e4⟩⟩) MI
end
def Txb(bl:Z9 Str)(mg:Str->Z8 Z3):Prop:=∀x∈bl,mg x=M
def Txb.get{bl:Z9 Str}{mg:Str->Z8 Z3}{x:Str}(T:Txb bl mg)(h:decide (x∈bl)=L):mg x=M:=T x (Zo h)
def us0{P:Z9 Z3->Prop}(h:P []):∀us:Z9 Z3,us.length=0->P us
 |[],_=>h
def usS{n:Nat}{P:Z9 Z3->Prop}(h:∀a us,us.length=n->P (a::us)):∀us:Z9 Z3,us.length=n+1->P us
 |a::us,e=>h a us (Nat.succ.inj e)
def Df(K:Z6)(mg:Str->Z8 Z3)(x:Str)(st:Stmt):Prop:=∃f fd,Fun K x x st f fd/\mg x=U (.ref f)
def DfC(K:Z6)(mg:Str->Z8 Z3)(x:Str)(st:Stmt)(c:ZM):Prop:=∃f fd,Fun K x x st f fd/\mg x=U (.ref f)/\fd.code=.ref c
section
variable[Lams]{P:Y0}{w:YM}{K:Z6}{mg:Str->Z8 Z3}{base:Heap}{x:Str}{st:Stmt}{f:ZM}
abbrev HB(x:Str)(st:Stmt)(N:Z9 Str)(n:Nat):Prop:=∀(kV doc pm:Z3)(an:Z8 ZM)(Jd ct:Z3)(us:Z9 Z3),us.length=(N.take n).length->bindArgs (W.fnOf x x (defArgs st) (defBody st) (defScope st) .none kV doc pm an Jd ct) ⟨us,[]⟩=pure ((N.take n).zip us)
abbrev HY(P:Y0)(w:YM)(K:Z6)(mg:Str->Z8 Z3)(base:Heap)(N:Z9 Str)(st:Stmt)(k:Nat)(J:Cx->Prop):Prop:=∀X:Cx,X.prog=P->X.w=w->X.K=K->X.mg=mg->X.base=base->Has X N (defScope st)->(∀x,X.fn x=L)->PassesOwn (model X.prog X.w) X.A X.env X.xe->aaq k X.A->J X
def mkF{fd:FuncData}{k:Nat}(n:Nat)(N:Z9 Str)(g:Mk->Z8 Out)(F:Fun K x x st f fd)(hm:mg x=U (.ref f))(S:aaC N (N.take n) (defScope st))
  (hb:HB x st N n)
  (body:HY P w K mg base N st k λX=>DSs X (defBody st) g):
  abj P w K mg base CX0 (k+1) f fd (N.take n) (spM K (bO N.length (N.take n).length g))/\FnM P w K mg base (k+1) x (bO N.length (N.take n).length g):=
 yH (P:=P) (w:=w) (base:=base) (g:=g) F S (F.binds hb) hm (by rw[X_];exact Nat.min_le_right ..) λA outer s H E hr=>body _ rfl rfl rfl rfl rfl (DN S.nd) (λ_=>rfl) PassesOwn.never hr
theorem mk{k:Nat}(n:Nat)(N:Z9 Str)(g:Mk->Z8 Out)(D:Df K mg x st)(S:aaC N (N.take n) (defScope st):=by walk_at "sc")
  (hb:HB x st N n:=by walk_at "bi")
  (body:HY P w K mg base N st k (λX=>DSs X (defBody st) g):=by walk_at "mk"):FnM P w K mg base (k+1) x (bO N.length (N.take n).length g):=by
 obtain⟨f,fd,F,hm⟩:=D;exact(mkF n N g F hm S hb body).2
end
end L2
namespace JP
open PySem L2
inductive Ce where|nm (w:Str)|bk (n:Int)
deriving DecidableEq,Inhabited
inductive Te where|any (l:Str)|nm (w:Str)
deriving DecidableEq
def ceD:Ce->D|.nm w=>.tup [.str "name",.str w]|.bk n=>.tup [.str "blank",.int n]
def teD:Te->D|.any l=>.tup [.str "any",.str l]|.nm w=>.tup [.str "name",.str w]
def gy(h:ceD a=ceD b):a=b:=by
 cases a<;>cases b<;>simp[ceD]at h;rw[h];rw[h]
abbrev Row:=Str×Z9 Ce
abbrev Pat:=Str×Z9 Te
def WC(r:Row):D:=.tup [.str r.1,.tup (r.2.map ceD)]
def aaa(p:Pat):D:=.tup [.str p.1,.tup (p.2.map teD)]
abbrev Fit:=Str->Ce
def ev(φ:Fit):Te->Ce|.any l=>φ l|.nm w=>.nm w
def gU(rows:Z9 Row)(φ:Fit)(p:Pat):Prop:=∃r∈rows,r.1=p.1/\r.2=p.2.map (ev φ)
def ans:Z9 Te->Z9 Str
 |[]=>[]
 |.any l::ts=>l::ans ts
 |.nm _::ts=>ans ts
theorem iZ:∀{ts:Z9 Te},(∀l∈ans ts,φ l=q l)->ts.map (ev φ)=ts.map (ev q)
 |[],_=>rfl
 |.any l::ts,h=>by
  rw[Z1,Z1,iZ (ts:=ts) λl' hl=>h l' (Z2 _ hl)];simp only[ev];rw[h l (ZW ..)]
 |.nm w::ts,h=>by rw[Z1,Z1,iZ (ts:=ts) h];rfl
def dl(h:∀l∈ans p.2,φ l=q l)(i:gU rows φ p):gU rows q p:=by
 obtain⟨r,h1,h2,h3⟩:=i;exact⟨r,h1,h2,by rw[h3,iZ h]⟩
abbrev Bi:=Z9 (Str×Ce)
def gt(b:Bi)(l:Str):Z8 Ce:=(b.find? λq=>decide (q.1=l)).map (·.2)
def gu(b:Bi)(k:Str)(c:Ce)(l:Str):gt ((k,c)::b) l=if k=l then U c else gt b l:=by
 unfold gt;rw[List.find?_cons];by_cases h:k=l<;>simp[h]
theorem oP(l:Str):∀(b b':Bi),gt (b++b') l=(gt b l).or (gt b' l)
 |[],b'=>by simp[gt]
 |(k,c)::b,b'=>by
  rw[List.cons_append,gu,gu,oP l b b'];split<;>simp
noncomputable def bnd:Z9 Te->Z9 Ce->Bi->Z8 Bi
 |.any l::ts,c::cs,b=>(match gt b l with|some c'=>if c'=c then bnd ts cs b else M|none=>bnd ts cs (b++[(l,c)]))
 |.nm w::ts,c::cs,b=>if Ce.nm w=c then bnd ts cs b else M
 |_,_,b=>U b
set_option tactic.hygienic true in
theorem dR:∀{ts:Z9 Te}{cs:Z9 Ce}{b b':Bi},ts.length=cs.length->bnd ts cs b=U b'->(∀l c,gt b l=U c->gt b' l=U c)/\(∀l∈ans ts,∃c,gt b' l=U c)/\∀φ:Fit,(∀l∈ans ts,gt b' l=U (φ l))->cs=ts.map (ev φ)
 |[],[],b,b',_,h=>by simp only[bnd,ZE]at h;subst h;exact⟨λ_ _ h=>h,λ_ h=>by simp[ans]at h,λ_ _=>rfl⟩
 |.any l::ts,c::cs,b,b',hl,h=>by
  simp only[bnd]at h;have IM:ts.length=cs.length:=by simpa using hl
  split at h;rename_i c' e;split at h;rename_i ec;subst ec;obtain⟨h1,h2,h3⟩:=dR IM h;refine⟨h1,λl' IM=>?_,λφ IE=>?_⟩;rcases ZZ.mp IM with rfl|hm;exact⟨_,h1 _ _ e⟩;exact h2 l' hm;have:=IE l (ZW ..);rw[h1 _ _ e]at this;rw[Z1,<-h3 φ λl' hm=>IE l' (Z2 _ hm)];simp only[ev];rw[Z7 this];trivial;rename_i e;obtain⟨h1,h2,h3⟩:=dR IM h;have hg:gt b' l=U c:=h1 l c (by rw[oP,e];simp[gt]);refine⟨λl' c' e'=>h1 l' c' (by rw[oP,e'];rfl),λl' IM=>?_,λφ IE=>?_⟩;rcases ZZ.mp IM with rfl|hm;exact⟨_,hg⟩;exact h2 l' hm;have:=IE l (ZW ..);rw[hg]at this;rw[Z1,<-h3 φ λl' hm=>IE l' (Z2 _ hm)];simp only[ev];rw[Z7 this]
 |.nm w::ts,c::cs,b,b',hl,h=>by
  simp only[bnd]at h;split at h;rename_i ec;subst ec;obtain⟨h1,h2,h3⟩:=dR (by simpa using hl) h;exact⟨h1,h2,λφ IE=>by rw[Z1,<-h3 φ IE];rfl⟩;trivial
theorem fH:∀(ts:Z9 Te)(b:Bi),(∀l c,gt b l=U c->φ l=c)->∃b',bnd ts (ts.map (ev φ)) b=U b'/\∀l c,gt b' l=U c->φ l=c
 |[],b,h=>⟨b,rfl,h⟩
 |.any l::ts,b,h=>by
  simp only[Z1,ev,bnd];cases e:gt b l with
  |some c=>
   simp only;rw[ZO (h l c e).symm];exact fH ts b h
  |none=>
   refine fH ts _ λl' c hc=>?_;rw[oP]at hc;cases e':gt b l' with
   |some c'=>rw[e']at hc;simp at hc;subst hc;exact h _ _ e'
   |none=>
    rw[e']at hc;simp only[Option.none_or]at hc;rw[gu]at hc;split at hc;rename_i q;subst q;exact Z7 hc;simp[gt]at hc
 |.nm w::ts,b,h=>by
  simp only[Z1,ev,bnd,Y8];exact fH ts b h
def fO(p:Pat)(r:Row):Z8 Bi:=if r.1=p.1/\r.2.length=p.2.length then bnd p.2 r.2 [] else M
def binds(rows:Z9 Row)(p:Pat):Z9 Bi:=rows.filterMap (fO p)
def dI(h:b∈binds rows p):(∀l∈ans p.2,∃c,gt b l=U c)/\∀φ:Fit,(∀l∈ans p.2,gt b l=U (φ l))->gU rows φ p:=by
 obtain⟨r,hr,e⟩:=XM.mp h;unfold fO at e;split at e;rename_i c;obtain⟨_,h2,h3⟩:=dR c.2.symm e;exact⟨h2,λφ IE=>⟨r,hr,c.1,h3 φ IE⟩⟩;trivial
def p0(h:gU rows φ p):∃b∈binds rows p,∀l∈ans p.2,gt b l=U (φ l):=by
 obtain⟨r,hr,h1,h2⟩:=h;obtain⟨b,e,hb⟩:=fH (φ:=φ) p.2 [] (λl c e=>by simp[gt]at e);have hm:fO p r=U b:=by unfold fO;rw[ZO ⟨h1,by rw[h2];simp⟩,h2];exact e
 have JB:b∈binds rows p:=XM.mpr ⟨r,hr,hm⟩;refine⟨b,JB,λl hl=>?_⟩;obtain⟨c,hc⟩:=(dI JB).1 l hl;rw[hc,hb l c hc]
def vl(b:Bi)(ls:Z9 Str):Z9 Ce:=ls.map λl=>(gt b l).getD default
abbrev Gr:=Z9 (Z9 Ce×Z9 (Z9 Ce))
def lZ:Gr->Z9 Ce->Z9 Ce->Gr
 |[],k,e=>[(k,[e])]
 |p::r,k,e=>if p.1=k then(p.1,if e∈p.2 then p.2 else p.2++[e])::r else p::lZ r k e
def cO(g:Gr)(k:Z9 Ce):Z9 (Z9 Ce):=((g.find? λq=>decide (q.1=k)).map (·.2)).getD []
def aU(g:Gr)(q:Z9 Ce×Z9 (Z9 Ce))(k:Z9 Ce):cO (q::g) k=if q.1=k then q.2 else cO g k:=by
 unfold cO;rw[List.find?_cons];by_cases h:q.1=k<;>simp[h]
theorem nL:∀(g:Gr)(k e k' x:Z9 Ce),x∈cO (lZ g k e) k'↔x∈cO g k'\/(k'=k/\x=e)
 |[],k,e,k',x=>by
  unfold lZ;rw[aU];by_cases h:k=k';simp[h,cO];simp[h,cO];intro z;exact absurd z.symm h
 |p::r,k,e,k',x=>by
  unfold lZ;by_cases h:p.1=k;rw[ZO h,aU,aU];dsimp only;by_cases h':p.1=k';rw[ZO h',ZO h'];have hk:k'=k:=h'.symm.trans h;split;rename_i m;constructor;exact .inl
  rintro(q|⟨_,rfl⟩)
  exact q;exact m;simp[hk];rw[ZJ h',ZJ h'];constructor;exact .inl
  rintro(q|⟨rfl,_⟩)
  exact q;exact absurd h h';rw[ZJ h,aU,aU];by_cases h':p.1=k';rw[ZO h',ZO h'];constructor;exact .inl
  rintro(q|⟨rfl,_⟩)
  exact q;exact absurd h' h;rw[ZJ h',ZJ h'];exact nL r k e k' x
def grp(bs:Z9 Bi)(sh ad:Z9 Str):Gr:=bs.foldl (λg b=>lZ g (vl b sh) (vl b ad)) []
def mS(bs:Z9 Bi)(sh ad:Z9 Str)(k x:Z9 Ce):x∈cO (grp bs sh ad) k↔∃b∈bs,vl b sh=k/\vl b ad=x:=by
 have key:∀(bs:Z9 Bi)(g:Gr),x∈cO (bs.foldl (λg b=>lZ g (vl b sh) (vl b ad)) g) k↔x∈cO g k\/∃b∈bs,vl b sh=k/\vl b ad=x:=by
  intro bs
  induction bs with
  |nil=>intro g;simp
  |cons b bs ih=>
   intro g;rw[List.foldl_cons,ih,nL];constructor
   rintro((q|⟨q1,q2⟩)|⟨b',m,q⟩)
   exact .inl q;exact .inr ⟨b,ZW ..,q1.symm,q2.symm⟩;exact .inr ⟨b',Z2 _ m,q⟩
   rintro(q|⟨b',m,q1,q2⟩)
   exact .inl (.inl q);rcases ZZ.mp m with rfl|m;exact .inl (.inr ⟨q1.symm,q2.symm⟩);exact .inr ⟨b',m,q1,q2⟩
 rw[grp,key];simp[cO]
def aV(ls known:Z9 Str):Z9 Nat:=ls.map λl=>known.idxOf l
def pk(c:Z9 Ce)(ps:Z9 Nat):Z9 Ce:=ps.map λi=>c.getD i default
def bG(h:∀l∈ls,l∈known):pk (known.map φ) (aV ls known)=ls.map φ:=by
 unfold pk aV;rw[Yi];refine YZ λl hl=>?_;have hi:=YF (h l hl);simp[hi]
def ins(x:Z9 Ce)(l:Z9 (Z9 Ce)):Z9 (Z9 Ce):=if x∈l then l else l++[x]
def Au:y∈ins x l↔y∈l\/y=x:=by
 unfold ins;split
 .constructor
  exact .inl
  .rintro(h|rfl)<;>assumption
 simp
def Do(h:l.Nodup):(ins x l).Nodup:=by
 unfold ins;split;exact h;rename_i n;rw[X1];exact⟨h,by simp,λa ha b hb e=>n (by simp at hb;rw[<-hb,<-e];exact ha)⟩
def qv(g:Gr)(sp kp:Z9 Nat)(l:Z9 (Z9 Ce))(c:Z9 Ce):Z9 (Z9 Ce):=(cO g (pk c sp)).foldl (λl a=>ins (pk c kp++a) l) l
def ext(found:Z9 (Z9 Ce))(sp kp:Z9 Nat)(g:Gr):Z9 (Z9 Ce):=found.foldl (qv g sp kp) []
def zr(g:Gr)(sp kp:Z9 Nat)(c:Z9 Ce)(l:Z9 (Z9 Ce))(h:l.Nodup):(qv g sp kp l c).Nodup/\∀x,x∈qv g sp kp l c↔x∈l\/∃a∈cO g (pk c sp),x=pk c kp++a:=by
 unfold qv;generalize cO g (pk c sp)=as
 induction as generalizing l with
 |nil=>exact⟨h,λx=>by simp⟩
 |cons a as ih=>
  rw[List.foldl_cons];obtain⟨h1,h2⟩:=ih _ (Do h);refine⟨h1,λx=>?_⟩;rw[h2,Au];simp only[ZZ,exists_eq_or_imp];constructor
  rintro((q|q)|q)
  exact .inl q;exact .inr (.inl q);exact .inr (.inr q)
  rintro(q|q|q)
  exact .inl (.inl q);exact .inl (.inr q);exact .inr q
def B3(found:Z9 (Z9 Ce))(sp kp:Z9 Nat)(g:Gr):(ext found sp kp g).Nodup/\∀x,x∈ext found sp kp g↔∃c∈found,∃a∈cO g (pk c sp),x=pk c kp++a:=by
 have key:∀(found l:Z9 (Z9 Ce)),l.Nodup->(found.foldl (qv g sp kp) l).Nodup/\∀x,x∈found.foldl (qv g sp kp) l↔x∈l\/∃c∈found,∃a∈cO g (pk c sp),x=pk c kp++a:=by
  intro found
  induction found with
  |nil=>intro l h;exact⟨h,λx=>by simp⟩
  |cons c found ih=>
   intro l h;obtain⟨e1,e2⟩:=zr g sp kp c l h;obtain⟨h1,h2⟩:=ih _ e1;rw[List.foldl_cons];refine⟨h1,λx=>?_⟩;rw[h2,e2];simp only[ZZ,exists_eq_or_imp];constructor
   rintro((q|q)|q)
   exact .inl q;exact .inr (.inl q);exact .inr (.inr q)
   rintro(q|q|q)
   exact .inl (.inl q);exact .inl (.inr q);exact .inr q
 obtain⟨h1,h2⟩:=key found [] Yt;exact⟨h1,λx=>by rw[ext,h2];simp⟩
theorem rG:∀{kn:Z9 Str}{x:Z9 Ce},kn.Nodup->x.length=kn.length->∃φ:Fit,x=kn.map φ
 |[],[],_,_=>⟨λ_=>default,rfl⟩
 |[],_::_,_,h=>by simp at h
 |_::_,[],_,h=>by simp at h
 |l::ks,c::x,nd,h=>by
  obtain⟨h1,h2⟩:=YS.mp nd;obtain⟨φ,e⟩:=rG h2 (by simpa using h);refine⟨λk=>if k=l then c else φ k,?_⟩;rw[Z1,ZO rfl,e];congr 1;exact YZ λk hk=>(ZJ λz:k=l=>h1 (z▸hk)).symm
structure Jn (rows:List Row)(kn:List Str)(fd:List (List Ce))(wanted:List Str)(done aq:List Pat)(known:List Str)(found:List (List Ce)):Prop where
 nk:known.Nodup
 nf:found.Nodup
 mem:∀x,x∈found↔∃φ:Fit,x=known.map φ/\kn.map φ∈fd/\∀p∈done,gU rows φ p
 has:∀l,(l∈kn\/∃p∈done,l∈ans p.2)->(l∈wanted\/∃p∈aq,l∈ans p.2)->l∈known
 few:∀l∈known,l∈wanted\/∃p∈aq,l∈ans p.2
def wP(rows:Z9 Row){aq:Z9 Pat}(h1:kn.Nodup)(h2:fd.Nodup)(h3:∀x∈fd,x.length=kn.length)(h4:∀l∈kn,l∈wanted\/∃p∈aq,l∈ans p.2):Jn rows kn fd wanted [] aq kn fd:=
 ⟨h1,h2,λx=>⟨λh=>by obtain⟨φ,rfl⟩:=rG h1 (h3 x h);exact⟨φ,rfl,h,λp hp=>(by trivial)⟩,λhz=>by obtain⟨φ,rfl,h,_⟩:=hz;exact h⟩,λl hz _=>by rcases hz with h|⟨p,hp,_⟩;exact h;trivial,h4⟩
def AV{rows:Z9 Row}{kn:Z9 Str}{fd:Z9 (Z9 Ce)}{wanted:Z9 Str}{done aq:Z9 Pat}{p:Pat}{known own later:Z9 Str}{found:Z9 (Z9 Ce)}(J:Jn rows kn fd wanted done (p::aq) known found)
  (Jt:∀l,l∈own↔l∈ans p.2)(Ji:own.Nodup)(KJ:∀l,l∈later↔l∈wanted\/∃q∈aq,l∈ans q.2):
  Jn rows kn fd wanted (done++[p]) aq (known.filter (λl=>decide (l∈later))++own.filter λl=>decide (l∈later)&&!decide (l∈known))
   (ext found (aV (own.filter λl=>decide (l∈known)) known) (aV (known.filter λl=>decide (l∈later)) known)
    (grp (binds rows p) (own.filter λl=>decide (l∈known)) (own.filter λl=>decide (l∈later)&&!decide (l∈known)))):=by
 obtain⟨e1,e2⟩:=B3 found (aV (own.filter λl=>decide (l∈known)) known) (aV (known.filter λl=>decide (l∈later)) known) (grp (binds rows p) (own.filter λl=>decide (l∈known)) (own.filter λl=>decide (l∈later)&&!decide (l∈known)));have Ll:∀l∈own.filter (λl=>decide (l∈known)),l∈known:=λl hl=>by simp at hl;exact hl.2
 have KH:∀l∈known.filter (λl=>decide (l∈later)),l∈known:=λl hl=>by simp at hl;exact hl.1
 refine⟨?_,e1,λx=>?_,λl hd hw=>?_,λl hl=>?_⟩;rw[X1];refine⟨J.nk.filter _,Ji.filter _,λa ha b hb e=>?_⟩;subst e;simp at ha hb;exact hb.2.2 ha.1
 .rw[e2]
  constructor
  .rintro⟨c,hc,a,ha,rfl⟩
   obtain⟨φ,rfl,hf,IE⟩:=(J.mem c).mp hc;rw[bG Ll,mS]at ha;obtain⟨b,hb,h1,h2⟩:=ha;obtain⟨bs1,bs2⟩:=dI hb;have hv:∀l∈own,∃c,gt b l=U c:=λl hl=>bs1 l ((Jt l).mp hl);have TH:∀l∈known,(if l∈own then(gt b l).getD default else φ l)=φ l:=λl hk=>by
    split;rename_i ho;have hs:l∈own.filter (λl=>decide (l∈known)):=by simp;exact⟨ho,hk⟩
    unfold vl at h1;exact(XF.mp h1) l hs;rfl
   have TJ:∀l,(l∈kn\/∃q∈done,l∈ans q.2)->(if l∈own then(gt b l).getD default else φ l)=φ l:=λl hl=>by
    by_cases ho:l∈own;exact TH l (J.has l hl (.inr ⟨p,ZW ..,(Jt l).mp ho⟩));rw[ZJ ho]
   refine⟨λl=>if l∈own then(gt b l).getD default else φ l,?_,?_,λq hq=>?_⟩;rw[bG KH,Y2];congr 1;exact YZ λl hl=>(TH l (KH l hl)).symm;rw[<-h2];unfold vl;refine YZ λl hl=>?_;simp at hl;rw[ZO hl.1];rw[YZ λl hl=>TJ l (.inl hl)];exact hf;rcases Zr.mp hq with hq|hq
   exact dl (λl hl=>(TJ l (.inr ⟨q,hq,hl⟩)).symm) (IE q hq);rw[Zv.mp hq];refine bs2 _ λl hl=>?_;have ho:=(Jt l).mpr hl;obtain⟨c,hc⟩:=hv l ho;rw[ZO ho,hc];rfl
  rintro⟨φ,rfl,hf,IE⟩
  obtain⟨b,hb,NH⟩:=p0 (IE p (ZI _ (Zv.mpr rfl)));refine⟨known.map φ,(J.mem _).mpr ⟨φ,rfl,hf,λq hq=>IE q (Y9 _ hq)⟩,(own.filter λl=>decide (l∈later)&&!decide (l∈known)).map φ,?_,?_⟩;rw[bG Ll,mS];refine⟨b,hb,?_,?_⟩;unfold vl;refine YZ λl hl=>?_;rw[NH l ((Jt l).mp (Y6.mp hl).1)];rfl;unfold vl;refine YZ λl hl=>?_;rw[NH l ((Jt l).mp (Y6.mp hl).1)];rfl;rw[bG KH,Y2]
 have SR:l∈later:=(KJ l).mpr hw;by_cases hk:l∈known;exact Y9 _ (Y6.mpr ⟨hk,by simpa using SR⟩);have ho:l∈own:=WY λho=>hk (J.has l (hd.imp id λ⟨q,hq,hl⟩=>⟨q,(Zr.mp hq).elim id λz=>absurd ((Jt l).mpr (by rw[<-Zv.mp z];exact hl)) ho,hl⟩) (hw.imp id λ⟨q',Kv,IM⟩=>⟨q',Z2 _ Kv,IM⟩));exact ZI _ (Y6.mpr ⟨ho,by simp[SR,hk]⟩);rcases Zr.mp hl with hl|hl
 exact(KJ l).mp (by simpa using(Y6.mp hl).2);have:=(Y6.mp hl).2;simp at this;exact(KJ l).mp this.1
def Cp(J:Jn rows kn fd wanted done [] known found)(hw:∀l∈wanted,l∈kn\/∃p∈done,l∈ans p.2):
  (found.map λc=>pk c (aV wanted known)).Nodup/\∀x,x∈found.map (λc=>pk c (aV wanted known))↔∃φ:Fit,x=wanted.map φ/\kn.map φ∈fd/\∀p∈done,gU rows φ p:=by
 have wk:∀l∈wanted,l∈known:=λl hl=>J.has l (hw l hl) (.inl hl);have kw:∀l∈known,l∈wanted:=λl hl=>(J.few l hl).elim id λhz=>by obtain⟨p,hp,_⟩:=hz;trivial
 constructor;rw[List.nodup_iff_pairwise_ne,List.pairwise_map];refine J.nf.imp_of_mem λ{c d} hc hd y_ e=>y_ ?_;obtain⟨φ,rfl,_⟩:=(J.mem c).mp hc;obtain⟨q,rfl,_⟩:=(J.mem d).mp hd;rw[bG wk,bG wk]at e;exact YZ λl hl=>(XF.mp e) l (kw l hl);intro x;rw[ZV];constructor
 rintro⟨c,hc,rfl⟩
 obtain⟨φ,rfl,IE⟩:=(J.mem c).mp hc;exact⟨φ,bG wk,IE⟩
 rintro⟨φ,rfl,IE⟩
 exact⟨known.map φ,(J.mem _).mpr ⟨φ,rfl,IE⟩,bG wk⟩
end JP
namespace K34
open PySem L2
variable[Lams]
local macro_rules| `(tactic|walk_at "z")=> `(tactic|first
 |fail_if_success refine(?_:(_:Prop))
 |rfl
 |assumption
 |(((with_reducible first|refine' @nv .. |refine' @kQ .. |refine' @xU .. |refine' @xG .. |refine' @nU .. |refine' @zY .. |refine' @BS .. |refine' @Cj .. |refine' @B1 .. |refine' @vN .. |refine' @Bj .. |refine' @xw .. |refine' @Bt .. |refine' @CH .. |refine' @Cz .. |refine' @Db .. |refine' @zZ .. |refine' @sZ .. |refine' @BT .. |refine' @vG .. |refine' @Fq .. |refine' @yD .. |refine' @Fe .. |refine' @EU .. |refine' @CQ .. |refine' @E4 .. |refine' @uY .. |refine' @Aj .. |refine' @zj .. |refine' @wT .. |refine' @j9 .. |refine' @nC .. |refine' @oA .. |refine' @v0 .. |refine' @sW .. |refine' @qg .. |refine' @abv .. |refine' @Ae .. |refine' @tW .. |refine' @ya .. |refine' @yB .. |refine' @vt .. |refine' @rq .. |refine' @vR .. |refine' @zh .. |refine' @C9 .. |refine' @Cy .. |refine' @Ec .. |refine' @vH .. |refine' @E7 .. |refine' @E5 .. |refine' @rJ .. |refine' @yS .. |refine' @Ds .. |refine' @uE .. |refine' @nI .. |refine' @Be .. |refine' @wW .. |refine' @jH .. |refine' @qh .. |refine' @iC .. |refine' @zp .. |refine' @BA .. |refine' @EH .. |refine' @uK .. |refine' @Ch .. |refine' @pi .. |refine' @fX .. |refine' @cH .. |refine' @kI .. |refine' @zt .. |refine' @lV .. |refine' @Bx .. |refine' @AE .. |refine' @Aq .. |refine' @Dg .. |refine' @BZ .. |refine' @iQ .. |refine' @wy .. |refine' @As .. |refine' @A0 .. |refine' @yW .. |refine' @l6 .. |refine' @tK .. |refine' @qX .. |refine' @ze .. |refine' @zC .. |refine' @Cd .. |refine' @Fd .. |refine' @Cw .. |refine' @AY .. |refine' @zJ .. |refine' @tO .. |refine' @dW .. |refine' @mi .. |refine' @DF.share .. |refine' @yh .. |refine' @BP .. |refine' PW.pt ..)<;>walk_at "z");all_goals exact false)
 |(have h:=(by assumption:Has _ _ _);first|exact Has.nm h (by decide +kernel)|exact Has.nm (Has.comp h ..) (by decide +kernel)|exact Has.nm (Has.comp (Has.comp h ..) ..) (by decide +kernel))
 |(have h:=(by assumption:Has _ _ _);first|exact Has.lc h (by assumption) (by decide +kernel)|exact Has.lcl (Has.comp h ..) (by decide +kernel)|exact Has.lcl (Has.comp (Has.comp h ..) ..) (by decide +kernel))
 |(refine Gb.gl ?_;walk_at "z")
 |(have h:=(by assumption:Has _ _ _);first|exact Has.gb h (by decide +kernel)|exact Has.gb (Has.comp h ..) (by decide +kernel)|exact Has.gb (Has.comp (Has.comp h ..) ..) (by decide +kernel))
 |(have h:=(by assumption:Txb _ _);exact Txb.get h (by decide +kernel))
 |(have h:=(by assumption:aaq _ _);exact aaq.mono h (by decide))
 |(have h:=(by assumption:Has _ _ _);first|exact Has.calm h|exact Has.calm (Has.comp h ..)|exact Has.calm (Has.comp (Has.comp h ..) ..))
 |(have h:=(by assumption:Has _ _ _);first|exact Has.nd h|exact Has.nd (Has.comp h ..)|exact Has.nd (Has.comp (Has.comp h ..) ..))
 |(have h:=(by assumption:Has _ _ _);first|exact aag.of' h (by decide +kernel)|exact aag.of' (Has.comp h ..) (by decide +kernel))
 |exact gB _
 |exact u8 _ _ (by decide)
 |exact ED
 |exact Ff
 |exact EK
 |exact Eu
 |exact bt_int
 |exact bt_bool
 |exact bt_str
 |exact uw
 |exact oC
 |exact bN (bN gg)
 |exact bN gg
 |exact bN (bN (bN gg))
 |exact⟨rfl,rfl,rfl,rfl,rfl⟩|(have h:=(by assumption:Has _ _ _);exact eW h (by decide +kernel))
 |decide +kernel
 |decide
 |(simp;done)
 |(intros;rfl)
 |(intro _;walk_at "z"))
local macro_rules| `(tactic|walk_at "sc")=> `(tactic|first
 |exact⟨rfl,rfl,rfl,by decide +kernel,rfl,by decide +kernel,by decide +kernel⟩)
local macro_rules| `(tactic|walk_at "bi")=> `(tactic|first
 |exact λ_ _ _ _ _ _=>usS λ_=>us0 rfl
 |exact λ_ _ _ _ _ _=>usS λ_=>usS λ_=>us0 rfl
 |exact λ_ _ _ _ _ _=>usS λ_=>usS λ_=>usS λ_=>us0 rfl
 |exact λ_ _ _ _ _ _=>usS λ_=>usS λ_=>usS λ_=>usS λ_=>us0 rfl
 |exact λ_ _ _ _ _ _=>usS λ_=>usS λ_=>usS λ_=>usS λ_=>usS λ_=>us0 rfl)
local macro_rules| `(tactic|walk_at "mk")=> `(tactic|first
 |(intro X e1 e2 e3 e4 e5 h f p r;subst e1 e2 e3 e4 e5;have u:=r.units;(conv in defBody _=>whnf);walk_at "z"))
abbrev rY:=rd Y
abbrev Txt:(Str->Z8 Z3)->Prop:=Txb blK
noncomputable abbrev G6:Z9 Str:=["rows"]
abbrev EM(q:Mk):Z8 Out:=dJ (aaD .ts Y (rY 0 q))
def JQ:Z9 D->Z8 (D×Bool):=bO 1 1 EM
noncomputable abbrev GP:Z9 Str:=["row","cell_for","cell"]
abbrev sn(q:Mk):Z8 D:=ce (rY 1 q) (rY 2 q) (rY 2 q)
abbrev E8(q:Mk):Z8 Out:=d9 (dO (aa (ixO (rY 0 q) (U (.int 0))) (aa (c8 (am (ae (yZ (ixO (rY 0 q) (U (.int 1)))) (bL Y [Y,L,Y] (af 2) (λq=>U L) sn q)))) (U []))))
def LA:Z9 D->Z8 (D×Bool):=bO 3 2 E8
noncomputable abbrev G4:Z9 Str:=["patterns","letters","table","terms","term"]
abbrev oR(q:Mk):Z8 D:=ixO (rY 4 q) (U (.int 1))
abbrev tT(q:Mk):Z8 Out:=zR 1 (am (ae (yZ (rY 3 q)) (bL Y [Y,Y,Y,Y,Y] (af 4) (λq=>eqO (ixO (rY 4 q) (U (.int 0))) (U (.str "any"))) oR q))) q
abbrev yL(q:Mk):Z8 Out:=dJ (aaD .st L (rY 1 q))
abbrev Ep(q:Mk):Z8 Out:=aG (eM 1 (cF (U [])) q) (λq=>aG (ae (b9 (rY 0 q)) λds=>aw (λd q=>ae ((be (aj (af 2) (aj (af 3) (aan)))) d q) tT) ds q) (λq=>yL (aaK 1 q)))
def p_:Z9 D->Z8 (D×Bool):=bO 5 1 Ep
noncomputable abbrev Ik:Z9 Str:=["terms","cells","binding","term","cell"]
abbrev yI(q:Mk):Z8 (Bool×Mk):=neX (sdO 2 (ixO (rY 3 q) (U (.int 1))) (rY 4 q) q) (λq=>rY 4 q)
abbrev ln(q:Mk):Z8 Out:=ifO (eqO (ixO (rY 3 q) (U (.int 0))) (U (.str "any"))) (ifX (yI q) (λq=>d9 (U .non)) (λq=>aaz q)) (ifO (neO (rY 3 q) (rY 4 q)) (d9 (U .non)) (aaz q))
abbrev EI(q:Mk):Z8 Out:=aG (eM 2 (U (.dK [] [])) q) (λq=>aG (ae (Bz L L (rY 0 q) (rY 1 q)) λds=>aw (λd q=>ae ((be (aj (af 3) (aj (af 4) (aan)))) d q) ln) ds q) (λq=>dJ (ca 2 q)))
def Ly:Z9 D->Z8 (D×Bool):=bO 5 2 EI
noncomputable abbrev GA:Z9 Str:=["rows","pattern","found","table","cells","binding"]
abbrev hY(q:Mk):Z8 Out:=ifO (yJ (eqO (rY 3 q) (ixO (rY 1 q) (U (.int 0)))) (eqO (mq (rY 4 q)) (mq (ixO (rY 1 q) (U (.int 1)))))) (aG (bx 5 (shO (ae (aa (ixO (rY 1 q) (U (.int 1))) (aa (rY 4 q) (U []))) Ly)) q) (λq=>ifO (g8 (yf (rY 5 q))) (jv 2 (rY 5 q) q) (aaz q))) (aaz q)
abbrev Ek(q:Mk):Z8 Out:=aG (eM 2 (cF (U [])) q) (λq=>aG (ae (b9 (rY 0 q)) λds=>aw (λd q=>ae ((be (aj (af 3) (aj (af 4) (aan)))) d q) hY) ds q) (λq=>dJ (ca 2 q)))
def KW:Z9 D->Z8 (D×Bool):=bO 6 2 Ek
noncomputable abbrev Hx:Z9 Str:=["pattern","known","letter"]
abbrev rh(q:Mk):Z8 D:=ofB (inO (rY 2 q) (rY 1 q))
abbrev Fg(q:Mk):Z8 Out:=d9 (DV (am (ae (b9 (frO (ae (aa (cF (aa (rY 0 q) (U []))) (U [])) p_))) (bL Y [Y,L,Y] (af 2) (λq=>U L) rh q))))
def Kd:Z9 D->Z8 (D×Bool):=bO 3 2 Fg
noncomputable abbrev EV:Z9 Str:=["rows","body","known","rest","placed","bound","linked","taken","pattern","pair"]
abbrev lN(q:Mk):Z8 D:=dO (aa (rY 8 q) (aa (frO (ae (aa (rY 0 q) (aa (rY 8 q) (U []))) KW)) (U [])))
abbrev iF(q:Mk):Z8 D:=mq (ixO (rY 0 q) (U (.int 1)))
abbrev oY(q:Mk):Z8 D:=ixO (rY 9 q) (U (.int 0))
abbrev oz(q:Mk):Z8 Bool:=tyB (shO (ae (aa (ixO (rY 9 q) (U (.int 0))) (aa (rY 5 q) (U []))) Kd))
abbrev rl(q:Mk):Z8 Out:=jv 4 (rY 7 q) q
abbrev kF(q:Mk):Z8 Bool:=uh (rd L 3 q)
abbrev ky(q:Mk):Z8 Out:=aG (bx 5 (lO (jh (rY 2 q)) (flO (ae (aa (am (fP (ae (b9 (rd L 4 q)) (bL L [Y,Y,Y,Y,Y,Y,Y,Y,Y,Y] (af 9) (λq=>U L) oY q)))) (U [])) p_))) q) (λq=>se 3 6 7 9 [Y,Y,Y,Y,Y,L,Y,Y,Y,Y] oz q rl)
abbrev L6(q:Mk):Z8 Out:=aG (eM 3 (io (am (ae (b9 (rY 1 q)) (bL Y [L,Y,Y,Y,Y,Y,Y,Y,Y,Y] (af 8) (λq=>U L) lN q))) (λd=>iF [U (d,Y)])) q) (λq=>aG (eM 4 (cF (U [])) q) (λq=>aG (dy kF ky 1000 q) (λq=>dJ (ca 4 q))))
def Lz:Z9 D->Z8 (D×Bool):=bO 10 3 L6
noncomputable abbrev HN:Z9 Str:=["letters","known","letter"]
abbrev rW(q:Mk):Z8 D:=Bn (rY 1 q) (rY 2 q)
abbrev Fj(q:Mk):Z8 Out:=dJ (am (ae (b9 (rY 0 q)) (bL Y [Y,L,Y] (af 2) (λq=>U L) rW q)))
def Kc:Z9 D->Z8 (D×Bool):=bO 3 2 Fj
noncomputable abbrev Hl:Z9 Str:=["found","shared","added","groups","binding","key","group","letter"]
abbrev IZ(q:Mk):Z8 D:=Bp (rY 4 q) (rY 7 q)
abbrev yT(q:Mk):Z8 D:=Bp (rY 4 q) (rY 7 q)
abbrev yr(q:Mk):Z8 (Z9 D):=b9 (rY 0 q)
abbrev oG(q:Mk):Z8 D:=c8 (am (ae (b9 (rY 1 q)) (bL Y [Y,Y,Y,Y,L,Y,Y,Y] (af 7) (λq=>U L) IZ q)))
abbrev o7(q:Mk):Z8 D:=c8 (am (ae (b9 (rY 2 q)) (bL Y [Y,Y,Y,Y,L,Y,Y,Y] (af 7) (λq=>U L) yT q)))
abbrev E6(q:Mk):Z8 Out:=Cu 3 4 5 6 yr oG o7 q
def Lx:Z9 D->Z8 (D×Bool):=bO 8 3 E6
noncomputable abbrev HQ:Z9 Str:=["cells","places","place"]
abbrev tX(q:Mk):Z8 D:=ixO (rY 0 q) (rY 2 q)
abbrev EG(q:Mk):Z8 Out:=d9 (c8 (am (ae (b9 (rY 1 q)) (bL Y [L,Y,Y] (af 2) (λq=>U L) tX q))))
def JO:Z9 D->Z8 (D×Bool):=bO 3 2 EG
noncomputable abbrev HV:Z9 Str:=["found","shared_places","kept_places","groups","longer","cells","kept","added"]
abbrev ui(q:Mk):Z8 Out:=wu 4 (sM (rY 6 q) (rY 7 q)) (U (.bl L)) q
abbrev r0(q:Mk):Z8 Out:=aG (bx 6 (shO (ae (aa (rY 5 q) (aa (rY 2 q) (U []))) JO)) q) (λq=>ae (vw (ce (rY 3 q) (shO (ae (aa (rY 5 q) (aa (rY 1 q) (U []))) JO)) (U (.dD [] [])))) λds=>aw (λd q=>ae ((af 7) d q) ui) ds q)
abbrev xY(q:Mk):Z8 Out:=dJ (oj (rY 4 q))
abbrev D4(q:Mk):Z8 Out:=aG (eM 4 (U (.dD [] [])) q) (λq=>aG (ae (b9 (rY 0 q)) λds=>aw (λd q=>ae ((af 5) d q) r0) ds q) (λq=>xY (aaK 4 q)))
def Lw:Z9 D->Z8 (D×Bool):=bO 8 4 D4
noncomputable abbrev HX:Z9 Str:=["rows","body","wanted","known","found","pairs","place","pair","later","own","shared","added","kept","groups","wanted_places","letter","cells","behind"]
abbrev uW(q:Mk):Z8 D:=ixO (rY 17 q) (U (.int 0))
abbrev yQ(q:Mk):Z8 D:=rY 15 q
abbrev yz(q:Mk):Z8 D:=rY 15 q
abbrev xM(q:Mk):Z8 D:=rY 15 q
abbrev yM(q:Mk):Z8 Out:=aG (bx 13 (frO (ae (aa (ixO (rY 7 q) (U (.int 1))) (aa (rY 10 q) (aa (rY 11 q) (U [])))) Lx)) q) (λq=>aG (bx 4 (frO (ae (aa (rY 4 q) (aa (frO (ae (aa (rY 10 q) (aa (rY 3 q) (U []))) Kc)) (aa (frO (ae (aa (rY 12 q) (aa (rY 3 q) (U []))) Kc)) (aa (rY 13 q) (U []))))) Lw)) q) (λq=>bx 3 (lO (rY 12 q) (rY 11 q)) q))
abbrev yO(q:Mk):Z8 Out:=aG (eM 12 (am (ae (b9 (rY 3 q)) (bL Y [Y,Y,Y,Y,Y,Y,Y,Y,L,Y,Y,Y,Y,Y,Y,Y,Y,Y] (af 15) (λq=>inO (rY 15 q) (rY 8 q)) xM q))) q) (λq=>yM (aaK 12 q))
abbrev yn(q:Mk):Z8 Out:=aG (eM 11 (am (ae (b9 (rY 9 q)) (bL Y [Y,Y,Y,L,Y,Y,Y,Y,L,Y,Y,Y,Y,Y,Y,Y,Y,Y] (af 15) (λq=>yJ (inO (rY 15 q) (rY 8 q)) (bu (rY 15 q) (rY 3 q))) yz q))) q) (λq=>yO (aaK 11 q))
abbrev kC(q:Mk):Z8 Out:=aG (bx 8 (lO (jh (rY 2 q)) (frO (ae (aa (am (ae (b9 (g9 (rY 5 q) (eQ (eL (rY 6 q) (U (.int 1)))) (U M))) (bL Y [Y,Y,Y,Y,Y,Y,Y,Y,Y,Y,Y,Y,Y,Y,Y,Y,Y,Y] (af 17) (λq=>U L) uW q))) (U [])) p_))) q) (λq=>aG (bx 9 (frO (ae (aa (cF (aa (ixO (rY 7 q) (U (.int 0))) (U []))) (U [])) p_)) q) (λq=>aG (eM 10 (am (ae (b9 (rY 9 q)) (bL Y [Y,Y,Y,L,Y,Y,Y,Y,Y,Y,Y,Y,Y,Y,Y,Y,Y,Y] (af 15) (λq=>inO (rY 15 q) (rY 3 q)) yQ q))) q) (λq=>yn (aaK 10 q))))
abbrev yq(q:Mk):Z8 D:=shO (ae (aa (rY 16 q) (aa (rY 14 q) (U []))) JO)
abbrev Ei(q:Mk):Z8 Out:=aG (bx 5 (frO (ae (aa (rY 0 q) (aa (rY 1 q) (aa (rY 3 q) (U [])))) Lz)) q) (λq=>aG (ae (wK (rY 5 q)) λds=>aw (λd q=>ae ((be (aj (af 6) (aj (af 7) (aan)))) d q) kC) ds q) (λq=>aG (bx 14 (frO (ae (aa (rY 2 q) (aa (rY 3 q) (U []))) Kc)) q) (λq=>dJ (gT .tt (am (ae (b9 (rY 4 q)) (bL Y [Y,Y,Y,Y,Y,Y,Y,Y,Y,Y,Y,Y,Y,Y,L,Y,Y,Y] (af 16) (λq=>U L) yq q)))))))
def Ke:Z9 D->Z8 (D×Bool):=bO 18 5 Ei
noncomputable abbrev Ig:Z9 Str:=["rows","body","known","found","letters","cells"]
abbrev xJ(q:Mk):Z8 D:=qq Y L (rY 4 q) (rY 5 q)
abbrev Ex(q:Mk):Z8 Out:=aG (bx 4 (frO (ae (aa (rY 1 q) (U [])) p_)) q) (λq=>dJ (am (ae (b9 (frO (ae (aa (rY 0 q) (aa (rY 1 q) (aa (rY 4 q) (aa (rY 2 q) (aa (rY 3 q) (U [])))))) Ke))) (bL Y [Y,Y,Y,Y,L,Y] (af 5) (λq=>U L) xJ q))))
def Kf:Z9 D->Z8 (D×Bool):=bO 6 4 Ex
noncomputable abbrev HJ:Z9 Str:=["rows","body"]
abbrev Ey(q:Mk):Z8 Out:=dJ (frO (ae (aa (rY 0 q) (aa (rY 1 q) (aa (cF (U [])) (aa (cF (aa (dO (U [])) (U []))) (U []))))) Kf))
def KZ:Z9 D->Z8 (D×Bool):=bO 2 2 Ey
noncomputable abbrev GW:Z9 Str:=["patterns","fit","cell_for","pattern","cell","letter"]
abbrev xR(q:Mk):Z8 D:=dO (aa (dO (aa (U (.str "any")) (aa (rY 5 q) (U [])))) (aa (rY 4 q) (U [])))
abbrev yy(q:Mk):Z8 D:=shO (ae (aa (rY 3 q) (aa (rY 2 q) (U []))) LA)
abbrev EY(q:Mk):Z8 Out:=aG (bx 2 (iy (am (ae (b9 (rY 1 q)) (bL Y [Y,Y,Y,Y,Y,Y] (be (aj (af 5) (aj (af 4) (aan)))) (λq=>U L) xR q)))) q) (λq=>dJ (am (ae (b9 (rY 0 q)) (bL Y [Y,Y,L,Y,Y,Y] (af 3) (λq=>U L) yy q))))
def IS:Z9 D->Z8 (D×Bool):=bO 6 2 EY
noncomputable abbrev Ii:Z9 Str:=["rows","body","wanted"]
abbrev EA(q:Mk):Z8 Out:=dJ (frO (ae (aa (rY 0 q) (aa (rY 1 q) (aa (rY 2 q) (aa (cF (U [])) (aa (cF (aa (dO (U [])) (U []))) (U [])))))) Ke))
def KY:Z9 D->Z8 (D×Bool):=bO 3 3 EA
noncomputable abbrev HK:Z9 Str:=["rule","known","letter"]
abbrev yo(q:Mk):Z8 D:=rY 2 q
abbrev EZ(q:Mk):Z8 Out:=aG (bx 1 (frO (ae (aa (ixO (rY 0 q) (U (.int 1))) (U [])) p_)) q) (λq=>dJ (am (ae (b9 (frO (ae (aa (ixO (rY 0 q) (U (.int 2))) (U [])) p_))) (bL Y [Y,L,Y] (af 2) (λq=>bu (rY 2 q) (rY 1 q)) yo q))))
def Lv:Z9 D->Z8 (D×Bool):=bO 3 1 EZ
noncomputable abbrev HI:Z9 Str:=["rule"]
abbrev FJ(q:Mk):Z8 Out:=d9 (dO (aa (U (.str "same")) (aa (dO (aa (ixO (rY 0 q) (U (.int 2))) (aa (ixO (rY 0 q) (U (.int 3))) (U [])))) (U []))))
def Lu:Z9 D->Z8 (D×Bool):=bO 1 1 FJ
noncomputable abbrev Hz:Z9 Str:=["rule","known","letter"]
abbrev yi(q:Mk):Z8 D:=rY 2 q
abbrev Es(q:Mk):Z8 Out:=aG (ifO (eqO (ixO (rY 0 q) (U (.int 0))) (U (.str "same"))) (dJ (frO (ae (aa (cF (aa (shO (ae (aa (rY 0 q) (U [])) Lu)) (U []))) (U [])) p_))) (aaz q)) (λq=>aG (bx 1 (frO (ae (aa (ixO (rY 0 q) (U (.int 1))) (U [])) p_)) q) (λq=>dJ (am (ae (b9 (frO (ae (aa (ixO (rY 0 q) (U (.int 2))) (U [])) p_))) (bL Y [Y,L,Y] (af 2) (λq=>inO (rY 2 q) (rY 1 q)) yi q)))))
def Ka:Z9 D->Z8 (D×Bool):=bO 3 1 Es
noncomputable abbrev Ia:Z9 Str:=["cells"]
abbrev FG(q:Mk):Z8 Out:=d9 (ofB (neO (ixO (rY 0 q) (U (.int 0))) (ixO (rY 0 q) (U (.int 1)))))
def M6:Z9 D->Z8 (D×Bool):=bO 1 1 FG
noncomputable abbrev GJ:Z9 Str:=["rule","fit"]
abbrev F5(q:Mk):Z8 Out:=d9 (ixO (ixO (frO (ae (aa (cF (aa (shO (ae (aa (rY 0 q) (U [])) Lu)) (U []))) (aa (rY 1 q) (U []))) IS)) (U (.int 0))) (U (.int 1)))
def M5:Z9 D->Z8 (D×Bool):=bO 2 2 F5
noncomputable abbrev Hi:Z9 Str:=["rows","rule","letters","found","kept","cells"]
abbrev Di(q:Mk):Z8 D:=rY 5 q
abbrev yE(q:Mk):Z8 D:=dO (aa (rY 5 q) (aa (U (.bl L)) (U [])))
abbrev yc(q:Mk):Z8 D:=rY 5 q
abbrev ER(q:Mk):Z8 Out:=aG (bx 2 (frO (ae (aa (rY 1 q) (U [])) Ka)) q) (λq=>aG (bx 3 (frO (ae (aa (rY 0 q) (aa (ixO (rY 1 q) (U (.int 1))) (aa (rY 2 q) (U [])))) KY)) q) (λq=>aG (ifO (eqO (ixO (rY 1 q) (U (.int 0))) (U (.str "same"))) (dJ (am (ae (b9 (rY 3 q)) (bL Y [Y,L,L,Y,Y,Y] (af 5) (λq=>tyB (shO (ae (aa (shO (ae (aa (rY 1 q) (aa (qq Y L (rY 2 q) (rY 5 q)) (U []))) M5)) (U [])) M6))) Di q)))) (aaz q)) (λq=>aG (bx 4 (iy (am (ae (b9 (frO (ae (aa (rY 0 q) (aa (ixO (rY 1 q) (U (.int 2))) (aa (rY 2 q) (U [])))) KY))) (bL Y [Y,Y,Y,Y,Y,Y] (af 5) (λq=>U L) yE q)))) q) (λq=>dJ (am (ae (b9 (rY 3 q)) (bL Y [Y,Y,Y,Y,L,Y] (af 5) (λq=>g8 (Av (rY 5 q) (rY 4 q))) yc q)))))))
def J_:Z9 D->Z8 (D×Bool):=bO 6 2 ER
noncomputable abbrev Hq:Z9 Str:=["rows","rule"]
abbrev E9(q:Mk):Z8 Out:=dJ (frO (ae (aa (rY 0 q) (aa (ixO (rY 1 q) (U (.int 1))) (aa (frO (ae (aa (rY 1 q) (U [])) Ka)) (aa (frO (ae (aa (rY 0 q) (aa (rY 1 q) (U []))) J_)) (U []))))) Kf))
def Ju:Z9 D->Z8 (D×Bool):=bO 2 2 E9
noncomputable abbrev Il:Z9 Str:=["rows","rules","rule"]
abbrev yG(q:Mk):Z8 Out:=ifO (uh (frO (ae (aa (rY 0 q) (aa (rY 2 q) (U []))) J_))) (d9 (U (.bl Y))) (aaz q)
abbrev EF(q:Mk):Z8 Out:=aG (ae (b9 (rY 1 q)) λds=>aw (λd q=>ae ((af 2) d q) yG) ds q) (λq=>d9 (U (.bl L)))
def Kb:Z9 D->Z8 (D×Bool):=bO 3 2 EF
noncomputable abbrev Ht:Z9 Str:=["_law_cell","_law_j","_law_number"]
abbrev Ew(q:Mk):Z8 Out:=aG (bx 2 (dv (eL (tq (rY 0 q) (eL (tq (U (.int 2)) (rY 1 q)) (U (.int 3)))) (rY 1 q)) (U (.int 2147483629))) q) (λq=>d9 (dv (tq (eL (tq (rY 2 q) (rY 2 q)) (U (.int 1))) (U (.int 48271))) (U (.int 2147483629))))
def o_:Z9 D->Z8 (D×Bool):=bO 3 2 Ew
noncomputable abbrev G9:Z9 Str:=["_law_cell","_law_letters_here","_law_size","_law_stem","_law_at","_law_found","_law_k","_law_sign"]
abbrev uR(q:Mk):Z8 D:=vg (rY 1 q) (dv (shO (ae (aa (rY 0 q) (aa (eL (U (.int 2)) (rY 6 q)) (U []))) o_)) (U (.int 26)))
abbrev sN(q:Mk):Z8 Out:=aG (bx 7 (vg (rY 1 q) (dv (eL (vY (rY 1 q) (vg (rY 3 q) (rY 4 q))) (tq (U (.int 7)) (rY 6 q))) (U (.int 26)))) q) (λq=>jv 5 (Ba (Ba (ny (rY 3 q) (U M) (eQ (rY 4 q))) (rY 7 q)) (ny (rY 3 q) (eQ (eL (rY 4 q) (U (.int 1)))) (U M))) q)
abbrev yk(q:Mk):Z8 Out:=dJ (lO (rY 5 q) (cF (aa (Ba (rY 3 q) (vg (rY 1 q) (dv (shO (ae (aa (rY 0 q) (aa (U (.int 10)) (U []))) o_)) (U (.int 26))))) (aa (ny (rY 3 q) (U M) (eQ (DU (rY 2 q) (U (.int 1))))) (U [])))))
abbrev EB(q:Mk):Z8 Out:=aG (bx 1 (U (.str "abcdefghijklmnopqrstuvwxyz")) q) (λq=>aG (bx 2 (eL (U (.int 2)) (dv (shO (ae (aa (rY 0 q) (aa (U (.int 1)) (U []))) o_)) (U (.int 6)))) q) (λq=>aG (bx 3 (u6 (U (.str "")) (am (ae (oH (rY 2 q)) (bL Y [L,L,Y,Y,Y,Y,Y,Y] (af 6) (λq=>U L) uR q)))) q) (λq=>aG (bx 4 (dv (shO (ae (aa (rY 0 q) (aa (U (.int 9)) (U []))) o_)) (rY 2 q)) q) (λq=>aG (eM 5 (cF (U [])) q) (λq=>aG (ae (oH (U (.int 4))) λds=>aw (λd q=>ae ((af 6) d q) sN) ds q) (λq=>yk (aaK 5 q)))))))
def Ls:Z9 D->Z8 (D×Bool):=bO 8 1 EB
noncomputable abbrev GR:Z9 Str:=["_law_cell"]
abbrev E2(q:Mk):Z8 Out:=d9 (dO (aa (frO (ae (aa (rY 0 q) (U [])) Ls)) (aa (dv (shO (ae (aa (rY 0 q) (aa (U (.int 11)) (U []))) o_)) (U (.int 400000))) (aa (eL (U (.int 1)) (dv (shO (ae (aa (rY 0 q) (aa (U (.int 12)) (U []))) o_)) (U (.int 40000)))) (U [])))))
def KU:Z9 D->Z8 (D×Bool):=bO 1 1 E2
noncomputable abbrev Ha:Z9 Str:=["_law_cell","_law_letters_here","_law_start","_law_step","_law_k"]
abbrev tU(q:Mk):Z8 D:=vg (rY 1 q) (dv (eL (rY 2 q) (tq (rY 3 q) (rY 4 q))) (U (.int 26)))
abbrev Ej(q:Mk):Z8 Out:=aG (bx 1 (U (.str "ABCDEFGHIJKLMNOPQRSTUVWXYZ")) q) (λq=>aG (bx 2 (dv (shO (ae (aa (rY 0 q) (aa (U (.int 13)) (U []))) o_)) (U (.int 26))) q) (λq=>aG (bx 3 (ixO (cF (U [(.int 1),(.int 3),(.int 5),(.int 7),(.int 9),(.int 11)])) (dv (shO (ae (aa (rY 0 q) (aa (U (.int 14)) (U []))) o_)) (U (.int 6)))) q) (λq=>dJ (am (ae (oH (U (.int 6))) (bL Y [Y,L,L,L,Y] (af 4) (λq=>U L) tU q))))))
def KS:Z9 D->Z8 (D×Bool):=bO 5 1 Ej
noncomputable abbrev Hf:Z9 Str:=["_law_world_here","_law_number","_law_words_here","_law_start","_law_step"]
abbrev DR(q:Mk):Z8 Out:=aG (yR (rY 0 q) (be (aj (af 2) (aj (af 3) (aj (af 4) (aan))))) q) (λq=>aG (ifO (eqO (dv (rY 1 q) (U (.int 2))) (U (.int 0))) (d9 (dO (aa (U (.str "blank")) (aa (eL (rY 3 q) (tq (rY 4 q) (dv (AN (rY 1 q) (U (.int 2))) (U (.int 12))))) (U []))))) (aaz q)) (λq=>d9 (dO (aa (U (.str "name")) (aa (ixO (rY 2 q) (dv (AN (rY 1 q) (U (.int 2))) (U (.int 6)))) (U []))))))
def KQ:Z9 D->Z8 (D×Bool):=bO 5 2 DR
noncomputable abbrev GO:Z9 Str:=["_law_world_here","_law_cell","_law_size","_law_cells","_law_k"]
abbrev uX(q:Mk):Z8 D:=shO (ae (aa (rY 0 q) (aa (shO (ae (aa (rY 1 q) (aa (eL (U (.int 3)) (rY 4 q)) (U []))) o_)) (U []))) KQ)
abbrev xP(q:Mk):Z8 Out:=d9 (dO (aa (ixO (ixO (rY 0 q) (U (.int 0))) (dv (shO (ae (aa (rY 1 q) (aa (U (.int 2)) (U []))) o_)) (U (.int 2)))) (aa (c8 (rY 3 q)) (U []))))
abbrev Et(q:Mk):Z8 Out:=aG (bx 2 (eL (U (.int 1)) (dv (shO (ae (aa (rY 1 q) (aa (U (.int 1)) (U []))) o_)) (U (.int 3)))) q) (λq=>aG (eM 3 (am (ae (oH (rY 2 q)) (bL Y [L,L,Y,Y,Y] (af 4) (λq=>U L) uX q))) q) (λq=>xP (aaK 3 q)))
def Lr:Z9 D->Z8 (D×Bool):=bO 5 2 Et
noncomputable abbrev Ih:Z9 Str:=["_law_rows","_law_found","_law_row_here"]
abbrev nQ(q:Mk):Z8 Out:=ifO (bu (rY 2 q) (rd L 1 q)) (jv 1 (rY 2 q) q) (aaz q)
abbrev EO(q:Mk):Z8 Out:=aG (eM 1 (cF (U [])) q) (λq=>aG (ae (b9 (gT .ts (rY 0 q))) λds=>aw (λd q=>ae ((af 2) d q) nQ) ds q) (λq=>dJ (ca 1 q)))
def KP:Z9 D->Z8 (D×Bool):=bO 3 1 EO
noncomputable abbrev G7:Z9 Str:=["_law_letters_here","_law_rows","_law_cell","_law_table","_law_cells","_law_terms","_law_k","_law_drawn"]
abbrev nX(q:Mk):Z8 Out:=aG (bx 7 (shO (ae (aa (rY 2 q) (aa (eL (U (.int 17)) (rY 6 q)) (U []))) o_)) q) (λq=>ifO (orO (eqO (ixO (ixO (rY 4 q) (rY 6 q)) (U (.int 0))) (U (.str "blank"))) (eqO (dv (rY 7 q) (U (.int 2))) (U (.int 1)))) (jv 5 (dO (aa (U (.str "any")) (aa (ixO (rY 0 q) (dv (AN (rY 7 q) (U (.int 2))) (U (.int 4)))) (U [])))) q) (jv 5 (ixO (rY 4 q) (rY 6 q)) q))
abbrev xI(q:Mk):Z8 Out:=d9 (dO (aa (rY 3 q) (aa (c8 (rY 5 q)) (U []))))
abbrev Fc(q:Mk):Z8 Out:=aG (yR (ixO (rY 1 q) (dv (shO (ae (aa (rY 2 q) (aa (U (.int 16)) (U []))) o_)) (mq (rY 1 q)))) (be (aj (af 3) (aj (af 4) (aan)))) q) (λq=>aG (eM 5 (cF (U [])) q) (λq=>aG (ae (oH (mq (rY 4 q))) λds=>aw (λd q=>ae ((af 6) d q) nX) ds q) (λq=>xI (aaK 5 q))))
def Lp:Z9 D->Z8 (D×Bool):=bO 8 3 Fc
noncomputable abbrev HH:Z9 Str:=["_law_world_here","_law_letters_here","_law_cell","_law_found","_law_k","_law_terms","_law_j","_law_drawn"]
abbrev oW(q:Mk):Z8 Out:=aG (bx 7 (shO (ae (aa (rY 2 q) (aa (eL (eL (U (.int 43)) (tq (U (.int 3)) (rY 4 q))) (rY 6 q)) (U []))) o_)) q) (λq=>ifO (eqO (dv (rY 7 q) (U (.int 5))) (U (.int 0))) (jv 5 (dO (aa (U (.str "name")) (aa (ixO (ixO (rY 0 q) (U (.int 0))) (dv (AN (rY 7 q) (U (.int 5))) (U (.int 6)))) (U [])))) q) (jv 5 (dO (aa (U (.str "any")) (aa (ixO (rY 1 q) (eL (U (.int 1)) (dv (AN (rY 7 q) (U (.int 5))) (U (.int 5))))) (U [])))) q))
abbrev yP(q:Mk):Z8 Out:=jv 3 (dO (aa (ixO (ixO (rY 0 q) (U (.int 0))) (dv (shO (ae (aa (rY 2 q) (aa (eL (U (.int 50)) (rY 4 q)) (U []))) o_)) (U (.int 4)))) (aa (c8 (rY 5 q)) (U [])))) q
abbrev uB(q:Mk):Z8 Out:=aG (eM 5 (cF (U [])) q) (λq=>aG (ae (oH (eL (U (.int 1)) (dv (shO (ae (aa (rY 2 q) (aa (eL (U (.int 41)) (rY 4 q)) (U []))) o_)) (U (.int 3))))) λds=>aw (λd q=>ae ((af 6) d q) oW) ds q) (λq=>yP (aaK 5 q)))
abbrev E1(q:Mk):Z8 Out:=aG (eM 3 (cF (U [])) q) (λq=>aG (ae (oH (eL (U (.int 1)) (dv (shO (ae (aa (rY 2 q) (aa (U (.int 40)) (U []))) o_)) (U (.int 2))))) λds=>aw (λd q=>ae ((af 4) d q) uB) ds q) (λq=>dJ (ca 3 q)))
def KO:Z9 D->Z8 (D×Bool):=bO 8 3 E1
noncomputable abbrev Hg:Z9 Str:=["_law_rule","_law_start","_law_letters_here","_law_k"]
abbrev xT(q:Mk):Z8 D:=dO (aa (ixO (rY 2 q) (rY 3 q)) (aa (dO (aa (U (.str "blank")) (aa (eL (rY 1 q) (rY 3 q)) (U [])))) (U [])))
abbrev EE(q:Mk):Z8 Out:=aG (bx 2 (frO (ae (aa (rY 0 q) (U [])) Lv)) q) (λq=>dJ (am (ae (oH (mq (rY 2 q))) (bL Y [Y,L,L,Y] (af 3) (λq=>U L) xT q))))
def JN:Z9 D->Z8 (D×Bool):=bO 4 2 EE
noncomputable abbrev G0:Z9 Str:=["_law_rows","_law_rule","_law_every","_law_some","_law_fit","_law_there","_law_more","_law_left","_law_other","_law_row_here"]
abbrev CC(q:Mk):Z8 D:=rY 9 q
abbrev yK(q:Mk):Z8 Out:=ifO (orO (bu (rY 4 q) (rY 2 q)) (neO (rY 5 q) (cF (U [])))) (d9 (U (.bl Y))) (aaz q)
abbrev sf(q:Mk):Z8 Out:=aG (eM 5 (am (ae (b9 (frO (ae (aa (ixO (rY 1 q) (U (.int 1))) (aa (rY 4 q) (U []))) IS))) (bL Y [L,Y,Y,Y,Y,Y,Y,Y,Y,Y] (af 9) (λq=>bu (rY 9 q) (rY 0 q)) CC q))) q) (λq=>yK (aaK 5 q))
abbrev sI(q:Mk):Z8 Out:=ifO (yJ (inO (rY 8 q) (rY 2 q)) (bu (rY 8 q) (rY 3 q))) (d9 (U (.bl Y))) (aaz q)
abbrev ur(q:Mk):Z8 Out:=aG (bx 6 (frO (ae (aa (ixO (rY 1 q) (U (.int 2))) (aa (gT .ts (lO (rY 4 q) (frO (ae (aa (rY 1 q) (aa (U (.int 970000)) (U []))) JN)))) (U []))) IS)) q) (λq=>aG (bx 7 (frO (ae (aa (frO (ae (aa (lO (rY 0 q) (rY 6 q)) (U [])) JQ)) (aa (rY 1 q) (U []))) Ju)) q) (λq=>aG (ifO (inO (rY 4 q) (rY 7 q)) (d9 (U (.bl Y))) (aaz q)) (λq=>ae (b9 (rY 7 q)) λds=>aw (λd q=>ae ((af 8) d q) sI) ds q)))
abbrev EL(q:Mk):Z8 Out:=aG (ae (b9 (rY 3 q)) λds=>aw (λd q=>ae ((af 4) d q) sf) ds q) (λq=>aG (ae (b9 (g9 (rY 3 q) (U M) (eQ (U (.int 6))))) λds=>aw (λd q=>ae ((af 4) d q) ur) ds q) (λq=>d9 (U (.bl L))))
def KN:Z9 D->Z8 (D×Bool):=bO 10 4 EL
noncomputable abbrev acp:Z9 Str:=["_law_script","_law_cells","_law_total","_law_world_here","_law_letters_here","_law_rows","_law_many","_law_body","_law_rule","_law_kept","_law_some","_law_wide","_law_start","_law_fit","_law_left","_law_tables","_law_k","_law_table","_law_terms","_law_cell"]
abbrev mG(q:Mk):Z8 D:=shO (ae (aa (rd Y 3 q) (aa (rd Y 19 q) (U []))) Lr)
abbrev mC(q:Mk):Z8 D:=shO (ae (aa (rd Y 4 q) (aa (rd Y 5 q) (aa (eL (tq (rd Y 2 q) (U (.int 5))) (rd Y 16 q)) (U [])))) Lp)
abbrev jz(q:Mk):Z8 Out:=aG (bx 11 (lO (rd Y 11 q) (frO (ae (aa (ixO (rd Y 8 q) (U (.int 2))) (aa (gT .ts (lO (rd Y 13 q) (frO (ae (aa (rd Y 8 q) (aa (rd Y 12 q) (U []))) JN)))) (U []))) IS))) q) (λq=>bx 12 (eL (rd Y 12 q) (U (.int 6))) q)
abbrev AH(q:Mk):Z8 D:=rd Y 13 q
abbrev tV(q:Mk):Z8 D:=rd Y 17 q
abbrev tu(q:Mk):Z8 D:=rd Y 17 q
abbrev mN(q:Mk):Z8 Out:=aG (ifO (yJ (cI gLe (mq (rd Y 10 q)) (U (.int 5))) (eqO (am (ae (b9 (ixO (rd Y 8 q) (U (.int 2)))) (bL Y [Y,Y,Y,Y,Y,Y,Y,Y,Y,Y,Y,Y,Y,Y,Y,L,Y,Y,Y,Y] (be (aj (af 17) (aj (af 18) (aan)))) (λq=>inO (rd Y 17 q) (rd Y 15 q)) tu q))) (cF (U [])))) (d9 (ofB (eqO (rd Y 14 q) (cF (U []))))) (aaz q)) (λq=>d9 (U (.bl L)))
abbrev A9(q:Mk):Z8 Out:=aG (bx 15 (am (ae (b9 (rd Y 7 q)) (bL Y [Y,Y,Y,Y,Y,Y,Y,Y,Y,Y,Y,Y,Y,Y,Y,Y,Y,Y,Y,Y] (be (aj (af 17) (aj (af 18) (aan)))) (λq=>U L) tV q))) q) (λq=>mN q)
abbrev zo(q:Mk):Z8 Out:=aG (ifO (neO (cF (aa (rd Y 5 q) (aa (rd Y 7 q) (aa (ixO (rd Y 8 q) (U (.int 2))) (U []))))) (rd Y 9 q)) (d9 (U (.bl Y))) (aaz q)) (λq=>A9 q)
abbrev oB(q:Mk):Z8 Out:=aG (ifO (orO (neO (am (ae (b9 (rd Y 14 q)) (bL Y [Y,Y,Y,Y,Y,Y,Y,Y,Y,Y,L,Y,Y,Y,Y,Y,Y,Y,Y,Y] (af 13) (λq=>inO (rd Y 13 q) (g9 (rd Y 10 q) (U M) (eQ (U (.int 5))))) AH q))) (cF (U []))) (Dz (shO (ae (aa (frO (ae (aa (rd Y 11 q) (U [])) JQ)) (aa (cF (aa (rd Y 8 q) (U []))) (U []))) Kb)) (ofB (eqO (rd Y 14 q) (cF (U [])))))) (d9 (U (.bl Y))) (aaz q)) (λq=>zo q)
abbrev wc(q:Mk):Z8 Out:=aG (bx 14 (frO (ae (aa (frO (ae (aa (rd Y 11 q) (U [])) JQ)) (aa (rd Y 8 q) (U []))) Ju)) q) (λq=>oB q)
abbrev xa(q:Mk):Z8 Out:=aG (ae (b9 (g9 (rd Y 10 q) (U M) (eQ (U (.int 5))))) λds=>aw (λd q=>ae ((af 13) d q) jz) ds q) (λq=>wc q)
abbrev jD(q:Mk):Z8 Out:=aG (bx 11 (jh (rd Y 5 q)) q) (λq=>aG (bx 12 (U (.int 980000)) q) (λq=>xa q))
abbrev o8(q:Mk):Z8 Out:=aG (ifO (orO (g8 (tyB (shO (ae (aa (rd Y 5 q) (aa (rd Y 8 q) (aa (frO (ae (aa (rd Y 5 q) (aa (rd Y 7 q) (U []))) KZ)) (aa (rd Y 10 q) (U []))))) KN)))) (Dz (shO (ae (aa (rd Y 5 q) (aa (cF (aa (rd Y 8 q) (U []))) (U []))) Kb)) (ofB (eqO (rd Y 10 q) (cF (U [])))))) (d9 (U (.bl Y))) (aaz q)) (λq=>jD q)
abbrev w9(q:Mk):Z8 Out:=aG (bx 10 (frO (ae (aa (rd Y 5 q) (aa (rd Y 8 q) (U []))) Ju)) q) (λq=>o8 q)
abbrev wG(q:Mk):Z8 Out:=aG (bx 9 (cF (aa (jh (rd Y 5 q)) (aa (jh (rd Y 7 q)) (aa (jh (ixO (rd Y 8 q) (U (.int 2)))) (U []))))) q) (λq=>w9 q)
abbrev wO(q:Mk):Z8 Out:=aG (bx 8 (dO (aa (U (.str "must")) (aa (rd Y 7 q) (aa (g9 (frO (ae (aa (rd Y 3 q) (aa (rd Y 4 q) (aa (rd Y 2 q) (U [])))) KO)) (U M) (eQ (DU (U (.int 3)) (rd Y 6 q)))) (U []))))) q) (λq=>wG q)
abbrev vn(q:Mk):Z8 Out:=aG (eM 7 (am (ae (oH (rd Y 6 q)) (bL Y [Y,Y,L,Y,L,L,Y,Y,Y,Y,Y,Y,Y,Y,Y,Y,Y,Y,Y,Y] (af 16) (λq=>U L) mC q))) q) (λq=>wO (aaK 7 q))
abbrev wJ(q:Mk):Z8 Out:=aG (bx 6 (eL (U (.int 1)) (dv (shO (ae (aa (rd Y 2 q) (aa (U (.int 30)) (U []))) o_)) (U (.int 2)))) q) (λq=>vn q)
abbrev wU(q:Mk):Z8 Out:=aG (bx 5 (frO (ae (aa (am (ae (b9 (lO (rd Y 1 q) (cF (aa (rd Y 2 q) (U []))))) (bL Y [Y,Y,Y,L,Y,Y,Y,Y,Y,Y,Y,Y,Y,Y,Y,Y,Y,Y,Y,Y] (af 19) (λq=>U L) mG q))) (U [])) KP)) q) (λq=>wJ q)
abbrev wj(q:Mk):Z8 Out:=aG (bx 3 (shO (ae (aa (rd Y 2 q) (U [])) KU)) q) (λq=>aG (bx 4 (frO (ae (aa (rd Y 2 q) (U [])) KS)) q) (λq=>wU q))
abbrev BF(q:Mk):Z8 Out:=aG (bx 1 (g9 (rd Y 0 q) (U M) (eQ (U (.int 12)))) q) (λq=>aG (bx 2 (dv (Bo (rd Y 1 q)) (U (.int 1000003))) q) (λq=>wj q))
def f_law:Z9 D->Z8 (D×Bool):=bO 20 1 BF
section
variable{P:Y0}{w:YM}{K:Z6}{m:Str->Z8 Z3}{b:Heap}(T:Txt m)
include T
theorem Im(D:Df K m "stand_of" Go):FnM P w K m b 1 "stand_of" JQ:=
 mk 1 G6 EM D
theorem HD(D:Df K m "exchanged" Gw):FnM P w K m b 1 "exchanged" LA:=
 mk 2 GP E8 D
theorem GX(D:Df K m "letters_of" FH):FnM P w K m b 1 "letters_of" p_:=
 mk 1 G4 Ep D
theorem GQ(D:Df K m "binding_of" FI):FnM P w K m b 1 "binding_of" Ly:=
 mk 2 Ik EI D
theorem Gz(D:Df K m "bindings" Gk)(_:FnM P w K m b 1 "binding_of" Ly):FnM P w K m b 2 "bindings" KW:=
 mk 2 GA Ek D
theorem Hn(D:Df K m "is_linked" F8)(_:FnM P w K m b 1 "letters_of" p_):FnM P w K m b 2 "is_linked" Kd:=
 mk 2 Hx Fg D
omit T in
def BU:aaC EV (["rows","body","known"]:Z9 Str) (defScope Bq):=⟨rfl,rfl,rfl,by decide +kernel,rfl,by decide +kernel,by decide +kernel⟩
omit T in
theorem GH{X:Cx}(hX:Has X EV (defScope Bq))(hf:∀x,X.fn x=L)(hp:PassesOwn (model X.prog X.w) X.A X.env X.xe)(hr:aaq 3 X.A)(T:Txt X.mg)(P_ c_:ZM)(N7:((P_,("search_order.<locals>.<lambda>":Str)):ZM×Str)∈Lams.tb)(hLq:X.env.qual++"<lambda>"=("search_order.<locals>.<lambda>":Str))(N8:W.CodeHd X.base c_ P_)(hLc:X.env.code=.ref c_)(Na:FnM X.prog X.w X.K X.mg X.base 1 "letters_of" p_)(M9:FnM X.prog X.w X.K X.mg X.base 2 "bindings" KW)(M_:FnM X.prog X.w X.K X.mg X.base 2 "is_linked" Kd):
  DSs X (defBody Bq) L6:=by
 have hu:=hr.units;have n1:Nm X 1 "body":=hX.nm (by decide +kernel);have n2:Nm X 2 "known":=hX.nm (by decide +kernel);have n3:Nm X 3 "rest":=hX.nm (by decide +kernel);have l3:Lc X 3 "rest":=hX.lc hf (by decide +kernel);have n4:Nm X 4 "placed":=hX.nm (by decide +kernel);have l4:Lc X 4 "placed":=hX.lc hf (by decide +kernel);have l5:Lc X 5 "bound":=hX.lc hf (by decide +kernel);have n6:Nm X 6 "linked":=hX.nm (by decide +kernel);have n7:Nm X 7 "taken":=hX.nm (by decide +kernel);have l7:Lc X 7 "taken":=hX.lc hf (by decide +kernel);have OO:Gb X "letters_of":=hX.gb (by decide +kernel);have L_:Gb X "list":=hX.gb (by decide +kernel);have K1:Gb X "sorted":=hX.gb (by decide +kernel);refine' @dW _ _ _ _ _ _ ?z1 ?_
 case z1=>
  refine' @jH _ _ _ _ _ _ _ _ hX.nd l3 ?z2 (by rfl)
  case z2=>
   refine' @nu _ _ _ _ _ iF _ _ _ _ _ _ _ _ _ "pair" 0 (hr.mono (by decide)) K1.gl (Txb.get (x:="sorted") T (by decide +kernel)) N7 hLq N8 hLc rfl rfl ⟨rfl,rfl,rfl,by decide +kernel,rfl,by decide +kernel,by decide +kernel⟩ (λ_ _ _ _ _=>.of_eq rfl) ?z3 ?z4 (by rfl)
   case z3=>
    intro _ _ _ _ _ _;exact @sZ _ _ Y Y _ _ _ _ ((DN (N:=["pair"]) (by decide +kernel)).gb (x:="len") (by decide +kernel)) (Txb.get (x:="len") T (by decide +kernel)) (@xG _ _ Y Y _ _ _ _ _ (@nv _ _ _ _ _ Y ((DN (N:=["pair"]) (by decide +kernel)).nm (i:=0) (by decide +kernel))) (@kQ _ _ Y _ _ _) (by exact λ_ _=>rfl)) (by rfl)
   case z4=>
    refine' @DF.share _ _ Y _ _ ?z5
    case z5=>
     refine' @rq _ _ _ _ _ _ _ _ _ _ _ _ _ hX.calm (gB 8) (@lV _ _ Y _ _ _ (@nv _ _ _ _ _ Y n1)) (aag.of' hX (by decide +kernel)) (λcl C a_ b_ ex pn=>@iQ _ _ _ _ _ (hX.comp _ cl C a_ b_ ex pn).nd ((hX.comp _ cl C a_ b_ ex pn).lcl (i:=8) (by decide +kernel))) (λcl C a_ b_ ex pn=>@l6 _ _) ?z6 (by intro _;rfl)
     case z6=>
      intro cl C a_ b_ ex pn;refine' @yD _ _ Y _ _ _ _ ?z7
      case z7=>
       refine' @cH _ _ Y _ _ _ _ (@nv _ _ _ _ _ Y ((hX.comp _ cl C a_ b_ ex pn).nm (i:=8) (by decide +kernel))) ?z8 (by rfl)
       case z8=>
        refine' @cH _ _ Y _ _ _ _ ?z9 (@fX _ _ _) (by rfl)
        case z9=>
         refine' @DF.share _ _ Y _ _ ?OW
         case OW=>
          refine' @oA _ _ _ _ _ _ _ _ _ _ M9 (hr.mono (by decide)) ((hX.comp _ cl C a_ b_ ex pn).gb (x:="bindings") (by decide +kernel)) ?OV (by rfl) (by rfl)
          case OV=>
           exact @cH _ _ Y _ _ _ _ (@nv _ _ _ _ _ Y ((hX.comp _ cl C a_ b_ ex pn).nm (i:=0) (by decide +kernel))) (@cH _ _ Y _ _ _ _ (@nv _ _ _ _ _ Y ((hX.comp _ cl C a_ b_ ex pn).nm (i:=8) (by decide +kernel))) (@fX _ _ _) (by rfl)) (by rfl)
 refine' @dW _ _ _ _ _ _ ?OU ?_
 case OU=>
  exact @jH _ _ _ _ _ _ _ _ hX.nd l4 (@ya _ _ _ _ _ (@fX _ _ _)) (by rfl)
 refine @dW _ _ _ _ _ _ (@pi _ _ _ _ kF ky _ 1000 hp (@yS _ _ _ _ _ (@nv _ _ _ _ _ L n3) (by intro _;rfl)) ?_) ?_
 .refine' @dW _ _ _ _ _ _ ?OT ?_
  case OT=>
   refine' @uE _ _ _ _ _ _ _ _ hX.nd l5 ?Ud (by rfl)
   case Ud=>
    refine' @DF.share _ _ Y _ _ ?Uc
    case Uc=>
     refine' @yB _ _ _ _ _ _ _ ?Ub ?Ua
     case Ub=>
      exact @DF.share _ _ Y _ _ (@sW _ _ _ _ _ _ L_.gl (Txb.get (x:="list") T (by decide +kernel)) (@nv _ _ _ _ _ Y n2) (by rfl))
     case Ua=>
      refine' @DF.share _ _ Y _ _ ?T_
      case T_=>
       refine' @j9 _ _ _ _ _ _ _ _ _ _ Na (hr.mono (by decide)) OO ?T9 (by rfl) (by rfl)
       case T9=>
        refine' @cH _ _ _ _ _ _ _ ?T8 (@fX _ _ _) (by rfl)
        case T8=>
         refine' @DF.share _ _ L _ _ ?T7
         case T7=>
          refine' @nC _ _ _ _ _ _ _ _ _ _ _ _ _ hX.calm (gB 9) (@lV _ _ _ _ _ _ (@nv _ _ _ _ _ L n4)) (aag.of' hX (by decide +kernel)) (λcl C a_ b_ ex pn=>@iQ _ _ _ _ _ (hX.comp _ cl C a_ b_ ex pn).nd ((hX.comp _ cl C a_ b_ ex pn).lcl (i:=9) (by decide +kernel))) (λcl C a_ b_ ex pn=>@l6 _ _) ?T6 (by intro _;rfl)
          case T6=>
           intro cl C a_ b_ ex pn;exact @xG _ _ Y Y _ _ _ _ _ (@nv _ _ _ _ _ Y ((hX.comp _ cl C a_ b_ ex pn).nm (i:=9) (by decide +kernel))) (@kQ _ _ Y _ _ _) (by exact λ_ _=>rfl)
  refine' @uD _ _ 3 9 6 7 _ _ _ _ ([Y,Y,Y,Y,Y,L,Y,Y,Y,Y]) _ _ oz _ rl _ _ _ _ _ _ _ _ _ _ _ _ _ _ _ _ _ _ _ _ _ _ _ hu hX.nd hX.calm n3 n6 n7 l7 (jX hX (by decide +kernel)) (by decide) (by decide) (by decide) (aag.of' hX (by decide +kernel)) (λcl C a_ b_ ex pn=>mI (hX.comp _ cl C a_ b_ ex pn).nd ((hX.comp _ cl C a_ b_ ex pn).lcl (i:=9) (x:="pair") (by decide +kernel)).at' ((hX.comp _ cl C a_ b_ ex pn).lcl (i:=9) (x:="pair") (by decide +kernel)).loc ((hX.comp _ cl C a_ b_ ex pn).lcl (i:=9) (x:="pair") (by decide +kernel)).fnl) ?T5 (λcl C a_ b_ ex pn=>bF ((hX.comp _ cl C a_ b_ ex pn).nm (i:=9) (x:="pair") (by decide +kernel)).at' ((hX.comp _ cl C a_ b_ ex pn).nm (i:=9) (x:="pair") (by decide +kernel)).vis (by decide) (by decide)) ?_ (eW hX (by decide +kernel)) (by intro _;rfl) (by rfl) (by intro _;rfl) (λ_ _=>rfl) (λ_ _=>rfl) ⟨by rfl,by rfl,by rfl,by rfl,by rfl⟩ (by rfl)
  case T5=>
   intro cl C a_ b_ ex pn;refine' @tK _ _ _ _ ?T4
   case T4=>
    refine' @yh _ _ Y _ _ ?T3 (by intro _;rfl)
    case T3=>
     refine' @nU _ _ Y _ _ _ _ _ _ _ _ M_ (hr.mono (by decide)) ((hX.comp _ cl C a_ b_ ex pn).gb (x:="is_linked") (by decide +kernel)) ?T2 (by rfl) (by rfl)
     case T2=>
      exact @cH _ _ Y _ _ _ _ (@xG _ _ Y Y _ _ _ _ _ (@nv _ _ _ _ _ Y ((hX.comp _ cl C a_ b_ ex pn).nm (i:=9) (by decide +kernel))) (@kQ _ _ Y _ _ _) (by exact λ_ _=>rfl)) (@cH _ _ Y _ _ _ _ (@nv _ _ _ _ _ Y ((hX.comp _ cl C a_ b_ ex pn).nm (i:=5) (by decide +kernel))) (@fX _ _ _) (by rfl)) (by rfl)
  refine @mi _ _ _ _ (@iC _ _ _ _ _ _ _ _ _ _ n4 (@nv _ _ _ _ _ Y n7) ⟨by rfl,by rfl,by rfl,by rfl,by rfl⟩ (by rfl))
 refine @mi _ _ _ _ (@nI _ _ _ _ _ _ n4)
theorem G8{c_ P_:ZM}(D:DfC K m "search_order" Bq c_)(N7:((P_,("search_order.<locals>.<lambda>":Str)):ZM×Str)∈Lams.tb)(N8:W.CodeHd b c_ P_)(Na:FnM P w K m b 1 "letters_of" p_)(M9:FnM P w K m b 2 "bindings" KW)(M_:FnM P w K m b 2 "is_linked" Kd):
  FnM P w K m b 4 "search_order" Lz:=by
 obtain⟨f,fd,F,hm,OM⟩:=D;have hb:=F.binds (ps:=["rows","body","known"]) (by walk_at "bi");have h:=yH (P:=P) (w:=w) (base:=b) (k:=3) (g:=L6) F BU hb hm (by decide) λA outer s H E hr=>by
  exact @GH _ ((pR CX0 P w K m b EV "search_order" (defScope Bq) f fd.code A outer s H E).nox) (DN BU.nd) (λ_=>rfl) PassesOwn.never hr T P_ c_ N7 rfl N8 OM Na M9 M_
 exact h.2
theorem GU(D:Df K m "places_of" FR):FnM P w K m b 1 "places_of" Kc:=
 mk 2 HN Fj D
theorem GD(D:Df K m "grouped" FK):FnM P w K m b 1 "grouped" Lx:=
 mk 3 Hl E6 D
theorem GS(D:Df K m "picked" FF):FnM P w K m b 1 "picked" JO:=
 mk 2 HQ EG D
theorem GY(D:Df K m "extended" Fv)(_:FnM P w K m b 1 "picked" JO):FnM P w K m b 2 "extended" Lw:=
 mk 4 HV D4 D
theorem GI(D:Df K m "joined_from" FZ)(_:FnM P w K m b 1 "letters_of" p_)(_:FnM P w K m b 4 "search_order" Lz)(_:FnM P w K m b 1 "places_of" Kc)(_:FnM P w K m b 1 "grouped" Lx)(_:FnM P w K m b 1 "picked" JO)(_:FnM P w K m b 2 "extended" Lw):FnM P w K m b 5 "joined_from" Ke:=
 mk 5 HX Ei D
theorem Hv(D:Df K m "fits_from" Gj)(_:FnM P w K m b 1 "letters_of" p_)(_:FnM P w K m b 5 "joined_from" Ke):FnM P w K m b 6 "fits_from" Kf:=
 mk 4 Ig Ex D
theorem Hr(D:Df K m "fits" F6)(_:FnM P w K m b 6 "fits_from" Kf):FnM P w K m b 7 "fits" KZ:=
 mk 2 HJ Ey D
theorem GZ(D:Df K m "filled" F2)(_:FnM P w K m b 1 "exchanged" LA):FnM P w K m b 2 "filled" IS:=
 mk 2 GW EY D
theorem Hw(D:Df K m "joined" Gg)(_:FnM P w K m b 5 "joined_from" Ke):FnM P w K m b 6 "joined" KY:=
 mk 3 Ii EA D
theorem GF(D:Df K m "fresh" Gn)(_:FnM P w K m b 1 "letters_of" p_):FnM P w K m b 2 "fresh" Lv:=
 mk 1 HK EZ D
theorem HC(D:Df K m "two_terms" Gx):FnM P w K m b 1 "two_terms" Lu:=
 mk 1 HI FJ D
theorem G3(D:Df K m "deciding_letters" FP)(_:FnM P w K m b 1 "letters_of" p_)(_:FnM P w K m b 1 "two_terms" Lu):FnM P w K m b 2 "deciding_letters" Ka:=
 mk 1 Hz Es D
theorem HM(D:Df K m "is_unlike" Gy):FnM P w K m b 1 "is_unlike" M6:=
 mk 1 Ia FG D
theorem Hc(D:Df K m "two_cells" Ga)(_:FnM P w K m b 2 "filled" IS)(_:FnM P w K m b 1 "two_terms" Lu):FnM P w K m b 3 "two_cells" M5:=
 mk 2 GJ F5 D
theorem Ic(D:Df K m "broken_cells" FT)(_:FnM P w K m b 6 "joined" KY)(_:FnM P w K m b 2 "deciding_letters" Ka)(_:FnM P w K m b 1 "is_unlike" M6)(_:FnM P w K m b 3 "two_cells" M5):FnM P w K m b 7 "broken_cells" J_:=
 mk 2 Hi ER D
theorem HF(D:Df K m "broken" FA)(_:FnM P w K m b 6 "fits_from" Kf)(_:FnM P w K m b 2 "deciding_letters" Ka)(_:FnM P w K m b 7 "broken_cells" J_):FnM P w K m b 8 "broken" Ju:=
 mk 2 Hq E9 D
theorem GV(D:Df K m "keeps" Fu)(_:FnM P w K m b 7 "broken_cells" J_):FnM P w K m b 8 "keeps" Kb:=
 mk 2 Il EF D
theorem HU(D:Df K m "_law_mix" Gu):FnM P w K m b 1 "_law_mix" o_:=
 mk 2 Ht Ew D
theorem Hb(D:Df K m "_law_words" FU)(_:FnM P w K m b 1 "_law_mix" o_):FnM P w K m b 2 "_law_words" Ls:=
 mk 1 G9 EB D
theorem HG(D:Df K m "_law_world" F4)(_:FnM P w K m b 1 "_law_mix" o_)(_:FnM P w K m b 2 "_law_words" Ls):FnM P w K m b 3 "_law_world" KU:=
 mk 1 GR E2 D
theorem G1(D:Df K m "_law_letters" Fy)(_:FnM P w K m b 1 "_law_mix" o_):FnM P w K m b 2 "_law_letters" KS:=
 mk 1 Ha Ej D
theorem HE(D:Df K m "_law_cell_by" Fz):FnM P w K m b 1 "_law_cell_by" KQ:=
 mk 2 Hf DR D
theorem HL(D:Df K m "_law_row" F3)(_:FnM P w K m b 1 "_law_mix" o_)(_:FnM P w K m b 1 "_law_cell_by" KQ):FnM P w K m b 2 "_law_row" Lr:=
 mk 2 GO Et D
theorem Ij(D:Df K m "_law_stand" Gs):FnM P w K m b 1 "_law_stand" KP:=
 mk 1 Ih EO D
theorem He(D:Df K m "_law_pattern" FM)(_:FnM P w K m b 1 "_law_mix" o_):FnM P w K m b 2 "_law_pattern" Lp:=
 mk 3 G7 Fc D
theorem GK(D:Df K m "_law_head" Fx)(_:FnM P w K m b 1 "_law_mix" o_):FnM P w K m b 2 "_law_head" KO:=
 mk 3 HH E1 D
theorem HW(D:Df K m "_law_new" FX)(_:FnM P w K m b 2 "fresh" Lv):FnM P w K m b 3 "_law_new" JN:=
 mk 2 Hg EE D
theorem H0(D:Df K m "_law_each" FQ)(_:FnM P w K m b 1 "stand_of" JQ)(_:FnM P w K m b 2 "filled" IS)(_:FnM P w K m b 8 "broken" Ju)(_:FnM P w K m b 3 "_law_new" JN):FnM P w K m b 9 "_law_each" KN:=
 mk 4 G0 EL D
def Fr(F:Fun K "law" "law" s_law f fd)(hm:m "law"=U (.ref f))(_:FnM P w K m b 1 "stand_of" JQ)(_:FnM P w K m b 7 "fits" KZ)(_:FnM P w K m b 2 "filled" IS)(_:FnM P w K m b 8 "broken" Ju)(_:FnM P w K m b 8 "keeps" Kb)(_:FnM P w K m b 1 "_law_mix" o_)(_:FnM P w K m b 3 "_law_world" KU)(_:FnM P w K m b 2 "_law_letters" KS)(_:FnM P w K m b 2 "_law_row" Lr)(_:FnM P w K m b 1 "_law_stand" KP)(_:FnM P w K m b 2 "_law_pattern" Lp)(_:FnM P w K m b 2 "_law_head" KO)(_:FnM P w K m b 3 "_law_new" JN)(_:FnM P w K m b 9 "_law_each" KN):abj P w K m b CX0 10 f fd (acp.take 1) (spM K f_law):=
 (mkF 1 acp BF F hm (by walk_at "sc") (by walk_at "bi") (by walk_at "mk")).1
end
end K34
namespace K34
open PySem L2
variable[Lams]
def all_mk{l:W.OpenLaw}(S:Seen defsK blK [("search_order",c_)] K)(X:K.In h)(G:h.Ns mainGlobals mg)(Pp:mg "law"=U (.ref fa))(N7:((P_,("search_order.<locals>.<lambda>":Str)):ZM×Str)∈Lams.tb)(N8:W.codeHdIn K c_ P_=L):
  ∃fd:FuncData,(∀(s:ZR)(v:Z3),BindsTo s fd ⟨[v],[]⟩ [("_law_script",v)])/\∀base:Heap,K.In base->base.Ns mainGlobals mg->abj l.prog w K mg base CX0 10 fa fd ["_law_script"] (spM K f_law):=by
 have T:Txt mg:=S.txt X G;obtain⟨f,fd,F,hm⟩:=S.df X G 35 rfl;cases Pp.symm.trans hm;have F':=F;obtain⟨oc,od,kV,doc,pm,an,Jd,ct,Nx,rfl,_,_⟩:=F'.ex;refine⟨W.fnOf "law" "law" (defArgs s_law) (defBody s_law) (defScope s_law) .none kV doc pm an Jd ct,λs v=>.of_eq rfl,λbase KB _=>?_⟩;have M_stand_of:=@Im _ l.prog w K mg base T (S.df X G 0 rfl);have M_exchanged:=@HD _ l.prog w K mg base T (S.df X G 1 rfl);have M_letters_of:=@GX _ l.prog w K mg base T (S.df X G 2 rfl);have M_binding_of:=@GQ _ l.prog w K mg base T (S.df X G 3 rfl);have M_bindings:=@Gz _ l.prog w K mg base T (S.df X G 4 rfl) M_binding_of;have M_is_linked:=@Hn _ l.prog w K mg base T (S.df X G 5 rfl) M_letters_of;have M_search_order:=@G8 _ l.prog w K mg base T c_ P_ (S.dfC X G 6 0 rfl rfl) N7 (W.codeHd_of_K KB N8) M_letters_of M_bindings M_is_linked;have M_places_of:=@GU _ l.prog w K mg base T (S.df X G 7 rfl);have M_grouped:=@GD _ l.prog w K mg base T (S.df X G 8 rfl);have M_picked:=@GS _ l.prog w K mg base T (S.df X G 9 rfl);have M_extended:=@GY _ l.prog w K mg base T (S.df X G 10 rfl) M_picked;have M_joined_from:=@GI _ l.prog w K mg base T (S.df X G 11 rfl) M_letters_of M_search_order M_places_of M_grouped M_picked M_extended;have M_fits_from:=@Hv _ l.prog w K mg base T (S.df X G 12 rfl) M_letters_of M_joined_from;have M_fits:=@Hr _ l.prog w K mg base T (S.df X G 13 rfl) M_fits_from;have M_filled:=@GZ _ l.prog w K mg base T (S.df X G 14 rfl) M_exchanged;have M_joined:=@Hw _ l.prog w K mg base T (S.df X G 15 rfl) M_joined_from;have M_fresh:=@GF _ l.prog w K mg base T (S.df X G 16 rfl) M_letters_of;have M_two_terms:=@HC _ l.prog w K mg base T (S.df X G 17 rfl);have M_deciding_letters:=@G3 _ l.prog w K mg base T (S.df X G 18 rfl) M_letters_of M_two_terms;have M_is_unlike:=@HM _ l.prog w K mg base T (S.df X G 19 rfl);have M_two_cells:=@Hc _ l.prog w K mg base T (S.df X G 20 rfl) M_filled M_two_terms;have M_broken_cells:=@Ic _ l.prog w K mg base T (S.df X G 21 rfl) M_joined M_deciding_letters M_is_unlike M_two_cells;have M_broken:=@HF _ l.prog w K mg base T (S.df X G 22 rfl) M_fits_from M_deciding_letters M_broken_cells;have M_keeps:=@GV _ l.prog w K mg base T (S.df X G 23 rfl) M_broken_cells;have M__law_mix:=@HU _ l.prog w K mg base T (S.df X G 24 rfl);have M__law_words:=@Hb _ l.prog w K mg base T (S.df X G 25 rfl) M__law_mix;have M__law_world:=@HG _ l.prog w K mg base T (S.df X G 26 rfl) M__law_mix M__law_words;have M__law_letters:=@G1 _ l.prog w K mg base T (S.df X G 27 rfl) M__law_mix;have M__law_cell_by:=@HE _ l.prog w K mg base T (S.df X G 28 rfl);have M__law_row:=@HL _ l.prog w K mg base T (S.df X G 29 rfl) M__law_mix M__law_cell_by;have M__law_stand:=@Ij _ l.prog w K mg base T (S.df X G 30 rfl);have M__law_pattern:=@He _ l.prog w K mg base T (S.df X G 31 rfl) M__law_mix;have M__law_head:=@GK _ l.prog w K mg base T (S.df X G 32 rfl) M__law_mix;have M__law_new:=@HW _ l.prog w K mg base T (S.df X G 33 rfl) M_fresh;have M__law_each:=@H0 _ l.prog w K mg base T (S.df X G 34 rfl) M_stand_of M_filled M_broken M__law_new;exact Fr T F Pp M_stand_of M_fits M_filled M_broken M_keeps M__law_mix M__law_world M__law_letters M__law_row M__law_stand M__law_pattern M__law_head M__law_new M__law_each
open JP
def na:(("name":Str)="any")=False:=by simp;decide +kernel
theorem at0(a b:D):atI [a,b] 0=U a:=rfl
theorem at1(a b:D):atI [a,b] 1=U b:=rfl
def Iq(a:D)(r:Z9 D):atI (a::r) 0=U a:=by unfold atI ixN;simp
theorem i9:∀ts:Z9 Te,(ans ts).length<=ts.length
 |[]=>ZU _
 |.any m::ts=>by have:=i9 ts;simp[ans];lia
 |.nm w::ts=>by have:=i9 ts;simp[ans];lia
def cM(ps:Z9 Pat):Z9 Str:=(ps.map λp=>ans p.2).flatten
def cJ:l∈cM ps↔∃p∈ps,l∈ans p.2:=by
 unfold cM;rw[List.mem_flatten];constructor
 rintro⟨x,hx,hl⟩
 obtain⟨p,hp,rfl⟩:=ZV.mp hx;exact⟨p,hp,hl⟩
 rintro⟨p,hp,hl⟩
 exact⟨_,ZV.mpr ⟨p,hp,rfl⟩,hl⟩
theorem aO:∀{ps:Z9 Pat},(∀p∈ps,p.2.length<=4)->(cM ps).length<=4*ps.length
 |[],_=>ZU _
 |p::ps,h=>by
  have h1:=aO λq hq=>h q (Z2 _ hq);have h2:=i9 p.2;have h3:=h p (ZW ..);have:cM (p::ps)=ans p.2++cM ps:=by simp[cM]
  rw[this,Zz,cK];lia
def vp(ts:Z9 Te):bE (aC (af 4) (λq=>eqO (ixO (rd Y 4 q) (U (.int 0))) (U (.str "any"))) oR [M,M,M,M,M]) (ts.map teD)=U ((ans ts).map D.str):=by
 induction ts with
 |nil=>rfl
 |cons c ts ih=>
  rw[Z1];unfold bE;rw[ih];cases c with
  |any n=>simp[aC,teD,oR,at0,at1,b8,ans]
  |nm w=>simp[aC,teD,oR,at0,at1,b8,na,ans]
theorem kh:∀(rs:Z9 Pat)(acc:Z9 Str)(a0 x2 x3 x4:Z8 (D×Bool)),(∀r∈rs,r.2.length<=4)->acc.length+4*rs.length<=1000->∃y2 y3,
  aw (λd O=>ae ((be (aj (af 2) (aj (af 3) (aan)))) d O) tT) (rs.map aaa) [a0,U (.lst (acc.map D.str),L),x2,x3,x4]=U (.next [a0,U (.lst ((acc++cM rs).map D.str),L),y2,y3,x4])
 |[],acc,a0,x2,x3,x4,_,_=>⟨x2,x3,by simp[aw,cM]⟩
 |r::rs,acc,a0,x2,x3,x4,h4,hl=>by
  have hr:=h4 r (ZW ..);have hb:=i9 r.2;rw[cK]at hl;obtain⟨y2,y3,e⟩:=kh rs (acc++ans r.2) a0 (U (.str r.1,Y)) (U (.tup (r.2.map teD),Y)) x4 (λq hq=>h4 q (Z2 _ hq)) (by simp;lia);refine⟨y2,y3,?_⟩;have en:acc++cM (r::rs)=acc++ans r.2++cM rs:=by simp[cM]
  rw[en,<-e,Z1]
  conv=>lhs;unfold aw
  simp[aaa,tT];rw[aI (by simp;lia)];simp[ax];have:=vp r.2;rw[this];simp[C8];rw[ZO (by lia)]
open L2.G (b0 scD aM cP bb) in
def jk(h:ss.length<64):aaD .st L (U (.lst (ss.map D.str)))=U (.lst (sU ss)):=by
 have hc:∀l:Z9 D,(∀d∈l,∃s,d=.str s)->cN l=L:=λl hl=>by
  unfold cN;rw[ZX];intro x hx;obtain⟨a,rfl⟩:=hl x hx;rw[ZK,ZX];refine⟨rfl,λy hy=>?_⟩;obtain⟨b,rfl⟩:=hl y hy;rfl
 have hs:∀d∈ss.map D.str,∃s,d=.str s:=λd hd=>by obtain⟨s,_,rfl⟩:=ZV.mp hd;exact⟨s,rfl⟩
 have hu:=cP (ss.map D.str);rw[Z0]at hu;have S8:=hc (b0 (ss.map D.str)) λd hd=>hs d ((aM _ _).mp hd);have e:b7 (b0 (ss.map D.str))=sU ss:=by
  refine dk S8 _ _ (λy hy=>(aA _).mem_iff.mp hy) ((aA _).trans ((W6 (bb _) ?_).mpr λx=>?_)) (bW S8) ?_;exact WQ _ (λa b IP z=>IP (D.str.inj z)) ((bM _).nodup_iff.mpr (dQ ss));rw[aM,CW];refine WQ _ (λa b IP=>?_) (List.pairwise_mergeSort sg r6 (uS ss));show ¬(U (decide (b.cps.toList<a.cps.toList))=U L);intro z;unfold leT at IP;rw[Z7 z]at IP;trivial
 unfold aaD;dsimp only;rw[ZO,e];have h1:(ss.map D.str).all (du .st)=L:=ZX.mpr λx hx=>by obtain⟨s,rfl⟩:=hs x hx;rfl
 have h2:(ss.map D.str).all (aW 8)=L:=ZX.mpr λx hx=>by obtain⟨s,rfl⟩:=hs x hx;rfl
 have h3:((ss.map D.str).all λd=>scD d==L)=L:=ZX.mpr λx hx=>by obtain⟨s,rfl⟩:=hs x hx;rfl
 rw[hc _ hs,h1,h2,h3,Zu (by lia)];rfl
def aF(hl:ps.length<=4)(h4:∀p∈ps,p.2.length<=4):p_ [.lst (ps.map aaa)]=U (.lst (sU (cM ps)),L):=by
 obtain⟨y2,y3,e⟩:=kh ps [] (U (.lst (ps.map aaa),Y)) M M M h4 (by simp;lia);have:=aO h4;rw[au (f:=p_) (d:=[U (.lst (ps.map aaa),Y),M,M,M,M]) rfl rfl rfl];rw[YT]at e;simp[Ep];rw[e];simp[yL];rw[jk (by lia)];simp
def iS(ss:Z9 Str):∃us:Z9 Str,sU ss=us.map D.str/\us.Nodup/\(∀x,x∈us↔x∈ss)/\us.length<=ss.length:=by
 have hp:=bM (uS ss);exact⟨vU (uS ss),rfl,hp.nodup_iff.mpr (dQ ss),λx=>hp.mem_iff.trans (hZ x ss),hp.length_eq▸sG ss⟩
def bD(b:Bi):D:=.dK (b.map λq=>.inr q.1) (b.map λq=>ceD q.2)
theorem uG(l:Str):∀b:Bi,cj (.inr l:Key) (b.map λq=>(.inr q.1:Key)) (b.map λq=>ceD q.2)=(gt b l).map ceD
 |[]=>rfl
 |(k,c)::b=>by
  rw[Z1,Z1,cj,gu,uG l b];by_cases h:k=l;subst h;simp;rw[ZJ (λz=>h (by cases z;rfl)),ZJ h]
def q8(b:Bi)(l:Str):bP (U (bD b)) (U (.str l))=U ((gt b l).map ceD):=by
 unfold bD bP;simp only[iB,uG]
def zB(h:gt b l=M):l∉b.map (·.1):=by
 induction b with
 |nil=>simp
 |cons q b ih=>
  obtain⟨k,c⟩:=q;rw[gu]at h;split at h;trivial;rename_i n;simp only[Z1,ZZ,Xm];exact⟨λz=>n z.symm,ih h⟩
def A8(h:gt b l=M)(hl:b.length<1000000):kD (bD b) (.str l) (ceD c)=U (bD (b++[(l,c)])):=by
 unfold bD kD;have hm:(.inr l:Key)∉b.map λq=>(.inr q.1:Key):=λz=>by
  obtain⟨q,hq,e⟩:=ZV.mp z;exact zB h (ZV.mpr ⟨q,hq,by cases e;rfl⟩)
 simp only[iB,Z0];rw[ZO (by rw[aak];exact hl)];unfold jM xN;rw[ZJ hm,ZJ hm];simp
def wv(c:Ce):okD 16 (ceD c)=L:=by cases c<;>rfl
def Hu(t:Te):okD 16 (teD t)=L:=by cases t<;>rfl
def s0(a b:Ce):neO (U (ceD a)) (U (ceD b))=U (!decide (a=b)):=by
 rw[C4 _ _ (by unfold ok2;rw[wv,wv];rfl)];congr 2;exact Ym.mpr ⟨gy,λh=>by rw[h]⟩
def FN(a b:Ce):eqO (U (ceD a)) (U (ceD b))=U (decide (a=b)):=by
 rw[pG _ _ (by unfold ok2;rw[wv,wv];rfl)];congr 1;exact Ym.mpr ⟨gy,λh=>by rw[h]⟩
def C3(w:Str)(c:Ce):neO (U (teD (.nm w))) (U (ceD c))=U (!decide (Ce.nm w=c)):=s0 (.nm w) c
theorem j6:∀(ts:Z9 Te)(cs:Z9 Ce),cz (ts.map teD) (cs.map ceD)=(ts.zip cs).map λq=>.tup [teD q.1,ceD q.2]
 |[],cs=>by simp[cz]
 |t::ts,[]=>by simp[cz]
 |t::ts,c::cs=>by simp[cz,j6 ts cs]
theorem gm:∀(ts:Z9 Te)(cs:Z9 Ce)(b:Bi)(a0 a1 x3 x4:Z8 (D×Bool)),b.length+ts.length<1000->
  (match bnd ts cs b with
  |some b'=>∃y3 y4,aw (λd O=>ae ((be (aj (af 3) (aj (af 4) (aan)))) d O) ln) ((ts.zip cs).map λq=>.tup [teD q.1,ceD q.2]) [a0,a1,U (bD b,L),x3,x4]=U (.next [a0,a1,U (bD b',L),y3,y4])
  |none=>aw (λd O=>ae ((be (aj (af 3) (aj (af 4) (aan)))) d O) ln) ((ts.zip cs).map λq=>.tup [teD q.1,ceD q.2]) [a0,a1,U (bD b,L),x3,x4]=U (.ret .non Y))
 |[],cs,b,a0,a1,x3,x4,_=>⟨x3,x4,by simp[aw]⟩
 |.any l::ts,[],b,a0,a1,x3,x4,_=>⟨x3,x4,by simp[aw]⟩
 |.nm l::ts,[],b,a0,a1,x3,x4,_=>⟨x3,x4,by simp[aw]⟩
 |.any l::ts,c::cs,b,a0,a1,x3,x4,hl=>by
  have ih:=λb hb=>gm ts cs b a0 a1 (U (teD (.any l),Y)) (U (ceD c,Y)) hb;rw[cK]at hl;rw[List.zip_cons_cons,Z1];unfold aw;have e0:eqO (ixO (rd Y 3 [a0,a1,U (bD b,L),U (teD (.any l),Y),U (ceD c,Y)]) (U (.int 0))) (U (.str "any"))=U L:=by simp[teD,at0,b8]
  have e1:ixO (rd Y 3 [a0,a1,U (bD b,L),U (teD (.any l),Y),U (ceD c,Y)]) (U (.int 1))=U (.str l):=by simp[teD,at1]
  have e2:rd Y 4 [a0,a1,U (bD b,L),U (teD (.any l),Y),U (ceD c,Y)]=U (ceD c):=by simp
  simp only[aaP,aay,aaE,aac,ZC,cK,jQ,PK,bq,bj,Nat.reduceAdd,Nat.reduceLT];simp only[ln,e0,abF,yI,e1,e2,sdO,aba,abb,q8,bnd];cases eg:gt b l with
  |some c'=>
   simp only[Option.map_some,neX,PK,e2,s0];by_cases hc:c'=c;simp only[hc,WW,YJ,ifX,aaF,Y8];have:=ih b (by lia);cases eb:bnd ts cs b with
   |some b'=>rw[eb]at this;exact this
   |none=>rw[eb]at this;exact this
   simp only[hc,W_,X8,ifX,abf,Zj]
  |none=>
   simp only[Option.map_none,A8 eg (show b.length<1000000 by lia)];simp only[neX,PK,bq,bj];have e3:rd Y 4 [a0,a1,U (bD (b++[(l,c)]),L),U (teD (.any l),Y),U (ceD c,Y)]=U (ceD c):=by simp
   simp only[e3,s0,WW,YJ,ifX,aaF];have:=ih (b++[(l,c)]) (by simp;lia);cases eb:bnd ts cs (b++[(l,c)])with
   |some b'=>rw[eb]at this;exact this
   |none=>rw[eb]at this;exact this
 |.nm w::ts,c::cs,b,a0,a1,x3,x4,hl=>by
  have ih:=gm ts cs b a0 a1 (U (teD (.nm w),Y)) (U (ceD c,Y)) (by simp at hl;lia);rw[List.zip_cons_cons,Z1];unfold aw;have e0:eqO (ixO (rd Y 3 [a0,a1,U (bD b,L),U (teD (.nm w),Y),U (ceD c,Y)]) (U (.int 0))) (U (.str "any"))=U Y:=by simp[teD,at0,b8,na]
  have e1:rd Y 3 [a0,a1,U (bD b,L),U (teD (.nm w),Y),U (ceD c,Y)]=U (teD (.nm w)):=by simp
  have e2:rd Y 4 [a0,a1,U (bD b,L),U (teD (.nm w),Y),U (ceD c,Y)]=U (ceD c):=by simp
  simp only[aaP,aay,aaE,aac,ZC,cK,jQ,PK,bq,bj,Nat.reduceAdd,Nat.reduceLT];have e00:eqO (ixO (U (teD (.nm w))) (U (.int 0))) (U (.str "any"))=U Y:=by simp[teD,at0,b8,na]
  simp only[ln,e0,e00,aa1,e1,e2,C3,bnd];by_cases hc:Ce.nm w=c;simp only[hc,WW,YJ,aa1,aaF,Y8];exact ih;rw[ZJ hc];simp only[hc,W_,X8,abF,abf]
def jJ(ts:Z9 Te)(cs:Z9 Ce)(hl:ts.length<=4):Ly [.tup (ts.map teD),.tup (cs.map ceD)]=U (match bnd ts cs []with|some b=>(bD b,L)|none=>(.non,Y)):=by
 rw[au (f:=Ly) (d:=[U (.tup (ts.map teD),Y),U (.tup (cs.map ceD),Y),M,M,M]) rfl rfl rfl];have:=gm ts cs [] (U (.tup (ts.map teD),Y)) (U (.tup (cs.map ceD),Y)) M M (by simp;lia);have e0:(.dK [] []:D)=bD []:=rfl;simp only[EI,aaA,cK,jQ,Nat.reduceAdd,Nat.reduceLT,bq,bj,aae,aaf,aah,Bz,DQ,Y8,abY,PK,j6,e0];cases eb:bnd ts cs []with
 |some b=>
  rw[eb]at this;obtain⟨y3,y4,e⟩:=this;rw[e];simp
 |none=>
  rw[eb]at this;rw[this];simp
def Dj(b:Bi):yf (U (bD b))=U Y:=by simp[yf,bD]
theorem ip(h4:p.2.length<=4):∀(rs:Z9 Row)(acc:Z9 Bi)(a0 x3 x4 x5:Z8 (D×Bool)),acc.length+rs.length<=100000->∃y3 y4 y5,
  aw (λd q=>ae ((be (aj (af 3) (aj (af 4) (aan)))) d q) hY) (rs.map WC) [a0,U (aaa p,Y),U (.lst (acc.map bD),L),x3,x4,x5]=U (.next [a0,U (aaa p,Y),U (.lst ((acc++binds rs p).map bD),L),y3,y4,y5])
 |[],acc,a0,x3,x4,x5,_=>⟨x3,x4,x5,by simp[aw,binds]⟩
 |r::rs,acc,a0,x3,x4,x5,hl=>by
  rw[cK]at hl;rw[Z1];have e1:eqO (U (.str r.1)) (ixO (U (aaa p)) (U (.int 0)))=U (decide (r.1=p.1)):=by simp[aaa,at0,b8]
  have e2:eqO (mq (U (.tup (r.2.map ceD)))) (mq (ixO (U (aaa p)) (U (.int 1))))=U (decide (r.2.length=p.2.length)):=by
   simp only[aaa,ab9,at1,ab8,Z0,abS];congr 1;exact Ym.mpr (by lia)
  have e3:ixO (U (aaa p)) (U (.int 1))=U (.tup (p.2.map teD)):=by simp[aaa,at1]
  have body:∃y5,hY [a0,U (aaa p,Y),U (.lst (acc.map bD),L),U (.str r.1,Y),U (.tup (r.2.map ceD),Y),x5]=U (.next [a0,U (aaa p,Y),U (.lst ((acc++(fO p r).toList).map bD),L),U (.str r.1,Y),U (.tup (r.2.map ceD),Y),y5]):=by
   simp only[hY,aaf,aah,e1,e2];unfold fO;by_cases c1:r.1=p.1;by_cases c2:r.2.length=p.2.length;rw[ZO ⟨c1,c2⟩];simp only[c1,c2,WW,acb,abF,e3,VV,PK,jJ p.2 r.2 h4];cases eb:bnd p.2 r.2 []with
   |some b=>
    refine⟨U (bD b,Y),?_⟩;simp[Dj];rw[iP (ds:=acc.map bD) (bD b) rfl (by simp;lia)];simp
   |none=>
    refine⟨U (.non,Y),?_⟩;simp[yf]
   rw[ZJ (λz=>c2 z.2)];exact⟨x5,by simp[c1,c2]⟩;rw[ZJ (λz=>c1 z.1)];exact⟨x5,by simp[c1]⟩
  obtain⟨Ug,eb⟩:=body;have hle:(fO p r).toList.length<=1:=by cases fO p r<;>simp
  obtain⟨y3,y4,y5,e⟩:=ip h4 rs (acc++(fO p r).toList) a0 (U (.str r.1,Y)) (U (.tup (r.2.map ceD),Y)) Ug (by simp;lia);refine⟨y3,y4,y5,?_⟩;have en:acc++binds (r::rs) p=acc++(fO p r).toList++binds rs p:=by
   unfold binds;rw[List.filterMap_cons];cases fO p r<;>simp
  rw[en,<-e]
  conv=>lhs;unfold aw
  have et:ae ((be (aj (af 3) (aj (af 4) (aan)))) (WC r) [a0,U (aaa p,Y),U (.lst (acc.map bD),L),x3,x4,x5]) hY=hY [a0,U (aaa p,Y),U (.lst (acc.map bD),L),U (.str r.1,Y),U (.tup (r.2.map ceD),Y),x5]:=by
   simp[WC]
  rw[et,eb]
def lT(h4:p.2.length<=4)(hl:rs.length<=1000):KW [.lst (rs.map WC),aaa p]=U (.lst ((binds rs p).map bD),L):=by
 rw[au (f:=KW) (d:=[U (.lst (rs.map WC),Y),U (aaa p,Y),M,M,M,M]) rfl rfl rfl];obtain⟨y3,y4,y5,e⟩:=ip h4 rs [] (U (.lst (rs.map WC),Y)) M M M (by simp;lia);simp[Ek];rw[YT]at e;rw[e];simp
def ki(rs:Z9 Row)(p:Pat):(binds rs p).length<=rs.length:=List.length_filterMap_le ..
def prD(rs:Z9 Row)(p:Pat):D:=.tup [aaa p,.lst ((binds rs p).map bD)]
def dF(l:Str)(ss:Z9 Str):inO (U (.str l)) (U (.lst (ss.map D.str)))=U (decide (l∈ss)):=by
 unfold inO;simp only[aT];rw[ZO];congr 1;apply Ym.mpr;simp;rw[ZK,ZX];refine⟨rfl,λx hx=>?_⟩;obtain⟨c,_,rfl⟩:=ZV.mp hx;rfl
def vo(bs:Z9 Bool):eV (bs.map D.bl)=U bs:=by
 induction bs with
 |nil=>rfl
 |cons b bs ih=>simp[eV,ih]
def lk(ks:Z9 Str)(p:Pat):Bool:=(ans p.2).any λl=>decide (l∈ks)
def uZ(p:Pat)(h4:p.2.length<=4)(ks:Z9 Str):Kd [aaa p,.lst (ks.map D.str)]=U (.bl (lk ks p),Y):=by
 rw[au (f:=Kd) (d:=[U (aaa p,Y),U (.lst (ks.map D.str),Y),M]) rfl rfl rfl];have el:=aF (ps:=[p]) (by simp) (by simpa using h4);obtain⟨us,e1,_,e3,e4⟩:=iS (cM [p]);rw[e1]at el;have Vc:us.length<=1000:=by
  have:=aO (ps:=[p]) (by simpa using h4);simp at this;lia
 simp only[Fg,aaf,aah,VV,PK];rw[aas _ (by simp)];simp only[Z1,YT]at el;simp only[VV,PK,el,aao,aai];rw[aI (by simp;lia)];have hc:bE (aC (af 2) (λq=>U L) rh (ax Y [Y,L,Y] [U (aaa p,Y),U (.lst (ks.map D.str),Y),M])) (us.map D.str)=U ((us.map λl=>decide (l∈ks)).map D.bl):=by
  rw[gJ (g:=λd=>match d with|.str l=>.bl (decide (l∈ks))|d=>d)];simp;intro d hd;obtain⟨l,_,rfl⟩:=ZV.mp hd;simp[aC,ax,rh,dF]
 rw[hc];simp only[aaj,DV,vo,abf,aa4];congr 3;rw[YL];unfold lk;simp only[XR,ZV,id_eq];constructor
 rintro⟨_,⟨l,hl,rfl⟩,h⟩
 have:=(e3 l).mp hl;simp[cM]at this;exact⟨l,this,h⟩
 rintro⟨l,hl,h⟩
 exact⟨_,⟨l,(e3 l).mpr (by simp[cM];exact hl),rfl⟩,h⟩
def jF(h:teD a=teD b):a=b:=by
 cases a<;>cases b<;>simp[teD]at h;rw[h];exact absurd h.1 (by decide +kernel);exact absurd h.1 (by decide +kernel);rw[h]
theorem jg{q:Type}{f:q->D}(hf:∀a b,f a=f b->a=b):∀{l m:Z9 q},l.map f=m.map f->l=m
 |[],[],_=>rfl
 |[],_::_,h=>by simp at h
 |_::_,[],h=>by simp at h
 |a::l,b::m,h=>by
  simp only[Z1,Yg]at h;rw[hf _ _ h.1,jg hf h.2]
def vX(h:aaa p=aaa q):p=q:=by
 simp[aaa]at h;exact Prod.ext h.1 (jg (λ_ _=>jF) h.2)
def AX(t:Te):D.flat (teD t)=L:=by cases t<;>rfl
def wF(p:Pat):D.flat (aaa p)=L:=by
 have:D.aaG (p.2.map teD)=L:=by rw[D.aaY,ZX];intro x hx;obtain⟨t,_,rfl⟩:=ZV.mp hx;exact AX t
 simp[aaa,D.flat,D.aaG,this]
def BB(p:Pat):okD 15 (aaa p)=L:=by
 simp only[aaa,okD,jR,List.all_nil,Yd,XX,ZX];intro x hx;obtain⟨t,_,rfl⟩:=ZV.mp hx;cases t<;>rfl
def pT(ss:Z9 Str):D.aaG (ss.map D.str)=L:=by
 rw[D.aaY,ZX];intro x hx;obtain⟨t,_,rfl⟩:=ZV.mp hx;rfl
theorem lM:∀{ps:Z9 Pat},(∀p∈ps,f (h p)=U (g p))->cS f (ps.map h)=U (ps.map g)
 |[],_=>rfl
 |p::ps,e=>by simp only[Z1,cS,e p (ZW ..),lM λq hq=>e q (Z2 _ hq)]
def rQ(h:bl≠[]):aK bl<bl.length:=by
 unfold aK;split;rename_i m;exact YF m;exact List.length_pos_iff.mpr h
def tP(h:i<aK bl):bl[i]?=U Y/\bl[aK bl]?=U L:=by
 unfold aK at h⊢;split at h;rename_i m;rw[ZO m];have hl:=YF m;have h1:=List.not_of_lt_findIdx (p:=λz=>z==L) (xs:=bl) (i:=i) h;have hi:i<bl.length:=by lia
 refine⟨?_,?_⟩;rw[YU hi];simp at h1;rw[h1];rw[YU hl];simp;lia
def zV(rs:Z9 Row)(ks:Z9 Str)(hk:ks.length<=1000){aq placed:Z9 Pat}(h4:∀p∈aq++placed,p.2.length<=4)(y_:aq≠[])(hl:aq.length+placed.length<=4)(a0 a1 x5 x6 x7 x8 x9:Z8 (D×Bool)):
  ∃j y5 y6 y7,j<aq.length/\ky [a0,a1,U (.lst (ks.map D.str),Y),U (.lst (aq.map (prD rs)),L),U (.lst (placed.map (prD rs)),L),x5,x6,x7,x8,x9]=
   U (.next [a0,a1,U (.lst (ks.map D.str),Y),U (.lst ((aq.eraseIdx j).map (prD rs)),L),U (.lst ((placed++(aq[j]?).toList).map (prD rs)),L),y5,y6,y7,x8,x9]):=by
 have q_:placed.length<=4:=by lia
 have el:=aF (ps:=placed) q_ (λp hp=>h4 p (ZI _ hp));obtain⟨us,e1,_,e3,e4⟩:=iS (cM placed);have e5:=aO (ps:=placed) (λp hp=>h4 p (ZI _ hp));rw[e1]at el;have hc:bE (aC (af 9) (λq=>U L) oY (ax L [Y,Y,Y,Y,Y,Y,Y,Y,Y,Y] [a0,a1,U (.lst (ks.map D.str),Y),U (.lst (aq.map (prD rs)),L),U (.lst (placed.map (prD rs)),L),x5,x6,x7,x8,x9])) (placed.map (prD rs))=U (placed.map aaa):=by
  have:(placed.map aaa)=(placed.map (prD rs)).map λd=>match d with|.tup (x::_)=>x|d=>d:=by rw[Yi];rfl
  rw[this,gJ];intro d hd;obtain⟨p,_,rfl⟩:=ZV.mp hd;simp[aC,ax,oY,prD,at0]
 have Po:D.aaG (placed.map aaa)=L:=by rw[D.aaY,ZX];intro x hx;obtain⟨t,_,rfl⟩:=ZV.mp hx;exact wF t
 have hb:lO (jh (U (.lst (ks.map D.str)))) (flO (ae (aa (am (fP (ae (b9 (U (.lst (placed.map (prD rs))))) (bL L [Y,Y,Y,Y,Y,Y,Y,Y,Y,Y] (af 9) (λq=>U L) oY [a0,a1,U (.lst (ks.map D.str),Y),U (.lst (aq.map (prD rs)),L),U (.lst (placed.map (prD rs)),L),x5,x6,x7,x8,x9])))) (U [])) p_))=U (.lst ((ks++us).map D.str)):=by
  simp only[aai,PK];rw[aI (by simp;lia),hc];simp only[fP,Po,Y8,aaj,VV,PK,el,flO,pT,abR];rw[aaU _ _ (by simp;lia)];simp
 have hf:cS (λd=>oz ((ax L [Y,Y,Y,Y,Y,L,Y,Y,Y,Y] [a0,a1,U (.lst (ks.map D.str),Y),U (.lst (aq.map (prD rs)),L),U (.lst (placed.map (prD rs)),L),U (.lst ((ks++us).map D.str),Y),x6,x7,x8,x9]).set 9 (U (d,Y)))) (aq.map (prD rs))=U (aq.map (lk (ks++us))):=by
  refine lM λp hp=>?_;have:=uZ p (h4 p (Y9 _ hp)) (ks++us);simp only[oz,ax,List.zipWith,bq,bj,aah,aaf];have e9:∀(x:Z8 D),x=U (.lst ((ks++us).map D.str))->tyB (shO (ae (aa (ixO (U (prD rs p)) (U (.int 0))) (aa x (U []))) Kd))=U (lk (ks++us) p):=λx hx=>by rw[hx];simp only[prD,ab9,at0,VV,PK,this,aat,aco]
  exact e9 _ rfl
 have NH:aq.map (lk (ks++us))≠[]:=by simpa using y_
 have hj:aK (aq.map (lk (ks++us)))<aq.length:=by have:=rQ NH;simpa using this
 generalize QH:aK (aq.map (lk (ks++us)))=j at hj;have Pn:(aq.map (prD rs)).getD j .non=prD rs aq[j]:=by rw[Yz];simp[hj]
 refine⟨j,U (.lst ((ks++us).map D.str),Y),U (.lst (eN (aq.map (prD rs)) (aq.map (lk (ks++us)))),L),U (prD rs aq[j],Y),hj,?_⟩;have SA:rd L 4 [a0,a1,U (.lst (ks.map D.str),Y),U (.lst (aq.map (prD rs)),L),U (.lst (placed.map (prD rs)),L),x5,x6,x7,x8,x9]=U (.lst (placed.map (prD rs))):=rfl;simp only[ky,SA,aah,aaf,hb];rw[aal _ _ _ (by simp)];simp only[aae,bq,bj];unfold se;simp only[List.getElem?_cons_succ,List.getElem?_cons_zero,hf];have h0:(aq.map (prD rs))[0]?=U (prD rs (aq[0]'(by lia))):=by simp[show 0<aq.length by lia]
 simp only[h0,QH];rw[ZO];simp only[rl,bq,bj,aah,aaf,Pn];rw[iP (ds:=placed.map (prD rs)) _ rfl (by simp;lia)];have em:(aq.map (prD rs)).eraseIdx j=(aq.eraseIdx j).map (prD rs):=by rw[Xj,Xj,Y2,List.map_take,List.map_drop]
 simp[em,hj];refine⟨⟨by simp,by simp,by simp,by simp;lia⟩,?_⟩;rw[ZK,ZX,ZX];refine⟨λd hd=>?_,λd hd=>?_⟩;obtain⟨p,_,rfl⟩:=ZV.mp hd;rfl;obtain⟨i,hi⟩:=List.mem_iff_getElem?.mp hd;rw[List.getElem?_take]at hi;split at hi;rename_i K8;rw[YQ]at hi;obtain⟨p,hp,rfl⟩:=Xl.mp hi;rw[Pn];obtain⟨f1,f2⟩:=tP (bl:=aq.map (lk (ks++us))) (i:=i) (by rw[QH];exact K8);rw[QH]at f2;rw[YQ,hp]at f1;rw[YQ,YU hj]at f2;simp only[Option.map_some,ZE]at f1 f2;simp only[eT,prD,BB,Yd,XX,Zf];intro e;rw[vX e,f2]at f1;cases f1;cases hi
theorem cm{q:Type}:∀{l:Z9 q}{j:Nat}{x:q},l[j]?=U x->(x::l.eraseIdx j).Perm l
 |[],j,x,h=>by simp at h
 |a::l,0,x,h=>by simp at h;subst h;exact Yy _
 |a::l,j+1,x,h=>by
  rw[List.eraseIdx_cons_succ];exact(List.Perm.swap a x _).trans ((cm (by simpa using h)).cons a)
theorem ie(rs:Z9 Row)(ks:Z9 Str)(hk:ks.length<=1000):∀(n:Nat)(aq placed:Z9 Pat)(a0 a1 x5 x6 x7 x8 x9:Z8 (D×Bool))(fuel:Nat),aq.length=n->n<fuel->(∀p∈aq++placed,p.2.length<=4)->aq.length+placed.length<=4->∃o y5 y6 y7,o.Perm aq/\
  dy kF ky fuel [a0,a1,U (.lst (ks.map D.str),Y),U (.lst (aq.map (prD rs)),L),U (.lst (placed.map (prD rs)),L),x5,x6,x7,x8,x9]=
   U (.next [a0,a1,U (.lst (ks.map D.str),Y),U (.lst [],L),U (.lst ((placed++o).map (prD rs)),L),y5,y6,y7,x8,x9])
 |0,aq,placed,a0,a1,x5,x6,x7,x8,x9,fuel,hn,hf,h4,hl=>by
  have:aq=[]:=XS.mp hn;subst this;obtain⟨f,rfl⟩:∃f,fuel=f+1:=⟨fuel - 1,by lia⟩
  refine⟨[],x5,x6,x7,Yy _,?_⟩;unfold dy;have:kF [a0,a1,U (.lst (ks.map D.str),Y),U (.lst (([]:Z9 Pat).map (prD rs)),L),U (.lst (placed.map (prD rs)),L),x5,x6,x7,x8,x9]=U Y:=rfl;rw[this];simp
 |n+1,aq,placed,a0,a1,x5,x6,x7,x8,x9,fuel,hn,hf,h4,hl=>by
  obtain⟨f,rfl⟩:∃f,fuel=f+1:=⟨fuel - 1,by lia⟩
  have y_:aq≠[]:=λz=>by rw[z]at hn;simp at hn
  obtain⟨j,y5,y6,y7,hj,e⟩:=zV rs ks hk h4 y_ hl a0 a1 x5 x6 x7 x8 x9;have Pf:aq[j]?=U aq[j]:=by simp[hj]
  have hp:=cm Pf;have hlen:(aq.eraseIdx j).length=n:=by have:=hp.length_eq;simp at this;lia
  have hm:∀p∈aq.eraseIdx j++(placed++aq[j]?.toList),p.2.length<=4:=λp I_=>by
   refine h4 p ?_;rw[Pf]at I_;simp only[Option.toList_some,Zr,Zv]at I_⊢;rcases I_ with q|q|q;exact .inl (hp.mem_iff.mp (Z2 _ q));exact .inr q;exact .inl (hp.mem_iff.mp (by rw[q];exact ZW ..))
  obtain⟨o,z5,z6,z7,po,e'⟩:=ie rs ks hk n (aq.eraseIdx j) (placed++aq[j]?.toList) a0 a1 y5 y6 y7 x8 x9 f hlen (by lia) hm (by rw[Pf];simp;lia);refine⟨aq[j]::o,z5,z6,z7,(po.cons _).trans hp,?_⟩;have ht:kF [a0,a1,U (.lst (ks.map D.str),Y),U (.lst (aq.map (prD rs)),L),U (.lst (placed.map (prD rs)),L),x5,x6,x7,x8,x9]=U L:=by
   cases aq with
   |nil=>exact absurd rfl y_
   |cons a b=>rfl
  unfold dy;rw[ht];simp only[e];rw[e',Pf];simp
theorem nz(rs:Z9 Row):∀ps:Z9 Pat,gX (λd=>iF [U (d,Y)]) (ps.map (prD rs))=U (ps.map λp=>((binds rs p).length:Int))
 |[]=>rfl
 |p::ps=>by
  simp only[Z1,gX,nz rs ps];have:iF [U (prD rs p,Y)]=U (.int (binds rs p).length):=by simp[iF,prD,at1]
  rw[this]
def lQ(ps:Z9 Pat)(ks:Z9 Int)(h:ks.length=ps.length)(h5:ks.length<5):∃o:Z9 Pat,o.Perm ps/\pj (ps.map f) ks=o.map f:=by
 have hp:=f7 h5;rw[h]at hp;refine⟨(iX ks).filterMap λi=>ps[i]?,?_,?_⟩;have e:(List.range ps.length).filterMap (λi=>ps[i]?)=ps:=by
  clear hp h;have key:∀(l pre:Z9 Pat),((List.range' pre.length l.length).filterMap λi=>(pre++l)[i]?)=l:=by
   intro l
   induction l with
   |nil=>intro pre;rfl
   |cons a l ih=>
    intro pre;rw[cK,List.range'_succ,List.filterMap_cons];have:(pre++a::l)[pre.length]?=U a:=by simp
    rw[this];have:=ih (pre++[a]);simp only[Zz,List.length_singleton,Zd,List.singleton_append]at this;rw[this]
  have:=key ps [];simpa[List.range_eq_range']using this
 have:=hp.filterMap λi=>ps[i]?;rw[e]at this;exact this;unfold pj;rw[List.map_filterMap];have hm:∀i∈iX ks,i<ps.length:=λi hi=>Y5.mp (hp.mem_iff.mp hi);generalize iX ks=kp at hm
 induction kp with
 |nil=>rfl
 |cons i l ih=>
  have hi:=hm i (ZW ..);rw[Z1,List.filterMap_cons,ih λj hj=>hm j (Z2 _ hj)];have:ps[i]?=U ps[i]:=by simp[hi]
  rw[this];simp[hi]
def gI(rs:Z9 Row)(E_:rs.length<=1000)(ks:Z9 Str)(hk:ks.length<=1000)(h4:∀p∈ps,p.2.length<=4)(hl:ps.length<=4):∃o:Z9 Pat,o.Perm ps/\
  Lz [.lst (rs.map WC),.lst (ps.map aaa),.lst (ks.map D.str)]=U (.lst (o.map (prD rs)),L):=by
 obtain⟨o1,p1,e1⟩:=lQ (f:=prD rs) ps (ps.map λp=>((binds rs p).length:Int)) (by simp) (by simp;lia);have h41:∀p∈o1++[],p.2.length<=4:=λp hp=>h4 p (p1.mem_iff.mp (by simpa using hp));have JY:o1.length=ps.length:=p1.length_eq;obtain⟨o,y5,y6,y7,po,e⟩:=ie rs ks hk o1.length o1 [] (U (.lst (rs.map WC),Y)) (U (.lst (ps.map aaa),Y)) M M M M M 1000 rfl (by lia) h41 (by simp;lia);refine⟨o,po.trans p1,?_⟩;rw[au (f:=Lz) (d:=[U (.lst (rs.map WC),Y),U (.lst (ps.map aaa),Y),U (.lst (ks.map D.str),Y),M,M,M,M,M,M,M]) rfl rfl rfl];have hc:bE (aC (af 8) (λO=>U L) lN (ax Y [L,Y,Y,Y,Y,Y,Y,Y,Y,Y] [U (.lst (rs.map WC),Y),U (.lst (ps.map aaa),Y),U (.lst (ks.map D.str),Y),M,M,M,M,M,M,M])) (ps.map aaa)=U (ps.map (prD rs)):=by
  have key:∀qs:Z9 Pat,(∀p∈qs,p.2.length<=4)->bE (aC (af 8) (λO=>U L) lN (ax Y [L,Y,Y,Y,Y,Y,Y,Y,Y,Y] [U (.lst (rs.map WC),Y),U (.lst (ps.map aaa),Y),U (.lst (ks.map D.str),Y),M,M,M,M,M,M,M])) (qs.map aaa)=U (qs.map (prD rs)):=by
   intro qs
   induction qs with
   |nil=>intro _;rfl
   |cons q qs ih=>
    intro h;rw[Z1];unfold bE;have:aC (af 8) (λO=>U L) lN (ax Y [L,Y,Y,Y,Y,Y,Y,Y,Y,Y] [U (.lst (rs.map WC),Y),U (.lst (ps.map aaa),Y),U (.lst (ks.map D.str),Y),M,M,M,M,M,M,M]) (aaa q)=U (U (prD rs q)):=by
     simp[aC,ax,lN,lT (h q (ZW ..)) E_,prD]
    rw[this,ih λp hp=>h p (Z2 _ hp)];rfl
  exact key ps h4
 simp only[L6,aah,aaf,aai,PK];rw[aI (by simp;lia),hc];have hs:io (am (U (ps.map (prD rs)))) (λd=>iF [U (d,Y)])=U (.lst (o1.map (prD rs))):=by
  unfold io;simp only[aaj,nz,e1];rw[ZO (by simp;lia)]
 rw[hs,aaA _ _ _ (by simp)];simp only[aae,bq,bj];rw[aas _ (by simp),aaA _ _ _ (by simp)];simp only[aae,bq,bj];rw[YT]at e;rw[e];simp
theorem cy{q:Type}{f:q->D}{h:q->D}{p:q->Bool}{F:D->Z8 (Z8 D)}:∀{xs:Z9 q},(∀x∈xs,F (f x)=U (if p x=L then U (h x) else M))->bE F (xs.map f)=U ((xs.filter p).map h)
 |[],_=>rfl
 |x::xs,H=>by
  rw[Z1];unfold bE;rw[H x (ZW ..),cy λy hy=>H y (Z2 _ hy),List.filter_cons];cases p x<;>rfl
def aX{q:Type}{f:q->D}{h:q->D}{F:D->Z8 (Z8 D)}{xs:Z9 q}(H:∀x∈xs,F (f x)=U (U (h x))):bE F (xs.map f)=U (xs.map h):=by
 have:=cy (f:=f) (h:=h) (p:=λ_=>L) (F:=F) (xs:=xs) λx hx=>by rw[H x hx];rfl
 rwa[List.filter_eq_self.mpr λ_ _=>rfl]at this
def iY(ns:Z9 Nat):D:=.lst (ns.map λn:Nat=>D.int n)
def cD(c:Z9 Ce):D:=.tup (c.map ceD)
def iA{a b:Z9 Ce}(h:cD a=cD b):a=b:=by
 unfold cD at h;injection h with h
 induction a generalizing b with
 |nil=>cases b with
  |nil=>rfl
  |cons=>simp at h
 |cons x a ih=>cases b with
  |nil=>simp at h
  |cons y b=>simp only[Z1,Yg]at h;rw[gy h.1,ih h.2]
def k9(c:Z9 Ce):aW 8 (cD c)=L:=by
 unfold cD;simp only[aW];rw[ZX];intro d hd;obtain⟨x,_,rfl⟩:=ZV.mp hd;cases x<;>rfl
theorem j5(c:Z9 Ce):l8 (cD c)=L:=rfl
def F0(c:Z9 Ce):okD 15 (cD c)=L:=by
 unfold cD;simp only[okD];rw[ZX];intro d hd;obtain⟨x,_,rfl⟩:=ZV.mp hd;cases x<;>rfl
theorem uN(l:Str):∀known:Z9 Str,(known.map D.str).idxOf (.str l)=known.idxOf l
 |[]=>rfl
 |k::known=>by
  rw[Z1,List.idxOf_cons,List.idxOf_cons,uN l known];have:((D.str k==D.str l):Bool)=(k==l):=by
   by_cases h:k=l;subst h;rw[Yr,Yr];have h':¬D.str k=D.str l:=λz=>h (by injection z);rw[beq_false_of_ne h,beq_false_of_ne h']
  rw[this]
def xH{l:Str}{known:Z9 Str}(h:l∈known)(hk:known.length<=1000):Bn (U (.lst (known.map D.str))) (U (.str l))=U (.int (known.idxOf l)):=by
 unfold Bn;simp only[uN];rw[ZO];refine⟨rfl,?_,by rw[Z0];exact YF h,by simp;lia⟩;rw[ZX];intro d hd;obtain⟨x,_,rfl⟩:=ZV.mp hd;rfl
def cV{ls known:Z9 Str}(h:∀l∈ls,l∈known)(hl:ls.length<=1000)(hk:known.length<=1000):Kc [.lst (ls.map D.str),.lst (known.map D.str)]=U (iY (aV ls known),L):=by
 rw[au (f:=Kc) (d:=[U (.lst (ls.map D.str),Y),U (.lst (known.map D.str),Y),M]) rfl rfl rfl];simp only[Fj,aaf,aai,PK];rw[aI (by simp;lia)];have:=aX (f:=D.str) (h:=λl=>D.int (known.idxOf l)) (xs:=ls) (F:=aC (af 2) (λq=>U L) rW (ax Y [Y,L,Y] [U (.lst (ls.map D.str),Y),U (.lst (known.map D.str),Y),M])) λl hm=>by
  simp[aC,ax,rW,xH (h l hm) hk]
 rw[this];simp[iY,aV]
def gH{c:Z9 Ce}{ps:Z9 Nat}(h:∀i∈ps,i<c.length)(hl:ps.length<=1000):JO [cD c,iY ps]=U (cD (pk c ps),Y):=by
 rw[au (f:=JO) (d:=[U (cD c,Y),U (iY ps,Y),M]) rfl rfl rfl];simp only[EG,aaf,aah,iY,aai,PK];rw[aI (by simp;lia)];have:=aX (f:=λn:Nat=>D.int n) (h:=λn=>ceD (c.getD n default)) (xs:=ps) (F:=aC (af 2) (λq=>U L) tX (ax Y [L,Y,Y] [U (cD c,Y),U (.lst (ps.map λn:Nat=>D.int n),Y),M])) λn hm=>by
  have hn:=h n hm;have:atI (c.map ceD) (n:Int)=U (ceD (c.getD n default)):=t6 (by lia) (by simp[hn]);simp[aC,ax,tX,cD,this]
 rw[this];simp[cD,pk]
def gD(g:Gr):Z9 (D×Z9 D):=g.map λq=>(cD q.1,q.2.map cD)
theorem yN(k e:Z9 Ce):∀g:Gr,bg (gD g) (cD k) (cD e)=gD (lZ g k e)
 |[]=>rfl
 |q::g=>by
  have ih:=yN k e g;unfold gD at ih⊢;rw[Z1];unfold bg lZ;have h1:(cD q.1=cD k)=(q.1=k):=propext ⟨iA,λh=>by rw[h]⟩;have h2:(cD e∈q.2.map cD)=(e∈q.2):=propext ⟨λh=>by
   obtain⟨x,hx,he⟩:=ZV.mp h;rwa[<-iA he],λh=>ZV.mpr ⟨e,h,rfl⟩⟩
  simp only[h1,h2,ih];split
  .split<;>simp
  simp
def B9{b:Bi}{l:Str}{c:Ce}(h:gt b l=U c):Bp (U (bD b)) (U (.str l))=U (ceD c):=by
 unfold Bp;rw[q8,h];rfl
def ug{b:Bi}{sh:Z9 Str}(h:∀l∈sh,∃c,gt b l=U c)(q:Mk)(hm:q=[M,M,M,M,U (bD b,Y),M,M,M]):
  bE (aC (af 7) (λO=>U L) IZ q) (sh.map D.str)=U ((vl b sh).map ceD):=by
 subst hm;have:=aX (f:=D.str) (h:=λl=>ceD ((gt b l).getD default)) (xs:=sh) (F:=aC (af 7) (λO=>U L) IZ [M,M,M,M,U (bD b,Y),M,M,M]) λl hm=>by
  obtain⟨c,hc⟩:=h l hm;simp[aC,IZ,B9 hc,hc]
 rw[this];simp[vl]
theorem nJ{sh ad:Z9 Str}(h1:sh.length<=1000)(h2:ad.length<=1000)(a0:D):∀(bs:Z9 Bi)(g:Gr)(a4 a5:Z8 (D×Bool)),(∀b∈bs,∀l∈sh++ad,∃c,gt b l=U c)->
  cu 4 5 6 oG o7 (bs.map bD) [U (a0,Y),U (.lst (sh.map D.str),Y),U (.lst (ad.map D.str),Y),M,a4,a5,M,M] (gD g)=U (gD (bs.foldl (λg b=>lZ g (vl b sh) (vl b ad)) g))
 |[],g,a4,a5,_=>rfl
 |b::bs,g,a4,a5,h=>by
  have hb:=h b (ZW ..);have ih:=nJ h1 h2 a0 bs (lZ g (vl b sh) (vl b ad)) (U (bD b,Y)) (U (cD (vl b sh),Y)) λb' Jj=>h b' (Z2 _ Jj);rw[Z1,List.foldl_cons,<-ih]
  conv=>lhs;unfold cu
  have e1:oG [U (a0,Y),U (.lst (sh.map D.str),Y),U (.lst (ad.map D.str),Y),M,U (bD b,Y),a5,M,M]=U (cD (vl b sh)):=by
   simp only[oG,aah,aaf,aai,PK];rw[aI (by simp;lia)];exact congrArg (λz=>c8 (am z)) (ug (λl hl=>hb l (Y9 _ hl)) _ rfl)
  have e2:o7 [U (a0,Y),U (.lst (sh.map D.str),Y),U (.lst (ad.map D.str),Y),M,U (bD b,Y),U (cD (vl b sh),Y),M,M]=U (cD (vl b ad)):=by
   simp only[o7,aah,aaf,aai,PK];rw[aI (by simp;lia)];have:=ug (λl hl=>hb l (ZI _ hl)) _ rfl;have hh:(yT:Mk->Z8 D)=IZ:=rfl;rw[hh];exact congrArg (λz=>c8 (am z)) this
  simp only[bq,bj,e1,e2,k9,j5,Bool.and_self,Y8,yN]
def pU{bs:Z9 Bi}{sh ad:Z9 Str}(h1:sh.length<=1000)(h2:ad.length<=1000)(hl:bs.length<=1000)(h:∀b∈bs,∀l∈sh++ad,∃c,gt b l=U c):
  Lx [.lst (bs.map bD),.lst (sh.map D.str),.lst (ad.map D.str)]=U (oV (gD (grp bs sh ad)),L):=by
 rw[au (f:=Lx) (d:=[U (.lst (bs.map bD),Y),U (.lst (sh.map D.str),Y),U (.lst (ad.map D.str),Y),M,M,M,M,M]) rfl rfl rfl];unfold E6 Cu;rw[ZO ⟨rfl,by simp,by simp,by simp,by simp⟩];have e0:yr ([U (.lst (bs.map bD),Y),U (.lst (sh.map D.str),Y),U (.lst (ad.map D.str),Y),M,M,M,M,M].set 3 M)=U (bs.map bD):=rfl;simp only[e0];rw[ZO (by simp;lia)];have:=nJ h1 h2 (.lst (bs.map bD)) bs [] M M h;simp only[bq,bj];have hg:gD []=[]:=rfl;rw[hg]at this;rw[this];rfl
theorem xO(k:Z9 Ce):∀g:Gr,(cj (cD k) ((gD g).map (·.1)) ((gD g).map λp=>(.dD p.2 (p.2.map λ_=>.bl L):D))).getD (.dD [] [])=.dD ((cO g k).map cD) ((cO g k).map λ_=>.bl L)
 |[]=>rfl
 |q::g=>by
  have ih:=xO k g;rw[aU];show(cj (cD k) (cD q.1::(gD g).map (·.1)) ((.dD (q.2.map cD) ((q.2.map cD).map λ_=>.bl L):D)::_)).getD _=_;unfold cj;by_cases h:q.1=k;rw[ZO (by rw[h]),ZO h];simp;rw[ZJ λz=>h (iA z),ZJ h];exact ih
def D7(g:Gr)(k:Z9 Ce):ce (U (oV (gD g))) (U (cD k)) (U (.dD [] []))=U (.dD ((cO g k).map cD) ((cO g k).map λ_=>.bl L)):=by
 unfold ce bP oV;simp only[k9,j5,Bool.and_self,Y8,xO]
def xA(l:Z9 (Z9 Ce)):D:=.dD (l.map cD) (l.map λ_=>.bl L)
def qM{ks:Z9 D}(k:D):∀{n:Z9 (Z9 Ce)},ks.length=n.length->qL k (.bl L) ks (n.map λ_=>(.bl L:D))=n.map λ_=>.bl L:=by
 induction ks with
 |nil=>intro n h;cases n with
  |nil=>rfl
  |cons=>simp at h
 |cons a ks ih=>intro n h;cases n with
  |nil=>simp at h
  |cons b n=>simp only[Z1,qL,ite_self,ih (by simpa using h)]
def AI(x:Z9 Ce)(l:Z9 (Z9 Ce))(hl:l.length<900000):kD (xA l) (cD x) (.bl L)=U (xA (ins x l)):=by
 unfold xA kD;have hm:(cD x∈l.map cD)=(x∈l):=propext ⟨λh=>by
   obtain⟨y,hy,he⟩:=ZV.mp h;rwa[<-iA he],λh=>ZV.mpr ⟨x,h,rfl⟩⟩
 simp only[k9,j5,Bool.and_self,XX];rw[ZO (by simp;lia)];unfold jM xN ins;simp only[hm];split;rw[qM _ (by simp)];simp
def mU(x:Z9 Ce)(l:Z9 (Z9 Ce)):(ins x l).length<=l.length+1:=by unfold ins;split<;>simp
theorem xV(kc:Z9 Ce)(hk:kc.length<=1000)(a0 a1 a2 a3 a5:Z8 (D×Bool)):∀(as:Z9 (Z9 Ce))(l:Z9 (Z9 Ce))(a7:Z8 (D×Bool)),(∀a∈as,a.length<=1000)->l.length+as.length<=500000->∃y7,
  aw (λd q=>ae ((af 7) d q) ui) (as.map cD) [a0,a1,a2,a3,U (xA l,L),a5,U (cD kc,Y),a7]=U (.next [a0,a1,a2,a3,U (xA (as.foldl (λl a=>ins (kc++a) l) l),L),a5,U (cD kc,Y),y7])
 |[],l,a7,_,_=>⟨a7,rfl⟩
 |a::as,l,a7,ha,hl=>by
  rw[cK]at hl;have hi:=mU (kc++a) l;obtain⟨y7,e⟩:=xV kc hk a0 a1 a2 a3 a5 as (ins (kc++a) l) (U (cD a,Y)) (λx hx=>ha x (Z2 _ hx)) (by lia);refine⟨y7,?_⟩;rw[List.foldl_cons,<-e,Z1]
  conv=>lhs;unfold aw
  have hc:sM (U (cD kc)) (U (cD a))=U (cD (kc++a)):=by
   unfold sM cD;have:=ha a (ZW ..);simp only[Z0,aak];rw[ZO (by lia),Y2]
  simp[ui,wu,hc,AI _ _ (show l.length<900000 by lia)]
theorem oN{sp kp:Z9 Nat}{g:Gr}(h1:sp.length<=1000)(h2:kp.length<=1000)(hg:∀k,((cO g k).length<=25)/\∀a∈cO g k,a.length<=1000)(a0:Z8 (D×Bool)):∀(found l:Z9 (Z9 Ce))(a5 a6 a7:Z8 (D×Bool)),(∀c∈found,∀i∈sp++kp,i<c.length)->l.length+25*found.length<=500000->∃y5 y6 y7,
  aw (λd q=>ae ((af 5) d q) r0) (found.map cD) [a0,U (iY sp,Y),U (iY kp,Y),U (oV (gD g),Y),U (xA l,L),a5,a6,a7]=U (.next [a0,U (iY sp,Y),U (iY kp,Y),U (oV (gD g),Y),U (xA (found.foldl (qv g sp kp) l),L),y5,y6,y7])
 |[],l,a5,a6,a7,_,_=>⟨a5,a6,a7,rfl⟩
 |c::found,l,a5,a6,a7,hc,hl=>by
  rw[cK]at hl;have QS:=hc c (ZW ..);have g1:=(hg (pk c sp)).1;obtain⟨z7,e1⟩:=xV (pk c kp) (by unfold pk;simpa using h2) a0 (U (iY sp,Y)) (U (iY kp,Y)) (U (oV (gD g),Y)) (U (cD c,Y)) (cO g (pk c sp)) l a7 (hg _).2 (by lia);have hx:(qv g sp kp l c).length<=l.length+25:=by
   unfold qv;have key:∀(as l:Z9 (Z9 Ce)),(as.foldl (λl a=>ins (pk c kp++a) l) l).length<=l.length+as.length:=by
    intro as
    induction as with
    |nil=>intro l;simp
    |cons a as ih=>intro l;rw[List.foldl_cons];have:=ih (ins (pk c kp++a) l);have:=mU (pk c kp++a) l;simp;lia
   have:=key (cO g (pk c sp)) l;lia
  obtain⟨y5,y6,y7,e⟩:=oN h1 h2 hg a0 found (qv g sp kp l c) (U (cD c,Y)) (U (cD (pk c kp),Y)) z7 (λx hx=>hc x (Z2 _ hx)) (by lia);refine⟨y5,y6,y7,?_⟩;rw[List.foldl_cons,<-e,Z1]
  conv=>lhs;unfold aw
  simp only[aac,cK,jQ,Nat.reduceAdd,Nat.reduceLT,PK,bq,bj];simp only[r0,aah,aaf,VV,PK,gH (λi hi=>QS i (ZI _ hi)) h2,aat,aal,cK,jQ,Nat.reduceAdd,Nat.reduceLT,aae,bq,bj,gH (λi hi=>QS i (Y9 _ hi)) h1,D7,vw];rw[e1];rfl
def m4{found:Z9 (Z9 Ce)}{sp kp:Z9 Nat}{g:Gr}(h1:sp.length<=1000)(h2:kp.length<=1000)(hg:∀k,((cO g k).length<=25)/\∀a∈cO g k,a.length<=1000)(hf:found.length<=16000)(h:∀c∈found,∀i∈sp++kp,i<c.length):
  Lw [.lst (found.map cD),iY sp,iY kp,oV (gD g)]=U (.lst ((ext found sp kp g).map cD),L):=by
 rw[au (f:=Lw) (d:=[U (.lst (found.map cD),Y),U (iY sp,Y),U (iY kp,Y),U (oV (gD g),Y),M,M,M,M]) rfl rfl rfl];obtain⟨y5,y6,y7,e⟩:=oN h1 h2 hg (U (.lst (found.map cD),Y)) found [] M M M h (by simp;lia);have e0:xA []=.dD [] []:=rfl;rw[e0]at e;simp only[D4,aaA,cK,jQ,Nat.reduceAdd,Nat.reduceLT,aae,bq,bj,aaf,aai,PK];rw[e];simp[xY,xA,oj,ext]
def vm(g:Gr)(k e k':Z9 Ce):(cO (lZ g k e) k').length<=(cO g k').length+1:=by
 induction g with
 |nil=>
  unfold lZ;rw[aU];split<;>simp[cO]
 |cons q g ih=>
  unfold lZ;by_cases h:q.1=k
  .rw[ZO h,aU,aU]
   dsimp only;by_cases h':q.1=k'
   .rw[ZO h',ZO h'];split<;>simp
   rw[ZJ h',ZJ h'];lia
  rw[ZJ h,aU,aU];by_cases h':q.1=k';rw[ZO h',ZO h'];lia;rw[ZJ h',ZJ h'];exact ih
def Ad(sh ad:Z9 Str)(k:Z9 Ce)(bs:Z9 Bi):(cO (grp bs sh ad) k).length<=bs.length:=by
 have key:∀(bs:Z9 Bi)(g:Gr),(cO (bs.foldl (λg b=>lZ g (vl b sh) (vl b ad)) g) k).length<=(cO g k).length+bs.length:=by
  intro bs
  induction bs with
  |nil=>intro g;simp
  |cons b bs ih=>intro g;rw[List.foldl_cons];have:=ih (lZ g (vl b sh) (vl b ad));have:=vm g (vl b sh) (vl b ad) k;simp;lia
 have:=key bs [];simpa[cO,grp]using this
def Ay(h:∀k,(cO g k).length<=n):(ext found sp kp g).length<=found.length*n:=by
 have kin:∀(c:Z9 Ce)(as l:Z9 (Z9 Ce)),(as.foldl (λl a=>ins (pk c kp++a) l) l).length<=l.length+as.length:=by
  intro c as
  induction as with
  |nil=>intro l;simp
  |cons a as ih=>intro l;rw[List.foldl_cons];have:=ih (ins (pk c kp++a) l);have:=mU (pk c kp++a) l;simp;lia
 have key:∀(found l:Z9 (Z9 Ce)),(found.foldl (qv g sp kp) l).length<=l.length+found.length*n:=by
  intro found
  induction found with
  |nil=>intro l;simp
  |cons c found ih=>
   intro l;rw[List.foldl_cons];have h1:=ih (qv g sp kp l c);have h2:=kin c (cO g (pk c sp)) l;have h3:=h (pk c sp);unfold qv at h1⊢;rw[cK,Nat.add_mul];lia
 have:=key found [];simpa[ext]using this
def qQ{q:Type}(f:q->D)(a:Z9 q)(x:q)(b:Z9 q):nA ((a++x::b).map f) (U ((a.length:Int)+1)) M=b.map f:=by
 unfold nA;have e:((a.length:Int)+1)=((a.length+1:Nat):Int):=by lia
 rw[e,HT.abP,HT.abC];simp only[Z0,Zz,cK];rw[Wv (by lia)];rw[YN (by simp)];rw[<-List.map_drop];congr 1;rw[List.drop_append];simp
def BH(l:Str)(ss:Z9 Str):bu (U (.str l)) (U (.lst (ss.map D.str)))=U (!decide (l∈ss)):=by
 unfold bu;rw[dF];rfl
def eD{own:Z9 Str}{P:Str->Bool}{F:D->Z8 (Z8 D)}(h:∀l∈own,F (.str l)=U (if P l=L then U (.str l) else M)):bE F (own.map D.str)=U ((own.filter P).map D.str):=cy h
def mB{q:Type}(P:q->Bool)(l:Z9 q):(l.filter P).length<=l.length:=X6 ..
abbrev eJ(a0 a1:Z8 (D×Bool))(rs:Z9 Row)(wanted known:Z9 Str)(found:Z9 (Z9 Ce))(ps:Z9 Pat)(x6 x7 x8 x9 Le Ld Lb La K5 K4 K3 K2:Z8 (D×Bool)):Mk:=[a0,a1,U (.lst (wanted.map D.str),Y),U (.lst (known.map D.str),Y),U (.lst (found.map cD),Y),U (.lst (ps.map (prD rs)),Y),x6,x7,x8,x9,Le,Ld,Lb,La,K5,K4,K3,K2]
def A6{rs:Z9 Row}(E_:rs.length<=25){wanted:Z9 Str}(hw:wanted.length<=100){done aq:Z9 Pat}{p:Pat}{kn:Z9 Str}{fd:Z9 (Z9 Ce)}{known:Z9 Str}{found:Z9 (Z9 Ce)}(J:Jn rs kn fd wanted done (p::aq) known found)(hk:known.length<=100)(hf:found.length<=16000)
  (h4:∀q∈p::aq,q.2.length<=4) (hl:(p::aq).length<=4) (a0 a1 x8 x9 Le Ld Lb La K5 K4 K3 K2:Z8 (D×Bool)):∃Iz IA y8 y9 Nq Np Nn Nl,Jn rs kn fd wanted (done++[p]) aq Iz IA/\Iz.length<=known.length+4/\IA.length<=found.length*rs.length/\
  kC (eJ a0 a1 rs wanted known found (done++p::aq) (U (.int done.length,Y)) (U (prD rs p,Y)) x8 x9 Le Ld Lb La K5 K4 K3 K2)=
   U (.next (eJ a0 a1 rs wanted Iz IA (done++p::aq) (U (.int done.length,Y)) (U (prD rs p,Y)) y8 y9 Nq Np Nn Nl K5 K4 K3 K2)):=by
 obtain⟨ls,els,_,UZ,lls⟩:=iS (cM aq);obtain⟨own,RI,KG,Rh,lown⟩:=iS (cM [p]);have SI:=h4 p (ZW ..);have SD:∀q∈aq,q.2.length<=4:=λq hq=>h4 q (Z2 _ hq);have QB:aq.length<=3:=by simp at hl;lia
 have lr:=aO SD;have lp:(cM [p]).length<=4:=by
  have:=aO (ps:=[p]) λq hq=>by rw[Zv.mp hq];exact SI
  simpa using this
 have mo:∀l,l∈own↔l∈ans p.2:=λl=>by rw[Rh,cJ];simp
 have ml:∀l,l∈wanted++ls↔l∈wanted\/∃q∈aq,l∈ans q.2:=λl=>by rw[Zr,UZ,cJ]
 have Mx:own.length<=4:=by lia
 generalize KJ:wanted++ls=later at ml;have QF:later.length<=200:=by rw[<-KJ,Zz];lia
 have J':=AV J mo KG ml;have f1:=mB (λl=>decide (l∈known)) own;have f2:=mB (λl=>decide (l∈later)&&!decide (l∈known)) own;have f3:=mB (λl=>decide (l∈later)) known;have Ll:∀l∈own.filter (λl=>decide (l∈known)),l∈known:=λl hl=>by simp at hl;exact hl.2
 have KH:∀l∈known.filter (λl=>decide (l∈later)),l∈known:=λl hl=>by simp at hl;exact hl.1
 have JB:∀b∈binds rs p,∀l∈own,∃c,gt b l=U c:=λb hb l hl=>(dI hb).1 l ((mo l).mp hl);have Lo:∀l∈own.filter (λl=>decide (l∈known))++own.filter (λl=>decide (l∈later)&&!decide (l∈known)),l∈own:=λl hl=>(Zr.mp hl).elim (λh=>(Y6.mp h).1) λh=>(Y6.mp h).1;have eg:=pU (bs:=binds rs p) (sh:=own.filter (λl=>decide (l∈known))) (ad:=own.filter (λl=>decide (l∈later)&&!decide (l∈known))) (by lia) (by lia) (by have:=ki rs p;lia) λb hb l hl=>JB b hb l (Lo l hl);generalize QA:own.filter (λl=>decide (l∈known))=sh at*;generalize VY:own.filter (λl=>decide (l∈later)&&!decide (l∈known))=ad at*;generalize Pk:known.filter (λl=>decide (l∈later))=kept at*;have S6:∀k,(cO (grp (binds rs p) sh ad) k).length<=rs.length:=λk=>ZH (Ad sh ad k _) (ki rs p);have ee:=m4 (found:=found) (sp:=aV sh known) (kp:=aV kept known) (g:=grp (binds rs p) sh ad) (by unfold aV;simp;lia) (by unfold aV;simp;lia) (λk=>⟨by have:=S6 k;lia,λa ha=>by
   obtain⟨b,_,_,e⟩:=(mS _ _ _ _ _).mp ha;rw[<-e];unfold vl;simp;lia⟩) hf λc hc i hi=>by
  obtain⟨φ,rfl,_⟩:=(J.mem c).mp hc;rw[Z0];have:∃l∈sh++kept,i=known.idxOf l:=by
   unfold aV at hi;rw[<-Y2]at hi;obtain⟨l,h1,h2⟩:=ZV.mp hi;exact⟨l,h1,h2.symm⟩
  obtain⟨l,h1,rfl⟩:=this;exact YF ((Zr.mp h1).elim (Ll l) (KH l))
 have LX:=cV Ll (by lia) (by lia);have Kl:=cV KH (by lia) (by lia);refine⟨_,_,U (.lst (later.map D.str),Y),U (.lst (own.map D.str),Y),U (.lst (sh.map D.str),Y),U (.lst (ad.map D.str),Y),U (.lst (kept.map D.str),Y),U (oV (gD (grp (binds rs p) sh ad)),Y),J',by rw[Zz];lia,Ay S6,?_⟩;have c1:bE (aC (af 17) (λO=>U L) uW (ax Y [Y,Y,Y,Y,Y,Y,Y,Y,Y,Y,Y,Y,Y,Y,Y,Y,Y,Y] (eJ a0 a1 rs wanted known found (done++p::aq) (U (.int done.length,Y)) (U (prD rs p,Y)) x8 x9 Le Ld Lb La K5 K4 K3 K2))) (aq.map (prD rs))=U (aq.map aaa):=aX λq hq=>by
  simp[aC,ax,uW,prD,at0]
 have l1:=aF (ps:=aq) (by lia) SD;have l2:=aF (ps:=[p]) (by simp) λq hq=>by rw[Zv.mp hq];exact SI
 have e0:ixO (U (prD rs p)) (U (.int 0))=U (aaa p):=by simp[prD,at0]
 have e1:ixO (U (prD rs p)) (U (.int 1))=U (.lst ((binds rs p).map bD)):=by simp[prD,at1]
 rw[els]at l1;rw[RI,Z1,YT]at l2;simp only[kC,aah,aaf,abR,aaB,aa0,aa2,qQ,aai,PK];rw[aI (by simp;lia),c1];simp only[aaj,VV,PK,l1,aao];rw[aaU _ _ (by simp;lia),<-Y2,KJ,aal _ _ _ (by simp)];simp only[aae,bq,bj,aah,aaf,e0,VV];rw[aas _ (by simp)];simp only[VV,PK,l2,aao];rw[aal _ _ _ (by simp)];simp only[aae,bq,bj,aah,aaf,aai,PK];rw[aI (by simp;lia),eD (P:=λl=>decide (l∈known)) λl hl=>by
  by_cases hm:l∈known<;>simp[aC,ax,yQ,dF,hm]]
 rw[QA,aaj,aaA _ _ _ (by simp)];simp only[aae,bq,bj,aa6,aa7,yn,aah,aaf,aai,PK];rw[aI (by simp;lia),eD (P:=λl=>decide (l∈later)&&!decide (l∈known)) λl hl=>by
  by_cases hm:l∈later<;>by_cases hn:l∈known<;>simp[aC,ax,yz,dF,BH,hm,hn]]
 rw[VY,aaj,aaA _ _ _ (by simp)];simp only[aae,bq,bj,aa6,aa7,yO,aah,aaf,aai,PK];rw[aI (by simp;lia),eD (P:=λl=>decide (l∈later)) λl hl=>by
  by_cases hm:l∈later<;>simp[aC,ax,xM,dF,hm]]
 rw[Pk,aaj,aaA _ _ _ (by simp)];simp only[aae,bq,bj,aa6,aa7,yM,aah,aaf,e1,VV,PK,eg];have efr:frO (U (oV (gD (grp (binds rs p) sh ad)),L))=U (oV (gD (grp (binds rs p) sh ad))):=rfl;rw[efr,aal _ _ _ (by simp)];have Q6:∀ns,frO (U (iY ns,L))=U (iY ns):=λ_=>rfl;simp only[aae,bq,bj,aah,aaf,VV,PK,LX,Kl,Q6,ee,aao];rw[aal _ _ _ (by simp)];simp only[aae,bq,bj,aah,aaf];rw[aaU _ _ (by simp;lia),aal _ _ _ (by simp),<-Y2];rfl
theorem f9:∀{xs ys:Z9 D},(∀x∈xs,∀y∈ys,(lt x y).isSome=L)->(cx lt xs ys).isSome=L
 |[],[],_=>rfl
 |[],_::_,_=>rfl
 |_::_,[],_=>rfl
 |x::xs,y::ys,h=>by
  unfold cx;split;exact f9 λa ha b hb=>h a (Z2 _ ha) b (Z2 _ hb);exact h x (ZW ..) y (ZW ..)
def bn:¬(Str.ofString "blank")=(Str.ofString "name"):=by decide +kernel
def nb:¬(Str.ofString "name")=(Str.ofString "blank"):=by decide +kernel
def zE(n:Nat)(c e:Ce):(ltD (n+1) (ceD c) (ceD e)).isSome=L:=by
 cases c<;>cases e<;>simp[ceD,ltD,cx,bn,nb]<;>split<;>rfl
def Fl(fs:Z9 (Z9 Ce)):cN (fs.map cD)=L:=by
 unfold cN;rw[ZX];intro x hx;obtain⟨r,_,rfl⟩:=ZV.mp hx;rw[ZK];refine⟨F0 r,?_⟩;rw[ZX];intro y hy;obtain⟨q,_,rfl⟩:=ZV.mp hy;show(cx (ltD 14) (r.map ceD) (q.map ceD)).isSome=L;refine f9 λx hx y hy=>?_;obtain⟨c,_,rfl⟩:=ZV.mp hx;obtain⟨e,_,rfl⟩:=ZV.mp hy;exact zE 13 c e
def bR{q:Type}{f:q->D}:∀{l:Z9 D}{fs:Z9 q},l.Perm (fs.map f)->∃gs:Z9 q,gs.Perm fs/\l=gs.map f:=by
 intro l fs h;generalize hm:fs.map f=m at h
 induction h generalizing fs with
 |nil=>exact⟨[],by simp at hm;rw[hm],rfl⟩
 |cons x h ih=>
  cases fs with
  |nil=>simp at hm
  |cons a fs=>
   simp only[Z1,Yg]at hm;obtain⟨gs,p,e⟩:=ih hm.2;exact⟨a::gs,p.cons a,by rw[e,<-hm.1];rfl⟩
 |swap x y l=>
  cases fs with
  |nil=>simp at hm
  |cons a fs=>
   cases fs with
   |nil=>simp at hm
   |cons b fs=>
    simp only[Z1,Yg]at hm;exact⟨b::a::fs,List.Perm.swap ..,by rw[<-hm.1,<-hm.2.1,<-hm.2.2];rfl⟩
 |trans h1 h2 Qq Qp=>
  obtain⟨gs,p,e⟩:=Qp hm;obtain⟨gs',p',e'⟩:=Qq e.symm;exact⟨gs',p'.trans p,e'⟩
def Hh{fs:Z9 (Z9 Ce)}(nd:fs.Nodup){n:Nat}(hn:∀c∈fs,c.length=n):fs.length<2\/(fs.map cD).all (du .tt)=L:=by
 by_cases h1:fs.length<2;exact .inl h1
 .have SO:n≠0:=λz=>by
   subst z
   match fs,nd,hn,h1 with
   |[],_,_,h=>simp at h
   |[_],_,_,h=>simp at h
   |a::b::r,nd,hn,_=>
    have ha:=XS.mp (hn a (by simp));have hb:=XS.mp (hn b (by simp));simp[ha,hb]at nd
  refine .inr (ZX.mpr λd hd=>?_);obtain⟨c,hc,rfl⟩:=ZV.mp hd;have:=hn c hc;cases c with
  |nil=>exact absurd this.symm SO
  |cons x c=>cases x<;>rfl
def By{fs:Z9 (Z9 Ce)}(nd:fs.Nodup){n:Nat}(hn:∀c∈fs,c.length=n):gT .tt (U (.lst (fs.map cD)))=U (.lst (b7 (fs.map cD))):=
 jr (Fl fs) (by simpa using Hh nd hn)
theorem k6{rs:Z9 Row}(E_:rs.length<=25){wanted:Z9 Str}(hw:wanted.length<=100)(a0 a1 K5 K4 K3 K2:Z8 (D×Bool)){n:Nat}{kn:Z9 Str}{fd:Z9 (Z9 Ce)}(N3:kn.length<=16)(hN:∀k,k<n->fd.length*rs.length ^ k<=16000):∀(aq done:Z9 Pat)(known:Z9 Str)(found:Z9 (Z9 Ce))(x6 x7 x8 x9 Le Ld Lb La:Z8 (D×Bool)),
  done.length+aq.length=n->n<=4->(∀q∈aq,q.2.length<=4)->Jn rs kn fd wanted done aq known found->known.length<=kn.length+4*done.length->found.length<=fd.length*rs.length ^ done.length->∃Iz IA y6 y7 y8 y9 Nq Np Nn Nl,Jn rs kn fd wanted (done++aq) [] Iz IA/\Iz.length<=32/\IA.length<=fd.length*rs.length ^ n/\
  aw (λd O=>ae ((be (aj (af 6) (aj (af 7) (aan)))) d O) kC) (gW done.length (aq.map (prD rs))) (eJ a0 a1 rs wanted known found (done++aq) x6 x7 x8 x9 Le Ld Lb La K5 K4 K3 K2)=
   U (.next (eJ a0 a1 rs wanted Iz IA (done++aq) y6 y7 y8 y9 Nq Np Nn Nl K5 K4 K3 K2))
 |[],done,known,found,x6,x7,x8,x9,Le,Ld,Lb,La,h1,h2,h3,J,hk,hf=>by
  simp at h1;exact⟨known,found,x6,x7,x8,x9,Le,Ld,Lb,La,by simpa using J,by lia,by rw[<-h1];exact hf,rfl⟩
 |p::aq,done,known,found,x6,x7,x8,x9,Le,Ld,Lb,La,h1,h2,h3,J,hk,hf=>by
  have hd:done.length<n:=by simp at h1;lia
  have VP:found.length<=16000:=ZH hf (hN _ hd);obtain⟨k1,f1,z8,z9,OW,OV,OU,OT,J1,hk1,VO,e⟩:=A6 E_ hw J (by lia) VP h3 (by simp at h1⊢;lia) a0 a1 x8 x9 Le Ld Lb La K5 K4 K3 K2;obtain⟨k2,f2,y6,y7,y8,y9,Nq,Np,Nn,Nl,J2,LR,VN,e2⟩:=k6 E_ hw a0 a1 K5 K4 K3 K2 N3 hN aq (done++[p]) k1 f1 (U (.int done.length,Y)) (U (prD rs p,Y)) z8 z9 OW OV OU OT (by simp at h1⊢;lia) h2 (λq hq=>h3 q (Z2 _ hq)) J1 (by simp;lia)
   (by rw[Zz,List.length_singleton,Nat.pow_succ,<-Nat.mul_assoc];exact ZH VO (Nat.mul_le_mul_right _ hf))
  refine⟨k2,f2,y6,y7,y8,y9,Nq,Np,Nn,Nl,by simpa using J2,LR,VN,?_⟩;rw[Zd,List.singleton_append]at e2;rw[Z1];simp only[gW];unfold aw;have et:(ae ((be (aj (af 6) (aj (af 7) (aan)))) (.tup [.int (done.length:Int),prD rs p]) (eJ a0 a1 rs wanted known found (done++p::aq) x6 x7 x8 x9 Le Ld Lb La K5 K4 K3 K2)) kC)=U (.next (eJ a0 a1 rs wanted k1 f1 (done++p::aq) (U (.int (done.length:Int),Y)) (U (prD rs p,Y)) z8 z9 OW OV OU OT K5 K4 K3 K2)):=by
   rw[<-e];simp only[aaP,aay,aaE,aac,ZC,cK,jQ,PK,bq,bj,Nat.reduceAdd,Nat.reduceLT]
  rw[et];rw[Zz,List.length_singleton]at e2;exact e2
def ly{rs:Z9 Row}(E_:rs.length<=25){ps:Z9 Pat}(JA:ps.length<=4)(h4:∀p∈ps,p.2.length<=4){kn:Z9 Str}{fd:Z9 (Z9 Ce)}(N3:kn.length<=16)(k1:kn.Nodup)(k2:fd.Nodup)(k3:∀x∈fd,x.length=kn.length)(k4:∀l∈kn,l∈cM ps)(hf0:fd.length<=16000)(hN:∀k,k<ps.length->fd.length*rs.length ^ k<=16000){wanted:Z9 Str}(hw:wanted.length<=100)(Qt:∀l∈wanted,l∈cM ps):∃fs:Z9 (Z9 Ce),fs.Nodup/\(∀x,x∈fs↔∃φ:Fit,x=wanted.map φ/\kn.map φ∈fd/\∀p∈ps,gU rs φ p)/\
  Ke [.lst (rs.map WC),.lst (ps.map aaa),.lst (wanted.map D.str),.lst (kn.map D.str),.lst (fd.map cD)]=U (.lst (b7 (fs.map cD)),L)/\fs.length<=fd.length*rs.length ^ ps.length:=by
 obtain⟨o,po,eo⟩:=gI rs (by lia) kn (by lia) h4 JA;have ol:=po.length_eq;have ho:∀q∈o,q.2.length<=4:=λq hq=>h4 q (po.mem_iff.mp hq);have inO:∀l,l∈cM ps->∃p∈o,l∈ans p.2:=λl hl=>by
  obtain⟨p,hp,h⟩:=cJ.mp hl;exact⟨p,po.mem_iff.mpr hp,h⟩
 obtain⟨known,found,y6,y7,y8,y9,Nq,Np,Nn,Nl,J,hk,hf,e⟩:=k6 E_ hw (U (.lst (rs.map WC),Y)) (U (.lst (ps.map aaa),Y)) M M M M (n:=ps.length) N3 hN o [] kn fd M M M M M M M M (by simpa using ol) JA ho (wP rs k1 k2 k3 λl hl=>.inr (inO l (k4 l hl))) (by simp) (by simp);simp only[List.nil_append]at J e;have Sv:∀l∈wanted,l∈kn\/∃p∈o,l∈ans p.2:=λl hl=>.inr (inO l (Qt l hl));have Sw:∀l∈wanted,l∈known:=λl hl=>J.has l (Sv l hl) (.inl hl);obtain⟨nd,mem⟩:=Cp J Sv;have es:=By nd (n:=wanted.length) (λc hc=>by
  obtain⟨d,_,rfl⟩:=ZV.mp hc;unfold pk aV;simp)
 have hf':found.length<=400000:=by
  refine ZH hf ?_;rcases Nat.eq_zero_or_pos ps.length with z|z;rw[z];simp;lia;obtain⟨m,hm⟩:∃m,ps.length=m+1:=⟨ps.length - 1,by lia⟩
  rw[hm,Nat.pow_succ,<-Nat.mul_assoc];exact ZH (Nat.mul_le_mul (hN m (by lia)) E_) (by decide)
 refine⟨found.map λc=>pk c (aV wanted known),nd,λx=>?_,?_⟩;rw[mem];constructor
 rintro⟨φ,h1,h0,h2⟩;exact⟨φ,h1,h0,λp hp=>h2 p (po.mem_iff.mpr hp)⟩
 rintro⟨φ,h1,h0,h2⟩;exact⟨φ,h1,h0,λp hp=>h2 p (po.mem_iff.mp hp)⟩
 refine⟨?_,by simpa using hf⟩;rw[au (f:=Ke) (d:=[U (.lst (rs.map WC),Y),U (.lst (ps.map aaa),Y),U (.lst (wanted.map D.str),Y),U (.lst (kn.map D.str),Y),U (.lst (fd.map cD),Y),M,M,M,M,M,M,M,M,M,M,M,M,M]) rfl rfl rfl];simp only[Ei,aah,aaf,VV,PK,eo,aao];rw[aal _ _ _ (by simp)];simp only[aae,bq,bj,aah,aaf,wK,PK];simp only[jQ]at e;rw[e];simp only[aae,aah,aaf,VV,PK];rw[cV Sw (by lia) (by lia)];have Q6:∀ns,frO (U (iY ns,L))=U (iY ns):=λ_=>rfl;rw[Q6,aal _ _ _ (by simp)];simp only[aae,bq,bj,aah,aaf,aai,PK];rw[aI (by simp;lia),aX (f:=cD) (h:=λc=>cD (pk c (aV wanted known))) λc hc=>by
  obtain⟨φ,rfl,_⟩:=(J.mem c).mp hc;have:=gH (c:=known.map φ) (ps:=aV wanted known) (λi hi=>by
   unfold aV at hi;obtain⟨l,h1,rfl⟩:=ZV.mp hi;rw[Z0];exact YF (Sw l h1)) (by unfold aV;simp;lia)
  simp[aC,ax,yq,this]]
 have em:found.map (λc=>cD (pk c (aV wanted known)))=(found.map λc=>pk c (aV wanted known)).map cD:=by simp
 rw[aaj,em,es];rfl
def iE(q:Str×Ce):D:=.tup [.str q.1,ceD q.2]
def xF(h:iE a=iE b):a=b:=by
 obtain⟨x,c⟩:=a;obtain⟨y,d⟩:=b;simp only[iE,D.tup.injEq,Yg,D.str.injEq,and_true]at h;rw[h.1,gy h.2]
def uL(ps:Z9 Pat):Z9 Str:=vU (uS (cM ps))
def wL(ps:Z9 Pat):(uL ps).Nodup:=(bM _).nodup_iff.mpr (dQ _)
def dE(ps:Z9 Pat)(x:Str):x∈uL ps↔x∈cM ps:=(bM _).mem_iff.trans (hZ x _)
def dX(ps:Z9 Pat):(uL ps).length<=(cM ps).length:=(bM (uS (cM ps))).length_eq▸sG _
def fL(us:Z9 Str)(c:Z9 Ce):D:=.lst ((us.zip c).map iE)
def yA(q:Str×Ce)(n:Nat):okD (n+3) (iE q)=L:=by obtain⟨l,c⟩:=q;cases c<;>simp[iE,ceD,okD]
def Ez(us:Z9 Str)(c:Z9 Ce)(n:Nat):okD (n+4) (fL us c)=L:=by
 simp only[fL,okD,List.all_map,ZX];exact λq _=>yA q n
def C6(h1:c.length=us.length)(h2:d.length=us.length)(h:fL us c=fL us d):c=d:=by
 have e:=jg (f:=iE) (λ_ _=>xF) (D.lst.inj h);have:=congrArg (List.map Prod.snd) e;rwa[List.map_snd_zip (by lia),List.map_snd_zip (by lia)]at this
theorem lY:∀us:Z9 Str,us.zip (us.map f)=us.map λl=>(l,f l)
 |[]=>rfl
 |u::us=>by rw[Z1,List.zip_cons_cons,lY us];rfl
def B4(b:Bi):cN (b.map iE)=L:=by
 unfold cN;rw[ZX];intro x hx;obtain⟨⟨l,c⟩,_,rfl⟩:=ZV.mp hx;rw[ZK];refine⟨yA (l,c) 12,?_⟩;rw[ZX];intro y hy;obtain⟨⟨k,d⟩,_,rfl⟩:=ZV.mp hy;show(cx (ltD 14) [.str l,ceD c] [.str k,ceD d]).isSome=L;simp only[cx];split;split;rfl;exact zE 13 c d;rfl
def gM(r:Row)(n:Nat):okD (n+3) (WC r)=L:=by
 simp only[WC,okD,jR,List.all_nil,Yd,XX,List.all_map,ZX];intro c _;cases c<;>simp[ceD,okD]
def D9(rs:Z9 Row):okD 16 (.lst (rs.map WC))=L:=by
 simp only[okD,List.all_map,ZX];intro r _;exact gM r 12
open Classical in
def dZ(c j:Int):Int:=((c*(2*j+3)+j)%2147483629*((c*(2*j+3)+j)%2147483629)+1)*48271%2147483629
def aS(c j:Int):0<=dZ c j:=by unfold dZ;lia
def D8(c j:Int):dZ c j<2147483629:=by unfold dZ;lia
def bt(c j:Int)(h0: -1000<=j)(h1:j<=1000):o_ [.int c,.int j]=U (.int (dZ c j),Y):=by
 rw[au (f:=o_) (d:=[U (.int c,Y),U (.int j,Y),M]) rfl rfl rfl];have e1:(0:Int)<=(c*(2*j+3)+j)%2147483629:=by lia
 have e2:(c*(2*j+3)+j)%2147483629<2147483629:=by lia
 simp[Ew,aa5 c (2*j+3) (by lia),aa5 ((c*(2*j+3)+j)%2147483629) ((c*(2*j+3)+j)%2147483629) (by lia),dZ]
def fo:Str.length "abcdefghijklmnopqrstuvwxyz"=26:=by decide +kernel
def xx(c:Int):∃ws:Z9 Str,ws.length=6/\Ls [.int c]=U (.lst (ws.map .str),L):=by
 have m1:=aS c 1;generalize hsz:2+dZ c 1%6=sz;have Jq:2<=sz:=by lia
 have hs7:sz<=7:=by lia
 obtain⟨g,eg,gl,gp⟩:=de (ds:=fF 0 sz.toNat) (P:=λ_ y=>∃x:Str,x.length=1/\y=.str x)
  (h:=aC (af 6) (λO=>U L) uR [U (.int c,Y),U (.str "abcdefghijklmnopqrstuvwxyz",Y),M,M,M,M,M,M]) λd hd=>by
   obtain⟨i,hi,rfl⟩:=bY hd;have h0:=aS c (2+(0+(i:Int)));obtain⟨x,hx,ex⟩:=gR "abcdefghijklmnopqrstuvwxyz" (dZ c (2+(0+(i:Int)))%26) (by rw[fo];decide) (by lia) (by rw[fo];lia);refine⟨.str x,?_,x,hx,rfl⟩;simp[aC,uR];rw[bt c _ (by lia) (by lia),aat,aap _ _ (by decide)];have e0:(0:Int)+(i:Int)=i:=by lia
   rw[e0]at ex;rw[ex]
 obtain⟨ss,rfl,Qz⟩:=sB (Q:=λx=>x.length=1) gl gp λd y hz=>by obtain⟨x,hx,e⟩:=hz;exact⟨x,e,hx⟩
 rw[aL,Z0]at gl;have hj:=Ar "" ss (by rw[nG Qz,show Str.length ""=0 by decide +kernel];lia);have VC:(Txt.join "" ss).length=ss.length:=by rw[uM,nG Qz]
 generalize Txt.join "" ss=Je at hj VC;have m9:=aS c 9;generalize JZ:dZ c 9%sz=at';have VZ:0<=at':=by rw[<-JZ];exact Int.emod_nonneg _ (by lia)
 have ha1:at'<sz:=by rw[<-JZ];exact Int.emod_lt_of_pos _ (by lia)
 have TR:Je.length<=7:=by lia
 obtain⟨d_,el,fs,Po,x6,x7,rfl⟩:=cX (body:=λd O=>ae ((af 6) d O) sN) (λpre O=>∃fs:Z9 Str,fs.length=pre.length/\∃x6 x7,
   O=[U (.int c,Y),U (.str "abcdefghijklmnopqrstuvwxyz",Y),U (.int sz,Y),U (.str Je,Y),U (.int at',Y),U (.lst (fs.map D.str),L),x6,x7]) (fF 0 4) []
  [U (.int c,Y),U (.str "abcdefghijklmnopqrstuvwxyz",Y),U (.int sz,Y),U (.str Je,Y),U (.int at',Y),U (.lst [],L),M,M] ⟨[],rfl,M,M,rfl⟩
  λp d q O JX hz=>by
   obtain⟨fs,S7,x6,x7,e⟩:=hz;have hd:d∈fF 0 4:=by
    rw[List.nil_append]at JX;rw[<-JX];simp
   have hp:p.length<4:=by
    have:=congrArg List.length JX;rw[List.nil_append,aL]at this;simp at this;lia
   obtain⟨i,hi,rfl⟩:=bY hd;subst e;obtain⟨y,hy,ey⟩:=gR Je at' (by have:lim=1000000:=rfl;lia) VZ (by lia);obtain⟨z,hz,ez⟩:=gR "abcdefghijklmnopqrstuvwxyz" ((Txt.find "abcdefghijklmnopqrstuvwxyz" y+7*(0+(i:Int)))%26) (by rw[fo];decide) (by lia) (by rw[fo];lia);have c1:=jl Je M (U at');have c2:=jl Je (U (at'+1)) M;have G_:lim=1000000:=rfl;refine⟨_,.inl ?_,fs++[vh Je M (U at')++z++vh Je (U (at'+1)) M],by simp[S7],U (.int (0+(i:Int)),Y),U (.str z,Y),rfl⟩;have e0:(0:Int)+(i:Int)=i:=by lia
   rw[e0]at ez⊢;simp[sN,ey,ez];rw[abw _ _ _ (by lia),abw _ _ _ (by lia),abM _ _ (by lia),abM _ _ (by rw[Str.length_append];lia)];rw[iP (ds:=fs.map D.str) _ (by rfl) (by rw[Z0];lia)];simp
 rw[List.nil_append,aL]at Po;have m10:=aS c 10;obtain⟨z,hz,ez⟩:=gR "abcdefghijklmnopqrstuvwxyz" (dZ c 10%26) (by rw[fo];decide) (by lia) (by rw[fo];lia);refine⟨fs++[Je++z,vh Je M (U (sz - 1))],by simp[Po],?_⟩;rw[au (f:=Ls) (d:=[U (.int c,Y),M,M,M,M,M,M,M]) rfl rfl rfl];simp[EB];rw[bt c 1 (by lia) (by lia),aat,aap _ _ (by decide),aaB,hsz];simp;rw[eB sz (by lia),PK,aI (by rw[aL,aak];lia)];simp[ax];rw[eg,aaj,hj];simp;rw[bt c 9 (by lia) (by lia),aat,aap _ _ (by lia),JZ];simp;rw[eB 4 (by lia),PK];rw[show(4:Int).toNat=4 from rfl];rw[el];simp[yk];have G_:lim=1000000:=rfl;rw[bt c 10 (by lia) (by lia),aat,aap _ _ (by decide),ez,abM _ _ (by lia),abw _ _ _ (by lia)];simp;rw[aaU _ _ (by simp;lia)];simp
def ue:Str.length "ABCDEFGHIJKLMNOPQRSTUVWXYZ"=26:=by decide +kernel
def qm(c:Int):∃ws:Z9 Str,ws.length=6/\KS [.int c]=U (.lst (ws.map .str),L):=by
 have m1:=aS c 13;have m2:=aS c 14;obtain⟨st,IF,_,est⟩:=oK (xs:=[D.int 1,.int 3,.int 5,.int 7,.int 9,.int 11]) (i:=dZ c 14%6) (by lia) (by simp;lia);obtain⟨sp,NZ,hs1,rfl⟩:∃sp:Int,0<=sp/\sp<=11/\st=.int sp:=by
  simp at IF;rcases IF with rfl|rfl|rfl|rfl|rfl|rfl<;>exact⟨_,by lia,by lia,rfl⟩
 obtain⟨g,eg,gl,gp⟩:=de (ds:=fF 0 6) (P:=λ_ y=>∃x:Str,x.length=1/\y=.str x)
  (h:=aC (af 4) (λq=>U L) tU [M,U (.str "ABCDEFGHIJKLMNOPQRSTUVWXYZ",Y),U (.int (dZ c 13%26),Y),U (.int sp,Y),M]) λd hd=>by
   obtain⟨i,hi,rfl⟩:=bY hd;obtain⟨x,hx,ex⟩:=gR "ABCDEFGHIJKLMNOPQRSTUVWXYZ" ((dZ c 13%26+sp*(0+(i:Int)))%26) (by rw[ue];decide) (by lia) (by rw[ue];lia);refine⟨.str x,?_,x,hx,rfl⟩;have e0:(0:Int)+(i:Int)=i:=by lia
   rw[e0]at ex;simp[aC,tU];rw[aa5 _ _ (by lia),aaB,aap _ _ (by decide),ex]
 obtain⟨ss,rfl,Qz⟩:=sB (Q:=λx=>x.length=1) gl gp λd y hz=>by obtain⟨x,hx,e⟩:=hz;exact⟨x,e,hx⟩
 rw[aL,Z0]at gl;refine⟨ss,by lia,?_⟩;rw[au (f:=KS) (d:=[U (.int c,Y),M,M,M,M]) rfl rfl rfl];have G_:lim=1000000:=rfl;simp[Ej,G_];rw[bt c 13 (by lia) (by lia),aat,aap _ _ (by decide)];simp;rw[bt c 14 (by lia) (by lia),aat,aap _ _ (by decide)];simp;rw[est];simp;rw[eB 6 (by lia),PK,aI (by rw[aL];decide)];simp[ax];rw[eg];simp
theorem oF(x:D):∀l:Z9 D,(mR x l).length=l.length+1
 |[]=>rfl
 |y::ys=>by
  unfold mR;split;simp[oF x ys];simp
theorem ot:∀{l:Z9 D},z∈mR x l->z=x\/z∈l
 |[],h=>by simpa[mR]using h
 |y::ys,h=>by
  unfold mR at h;split at h;rcases ZZ.mp h with h|h;exact .inr (ZZ.mpr (.inl h));rcases ot h with h|h;exact .inl h;exact .inr (Z2 _ h);rcases ZZ.mp h with h|h;exact .inl h;exact .inr h
theorem su:∀l:Z9 D,(b7 l).length=l.length
 |[]=>rfl
 |x::l=>by show(mR x (b7 l)).length=_;rw[oF,su l];rfl
theorem sY:∀{l:Z9 D},z∈b7 l->z∈l
 |[],h=>h
 |x::l,h=>by
  rcases ot (show z∈mR x (b7 l) from h)with h|h;exact ZZ.mpr (.inl h);exact Z2 _ (sY h)
def iM{ws:Z9 Str}{i:Int}(h0:0<=i)(h1:i<ws.length):∃w,atI (ws.map D.str) i=U (.str w):=by
 obtain⟨v,hv,_,e⟩:=oK (xs:=ws.map D.str) h0 (by simpa using h1);obtain⟨w,_,rfl⟩:=ZV.mp hv;exact⟨w,e⟩
def lP{O:Type}{F:O->D}{P:D->D->Prop}{ds g:Z9 D}{Q:O->Prop}(hl:g.length=ds.length)(h:∀(i:Nat) d,ds[i]?=U d->∃y,g[i]?=U y/\P d y)(hP:∀d y,P d y->∃x,y=F x/\Q x):∃ss:Z9 O,g=ss.map F/\∀x∈ss,Q x:=by
 have hy:∀y∈g,∃x,y=F x/\Q x:=λy hy=>by
  obtain⟨i,hi,e⟩:=YW.mp hy;obtain⟨z,ez,p⟩:=h i (ds[i]'(by lia)) (by simp[show i<ds.length by lia]);rw[YU hi]at ez;obtain rfl:=Z7 ez;rw[<-e];exact hP _ _ p
 clear h hl
 induction g with
 |nil=>exact⟨[],rfl,by simp⟩
 |cons y g ih=>
  obtain⟨x,e,q⟩:=hy y (ZW ..);obtain⟨ss,e2,q2⟩:=ih λz hz=>hy z (Z2 _ hz);refine⟨x::ss,by rw[e,e2];rfl,λz hz=>?_⟩;rcases ZZ.mp hz with hz|hz
  rw[hz];exact q;exact q2 z hz
def DY(ns:Z9 Int)(l u:Z8 Int):∃cs:Z9 Int,nA (ns.map D.int) l u=cs.map D.int/\cs.length<=ns.length:=by
 unfold nA;refine⟨_,by rw[<-List.map_drop,<-List.map_take],?_⟩;simp;lia
def DC(n:Nat)(r q:Row):(ltD (n+3) (WC r) (WC q)).isSome=L:=by
 show(cx (ltD (n+2)) [.str r.1,.tup (r.2.map ceD)] [.str q.1,.tup (q.2.map ceD)]).isSome=L;unfold cx;split;unfold cx;split;rfl;show(cx (ltD (n+1)) (r.2.map ceD) (q.2.map ceD)).isSome=L;refine f9 λx hx y hy=>?_;obtain⟨c,_,rfl⟩:=ZV.mp hx;obtain⟨e,_,rfl⟩:=ZV.mp hy;exact zE n c e;rfl
def nF(rs:Z9 Row):cN (rs.map WC)=L:=by
 unfold cN;rw[ZX];intro x hx;obtain⟨r,_,rfl⟩:=ZV.mp hx;rw[ZK];refine⟨gM r 12,?_⟩;rw[ZX];intro y hy;obtain⟨q,_,rfl⟩:=ZV.mp hy;exact DC 12 r q
def sd(rs:Z9 Row):(rs.map WC).all (du .ts)=L:=by
 rw[ZX];intro x hx;obtain⟨r,_,rfl⟩:=ZV.mp hx;rfl
def vJ{q:Type}{F:q->D}{P:q->Prop}(h:∀x∈l,∃a,P a/\x=F a):∃as:Z9 q,l=as.map F/\∀a∈as,P a:=by
 induction l with
 |nil=>exact⟨[],rfl,by simp⟩
 |cons x l ih=>
  obtain⟨a,pa,e⟩:=h x (ZW ..);obtain⟨as,e2,UI⟩:=ih λy hy=>h y (Z2 _ hy);refine⟨a::as,by rw[e,e2];rfl,λb hb=>?_⟩;rcases ZZ.mp hb with rfl|hb
  exact pa;exact UI b hb
def jE(h:WC r=WC q):r=q:=by
 obtain⟨a,c⟩:=r;obtain⟨b,d⟩:=q;simp only[WC,D.tup.injEq,Yg,D.str.injEq,and_true]at h;rw[h.1,jg (f:=ceD) (λ_ _=>gy) h.2]
def xD(rs:Z9 Row)(h:rs.length<64):∃fs:Z9 Row,(∀r,r∈fs↔r∈rs)/\fs.length<=rs.length/\KP [.lst (rs.map WC)]=U (.lst (fs.map WC),L):=by
 obtain⟨ss,RX,es⟩:=bR (aA (rs.map WC));have NA:=RX.length_eq;have loop:∀(qs fs:Z9 Row)(x2:Z8 (D×Bool)),fs.length+qs.length<64->∃(MK:Z9 Row)(y2:Z8 (D×Bool)),(∀r,r∈MK↔r∈fs\/r∈qs)/\MK.length<=fs.length+qs.length/\
   aw (λd O=>ae ((af 2) d O) nQ) (qs.map WC) [U (.lst (rs.map WC),Y),U (.lst (fs.map WC),L),x2]=U (.next [U (.lst (rs.map WC),Y),U (.lst (MK.map WC),L),y2]):=by
  intro qs
  induction qs with
  |nil=>intro fs x2 _;exact⟨fs,x2,λr=>by simp,by simp,rfl⟩
  |cons q qs ih=>
   intro fs x2 hl;rw[cK]at hl;have JB:inO (U (WC q)) (U (.lst (fs.map WC)))=U (decide (WC q∈fs.map WC)):=by
    unfold inO;simp only[aT];rw[ZO];rw[gM q 13,XX,ZX];intro x hx;obtain⟨r,_,rfl⟩:=ZV.mp hx;exact gM r 13
   by_cases hm:WC q∈fs.map WC
   .obtain⟨MK,y2,h1,h2,h3⟩:=ih fs (U (WC q,Y)) (by lia)
    have hq:q∈fs:=by obtain⟨r,hr,e⟩:=ZV.mp hm;rw[<-jE e];exact hr
    refine⟨MK,y2,λr=>?_,by rw[cK];lia,?_⟩;rw[h1,ZZ];constructor
    rintro(z|z)
    exact .inl z;exact .inr (.inr z)
    rintro(z|rfl|z)
    exact .inl z;exact .inl hq;exact .inr z
    .rw[Z1,<-h3]
     conv=>lhs;unfold aw
     simp[nQ,bu,JB,hm]
   .obtain⟨MK,y2,h1,h2,h3⟩:=ih (fs++[q]) (U (WC q,Y)) (by simp;lia)
    refine⟨MK,y2,λr=>?_,by simp at h2⊢;lia,?_⟩;rw[h1,Zr,Zv,ZZ,or_assoc]
    .rw[Z1,<-h3]
     conv=>lhs;unfold aw
     have LH:decide (WC q∈fs.map WC)=Y:=ZD hm;simp only[nQ,bu,aac,aah,aaf,acE,cK,jQ,bq,bj,PK,Yj,Nat.reduceAdd,Nat.reduceLT,JB,LH,abu,X8,abF,CA,abb,aba];rw[ZO (by rw[Z0,aak];lia)];simp
 obtain⟨fs,y2,h1,h2,h3⟩:=loop ss [] M (by simp;lia);refine⟨fs,λr=>by rw[h1,<-RX.mem_iff];simp,by simp at h2;lia,?_⟩;rw[au (f:=KP) (d:=[U (.lst (rs.map WC),Y),M,M]) rfl rfl rfl];have Ve:gT .ts (U (.lst (rs.map WC)))=U (.lst (ss.map WC)):=by
  rw[jr (nF rs) (.inr (sd rs)),es]
 simp only[EO,aaf];rw[aas [] (by simp),aaA _ _ _ (by simp)];simp only[aae,bq,bj,aaf,Ve,aai,PK];rw[YT]at h3;rw[h3];simp only[aae,aba,abb,abg,aa4]
def br(ws:Z9 Str)(st sp:Int):D:=.tup [.lst (ws.map .str),.int st,.int sp]
def vF(c:Int):∃ws st sp,ws.length=6/\0<=st/\st<400000/\1<=sp/\sp<=50000/\KU [.int c]=U (br ws st sp,Y):=by
 obtain⟨ws,hw,ew⟩:=xx c;have m1:=aS c 11;have m2:=aS c 12;refine⟨ws,dZ c 11%400000,1+dZ c 12%40000,hw,by lia,by lia,by lia,by lia,?_⟩;rw[au (f:=KU) (d:=[U (.int c,Y)]) rfl rfl rfl];simp[E2,ew];rw[bt c 11 (by lia) (by lia),bt c 12 (by lia) (by lia)];simp[br]
def zI{ws:Z9 Str}{st sp:Int}(hw:ws.length=6)(h0:0<=st)(h1:st<400000)(h2:1<=sp)(h3:sp<=50000)(c:Int)(hc:0<=c):∃e:Ce,KQ [br ws st sp,.int c]=U (ceD e,Y):=by
 obtain⟨w,ew⟩:=iM (ws:=ws) (i:=c / 2%6) (by lia) (by lia);by_cases hm:c%2=0;refine⟨.bk (st+sp*(c / 2%12)),?_⟩;rw[au (f:=KQ) (d:=[U (br ws st sp,Y),U (.int c,Y),M,M,M]) rfl rfl rfl];simp[DR,br,hm];rw[aa5 sp _ (by lia)];simp[ceD];refine⟨.nm w,?_⟩;rw[au (f:=KQ) (d:=[U (br ws st sp,Y),U (.int c,Y),M,M,M]) rfl rfl rfl];simp[DR,br,hm];rw[ew];simp[ceD]
def Dl{ws:Z9 Str}{st sp:Int}(hw:ws.length=6)(h0:0<=st)(h1:st<400000)(h2:1<=sp)(h3:sp<=50000)(c:Int):∃r:Row,r.2.length<=3/\Lr [br ws st sp,.int c]=U (WC r,Y):=by
 have m1:=aS c 1;have m2:=aS c 2;generalize hsz:1+dZ c 1%3=sz;obtain⟨t,et⟩:=iM (ws:=ws) (i:=dZ c 2%2) (by lia) (by lia);have Oa:atI [D.lst (ws.map .str),.int st,.int sp] 0=U (.lst (ws.map .str)):=rfl;obtain⟨g,eg,gl,gp⟩:=de (ds:=fF 0 sz.toNat) (P:=λ_ y=>∃e:Ce,True/\y=ceD e)
  (h:=aC (af 4) (λq=>U L) uX [U (br ws st sp,Y),U (.int c,Y),M,M,M]) λd hd=>by
   obtain⟨i,hi,rfl⟩:=bY hd;obtain⟨e,ee⟩:=zI hw h0 h1 h2 h3 (dZ c (3+(0+(i:Int)))) (aS _ _);refine⟨ceD e,?_,e,trivial,rfl⟩;have e0:(0:Int)+(i:Int)=i:=by lia
   rw[e0]at ee⊢;simp[aC,uX];rw[bt c _ (by lia) (by lia)];simp[ee]
 obtain⟨cs,rfl,Py⟩:=lP (F:=ceD) (Q:=λ_=>True) gl gp λd y hz=>by obtain⟨e,a,b⟩:=hz;exact⟨e,b,a⟩
 rw[aL,Z0]at gl;refine⟨(t,cs),by simp only;lia,?_⟩;rw[au (f:=Lr) (d:=[U (br ws st sp,Y),U (.int c,Y),M,M,M]) rfl rfl rfl];simp[Et];rw[bt c 1 (by lia) (by lia),aat,aap _ _ (by decide),aaB,hsz];simp;rw[eB sz (by lia),PK,aI (by rw[aL,aak];lia)];simp[ax];rw[eg];simp[xP,br,Oa];rw[bt c 2 (by lia) (by lia),aat,aap _ _ (by decide),abr,et];simp[WC]
def GG(a b:D)(i j:Nat)(q:Mk)(hi:i<q.length)(hj:j<q.length):yR (U (.tup [a,b])) (be (aj (af i) (aj (af j) (aan)))) q=U (.next ((q.set i (U (a,Y))).set j (U (b,Y)))):=by
 unfold yR;simp only[aaP,aay,aaE,aac i a q hi,PK];rw[aac j b _ (by simpa using hj)];rfl
def FS:¬(Str.ofString "blank")=(Str.ofString "any"):=by decide +kernel
def D0(c:Ce)(d:Int)(l:Str):Te:=match c with|.bk _=>.any l|.nm w=>if d%2=1 then .any l else .nm w
abbrev eP(ls:Z9 Str)(a:Z8 (D×Bool))(c:Int)(b:Z8 (D×Bool))(cs:Z9 Ce)(x:Z9 D)(y z:Z8 (D×Bool)):Mk:=[U (.lst (ls.map .str),Y),a,U (.int c,Y),b,U (.tup (cs.map ceD),Y),U (.lst x,L),y,z]
def vO{ls:Z9 Str}(hl:ls.length=6)(c:Int)(a2 a4:Z8 (D×Bool))(cs:Z9 Ce)(Py:cs.length<=4):∃ts:Z9 Te,ts.length=cs.length/\∃x7 x8,
  aw (λd O=>ae ((af 6) d O) nX) (fF 0 cs.length) (eP ls a2 c a4 cs ([]) M M)=
   U (.next (eP ls a2 c a4 cs ((ts.map teD)) x7 x8)):=by
 obtain⟨d_,el,ts,q_,x7,x8,rfl⟩:=cX (body:=λd O=>ae ((af 6) d O) nX) (λpre O=>∃ts:Z9 Te,ts.length=pre.length/\∃x7 x8,
   O=(eP ls a2 c a4 cs ((ts.map teD)) x7 x8)) (fF 0 cs.length) []
  (eP ls a2 c a4 cs ([]) M M) ⟨[],rfl,M,M,rfl⟩
  λp d q O JX hz=>by
   obtain⟨ts,JA,x7,x8,e⟩:=hz;have hd:d∈fF 0 cs.length:=by
    rw[List.nil_append]at JX;rw[<-JX];simp
   have hp:p.length<4:=by
    have:=congrArg List.length JX;rw[List.nil_append,aL]at this;simp at this;lia
   obtain⟨i,hi,rfl⟩:=bY hd;subst e;have e0:(0:Int)+(i:Int)=i:=by lia
   rw[e0];have h0:=aS c (17+(i:Int));obtain⟨l,el⟩:=iM (ws:=ls) (i:=dZ c (17+(i:Int)) / 2%4) (by lia) (by lia);have hc:atI (cs.map ceD) (i:Int)=U (ceD cs[i]):=t6 (by lia) (by simp[hi]);have hm:=bt c (17+(i:Int)) (by lia) (by lia);have ap:∀(t:Te)(x7 x8:Z8 (D×Bool)),jv 5 (U (teD t)) (eP ls a2 c a4 cs ((ts.map teD)) x7 x8)=U (.next (eP ls a2 c a4 cs (((ts++[t]).map teD)) x7 x8)):=λt x7 x8=>by
    rw[iP (ds:=ts.map teD) _ (by rfl) (by rw[Z0,aak];lia)];simp
   refine⟨_,.inl ?_,ts++[D0 cs[i] (dZ c (17+(i:Int))) l],by simp[JA],U (.int i,Y),U (.int (dZ c (17+(i:Int))),Y),rfl⟩;simp only[aac,cK,jQ,Nat.reduceAdd,Nat.reduceLT,PK,bq,bj,nX,aah,aaf,aaB,VV,hm,aat,aal,aae,ab9,hc,abr,aap _ _ (show(0:Int)<2 by lia),aap _ _ (show(0:Int)<4 by lia),aca _ _ (show(0:Int)<2/\(2:Int)<1073741824 by lia),el];rw[aax _ (by simp)];have ta:(.tup [.str "any",.str l]:D)=teD (.any l):=rfl;rw[ta,ap];cases hci:cs[i]with
   |bk n=>
    have:eqO (ixO (U (ceD (.bk n))) (U (.int 0))) (U (.str "blank"))=U L:=by simp[ceD,at0,b8]
    rw[this];simp[D0]
   |nm w=>
    have:eqO (ixO (U (ceD (.nm w))) (U (.int 0))) (U (.str "blank"))=U Y:=by simp[ceD,at0,b8,nb]
    rw[this];have tn:ceD (.nm w)=teD (.nm w):=rfl;rw[tn,ap];by_cases hm:dZ c (17+(i:Int))%2=1;simp[hm,D0];simp[hm,D0]
 rw[List.nil_append,aL]at q_;exact⟨ts,q_,x7,x8,el⟩
def pV{ls:Z9 Str}(hl:ls.length=6)(hn:rs≠[])(E_:rs.length<=63)(h4:∀r∈rs,r.2.length<=3)(c:Int):∃p:Pat,p.2.length<=4/\Lp [.lst (ls.map .str),.lst (rs.map WC),.int c]=U (aaa p,Y):=by
 have m16:=aS c 16;have hpos:0<rs.length:=List.length_pos_iff.mpr hn;have a0:(0:Int)<=dZ c 16%(rs.length:Int):=Int.emod_nonneg _ (by lia);have a1:dZ c 16%(rs.length:Int)<rs.length:=Int.emod_lt_of_pos _ (by lia);obtain⟨v,hv,_,ev⟩:=oK (xs:=rs.map WC) a0 (by simpa using a1);obtain⟨r,hr,rfl⟩:=ZV.mp hv;have h3:=h4 r hr;obtain⟨ts,ht,x7,x8,el⟩:=vO hl c (U (.lst (rs.map WC),Y)) (U (.str r.1,Y)) r.2 (by lia);refine⟨(r.1,ts),by simp only;lia,?_⟩;rw[au (f:=Lp) (d:=[U (.lst (ls.map .str),Y),U (.lst (rs.map WC),Y),U (.int c,Y),M,M,M,M,M]) rfl rfl rfl];simp only[Fc,aah,aaf,VV,PK,bt c 16 (by lia) (by lia),aat,abL,Z0,aap _ _ (show(0:Int)<rs.length by lia),abr,ev];have er1:WC r=.tup [.str r.1,.tup (r.2.map ceD)]:=rfl;rw[er1,GG _ _ _ _ _ (by simp) (by simp)];simp only[aae,bq,bj,aah,aaf];rw[aas _ (by simp),aaA _ _ _ (by simp)];simp only[aae,bq,bj,aah,aaf,ab8,Z0];rw[eB _ (by lia),PK,Int.toNat_natCast,el];simp only[aae,aa6,aa7,xI,aah,aaf,abd,VV];rw[aax _ (by simp)];rfl
abbrev eG(ws:Z9 Str)(st sp:Int)(ls:Z9 Str)(c:Int)(a u v y z:Z8 (D×Bool)):Mk:=[U (br ws st sp,Y),U (.lst (ls.map .str),Y),U (.int c,Y),a,u,v,y,z]
abbrev eH(ws:Z9 Str)(st sp:Int)(ls:Z9 Str)(c:Int)(a:Z8 (D×Bool))(k:Int)(x:Z9 D)(y z:Z8 (D×Bool)):Mk:=(eG ws st sp ls c a (U (.int k,Y)) (U (.lst x,L)) y z)
def yY{st sp:Int}(hw:ws.length=6)(hl:ls.length=6)(c k:Int)(k0:0<=k)(k1:k<=1)(n:Nat)(hn:n<=3)(a3 x6 x7:Z8 (D×Bool)):∃ts:Z9 Te,ts.length=n/\∃y6 y7,
  aw (λd O=>ae ((af 6) d O) oW) (fF 0 n) (eH ws st sp ls c a3 k ([]) x6 x7)=
   U (.next (eH ws st sp ls c a3 k ((ts.map teD)) y6 y7)):=by
 obtain⟨d_,el,ts,q_,y6,y7,rfl⟩:=cX (body:=λd O=>ae ((af 6) d O) oW) (λpre O=>∃ts:Z9 Te,ts.length=pre.length/\∃x6 x7,
   O=(eH ws st sp ls c a3 k ((ts.map teD)) x6 x7)) (fF 0 n) []
  (eH ws st sp ls c a3 k ([]) x6 x7) ⟨[],rfl,x6,x7,rfl⟩
  λp d q O JX hz=>by
   obtain⟨ts,JA,x6,x7,e⟩:=hz;have hd:d∈fF 0 n:=by
    rw[List.nil_append]at JX;rw[<-JX];simp
   have hp:p.length<4:=by
    have:=congrArg List.length JX;rw[List.nil_append,aL]at this;simp at this;lia
   obtain⟨i,hi,rfl⟩:=bY hd;subst e;have e0:(0:Int)+(i:Int)=i:=by lia
   rw[e0];have h0:=aS c (43+3*k+(i:Int));generalize Vr:dZ c (43+3*k+(i:Int))=mx at h0;obtain⟨l,el⟩:=iM (ws:=ls) (i:=1+mx / 5%5) (by lia) (by lia);obtain⟨w,ew⟩:=iM (ws:=ws) (i:=mx / 5%6) (by lia) (by lia);have hm:=bt c (43+3*k+(i:Int)) (by lia) (by lia);rw[Vr]at hm;have Oa:ixO (U (br ws st sp)) (U (.int 0))=U (.lst (ws.map .str)):=rfl;have ap:∀(t:Te)(x7 x8:Z8 (D×Bool)),jv 5 (U (teD t)) (eH ws st sp ls c a3 k ((ts.map teD)) x7 x8)=U (.next (eH ws st sp ls c a3 k (((ts++[t]).map teD)) x7 x8)):=λt x7 x8=>by
    rw[iP (ds:=ts.map teD) _ (by rfl) (by rw[Z0,aak];lia)];simp
   refine⟨_,.inl ?_,ts++[if mx%5=0 then .nm w else .any l],by simp[JA],U (.int i,Y),U (.int mx,Y),rfl⟩;simp only[aac,cK,jQ,Nat.reduceAdd,Nat.reduceLT,PK,bq,bj,oW,aah,aaf,aa5 3 k (by lia),aaB,VV,hm,aat,aal,aae,Oa,abr,aap _ _ (show(0:Int)<5 by lia),aap _ _ (show(0:Int)<6 by lia),aca _ _ (show(0:Int)<5/\(5:Int)<1073741824 by lia),el,ew,abS];have t1:dO (U [.str "name",.str w])=U (teD (.nm w)):=aax _ (by simp);have t2:dO (U [.str "any",.str l])=U (teD (.any l)):=aax _ (by simp);rw[t1,t2,ap,ap];by_cases h5:mx%5=0;simp only[h5,WW,abF,Y8];simp only[h5,W_,aa1,Zj]
 rw[List.nil_append,aL]at q_;exact⟨ts,q_,y6,y7,el⟩
def Ax{ws:Z9 Str}{st sp:Int}(hw:ws.length=6){ls:Z9 Str}(hl:ls.length=6)(c:Int):∃qs:Z9 Pat,qs.length<=2/\(∀q∈qs,q.2.length<=4)/\KO [br ws st sp,.lst (ls.map .str),.int c]=U (.lst (qs.map aaa),L):=by
 have m40:=aS c 40;generalize hn:1+dZ c 40%2=n;obtain⟨d_,el,qs,q_,h4,y4,y5,y6,y7,rfl⟩:=cX (body:=λd O=>ae ((af 4) d O) uB) (λpre O=>∃qs:Z9 Pat,qs.length=pre.length/\(∀q∈qs,q.2.length<=4)/\∃x4 x5 x6 x7,
   O=(eG ws st sp ls c (U (.lst (qs.map aaa),L)) x4 x5 x6 x7)) (fF 0 n.toNat) []
  (eG ws st sp ls c (U (.lst [],L)) M M M M) ⟨[],rfl,by simp,M,M,M,M,rfl⟩
  λp d q O JX hz=>by
   obtain⟨qs,JA,h4,x4,x5,x6,x7,e⟩:=hz;have hd:d∈fF 0 n.toNat:=by
    rw[List.nil_append]at JX;rw[<-JX];simp
   have hp:p.length<4:=by
    have:=congrArg List.length JX;rw[List.nil_append,aL]at this;simp at this;lia
   obtain⟨i,hi,rfl⟩:=bY hd;subst e;have e0:(0:Int)+(i:Int)=i:=by lia
   rw[e0];have m1:=aS c (41+(i:Int));have m2:=aS c (50+(i:Int));have hm:=bt c (41+(i:Int)) (by lia) (by lia);have MA:=bt c (50+(i:Int)) (by lia) (by lia);generalize hj:1+dZ c (41+(i:Int))%3=j;obtain⟨w,ew⟩:=iM (ws:=ws) (i:=dZ c (50+(i:Int))%4) (by lia) (by lia);obtain⟨ts,htl,z6,z7,et⟩:=yY (st:=st) (sp:=sp) hw hl c i (by lia) (by lia) j.toNat (by lia) (U (.lst (qs.map aaa),L)) x6 x7;have Oa:ixO (U (br ws st sp)) (U (.int 0))=U (.lst (ws.map .str)):=rfl;refine⟨_,.inl ?_,qs++[(w,ts)],by simp[JA],λq hq=>?_,U (.int i,Y),U (.lst (ts.map teD),Y),z6,z7,rfl⟩;rw[aac _ _ _ (by simp)];simp only[bq,bj,PK,uB];rw[aas _ (by simp),aaA _ _ _ (by simp)];simp only[aae,bq,bj,aah,aaf,aaB,VV,PK,hm,aat,aap _ _ (show(0:Int)<3 by lia),hj];rw[eB j (by lia),PK,et];simp only[aae,aa6,aa7,yP,aah,aaf,Oa,aaB,VV,PK,MA,aat,aap _ _ (show(0:Int)<4 by lia),abr,ew,abd];rw[aax _ (by simp),iP (ds:=qs.map aaa) _ (by rfl) (by rw[Z0,aak];lia)];simp[aaa];rcases Zr.mp hq with h|h;exact h4 q h;rw[Zv.mp h];simp only;lia
 rw[List.nil_append,aL]at q_;refine⟨qs,by lia,h4,?_⟩;rw[au (f:=KO) (d:=(eG ws st sp ls c M M M M M)) rfl rfl rfl];simp only[E1];rw[aas _ (by simp),aaA _ _ _ (by simp)];simp only[aae,bq,bj,aah,aaf,VV,PK,bt c 40 (by lia) (by lia),aat,aap _ _ (show(0:Int)<2 by lia),aaB,hn];rw[eB n (by lia),PK,el];simp only[aae,aba,abb,abg,aa4]
def fJ{q:Type}(f:q->D)(xs:Z9 q)(k:Nat):nA (xs.map f) M (U (k:Int))=(xs.take k).map f:=by
 unfold nA;rw[HT.abP,HT.abC,List.drop_zero,Nat.sub_zero,<-List.map_take,Z0];congr 1;by_cases h:xs.length<=k;rw[Nat.min_eq_right h,YN h,YN (ZU _)];rw[Wv (by lia)]
def iJ(h:∀d∈ds,okD n d=L):okD (n+1) (.lst ds)=L:=by simp only[okD];exact ZX.mpr h
def EW(n:Nat)(ss:Z9 Str):okD (n+1) (.lst (ss.map D.str))=L:=iJ λd hd=>by obtain⟨s,_,rfl⟩:=ZV.mp hd;cases n<;>rfl
def Ck(t:Te)(n:Nat):okD (n+1) (teD t)=L:=by cases t<;>simp[teD,okD]
def zL(n:Nat)(ps:Z9 Pat):okD (n+4) (.lst (ps.map aaa))=L:=iJ λd hd=>by
 obtain⟨p,_,rfl⟩:=ZV.mp hd;simp only[aaa,okD,jR,List.all_nil,Yd,XX];exact ZX.mpr λx hx=>by obtain⟨t,_,rfl⟩:=ZV.mp hx;exact Ck t n
def vZ(n:Nat)(rs:Z9 Row):okD (n+4) (.lst (rs.map WC))=L:=iJ λd hd=>by obtain⟨r,_,rfl⟩:=ZV.mp hd;exact gM r n
def HZ(fs:Z9 (Z9 Ce)):okD 16 (.lst (fs.map cD))=L:=iJ λd hd=>by obtain⟨c,_,rfl⟩:=ZV.mp hd;exact F0 c
def Eg(h:okD 16 d=L):eqO (U d) (U d)=U L:=by rw[pG _ _ (by unfold ok2;rw[h];rfl)];simp
def lW(h:okD 16 d=L):neO (U d) (U d)=U Y:=by rw[C4 _ _ (by unfold ok2;rw[h];rfl)];simp
theorem sO:∀(ps:Z9 (D×D))(ks vs:Z9 D),(ks++ps.map (·.1)).Nodup->iW ks vs ps=(ks++ps.map (·.1),vs++ps.map (·.2))
 |[],ks,vs,_=>by simp[iW]
 |p::ps,ks,vs,h=>by
  have hn:p.1∉ks:=λz=>by
   rw[Z1,X1]at h;exact h.2.2 p.1 z p.1 (by simp) rfl
  have h':(ks++[p.1]++ps.map (·.1)).Nodup:=by simpa using h
  unfold iW jM xN;rw[ZJ hn,ZJ hn,sO ps _ _ h'];simp
theorem lK{O:Type}{kf vf:O->D}(hk:∀q,(aW 8 (kf q)&&l8 (kf q))=L):∀qs:Z9 O,eZ (qs.map λq=>.tup [kf q,vf q])=U (qs.map λq=>(kf q,vf q))
 |[]=>rfl
 |q::qs=>by
  rw[Z1];unfold eZ rE;rw[lK hk qs];simp only[hk q,Y8];rfl
def oJ{O:Type}{kf vf:O->D}(qs:Z9 O)(hk:∀q,(aW 8 (kf q)&&l8 (kf q))=L)(nd:(qs.map kf).Nodup)(hl:qs.length<1000):iy (U (.lst (qs.map λq=>.tup [kf q,vf q])))=U (.dD (qs.map kf) (qs.map vf)):=by
 unfold iy;simp only[lK hk];rw[ZO (by rw[Z0,aak];lia),sO _ [] [] (by simpa[Function.comp_def]using nd)];simp[Function.comp_def]
theorem je{O:Type}{kf vf:O->D}(k:D):∀qs:Z9 O,cj k (qs.map kf) (qs.map vf)=(qs.find? λq=>decide (kf q=k)).map vf
 |[]=>rfl
 |q::qs=>by
  rw[Z1,Z1,List.find?_cons];unfold cj;by_cases h:kf q=k;rw[ZO h,Zu h];rfl;rw[ZJ h,ZD h];exact je k qs
def Bf{O:Type}{kf vf:O->D}(qs:Z9 O){k:D}(hk:(aW 8 k&&l8 k)=L):ce (U (.dD (qs.map kf) (qs.map vf))) (U k) (U k)=U (((qs.find? λq=>decide (kf q=k)).map vf).getD k):=by
 unfold ce bP;simp only[hk,Y8];rw[je]
def j8(h:∀x∈xs,ce (U (.dD ks vs)) (U x) (U x)=U (g x))(hl:xs.length<=1000):LA [.tup [t,.tup xs],.dD ks vs]=U (.tup [t,.tup (xs.map g)],Y):=by
 rw[au (f:=LA) (d:=[U (.tup [t,.tup xs],Y),U (.dD ks vs,Y),M]) rfl rfl rfl];have e0:ixO (U (.tup [t,.tup xs])) (U (.int 0))=U t:=by simp[at0]
 have e1:ixO (U (.tup [t,.tup xs])) (U (.int 1))=U (.tup xs):=by simp[at1]
 simp only[E8,aah,aaf,e0,e1,abY,PK];have em:ax Y [Y,L,Y] [U (.tup [t,.tup xs],Y),U (.dD ks vs,Y),M]=[M,U (.dD ks vs,Y),M]:=rfl;have ec:bE (aC (af 2) (λq=>U L) sn [M,U (.dD ks vs,Y),M]) (xs.map id)=U (xs.map g):=aX λx hx=>by
  unfold aC;rw[aac _ _ _ (by simp)];simp only[PK,bq,bj,aah,aaf,sn,id,h x hx]
 rw[List.map_id]at ec;rw[aI (by rw[aak];lia),em,ec,aaj];simp only[abd,VV];rw[aax _ (by simp)];rfl
def CV(t:Te):(aW 8 (teD t)&&l8 (teD t))=L:=by cases t<;>rfl
theorem nV{φ:Fit}{l:Str}:∀{us:Z9 Str},l∈us->((us.zip (us.map φ)).find? λq=>decide (teD (.any q.1)=teD (.any l)))=U (l,φ l)
 |u::us,h=>by
  rw[Z1,List.zip_cons_cons,List.find?_cons];by_cases e:u=l;subst e;rw[Zu rfl];rw[ZD λz=>e (by have:=jF z;cases this;rfl)];rcases ZZ.mp h with z|z;exact absurd z.symm e;exact nV z
def xW{us:Z9 Str}{φ:Fit}{t:Te}(h:∀l,t=.any l->l∈us):ce (U (.dD ((us.zip (us.map φ)).map λq=>teD (.any q.1)) ((us.zip (us.map φ)).map λq=>ceD q.2))) (U (teD t)) (U (teD t))=U (ceD (ev φ t)):=by
 rw[Bf (kf:=λq:Str×Ce=>teD (.any q.1)) (vf:=λq=>ceD q.2) _ (CV t)];cases t with
 |any l=>rw[nV (h l rfl)];rfl
 |nm w=>
  rw[W5.mpr λq _=>by
   have:¬teD (.any q.1)=teD (.nm w):=λz=>by cases jF z
   simpa using this]
  rfl
def kL{us:Z9 Str}(nd:us.Nodup)(hu:us.length<=100)(φ:Fit){ps:Z9 Pat}(JA:ps.length<=4)(h4:∀p∈ps,p.2.length<=4)(hl:∀l∈cM ps,l∈us):
  IS [.lst (ps.map aaa),fL us (us.map φ)]=U (.lst (ps.map λp=>WC (p.1,p.2.map (ev φ))),L):=by
 have ef:fL us (us.map φ)=.lst ((us.zip (us.map φ)).map iE):=rfl;have hz:(us.zip (us.map φ)).length<=100:=by rw[List.length_zip];lia
 rw[au (f:=IS) (d:=[U (.lst (ps.map aaa),Y),U (fL us (us.map φ),Y),M,M,M,M]) rfl rfl rfl];rw[ef];simp only[EY,aah,aaf,aai,PK];have em:∀a b c d e f:Z8 (D×Bool),ax Y [Y,Y,Y,Y,Y,Y] [a,b,c,d,e,f]=[M,M,M,M,M,M]:=λ_ _ _ _ _ _=>rfl;rw[aI (by rw[Z0,aak];lia),em,aX (f:=iE) (h:=λq=>.tup [teD (.any q.1),ceD q.2]) λq _=>by
  unfold aC;simp only[iE,aaP,aay,aaE,aac,ZC,cK,jQ,PK,bq,bj,Nat.reduceAdd,Nat.reduceLT,xR,aah,aaf,VV];rw[aax _ (by simp)];simp only[VV];rw[aax _ (by simp)];rfl]
 have O8:((us.zip (us.map φ)).map λq=>teD (.any q.1)).Nodup:=by
  have e:((us.zip (us.map φ)).map λq=>teD (.any q.1))=us.map λl=>teD (.any l):=by
   rw[lY,Yi];rfl
  rw[e];exact WQ _ (λa b IP z=>IP (by have:=jF z;cases this;rfl)) nd
 rw[aaj,oJ (kf:=λq:Str×Ce=>teD (.any q.1)) (vf:=λq=>ceD q.2) _ (λq=>CV _) O8 (by lia),aal _ _ _ (by simp)];simp only[aae,bq,bj,aah,aaf,aai,PK];have Q4:∀(a b d e f:Z8 (D×Bool))(x:D),ax Y [Y,Y,L,Y,Y,Y] [a,b,U (x,Y),d,e,f]=[M,M,U (x,Y),M,M,M]:=λ_ _ _ _ _ _=>rfl;rw[aI (by rw[Z0,aak];lia),Q4,aX (f:=aaa) (h:=λp=>WC (p.1,p.2.map (ev φ))) λp hp=>by
  unfold aC;rw[aac _ _ _ (by simp)];have JB:∀t∈p.2,∀l,t=.any l->l∈us:=λt ht l e=>hl l (cJ.mpr ⟨p,hp,by
   have key:∀ts:Z9 Te,Te.any l∈ts->l∈ans ts:=λts=>by
    induction ts with
    |nil=>intro h;cases h
    |cons a ts ih=>
     intro h;rcases ZZ.mp h with z|z;subst z;exact ZW ..;cases a with
     |any k=>exact Z2 _ (ih z)
     |nm w=>exact ih z
   exact key p.2 (e▸ht)⟩)
  have ex:=j8 (t:=.str p.1) (xs:=p.2.map teD) (ks:=(us.zip (us.map φ)).map λq=>teD (.any q.1)) (vs:=(us.zip (us.map φ)).map λq=>ceD q.2) (g:=λd=>(ce (U (.dD ((us.zip (us.map φ)).map λq=>teD (.any q.1)) ((us.zip (us.map φ)).map λq=>ceD q.2))) (U d) (U d)).getD .non) (λx hx=>by
   obtain⟨t,ht,rfl⟩:=ZV.mp hx;rw[xW (JB t ht)];rfl) (by rw[Z0];have:=h4 p hp;lia)
  have eg:(p.2.map teD).map (λd=>(ce (U (.dD ((us.zip (us.map φ)).map λq=>teD (.any q.1)) ((us.zip (us.map φ)).map λq=>ceD q.2))) (U d) (U d)).getD .non)=(p.2.map (ev φ)).map ceD:=by
   rw[Yi,Yi];refine YZ λt ht=>?_;show(ce _ (U (teD t)) (U (teD t))).getD .non=_;rw[xW (JB t ht)];rfl
  rw[eg]at ex;have er:aaa p=.tup [.str p.1,.tup (p.2.map teD)]:=rfl;simp only[PK,bq,bj,aah,aaf,yy,VV,er,ex,aat];rfl]
 rw[aaj];rfl
theorem yj:∀(us:Z9 Str)(c:Z9 Ce),cz (us.map D.str) (c.map ceD)=(us.zip c).map iE
 |[],c=>by cases c<;>rfl
 |u::us,[]=>rfl
 |u::us,x::c=>by rw[Z1,Z1,cz,yj us c];rfl
def Az(h:us.length<=1000)(c:Z9 Ce):qq Y L (U (.lst (us.map D.str))) (U (cD c))=U (fL us c):=by
 have e:Bz Y L (U (.lst (us.map D.str))) (U (cD c))=U ((us.zip c).map iE):=by
  show U (cz (us.map D.str) (c.map ceD))=_;rw[yj]
 unfold qq;rw[e];dsimp only;rw[ZO (by simp;lia)];rfl
def Ft(us:Z9 Str)(ss:Z9 (Z9 Ce))(n:Nat):okD (n+5) (.lst (ss.map (fL us)))=L:=iJ λd hd=>by obtain⟨c,_,rfl⟩:=ZV.mp hd;exact Ez us c n
structure Fs (P:Fit->Prop)(us:List Str)(ss:List (List Ce)):Prop where
 nd:ss.Nodup
 mem:∀x,x∈ss↔∃φ:Fit,x=us.map φ/\P φ
def Fs.len(F:Fs P us ss):∀c∈ss,c.length=us.length:=λc hc=>by
 obtain⟨φ,rfl,_⟩:=(F.mem c).mp hc;simp
def FE(h:n<=25)(hk:k<=2):n ^ k<=625:=ZH (Wg h k) (ZH (Wl (by decide) hk) (by decide))
def w8(r:Row):aW 8 (WC r)=L:=by
 simp only[WC,aW,jR,List.all_nil,Yd,XX,List.all_map,ZX];intro c _;cases c<;>simp[ceD,aW]
open L2.G (b0 scD aM cP bb) in
def gC{rs:Z9 Row}(h:rs.length<64):∃fs:Z9 Row,(∀r,r∈fs↔r∈rs)/\fs.length<=rs.length/\JQ [.lst (rs.map WC)]=U (.lst (fs.map WC),L):=by
 have hu:=cP (rs.map WC);rw[Z0]at hu;obtain⟨fs,Q5,S7⟩:=vJ (F:=WC) (l:=b7 (b0 (rs.map WC))) (P:=λ_=>True) λx hx=>by
  obtain⟨r,hr,e⟩:=ZV.mp ((aM _ _).mp ((aA _).mem_iff.mp hx));exact⟨r,trivial,e.symm⟩
 have hl:=(aA (b0 (rs.map WC))).length_eq;rw[Q5,Z0]at hl;refine⟨fs,λr=>?_,by lia,?_⟩;have q:WC r∈fs.map WC↔WC r∈rs.map WC:=by rw[<-Q5,(aA _).mem_iff,aM]
 constructor;intro hr;obtain⟨s,hs,e⟩:=ZV.mp (q.mp (XU hr));rw[<-jE e];exact hs;intro hr;obtain⟨s,hs,e⟩:=ZV.mp (q.mpr (XU hr));rw[<-jE e];exact hs;rw[au (f:=JQ) (d:=[U (.lst (rs.map WC),Y)]) rfl rfl rfl];simp only[EM,aaf];have es:aaD .ts Y (U (.lst (rs.map WC)))=U (.lst (fs.map WC)):=by
  unfold aaD;dsimp only;rw[ZO,Q5];have hH:(rs.map WC).all (aW 8)=L:=ZX.mpr λx hx=>by obtain⟨r,_,rfl⟩:=ZV.mp hx;exact w8 r
  have hS:((rs.map WC).all λd=>scD d==Y)=L:=ZX.mpr λx hx=>by obtain⟨r,_,rfl⟩:=ZV.mp hx;rfl
  rw[nF,sd,hH,hS,Zu (by lia)];rfl
 rw[es];rfl
def fx{rs:Z9 Row}(E_:rs.length<=25){ps:Z9 Pat}(JA:ps.length<=2)(h4:∀p∈ps,p.2.length<=4){kn:Z9 Str}{fd:Z9 (Z9 Ce)}(N3:kn.length<=16)(k1:kn.Nodup)(k2:fd.Nodup)(k3:∀x∈fd,x.length=kn.length)(k4:∀l∈kn,l∈cM ps)(hf:fd.length<=625):
  ∃ss,Fs (λφ=>kn.map φ∈fd/\∀p∈ps,gU rs φ p) (uL ps) ss/\ss.length<=400000/\Kf [.lst (rs.map WC),.lst (ps.map aaa),.lst (kn.map D.str),.lst (fd.map cD)]=U (.lst (ss.map (fL (uL ps))),L):=by
 have hu:(uL ps).length<=16:=ZH (dX ps) (ZH (aO h4) (by lia));obtain⟨fs,n1,m1,ej,hl⟩:=ly (rs:=rs) (by lia) (by lia) h4 N3 k1 k2 k3 k4 (by lia) (λk hk=>by
  have:k<=1:=by lia
  have h10:rs.length ^ k<=25:=ZH (Wg E_ k) (ZH (Wl (by decide) this) (by decide));exact ZH (Nat.mul_le_mul hf h10) (by decide)) (wanted:=uL ps) (by lia) λl hl=>(dE ps l).mp hl
 obtain⟨gs,pg,eg⟩:=bR (aA (fs.map cD));have hg:∀c∈gs,c.length=(uL ps).length:=λc hc=>by
  obtain⟨φ,rfl,_⟩:=(m1 c).mp (pg.mem_iff.mp hc);simp
 rw[eg]at ej;have IM:fs.length<=400000:=ZH hl (ZH (Nat.mul_le_mul hf (FE E_ JA)) (by decide));refine⟨gs,⟨pg.nodup_iff.mpr n1,λx=>by rw[pg.mem_iff];exact m1 x⟩,by rw[pg.length_eq];exact IM,?_⟩;rw[au (f:=Kf) (d:=[U (.lst (rs.map WC),Y),U (.lst (ps.map aaa),Y),U (.lst (kn.map D.str),Y),U (.lst (fd.map cD),Y),M,M]) rfl rfl rfl];have el:p_ [.lst (ps.map aaa)]=U (.lst ((uL ps).map D.str),L):=aF (by lia) h4;simp only[Ex,aah,aaf,VV,PK,el,aao];rw[aal _ _ _ (by simp)];simp only[aae,bq,bj,aah,aaf,VV,PK,ej,aao,aai];rw[aI (by rw[Z0,aak,pg.length_eq];lia),aX (f:=cD) (h:=fL (uL ps)) λc hc=>by
  unfold aC;have em:ax Y [Y,Y,Y,Y,L,Y] [U (.lst (rs.map WC),Y),U (.lst (ps.map aaa),Y),U (.lst (kn.map D.str),Y),U (.lst (fd.map cD),Y),U (.lst ((uL ps).map D.str),Y),M]=[M,M,M,M,U (.lst ((uL ps).map D.str),Y),M]:=rfl;rw[em,aac _ _ _ (by simp)];simp only[PK,bq,bj,aah,aaf,xJ,Az (show(uL ps).length<=1000 by lia)]]
 rw[aaj];rfl
def im{rs:Z9 Row}(E_:rs.length<=25){ps:Z9 Pat}(JA:ps.length<=2)(h4:∀p∈ps,p.2.length<=4){wanted:Z9 Str}(hw:wanted.length<=100)(Qt:∀l∈wanted,l∈cM ps):∃gs:Z9 (Z9 Ce),gs.Nodup/\(∀x,x∈gs↔∃φ:Fit,x=wanted.map φ/\∀p∈ps,gU rs φ p)/\KY [.lst (rs.map WC),.lst (ps.map aaa),.lst (wanted.map D.str)]=U (.lst (gs.map cD),L)/\gs.length<=625:=by
 obtain⟨fs,n1,m1,ej,hl⟩:=ly (rs:=rs) (by lia) (ps:=ps) (by lia) h4 (kn:=[]) (fd:=[[]]) (by simp) Yt (by simp) (by simp) (by simp) (by simp) (λk hk=>by
  have:k<=1:=by lia
  simp only[cK,jQ,Yj,Nat.one_mul];exact ZH (Wg E_ k) (ZH (Wl (by decide) this) (by decide))) hw Qt
 obtain⟨gs,pg,eg⟩:=bR (aA (fs.map cD));have mg:∀x,x∈gs↔∃φ:Fit,x=wanted.map φ/\∀p∈ps,gU rs φ p:=λx=>by rw[pg.mem_iff,m1];simp
 have ng:=pg.nodup_iff.mpr n1;refine⟨gs,ng,mg,?_,?_⟩;rw[au (f:=KY) (d:=[U (.lst (rs.map WC),Y),U (.lst (ps.map aaa),Y),U (.lst (wanted.map D.str),Y)]) rfl rfl rfl];simp only[EA,aah,aaf];rw[aas [] (by simp),aax [] (by simp)];simp only[VV];rw[aas _ (by simp)];have ec:cD []=.tup []:=rfl;simp only[Z1,YT,ec]at ej;simp only[VV,PK,ej,aao,abg,aa4,eg];rw[pg.length_eq];exact ZH hl (by simpa using FE E_ JA)
abbrev bd(ps qs:Z9 Pat):D:=.tup [.str "must",.lst (ps.map aaa),.lst (qs.map aaa)]
def ms:¬(Str.ofString "must")=(Str.ofString "same"):=by decide +kernel
section
variable(ps qs:Z9 Pat)
theorem m0:ixO (U (bd ps qs)) (U (.int 0))=U (.str "must"):=rfl
theorem m1:ixO (U (bd ps qs)) (U (.int 1))=U (.lst (ps.map aaa)):=rfl
def m2:ixO (U (bd ps qs)) (U (.int 2))=U (.lst (qs.map aaa)):=rfl
end
def dlM(ps qs:Z9 Pat):Z9 Str:=(uL qs).filter λl=>decide (l∈uL ps)
def pq(h1:ps.length<=2)(h2:qs.length<=2)(h4:∀p∈ps,p.2.length<=4)(h5:∀p∈qs,p.2.length<=4):Ka [bd ps qs]=U (.lst ((dlM ps qs).map D.str),L):=by
 rw[au (f:=Ka) (d:=[U (bd ps qs,Y),M,M]) rfl rfl rfl];have e1:p_ [.lst (ps.map aaa)]=U (.lst ((uL ps).map D.str),L):=aF (by lia) h4;have e2:p_ [.lst (qs.map aaa)]=U (.lst ((uL qs).map D.str),L):=aF (by lia) h5;have hu:(uL qs).length<=16:=ZH (dX qs) (ZH (aO h5) (by lia));simp only[Es,aaf,m0,m1,m2,b8,ms,W_,aa1,aaF,aae,VV,PK,e1,aao];rw[aal _ _ _ (by simp)];simp only[aae,bq,bj,aah,aaf,m2,VV,PK,e2,aao,aai];rw[aI (by rw[Z0,aak];lia),eD (P:=λl=>decide (l∈uL ps)) λl hl=>by
  by_cases hm:l∈uL ps<;>simp[aC,ax,yi,dF,hm]]
 rfl
def Dh(c:Z9 Ce)(hs:Z9 (Z9 Ce)):Av (U (cD c)) (U (.dD (hs.map cD) (hs.map λ_=>.bl L)))=U (decide (c∈hs)):=by
 unfold Av bP;have hk:(aW 8 (cD c)&&l8 (cD c))=L:=by rw[k9,j5];rfl
 simp only[hk,Y8,je (kf:=cD) (vf:=λ_=>.bl L) (cD c) hs,WV,ZE];rw[YL,List.find?_isSome,Y_];constructor
 rintro⟨x,hx,e⟩;rw[<-iA (Zo e)];exact hx
 exact λh=>⟨c,h,Zu rfl⟩
def AU(E_:rs.length<=25)(h1:ps.length<=2)(h2:qs.length<=2)(h4:∀p∈ps,p.2.length<=4)(h5:∀p∈qs,p.2.length<=4):
  ∃fd:Z9 (Z9 Ce),fd.Nodup/\fd.length<=625/\(∀x,x∈fd↔(∃φ:Fit,x=(dlM ps qs).map φ/\∀p∈ps,gU rs φ p)/\¬∃φ:Fit,x=(dlM ps qs).map φ/\∀p∈qs,gU rs φ p)/\J_ [.lst (rs.map WC),bd ps qs]=U (.lst (fd.map cD),L):=by
 have hu:(uL qs).length<=16:=ZH (dX qs) (ZH (aO h5) (by lia));have hd:(dlM ps qs).length<=16:=ZH (X6 ..) hu;obtain⟨gs,n1,g1,e1,l1⟩:=im E_ h1 h4 (wanted:=dlM ps qs) (by lia) λl hl=>(dE ps l).mp (Zo (Y6.mp hl).2);obtain⟨hs,n2,g2,e2,l2⟩:=im E_ h2 h5 (wanted:=dlM ps qs) (by lia) λl hl=>(dE qs l).mp (Y6.mp hl).1;refine⟨gs.filter λc=>!decide (c∈hs),n1.filter _,ZH (X6 ..) l1,λx=>?_,?_⟩;rw[Y6,g1,<-g2];simp;rw[au (f:=J_) (d:=[U (.lst (rs.map WC),Y),U (bd ps qs,Y),M,M,M,M]) rfl rfl rfl];simp only[ER,aah,aaf,VV,PK,pq h1 h2 h4 h5,aao];rw[aal _ _ _ (by simp)];simp only[aae,bq,bj,aah,aaf,m1,VV,PK,e1,aao];rw[aal _ _ _ (by simp)];simp only[aae,bq,bj,aah,aaf,m0,b8,ms,W_,aa1,aaF,m2,VV,PK,e2,aao,aai];have em:∀a b c d e f:Z8 (D×Bool),ax Y [Y,Y,Y,Y,Y,Y] [a,b,c,d,e,f]=[M,M,M,M,M,M]:=λ_ _ _ _ _ _=>rfl;rw[aI (by rw[Z0,aak];lia),em,aX (f:=cD) (h:=λc=>.tup [cD c,.bl L]) λc _=>by
  unfold aC;rw[aac _ _ _ (by simp)];simp only[PK,bq,bj,aah,aaf,yE,VV];rw[aax _ (by simp)]]
 rw[aaj,oJ (kf:=cD) (vf:=λ_=>.bl L) hs (λc=>by rw[k9,j5];rfl) (WQ _ (λa b IP z=>IP (iA z)) n2) (by lia),aal _ _ _ (by simp)];simp only[aae,bq,bj,aah,aaf,aai,PK];have Q4:∀(a b c d f:Z8 (D×Bool))(x:D),ax Y [Y,Y,Y,Y,L,Y] [a,b,c,d,U (x,Y),f]=[M,M,M,M,U (x,Y),M]:=λ_ _ _ _ _ _=>rfl;rw[aI (by rw[Z0,aak];lia),Q4,cy (f:=cD) (h:=cD) (p:=λc=>!decide (c∈hs)) λc _=>by
  unfold aC;rw[aac _ _ _ (by simp)];simp only[PK,bq,bj,aah,aaf,Dh,abu,yc];cases decide (c∈hs)<;>rfl]
 rfl
def PM(rs:Z9 Row)(ps qs:Z9 Pat)(φ:Fit):Prop:=(∀p∈ps,gU rs φ p)/\¬∃O:Fit,(∀l∈cM ps,O l=φ l)/\∀q∈qs,gU rs O q
def dH{rs:Z9 Row}(E_:rs.length<=25){ps qs:Z9 Pat}(h1:ps.length<=2)(h2:qs.length<=2)(h4:∀p∈ps,p.2.length<=4)(h5:∀p∈qs,p.2.length<=4):∃ss,Fs (PM rs ps qs) (uL ps) ss/\ss.length<=400000/\Ju [.lst (rs.map WC),bd ps qs]=U (.lst (ss.map (fL (uL ps))),L)/\Kb [.lst (rs.map WC),.lst [bd ps qs]]=U (.bl (decide (ss=[])),Y):=by
 have hu:(uL qs).length<=16:=ZH (dX qs) (ZH (aO h5) (by lia));have md:∀l,l∈dlM ps qs↔l∈cM qs/\l∈cM ps:=λl=>by
  unfold dlM;rw[Y6,dE,Y_,dE]
 obtain⟨fd,f1,f2,f3,f4⟩:=AU E_ h1 h2 h4 h5;obtain⟨ss,F,l,e⟩:=fx E_ h1 h4 (kn:=dlM ps qs) (fd:=fd) (ZH (X6 ..) hu) ((wL qs).filter _) f1 (λx hx=>by obtain⟨⟨φ,rfl,_⟩,_⟩:=(f3 x).mp hx;simp) (λl hl=>((md l).mp hl).2) f2;have hP:∀φ:Fit,((dlM ps qs).map φ∈fd/\∀p∈ps,gU rs φ p)↔PM rs ps qs φ:=λφ=>by
  rw[f3];constructor
  rintro⟨⟨_,hn⟩,hp⟩
  refine⟨hp,λ⟨O,a1,a2⟩=>hn ⟨O,YZ λl hl=>(a1 l ((md l).mp hl).2).symm,a2⟩⟩
  rintro⟨hp,hn⟩
  refine⟨⟨⟨φ,rfl,hp⟩,λ⟨O,a1,a2⟩=>hn ⟨λl=>if l∈cM ps then φ l else O l,λl hl=>ZO hl,λq hq=>dl (λl hl=>?_) (a2 q hq)⟩⟩,hp⟩;split;rename_i Vu;exact(XF.mp a1 l ((md l).mpr ⟨cJ.mpr ⟨q,hq,hl⟩,Vu⟩)).symm;rfl
 refine⟨ss,⟨F.nd,λx=>(F.mem x).trans ⟨λ⟨φ,e,q⟩=>⟨φ,e,(hP φ).mp q⟩,λ⟨φ,e,q⟩=>⟨φ,e,(hP φ).mpr q⟩⟩⟩,l,?_,?_⟩;rw[au (f:=Ju) (d:=[U (.lst (rs.map WC),Y),U (bd ps qs,Y)]) rfl rfl rfl];simp only[E9,aah,aaf,m1,VV,PK,pq h1 h2 h4 h5,f4,aao,e,abg,aa4];have OC:fd=[]↔ss=[]:=by
  constructor;intro z;refine Xg.mpr λx hx=>?_;obtain⟨φ,_,h,_⟩:=(F.mem x).mp hx;rw[z]at h;cases h;intro z;refine Xg.mpr λx hx=>?_;obtain⟨⟨φ,rfl,hp⟩,_⟩:=(f3 x).mp hx;have:=(F.mem _).mpr ⟨φ,rfl,hx,hp⟩;rw[z]at this;cases this
 rw[au (f:=Kb) (d:=[U (.lst (rs.map WC),Y),U (.lst [bd ps qs],Y),M]) rfl rfl rfl];simp only[EF,aah,aaf,aai,PK];unfold aw;rw[aac _ _ _ (by simp)];simp only[PK,bq,bj,yG,aah,aaf,VV,f4,aao];by_cases z:ss=[];rw[OC.mpr z,z];rfl;have z':fd≠[]:=λh=>z (OC.mp h);obtain⟨x,r,rfl⟩:=List.exists_cons_of_ne_nil z';rw[ZD z];rfl
def Bg(E_:rs.length<=25)(h1:ps.length<=2)(h4:∀p∈ps,p.2.length<=4):∃ss,Fs (λφ=>∀p∈ps,gU rs φ p) (uL ps) ss/\ss.length<=400000/\KZ [.lst (rs.map WC),.lst (ps.map aaa)]=U (.lst (ss.map (fL (uL ps))),L):=by
 obtain⟨ss,F,l,e⟩:=fx E_ h1 h4 (kn:=[]) (fd:=[[]]) (by simp) Yt (by simp) (by simp) (by simp) (by simp);refine⟨ss,⟨F.nd,λx=>by rw[F.mem];simp⟩,l,?_⟩;rw[au (f:=KZ) (d:=[U (.lst (rs.map WC),Y),U (.lst (ps.map aaa),Y)]) rfl rfl rfl];simp only[Ey,aah,aaf];rw[aas [] (by simp),aax [] (by simp)];simp only[VV];rw[aas _ (by simp)];have ec:cD []=.tup []:=rfl;simp only[Z1,YT,ec]at e;simp only[VV,PK,e,aao,abg,aa4]
def frL(ps qs:Z9 Pat):Z9 Str:=(uL qs).filter λl=>!decide (l∈uL ps)
def wA(h1:ps.length<=2)(h2:qs.length<=2)(h4:∀p∈ps,p.2.length<=4)(h5:∀p∈qs,p.2.length<=4):Lv [bd ps qs]=U (.lst ((frL ps qs).map D.str),L):=by
 rw[au (f:=Lv) (d:=[U (bd ps qs,Y),M,M]) rfl rfl rfl];have e1:p_ [.lst (ps.map aaa)]=U (.lst ((uL ps).map D.str),L):=aF (by lia) h4;have e2:p_ [.lst (qs.map aaa)]=U (.lst ((uL qs).map D.str),L):=aF (by lia) h5;have hu:(uL qs).length<=16:=ZH (dX qs) (ZH (aO h5) (by lia));simp only[EZ,aaf,m1,VV,PK,e1,aao];rw[aal _ _ _ (by simp)];simp only[aae,bq,bj,aah,aaf,m2,VV,PK,e2,aao,aai];rw[aI (by rw[Z0,aak];lia),eD (P:=λl=>!decide (l∈uL ps)) λl hl=>by
  by_cases hm:l∈uL ps<;>simp[aC,ax,yo,BH,hm]]
 rfl
def Cb(h1:ps.length<=2)(h2:qs.length<=2)(h4:∀p∈ps,p.2.length<=4)(h5:∀p∈qs,p.2.length<=4)(st:Int):∃b:Bi,b.map (·.1)=frL ps qs/\JN [bd ps qs,.int st]=U (.lst (b.map iE),L):=by
 have hu:(uL qs).length<=16:=ZH (dX qs) (ZH (aO h5) (by lia));have hf:(frL ps qs).length<=16:=ZH (X6 ..) hu;refine⟨(List.range (frL ps qs).length).map λi=>((frL ps qs).getD i default,.bk (st+(0+(i:Int)))),?_,?_⟩;rw[Yi];refine List.ext_getElem (by simp) λi a b=>?_;simp at a;simp[a];rw[au (f:=JN) (d:=[U (bd ps qs,Y),U (.int st,Y),M,M]) rfl rfl rfl];simp only[EE,aaf,VV,PK,wA h1 h2 h4 h5,aao];rw[aal _ _ _ (by simp)];simp only[aae,bq,bj,aah,aaf,abL,Z0];rw[eB _ (by lia),PK,Int.toNat_natCast,aI (by rw[aL,aak];lia)];unfold fF;have em:∀(a d:Z8 (D×Bool))(x y:D),ax Y [Y,L,L,Y] [a,U (x,Y),U (y,Y),d]=[M,U (x,Y),U (y,Y),M]:=λ_ _ _ _=>rfl;rw[em,aX (h:=λi=>iE ((frL ps qs).getD i default,.bk (st+(0+(i:Int))))) λi hi=>by
  have hi:=Y5.mp hi;have ea:atI ((frL ps qs).map D.str) (0+(i:Int))=U (.str ((frL ps qs).getD i default)):=t6 (by lia) (by simp[hi]);unfold aC;rw[aac _ _ _ (by simp)];simp only[PK,bq,bj,aah,aaf,abr,ea,aaB,xT,VV];rw[aax _ (by simp)];simp only[VV];rw[aax _ (by simp)];rfl]
 rw[aaj,Yi];rfl
abbrev rwF(O:Fit)(qs:Z9 Pat):Z9 Row:=qs.map λq=>(q.1,q.2.map (ev O))
def u9(h1:ps.length<=2)(h2:qs.length<=2)(h4:∀p∈ps,p.2.length<=4)(h5:∀p∈qs,p.2.length<=4)(φ:Fit)(st:Int):∃(O:Fit)(b:Bi)(f:D),(∀l∈cM ps,O l=φ l)/\JN [bd ps qs,.int st]=U (.lst (b.map iE),L)/\
  gT .ts (lO (U (fL (uL ps) ((uL ps).map φ))) (U (.lst (b.map iE))))=U f/\IS [.lst (qs.map aaa),f]=U (.lst ((rwF O qs).map WC),L):=by
 obtain⟨b,hb,eb⟩:=Cb h1 h2 h4 h5 st;have hu:(uL ps).length<=16:=ZH (dX ps) (ZH (aO h4) (by lia));have hq:(uL qs).length<=16:=ZH (dX qs) (ZH (aO h5) (by lia));have NH:b.length<=16:=by
  have:b.length=(frL ps qs).length:=by rw[<-hb,Z0]
  rw[this];exact ZH (X6 ..) hq
 have ez:(uL ps).zip ((uL ps).map φ)=(uL ps).map λl=>(l,φ l):=lY _;have ek:(((uL ps).map λl=>(l,φ l))++b).map (·.1)=uL ps++frL ps qs:=by
  rw[Y2,hb,Yi];congr 1;exact List.map_id _
 have O8:(uL ps++frL ps qs).Nodup:=by
  rw[X1];refine⟨wL ps,(wL qs).filter _,λx hx y hy e=>?_⟩;subst e;have:=(Y6.mp hy).2;simp[hx]at this
 obtain⟨gs,pg,eg⟩:=bR (f:=iE) (aA ((((uL ps).map λl=>(l,φ l))++b).map iE));obtain⟨O,LM⟩:=rG (kn:=gs.map (·.1)) (x:=gs.map (·.2)) ((pg.map (·.1)).nodup_iff.mpr (ek▸O8)) (by simp);have hp:∀q∈gs,O q.1=q.2:=λq hq=>by
  rw[Yi]at LM;exact(XF.mp LM q hq).symm
 have egs:gs=(gs.map (·.1)).zip ((gs.map (·.1)).map O):=by
  rw[<-LM];exact List.zip_of_prod rfl rfl
 have hm:∀l,l∈gs.map (·.1)↔l∈uL ps++frL ps qs:=λl=>by rw[(pg.map (·.1)).mem_iff,ek]
 refine⟨O,b,fL (gs.map (·.1)) ((gs.map (·.1)).map O),λl hl=>?_,eb,?_,?_⟩;exact hp (l,φ l) (pg.mem_iff.mpr (Y9 _ (ZV.mpr ⟨l,(dE ps l).mpr hl,rfl⟩)));have ef:fL (uL ps) ((uL ps).map φ)=.lst (((uL ps).map λl=>(l,φ l)).map iE):=by unfold fL;rw[ez]
 rw[ef,aaU _ _ (by simp only[Z0,aak];lia),<-Y2,jr (B4 _) (.inr (ZX.mpr λx hx=>by obtain⟨q,_,rfl⟩:=ZV.mp hx;rfl)),eg];unfold fL;rw[<-egs];have hlen:(gs.map (·.1)).length<=100:=by
  have:=pg.length_eq;rw[Zz,Z0]at this;rw[Z0];lia
 rw[kL (us:=gs.map (·.1)) ((pg.map (·.1)).nodup_iff.mpr (ek▸O8)) hlen O (by lia) h5 λl hl=>(hm l).mpr ?_];rw[Yi];rfl;by_cases h:l∈uL ps;exact Y9 _ h;exact ZI _ (Y6.mpr ⟨(dE qs l).mpr hl,by simp[h]⟩)
def t9(h:∀r∈rwF O qs,r∈rs):∀q∈qs,gU rs O q:=λq hq=>⟨_,h _ (ZV.mpr ⟨q,hq,rfl⟩),rfl,rfl⟩
def tx(h:∀r∈rs,r∈UA)(k:∀p∈ps,gU rs φ p)(p:PM UA ps qs φ):PM rs ps qs φ:=
 ⟨k,λ⟨O,a,b⟩=>p.2 ⟨O,a,λq hq=>by obtain⟨r,hr,z⟩:=b q hq;exact⟨r,h r hr,z⟩⟩⟩
def si(h:(uL ps).map φ=(uL ps).map O)(p:PM rs ps qs φ):PM rs ps qs O:=by
 have e:∀l∈cM ps,φ l=O l:=λl hl=>XF.mp h l ((dE ps l).mpr hl);exact⟨λq hq=>dl (λl hl=>e l (cJ.mpr ⟨q,hq,hl⟩)) (p.1 q hq),λ⟨Z,a,b⟩=>p.2 ⟨Z,λl hl=>(a l hl).trans (e l hl).symm,b⟩⟩
def Cc{us:Z9 Str}{c:Z9 Ce}{ss:Z9 (Z9 Ce)}(hc:c.length=us.length)(ha:∀x∈ss,x.length=us.length):inO (U (fL us c)) (U (.lst (ss.map (fL us))))=U (decide (c∈ss)):=by
 unfold inO;simp only[aT];rw[ZO];congr 1;refine Ym.mpr ⟨λh=>?_,λh=>XU h⟩;obtain⟨x,hx,e⟩:=ZV.mp h;rw[<-C6 (ha x hx) hc e];exact hx;rw[Ez us c 12,XX,ZX];intro x hx;obtain⟨q,_,rfl⟩:=ZV.mp hx;exact Ez us q 12
def Cn{r:Row}{rs:Z9 Row}(h:r∈rs):bu (U (WC r)) (U (.lst (rs.map WC)))=U Y:=by
 unfold bu inO;simp only[aT];rw[ZO];rw[Zu (XU h)];rfl;rw[gM r 13,XX,ZX];intro x hx;obtain⟨q,_,rfl⟩:=ZV.mp hx;exact gM q 13
def yU(h:okD 16 (.lst ds)=L):eqO (U (.lst ds)) (U (.lst []))=U (decide (ds=[])):=by
 rw[pG _ _ (by unfold ok2;rw[h];rfl)];congr 1;exact Ym.mpr (by simp)
def CO(h:gU rs φ p):(p.1,p.2.map (ev φ))∈rs:=by
 obtain⟨r,hr,h1,h2⟩:=h;rw[<-h1,<-h2];exact hr
def bw(h:j≠i):rd m i (q.set j v)=rd m i q:=by unfold rd;rw[ZL h]
def gV{i:Nat}{q:Mk}(h:i<q.length):rd Y i (q.set i (U (d,Y)))=U d:=by unfold rd;rw[ZG h];rfl
def Cq(hb:bs[i]?=U L)(h:rd Y i q=U d):rd Y i (ax Y bs q)=U d:=by
 obtain⟨o,h1,h2⟩:=sP h;have ho:o=Y:=by cases o;rfl;cases h2 rfl
 subst ho;unfold rd ax;rw[Xi,hb,h1];rfl
noncomputable abbrev eE(rs:Z9 Row)(ps qs:Z9 Pat)(tt ss:Z9 (Z9 Ce))(a b c d e f:Z8 (D×Bool)):Mk:=[U (.lst (rs.map WC),Y),U (bd ps qs,Y),U (.lst (tt.map (fL (uL ps))),Y),U (.lst (ss.map (fL (uL ps))),Y),a,b,c,d,e,f]
section
variable{rs:Z9 Row}{ps qs:Z9 Pat}(h1:ps.length<=2)(h2:qs.length<=2)(h4:∀p∈ps,p.2.length<=4)(h5:∀p∈qs,p.2.length<=4){ss tt:Z9 (Z9 Ce)}(F:Fs (PM rs ps qs) (uL ps) ss)(G:Fs (λφ=>∀p∈ps,gU rs φ p) (uL ps) tt)
include h1 h4 F G in
theorem B7(x6 x7 x8 x9:Z8 (D×Bool)):∀(cs:Z9 (Z9 Ce))(x4 x5:Z8 (D×Bool)),(∀c∈cs,c∈ss)->∃y4 y5,
  aw (λd q=>ae ((af 4) d q) sf) (cs.map (fL (uL ps))) (eE rs ps qs tt ss x4 x5 x6 x7 x8 x9)=U (.next (eE rs ps qs tt ss y4 y5 x6 x7 x8 x9))
 |[],x4,x5,_=>⟨x4,x5,by simp[aw]⟩
 |c::cs,x4,x5,h=>by
  obtain⟨φ,rfl,IE⟩:=(F.mem c).mp (h c (.head _));have hu:(uL ps).length<=16:=ZH (dX ps) (ZH (aO h4) (by lia));obtain⟨y4,y5,e⟩:=B7 x6 x7 x8 x9 cs (U (fL (uL ps) ((uL ps).map φ),Y)) (U (.lst [],Y)) λd hd=>h d (.tail _ hd);refine⟨y4,y5,?_⟩;have ef:=kL (wL ps) (by lia) φ (ps:=ps) (by lia) h4 λl hl=>(dE ps l).mpr hl;have ht:(uL ps).map φ∈tt:=(G.mem _).mpr ⟨φ,rfl,IE.1⟩;have ni:bu (U (fL (uL ps) ((uL ps).map φ))) (U (.lst (tt.map (fL (uL ps)))))=U Y:=by
   unfold bu;rw[Cc (by simp) G.len,Zu ht];rfl
  have l0:cF (U [])=U (.lst []):=aas _ (by simp);rw[Z1];unfold aw;rw[aac _ _ _ (by simp)];simp only[PK,bq,bj,sf,aah,aaf,m1,VV,ef,aao,aai];have em:∀(a b c d e f g h i:Z8 (D×Bool))(x:D),ax Y [L,Y,Y,Y,Y,Y,Y,Y,Y,Y] [U (x,Y),a,b,c,d,e,f,g,h,i]=[U (x,Y),M,M,M,M,M,M,M,M,M]:=λ_ _ _ _ _ _ _ _ _ _=>rfl;rw[aI (by rw[Z0,aak];lia),em,cy (f:=λp:Pat=>WC (p.1,p.2.map (ev φ))) (h:=λp=>WC (p.1,p.2.map (ev φ))) (p:=λ_=>Y) λp hp=>by
   unfold aC;rw[aac _ _ _ (by simp)];simp only[PK,bq,bj,aah,aaf,Cn (CO (IE.1 p hp))];rfl]
  rw[WA.mpr λ_ _=>Zl,YT,aaj,aaA _ _ _ (by simp)];simp only[aae,bq,bj,aa6,aa7,yK,aah,aaf,ni,ab4,l0,lW (show okD 16 (.lst [])=L from rfl),aa1,aaF];exact e
def EJ{Mb:Z9 (Z9 Ce)}(hc:∀c∈Mb,c.length=(uL ps).length)(F':∀c∈ss,c.length=(uL ps).length)(G':∀c∈tt,c.length=(uL ps).length)(hs:∀c∈Mb,c∈tt->c∈ss)(a0 a1 x4 x5 x6 x7 x9:Z8 (D×Bool))(x8:Z8 (D×Bool)):∃y8,
  aw (λd q=>ae ((af 8) d q) sI) (Mb.map (fL (uL ps))) [a0,a1,U (.lst (tt.map (fL (uL ps))),Y),U (.lst (ss.map (fL (uL ps))),Y),x4,x5,x6,x7,x8,x9]=U (.next [a0,a1,U (.lst (tt.map (fL (uL ps))),Y),U (.lst (ss.map (fL (uL ps))),Y),x4,x5,x6,x7,y8,x9]):=by
 induction Mb generalizing x8 with
 |nil=>exact⟨x8,by simp[aw]⟩
 |cons c cs ih=>
  obtain⟨y8,e⟩:=ih (λd hd=>hc d (.tail _ hd)) (λd hd=>hs d (.tail _ hd)) (U (fL (uL ps) c,Y));refine⟨y8,?_⟩;rw[Z1];unfold aw;rw[aac _ _ _ (by simp)];have hl:=hc c (.head _);have hx:=hs c (.head _);simp only[PK,bq,bj,sI,aah,aaf,bu,Cc hl G',Cc hl F',abu];by_cases ht:c∈tt;simp only[ht,hx ht,WW,YJ,acb,aa1,aaF];exact e;simp only[ht,W_,acv,aa1,aaF];exact e
include h1 h2 h4 h5 F G in
theorem Da(E_:rs.length<=20):∀(cs:Z9 (Z9 Ce))(x4 x5 x6 x7 x8 x9:Z8 (D×Bool)),(∀c∈cs,c∈ss)->∃y4 y6 y7 y8,
  aw (λd Z=>ae ((af 4) d Z) ur) (cs.map (fL (uL ps))) (eE rs ps qs tt ss x4 x5 x6 x7 x8 x9)=U (.next (eE rs ps qs tt ss y4 x5 y6 y7 y8 x9))
 |[],x4,x5,x6,x7,x8,x9,_=>⟨x4,x6,x7,x8,by simp[aw]⟩
 |c::cs,x4,x5,x6,x7,x8,x9,h=>by
  obtain⟨φ,rfl,IE⟩:=(F.mem c).mp (h c (.head _));obtain⟨q,b,f,LM,en,es,ef⟩:=u9 h1 h2 h4 h5 φ 970000;obtain⟨fs,f1,f2,f3⟩:=gC (rs:=rs++rwF q qs) (by simp;lia);obtain⟨Mb,F',_,eb,_⟩:=dH (rs:=fs) (by simp at f2;lia) h1 h2 h4 h5;obtain⟨y8,e8⟩:=EJ (ps:=ps) (ss:=ss) (tt:=tt) F'.len F.len G.len (λc hc ht=>by
   obtain⟨O,rfl,NW⟩:=(F'.mem c).mp hc;obtain⟨v',e,Rn⟩:=(G.mem _).mp ht;have k:∀p∈ps,gU rs O p:=λp hp=>dl (λl hl=>(XF.mp e l ((dE ps l).mpr (cJ.mpr ⟨p,hp,hl⟩))).symm) (Rn p hp);exact(F.mem _).mpr ⟨O,rfl,tx (λr hr=>(f1 r).mpr (Y9 _ hr)) k NW⟩)
   (U (.lst (rs.map WC),Y)) (U (bd ps qs,Y)) (U (fL (uL ps) ((uL ps).map φ),Y)) x5 (U (.lst ((rwF q qs).map WC),Y)) (U (.lst (Mb.map (fL (uL ps))),Y)) x9 x8
  obtain⟨y4,y6,y7,z8,e⟩:=Da E_ cs (U (fL (uL ps) ((uL ps).map φ),Y)) x5 (U (.lst ((rwF q qs).map WC),Y)) (U (.lst (Mb.map (fL (uL ps))),Y)) y8 x9 λd hd=>h d (.tail _ hd);refine⟨y4,y6,y7,z8,?_⟩;have nl:inO (U (fL (uL ps) ((uL ps).map φ))) (U (.lst (Mb.map (fL (uL ps)))))=U Y:=by
   rw[Cc (by simp) F'.len,ZD λhm=>?_];obtain⟨O,ee,NW⟩:=(F'.mem _).mp hm;exact(si ee.symm NW).2 ⟨q,LM,t9 λr hr=>(f1 r).mpr (ZI _ hr)⟩
  rw[Y2]at f3;rw[Z1];unfold aw;rw[aac _ _ _ (by simp)];simp only[PK,bq,bj,ur,aah,aaf,m2,VV,en,aao,es,ef];rw[aal _ _ _ (by simp)];simp only[aae,bq,bj,aah,aaf];rw[aaU _ _ (by simp only[Z0,aak];lia)];simp only[VV,PK,f3,aao,eb];rw[aal _ _ _ (by simp)];simp only[aae,bq,bj,aah,aaf,nl,aa1,aaF,aai,PK,e8];exact e
include h1 h2 h4 h5 F G in
def A7(E_:rs.length<=20):KN [.lst (rs.map WC),bd ps qs,.lst (tt.map (fL (uL ps))),.lst (ss.map (fL (uL ps)))]=U (.bl L,Y):=by
 obtain⟨y4,y5,e1⟩:=B7 h1 h4 F G M M M M ss M M λ_ h=>h;obtain⟨z4,y6,y7,y8,e2⟩:=Da h1 h2 h4 h5 F G E_ (ss.take 6) y4 y5 M M M M λc hc=>XC hc;rw[au (f:=KN) (d:=(eE rs ps qs tt ss M M M M M M)) rfl rfl rfl];have ec:=fJ (fL (uL ps)) ss 6;simp only[EL,aah,aaf,aai,PK,e1,aae,aa0,aa2];rw[show((6:Nat):Int)=6 from rfl]at ec;simp only[ec,aai,PK,e2,aae];rfl
include h1 h2 h4 h5 in
theorem ll:∀(cs:Z9 (Z9 Ce))(wd:Z9 Row)(n:Int)(O:Mk),(∀c∈cs,∃φ:Fit,c=(uL ps).map φ)->wd.length+2*cs.length<=1000->13<O.length->rd Y 8 O=U (bd ps qs)->rd Y 11 O=U (.lst (wd.map WC))->rd Y 12 O=U (.int n)->∃(ex:Z9 Row)(d_:Mk),ex.length<=2*cs.length/\(∀r∈ex,∃q∈qs,r.1=q.1)/\
  (∀c∈cs,∃φ Z:Fit,c=(uL ps).map φ/\(∀l∈cM ps,Z l=φ l)/\∀r∈rwF Z qs,r∈ex)/\d_.length=O.length/\(∀i,i<11->rd Y i d_=rd Y i O)/\rd Y 11 d_=U (.lst ((wd++ex).map WC))/\
  aw (λd O=>ae ((af 13) d O) jz) (cs.map (fL (uL ps))) O=U (.next d_)
 |[],wd,n,O,_,_,_,_,NT,_=>⟨[],O,by simp,by simp,by simp,rfl,λ_ _=>rfl,by simpa using NT,by simp[aw]⟩
 |c::cs,wd,n,O,hc,hl,hd,r8,NT,UG=>by
  obtain⟨φ,rfl⟩:=hc c (.head _);obtain⟨Z,b,f,LM,en,es,ef⟩:=u9 h1 h2 h4 h5 φ n;rw[cK]at hl;have Uu:rd Y 13 (O.set 13 (U (fL (uL ps) ((uL ps).map φ),Y)))=U (fL (uL ps) ((uL ps).map φ)):=gV hd;have s8:rd Y 8 (O.set 13 (U (fL (uL ps) ((uL ps).map φ),Y)))=U (bd ps qs):=(bw (by decide)).trans r8;have P2:rd Y 11 (O.set 13 (U (fL (uL ps) ((uL ps).map φ),Y)))=U (.lst (wd.map WC)):=(bw (by decide)).trans NT;have P1:rd Y 12 (O.set 13 (U (fL (uL ps) ((uL ps).map φ),Y)))=U (.int n):=(bw (by decide)).trans UG;have JE:13<(O.set 13 (U (fL (uL ps) ((uL ps).map φ),Y))).length:=by rw[ZC];exact hd
  have ek:∀i,i<11->rd Y i (O.set 13 (U (fL (uL ps) ((uL ps).map φ),Y)))=rd Y i O:=λi hi=>bw (by lia);have el:(O.set 13 (U (fL (uL ps) ((uL ps).map φ),Y))).length=O.length:=ZC;have et:af 13 (fL (uL ps) ((uL ps).map φ)) O=U (O.set 13 (U (fL (uL ps) ((uL ps).map φ),Y))):=aac _ _ _ hd;generalize O.set 13 (U (fL (uL ps) ((uL ps).map φ),Y))=x_ at*;have eb:jz x_=U (.next ((x_.set 11 (U (.lst ((wd++rwF Z qs).map WC),Y))).set 12 (U (.int (n+6),Y)))):=by
   simp only[jz,s8,P2,P1,Uu,m2,VV,PK,en,aao,es,ef];rw[aaU _ _ (by simp only[Z0,aak];lia),<-Y2,aal _ _ _ (by lia),aae,bw (by decide),P1,aaB,aal _ _ _ (by rw[ZC];lia)]
  obtain⟨ex,d_,q1,q2,q3,q4,q5,q6,e⟩:=ll cs (wd++rwF Z qs) (n+6) ((x_.set 11 (U (.lst ((wd++rwF Z qs).map WC),Y))).set 12 (U (.int (n+6),Y))) (λd hd=>hc d (.tail _ hd)) (by simp;lia) (by rw[ZC,ZC];exact JE)
   ((bw (by decide)).trans ((bw (by decide)).trans s8)) ((bw (by decide)).trans (gV (by lia))) (gV (by rw[ZC];lia))
  refine⟨rwF Z qs++ex,d_,by simp;lia,λr hr=>?_,λd hd=>?_,by rw[q4,ZC,ZC,el],λi hi=>by rw[q5 i hi,bw (by lia),bw (by lia),ek i hi],by rw[q6,Zd],?_⟩;rcases Zr.mp hr with hr|hr;obtain⟨q,hq,rfl⟩:=ZV.mp hr;exact⟨q,hq,rfl⟩;exact q2 r hr;rcases ZZ.mp hd with rfl|hd;exact⟨φ,Z,rfl,LM,λr hr=>Y9 _ hr⟩;obtain⟨TY,TX,z1,z2,z3⟩:=q3 d hd;exact⟨TY,TX,z1,z2,λr hr=>ZI _ (z3 r hr)⟩;rw[Z1];unfold aw;rw[et,PK,eb];exact e
end
def nbO(b:Bool):Dz (U (.bl b)) (U (.bl b))=U Y:=by cases b<;>rfl
def stO(h:x=U d)(k:jP (g (q.set i (U (d,Y))))=r)(hi:Nat.blt i q.length=L:=by rfl):jP (aG (bx i x q) g)=r:=by
 subst h;rw[aal _ _ _ (Nat.le_of_ble_eq_true hi)];exact k
def stN(h:x=U (.next d))(k:jP (g d)=r):jP (aG x g)=r:=by
 subst h;exact k
def stI(h:c=U Y)(k:jP (g q)=r):jP (aG (ifO c x (aaz q)) g)=r:=by
 subst h;exact k
section
variable{rs:Z9 Row}{ps qs:Z9 Pat}{ss:Z9 (Z9 Ce)}
def en(ps:Z9 Pat)(ss:Z9 (Z9 Ce)):eqO (U (.lst (ss.map (fL (uL ps))))) (U (.lst []))=U (decide (ss=[])):=by
 rw[yU (Ft (uL ps) ss 11)];congr 1;exact Ym.mpr (by simp)
def l0:cF (U [])=U (.lst []):=aas _ (by simp)
def lr(ps qs:Z9 Pat):cF (U [bd ps qs])=U (.lst [bd ps qs]):=aas _ (by simp)
def l3(rs:Z9 Row)(ps qs:Z9 Pat):cF (U [.lst (rs.map WC),.lst (ps.map aaa),.lst (qs.map aaa)])=U (.lst [.lst (rs.map WC),.lst (ps.map aaa),.lst (qs.map aaa)]):=aas _ (by simp)
def fy(hb:bs.length=20)(h:q.length=20):(ax Y bs q).length=20:=by
 unfold ax;rw[Wf,hb,h];rfl
def last(hl:O.length=20)(r8:rd Y 8 O=U (bd ps qs))(Nt:rd Y 10 O=U (.lst (ss.map (fL (uL ps)))))(UE:rd Y 14 O=U (.lst (uu.map (fL (uL ps)))))(UD:rd Y 15 O=U (.lst ((ps.map (·.1)).map D.str)))(h2:qs.length<=2)(hu:ss.length<=5->(qs.filter λq=>decide (q.1∈ps.map (·.1)))=[]->uu=[]):jP (mN O)=U (.bl L,Y):=by
 have UQ:∀qs:Z9 Pat,okD 16 (.lst (qs.map λq=>D.str q.1))=L:=λqs=>iJ λd hd=>by obtain⟨q,_,rfl⟩:=ZV.mp hd;rfl
 simp only[mN,r8,Nt,UE,m2,aai,PK,abL,Z0,acR,l0,en];rw[aI (by rw[Z0,aak];lia),cy (f:=aaa) (h:=λq=>.str q.1) (p:=λq=>decide (q.1∈ps.map (·.1))) λq _=>by
  unfold aC;simp only[aaa,aaP,aay,aaE];rw[aac _ _ _ (by rw[fy rfl hl];decide)];simp only[PK,aay];rw[aac _ _ _ (by rw[ZC,fy rfl hl];decide)];simp only[PK,aaE,tu];rw[bw (by decide),gV (by rw[fy rfl hl];decide),bw (by decide),bw (by decide),Cq rfl UD,dF];cases decide (q.1∈ps.map (·.1))<;>rfl]
 rw[aaj,yU (UQ _),ab5,abf,abf];by_cases h6:ss.length<=5;rw[show gLe (ss.length:Int) 5=L from Zu (by lia)];by_cases h7:(qs.filter λq=>decide (q.1∈ps.map (·.1)))=[]
 rw[h7,hu h6 h7];rfl;rw[ZD λz=>h7 (List.map_eq_nil_iff.mp z)];rfl;rw[show gLe (ss.length:Int) 5=Y from ZD (by lia)];rfl
def At{tt:Z9 (Z9 Ce)}(r5:rd Y 5 q=U (.lst (rs.map WC)))(r7:rd Y 7 q=U (.lst (ps.map aaa)))(r8:rd Y 8 q=U (bd ps qs))(Nt:rd Y 10 q=U (.lst (ss.map (fL (uL ps)))))(ef:KZ [.lst (rs.map WC),.lst (ps.map aaa)]=U (.lst (tt.map (fL (uL ps))),L))(ee:KN [.lst (rs.map WC),bd ps qs,.lst (tt.map (fL (uL ps))),.lst (ss.map (fL (uL ps)))]=U (.bl L,Y))(ek:Kb [.lst (rs.map WC),.lst [bd ps qs]]=U (.bl (decide (ss=[])),Y))(k:jP (jD q)=U (.bl L,Y)):jP (o8 q)=U (.bl L,Y):=by
 refine stI ?_ k;simp only[r5,r7,r8,Nt,VV,PK,ef,aao,ee,aat,aco,abu,YJ,ab4,lr,ek,l0,en,ab5,nbO]
end
section
variable{rs:Z9 Row}{ps qs:Z9 Pat}(E_:rs.length<=13)(h1:ps.length<=2)(h2:qs.length<=2)(h4:∀p∈ps,p.2.length<=4)(h5:∀p∈qs,p.2.length<=4){ss:Z9 (Z9 Ce)}(F:Fs (PM rs ps qs) (uL ps) ss)
include E_ h1 h2 h4 h5 F in
def tail(hl:O.length=20)(r5:rd Y 5 O=U (.lst (rs.map WC)))(r7:rd Y 7 O=U (.lst (ps.map aaa)))(r8:rd Y 8 O=U (bd ps qs))(r9:rd Y 9 O=U (.lst [.lst (rs.map WC),.lst (ps.map aaa),.lst (qs.map aaa)]))(Nt:rd Y 10 O=U (.lst (ss.map (fL (uL ps))))):jP (jD O)=U (.bl L,Y):=by
 have Tx:nA (ss.map (fL (uL ps))) M (U 5)=(ss.take 5).map (fL (uL ps)):=fJ (fL (uL ps)) ss 5;refine stO (d:=.lst (rs.map WC)) (by rw[r5];rfl) (stO (d:=.int 980000) rfl ?_ ?_) ?_
 rotate_left
 rw[ZC,hl];rfl;rw[hl];rfl;obtain⟨ex,d_,q1,q2,q3,q4,q5,q6,e5⟩:=ll h1 h2 h4 h5 (ss.take 5) rs 980000 ((O.set 11 (U (.lst (rs.map WC),Y))).set 12 (U (.int 980000,Y))) (λc hc=>by obtain⟨φ,e,_⟩:=(F.mem c).mp (XC hc);exact⟨φ,e⟩) (by simp;lia) (by rw[ZC,ZC,hl];decide) ((bw (by decide)).trans ((bw (by decide)).trans r8)) ((bw (by decide)).trans (gV (by lia))) (gV (by rw[ZC];lia));have hex:ex.length<=10:=by simp at q1;lia
 have k5:∀i,i<11->rd Y i d_=rd Y i O:=λi hi=>by rw[q5 i hi,bw (by lia),bw (by lia)]
 have IM:d_.length=20:=by rw[q4,ZC,ZC,hl]
 obtain⟨fs,f1,f2,f3⟩:=gC (rs:=rs++ex) (by simp;lia);obtain⟨uu,Uq,ul,eu,eku⟩:=dH (rs:=fs) (by simp at f2;lia) h1 h2 h4 h5;have Mp:∀c∈uu,c∉ss.take 5:=λc hc hs=>by
  obtain⟨φ,Z,rfl,LM,JB⟩:=q3 c hs;obtain⟨χ,e,NW⟩:=(Uq.mem _).mp hc;exact(si e.symm NW).2 ⟨Z,LM,t9 λr hr=>(f1 r).mpr (ZI _ (JB r hr))⟩
 refine stN (d:=d_) (by rw[bw (by decide),bw (by decide),Nt,aa0,aa2,Tx,aai,PK];exact e5) ?_;refine stO (d:=.lst (uu.map (fL (uL ps)))) (by simp only[q6,k5 8 (by decide),r8,VV,PK,f3,aao,eu]) ?_ (by rw[IM];rfl);have g:∀i,i<11->rd Y i (d_.set 14 (U (.lst (uu.map (fL (uL ps))),Y)))=rd Y i O:=λi hi=>(bw (by lia)).trans (k5 i hi);have g11:rd Y 11 (d_.set 14 (U (.lst (uu.map (fL (uL ps))),Y)))=_:=(bw (by decide)).trans q6;have Ts:rd Y 14 (d_.set 14 (U (.lst (uu.map (fL (uL ps))),Y)))=_:=gV (by lia);have Lh:(d_.set 14 (U (.lst (uu.map (fL (uL ps))),Y))).length=20:=by rw[ZC];exact IM
 generalize d_.set 14 (U (.lst (uu.map (fL (uL ps))),Y))=OR at*;have i7:=(g 7 (by decide)).trans r7;have i8:=(g 8 (by decide)).trans r8;have Sr:=(g 10 (by decide)).trans Nt;refine stI (by
  simp only[oB,Ts,aai,PK];rw[aI (by rw[Z0,aak];lia),cy (f:=fL (uL ps)) (h:=fL (uL ps)) (p:=λ_=>Y) λc hc=>by
   unfold aC;rw[aac _ _ _ (by rw[fy rfl Lh];decide),PK];dsimp only;rw[gV (by rw[fy rfl Lh];decide),bw (by decide),Cq rfl Sr,aa0,aa2,Tx,Cc (Uq.len c hc) (λx hx=>F.len x (XC hx)),ZD (Mp c hc)];rfl,WA.mpr λ_ _=>Zl,YT,aaj,l0,lW (show okD 16 (.lst [])=L from rfl),g11,i8]
  simp only[VV,PK,f3,aao,lr,eku,aat,en,ab5,nbO,ab4]) ?_
 have UR:okD 16 (.lst [.lst (rs.map WC),.lst (ps.map aaa),.lst (qs.map aaa)])=L:=by
  have a:okD 15 (.lst (rs.map WC))=L:=vZ 11 rs;have b:∀ps:Z9 Pat,okD 15 (.lst (ps.map aaa))=L:=zL 11;unfold okD;rw[jR,jR,jR,a,b,b];rfl
 refine stI (by
  rw[g 5 (by decide),r5,i7,i8,g 9 (by decide),r9];simp only[m2,VV,l3];exact lW UR) ?_
 refine stO (d:=.lst ((ps.map (·.1)).map D.str)) (by
  rw[i7,aai,PK,aI (by rw[Z0,aak];lia),aX (f:=aaa) (h:=λp=>.str p.1) λp _=>by
   unfold aC;simp only[aaa,aaP,aay,aaE];rw[aac _ _ _ (by rw[fy rfl Lh];decide)];simp only[PK,aay];rw[aac _ _ _ (by rw[ZC,fy rfl Lh];decide)];simp only[PK,aaE,tV];rw[bw (by decide),gV (by rw[fy rfl Lh];decide)],aaj]
  simp) ?_ (by rw[Lh];rfl)
 refine last (uu:=uu) (by rw[ZC,Lh]) ((bw (by decide)).trans i8) ((bw (by decide)).trans Sr) ((bw (by decide)).trans Ts) (gV (by rw[Lh];decide)) h2 λh6 h7=>?_;refine Xg.mpr λc hc=>?_;obtain⟨φ,rfl,IE⟩:=(Uq.mem c).mp hc;have k:∀p∈ps,gU rs φ p:=λp hp=>by
  obtain⟨r,hr,z1,z2⟩:=IE.1 p hp;rcases Zr.mp ((f1 r).mp hr)with hr|hr;exact⟨r,hr,z1,z2⟩;obtain⟨q,hq,z⟩:=q2 r hr;have:=WA.mp h7 q hq;exact absurd (Zu (ZV.mpr ⟨p,hp,by rw[<-z1,z]⟩)) this
 have:=(F.mem _).mpr ⟨φ,rfl,tx (λr hr=>(f1 r).mpr (Y9 _ hr)) k IE⟩;exact Mp _ hc (by rw[YN h6];exact this)
end
def pure(ns:Z9 Int)(hn:ns.length<=63):f_law [.lst (ns.map D.int)]=U (.bl L,Y):=by
 have ec:nA (ns.map D.int) M (U 12)=(ns.take 12).map D.int:=fJ D.int ns 12;have hk:(ns.take 12).length<=12:=by simp;lia
 generalize Py:ns.take 12=cs at ec hk;generalize Rq:cs.sum%1000003=Jf;have t0:0<=Jf/\Jf<1000003:=by lia
 obtain⟨ws,st,sp,w1,w2,w3,w4,w5,ew⟩:=vF Jf;obtain⟨ls,hl,el⟩:=qm Jf;obtain⟨g,eg,gl,gp⟩:=de (ds:=(cs++[Jf]).map D.int) (P:=λ_ y=>∃r:Row,r.2.length<=3/\y=WC r)
  (h:=aC (af 19) (λO=>U L) mG [M,M,M,U (br ws st sp,Y),M,M,M,M,M,M,M,M,M,M,M,M,M,M,M,M]) λd hd=>by
   obtain⟨c,_,rfl⟩:=ZV.mp hd;obtain⟨r,hr,er⟩:=Dl w1 w2 w3 w4 w5 c;exact⟨WC r,by simp[aC,mG,er],r,hr,rfl⟩
 obtain⟨P5,rfl,Vh⟩:=lP (F:=WC) (Q:=λr=>r.2.length<=3) gl gp λd y hz=>by obtain⟨e,a,b⟩:=hz;exact⟨e,b,a⟩
 rw[Z0,Z0,Zz,List.length_singleton]at gl;obtain⟨rs,Sj,lrs,ers⟩:=xD P5 (by lia);have E_:rs.length<=13:=by lia
 have y_:rs≠[]:=λz=>by
  have hq:P5≠[]:=λe=>by rw[e]at gl;simp at gl
  obtain⟨q,hq⟩:=List.exists_mem_of_ne_nil _ hq;have:=(Sj q).mpr hq;rw[z]at this;cases this
 have h3r:∀r∈rs,r.2.length<=3:=λr hr=>Vh r ((Sj r).mp hr);have m30:=aS Jf 30;generalize Vs:1+dZ Jf 30%2=mn;have hmn1:1<=mn/\mn<=2:=by lia
 obtain⟨gb,ebd,bl,bp⟩:=de (ds:=fF 0 mn.toNat) (P:=λ_ y=>∃p:Pat,p.2.length<=4/\y=aaa p)
  (h:=aC (af 16) (λO=>U L) mC [M,M,U (.int Jf,Y),M,U (.lst (ls.map .str),Y),U (.lst (rs.map WC),Y),M,M,M,M,M,M,M,M,M,M,M,M,M,M]) λd hd=>by
   obtain⟨i,hi,rfl⟩:=bY hd;obtain⟨p,hp,ep⟩:=pV hl y_ (by lia) h3r (Jf*5+(0+(i:Int)));refine⟨aaa p,?_,p,hp,rfl⟩;unfold aC;rw[aac _ _ _ (by simp)];simp only[PK,bq,bj,mC,aah,aaf,aa5 Jf 5 (by lia),aaB,VV,ep,aat]
 obtain⟨ps,rfl,h4⟩:=lP (F:=aaa) (Q:=λp=>p.2.length<=4) bl bp λd y hz=>by obtain⟨e,a,b⟩:=hz;exact⟨e,b,a⟩
 rw[Z0,aL]at bl;have h1:ps.length<=2:=by lia
 obtain⟨Nu,SH,Vk,eh⟩:=Ax (st:=st) (sp:=sp) w1 hl Jf;have eq:nA (Nu.map aaa) M (U (3 - mn))=(Nu.take (3 - mn).toNat).map aaa:=by
  have:=fJ aaa Nu (3 - mn).toNat;rwa[We (by lia)]at this
 have h5:∀q∈Nu.take (3 - mn).toNat,q.2.length<=4:=λq hq=>Vk q (XC hq);have h2:(Nu.take (3 - mn).toNat).length<=2:=by simp;lia
 generalize Nu.take (3 - mn).toNat=qs at eq h5 h2;obtain⟨ss,F,sl,eb,ek⟩:=dH (rs:=rs) (by lia) h1 h2 h4 h5;obtain⟨tt,G,tl,ef⟩:=Bg (rs:=rs) (by lia) h1 h4;have ee:=A7 h1 h2 h4 h5 F G (by lia);rw[au (f:=f_law) (d:=[U (.lst (ns.map D.int),Y),M,M,M,M,M,M,M,M,M,M,M,M,M,M,M,M,M,M,M]) rfl rfl rfl];have ea:cs.map D.int++[D.int Jf]=(cs++[Jf]).map D.int:=by simp
 have t3:dO (U [.str "must",.lst (ps.map aaa),.lst (qs.map aaa)])=U (bd ps qs):=aax _ (by simp);refine stO (d:=D.lst (cs.map D.int)) (by show U (D.lst (nA (ns.map D.int) M (U 12)))=_;rw[ec]) ?_;refine stO (d:=D.int Jf) (by show dv (Bo (U (D.lst (cs.map D.int)))) (U (D.int 1000003))=_;rw[Ca,aap _ _ (by lia),Rq]) ?_;refine stO (d:=br ws st sp) (by show shO (KU [D.int Jf])=_;rw[ew];rfl) ?_;refine stO (d:=D.lst (ls.map D.str)) (by show frO (KS [D.int Jf])=_;rw[el];rfl) ?_;refine stO (d:=D.lst (rs.map WC)) (by
  show frO (ae (aa (am (ae (b9 (lO (U (D.lst (cs.map D.int))) (cF (U [D.int Jf])))) (bL _ _ _ _ _ _))) _) _)=_;rw[aas _ (by simp),aaU _ _ (by simp only[Z0,List.length_singleton,aak];lia),ea,aai,PK,aI (by rw[Z0,Zz,List.length_singleton,aak];lia)];refine Eq.trans (congrArg (λz=>frO (ae (aa (am z) _) _)) eg) ?_;show frO (KP [D.lst (P5.map WC)])=_;rw[ers];rfl) ?_
 refine stO (d:=D.int mn) (by show eL (U (D.int 1)) (dv (shO (o_ [D.int Jf,D.int 30])) (U (D.int 2)))=_;rw[bt Jf 30 (by lia) (by lia),aat,aap _ _ (by lia),aaB,Vs]) ?_;refine stN (d:=List.set _ 7 (U (D.lst (ps.map aaa),L))) (by
  show eM 7 (am (ae (oH (U (D.int mn))) (bL _ _ _ _ _ _))) _=_;rw[eB mn (by lia),PK,aI (by rw[aL,aak];lia)];exact Eq.trans (congrArg (λz=>eM 7 (am z) _) ebd) (aaA _ _ _ (Nat.le_of_ble_eq_true rfl))) ?_
 refine stO (d:=bd ps qs) (by show dO (aa _ (aa _ (aa (g9 (frO (KO [br ws st sp,D.lst (ls.map D.str),D.int Jf])) (U M) (eQ (U (D.int (3 - mn))))) _)))=_;rw[eh,aao,aa0,aa2,eq];exact t3) ?_;refine stO (d:=D.lst [D.lst (rs.map WC),D.lst (ps.map aaa),D.lst (qs.map aaa)]) (l3 rs ps qs) ?_;refine stO (d:=D.lst (ss.map (fL (uL ps)))) (by show frO (Ju [D.lst (rs.map WC),bd ps qs])=_;rw[eb];rfl) ?_;refine At ?_ ?_ ?_ ?_ ef ee ek (tail E_ h1 h2 h4 h5 F ?_ ?_ ?_ ?_ ?_ ?_)<;>rfl
end K34
theorem PySem.Challenge.cw_mustrows_k34_whole_mended_holds : PySem.Challenge.rw_mustrows_k34_whole_mended.Holds := by
 letI:L2.Lams:=⟨[(62,"search_order.<locals>.<lambda>")]⟩
 refine PySem.W.holds_law K34.hl1 fun said=>?_
 refine PySem.W.holds_open (d:=PySem.DefRec.mk "law" (L2.defArgs K34.s_law) (L2.defBody K34.s_law) (L2.defScope K34.s_law) K34.s_law.pos) (kwd:=[]) (q:=PySem.W.view PySem.Challenge.pw_mustrows_k34_whole_mended Ea) (loose:=[]) (Xt:=fun _=>true) (XP:=fun _ _=>True) (Yf:=L2.YfH K34.defsK K34.blK [("search_order",64)]) (Ya:=L2.YaH K34.defsK K34.blK [("search_order",64)]) (YP:=L2.YH K34.defsK K34.blK [("search_order",64)]) (N:=2000) ?hl L2.yh_of L2.yh_keeps (fun _ _=>trivial) (fun _ _ _ _ _=>trivial) (by kernel_rfl) (by kernel_rfl) (by kernel_rfl) (fun s _=>PySem.W.recFacts_of (by kernel_rfl)) (by kernel_rfl) said K34.hl7 ⟨rfl,rfl,rfl,rfl,rfl,by decide +kernel⟩ ?hw ?hc
 case hl=>exact K34.hl0
 case hw=>w_witness2
 case hc=>
  refine L2.walk_H (l:=PySem.Challenge.rw_mustrows_k34_whole_mended) (n:=63) (k:=10) (x:="_law_script") (CX:=L2.CX0) (sp:=fun K=>L2.spM K K34.f_law) rfl (by decide) rfl ⟨rfl,by decide,by decide⟩ rfl (fun w mg fa h K S L X G hmg=>K34.all_mk S X G hmg (.head _) (L2.map_mem L.1 (.head _))) (fun K H a ns hl hO hS=>L2.spM_law hS (K34.pure ns hl)) (fun _ _ _ _ h=>h) (fun q hq r hr _=>by rw[List.mem_singleton.mp hq,List.mem_singleton.mp hr])
